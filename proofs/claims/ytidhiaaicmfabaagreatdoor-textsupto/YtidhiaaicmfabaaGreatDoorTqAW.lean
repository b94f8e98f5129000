/- Texts (its parts, joined). -/
import Derived.Test.YtidhiaaicmfabaaGreatDoorTqAU
import Derived.Test.YtidhiaaicmfabaaGreatDoorTqAV
open List renaming length_append→z0,length_cons→z2,length_nil→z3,not_mem_nil→z4,mem_cons→z5,append_assoc→z6,getElem?_eq_getElem→z7,getElem?_append_right→z8,getElem?_append_left→y0,mem_append→y1,mem_of_getElem?→y3,flatten_append→y4,map_append→y6
open Array renaming getElem?_eq_some_iff→z1
open Nat renaming le_refl→z9,add_sub_cancel_left→y2,zero_le→y7
namespace Go.Proofs.YtidhiaaicmfabaaGreatDoor
open Go.RowKit Go.Proofs Go.Deep
set_option maxRecDepth 100000
set_option maxHeartbeats 4000000
open Below renaming heap_alloc→y5
def A2V (a l:List Int):BA:=ba (mkB++u8L (A3s a l))
def mkI:List Int:=[83,76,85,73,67,69]
theorem B2C (a l:List Int):A2V a l=R9 ((mkI++[(a.length:Int)])++a++(two l.length++l)):=by have e:mkB++u8L (A3s a l)=u8L ((mkI++[(a.length:Int)])++a++(two l.length++l)):=(by have e:mkB=u8L mkI:=(by decide);rw[e];unfold u8L A3s;simp only[y6,List.map_cons,z6,List.cons_append,List.nil_append]);unfold A2V R9;rw[e]
theorem A7G (a b:List Int):(R9 (a++b)).extract a.length (a.length+b.length)=R9 b:=by unfold R9;rw[A4u];unfold u8L;rw[y6,List.drop_left' (by simp),y2,List.take_of_length_le (by simp)]
structure C0o (cs l:List Int)(s:BA):Prop where
 size:s.size=9+cs.length+l.length
 nc:bt s 6=cs.length
 cell:∀i n,cs[i]? =some n→bt s (7+i)=n.toNat
 len:b16 s (7+cs.length)=l.length
 code:A3 s=R9 l
 mark:(s.extract 0 6).toList=[83,76,85,73,67,69]
theorem A5R (a l:List Int)(o:a.length≤100)(f:∀n∈a,0≤n∧n≤8)(m:l.length≤8000):C0o a l (A2V a l):=by
 rw[B2C];have d:(R9 ((mkI++[(a.length:Int)])++a++(two l.length++l))).size=9+a.length+l.length:=(by rw[A28];simp only[z0,A1p,z2,z3,mkI];omega);have g:bt (R9 ((mkI++[(a.length:Int)])++a++(two l.length++l))) 6=a.length:=(by refine (V9 (n:=(a.length:Int)) ?_ (by omega)).trans (by omega);rw[y0 (by simp[mkI]),y0 (by simp[mkI])];rfl);have b:(mkI++[(a.length:Int)]).length=7:=rfl;have c:∀i n,(two l.length++l)[i]? =some n→0≤n∧n≤255→bt (R9 ((mkI++[(a.length:Int)])++a++(two l.length++l))) (7+a.length+i)=n.toNat:=fun i n hi h=>by refine V9 ?_ h;rw[z8 (by simp[mkI];omega)];simp only[z0,b,y2];exact hi
 refine⟨d,g,fun i n hi=>?_,?_,?_,?_⟩
 ·have h:=f n (y3 hi);refine V9 ?_ (by omega);have j:=(List.getElem?_eq_some_iff.1 hi).1;rw[y0 (by rw[z0,b];omega),z8 (by rw[b];omega),b,y2];exact hi
 ·unfold b16;rw[show 7+a.length=7+a.length+0 by omega,c 0 _ (by rfl) (by omega),show 7+a.length+0+1=7+a.length+1 by omega,c 1 _ (by rfl) (by omega)];omega
 ·unfold A3;rw[g,d];have e:((mkI++[(a.length:Int)])++a++(two l.length++l))=((mkI++[(a.length:Int)])++a++two l.length)++l:=(by simp only[z6]);have k:((mkI++[(a.length:Int)])++a++two l.length).length=9+a.length:=(by simp only[z0,b,A1p];omega);rw[e,←k];exact A7G _ _
 ·have e:(R9 ((mkI++[(a.length:Int)])++a++(two l.length++l))).extract 0 6=ba (u8L mkI):=(by unfold R9;rw[A4u];simp only[u8L,z6,y6,List.drop_zero,Nat.sub_zero];rw[List.take_left' (by rfl)]);rw[e,ByteArray.toList_eq];decide
def A4i (rl d:Nat→Int)(c:Nat):Cd→Prop
 |.nil=>True
 |.one x=>A07 rl d c (oc x) (Z2 (R9 x) 0) (U1 (R9 x) 0)
 |.seq a b=>A4i rl d c a∧A4i rl d c b
 |.ite t e _=>A4i rl d c t∧A4i rl d c e
 |.rep _ b=>A4i rl d c b
theorem A26 (rl b:Nat→Int)(a n c:Nat)(N:Int)(d:n=17∨n=18∨n=20∨n=0):A07 rl b a n c N:=⟨fun h=>by omega,fun h=>by omega⟩
theorem A15 {rl g:Nat→Int}{f:Nat}:∀(c:Cd) (p:Nat),wfC c→A4i rl g f c→∀x∈D4 p c,A07 rl g f (oc x) (Z2 (R9 x) 0) (U1 (R9 x) 0)
 |.nil,_,_,_,x,d=>by simp[D4] at d
 |.one y,_,_,h,x,d=>by
  simp only[D4,z5,z4,or_false] at d;subst d;exact h
 |.seq a b,p,hw,h,x,d=>by
  simp only[D4,y1] at d;rcases d with d|d
  ·exact A15 a _ hw.1 h.1 x d
  ·exact A15 b _ hw.2 h.2 x d
 |.ite t e j,p,hw,h,x,d=>by
  simp only[D4,y1] at d;rcases d with ((d|d)|d)|d
  ·simp only[z5,z4,or_false] at d;subst d;exact A26 _ _ _ _ _ _ (.inr (.inl rfl))
  ·exact A15 t _ hw.1 h.1 x d
  ·cases j
   ·simp at d
   ·simp only[if_true,z5,z4,or_false] at d;subst d;exact A26 _ _ _ _ _ _ (.inl rfl)
  ·exact A15 e _ hw.2.1 h.2 x d
 |.rep n b,p,hw,h,x,d=>by
  simp only[D4,y1] at d;rcases d with (d|d)|d
  ·simp only[z5,z4,or_false] at d;subst d;refine⟨fun h=>?_,fun _=>?_⟩
   ·have e:oc (19::two n)=19:=rfl;omega
   ·rw[(A0B 19 n (by omega) hw.1.2).1];have:=hw.1.1;omega
  ·exact A15 b _ hw.2 h x d
  ·simp only[z5,z4,or_false] at d;subst d;exact A26 _ _ _ _ _ _ (by decide)
def X1 (c:Cd):List (List Int):=D4 0 c++[[0]]
theorem A1x (c:Cd):(X1 c).length=nI c+1:=by simp[X1,Q4]
theorem A4q (c:Cd):(X1 c).flatten.length=V7 c+1:=by simp only[X1,y4,z0,V0];rfl
theorem B3d {c:Cd}(h:wfC c):∀x∈X1 c,okX x:=by
 intro x a;simp only[X1,y1,z5,z4,or_false] at a;rcases a with a|rfl
 ·exact A2i c 0 h x a
 ·exact B34
theorem B7C (c:Cd):Sg (X1 c) 0 0 (D4 0 c):=⟨[],[[0]],rfl,rfl,rfl⟩
theorem B4G (c:Cd):(X1 c)[nI c]? =some [0]:=by unfold X1;rw[z8 (by rw[Q4];exact z9 _),Q4,Nat.sub_self];rfl
theorem A5C {W:List (List Int)}(h:∀x∈W,okX x){a b:Nat}(g:a<b)(i:b≤W.length):(W.take a).flatten.length<(W.take b).flatten.length:=by have e:W.take b=W.take a++(W.drop a).take (b-a):=(by rw[←List.take_add];congr 1;omega);have c:a<W.length:=(by omega);rw[e,y4,z0];have f:(W.drop a).take (b-a)=W[a]::((W.drop (a+1)).take (b-a-1)):=(by rw[List.drop_eq_getElem_cons c];obtain⟨m,d⟩:∃m,b-a=m+1:=⟨b-a-1,by omega⟩;rw[d];rfl);rw[f,List.flatten_cons,z0];have:=(h _ (List.getElem_mem c)).1;omega
theorem A9w:∀(W:List (List Int)),(∀x∈W,okX x)→W.length≤W.flatten.length
 |[],_=>by simp
 |x::r,h=>by
  have b:=(h x (by simp)).1;have c:=A9w r (fun y a=>h y (by simp[a]));simp only[z2,List.flatten_cons,z0];omega
theorem B1U {op:Nat→Nat}{k t:Nat}{s:List Nat}(a:X5 op k=some s)(b:X5 op t=some s):O8 op t=O8 op k:=by unfold O8;rw[a,b]
theorem B5Z {at_:Nat→Nat}{n t:Nat}{v:Int}(b:t<n)(c:(at_ t:Int)=v)(d:∀j,j<t→(at_ j:Int)≠v):tgt at_ n v=t:=by unfold tgt;rw[List.findIdx_eq (by simpa using b)];refine⟨by simpa using c,fun j a=>?_⟩;have:=d j a;simpa using this
theorem B5F {c:Cd}(n:wfC c)(p:V7 c≤65534):Wk (X1 c) (S7 (R9 (X1 c).flatten) (X4 0 (X1 c))) (nL (R9 (X1 c).flatten) (X4 0 (X1 c))) (toL (atL (X4 0 (X1 c))) (S7 (R9 (X1 c).flatten) (X4 0 (X1 c))) (nL (R9 (X1 c).flatten) (X4 0 (X1 c))) (nI c+1)) (nI c+1):=by
 have a:=B3d n;have b:∀k,k<nI c+1→atL (X4 0 (X1 c)) k=((X1 c).take k).flatten.length:=fun k d=>by have g:k<(X1 c).length:=(by rw[A1x];exact d);exact (B1W a (z7 g)).1
 refine⟨fun k x e=>(B1W a e).2.1,fun k x e=>(B1W a e).2.2.2.2.2,by rw[A4q];omega,A1x c,fun k t d h i l=>?_,fun k f s d i o=>?_⟩
 ·unfold toL;rw[if_neg (by omega)];refine B5Z h (by rw[b t h,l]) (fun j m=>?_);rw[b j (by omega),l];have:=A5C a m (by rw[A1x];omega);omega
 ·unfold toL;rw[if_pos i];unfold O8;rw[o];rfl
theorem B18 {a:List Int}{c:Cd}(M:a.length≤100)(u:∀n∈a,0≤n∧n≤8)(o:wfC c)(hz:V7 c≤7999)(x:fdC c≤10)(S:htC c 0=some 0)(hb:H9 c≤1099511627776)(v:A4i (A2k (A2V a (X1 c).flatten)) (A2w (A2V a (X1 c).flatten)) a.length c):A1H (A2V a (X1 c).flatten) ((H9 c+1:Nat):Int)∧U2 (A3 (A2V a (X1 c).flatten)) ((A3 (A2V a (X1 c).flatten)).size+1) 0=some (X4 0 (X1 c)):=by
 have F:=A5R a (X1 c).flatten M u (by rw[A4q];omega);have b:=B3d o;have d:=B5F o (by omega);have r:U2 (A3 (A2V a (X1 c).flatten)) ((A3 (A2V a (X1 c).flatten)).size+1) 0=some (X4 0 (X1 c)):=(by rw[F.code,A28];have:=B2X (X1 c) [] ((X1 c).flatten.length-(X1 c).length) b;have U:=A9w _ b;rw[show (X1 c).length+((X1 c).flatten.length-(X1 c).length)+1=(X1 c).flatten.length+1 by omega] at this;simpa using this);refine⟨⟨⟨?_,F.mark,?_,?_⟩,?_,⟨?_,?_⟩,X4 0 (X1 c),r,?_⟩,r⟩
 ·rw[F.size];omega
 ·rw[F.nc];exact M
 ·rw[F.nc,F.size];omega
 ·intro i hi;rw[F.nc] at hi;have I:=z7 hi;have:=u _ (y3 I);rw[F.cell i _ I];omega
 ·rw[F.nc,F.size,F.len];omega
 ·rw[F.nc,F.len,A4q];omega
 ·rw[F.code,F.nc];obtain⟨op,f⟩:∃op,op=S7 (R9 (X1 c).flatten) (X4 0 (X1 c)):=⟨_,rfl⟩;obtain⟨N,z⟩:∃N,N=nL (R9 (X1 c).flatten) (X4 0 (X1 c)):=⟨_,rfl⟩;have q:∀k,k<nI c+1→atL (X4 0 (X1 c)) k=((X1 c).take k).flatten.length:=fun k R=>by have y:k<(X1 c).length:=(by rw[A1x];exact R);exact (B1W b (z7 y)).1
  have g:(X4 0 (X1 c)).length=nI c+1:=(by rw[A7t,A1x]);unfold A8p;rw[g,←f,←z];rw[←f,←z] at d;have l:=B7C c;have C:X5 op 0=some []:=rfl;have H:=Z8 d.hop c 0 0 [] o l C (by simpa using x);rw[Nat.zero_add] at H;have K:op (nI c)=0:=d.hop _ _ (B4G c);have V:=T0 H (by omega) (by omega);refine⟨fun e=>?_,fun i hi=>?_,V,fun i hi p=>?_,?_⟩
  ·rw[e] at g;simp at g
  ·have hi':i<(X1 c).length:=(by rw[A1x];exact hi);have J:=z7 hi';have B:=B1W b J;have m:=y3 J;rw[f,B.2.1,B.2.2.2.2.1,z,B.2.2.2.2.2];simp only[X1,y1,z5,z4,or_false] at m;rcases m with m|m
   ·exact A15 c 0 o v _ m
   ·have:(X1 c)[i]=[0]:=m;rw[this];exact A26 _ _ _ _ _ _ (by decide)
  ·have P:i<nI c:=by
    rcases Nat.lt_or_ge i (nI c) with h|h
    ·exact h
    ·have:i=nI c:=(by omega);subst this;rw[K] at p;rcases p with p|p<;>omega
   obtain⟨t,s,Y,t2,E,Z,O⟩:=A3g d.hop d.hN d.hz c 0 0 [] o l C (by simpa using x) i (by omega) (by omega) p;refine⟨t,?_,Y,by omega,B1U Z O,fun j A=>?_⟩
   ·rw[q t (by omega),E]
   ·rw[q j (by omega),E];have:=A5C b A (by rw[A1x];omega);omega
  ·obtain⟨H',T,Q,G,D,_⟩:=A35 d c 0 0 0 0 H0 L0 [] o l (by omega) C (by simpa using x) S (by omega) rfl (by decide) (by show (0:Int)+_≤_;omega) (fun j j1 _=>⟨by show (if j=0 then (0:Int) else -1)<0;rw[if_neg (by omega)];omega,rfl⟩) (by
    by_cases e:0+nI c=0
    ·exact .inr (by rw[e];rfl)
    ·exact .inl (by show (if 0+nI c=0 then (0:Int) else -1)<0;rw[if_neg e];omega)) (Int.le_refl 0)
   have L:=Q 1;rw[Nat.zero_add] at G D L;have X:T (nI c)=(H9 c:Int):=(by rw[D];show max (0:Int) (0+(H9 c:Int))=_;omega);rw[L,P7,if_pos K,if_pos ⟨G,rfl⟩,X];exact congrArg some (by omega)
def cdE (vs:List Vd):Ex→Cd
 |.lit n=>.one (K9 n)
 |.tru b=>.one (K9 (if b then 1 else 0))
 |.plc s=>.one [2,B3 vs 0 s]
 |.idx s i=>.seq (cdE vs i) (.one [4,B3 vs 0 s,P9 vs s])
 |.bin o l r=>.seq (.seq (.seq (cdE vs l) (cdE vs r)) (.one [(opI o:Int)])) (if kE vs (.bin o l r)=1 then .one [16] else .nil)
 |.neg e=>.seq (cdE vs e) (.one [13])
 |.sho e=>.seq (cdE vs e) (.one [16])
 |.dly t a s=>.seq (.seq (cdE vs a) (cdE vs s)) (.one [21,B3 vs 0 t])
theorem P0 (vs:List Vd):∀(e:Ex) (p:Nat),(D4 p (cdE vs e)).flatten=C4 vs e
 |.lit _,_=>by simp[cdE,D4,C4]
 |.tru _,_=>by simp[cdE,D4,C4]
 |.plc _,_=>by simp[cdE,D4,C4]
 |.idx s i,p=>by simp[cdE,D4,C4,P0 vs i]
 |.bin o l r,p=>by
  simp only[cdE,D4,C4,y4,P0 vs l,P0 vs r];by_cases h:kE vs (.bin o l r)=1
  ·simp[h,D4]
  ·simp[h,D4]
 |.neg e,p=>by simp[cdE,D4,C4,P0 vs e]
 |.sho e,p=>by simp[cdE,D4,C4,P0 vs e]
 |.dly t a s,p=>by simp[cdE,D4,C4,P0 vs a,P0 vs s]
theorem A8t (vs:List Vd)(e:Ex):V7 (cdE vs e)=(C4 vs e).length:=by rw[←P0 vs e 0,V0]
theorem A0w (vs:List Vd):∀e:Ex,fdC (cdE vs e)=0
 |.lit _=>rfl
 |.tru _=>rfl
 |.plc _=>rfl
 |.idx s i=>by simp[cdE,fdC,A0w vs i]
 |.bin o l r=>by
  simp only[cdE,fdC,A0w vs l,A0w vs r];by_cases h:kE vs (.bin o l r)=1
  ·simp[h,fdC]
  ·simp[h,fdC]
 |.neg e=>by simp[cdE,fdC,A0w vs e]
 |.sho e=>by simp[cdE,fdC,A0w vs e]
 |.dly t a s=>by simp[cdE,fdC,A0w vs a,A0w vs s]
def byt (n:Int):Prop:=0≤n∧n≤255
def okE (rl c:Nat→Int)(b:Nat)(vs:List Vd):Ex→Prop
 |.lit _=>True
 |.tru _=>True
 |.plc s=>byt (B3 vs 0 s)∧(B3 vs 0 s).toNat+1≤b
 |.idx s i=>okE rl c b vs i∧byt (B3 vs 0 s)∧byt (P9 vs s)∧A0S rl c b 4 (B3 vs 0 s).toNat (P9 vs s).toNat
 |.bin o l r=>o<9∧okE rl c b vs l∧okE rl c b vs r
 |.neg e=>okE rl c b vs e
 |.sho e=>okE rl c b vs e
 |.dly t a s=>okE rl c b vs a∧okE rl c b vs s∧byt (B3 vs 0 t)∧A0S rl c b 21 (B3 vs 0 t).toNat 1
theorem B1E:∀o,o<9→opI o=6∨opI o=7∨opI o=8∨opI o=9∨opI o=10∨opI o=11∨opI o=12∨opI o=14∨opI o=15:=by decide
theorem B4O (n:Int):∀m∈K9 n,0≤m∧m≤255:=by intro m a;simp only[K9,z5,z4,or_false] at a;omega
theorem A2C (n:Int):A2R (K9 n):=⟨⟨by simp[K9],rfl,B4O n⟩,fun h=>(by cases h),fun h=>(by cases h),fun h=>(by cases h),fun h=>(by cases h),fun h=>(by cases h)⟩
theorem A1O {o a:Int}(c:o=2∨o=3∨o=21)(d:byt a):A2R [o,a]:=by
 refine⟨⟨by simp,by rcases c with rfl|rfl|rfl<;>rfl,fun n b=>?_⟩,?_⟩
 ·simp only[z5,z4,or_false] at b;unfold byt at d;omega
 ·have e:oc [o,a]=o.toNat:=rfl;rw[e];omega
theorem A7J {o a b:Int}(f:o=4∨o=5)(g:byt a)(c:byt b):A2R [o,a,b]:=by
 refine⟨⟨by simp,by rcases f with rfl|rfl<;>rfl,fun n d=>?_⟩,?_⟩
 ·simp only[z5,z4,or_false] at d;unfold byt at g c;omega
 ·have e:oc [o,a,b]=o.toNat:=rfl;rw[e];omega
theorem A2E {o:Nat}(b:(6≤o∧o≤16)):A2R [(o:Int)]:=by
 have e:oc [(o:Int)]=o:=(by simp[oc]);refine⟨⟨by simp,?_,fun n a=>?_⟩,?_⟩
 ·show osz (oc [(o:Int)])=1;rw[e];unfold osz;rw[if_neg (by omega),if_neg (by omega),if_neg (by omega),if_neg (by omega)]
 ·simp only[z5,z4,or_false] at a;omega
 ·rw[e];omega
theorem B8n {o:Nat}(a:o<9):A2R [(opI o:Int)]:=A2E (by have:=B1E o a;omega)
theorem B48:A2R [16]:=A2E (o:=16) (by omega)
theorem B8Y:A2R [13]:=A2E (o:=13) (by omega)
theorem Z5 {rl d:Nat→Int}{c:Nat}{vs:List Vd}:∀e:Ex,okE rl d c vs e→wfC (cdE vs e)
 |.lit n,_=>A2C n
 |.tru _,_=>A2C _
 |.plc s,h=>A1O (by omega) h.1
 |.idx s i,h=>⟨Z5 i h.1,A7J (by omega) h.2.1 h.2.2.1⟩
 |.bin o l r,h=>⟨⟨⟨Z5 l h.2.1,Z5 r h.2.2⟩,B8n h.1⟩,by
  by_cases b:kE vs (.bin o l r)=1
  ·rw[if_pos b];exact B48
  ·rw[if_neg b];trivial⟩
 |.neg e,h=>⟨Z5 e h,B8Y⟩
 |.sho e,h=>⟨Z5 e h,B48⟩
 |.dly t a s,h=>⟨⟨Z5 a h.1,Z5 s h.2.1⟩,A1O (by omega) h.2.2.1⟩
theorem M6 {rl b:Nat→Int}{a o c:Nat}{N:Int}(h:o=1∨(6≤o∧o≤16)):A07 rl b a o c N:=⟨fun h=>by omega,fun h=>by omega⟩
theorem cN2 {o a:Int}(b:o=2∨o=3∨o=21)(c:byt a):oc [o,a]=o.toNat∧Z2 (R9 [o,a]) 0=a.toNat∧U1 (R9 [o,a]) 0=1∧A4C (R9 [o,a]) 0=a:=by
 have e:bt (R9 [o,a]) 0=o.toNat:=V9 (n:=o) rfl (by omega);have d:bt (R9 [o,a]) (0+1)=a.toNat:=V9 (n:=a) rfl c;unfold Z2 U1 A4C byt at*;rw[e,d];refine⟨rfl,?_,?_,?_⟩
 ·rcases b with rfl|rfl|rfl<;>rfl
 ·rcases b with rfl|rfl|rfl<;>rfl
 ·rcases b with rfl|rfl|rfl<;>(show ((a.toNat:Nat):Int)=a)<;>omega
theorem cN3 {o a b:Int}(c:o=4∨o=5)(e:byt a)(d:byt b):oc [o,a,b]=o.toNat∧Z2 (R9 [o,a,b]) 0=a.toNat∧U1 (R9 [o,a,b]) 0=b∧A4C (R9 [o,a,b]) 0=a∧A8a (R9 [o,a,b]) 0=b:=by
 have g:bt (R9 [o,a,b]) 0=o.toNat:=V9 (n:=o) rfl (by omega);have f:bt (R9 [o,a,b]) (0+1)=a.toNat:=V9 (n:=a) rfl e;have h:bt (R9 [o,a,b]) (0+2)=b.toNat:=V9 (n:=b) rfl d;unfold Z2 U1 A4C A8a byt at*;rw[g,f,h];refine⟨rfl,?_,?_,?_,?_⟩
 ·rcases c with rfl|rfl<;>rfl
 ·rcases c with rfl|rfl<;>(show ((b.toNat:Nat):Int)=b)<;>omega
 ·rcases c with rfl|rfl<;>(show ((a.toNat:Nat):Int)=a)<;>omega
 ·rcases c with rfl|rfl<;>(show ((b.toNat:Nat):Int)=b)<;>omega
theorem A6n {rl d:Nat→Int}{b:Nat}{a:Int}(f:byt a)(h:a.toNat+1≤b):A07 rl d b (oc [2,a]) (Z2 (R9 [2,a]) 0) (U1 (R9 [2,a]) 0):=by obtain⟨c,e,g,_⟩:=cN2 (o:=2) (by omega) f;rw[c,e,g];refine⟨fun _=>⟨by decide,h,fun i hi=>?_,fun h=>by omega,fun h=>by omega⟩,fun h=>by omega⟩;have:i=0:=(by simp at hi;omega);subst this;exact⟨rfl,rfl⟩
theorem A1Y {rl c:Nat→Int}{b:Nat}{o a:Int}(f:o=2∨o=3∨o=21)(g:byt a)(h:A0S rl c b o.toNat a.toNat 1):A07 rl c b (oc [o,a]) (Z2 (R9 [o,a]) 0) (U1 (R9 [o,a]) 0):=by obtain⟨d,e,i,_⟩:=cN2 f g;rw[d,e,i];exact⟨fun _=>h,fun h=>by omega⟩
theorem A5F {rl d:Nat→Int}{c:Nat}{o a b:Int}(i:o=4∨o=5)(j:byt a)(f:byt b)(h:A0S rl d c o.toNat a.toNat b.toNat):A07 rl d c (oc [o,a,b]) (Z2 (R9 [o,a,b]) 0) (U1 (R9 [o,a,b]) 0):=by obtain⟨e,g,k,_⟩:=cN3 i j f;rw[e,g,k];exact⟨fun _=>h,fun h=>by omega⟩
theorem U9 {rl d:Nat→Int}{b:Nat}{vs:List Vd}:∀e:Ex,okE rl d b vs e→A4i rl d b (cdE vs e)
 |.lit n,_=>M6 (.inl rfl)
 |.tru _,_=>M6 (.inl rfl)
 |.plc s,h=>A6n h.1 h.2
 |.idx s i,h=>⟨U9 i h.1,A5F (by omega) h.2.1 h.2.2.1 h.2.2.2⟩
 |.bin o l r,h=>⟨⟨⟨U9 l h.2.1,U9 r h.2.2⟩,M6 (.inr (by
   have e:oc [(opI o:Int)]=opI o:=by simp[oc]
   rw[e]
   have:=B1E o h.1
   omega))⟩,by
  by_cases c:kE vs (.bin o l r)=1
  ·rw[if_pos c];exact M6 (.inr (by decide))
  ·rw[if_neg c];trivial⟩
 |.neg e,h=>⟨U9 e h,M6 (.inr (by decide))⟩
 |.sho e,h=>⟨U9 e h,M6 (.inr (by decide))⟩
 |.dly t a s,h=>⟨⟨U9 a h.1,U9 s h.2.1⟩,A1Y (by omega) h.2.2.1 h.2.2.2⟩
theorem I1 {a b:Cd}{h m k:Nat}(c:htC a h=some m)(d:htC b m=some k):htC (.seq a b) h=some k:=by simp[htC,c,d]
theorem I9 {x:List Int}{h k:Nat}(o:Nat)(a:oc x=o)(c:B7 o≤h)(d:h-B7 o+B1 o=k)(b:k≤32):htC (.one x) h=some k:=by simp only[htC,a];rw[d,if_pos ⟨c,b⟩]
theorem B4i {o:Nat}(a:o<9):B7 (opI o)=2∧B1 (opI o)=1:=by have:∀o,o<9→B7 (opI o)=2∧B1 (opI o)=1:=(by decide);exact this o a
theorem Z4 {rl m:Nat→Int}{j:Nat}{vs:List Vd}:∀(e:Ex) (h:Nat),okE rl m j vs e→(h:Int)+C5 e+1≤32→0≤C5 e∧htC (cdE vs e) h=some (h+1)
 |.lit n,h,_,hd=>⟨by simp[C5],I9 1 rfl (y7 _) rfl (by simp[C5] at hd;omega)⟩
 |.tru _,h,_,hd=>⟨by simp[C5],I9 1 rfl (y7 _) rfl (by simp[C5] at hd;omega)⟩
 |.plc s,h,_,hd=>⟨by simp[C5],I9 2 rfl (y7 _) rfl (by simp[C5] at hd;omega)⟩
 |.idx s i,h,ho,hd=>by
  simp only[C5] at hd;obtain⟨c,b⟩:=Z4 i h ho.1 (by omega);exact⟨by simp only[C5];omega,I1 b (I9 4 rfl (by show 1≤h+1;omega) (by show h+1-1+1=h+1;omega) (by omega))⟩
 |.bin o l r,h,ho,hd=>by
  simp only[C5] at hd;obtain⟨c,b⟩:=Z4 l h ho.2.1 (by omega);obtain⟨p,f⟩:=Z4 r (h+1) ho.2.2 (by omega);have d:=B4i ho.1;refine⟨by simp only[C5];omega,I1 (I1 (I1 b f) (I9 (opI o) (by simp[oc]) (by rw[d.1];omega) (by rw[d.1,d.2];omega) (k:=h+1) (by omega))) ?_⟩;by_cases g:kE vs (.bin o l r)=1
  ·rw[if_pos g];exact I9 16 rfl (by show 1≤h+1;omega) (by show h+1-1+1=h+1;omega) (by omega)
  ·rw[if_neg g];rfl
 |.neg e,h,ho,hd=>by
  simp only[C5] at hd;obtain⟨c,b⟩:=Z4 e h ho (by omega);exact⟨by simp only[C5];omega,I1 b (I9 13 rfl (by show 1≤h+1;omega) (by show h+1-1+1=h+1;omega) (by omega))⟩
 |.sho e,h,ho,hd=>by
  simp only[C5] at hd;obtain⟨c,b⟩:=Z4 e h ho (by omega);exact⟨by simp only[C5];omega,I1 b (I9 16 rfl (by show 1≤h+1;omega) (by show h+1-1+1=h+1;omega) (by omega))⟩
 |.dly t a s,h,ho,hd=>by
  simp only[C5] at hd;obtain⟨c,b⟩:=Z4 a h ho.1 (by omega);obtain⟨p,f⟩:=Z4 s (h+1) ho.2.1 (by omega);exact⟨by simp only[C5];omega,I1 (I1 b f) (I9 21 rfl (by show 2≤h+1+1;omega) (by show h+1+1-2+1=h+1;omega) (by omega))⟩
theorem V1 (vs:List Vd):∀e:Ex,1≤cE e∧(H9 (cdE vs e):Int)+1≤2*cE e
 |.lit _=>by simp[cdE,H9,cE]
 |.tru _=>by simp[cdE,H9,cE]
 |.plc _=>by simp[cdE,H9,cE]
 |.idx s i=>by have:=V1 vs i;simp only[cdE,H9,cE];omega
 |.bin o l r=>by
  have c:=V1 vs l;have d:=V1 vs r;by_cases b:kE vs (.bin o l r)=1
  ·simp only[cdE,H9,cE,if_pos b];omega
  ·simp only[cdE,H9,cE,if_neg b];omega
 |.neg e=>by have:=V1 vs e;simp only[cdE,H9,cE];omega
 |.sho e=>by have:=V1 vs e;simp only[cdE,H9,cE];omega
 |.dly t a s=>by
  have c:=V1 vs a;have d:=V1 vs s;simp only[cdE,H9,cE];omega
theorem A7u {vs:List Vd}{sp:Int}{s:BA}{i e:Ex}{v:Vd}(V:I7 vs i)(he:I7 vs e)(Z:C1 vs s=some v)(hlen:0≤v.len∧v.len≤255):A7R vs sp (.setx s i e) (fun _=>C4 vs i++C4 vs e++[5,B3 vs 0 s,P9 vs s]) false:=by
 intro B bw bm lo hi t bs kp cv u F w h hx M R C;obtain⟨vi,ve,m,hve,hlm,hmh,z,A⟩:=hx;injection hve with e1 e2;subst e1 e2;obtain⟨o,l,rfl⟩:=A.iface;obtain⟨x,p,rfl⟩:=z.iface;have me:=J1 A;have me1:=me.m;have me2:=me.c;have mi:=J1 z;have mi1:=mi.m;have mi2:=mi.c;simp only[A4e];simp only[Bool.or_false] at C;have O:P9 vs s=v.len:=(by unfold P9;rw[Z]);rw[O] at C M;simp only[z0,z2,z3] at M;obtain⟨j,b,h1,h2,L,h4⟩:=S6 vs bs s v 0 h.vars.len Z;obtain⟨_,S⟩:=h.vars.row j v b h1 h2;obtain⟨cur,g,hcs,H⟩:=S;obtain⟨hm,P⟩:=J0 vs s v Z;have hsz:s.size≤maxLen:=(by rw[←P];have:=(h.names v hm).le;unfold maxLen;omega);have c0:w.cell? ⟨bw,0,none⟩=some (.map (some bm)):=h.row.cell (i:=0) (by omega);have lb:=h.row.lt;have lbb:b<w.heap.size:=(z1.1 g).1;have N:I6 vs j=B3 vs 0 s:=(by unfold I6;rw[←h4];omega);have Y:∀n,(Instr.lookup 90 (.map (some bm)) (.string s) false).run Tryz.prog ((w.alloc (Obj.cells #[.string s,.iface x p,.iface o l] 309)).drewN n)=.ok (.pointer (some ⟨b,0,none⟩)) ((w.alloc (Obj.cells #[.string s,.iface x p,.iface o l] 309)).drewN n):=fun n=>by have U:U0 ((w.alloc (Obj.cells #[.string s,.iface x p,.iface o l] 309)).drewN n) bm vs.length (M3 vs bs):=h.nm.keep (y5 _ _ _ h.nm.lt);have Y:=U.look s hsz;rw[L] at Y;exact Y
 have cI:=hd (fun (W:WD)=>@V B bw bm lo m x bs sp kp cv p F W);have cC:=hd (fun (CV:VL) (W:WD)=>@he B bw bm m hi o bs sp kp CV l (F++C4 vs i) W);replace C:=hd C;replace h:=hd h;replace A:=hd A;replace z:=hd z;clear he V me mi h1 h2 L hm P Z h4;generalize wfn e=FE at*;generalize wfn i=FI at*;go_enter Tryz.func312,Tryz.ntmps312;go_wp2_with (fail);go_quiet (fail);have a:Below w.heap.size w ((w.alloc (Obj.cells #[.string s,.iface x p,.iface o l] 309)).drewN nq):=below_drewN ((Below.refl _ w).alloc (z9 _) _) nq;have I:=h.out.below a;have Q:E9 (kE vs) i lo m ((w.alloc (Obj.cells #[.string s,.iface x p,.iface o l] 309)).drewN nq) (.iface x p):=z.out.keep (fun c _ _ _ M=>a.block c (z1.1 M).1);have X:E9 (kE vs) e m hi ((w.alloc (Obj.cells #[.string s,.iface x p,.iface o l] 309)).drewN nq) (.iface o l):=A.out.keep (fun c _ _ _ M=>a.block c (z1.1 M).1);have r:((w.alloc (Obj.cells #[.string s,.iface x p,.iface o l] 309)).drewN nq).heap[b]? =some (.cells cur 147):=(a.block b lbb).trans g;have E:((w.alloc (Obj.cells #[.string s,.iface x p,.iface o l] 309)).drewN nq).heap[w.heap.size]? =some (.cells #[.string s,.iface x p,.iface o l] 309):=A2;replace a:=hd a;replace g:=hd g;replace E:=hd E;go_wp2_with (fail);refine cI.out _ I Q (by omega) _ ?_;intro w1 cv1 g1 y;have f:=I.tag y r (by decide) (by decide);have k:=I.tag y E.out (by decide) (by decide);have q:=I.exIn y X;have hF1:=hd (Fu.pre a.out y);have q2:w1.cell? ⟨w.heap.size,2,none⟩=some (.iface o l):=A1 (i:=2) k rfl;have lz:w.heap.size<w1.heap.size:=(z1.1 k).1;replace g1:=hd g1;replace f:=hd f;replace k:=hd k;replace q:=hd q;clear y I Q X r Y E;go_wp2_with (fail);refine cC.out _ _ g1.out q.out (by rw[z0];omega) _ ?_;intro D cv2 g2 K;have d:=g1.out.tag K f.out (by decide) (by decide);have q5:D.cell? ⟨b,5,none⟩=some (.int .u8 (B3 vs 0 s)):=(by have:=A1 d (H 5 (by omega));rw[show vdF v (I6 vs j) 5=.int .u8 (I6 vs j) from rfl,N] at this;exact this);have q4:D.cell? ⟨b,4,none⟩=some (.int .i64 v.len):=A1 d (H 4 (by omega));have lb2:b<D.heap.size:=(z1.1 d).1;have hF2:=hd (hF1.out.trans K);have jl:IntKind.u8.wrap v.len=v.len:=(by unfold IntKind.wrap;simp only[IntKind.signed,IntKind.bits];simp;omega);clear K d N H;generalize B3 vs 0 s=fv at*;generalize v.len=ln at*;have I:=hd ((g2.below (below_drewN (Below.refl _ D) 1)).alloc (Obj.cells #[.int .u8 5,.int .u8 fv,.int .u8 ln] 5));have G:(D.drew.alloc (Obj.cells #[.int .u8 5,.int .u8 fv,.int .u8 ln] 5)).heap[D.heap.size]? =some (.cells (O0 [5,fv,ln]).toArray 5):=A2 (w:=D.drew) (cur:=#[.int .u8 5,.int .u8 fv,.int .u8 ln]) (T:=5) (fz:=(0,0));replace G:=hd G;replace g2:=hd g2;go_wp2_with (fail);go_region_with (go_at_call 74;refine N7 I.out [5,fv,ln] D.heap.size 3 3 rfl G.out (by simp only[z0,z2,z3];omega) _ ?_;intro w3 cv3 L J;replace L:=hd L;replace J:=hd J);all_goals
  have hF3:=hd (hF2.out.trans (Fu.pre ((below_drewN (Below.refl D.heap.size D) 1).trans (((Below.refl _ _).alloc (z9 _) _).mono (z9 _))) J.out))
  go_end0
  refine C.out _ _ ?_ hF3.out
  have:=L.out
  simp only[z6] at this ⊢
  exact this
def U6 (f l:Int):Nat:=(max 0 (l-f+1)).toNat
theorem A2P (f l:Int):((U6 f l:Nat):Int)=max 0 (l-f+1):=by unfold U6;omega
theorem A2e (w:WD)(s:BA)(f l:Int)(b:VL)(g: -4294967296≤f∧f≤4294967296)(d: -4294967296≤l∧l≤4294967296)(R:RP)(a:∀w',Below w.heap.size w w'→R (.returned (.int .i64 (U6 f l:Nat))) w'):Calls Tryz.prog 328 #[.agg #[.string s,.int .i64 f,.int .i64 l,b]] w R:=by have e:=A2P f l;have c:=hd ((Below.refl w.heap.size w).alloc (z9 _) (Obj.cells #[.string s,.int .i64 f,.int .i64 l,b] 320));replace a:=hd a;go_enter Tryz.func328,Tryz.ntmps328;go_wp2;exact A6 (a.out _ c.out) (by show Value.int _ _=Value.int _ _;rw[e])
section
def A3G (vs:List Vd)(s:BA)(f l:Int):List Int:=K9 (f-1)++[3,B3 vs 0 s,19]++two (U6 f l)++[2,B3 vs 0 s]++K9 1++[6,3,B3 vs 0 s]
theorem A5E (vs:List Vd)(s:BA)(f l:Int):(A3G vs s f l).length=20:=rfl
structure LW (B bw bm z bb:Nat)(vs:List Vd)(bs:List Nat)(sp:Int)(kp:Bool)(cv0 cv:VL)(code:List Int)(Tb:Nat)(box cur:Array VL)(lo hi:Nat)(vb:VL)(b:Sl)(xs:List VL)(w W:WD):Prop where
 wr:Wr B bw bm (I6 vs) vs bs sp kp cv code W
 box:W.heap[z]? =some (.cells box Tb)
 var:W.heap[bb]? =some (.cells cur 147)
 row:C2 W lo hi 240 1 vb b.len xs
 sl:G1 (kE vs) vb.ownBlock b lo hi W xs
 fu:Fu bw cv0 cv w W
section
variable {B bw bm z bb:Nat}{vs:List Vd}{bs:List Nat}{sp:Int}{kp kp':Bool}{cv0 cv cv':VL}{code code':List Int}{Tb:Nat}{box cur:Array VL}{lo hi:Nat}{vb:VL}{b:Sl}{xs:List VL}{w W W':WD}
theorem LW.step (h:LW B bw bm z bb vs bs sp kp cv0 cv code Tb box cur lo hi vb b xs w W)(e:Tb≠155∧Tb≠5)(d:hi≤bw)(f:Wr B bw bm (I6 vs) vs bs sp kp' cv' code' W')(a:Fu bw cv cv' W W'):LW B bw bm z bb vs bs sp kp' cv0 cv' code' Tb box cur lo hi vb b xs w W':=
 ⟨f,h.wr.tag a h.box e.1 e.2,h.wr.tag a h.var (by decide) (by decide),h.row.keep (by decide) (fun _ _ _ _ _ c _ _=>h.wr.same a c d),h.sl.keep (fun _ _ _ _ _ c _ _=>h.wr.same a c d),h.fu.trans a⟩
theorem LW.below (h:LW B bw bm z bb vs bs sp kp cv0 cv code Tb box cur lo hi vb b xs w W)(a:Below W.heap.size W W'):LW B bw bm z bb vs bs sp kp cv0 cv code Tb box cur lo hi vb b xs w W':=
 ⟨h.wr.below a,(a.block _ (z1.1 h.box).1).trans h.box,(a.block _ (z1.1 h.var).1).trans h.var,h.row.below a,h.sl.belowZ a,h.fu.trans (Fu.of_below a)⟩
theorem LW.alloc (h:LW B bw bm z bb vs bs sp kp cv0 cv code Tb box cur lo hi vb b xs w W)(o:Obj):LW B bw bm z bb vs bs sp kp cv0 cv code Tb box cur lo hi vb b xs w (W.alloc o):=h.below ((Below.refl _ W).alloc (z9 _) o)
end
theorem A7e {vs:List Vd}{sp:Int}{s:BA}{f l:Int}{b:Sl}{v:Vd}{fb:Nat→List Int}{qb:Bool}(hf: -2147483648≤f∧f≤2147483647)(hl: -2147483648≤l∧l≤2147483647)(hN1:1≤U6 f l)(M:U6 f l<65536)(hb:A0y vs sp b fb qb)(hbl:b.len≤1000000)(hv:C1 vs s=some v):Y7 vs sp (.loop s f l b) (fun p=>A3G vs s f l++fb (p+20)++[20]) qb:=by
 intro B bw bm lo hi t bs kp cv u code w z h hx hc R r;obtain⟨vb,hvb,xs,k,C⟩:=hx;injection hvb with e1 e2;subst e1 e2;obtain⟨o,m,rfl⟩:=A7 k.1;simp only[A4e];simp only[z0,z2,z3,A5E] at hc;obtain⟨j,bb,h1,h2,h3,h4⟩:=S6 vs bs s v 0 h.vars.len hv;obtain⟨_,hrw⟩:=h.vars.row j v bb h1 h2;obtain⟨cur,g,hcs,O⟩:=hrw;obtain⟨hm,P⟩:=J0 vs s v hv;have hsz:s.size≤maxLen:=(by rw[←P];have:=(h.names v hm).le;unfold maxLen;omega);have c0:w.cell? ⟨bw,0,none⟩=some (.map (some bm)):=h.row.cell (i:=0) (by omega);have lb:=h.row.lt;have lbb:bb<w.heap.size:=(z1.1 g).1;have L:I6 vs j=B3 vs 0 s:=(by unfold I6;rw[←h4];omega);have e:∀(W:WD),W.heap[bb]? =some (.cells cur 147)→W.cell? ⟨bb,5,none⟩=some (.int .u8 (B3 vs 0 s))∧bb<W.heap.size:=fun W y=>by have:=A1 y (O 5 (by omega));rw[show vdF v (I6 vs j) 5=.int .u8 (I6 vs j) from rfl,L] at this;exact⟨this,(z1.1 y).1⟩
 have hlk:∀n,(Instr.lookup 90 (.map (some bm)) (.string s) false).run Tryz.prog ((w.alloc (Obj.cells #[.string s,.int .i64 f,.int .i64 l,.slice o b.len m] 320)).drewN n)=.ok (.pointer (some ⟨bb,0,none⟩)) ((w.alloc (Obj.cells #[.string s,.int .i64 f,.int .i64 l,.slice o b.len m] 320)).drewN n):=fun n=>by have V:U0 ((w.alloc (Obj.cells #[.string s,.int .i64 f,.int .i64 l,.slice o b.len m] 320)).drewN n) bm vs.length (M3 vs bs):=h.nm.keep (y5 _ _ _ h.nm.lt);have hl:=V.look s hsz;rw[h3] at hl;exact hl
 have c:∀(W:WD),W.heap[w.heap.size]? =some (.cells #[.string s,.int .i64 f,.int .i64 l,.slice o b.len m] 320)→W.cell? ⟨w.heap.size,0,none⟩=some (.string s)∧W.cell? ⟨w.heap.size,1,none⟩=some (.int .i64 f)∧W.cell? ⟨w.heap.size,2,none⟩=some (.int .i64 l)∧W.cell? ⟨w.heap.size,3,none⟩=some (.slice o b.len m)∧w.heap.size<W.heap.size:=fun W y=>
  ⟨A1 (i:=0) y rfl,A1 (i:=1) y rfl,A1 (i:=2) y rfl,A1 (i:=3) y rfl,(z1.1 y).1⟩
 obtain⟨N,Z⟩:∃N,U6 f l=N:=⟨_,rfl⟩;have q:∀p,(fun p=>A3G vs s f l++fb (p+20)++[20]) p=K9 (f-1)++([3,B3 vs 0 s,19]++(two N++([2,B3 vs 0 s]++(K9 1++([6,3,B3 vs 0 s]++(fb (p+20)++[20])))))):=fun p=>by simp only[A3G,Z,z6]
 simp only[q] at r;rw[Z] at hN1 M;have tn:((N:Int)==0)=false:=(by simp;omega);have jf:IntKind.i64.wrap (f-1)=f-1:=IntWalk.i64_in _ (by omega);replace r:=hd r;replace h:=hd h;replace k:=hd k;replace C:=hd C;replace e:=hd e;replace c:=hd c;clear h1 h2 h3 hm P hv h4 L O q;generalize B3 vs 0 s=fv at*;go_enter Tryz.func327,Tryz.ntmps327;go_wp2_with (fail);go_quiet (fail);have a:Below w.heap.size w ((w.alloc (Obj.cells #[.string s,.int .i64 f,.int .i64 l,.slice o b.len m] 320)).drewN nq):=below_drewN ((Below.refl _ w).alloc (z9 _) _) nq;have L0:LW B bw bm w.heap.size bb vs bs sp kp cv cv code 320 #[.string s,.int .i64 f,.int .i64 l,.slice o b.len m] cur lo hi (.slice o b.len m) b xs w ((w.alloc (Obj.cells #[.string s,.int .i64 f,.int .i64 l,.slice o b.len m] 320)).drewN nq):=
  ⟨h.out.below a,A2,(a.block bb lbb).trans g,k.out.below a,C.out.belowZ a,Fu.of_below a⟩
 generalize (w.alloc (Obj.cells #[.string s,.int .i64 f,.int .i64 l,.slice o b.len m] 320)).drewN nq=W0 at*;obtain⟨G,E,I,H,F⟩:=c.out _ L0.box;replace L0:=hd L0;replace g:=hd g;clear hlk a;have d:320≠155∧320≠5:=(by decide);replace d:=hd d;go_wp2_with (fail);refine A2e _ s f l (.slice o b.len m) (by omega) (by omega) _ ?_;intro w1 b1;rw[Z];have L1:=hd (L0.out.below b1);obtain⟨G,E,I,H,F⟩:=c.out _ L1.out.box;obtain⟨v5,vl⟩:=e.out _ L1.out.var;clear b1;go_wp2_with (fail);refine A0p L1.out.wr (f-1) (by omega) _ ?_;intro w2 cv2 g2 T;have L2:=hd (L1.out.step d.out z g2 T);obtain⟨G,E,I,H,F⟩:=c.out _ L2.out.box;obtain⟨v5,vl⟩:=e.out _ L2.out.var;clear g2 T;go_wp2_with (fail);have M2:=hd (L2.out.alloc (Obj.cells #[.int .u8 3,.int .u8 fv,.int .u8 19] 5));refine N7 M2.out.wr [3,fv,19] w2.heap.size 3 3 rfl A2 (by simp only[z0,z2,z3,K9];omega) _ ?_;intro w3 cv3 g3 S;have L3:=hd (M2.out.step d.out z g3 S);obtain⟨G,E,I,H,F⟩:=c.out _ L3.out.box;obtain⟨v5,vl⟩:=e.out _ L3.out.var;clear g3 S M2;go_wp2_with (fail);refine A2e _ s f l (.slice o b.len m) (by omega) (by omega) _ ?_;intro w4 b4;rw[Z];have L4:=hd (L3.out.below b4);clear b4;go_wp2_with (fail);refine A3B _ N M _ ?_;have M4:=hd (L4.out.alloc (Obj.cells (O0 (two N)).toArray 5));go_wp2_with (fail);refine N7 M4.out.wr (two N) w4.heap.size 2 2 rfl A2 (by simp only[z0,z2,z3,K9,two];omega) _ ?_;intro w5 cv5 g5 U;have L5:=hd (M4.out.step d.out z g5 U);obtain⟨G,E,I,H,F⟩:=c.out _ L5.out.box;obtain⟨v5,vl⟩:=e.out _ L5.out.var;clear g5 U M4;go_wp2_with (fail);have M5:=hd (L5.out.alloc (Obj.cells #[.int .u8 2,.int .u8 fv] 5));refine N7 M5.out.wr [2,fv] w5.heap.size 2 2 rfl A2 (by simp only[z0,z2,z3,K9,two];omega) _ ?_;intro w6 cv6 g6 J;have L6:=hd (M5.out.step d.out z g6 J);clear g6 J M5;go_wp2_with (fail);refine A0p L6.out.wr 1 (by simp only[z0,z2,z3,K9,two];omega) _ ?_;intro w7 cv7 g7 Q;have L7:=hd (L6.out.step d.out z g7 Q);obtain⟨G,E,I,H,F⟩:=c.out _ L7.out.box;obtain⟨v5,vl⟩:=e.out _ L7.out.var;clear g7 Q;go_wp2_with (fail);have M7:=hd (L7.out.alloc (Obj.cells #[.int .u8 6,.int .u8 3,.int .u8 fv] 5));refine N7 M7.out.wr [6,3,fv] w7.heap.size 3 3 rfl A2 (by simp only[z0,z2,z3,K9,two];omega) _ ?_;intro w8 cv8 g8 X;have Y:=hd (M7.out.step d.out z g8 X);obtain⟨G,E,I,H,F⟩:=c.out _ Y.out.box;clear g8 X M7;have D:(code++K9 (f-1)++[3,fv,19]++two N++[2,fv]++K9 1++[6,3,fv]).length=code.length+20:=(by simp only[z0,z2,z3,K9,two]);go_wp2_with (fail);refine V2 hb hbl Y.out.wr Y.out.row.1 Y.out.sl z (by rw[z0,D];omega) _ ?_;intro w9 cv9 g9 K;rw[D] at g9;have L9:=hd (Y.out.step d.out z g9 K);clear g9 K;go_wp2_with (fail);have M9:=hd (L9.out.alloc (Obj.cells #[.int .u8 20] 5));refine N7 M9.out.wr [20] w9.heap.size 1 1 rfl A2 (by rw[z0,D];simp only[z2,z3];omega) _ ?_;intro w10 cv10 A x;have hF:=hd (M9.out.fu.trans x);replace A:=hd A;clear x M9;go_wp2;go_end0;refine r.out _ _ ?_ hF.out;have:=A.out;simp only[z6] at this ⊢;exact this
end
theorem A6E {vs:List Vd}{sp:Int}{s:BA}{f l:Int}{b:Sl}{v:Vd}(hf: -2147483648≤f∧f≤2147483647)(J: -2147483648≤l∧l≤2147483647)(hN:U6 f l=0)(O:C1 vs s=some v):Y7 vs sp (.loop s f l b) (fun _=>K9 f++[3,B3 vs 0 s]) false:=by
 intro B bw bm lo hi t Q kp cv u G w hh h hx hc R x;obtain⟨vb,U,xs,d,r⟩:=hx;injection U with e1 e2;subst e1 e2;obtain⟨g,e,rfl⟩:=A7 d.1;simp only[A4e];simp only[z0,z2,z3,K9] at hc;obtain⟨j,q,h1,h2,X,h4⟩:=S6 vs Q s v 0 h.vars.len O;obtain⟨_,I⟩:=h.vars.row j v q h1 h2;obtain⟨cur,c,hcs,A⟩:=I;obtain⟨hm,C⟩:=J0 vs s v O;have S:s.size≤maxLen:=(by rw[←C];have:=(h.names v hm).le;unfold maxLen;omega);have c0:w.cell? ⟨bw,0,none⟩=some (.map (some bm)):=h.row.cell (i:=0) (by omega);have lb:=h.row.lt;have N:q<w.heap.size:=(z1.1 c).1;have z:I6 vs j=B3 vs 0 s:=(by unfold I6;rw[←h4];omega);have m:∀(W:WD),W.heap[q]? =some (.cells cur 147)→W.cell? ⟨q,5,none⟩=some (.int .u8 (B3 vs 0 s))∧q<W.heap.size:=fun W p=>by have:=A1 p (A 5 (by omega));rw[show vdF v (I6 vs j) 5=.int .u8 (I6 vs j) from rfl,z] at this;exact⟨this,(z1.1 p).1⟩
 have T:∀n,(Instr.lookup 90 (.map (some bm)) (.string s) false).run Tryz.prog ((w.alloc (Obj.cells #[.string s,.int .i64 f,.int .i64 l,.slice g b.len e] 320)).drewN n)=.ok (.pointer (some ⟨q,0,none⟩)) ((w.alloc (Obj.cells #[.string s,.int .i64 f,.int .i64 l,.slice g b.len e] 320)).drewN n):=fun n=>by have F:U0 ((w.alloc (Obj.cells #[.string s,.int .i64 f,.int .i64 l,.slice g b.len e] 320)).drewN n) bm vs.length (M3 vs Q):=h.nm.keep (y5 _ _ _ h.nm.lt);have J:=F.look s S;rw[X] at J;exact J
 have k:∀(W:WD),W.heap[w.heap.size]? =some (.cells #[.string s,.int .i64 f,.int .i64 l,.slice g b.len e] 320)→W.cell? ⟨w.heap.size,0,none⟩=some (.string s)∧W.cell? ⟨w.heap.size,1,none⟩=some (.int .i64 f)∧W.cell? ⟨w.heap.size,2,none⟩=some (.int .i64 l)∧W.cell? ⟨w.heap.size,3,none⟩=some (.slice g b.len e)∧w.heap.size<W.heap.size:=fun W p=>
  ⟨A1 (i:=0) p rfl,A1 (i:=1) p rfl,A1 (i:=2) p rfl,A1 (i:=3) p rfl,(z1.1 p).1⟩
 replace x:=hd x;replace h:=hd h;replace d:=hd d;replace r:=hd r;replace m:=hd m;replace k:=hd k;clear h1 h2 X hm C O h4 z A;generalize B3 vs 0 s=fv at*;go_enter Tryz.func327,Tryz.ntmps327;go_wp2_with (fail);go_quiet (fail);have a:Below w.heap.size w ((w.alloc (Obj.cells #[.string s,.int .i64 f,.int .i64 l,.slice g b.len e] 320)).drewN nq):=below_drewN ((Below.refl _ w).alloc (z9 _) _) nq;have L0:LW B bw bm w.heap.size q vs Q sp kp cv cv G 320 #[.string s,.int .i64 f,.int .i64 l,.slice g b.len e] cur lo hi (.slice g b.len e) b xs w ((w.alloc (Obj.cells #[.string s,.int .i64 f,.int .i64 l,.slice g b.len e] 320)).drewN nq):=
  ⟨h.out.below a,A2,(a.block q N).trans c,d.out.below a,r.out.belowZ a,Fu.of_below a⟩
 generalize (w.alloc (Obj.cells #[.string s,.int .i64 f,.int .i64 l,.slice g b.len e] 320)).drewN nq=W0 at*;obtain⟨p0,Y,p2,p3,pz⟩:=k.out _ L0.box;replace L0:=hd L0;replace c:=hd c;clear T a;have o:320≠155∧320≠5:=(by decide);replace o:=hd o;go_wp2_with (fail);refine A2e _ s f l (.slice g b.len e) (by omega) (by omega) _ ?_;intro w1 Z;rw[hN];have H:=hd (L0.out.below Z);obtain⟨p0,Y,p2,p3,pz⟩:=k.out _ H.out.box;obtain⟨v5,vl⟩:=m.out _ H.out.var;clear Z;go_wp2_with (fail);refine A0p H.out.wr f (by omega) _ ?_;intro w2 cv2 g2 E;have P:=hd (H.out.step o.out hh g2 E);obtain⟨p0,Y,p2,p3,pz⟩:=k.out _ P.out.box;obtain⟨v5,vl⟩:=m.out _ P.out.var;clear g2 E;go_wp2_with (fail);have M:=hd (P.out.alloc (Obj.cells #[.int .u8 3,.int .u8 fv] 5));refine N7 M.out.wr [3,fv] w2.heap.size 2 2 rfl A2 (by simp only[z0,z2,z3,K9];omega) _ ?_;intro w3 K V D;have L:=M.out.step o.out hh V D;have y:=hd (x.out w3 K (by have:=L.wr;rw[Bool.or_false];rw[z6] at this;exact this) L.fu);clear V D M L;go_wp2;go_end0;exact y.out
def B97 (vs:List Vd)(f:Nat→List Int):BA:=⟨(mkB++u8L (A3s (B8 vs++[8]) (f 0++[0]))).toArray⟩
end Go.Proofs.YtidhiaaicmfabaaGreatDoor
