/- Texts (its parts, joined). -/
import Derived.Test.YtidhiaaicmfabaaGreatDoorTqAI
import Derived.Test.YtidhiaaicmfabaaGreatDoorTqAS
open List renaming length_append→z0,flatten_append→z5,not_mem_nil→z8,length_cons→z9,mem_cons→y0,take_append_drop→y1,append_assoc→y2,flatten_cons→y3,getElem?_eq_some_iff→y5,mem_append→y8,mem_of_getElem?→y9
open Nat renaming add_zero→z6,add_assoc→z7,lt_or_ge→y4,zero_add→y7
open Option renaming bind_eq_some_iff→y6
namespace Go.Proofs.YtidhiaaicmfabaaGreatDoor
open Go.RowKit Go.Proofs Go.Deep
set_option maxRecDepth 100000
set_option maxHeartbeats 4000000
inductive Cd where
 |nil:Cd
 |one (x:List Int):Cd
 |seq (a b:Cd):Cd
 |ite (t e:Cd) (j:Bool):Cd
 |rep (n:Nat) (b:Cd):Cd
def jz (j:Bool):Nat:=if j then 1 else 0
def nI:Cd→Nat
 |.nil=>0
 |.one _=>1
 |.seq a b=>nI a+nI b
 |.ite t e j=>1+nI t+jz j+nI e
 |.rep _ b=>2+nI b
def V7:Cd→Nat
 |.nil=>0
 |.one x=>x.length
 |.seq a b=>V7 a+V7 b
 |.ite t e j=>3+V7 t+3*jz j+V7 e
 |.rep _ b=>4+V7 b
def D4:Nat→Cd→List (List Int)
 |_,.nil=>[]
 |_,.one x=>[x]
 |p,.seq a b=>D4 p a++D4 (p+V7 a) b
 |p,.ite t e j=>[(18:Int)::two (p+3+V7 t+3*jz j)]++D4 (p+3) t++(if j then [(17:Int)::two (p+3+V7 t+3*jz j+V7 e)] else [])++D4 (p+3+V7 t+3*jz j) e
 |p,.rep n b=>[(19:Int)::two n]++D4 (p+3) b++[[20]]
theorem Q4:∀(c:Cd) (p:Nat),(D4 p c).length=nI c
 |.nil,_=>rfl
 |.one _,_=>rfl
 |.seq a b,p=>by simp[D4,nI,Q4 a,Q4 b]
 |.ite t e j,p=>by cases j<;>simp[D4,nI,jz,Q4 t,Q4 e]<;>omega
 |.rep n b,p=>by simp[D4,nI,Q4 b];omega
theorem A1p (n:Nat):(two n).length=2:=rfl
theorem V0:∀(c:Cd) (p:Nat),(D4 p c).flatten.length=V7 c
 |.nil,_=>rfl
 |.one _,_=>by simp[D4,V7]
 |.seq a b,p=>by
  have d:=V0 a p;have f:=V0 b (p+V7 a);simp only[D4,z5,z0,V7];omega
 |.ite t e j,p=>by
  have d:=V0 t (p+3);have f:=V0 e (p+3+V7 t+3*jz j);simp only[D4,z5,z0,V7,d,f];cases j<;>simp[A1p,jz]<;>omega
 |.rep n b,p=>by
  have d:=V0 b (p+3);simp only[D4,z5,z0,V7,d];simp[A1p];omega
def okX (x:List Int):Prop:=0<x.length∧osz (x.headD 0).toNat=x.length∧∀n∈x,0≤n∧n≤255
def oc (x:List Int):Nat:=(x.headD 0).toNat
def R9 (l:List Int):BA:=ba (u8L l)
theorem A28 (l:List Int):(R9 l).size=l.length:=by unfold R9;rw[A90];simp[u8L]
theorem V9 {l:List Int}{i:Nat}{n:Int}(h:l[i]? =some n)(b:0≤n∧n≤255):bt (R9 l) i=n.toNat:=by have a:(u8L l)[i]? =some (UInt8.ofNat n.toNat):=(by unfold u8L;rw[List.getElem?_map,h];rfl);unfold R9;rw[B9l _ _ _ a,UInt8.toNat_ofNat'];omega
theorem A9S (a x b:List Int)(f:∀n∈x,0≤n∧n≤255)(j:Nat)(e:j<x.length):bt (R9 (a++x++b)) (a.length+j)=bt (R9 x) j:=by obtain⟨n,c⟩:∃n,x[j]? =some n:=⟨_,List.getElem?_eq_getElem e⟩;have d:=f n (y9 c);rw[V9 c d];refine V9 ?_ d;rw[List.getElem?_append_left (by simp;omega),List.getElem?_append_right (by omega),Nat.add_sub_cancel_left];exact c
theorem B1P {x:List Int}(h:okX x):bt (R9 x) 0=oc x:=by
 cases x with
 |nil=>exact absurd h.1 (by simp)
 |cons n r=>exact V9 (n:=n) rfl (h.2.2 n (by simp))
theorem loc {s s':BA}{a b:Nat}(h:∀j,j<osz (bt s' b)→bt s (a+j)=bt s' (b+j))(o:0<osz (bt s' b)):bt s a=bt s' b∧A4C s a=A4C s' b∧A8a s a=A8a s' b∧Z2 s a=Z2 s' b∧U1 s a=U1 s' b:=by
 have i:bt s a=bt s' b:=h 0 o;have n:bt s' b=1→osz (bt s' b)=5:=fun e=>by rw[e];rfl
 have p:bt s' b=2∨bt s' b=3∨bt s' b=21→osz (bt s' b)=2:=fun e=>by rcases e with e|e|e<;>(rw[e];rfl)
 have m:bt s' b=4∨bt s' b=5∨bt s' b=17∨bt s' b=18∨bt s' b=19→osz (bt s' b)=3:=fun e=>by rcases e with e|e|e|e|e<;>(rw[e];rfl)
 refine⟨i,?_,?_,?_,?_⟩
 ·unfold A4C;rw[i];by_cases d:bt s' b=1
  ·have l:=n d;rw[if_pos d,if_pos d];unfold s32 b32;rw[h 1 (by omega),show a+1+1=a+2 by omega,show a+1+2=a+3 by omega,show a+1+3=a+4 by omega,h 2 (by omega),h 3 (by omega),h 4 (by omega)]
  ·rw[if_neg d,if_neg d];by_cases f:bt s' b=2∨bt s' b=3∨bt s' b=21∨bt s' b=4∨bt s' b=5
   ·rw[if_pos f,if_pos f,h 1 (by rcases f with c|c|c|c|c<;>(rw[c];decide))]
   ·rw[if_neg f,if_neg f];by_cases g:bt s' b=17∨bt s' b=18∨bt s' b=19
    ·have l:=m (by omega);rw[if_pos g,if_pos g];unfold b16;rw[h 1 (by omega),show a+1+1=a+2 by omega,h 2 (by omega)]
    ·rw[if_neg g,if_neg g]
 ·unfold A8a;rw[i];by_cases d:bt s' b=4∨bt s' b=5
  ·have l:=m (by omega);rw[if_pos d,if_pos d,h 2 (by omega)]
  ·rw[if_neg d,if_neg d]
 ·unfold Z2;rw[i];by_cases f:bt s' b=2∨bt s' b=3∨bt s' b=4∨bt s' b=5∨bt s' b=21
  ·rw[if_pos f,if_pos f,h 1 (by rcases f with c|c|c|c|c<;>(rw[c];decide))]
  ·rw[if_neg f,if_neg f]
 ·unfold U1;rw[i];by_cases d:bt s' b=1
  ·have l:=n d;rw[if_pos d,if_pos d];unfold s32 b32;rw[h 1 (by omega),show a+1+1=a+2 by omega,show a+1+2=a+3 by omega,show a+1+3=a+4 by omega,h 2 (by omega),h 3 (by omega),h 4 (by omega)]
  ·rw[if_neg d,if_neg d];by_cases g:bt s' b=17∨bt s' b=18∨bt s' b=19
   ·have l:=m (by omega);rw[if_pos g,if_pos g];unfold b16;rw[h 1 (by omega),show a+1+1=a+2 by omega,h 2 (by omega)]
   ·rw[if_neg g,if_neg g];by_cases k:bt s' b=4∨bt s' b=5
    ·have l:=m (by omega);rw[if_pos k,if_pos k,h 2 (by omega)]
    ·rw[if_neg k,if_neg k]
def X4:Nat→List (List Int)→List Nat
 |_,[]=>[]
 |p,x::r=>p::X4 (p+x.length) r
theorem A7t:∀(W:List (List Int)) (p:Nat),(X4 p W).length=W.length
 |[],_=>rfl
 |x::r,p=>by simp[X4,A7t r]
theorem A7a:∀(W:List (List Int)) (p i:Nat),i<W.length→(X4 p W)[i]? =some (p+(W.take i).flatten.length)
 |[],_,i,h=>by simp at h
 |x::r,p,0,_=>by simp[X4]
 |x::r,p,i+1,h=>by
  simp only[X4,List.getElem?_cons_succ,List.take_succ_cons,y3,z0];rw[A7a r _ i (by simpa using h)];congr 1;omega
theorem B2X:∀(W:List (List Int)) (a:List Int) (f:Nat),(∀x∈W,okX x)→U2 (R9 (a++W.flatten)) (W.length+f+1) a.length=some (X4 a.length W)
 |[],a,f,_=>by
  simp only[List.flatten_nil,List.append_nil,X4];rw[show ([]:List (List Int)).length+f+1=f+1 by simp,U2,if_neg (by rw[A28];omega)]
 |x::r,a,f,h=>by
  have b:=h x (by simp);have g:bt (R9 (a++(x::r).flatten)) a.length=oc x:=(by have:=A9S a x r.flatten b.2.2 0 b.1;rw[z6,B1P b] at this;rw[y3,←y2];exact this);have c:(R9 (a++(x::r).flatten)).size=a.length+x.length+r.flatten.length:=(by rw[A28];simp;omega);have i:osz (oc x)=x.length:=b.2.1;have d:=B2X r (a++x) f (fun y e=>h y (by simp[e]));rw[show (x::r).length+f+1=(r.length+f+1)+1 by simp;omega,U2,g,i,c,if_pos (by have:=b.1;omega),if_neg (by have:=b.1;omega)];rw[y3,←y2];rw[z0] at d;rw[d];rfl
theorem B1W {W:List (List Int)}(h:∀x∈W,okX x){i:Nat}{x:List Int}(hi:W[i]? =some x):atL (X4 0 W) i=(W.take i).flatten.length∧S7 (R9 W.flatten) (X4 0 W) i=oc x∧B6t (R9 W.flatten) (X4 0 W) i=A4C (R9 x) 0∧B7L (R9 W.flatten) (X4 0 W) i=A8a (R9 x) 0∧cL (R9 W.flatten) (X4 0 W) i=Z2 (R9 x) 0∧nL (R9 W.flatten) (X4 0 W) i=U1 (R9 x) 0:=by
 have f:i<W.length:=(y5.1 hi).1;have g:=h x (y9 hi);have c:atL (X4 0 W) i=(W.take i).flatten.length:=(by unfold atL;rw[List.getD_eq_getElem?_getD,A7a W 0 i f];simp);have k:W.flatten=(W.take i).flatten++x++(W.drop (i+1)).flatten:=by
  conv=>lhs;rw[←y1 i W]
  rw[List.drop_eq_getElem_cons f,z5,y3];obtain⟨_,e⟩:=y5.1 hi;rw[e,y2]
 have m:osz (bt (R9 x) 0)=x.length:=(by rw[B1P g];exact g.2.1);have d:=loc (s:=R9 W.flatten) (s':=R9 x) (a:=(W.take i).flatten.length) (b:=0) (fun j l=>by rw[m] at l;rw[k,y7];exact A9S _ x _ g.2.2 j l) (by rw[m];exact g.1);refine⟨c,?_,?_,?_,?_,?_⟩
 ·unfold S7;rw[c,d.1,B1P g]
 ·unfold B6t;rw[c,d.2.1]
 ·unfold B7L;rw[c,d.2.2.1]
 ·unfold cL;rw[c,d.2.2.2.1]
 ·unfold nL;rw[c,d.2.2.2.2]
def Sg (W:List (List Int))(i p:Nat)(F:List (List Int)):Prop:=∃a b,W=a++F++b∧a.length=i∧a.flatten.length=p
theorem Sg.left {W A B:List (List Int)}{i p:Nat}(h:Sg W i p (A++B)):Sg W i p A:=by obtain⟨b,a,e,c,d⟩:=h;exact⟨b,B++a,by rw[e];simp,c,d⟩
theorem Sg.right {W A B:List (List Int)}{i p:Nat}(h:Sg W i p (A++B)):Sg W (i+A.length) (p+A.flatten.length) B:=by obtain⟨b,a,e,c,d⟩:=h;exact⟨b++A,a,by rw[e];simp,by simp[c],by simp[←d]⟩
theorem Sg.get {W:List (List Int)}{i p:Nat}{x:List Int}(h:Sg W i p [x]):W[i]? =some x∧(W.take i).flatten.length=p∧i<W.length:=by
 obtain⟨b,a,e,c,d⟩:=h;subst c;refine⟨?_,?_,?_⟩
 ·rw[e];simp
 ·rw[e,y2,List.take_left];exact d
 ·rw[e];simp
theorem Sg.pos {W:List (List Int)}{i p:Nat}{F:List (List Int)}(h:Sg W i p F):(W.take i).flatten.length=p∧i+F.length≤W.length:=by
 obtain⟨b,a,e,c,d⟩:=h;subst c;refine⟨?_,?_⟩
 ·rw[e,y2,List.take_left];exact d
 ·rw[e];simp
section
def A2R (x:List Int):Prop:=okX x∧oc x≠0∧oc x≠17∧oc x≠18∧oc x≠19∧oc x≠20
def wfC:Cd→Prop
 |.nil=>True
 |.one x=>A2R x
 |.seq a b=>wfC a∧wfC b
 |.ite t e j=>wfC t∧wfC e∧(j=false→e=.nil)
 |.rep n b=>(1≤n∧n≤65535)∧wfC b
def fdC:Cd→Nat
 |.nil=>0
 |.one _=>0
 |.seq a b=>max (fdC a) (fdC b)
 |.ite t e _=>max (fdC t) (fdC e)
 |.rep _ b=>fdC b+1
def htC:Cd→Nat→Option Nat
 |.nil,h=>some h
 |.one x,h=>if B7 (oc x)≤h∧h-B7 (oc x)+B1 (oc x)≤32 then some (h-B7 (oc x)+B1 (oc x)) else none
 |.seq a b,h=>(htC a h).bind (htC b)
 |.ite t e _,h=>if 1≤h∧htC t (h-1)=some (h-1)∧htC e (h-1)=some (h-1) then some (h-1) else none
 |.rep _ b,h=>if htC b h=some h then some h else none
def H9:Cd→Nat
 |.nil=>0
 |.one _=>1
 |.seq a b=>H9 a+H9 b
 |.ite t e j=>1+max (H9 t+jz j) (H9 e)
 |.rep n b=>1+n*(H9 b+1)
theorem B6w (n:Nat):∀m∈two n,0≤m∧m≤255:=by intro m a;simp only[two,y0,z8,or_false] at a;rcases a with rfl|rfl<;>omega
theorem A4v (o:Int)(n:Nat)(b:o=17∨o=18∨o=19):okX (o::two n):=by
 refine⟨by simp,?_,?_⟩
 ·rcases b with rfl|rfl|rfl<;>rfl
 ·intro m a;rcases y0.1 a with rfl|a
  ·omega
  ·exact B6w n m a
theorem B25:okX [20]:=⟨by simp,rfl,by simp⟩
theorem B34:okX [0]:=⟨by simp,rfl,by simp⟩
theorem A2i:∀(c:Cd) (p:Nat),wfC c→∀x∈D4 p c,okX x
 |.nil,_,_,x,d=>by simp[D4] at d
 |.one y,_,h,x,d=>by
  simp only[D4,y0,z8,or_false] at d;subst d;exact h.1
 |.seq a b,p,h,x,d=>by
  simp only[D4,y8] at d;rcases d with d|d
  ·exact A2i a _ h.1 x d
  ·exact A2i b _ h.2 x d
 |.ite t e j,p,h,x,d=>by
  simp only[D4,y8] at d;rcases d with ((d|d)|d)|d
  ·simp only[y0,z8,or_false] at d;subst d;exact A4v _ _ (by omega)
  ·exact A2i t _ h.1 x d
  ·cases j
   ·simp at d
   ·simp only[if_true,y0,z8,or_false] at d;subst d;exact A4v _ _ (by omega)
  ·exact A2i e _ h.2.1 x d
 |.rep n b,p,h,x,d=>by
  simp only[D4,y8] at d;rcases d with (d|d)|d
  ·simp only[y0,z8,or_false] at d;subst d;exact A4v _ _ (by omega)
  ·exact A2i b _ h.2 x d
  ·simp only[y0,z8,or_false] at d;subst d;exact B25
theorem A0B (o:Int)(n:Nat)(a:o=17∨o=18∨o=19)(e:n≤65535):U1 (R9 (o::two n)) 0=(n:Int)∧A4C (R9 (o::two n)) 0=(n:Int):=by have c:bt (R9 (o::two n)) 0=o.toNat:=V9 (n:=o) rfl (by omega);have b:bt (R9 (o::two n)) (0+1)=n/256%256:=(V9 (n:=((n/256%256:Nat):Int)) rfl (by omega)).trans (by omega);have d:bt (R9 (o::two n)) (0+1+1)=n%256:=(V9 (n:=((n%256:Nat):Int)) rfl (by omega)).trans (by omega);unfold U1 A4C b16;rw[c,b,d];rcases a with rfl|rfl|rfl<;>simp<;>omega
theorem nz:∀(c:Cd),nI c=0→V7 c=0∧H9 c=0∧(∀h,htC c h=some h)∧∀p,D4 p c=[]
 |.nil,_=>⟨rfl,rfl,fun _=>rfl,fun _=>rfl⟩
 |.one _,h=>by simp[nI] at h
 |.seq a b,h=>by
  simp only[nI] at h;obtain⟨f,k,l,m⟩:=nz a (by omega);obtain⟨d,g,i,o⟩:=nz b (by omega);refine⟨by simp[V7,f,d],by simp[H9,k,g],fun h=>by simp[htC,l,i],fun p=>by simp[D4,m,o]⟩
 |.ite t e j,h=>by simp[nI] at h
 |.rep n b,h=>by simp[nI] at h
theorem B2W:∀(c:Cd) (h d:Nat),htC c h=some d→h≤32→d≤32
 |.nil,h,d,e,hh=>by simp[htC] at e;omega
 |.one x,h,d,e,hh=>by
  simp only[htC] at e;split at e
  ·injection e with e;omega
  ·cases e
 |.seq a b,h,d,e,hh=>by
  simp only[htC] at e;obtain⟨m,f,g⟩:=y6.1 e;exact B2W b m d g (B2W a h m f hh)
 |.ite t e' j,h,d,e,hh=>by
  simp only[htC] at e;split at e
  ·injection e with e;omega
  ·cases e
 |.rep n b,h,d,e,hh=>by
  simp only[htC] at e;split at e
  ·injection e with e;omega
  ·cases e
theorem Sg.ite {W:List (List Int)}{i p:Nat}{t e:Cd}{j:Bool}(h:Sg W i p (D4 p (.ite t e j))):Sg W i p [(18:Int)::two (p+3+V7 t+3*jz j)]∧Sg W (i+1) (p+3) (D4 (p+3) t)∧(j=true→Sg W (i+1+nI t) (p+3+V7 t) [(17:Int)::two (p+3+V7 t+3*jz j+V7 e)])∧Sg W (i+1+nI t+jz j) (p+3+V7 t+3*jz j) (D4 (p+3+V7 t+3*jz j) e):=by
 simp only[D4] at h;have g:=h.left.left.left;have c:=h.left.left.right;have b:=h.left.right;have a:=h.right;have d:([(18:Int)::two (p+3+V7 t+3*jz j)]:List (List Int)).flatten.length=3:=(by simp[A1p]);simp only[z0,z5,Q4,V0,d,z9,List.length_nil,y7] at c b a;refine⟨g,c,fun f=>?_,?_⟩
 ·subst f;rw[if_pos rfl] at b;rw[show i+1+nI t=i+(1+nI t) by omega,show p+3+V7 t=p+(3+V7 t) by omega];rw[show p+3+V7 t=p+(3+V7 t) by omega] at b;exact b
 ·cases j
  ·rw[show i+1+nI t+jz false=i+(1+nI t+0) by simp[jz];omega,show p+3+V7 t+3*jz false=p+(3+V7 t+0) by simp[jz];omega];rw[show p+3+V7 t+3*jz false=p+(3+V7 t+0) by simp[jz];omega] at a;simpa using a
  ·rw[show i+1+nI t+jz true=i+(1+nI t+1) by simp[jz];omega,show p+3+V7 t+3*jz true=p+(3+V7 t+3) by simp[jz];omega];rw[show p+3+V7 t+3*jz true=p+(3+V7 t+3) by simp[jz];omega] at a;simpa[A1p] using a
theorem Sg.rep {W:List (List Int)}{i p n:Nat}{b:Cd}(h:Sg W i p (D4 p (.rep n b))):Sg W i p [(19:Int)::two n]∧Sg W (i+1) (p+3) (D4 (p+3) b)∧Sg W (i+1+nI b) (p+3+V7 b) [[20]]:=by simp only[D4] at h;have e:=h.left.left;have c:=h.left.right;have a:=h.right;have d:([(19:Int)::two n]:List (List Int)).flatten.length=3:=(by simp[A1p]);simp only[z0,z5,Q4,V0,d,z9,List.length_nil,y7] at c a;refine⟨e,c,?_⟩;rw[show i+1+nI b=i+(1+nI b) by omega,show p+3+V7 b=p+(3+V7 b) by omega];exact a
theorem Sg.seq {W:List (List Int)}{i p:Nat}{a b:Cd}(h:Sg W i p (D4 p (.seq a b))):Sg W i p (D4 p a)∧Sg W (i+nI a) (p+V7 a) (D4 (p+V7 a) b):=by simp only[D4] at h;have c:=h.right;rw[Q4,V0] at c;exact⟨h.left,c⟩
theorem Sg.fin {W:List (List Int)}{i p:Nat}{c:Cd}(h:Sg W i p (D4 p c)):(W.take (i+nI c)).flatten.length=p+V7 c∧i+nI c≤W.length:=by have b:Sg W i p (D4 p c++[]):=(by simpa using h);have a:=b.right.pos;rw[Q4,V0] at a;simpa using a
section
variable {W:List (List Int)}{op:Nat→Nat}{N:Nat→Int}
theorem T0 {i:Nat}{a:List Nat}(h:X5 op i=some a)(b:op i≠19)(c:op i≠20):X5 op (i+1)=some a:=by rw[A4T h,if_neg b,if_neg c]
theorem Z8 (d:∀k x,W[k]? =some x→op k=oc x):∀(c:Cd) (i p:Nat) (f:List Nat),wfC c→Sg W i p (D4 p c)→X5 op i=some f→f.length+fdC c≤10→X5 op (i+nI c)=some f
 |.nil,i,p,f,_,_,hs,_=>hs
 |.one x,i,p,f,hw,hg,hs,_=>by
  have l:=d i x (Sg.get hg).1;exact T0 hs (by rw[l];exact hw.2.2.2.2.1) (by rw[l];exact hw.2.2.2.2.2)
 |.seq a b,i,p,f,hw,hg,hs,hf=>by
  obtain⟨o,h⟩:=hg.seq;simp only[fdC] at hf;have m:=Z8 d a i p f hw.1 o hs (by omega);have g:=Z8 d b _ _ f hw.2 h m (by omega);rw[nI,←z7];exact g
 |.ite t e j,i,p,f,hw,hg,hs,hf=>by
  obtain⟨o,h,r,u⟩:=hg.ite;simp only[fdC] at hf;have l:op i=18:=d i _ o.get.1;have m:=T0 hs (by omega) (by omega);have g:=Z8 d t _ _ f hw.1 h m (by omega);have v:X5 op (i+1+nI t+jz j)=some f:=by
   cases j
   ·exact g
   ·have q:op (i+1+nI t)=17:=d _ _ (r rfl).get.1;exact T0 g (by omega) (by omega)
  have s:=Z8 d e _ _ f hw.2.1 u v (by omega);rw[nI,show i+(1+nI t+jz j+nI e)=i+1+nI t+jz j+nI e by omega];exact s
 |.rep n b,i,p,f,hw,hg,hs,hf=>by
  obtain⟨o,h,r⟩:=hg.rep;simp only[fdC] at hf;have l:op i=19:=d i _ o.get.1;have m:X5 op (i+1)=some (i::f):=(by rw[A4T hs,if_pos l,if_neg (by omega)]);have g:=Z8 d b _ _ _ hw.2 h m (by simp only[z9];omega);have q:op (i+1+nI b)=20:=d _ _ r.get.1;rw[nI,show i+(2+nI b)=i+1+nI b+1 by omega,A4T g,if_neg (by omega),if_pos q];rfl
theorem A3g (d:∀k x,W[k]? =some x→op k=oc x)(z:∀k x,W[k]? =some x→N k=U1 (R9 x) 0)(C:W.flatten.length≤65535):∀(c:Cd) (i p:Nat) (f:List Nat),wfC c→Sg W i p (D4 p c)→X5 op i=some f→f.length+fdC c≤10→∀k,i≤k→k<i+nI c→(op k=17∨op k=18)→∃t s,k<t∧t≤i+nI c∧N k=((W.take t).flatten.length:Int)∧X5 op k=some s∧X5 op t=some s
 |.nil,i,p,f,_,_,hs,_,k,h1,h2,_=>by simp[nI] at h2;omega
 |.one x,i,p,f,hw,hg,hs,_,k,h1,h2,g=>by
  have e:k=i:=(by simp[nI] at h2;omega);subst e;have O:=d k x (Sg.get hg).1;rw[O] at g;rcases g with g|g
  ·exact absurd g hw.2.2.1
  ·exact absurd g hw.2.2.2.1
 |.seq a b,i,p,f,hw,hg,hs,hf,k,h1,h2,g=>by
  obtain⟨B,D⟩:=hg.seq;simp only[fdC] at hf;simp only[nI] at h2;have T:=Z8 d a i p f hw.1 B hs (by omega);rcases y4 k (i+nI a) with o|o
  ·obtain⟨t,s,u,K,q,v,l⟩:=A3g d z C a i p f hw.1 B hs (by omega) k h1 o g;exact⟨t,s,u,by rw[nI];omega,q,v,l⟩
  ·obtain⟨t,s,u,K,q,v,l⟩:=A3g d z C b _ _ f hw.2 D T (by omega) k o (by omega) g;exact⟨t,s,u,by rw[nI];omega,q,v,l⟩
 |.ite t e j,i,p,f,hw,hg,hs,hf,k,h1,h2,g=>by
  have G:=hg.fin;have H:=Z8 d (.ite t e j) i p f hw hg hs hf;obtain⟨B,D,J,S⟩:=hg.ite;simp only[fdC] at hf;have O:op i=18:=d i _ B.get.1;have L:=T0 hs (by omega) (by omega);have P:=Z8 d t _ _ f hw.1 D L (by omega);have R:X5 op (i+1+nI t+jz j)=some f:=by
   cases j
   ·exact P
   ·have Q:op (i+1+nI t)=17:=d _ _ (J rfl).get.1;exact T0 P (by omega) (by omega)
  have y:∀m,(W.take m).flatten.length≤W.flatten.length:=fun m=>by
   conv=>rhs;rw[←y1 m W]
   rw[z5,z0];omega
  simp only[nI] at h2;have F:nI (.ite t e j)=1+nI t+jz j+nI e:=rfl;rcases y4 k (i+1) with o|o
  ·have A:k=i:=(by omega);subst A;refine⟨k+1+nI t+jz j,f,by omega,by omega,?_,hs,R⟩;have M:=S.pos.1;rw[z k _ B.get.1,(A0B 18 _ (by omega) (by rw[←M];exact Nat.le_trans (y _) C)).1,M]
  ·rcases y4 k (i+1+nI t) with h|h
   ·obtain⟨I,s,u,K,q,v,l⟩:=A3g d z C t _ _ f hw.1 D L (by omega) k o h g;exact⟨I,s,u,by omega,q,v,l⟩
   ·rcases y4 k (i+1+nI t+jz j) with r|r
    ·cases j
     ·simp[jz] at r;omega
     ·have A:k=i+1+nI t:=(by simp[jz] at r;omega);subst A;refine⟨i+nI (.ite t e true),f,by rw[F];simp[jz];omega,Nat.le_refl _,?_,P,H⟩;have M:=G.1;simp only[V7] at M;have E:p+3+V7 t+3*jz true+V7 e=(W.take (i+nI (.ite t e true))).flatten.length:=(by omega);rw[z _ _ (J rfl).get.1,(A0B 17 _ (by omega) (by rw[E];exact Nat.le_trans (y _) C)).1,E]
    ·obtain⟨I,s,u,K,q,v,l⟩:=A3g d z C e _ _ f hw.2.1 S R (by omega) k r (by omega) g;exact⟨I,s,u,by omega,q,v,l⟩
 |.rep n b,i,p,f,hw,hg,hs,hf,k,h1,h2,g=>by
  obtain⟨B,D,J⟩:=hg.rep;simp only[fdC] at hf;have O:op i=19:=d i _ B.get.1;have L:X5 op (i+1)=some (i::f):=(by rw[A4T hs,if_pos O,if_neg (by omega)]);have Q:op (i+1+nI b)=20:=d _ _ J.get.1;simp only[nI] at h2;have F:nI (.rep n b)=2+nI b:=rfl;rcases y4 k (i+1) with o|o
  ·have A:k=i:=(by omega);subst A;omega
  ·rcases y4 k (i+1+nI b) with h|h
   ·obtain⟨I,s,u,K,q,v,l⟩:=A3g d z C b _ _ _ hw.2 D L (by simp only[z9];omega) k o h g;exact⟨I,s,u,by omega,q,v,l⟩
   ·have A:k=i+1+nI b:=(by omega);subst A;omega
end
end
section
theorem G8 (f:Nat→Int)(t:Nat)(v:Int):R6 f t v t=v:=if_pos rfl
theorem H6 (f:Nat→Int){t j:Nat}(v:Int)(h:j≠t):R6 f t v j=f j:=if_neg h
def B8w (op:Nat→Nat)(N:Nat→Int)(To:Nat→Nat)(n i m:Nat)(c:Nat)(v:Int)(H L:Nat→Int):Prop:=
 ∃a b,(∀f,P7 op N To n (m+f) i H L=P7 op N To n f (i+m) a b)∧a (i+m)=(c:Int)∧b (i+m)=max (L (i+m)) v∧∀j,(j≤i∨i+m<j)→j≠i+m→a j=H j∧b j=L j
section
variable {W:List (List Int)}{op:Nat→Nat}{N:Nat→Int}{To:Nat→Nat}{n:Nat}
theorem A1l {i f:Nat}{H L:Nat→Int}{S:(Nat→Int)×(Nat→Int)}(a:op i≠0)(h:D7 op N To i H L=some S):P7 op N To n (f+1) i H L=P7 op N To n f (i+1) S.1 S.2:=by rw[P7,if_neg a,h]
theorem A8Z {i h:Nat}{H L:Nat→Int}(f:H i=(h:Int))(j:B7 (op i)≤h)(k:h-B7 (op i)+B1 (op i)≤32)(a:op i≠17)(b:op i≠18)(c:op i≠19)(d:op i≠20)(g:H (i+1)<0∨H (i+1)=((h-B7 (op i)+B1 (op i):Nat):Int)):D7 op N To i H L=some (R6 H (i+1) ((h-B7 (op i)+B1 (op i):Nat):Int),R6 L (i+1) (max (L (i+1)) (L i+1))):=by have e:(h:Int)-(B7 (op i):Int)+(B1 (op i):Int)=((h-B7 (op i)+B1 (op i):Nat):Int):=(by omega);unfold D7;rw[f,if_neg (by omega),if_neg a,if_neg b,if_neg c,if_neg d,e,S8 (by omega)]
theorem A1P {i h t:Nat}{H L:Nat→Int}(g:op i=18)(d:To i=t)(j:H i=((h+1:Nat):Int))(l:h≤32)(k:H t<0∨H t=(h:Int))(c:H (i+1)<0∨H (i+1)=(h:Int)):D7 op N To i H L=some (R6 (R6 H t h) (i+1) h,R6 (R6 L t (max (L t) (L i+1))) (i+1) (max (R6 L t (max (L t) (L i+1)) (i+1)) (L i+1))):=by have e:((h+1:Nat):Int)-((B7 18:Nat):Int)+((B1 18:Nat):Int)=(h:Int):=(by have a:B7 18=1:=rfl;have b:B1 18=0:=rfl;rw[a,b];omega);have f:¬(((h+1:Nat):Int)<((B7 18:Nat):Int)∨32<((h+1:Nat):Int)-((B7 18:Nat):Int)+((B1 18:Nat):Int)):=(by rw[e];have a:B7 18=1:=rfl;rw[a];omega);unfold D7;rw[g,j,if_neg f,if_neg (by decide),if_pos rfl,e,d,S8 (by omega)];simp only;rw[S8];unfold R6;split<;>omega
theorem B0Z {i h t:Nat}{H L:Nat→Int}(c:op i=17)(d:To i=t)(f:H i=(h:Int))(j:h≤32)(g:H t<0∨H t=(h:Int)):D7 op N To i H L=some (R6 H t h,R6 L t (max (L t) (L i+1))):=by have e:(h:Int)-((B7 17:Nat):Int)+((B1 17:Nat):Int)=(h:Int):=(by have a:B7 17=0:=rfl;have b:B1 17=0:=rfl;rw[a,b];omega);unfold D7;rw[c,f,e,if_neg (by have a:B7 17=0:=rfl;rw[a];omega),if_pos rfl,d,S8 (by omega)]
theorem B1O {i h:Nat}{H L:Nat→Int}(c:op i=19)(d:H i=(h:Int))(g:h≤32)(f:H (i+1)<0∨H (i+1)=(h:Int)):D7 op N To i H L=some (R6 H (i+1) h,R6 L (i+1) (max (L (i+1)) 0)):=by have e:(h:Int)-((B7 19:Nat):Int)+((B1 19:Nat):Int)=(h:Int):=(by have a:B7 19=0:=rfl;have b:B1 19=0:=rfl;rw[a,b];omega);unfold D7;rw[c,d,e,if_neg (by have a:B7 19=0:=rfl;rw[a];omega),if_neg (by decide),if_neg (by decide),if_pos rfl,S8 (by omega)]
theorem B0n {i h t:Nat}{H L:Nat→Int}(g:op i=20)(d:To i=t)(j:H i=(h:Int))(l:h≤32)(f:H (t+1)=(h:Int))(c:L t+1+N t*(L i+1)≤1099511627776)(k:H (i+1)<0∨H (i+1)=(h:Int)):D7 op N To i H L=some (R6 H (i+1) h,R6 L (i+1) (max (L (i+1)) (L t+1+N t*(L i+1)))):=by have e:(h:Int)-((B7 20:Nat):Int)+((B1 20:Nat):Int)=(h:Int):=(by have a:B7 20=0:=rfl;have b:B1 20=0:=rfl;rw[a,b];omega);unfold D7;rw[g,j,e,if_neg (by have a:B7 20=0:=rfl;rw[a];omega),if_neg (by decide),if_neg (by decide),if_neg (by decide),if_pos rfl,d,if_pos f.symm,S8 (by omega),Int.min_eq_left c]
structure Wk (W:List (List Int))(op:Nat→Nat)(N:Nat→Int)(To:Nat→Nat)(n:Nat):Prop where
 hop:∀k x,W[k]? =some x→op k=oc x
 hN:∀k x,W[k]? =some x→N k=U1 (R9 x) 0
 hz:W.flatten.length≤65535
 hn:W.length=n
 hTo:∀k t,k<n→t<n→(op k=17∨op k=18)→N k=((W.take t).flatten.length:Int)→To k=t
 hTb:∀k f s,k<n→op k=20→X5 op k=some (f::s)→To k=f
def A3x (W:List (List Int))(op:Nat→Nat)(N:Nat→Int)(To:Nat→Nat)(n:Nat)(c:Cd):Prop:=
 ∀(i p h a:Nat) (H L:Nat→Int) (b:List Nat),wfC c→Sg W i p (D4 p c)→i+nI c<n→X5 op i=some b→b.length+fdC c≤10→htC c h=some a→h≤32→H i=(h:Int)→0≤L i→L i+H9 c≤1099511627776→
   (∀j,i<j→j<i+nI c→H j<0∧L j=0)→(H (i+nI c)<0∨H (i+nI c)=(a:Int))→0≤L (i+nI c)→B8w op N To n i (nI c) a (L i+H9 c) H L
theorem B7R:A3x W op N To n .nil:=by intro i p h c H L e _ _ _ _ _ a _ b d _ _ _ _;simp only[htC,Option.some.injEq] at a;subst a;exact⟨H,L,fun f=>by simp[nI],b,by simp only[nI,H9,z6];omega,fun j _ _=>⟨rfl,rfl⟩⟩
theorem B6X (z:Wk W op N To n){x:List Int}:A3x W op N To n (.one x):=by
 intro i p h E H L K B t m G C b J y F M u a o;obtain⟨q,I,P,O,v,A⟩:=z;have D:=q i x (Sg.get t).1;obtain⟨_,s,c,d,k,l⟩:=B;simp only[htC] at b;split at b
 ·rename_i r;injection b with b;rw[←D] at r b s c d k l;simp only[nI] at a o m;subst b;have e:=A8Z (op:=op) (N:=N) (To:=To) (L:=L) y r.1 r.2 c d k l a;refine⟨_,R6 L (i+1) (max (L (i+1)) (L i+1)),fun f=>by rw[nI,Nat.add_comm 1 f,A1l s e],G8 ..,G8 ..,fun j _ g=>⟨H6 _ _ g,H6 _ _ g⟩⟩
 ·cases b
theorem B6Y (hk:Wk W op N To n){a b:Cd}(R:A3x W op N To n a)(Q:A3x W op N To n b):A3x W op N To n (.seq a b):=by
 intro i p h O H L t u hg g x I P y D A k d c e;obtain⟨J,hN,hz,hn,hTo,hTb⟩:=hk;obtain⟨M,v⟩:=hg.seq;have B:nI (.seq a b)=nI a+nI b:=rfl;have C:H9 (.seq a b)=H9 a+H9 b:=rfl;rw[B] at g d c e ⊢;rw[C] at k ⊢;simp only[fdC] at I;simp only[htC] at P;obtain⟨m,l,q⟩:=y6.1 P;have hm:=B2W a h m l y;have sA:=Z8 J a i p t u.1 M x (by omega);by_cases E:nI a=0
 ·obtain⟨z1,G,F,z4⟩:=nz a E;rw[F] at l;injection l with l;subst l;rw[E,z1] at v;rw[E] at g d c e ⊢;rw[G] at k ⊢;simp only[z6,y7] at v g d c e k ⊢;exact Q i p h O H L t u.2 v g x (by omega) q y D A k d c e
 ·by_cases T:nI b=0
  ·obtain⟨z1,G,F,z4⟩:=nz b T;rw[F] at q;injection q with q;subst q;rw[T] at g d c e ⊢;rw[G] at k ⊢;simp only[z6] at g d c e k ⊢;exact R i p h m H L t u.1 M g x (by omega) l y D A k d c e
  ·have Z:=d (i+nI a) (by omega) (by omega);obtain⟨H1,L1,e1,e2,e3,z⟩:=R i p h m H L t u.1 M (by omega) x (by omega) l y D A (by omega) (fun j o X=>d j o (by omega)) (.inl Z.1) (by omega);rw[Z.2] at e3;have S:L1 (i+nI a)=L i+H9 a:=(by omega);have K:=z (i+nI a+nI b) (.inr (by omega)) (by omega);rw[←z7] at c e;obtain⟨H2,L2,k1,k2,k3,Y⟩:=Q (i+nI a) (p+V7 a) m O H1 L1 t u.2 v (by omega) sA (by omega) q hm e2 (by omega) (by rw[S];omega) (fun j o X=>by have:=z j (.inr (by omega)) (by omega);rw[this.1,this.2];exact d j (by omega) (by omega)) (by rw[K.1];exact c) (by rw[K.2];exact e);refine⟨H2,L2,fun f=>?_,by rw[←z7];exact k2,?_,fun j o X=>?_⟩
   ·rw[z7,e1,k1,←z7]
   ·rw[←z7,k3,K.2,S];omega
   ·have U:j≤i+nI a∨i+nI a+nI b<j:=(by omega);have V:j≠i+nI a+nI b:=(by omega);rcases o with o|o
    ·have r:=Y j U V;have s:=z j (.inl o) (by omega);exact⟨r.1.trans s.1,r.2.trans s.2⟩
    ·have r:=Y j U V;have s:=z j (.inr (by omega)) (by omega);exact⟨r.1.trans s.1,r.2.trans s.2⟩
theorem B4k (hk:Wk W op N To n){t e:Cd}(ia:A3x W op N To n t):A3x W op N To n (.ite t e false):=by
 intro i p h h' H L st hw hg l hs J r hh S hL B b a o;obtain⟨K,Y,hz,hn,G,hTb⟩:=hk;obtain⟨I,hw2,F⟩:=hw;have he:=F rfl;subst he;obtain⟨V,g2,g3,T⟩:=hg.ite;have E:nI (.ite t .nil false)=1+nI t:=(by simp[nI,jz]);have A:H9 (.ite t .nil false)=1+H9 t:=(by simp[H9,jz]);rw[E] at l b a o ⊢;rw[A] at B ⊢;simp only[fdC] at J;simp only[htC] at r;split at r
 ·rename_i hc;injection r with r;obtain⟨D,u,Z⟩:=hc;obtain⟨m,rfl⟩:∃m,h=m+1:=⟨h-1,by omega⟩;simp only[Nat.add_sub_cancel] at r u Z;subst r;have C:op i=18:=K i _ V.get.1;have v:=T.pos.1;simp only[jz,z6,Nat.mul_zero,Bool.false_eq_true,if_false] at v T;have Q:(W.take (i+1+nI t)).flatten.length≤W.flatten.length:=by
   conv=>rhs;rw[←y1 (i+1+nI t) W]
   rw[z5,z0];omega
  have k:To i=i+(1+nI t):=G i _ (by omega) l (.inr C) (by rw[Y i _ V.get.1,show i+(1+nI t)=i+1+nI t by omega,v];simp only[jz,Nat.mul_zero,z6,Bool.false_eq_true,if_false];exact (A0B 18 _ (by omega) (by omega)).1);have X:=T0 hs (by omega) (by omega);by_cases U:nI t=0
  ·obtain⟨z1,z2,z3,z4⟩:=nz t U;rw[U] at k l b a o ⊢;rw[z2] at B ⊢;simp only[z6] at k l b a o B ⊢;have y:=A1P (op:=op) (N:=N) (To:=To) (L:=L) C k S (by omega) a a;refine⟨_,_,fun f=>by rw[Nat.add_comm 1 f,A1l (by omega) y],G8 ..,?_,fun j _ d=>⟨?_,?_⟩⟩
   ·show R6 _ _ _ _=_;rw[G8,G8];omega
   ·show R6 _ _ _ _=_;rw[H6 _ _ d,H6 _ _ d]
   ·show R6 _ _ _ _=_;rw[H6 _ _ d,H6 _ _ d]
  ·have O:=b (i+1) (by omega) (by omega);have y:=A1P (op:=op) (N:=N) (To:=To) (L:=L) C k S (by omega) a (.inl O.1);obtain⟨s,c⟩:∃s,s=R6 (R6 H (i+(1+nI t)) m) (i+1) m:=⟨_,rfl⟩;obtain⟨q,g⟩:∃q,q=R6 (R6 L (i+(1+nI t)) (max (L (i+(1+nI t))) (L i+1))) (i+1) (max (R6 L (i+(1+nI t)) (max (L (i+(1+nI t))) (L i+1)) (i+1)) (L i+1)):=⟨_,rfl⟩;rw[←c,←g] at y;have a1:s (i+1)=(m:Int):=(by rw[c,G8]);have M:q (i+1)=L i+1:=(by rw[g,G8,H6 _ _ (by omega),O.2];omega);have a3:s (i+1+nI t)=(m:Int):=(by rw[c,H6 _ _ (by omega),show i+1+nI t=i+(1+nI t) by omega,G8]);have R:q (i+1+nI t)=max (L (i+(1+nI t))) (L i+1):=(by rw[g,H6 _ _ (by omega),show i+1+nI t=i+(1+nI t) by omega,G8]);have P:∀j,j≠i+1→j≠i+(1+nI t)→s j=H j∧q j=L j:=fun j x z=>by rw[c,g,H6 _ _ x,H6 _ _ x,H6 _ _ z,H6 _ _ z];exact⟨rfl,rfl⟩
   obtain⟨H2,L2,k1,k2,k3,k4⟩:=ia (i+1) (p+3) m m s q st I g2 (by omega) X (by omega) u (by omega) a1 (by rw[M];omega) (by rw[M];omega) (fun j x z=>by have:=P j (by omega) (by omega);rw[this.1,this.2];exact b j (by omega) (by omega)) (.inr a3) (by rw[R];omega);refine⟨H2,L2,fun f=>?_,by rw[←z7];exact k2,?_,fun j x z=>?_⟩
   ·rw[show 1+nI t+f=(nI t+f)+1 by omega,A1l (by omega) y];show P7 op N To n (nI t+f) (i+1) s q=_;rw[k1,←z7]
   ·rw[←z7,k3,R,M,show i+1+nI t=i+(1+nI t) by omega];omega
   ·have D:=k4 j (by omega) (by omega);have u:=P j (by omega) (by omega);exact⟨D.1.trans u.1,D.2.trans u.2⟩
 ·cases r
theorem B4s (hk:Wk W op N To n){t e:Cd}(ia:A3x W op N To n t)(ib:A3x W op N To n e):A3x W op N To n (.ite t e true):=by
 intro i p h h' H L st hw hg hin hs hfd E hh hH hL hb b a O;obtain⟨G,hN,hz,hn,S,hTb⟩:=hk;replace a:=hd a;obtain⟨U,hw2,_⟩:=hw;have l:=hg.fin.1;obtain⟨g1,g2,I,g4⟩:=hg.ite;have R:nI (.ite t e true)=2+nI t+nI e:=(by simp[nI,jz];omega);have Z:H9 (.ite t e true)=1+max (H9 t+1) (H9 e):=(by simp[H9,jz]);rw[R] at hin b O l ⊢;have a:Hid (H (i+(2+nI t+nI e))<0∨H (i+(2+nI t+nI e))=(h':Int)):=(by have:=a.out;rw[R] at this;exact hd this);rw[Z] at hb ⊢;simp only[fdC] at hfd;simp only[V7] at l;simp only[htC] at E;split at E
 ·rename_i hc;injection E with E;obtain⟨o,q,c3⟩:=hc;obtain⟨d,rfl⟩:∃d,h=d+1:=⟨h-1,by omega⟩;simp only[Nat.add_sub_cancel] at E q c3;subst E;have I:=I rfl;have hj1:jz true=1:=rfl;rw[hj1] at g4 g1 I l;have ho:op i=18:=G i _ g1.get.1;have M:op (i+1+nI t)=17:=G _ _ I.get.1;have hp4:=g4.pos.1;have B:∀m,(W.take m).flatten.length≤W.flatten.length:=fun m=>by
   conv=>rhs;rw[←y1 m W]
   rw[z5,z0];omega
  have l1:=B (i+1+nI t+1);have l2:=B (i+(2+nI t+nI e));have hTi:To i=i+1+nI t+1:=S i _ (by omega) (by omega) (.inr ho) (by rw[hN i _ g1.get.1,hp4];exact (A0B 18 _ (by omega) (by omega)).1);have hTk:To (i+1+nI t)=i+(2+nI t+nI e):=S _ _ (by omega) (by omega) (.inl M) (by rw[hN _ _ I.get.1,l,show p+(3+V7 t+3*1+V7 e)=p+3+V7 t+3*1+V7 e by omega];exact (A0B 17 _ (by omega) (by omega)).1);have s1:=T0 hs (by omega) (by omega);have s2:=Z8 G t _ _ st U g2 s1 (by omega);have s3:=T0 s2 (by omega) (by omega);have f1:=b (i+1) (by omega) (by omega);have hm:H (i+1+nI t+1)<0∨H (i+1+nI t+1)=(d:Int):=by
   by_cases T:nI e=0
   ·rw[show i+1+nI t+1=i+(2+nI t+nI e) by omega];exact a.out
   ·exact .inl (b _ (by omega) (by omega)).1
  have hm2:0≤L (i+1+nI t+1):=by
   by_cases T:nI e=0
   ·rw[show i+1+nI t+1=i+(2+nI t+nI e) by omega];exact O
   ·have:=(b (i+1+nI t+1) (by omega) (by omega)).2;omega
  replace hm:=hd hm;have es:=A1P (op:=op) (N:=N) (To:=To) (L:=L) ho hTi hH (by omega) hm.out (.inl f1.1);obtain⟨x,s⟩:∃x,x=R6 (R6 H (i+1+nI t+1) d) (i+1) d:=⟨_,rfl⟩;obtain⟨v,u⟩:∃v,v=R6 (R6 L (i+1+nI t+1) (max (L (i+1+nI t+1)) (L i+1))) (i+1) (max (R6 L (i+1+nI t+1) (max (L (i+1+nI t+1)) (L i+1)) (i+1)) (L i+1)):=⟨_,rfl⟩;rw[←s,←u] at es;have a1:x (i+1)=(d:Int):=(by rw[s,G8]);have X:v (i+1)=L i+1:=(by rw[u,G8,H6 _ _ (by omega),f1.2];omega);have a3:x (i+1+nI t+1)=(d:Int):=(by rw[s,H6 _ _ (by omega),G8]);have a4:Hid (v (i+1+nI t+1)=max (L (i+1+nI t+1)) (L i+1)):=hd (by rw[u,H6 _ _ (by omega),G8]);have D:∀j,j≠i+1→j≠i+1+nI t+1→x j=H j∧v j=L j:=fun j r y=>by rw[s,u,H6 _ _ r,H6 _ _ r,H6 _ _ y,H6 _ _ y];exact⟨rfl,rfl⟩
  have K:(x (i+1+nI t)<0∨x (i+1+nI t)=(d:Int))∧0≤v (i+1+nI t)∧(nI t=0∨v (i+1+nI t)=0):=by
   by_cases zt:nI t=0
   ·rw[zt,z6,a1,X];exact⟨.inr rfl,by omega,.inl rfl⟩
   ·have:=D (i+1+nI t) (by omega) (by omega);have f2:=b (i+1+nI t) (by omega) (by omega);rw[this.1,this.2];exact⟨.inl f2.1,by omega,.inr f2.2⟩
  replace K:=hd K;obtain⟨H2,Q,k1,k2,k3,F⟩:=ia (i+1) (p+3) d d x v st U g2 (by omega) s1 (by omega) q (by omega) a1 (by rw[X];omega) (by rw[X];omega) (fun j r y=>by have:=D j (by omega) (by omega);rw[this.1,this.2];exact b j (by omega) (by omega)) K.out.1 K.out.2.1;replace k3:=hd k3;have k5:Q (i+1+nI t)=L i+1+H9 t:=by
   rw[k3.out,X];rcases K.out.2.2 with z|z
   ·have hz':=(nz t z).2.1;rw[z,z6,X,hz'];omega
   ·rw[z];omega
  have k6:H2 (i+(2+nI t+nI e))<0∨H2 (i+(2+nI t+nI e))=(d:Int):=by
   have c:=F (i+(2+nI t+nI e)) (.inr (by omega)) (by omega);rw[c.1];by_cases T:nI e=0
   ·rw[show i+(2+nI t+nI e)=i+1+nI t+1 by omega];exact .inr a3
   ·rw[(D _ (by omega) (by omega)).1];exact a.out
  replace k6:=hd k6;have P:=B0Z (op:=op) (N:=N) (To:=To) (L:=Q) M hTk k2 (by omega) k6.out;obtain⟨C,g⟩:∃C,C=R6 H2 (i+(2+nI t+nI e)) d:=⟨_,rfl⟩;obtain⟨A,k⟩:∃A,A=R6 Q (i+(2+nI t+nI e)) (max (Q (i+(2+nI t+nI e))) (Q (i+1+nI t)+1)):=⟨_,rfl⟩;rw[←g,←k] at P;have V:∀f,P7 op N To n (2+nI t+f) i H L=P7 op N To n f (i+1+nI t+1) C A:=fun f=>by rw[show 2+nI t+f=(nI t+(f+1))+1 by omega,A1l (by omega) es];show P7 op N To n (nI t+(f+1)) (i+1) x v=_;rw[k1,A1l (by omega) P]
  by_cases T:nI e=0
  ·have zz:=(nz e T).2.1;refine⟨C,A,fun f=>?_,?_,?_,fun j r y=>?_⟩
   ·rw[T,z6,V,show i+(2+nI t)=i+1+nI t+1 by omega]
   ·rw[g,G8]
   ·have c:=(F (i+(2+nI t+nI e)) (.inr (by omega)) (by omega)).2;rw[k,G8,k5,c,show i+(2+nI t+nI e)=i+1+nI t+1 by omega,a4.out,zz];omega
   ·rw[g,k,H6 _ _ (by omega),H6 _ _ (by omega)];have o:=F j (by omega) (by omega);have q:=D j (by omega) (by omega);exact⟨o.1.trans q.1,o.2.trans q.2⟩
  ·have fm:=b (i+1+nI t+1) (by omega) (by omega);have cm:=F (i+1+nI t+1) (.inr (by omega)) (by omega);have b1:C (i+1+nI t+1)=(d:Int):=(by rw[g,H6 _ _ (by omega),cm.1,a3]);have b2:A (i+1+nI t+1)=L i+1:=(by rw[k,H6 _ _ (by omega),cm.2,a4.out,fm.2];omega);have ce:=F (i+(2+nI t+nI e)) (.inr (by omega)) (by omega);have de:=D (i+(2+nI t+nI e)) (by omega) (by omega);have Y:i+1+nI t+1+nI e=i+(2+nI t+nI e):=(by omega);have b3:C (i+1+nI t+1+nI e)=(d:Int):=(by rw[Y,g,G8]);have b4:Hid (A (i+1+nI t+1+nI e)=max (L (i+(2+nI t+nI e))) (L i+1+H9 t+1)):=hd (by rw[Y,k,G8,k5,ce.2,de.2]);have b5:∀j,i+1+nI t+1<j→j≠i+(2+nI t+nI e)→C j=H j∧A j=L j:=fun j r y=>by rw[g,k,H6 _ _ y,H6 _ _ y];have o:=F j (by omega) (by omega);have q:=D j (by omega) (by omega);exact⟨o.1.trans q.1,o.2.trans q.2⟩
   obtain⟨H4,L4,m1,m2,m3,m4⟩:=ib (i+1+nI t+1) _ d d C A st hw2 g4 (by omega) s3 (by omega) c3 (by omega) b1 (by rw[b2];omega) (by rw[b2];omega) (fun j r y=>by have:=b5 j (by omega) (by omega);rw[this.1,this.2];exact b j (by omega) (by omega)) (.inr b3) (by rw[b4.out];omega);replace m3:=hd m3;rw[Y] at m1 m2 m4;refine⟨H4,L4,fun f=>?_,m2,?_,fun j r y=>?_⟩
   ·rw[z7,V,m1]
   ·have m5:=m3.out;rw[b4.out,b2,Y] at m5;rw[m5];omega
   ·have J:=m4 j (by omega) (by omega);rcases r with r|r
    ·have o:=F j (.inl (by omega)) (by omega);have q:=D j (by omega) (by omega);rw[g,k,H6 _ _ (by omega),H6 _ _ (by omega)] at J;exact⟨J.1.trans (o.1.trans q.1),J.2.trans (o.2.trans q.2)⟩
    ·have o:=b5 j (by omega) (by omega);exact⟨J.1.trans o.1,J.2.trans o.2⟩
 ·cases E
theorem B6D (hk:Wk W op N To n){r:Nat}{b:Cd}(ib:A3x W op N To n b):A3x W op N To n (.rep r b):=by
 intro i p h h' H L C hw hg K hs Q q M hH hL hb c a t;obtain⟨o,hN,hz,hn,hTo,F⟩:=hk;obtain⟨O,x⟩:=hw;obtain⟨g1,g2,g3⟩:=hg.rep;have I:nI (.rep r b)=2+nI b:=rfl;have B:H9 (.rep r b)=1+r*(H9 b+1):=rfl;rw[I] at K c a t ⊢;rw[B] at hb ⊢;simp only[fdC] at Q;simp only[htC] at q;split at q
 ·rename_i hc;injection q with q;subst q;have X:op i=19:=o i _ g1.get.1;have s:op (i+1+nI b)=20:=o _ _ g3.get.1;have E:N i=(r:Int):=(by rw[hN i _ g1.get.1];exact (A0B 19 r (by omega) O.2).1);have s1:X5 op (i+1)=some (i::C):=(by rw[A4T hs,if_pos X,if_neg (by omega)]);have s2:=Z8 o b _ _ _ x g2 s1 (by simp only[z9];omega);have J:To (i+1+nI b)=i:=F _ i C (by omega) s s2;have S:=c (i+1) (by omega) (by omega);have Z:=B1O (op:=op) (N:=N) (To:=To) (L:=L) X hH M (.inl S.1);obtain⟨e,g⟩:∃e,e=R6 H (i+1) h:=⟨_,rfl⟩;obtain⟨l,k⟩:∃l,l=R6 L (i+1) (max (L (i+1)) 0):=⟨_,rfl⟩;rw[←g,←k] at Z;have G:e (i+1)=(h:Int):=(by rw[g,G8]);have A:l (i+1)=0:=(by rw[k,G8,S.2];omega);have u:∀j,j≠i+1→e j=H j∧l j=L j:=fun j y=>by rw[g,k,H6 _ _ y,H6 _ _ y];exact⟨rfl,rfl⟩
  have D:(e (i+1+nI b)<0∨e (i+1+nI b)=(h:Int))∧l (i+1+nI b)=0:=by
   by_cases zt:nI b=0
   ·rw[zt,z6,G,A];exact⟨.inr rfl,rfl⟩
   ·have:=u (i+1+nI b) (by omega);have Y:=c (i+1+nI b) (by omega) (by omega);rw[this.1,this.2];exact⟨.inl Y.1,Y.2⟩
  have T:H9 b+1≤r*(H9 b+1):=Nat.le_mul_of_pos_left _ (by omega);obtain⟨H2,m,k1,R,k3,z⟩:=ib (i+1) (p+3) h h e l (i::C) x g2 (by omega) s1 (by simp only[z9];omega) hc M G (by rw[A];omega) (by rw[A];omega) (fun j y P=>by have:=u j (by omega);rw[this.1,this.2];exact c j (by omega) (by omega)) D.1 (by rw[D.2];omega);have k5:m (i+1+nI b)=H9 b:=(by rw[k3,A,D.2];omega);have k6:H2 (i+1)=(h:Int):=by
   by_cases zb:nI b=0
   ·rw[zb,z6] at R;exact R
   ·rw[(z (i+1) (.inl (by omega)) (by omega)).1];exact G
  have k7:m i=L i:=(by rw[(z i (.inl (by omega)) (by omega)).2,(u i (by omega)).2]);have ce:=z (i+1+nI b+1) (.inr (by omega)) (by omega);have V:=u (i+1+nI b+1) (by omega);have ee:i+(2+nI b)=i+1+nI b+1:=(by omega);rw[ee] at a t;have d:m i+1+N i*(m (i+1+nI b)+1)=L i+((1+r*(H9 b+1):Nat):Int):=(by rw[k7,E,k5];push_cast;omega);have v:=B0n (op:=op) (N:=N) (To:=To) (L:=m) s J R M k6 (by rw[d];omega) (by rw[ce.1,V.1];exact a);rw[d] at v;unfold B8w;rw[ee];refine⟨R6 H2 (i+1+nI b+1) h,R6 m (i+1+nI b+1) (max (m (i+1+nI b+1)) (L i+((1+r*(H9 b+1):Nat):Int))),fun f=>?_,G8 ..,?_,fun j y P=>?_⟩
  ·rw[show 2+nI b+f=(nI b+(f+1))+1 by omega,A1l (by omega) Z];show P7 op N To n (nI b+(f+1)) (i+1) e l=_;rw[k1,A1l (by omega) v]
  ·show R6 _ _ _ _=_;rw[G8,ce.2,V.2]
  ·have c1:=z j (by omega) (by omega);have U:=u j (by omega);refine⟨?_,?_⟩
   ·show R6 _ _ _ _=_;rw[H6 _ _ P];exact c1.1.trans U.1
   ·show R6 _ _ _ _=_;rw[H6 _ _ P];exact c1.2.trans U.2
 ·cases q
theorem A35 (d:Wk W op N To n):∀c:Cd,A3x W op N To n c
 |.nil=>B7R
 |.one _=>B6X d
 |.seq a b=>B6Y d (A35 d a) (A35 d b)
 |.ite t _ false=>B4k d (A35 d t)
 |.ite t e true=>B4s d (A35 d t) (A35 d e)
 |.rep _ b=>B6D d (A35 d b)
end
end
end Go.Proofs.YtidhiaaicmfabaaGreatDoor
