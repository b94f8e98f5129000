/- Texts (its parts, joined). -/
import Derived.Test.YtidhiaaicmfabaaGreatDoorTqBR
import Derived.Test.YtidhiaaicmfabaaGreatDoorTqBV
open Bool renaming and_eq_true→z0,true_or→y7,or_true→x2
open List renaming flatten_append→z1,mem_cons_of_mem→z3,length_append→z4,mem_cons_self→z5,length_cons→z6,append_nil→z7,append_assoc→z8,replicate→z9,length_replicate→y0,getElem?_append_right→y1,filter_append→y2,getElem?_append_left→y3,getElem?_eq_getElem→y4,cons_append→y5,length_nil→y8,map_append→y9,filter_replicate→x0
open Int renaming le_refl→z2
open Nat renaming zero_add→x1
namespace Go.Proofs.YtidhiaaicmfabaaGreatDoor
open Go.RowKit Go.Proofs Go.Deep
set_option maxRecDepth 100000
set_option maxHeartbeats 4000000
open World renaming block_lt_of_cell?→y6
section
variable (sp:Int)
def iqT:List Int→Cd
 |[]=>.nil
 |n::r=>.seq (.seq (.one [2,sp]) (.seq (.one (K9 n)) (.seq (.one [11]) (.one [15])))) (iqT r)
def iqC:List Int→Cd
 |[]=>.nil
 |n::r=>.seq (.seq (.one [2,sp]) (.seq (.one (K9 n)) (.one [11]))) (iqT sp r)
end
mutual
def cdS (vs:List Vd)(sp:Int):Q3→Cd
 |.set s e=>.seq (cdE vs e) (.one [3,B3 vs 0 s])
 |.setx s i e=>.seq (.seq (cdE vs i) (cdE vs e)) (.one [5,B3 vs 0 s,P9 vs s])
 |.ife c t .nil=>.seq (cdE vs c) (.ite (cdL vs sp t) .nil false)
 |.ife c t (.cons h u)=>.seq (cdE vs c) (.ite (cdL vs sp t) (.seq (cdS vs sp h) (cdL vs sp u)) true)
 |.cas e ws o=>.seq (cdE vs e) (.seq (.one [3,sp]) (cdW vs sp ws (cdL vs sp o)))
 |.loop s f l b=>if U6 f l=0 then .seq (.one (K9 f)) (.one [3,B3 vs 0 s]) else .seq (.one (K9 (f-1))) (.seq (.one [3,B3 vs 0 s]) (.rep (U6 f l) (.seq (.one [2,B3 vs 0 s]) (.seq (.one (K9 1)) (.seq (.one [6]) (.seq (.one [3,B3 vs 0 s]) (cdL vs sp b)))))))
def cdL (vs:List Vd)(sp:Int):Sl→Cd
 |.nil=>.nil
 |.cons h t=>.seq (cdS vs sp h) (cdL vs sp t)
def cdW (vs:List Vd)(sp:Int):Wl→Cd→Cd
 |.nil,o=>o
 |.cons ns b t,o=>.seq (iqC sp ns) (.ite (cdL vs sp b) (cdW vs sp t o) true)
end
section
variable {vs:List Vd}{sp:Int}
theorem B1x:∀(l:List Int) (p:Nat),(D4 p (iqT sp l)).flatten=A3b sp l
 |[],_=>rfl
 |n::r,p=>by simp only[iqT,D4,A3b,z1,B1x r];simp
theorem B7Z:∀(l:List Int) (p:Nat),(D4 p (iqC sp l)).flatten=P4 sp l
 |[],_=>rfl
 |n::r,p=>by simp only[iqC,D4,P4,z1,B1x r];simp
theorem A33 {c:Cd}{l:List Int}{p:Nat}(h:(D4 p c).flatten=l):V7 c=l.length:=by rw[←h,V0]
theorem B6h {a b:Cd}{p:Nat}{A B:List Int}(c:(D4 p a).flatten=A)(d:(D4 (p+A.length) b).flatten=B):(D4 p (.seq a b)).flatten=A++B:=by rw[D4,z1,c,A33 c,d]
theorem A9n {t e:Cd}{p:Nat}{T E:List Int}(a:(D4 (p+3) t).flatten=T)(b:(D4 (p+3+T.length+3) e).flatten=E):(D4 p (.ite t e true)).flatten=(18::two (p+3+T.length+3))++(T++((17::two (p+3+T.length+3+E.length))++E)):=by have d:=A33 a;have c:=A33 b;simp only[D4,jz,if_true,d,c,Nat.mul_one,z1,a,b,List.flatten_cons,z8,y5,List.nil_append]
mutual
theorem B80:∀(s:Q3) (p:Nat),(D4 p (cdS vs sp s)).flatten=wS vs sp s p
 |.set s e,p=>by simp only[cdS,wS,D4,z1,P0];simp
 |.setx s i e,p=>by simp only[cdS,wS,D4,z1,P0];simp
 |.ife c t .nil,p=>by
  have h1:=A6S t (p+(C4 vs c).length+3);simp only[cdS,wS,A8S,D4,z1,P0,A8t,jz,h1,A33 h1];simp
 |.ife c t (.cons h u),p=>by
  have h1:=A6S t (p+(C4 vs c).length+3);have h2:=B80 h (p+(C4 vs c).length+3+(wL vs sp t (p+(C4 vs c).length+3)).length+3);have h3:=A6S u (p+(C4 vs c).length+3+(wL vs sp t (p+(C4 vs c).length+3)).length+3+(wS vs sp h (p+(C4 vs c).length+3+(wL vs sp t (p+(C4 vs c).length+3)).length+3)).length);have h5:=A9n h1 (B6h h2 h3);simp only[cdS,wS,A8m];rw[D4,z1,P0,A8t,h5]
 |.cas e ws o,p=>by
  have h1:=B8i ws (cdL vs sp o) (wL vs sp o) (A6S o) (p+(C4 vs e).length+2);simp only[cdS,wS,A7v,D4,z1,P0,A8t,V7,z6,y8,x1,Nat.reduceAdd,h1];simp
 |.loop s f l b,p=>by
  have h1:=A6S b (p+20);simp only[cdS,wS];split
  ·simp[D4]
  ·simp only[D4,V7,K9,z6,y8,x1,Nat.reduceAdd,z1,Nat.add_assoc,h1,A3G];simp
theorem A6S:∀(l:Sl) (p:Nat),(D4 p (cdL vs sp l)).flatten=wL vs sp l p
 |.nil,_=>by simp[cdL,wL,D4]
 |.cons h t,p=>by
  have h1:=B80 h p;have h2:=A6S t (p+(wS vs sp h p).length);simp only[cdL,wL,D4,z1,h1,A33 h1,h2]
theorem B8i:∀(ws:Wl) (O:Cd) (fo:Nat→List Int),(∀q,(D4 q O).flatten=fo q)→∀q,(D4 q (cdW vs sp ws O)).flatten=whB sp (two (whE sp q (wW vs sp ws)+(fo (whE sp q (wW vs sp ws))).length)) q (wW vs sp ws)++fo (whE sp q (wW vs sp ws))
 |.nil,O,fo,hO,q=>by simp only[cdW,wW,whB,whE,List.nil_append];exact hO q
 |.cons ns b t,O,fo,hO,q=>by
  have h1:=A6S b (q+(P4 sp ns).length+3);have h2:=B8i t O fo hO (A0h sp q ns (wL vs sp b));have h3:=A9n (p:=q+(P4 sp ns).length) h1 h2;have h4:=B7Z (sp:=sp) ns q;have h5:=fun E hE=>A0K sp (E:=E) hE (wW vs sp t) (A0h sp q ns (wL vs sp b));simp only[cdW,wW,whB,whE];rw[D4,z1,h4,A33 h4,h3,z4,←Nat.add_assoc];have h6:=h5 (two (whE sp (A0h sp q ns (wL vs sp b)) (wW vs sp t)+(fo (whE sp (A0h sp q ns (wL vs sp b)) (wW vs sp t))).length)) rfl;unfold A0h at*;rw[h6];simp only[z8,y5]
end
end
structure A6h (vs:List Vd)(rl kd:Nat→Int)(nC:Nat):Prop where
 at_:∀{s:BA}{v:Vd},C1 vs s=some v→byt (B3 vs 0 s)∧byt v.len∧1≤v.len∧(B3 vs 0 s).toNat+v.len.toNat≤nC∧(∀i,i<v.len.toNat→rl ((B3 vs 0 s).toNat+i)=(v.role:Int)∧kd ((B3 vs 0 s).toNat+i)=(if v.kind=3 then 2 else (v.kind:Int)))∧(v.kind=3→v.role=2)
structure A8W (sp:Int)(rl kd:Nat→Int)(nC:Nat):Prop where
 by_:byt sp
 ok:A0S rl kd nC 3 sp.toNat 1
structure CG (rl kd:Nat→Int)(nC:Nat)(c:Cd)(b a:Int):Prop where
 wf:wfC c
 cel:A4i rl kd nC c
 ht:htC c 0=some 0
 fd:(fdC c:Int)≤b
 bn:(H9 c:Int)≤12*a
section
variable {vs:List Vd}{sp:Int}{rl kd:Nat→Int}{nC:Nat}
theorem A6h.cells (h:A6h vs rl kd nC){s:BA}{v:Vd}(e:C1 vs s=some v){o:Nat}(f:(o=3∨o=5)→v.role≠0)(hd:o≠21):A0S rl kd nC o (B3 vs 0 s).toNat v.len.toNat:=by
 obtain⟨k,l,j,d,b,g⟩:=h.at_ e;have a:=b 0 (by omega);rw[Nat.add_zero] at a;refine⟨by omega,d,fun i hi=>?_,fun c=>?_,fun c=>absurd c hd⟩
 ·have:=b i hi;exact⟨this.1.trans a.1.symm,this.2.trans a.2.symm⟩
 ·rw[a.1];have:=f c;omega
theorem A6h.cell (h:A6h vs rl kd nC){s:BA}{v:Vd}(d:C1 vs s=some v){o:Nat}(f:(o=3∨o=5)→v.role≠0)(hd:o=21→v.kind=3):A0S rl kd nC o (B3 vs 0 s).toNat 1:=by
 obtain⟨k,l,j,g,b,e⟩:=h.at_ d;have a:=b 0 (by omega);rw[Nat.add_zero] at a;refine⟨by omega,by omega,fun i hi=>?_,fun c=>?_,fun c=>?_⟩
 ·have:i=0:=(by omega);subst this;exact⟨rfl,rfl⟩
 ·rw[a.1];have:=f c;omega
 ·rw[a.1,a.2,if_pos (hd c),e (hd c)];exact⟨rfl,rfl⟩
theorem Y3 (h:A6h vs rl kd nC):∀e:Ex,N9 vs e=true→okE rl kd nC vs e
 |.lit _,_=>trivial
 |.tru _,_=>trivial
 |.plc s,hw=>by
  simp only[N9] at hw;cases b:C1 vs s with
  |none=>rw[b] at hw;cases hw
  |some v=>obtain⟨d,f,j,g,_⟩:=h.at_ b;exact⟨d,by omega⟩
 |.idx s i,hw=>by
  simp only[N9,z0] at hw;cases b:C1 vs s with
  |none=>rw[b] at hw;cases hw.1.1
  |some v=>
   obtain⟨d,f,j,g,_⟩:=h.at_ b;have e:P9 vs s=v.len:=(by unfold P9;rw[b]);refine⟨Y3 h i hw.1.2,d,e▸f,?_⟩;rw[e];exact h.cells b (fun c=>by omega) (by omega)
 |.bin o l r,hw=>by
  simp only[N9,z0,decide_eq_true_eq] at hw;exact⟨hw.1.2,Y3 h l hw.1.1.1,Y3 h r hw.1.1.2⟩
 |.neg e,hw=>by simp only[N9,z0] at hw;exact Y3 h e hw.1
 |.sho e,hw=>by simp only[N9,z0] at hw;exact Y3 h e hw.1
 |.dly t a s,hw=>by
  simp only[N9,z0] at hw;cases b:C1 vs t with
  |none=>rw[b] at hw;cases hw.1.1.1.1
  |some v=>
   rw[b] at hw;exact⟨Y3 h a hw.1.1.1.2,Y3 h s hw.1.2,(h.at_ b).1,h.cell b (fun c=>by omega) (fun _=>by simpa using hw.1.1.1.1)⟩
theorem R7:∀e:Ex,0≤C5 e
 |.lit _=>z2 _
 |.tru _=>z2 _
 |.plc _=>z2 _
 |.idx _ i=>by have:=R7 i;simp only[C5];omega
 |.bin _ l r=>by have:=R7 l;simp only[C5];omega
 |.neg e=>by have:=R7 e;simp only[C5];omega
 |.sho e=>by have:=R7 e;simp only[C5];omega
 |.dly _ a s=>by have:=R7 a;simp only[C5];omega
mutual
theorem B8S:∀s:Q3,0≤H7 s
 |.set _ e=>by have:=R7 e;simp only[H7];omega
 |.setx _ i e=>by have:=R7 e;simp only[H7];omega
 |.ife c t o=>by have:=R7 c;simp only[H7];omega
 |.cas e ws o=>by have:=R7 e;simp only[H7];omega
 |.loop _ _ _ b=>by have:=A2X b;simp only[H7];omega
theorem A2X:∀l:Sl,0≤H8 l
 |.nil=>by simp[H8]
 |.cons h t=>by have:=A2X t;simp only[H8];omega
end
theorem CG.nil {d:Int}(hd:0≤d):CG rl kd nC .nil d 0:=⟨trivial,trivial,rfl,hd,by simp[H9]⟩
theorem CG.seq {a b:Cd}{d x y:Int}(c:CG rl kd nC a d x)(e:CG rl kd nC b d y):CG rl kd nC (.seq a b) d (x+y):=
 ⟨⟨c.wf,e.wf⟩,⟨c.cel,e.cel⟩,I1 c.ht e.ht,by have:=c.fd;have:=e.fd;simp only[fdC];omega,by have:=c.bn;have:=e.bn;simp only[H9];omega⟩
theorem CG.mono {c:Cd}{d d' x a:Int}(h:CG rl kd nC c d x)(hd:d≤d')(b:x≤a):CG rl kd nC c d' a:=
 ⟨h.wf,h.cel,h.ht,by have:=h.fd;omega,by have:=h.bn;omega⟩
theorem B1S (a:A8W sp rl kd nC):∀l:List Int,wfC (iqT sp l)∧A4i rl kd nC (iqT sp l)∧htC (iqT sp l) 1=some 1∧fdC (iqT sp l)=0∧H9 (iqT sp l)=4*l.length
 |[]=>⟨trivial,trivial,rfl,rfl,rfl⟩
 |n::r=>by
  obtain⟨e,g,b,d,c⟩:=B1S a r;have f:A07 rl kd nC (oc [2,sp]) (Z2 (R9 [2,sp]) 0) (U1 (R9 [2,sp]) 0):=A6n a.by_ a.ok.2.1;refine⟨⟨⟨A1O (.inl rfl) a.by_,A2C n,A2E (o:=11) (by omega),A2E (o:=15) (by omega)⟩,e⟩,⟨⟨f,M6 (.inl rfl),M6 (.inr (by decide)),M6 (.inr (by decide))⟩,g⟩,?_,?_,?_⟩
  ·exact I1 (I1 (I9 2 rfl (by decide) rfl (by decide)) (I1 (I9 1 rfl (by decide) rfl (by decide)) (I1 (I9 11 rfl (by decide) rfl (by decide)) (I9 15 rfl (by decide) rfl (by decide))))) b
  ·simp only[iqT,fdC,d];rfl
  ·simp only[iqT,H9,c,z6];omega
theorem B77 (a:A8W sp rl kd nC):∀l:List Int,0<l.length→wfC (iqC sp l)∧A4i rl kd nC (iqC sp l)∧htC (iqC sp l) 0=some 1∧fdC (iqC sp l)=0∧H9 (iqC sp l)≤4*l.length
 |[],h=>by cases h
 |n::r,_=>by
  obtain⟨e,g,b,d,c⟩:=B1S a r;have f:A07 rl kd nC (oc [2,sp]) (Z2 (R9 [2,sp]) 0) (U1 (R9 [2,sp]) 0):=A6n a.by_ a.ok.2.1;refine⟨⟨⟨A1O (.inl rfl) a.by_,A2C n,A2E (o:=11) (by omega)⟩,e⟩,⟨⟨f,M6 (.inl rfl),M6 (.inr (by decide))⟩,g⟩,?_,?_,?_⟩
  ·exact I1 (I1 (I9 2 rfl (by decide) rfl (by decide)) (I1 (I9 1 rfl (by decide) rfl (by decide)) (I9 11 rfl (by decide) rfl (by decide)))) b
  ·simp only[iqC,fdC,d];rfl
  ·simp only[iqC,H9,c,z6];omega
theorem B2K {t e:Cd}{j:Bool}(a:htC t 0=some 0)(b:htC e 0=some 0):htC (.ite t e j) 1=some 0:=by simp[htC,a,b]
theorem CG.ife {c:Ex}{t e:Cd}{d x y:Int}(j:Bool)(g:j=false→e=.nil)(f:okE rl kd nC vs c)(hd:C5 c≤20)(a:CG rl kd nC t d x)(b:CG rl kd nC e d y):CG rl kd nC (.seq (cdE vs c) (.ite t e j)) d (1+cE c+max x y):=by
 have i:=V1 vs c;have l:=a.fd;have m:=b.fd;have k:=a.bn;have h:=b.bn;refine⟨⟨Z5 c f,a.wf,b.wf,g⟩,⟨U9 c f,a.cel,b.cel⟩,I1 (Z4 c 0 f (by omega)).2 (B2K a.ht b.ht),?_,?_⟩
 ·simp only[fdC,A0w];omega
 ·simp only[H9];have:jz j≤1:=(by unfold jz;split<;>omega);omega
mutual
theorem cgS (hc:A6h vs rl kd nC):∀(s:Q3) (ls:LB),wtS vs ls s=true→okS s=true→H7 s≤20→cS s≤65000→(kpS s=true→A8W sp rl kd nC)→CG rl kd nC (cdS vs sp s) (H7 s) (cS s)
 |.set s e,ls,hw,_,hd,_,_=>by
  simp only[wtS] at hw;unfold A5B at hw;cases hl:C1 vs s with
  |none=>rw[hl] at hw;cases hw
  |some v=>
   rw[hl] at hw;simp only[z0,decide_eq_true_eq] at hw;have ho:=Y3 hc e hw.1.1.1.1.2;have hb:=V1 vs e;have hp:=R7 e;simp only[H7] at hd;simp only[cdS,H7,cS];refine⟨⟨Z5 e ho,A1O (.inr (.inl rfl)) (hc.at_ hl).1⟩,⟨U9 e ho,A1Y (.inr (.inl rfl)) (hc.at_ hl).1 (hc.cell hl (fun _=>hw.1.2) (fun c=>absurd c (by decide)))⟩,I1 (Z4 e 0 ho (by omega)).2 (I9 3 rfl (by decide) rfl (by decide)),?_,?_⟩
   ·simp only[fdC,A0w];omega
   ·simp only[H9];omega
 |.setx s i e,ls,hw,_,hd,_,_=>by
  simp only[wtS] at hw;unfold A3t at hw;cases hl:C1 vs s with
  |none=>rw[hl] at hw;cases hw
  |some v=>
   rw[hl] at hw;simp only[z0,decide_eq_true_eq] at hw;have hi:=Y3 hc i hw.1.1.1.1.1.1.2;have ho:=Y3 hc e hw.1.1.1.1.2;have hb:=V1 vs e;have hbi:=V1 vs i;have hp:=R7 e;have e1:P9 vs s=v.len:=(by unfold P9;rw[hl]);simp only[H7] at hd;simp only[cdS,H7,cS,e1];refine⟨⟨⟨Z5 i hi,Z5 e ho⟩,A7J (.inr rfl) (hc.at_ hl).1 (hc.at_ hl).2.1⟩,⟨⟨U9 i hi,U9 e ho⟩,A5F (.inr rfl) (hc.at_ hl).1 (hc.at_ hl).2.1 (hc.cells hl (fun _=>hw.1.2) (by decide))⟩,I1 (I1 (Z4 i 0 hi (by omega)).2 (Z4 e 1 ho (by omega)).2) (I9 5 rfl (by decide) rfl (by decide)),?_,?_⟩
   ·simp only[fdC,A0w];omega
   ·simp only[H9];omega
 |.ife c t .nil,ls,hw,hk,hd,hcs,hsp=>by
  simp only[wtS,z0] at hw;simp only[okS,z0] at hk;simp only[H7] at hd;simp only[cS] at hcs;have h1:=B5 c;have h2:=cgL hc t ls hw.1.2 hk.1.2 (by omega) (by omega) (fun h=>hsp (by simp only[kpS,h,y7]));have h3:=R7 c;have h4:=A2X t;simp only[cdS,H7,cS];exact (CG.ife false (fun _=>rfl) (Y3 hc c hw.1.1.1) (by omega) h2 (CG.nil h4)).mono (by omega) (by simp only[C0];omega)
 |.ife c t (.cons h u),ls,hw,hk,hd,hcs,hsp=>by
  simp only[wtS,Q9,z0] at hw;simp only[okS,okL,z0] at hk;simp only[H7,H8] at hd;simp only[cS,C0] at hcs;have h1:=B5 c;have h2:=cgL hc t ls hw.1.2 hk.1.2 (by omega) (by omega) (fun h=>hsp (by simp only[kpS,h,y7]));have q1:=A2L h;have q2:=G2 u;have h3:=cgS hc h ls hw.2.1 hk.2.1 (by omega) (by omega) (fun h=>hsp (by simp only[kpS,kpL,h,y7,x2]));have h4:=cgL hc u ls hw.2.2 hk.2.2 (by omega) (by omega) (fun h=>hsp (by simp only[kpS,kpL,h,x2]));have h5:=(h3.mono (d':=max (H7 h) (H8 u)) (by omega) (z2 _)).seq (h4.mono (d':=max (H7 h) (H8 u)) (by omega) (z2 _));have h6:=R7 c;simp only[cdS,H7,cS,H8,C0];exact (CG.ife true (fun h=>by cases h) (Y3 hc c hw.1.1.1) (by omega) (h2.mono (d':=max (H8 t) (max (H7 h) (H8 u))) (by omega) (z2 _)) (h5.mono (by omega) (z2 _))).mono (by omega) (z2 _)
 |.cas e ws o,ls,hw,hk,hd,hcs,hsp=>by
  simp only[wtS,z0] at hw;simp only[okS,z0] at hk;simp only[H7] at hd;simp only[cS] at hcs;have hs:=hsp rfl;have h1:=B5 e;have q1:=G2 o;have q2:=A2I ws;have q3:=A2G ws (C0 o);have h2:=cgL hc o ls hw.2 hk.2 (by omega) (by omega) (fun _=>hs);have h3:=cgW hc hs ws ls hw.1.2 hk.1.2 (by omega) (by omega) h2;have ho:=Y3 hc e hw.1.1.1;have hb:=V1 vs e;have hp:=R7 e;have f1:=h3.fd;have b1:=h3.bn;simp only[cdS,H7,cS];refine⟨⟨Z5 e ho,A1O (.inr (.inl rfl)) hs.by_,h3.wf⟩,⟨U9 e ho,A1Y (.inr (.inl rfl)) hs.by_ hs.ok,h3.cel⟩,I1 (Z4 e 0 ho (by omega)).2 (I1 (I9 3 rfl (by decide) rfl (by decide)) h3.ht),?_,?_⟩
  ·simp only[fdC,A0w];omega
  ·simp only[H9];omega
 |.loop s f l b,ls,hw,hk,hd,hcs,hsp=>by
  simp only[wtS,z0] at hw;simp only[okS] at hk;simp only[H7] at hd;simp only[cS] at hcs;cases hl:C1 vs s with
  |none=>rw[hl] at hw;cases hw.1
  |some v=>
   rw[hl] at hw;simp only[z0,decide_eq_true_eq] at hw;have hr:v.role≠0:=(by rw[hw.1.1.1.1];decide);have hby:=(hc.at_ hl).1;have p3:A2R [3,B3 vs 0 s]:=A1O (.inr (.inl rfl)) hby;have i3:=A1Y (.inr (.inl rfl)) hby (hc.cell hl (o:=3) (fun _=>hr) (fun c=>absurd c (by decide)));have i2:=A1Y (.inl rfl) hby (hc.cell hl (o:=2) (fun _=>hr) (fun c=>absurd c (by decide)));have hp:=A2X b;have hN:=A2P f l;rw[←hN] at hcs;simp only[cdS,H7,cS];rw[←hN];by_cases hz:U6 f l=0
   ·rw[if_pos hz];refine⟨⟨A2C f,p3⟩,⟨M6 (.inl rfl),i3⟩,I1 (I9 1 rfl (by decide) rfl (by decide)) (I9 3 rfl (by decide) rfl (by decide)),?_,?_⟩
    ·simp only[fdC];omega
    ·simp only[H9,hz];omega
   ·rw[if_neg hz];have q1:=G2 b;have hn:(U6 f l:Int)*(1+C0 b)=(U6 f l:Int)+U6 f l*C0 b:=(by rw[Int.mul_add,Int.mul_one]);have hn1:0≤(U6 f l:Int)*C0 b:=Int.mul_nonneg (by omega) q1;have hn2:C0 b≤(U6 f l:Int)*C0 b:=(by have:=Int.mul_le_mul_of_nonneg_right (a:=1) (b:=(U6 f l:Int)) (c:=C0 b) (by omega) q1;rwa [Int.one_mul] at this);have h2:=cgL hc b (ls++[s]) hw.2 hk (by omega) (by omega) (fun h=>hsp (by simp only[kpS,if_neg hz,h]));have f1:=h2.fd;have b1:=h2.bn;refine⟨⟨A2C _,p3,⟨by omega,by omega⟩,A1O (.inl rfl) hby,A2C 1,A2E (o:=6) (by omega),p3,h2.wf⟩,⟨M6 (.inl rfl),i3,i2,M6 (.inl rfl),M6 (.inr (by decide)),i3,h2.cel⟩,?_,?_,?_⟩
    ·refine I1 (m:=1) (I9 1 rfl (by decide) rfl (by decide)) (I1 (m:=0) (I9 3 rfl (by decide) rfl (by decide)) ?_);have:htC (.seq (.one [2,B3 vs 0 s]) (.seq (.one (K9 1)) (.seq (.one [6]) (.seq (.one [3,B3 vs 0 s]) (cdL vs sp b))))) 0=some 0:=I1 (I9 2 rfl (by decide) rfl (by decide)) (I1 (I9 1 rfl (by decide) rfl (by decide)) (I1 (I9 6 rfl (by decide) rfl (by decide)) (I1 (I9 3 rfl (by decide) rfl (by decide)) h2.ht)));rw[htC,if_pos this]
    ·simp only[fdC];omega
    ·simp only[H9];have e:(((1+(1+(1+U6 f l*(1+(1+(1+(1+H9 (cdL vs sp b))))+1)))):Nat):Int)=3+(U6 f l:Int)*(5+(H9 (cdL vs sp b):Int)):=(by rw[show 1+(1+(1+(1+H9 (cdL vs sp b))))+1=5+H9 (cdL vs sp b) by omega];simp only[Int.natCast_add,Int.natCast_mul,show ((5:Nat):Int)=5 from rfl];omega);have e2:(U6 f l:Int)*(5+(H9 (cdL vs sp b):Int))≤(U6 f l:Int)*(5+12*C0 b):=Int.mul_le_mul_of_nonneg_left (by omega) (by omega);have e3:(U6 f l:Int)*(5+12*C0 b)=5*(U6 f l:Int)+12*((U6 f l:Int)*C0 b):=(by rw[Int.mul_add,Int.mul_left_comm,Int.mul_comm _ 5]);omega
theorem cgL (hc:A6h vs rl kd nC):∀(l:Sl) (ls:LB),Q9 vs ls l=true→okL l=true→H8 l≤20→C0 l≤65000→(kpL l=true→A8W sp rl kd nC)→CG rl kd nC (cdL vs sp l) (H8 l) (C0 l)
 |.nil,_,_,_,_,_,_=>by simp only[cdL,H8,C0];exact CG.nil (z2 _)
 |.cons h t,ls,hw,hk,hd,hcs,hsp=>by
  simp only[Q9,z0] at hw;simp only[okL,z0] at hk;simp only[H8] at hd;simp only[C0] at hcs;have q1:=A2L h;have q2:=G2 t;have h3:=cgS hc h ls hw.1 hk.1 (by omega) (by omega) (fun h=>hsp (by simp only[kpL,h,y7]));have h4:=cgL hc t ls hw.2 hk.2 (by omega) (by omega) (fun h=>hsp (by simp only[kpL,h,x2]));simp only[cdL,H8,C0];exact (h3.mono (d':=max (H7 h) (H8 t)) (by omega) (z2 _)).seq (h4.mono (d':=max (H7 h) (H8 t)) (by omega) (z2 _))
theorem cgW (hc:A6h vs rl kd nC)(hs:A8W sp rl kd nC):∀(ws:Wl) (ls:LB),wtW vs ls ws=true→okW ws=true→A1T ws≤20→∀{O:Cd}{d x:Int},cW ws x≤65000→CG rl kd nC O d x→CG rl kd nC (cdW vs sp ws O) (max (A1T ws) d) (cN ws+cW ws x)
 |.nil,_,_,_,_,O,d,x,_,h=>by simp only[cdW,A1T,cN,cW];exact h.mono (by omega) (by omega)
 |.cons ns b t,ls,hw,hk,hd,O,d,x,hx,h=>by
  simp only[wtW,z0] at hw;simp only[okW,z0,decide_eq_true_eq] at hk;simp only[A1T] at hd;simp only[cW] at hx;have g1:=A2G t (max x (C0 b));have h1:=cgL hc b ls hw.1.2 hk.1 (by omega) (by omega) (fun _=>hs);have h2:=cgW hc hs t ls hw.2 hk.2.1 (by omega) (x:=max x (C0 b)) (by omega) (h.mono (z2 _) (by omega));obtain⟨i1,i2,i3,i4,i5⟩:=B77 hs ns hk.2.2;have f1:=h1.fd;have f2:=h2.fd;have b1:=h1.bn;have b2:=h2.bn;have n2:=A2I t;simp only[cdW,A1T,cN,cW];refine⟨⟨i1,h1.wf,h2.wf,fun h=>by cases h⟩,⟨i2,h1.cel,h2.cel⟩,I1 i3 (B2K h1.ht h2.ht),?_,?_⟩
  ·simp only[fdC,i4];omega
  ·simp only[H9,jz,if_true];omega
end
end
theorem A9Z:∀(vs:List Vd) (a:Int) (s:BA) (v:Vd),(∀v∈vs,0≤v.len)→C1 vs s=some v→∃k:Nat,B3 vs a s=a+k∧k+v.len.toNat≤(B8 vs).length∧∀i,i<v.len.toNat→(B8 vs)[k+i]? =some (Z1 v)
 |[],_,_,_,_,h=>by cases h
 |u::t,a,s,v,hv,h=>by
  have f:=hv u (z5 ..);simp only[C1] at h;simp only[B3,B8];by_cases e:s=u.name
  ·rw[if_pos e] at h;injection h with h;subst h;rw[if_pos e];refine⟨0,by simp,by simp,fun i hi=>?_⟩;rw[x1,y3 (by simpa using hi),List.getElem?_replicate,if_pos hi]
  ·rw[if_neg e] at h;rw[if_neg e];obtain⟨k,d,g,c⟩:=A9Z t (a+u.len) s v (fun v b=>hv v (z3 _ b)) h;refine⟨u.len.toNat+k,by omega,by simp;omega,fun i hi=>?_⟩;rw[y1 (by simp;omega),y0,show u.len.toNat+k+i-u.len.toNat=k+i by omega];exact c i hi
theorem B0a:∀(vs:List Vd) (s:BA) (v:Vd),C1 vs s=some v→v∈vs
 |[],_,_,h=>by cases h
 |u::t,s,v,h=>by
  simp only[C1] at h;split at h
  ·injection h with h;subst h;exact z5 ..
  ·exact z3 _ (B0a t s v h)
theorem A1q {v:Vd}(h:wtV v=true):1≤v.len∧v.len≤16∧(v.kind=3→v.role=2):=by simp only[wtV,z0,Bool.or_eq_true,decide_eq_true_eq] at h;exact⟨h.1.2,h.2,fun e=>h.1.1.resolve_left (fun c=>c e)⟩
theorem A4V {v:Vd}(b:v.kind≤3)(a:v.role≤2):0≤Z1 v∧Z1 v≤8∧(Z1 v).toNat/3=v.role∧(Z1 v).toNat%3=(if v.kind=3 then 2 else v.kind):=by unfold Z1;split<;>omega
theorem A5q:∀(vs:List Vd),(∀v∈vs,v.kind≤3∧v.role≤2)→∀n∈B8 vs,0≤n∧n≤8
 |[],_,n,a=>by simp[B8] at a
 |v::t,h,n,a=>by
  simp only[B8,List.mem_append] at a;rcases a with a|a
  ·have b:=h v (z5 ..);rw[List.eq_of_mem_replicate a];have:=A4V b.1 b.2;omega
  ·exact A5q t (fun v c=>h v (z3 _ c)) n a
theorem B9k {vs:List Vd}{tl:List Int}{s:BA}(g:∀i n,(B8 vs++tl)[i]? =some n→bt s (7+i)=n.toNat)(c:∀v∈vs,wtV v=true)(b:∀v∈vs,v.kind≤3∧v.role≤2)(p:(B8 vs).length≤100):A6h vs (A2k s) (A2w s) (B8 vs++tl).length:=by refine⟨fun {n}{v} h=>?_⟩;have a:=B0a vs n v h;have d:=A1q (c v a);obtain⟨k,o,q,j⟩:=A9Z vs 0 n v (fun u f=>by have:=A1q (c u f);omega) h;have m:(B3 vs 0 n).toNat=k:=(by omega);have e:=A4V (b v a).1 (b v a).2;refine⟨⟨by omega,by omega⟩,⟨by omega,by omega⟩,d.1,by rw[z4];omega,fun i hi=>?_,d.2.2⟩;rw[m];have l:=g (k+i) (Z1 v) (by rw[y3 (by omega)];exact j i hi);unfold A2k A2w;rw[l,e.2.2.1,e.2.2.2];refine⟨rfl,?_⟩;split<;>rfl
def kdF (rl kd:Nat→Nat)(r n:Nat):List Nat:=((List.range n).filter (fun i=>rl i==r)).map kd
theorem B2f (rl kd:Nat→Nat)(r n:Nat):kdF rl kd r (n+1)=kdF rl kd r n++(if rl n=r then [kd n] else []):=by
 unfold kdF;rw[List.range_succ,y2,y9];congr 1;by_cases h:rl n=r
 ·simp[h]
 ·simp[h]
theorem B2J (g:Nat→Nat)(r:Nat)(a:List Int)(h:∀i n,a[i]? =some n→g i=n.toNat):kdF (fun i=>g i/3) (fun i=>g i%3) r a.length=(a.filter (fun n=>n.toNat/3==r)).map (fun n=>n.toNat%3):=by have e:a.map Int.toNat=(List.range a.length).map g:=(by refine List.ext_getElem (by simp) (fun i c d=>?_);simp only[List.getElem_map,List.getElem_range];exact (h i _ (y4 (by simpa using c))).symm);have b:kdF (fun i=>g i/3) (fun i=>g i%3) r a.length=(((List.range a.length).map g).filter (fun n=>n/3==r)).map (fun n=>n%3):=(by unfold kdF;rw[List.filter_map,List.map_map];rfl);rw[b,←e,List.filter_map,List.map_map];rfl
def kdV (r:Nat):List Vd→List Nat
 |[]=>[]
 |v::t=>(if v.role=r then z9 v.len.toNat v.kind else [])++kdV r t
theorem A5D {r:Nat}(g:r≤1):∀(vs:List Vd),(∀v∈vs,wtV v=true)→(∀v∈vs,v.kind≤3∧v.role≤2)→((B8 vs).filter (fun n=>n.toNat/3==r)).map (fun n=>n.toNat%3)=kdV r vs
 |[],_,_=>rfl
 |v::t,hw,hv=>by
  have h:=A1q (hw v (z5 ..));have d:=hv v (z5 ..);have b:=A4V d.1 d.2;simp only[B8,kdV,y2,y9];rw[A5D g t (fun u a=>hw u (z3 _ a)) (fun u a=>hv u (z3 _ a))];congr 1;by_cases e:v.role=r
  ·have f:v.kind≠3:=fun c=>by have:=h.2.2 c;omega
   rw[if_pos e,x0,if_pos (by rw[b.2.2.1];simpa using e),List.map_replicate,b.2.2.2,if_neg f]
  ·rw[if_neg e,x0,if_neg (by rw[b.2.2.1];simpa using e)];rfl
structure ImR (vs:List Vd)(body:Sl)(s:BA)(bd:Int):Prop where
 ok:A1H s bd
 le:bd≤12*(1+C0 body)
 kds:∀r,r≤1→kdF (fun i=>bt s (7+i)/3) (fun i=>bt s (7+i)%3) r (bt s 6)=kdV r vs
 nc:bt s 6≤100
 size:s.size≤8200
theorem B9e {a:List Int}{s:BA}(b:bt s (7+a.length)=8)(d:a.length≤100):A8W (a.length:Int) (A2k s) (A2w s) (a++[8]).length:=by
 refine⟨⟨by omega,by omega⟩,by omega,by rw[z4];simp,fun i hi=>?_,fun _=>?_,fun c=>by omega⟩
 ·have:i=0:=(by omega);subst this;exact⟨rfl,rfl⟩
 ·unfold A2k;rw[Int.toNat_natCast,b];decide
theorem B0l {vs:List Vd}{body:Sl}(e:∀v∈vs,A6o v)(m:∀v∈vs,wtV v=true)(g:Q9 vs [] body=true)(l:okL body=true)(o:N4 vs≤60)(p:O6 body≤700)(s:H8 body≤10)(G:C0 body≤3999):∃bd,ImR vs body (A08 vs body) bd:=by
 have u:=A0v vs m;have f:∀v∈vs,v.kind≤3∧v.role≤2:=fun v h=>⟨(e v h).1,(e v h).2.1⟩;obtain⟨tl,a⟩:∃tl:List Int,tl=if kpL body=true then [8] else []:=⟨_,rfl⟩;have A:A08 vs body=A2V (B8 vs++tl) (X1 (cdL vs ((B8 vs).length:Int) body)).flatten:=by
  have y:(X1 (cdL vs ((B8 vs).length:Int) body)).flatten=wL vs ((B8 vs).length:Int) body 0++[0]:=(by unfold X1;rw[z1,A6S];rfl);rw[y,a];unfold A08;split
  ·rfl
  ·rw[z7];rfl
 have t:tl.length≤1:=(by rw[a];split<;>simp);have d:∀n∈B8 vs++tl,0≤n∧n≤8:=fun n C=>(List.mem_append.1 C).elim (A5q vs f n) (fun h=>by
  rw[a] at h;split at h
  ·rw[List.mem_singleton.1 h];omega
  ·cases h)
 have b:(B8 vs++tl).length≤100:=(by rw[z4];omega);have E:V7 (cdL vs ((B8 vs).length:Int) body)≤7999:=(by rw[A33 (A6S body 0)];have:=A1t (vs:=vs) (sp:=((B8 vs).length:Int)) body 0;omega);have F:=A5R (B8 vs++tl) (X1 (cdL vs ((B8 vs).length:Int) body)).flatten b d (by rw[A4q];omega);rw[A];have j:=B9k (tl:=tl) F.cell m f (by omega);have k:kpL body=true→A8W ((B8 vs).length:Int) (A2k (A2V (B8 vs++tl) (X1 (cdL vs ((B8 vs).length:Int) body)).flatten)) (A2w (A2V (B8 vs++tl) (X1 (cdL vs ((B8 vs).length:Int) body)).flatten)) (B8 vs++tl).length:=fun z=>by rw[if_pos z] at a;have:=F.cell (B8 vs).length 8 (by rw[a,y1 (Nat.le_refl _)];simp);rw[a] at this ⊢;exact B9e this (by omega)
 have c:=cgL j body [] g l (by omega) (by omega) k;have x:=c.bn;have B:=c.fd;have q:=(B18 b d c.wf E (by omega) c.ht (by omega) c.cel).1;refine⟨_,q,by omega,fun r D=>?_,by rw[F.nc];exact b,by rw[F.size,A4q];omega⟩;rw[F.nc,B2J (fun i=>bt (A2V (B8 vs++tl) (X1 (cdL vs ((B8 vs).length:Int) body)).flatten) (7+i)) r _ F.cell,y2,y9,A5D D vs m f];rw[a];split
 ·have:(List.filter (fun n:Int=>n.toNat/3==r) [8])=[]:=by
   rw[List.filter_cons_of_neg]
   ·rfl
   ·simp;omega
  rw[this,List.map_nil,z7]
 ·rw[List.filter_nil,List.map_nil,z7]
theorem B3M (rl a:Nat→Nat)(r n:Nat):(kdF rl a r n).length≤n:=by unfold kdF;rw[List.length_map];exact Nat.le_trans (List.length_filter_le ..) (by simp)
theorem A9O (r:Nat)(w:WD)(bm bx e capc:Nat)(acc:Option Addr)(rl j:Nat→Nat)(O:e≤100)(A:w.cell? ⟨bm,0,none⟩=some (.pointer (some ⟨bx,0,none⟩)))(B:w.cell? ⟨bx,0,none⟩=some (.slice acc e capc))(q:0<e→∃s,acc=some ⟨s,0,none⟩∧R8 w s 111 2 e capc (A1c rl j))(R:RP)(m:∀v w',Below w.heap.size w w'→w'.ownsRow w.heap.size 3 1 v (kdF rl j r e).length (A3P (kdF rl j r e))→R (.returned v) w'):Calls Tryz.prog 18 #[.pointer (some ⟨bm,0,none⟩),.int .i64 (r:Int)] w R:=by
 have y:=y6 w _ A;have u:=y6 w _ B;replace m:=hd m;replace q:=hd q;go_enter Tryz.func18,Tryz.ntmps18;go_wp2;go_loopw [5,6] (fun v i wr=>∃(k:Nat),k≤e∧i=.int .i64 k∧wr.ownsRow w.heap.size 3 1 v (kdF rl j r k).length (A3P (kdF rl j r k))∧Below w.heap.size w wr) (fun _ i _=>e-(intOf i).toNat);case atStart=>exact⟨0,by omega,rfl,World.ownsRow_nil _ _ _ _,Below.refl _ _⟩
 case round=>
  rename_i u3 u11;obtain⟨k,C,rfl,b,a⟩:=hrel;obtain⟨N,M,rfl⟩:=V4 b;have z:=B3M rl j r k;have L:wr.cell? ⟨bm,0,none⟩=some (.pointer (some ⟨bx,0,none⟩)):=(a.cell (p:=⟨bm,0,none⟩) y).trans A;have P:wr.cell? ⟨bx,0,none⟩=some (.slice acc e capc):=(a.cell (p:=⟨bx,0,none⟩) u).trans B;have x:=a.size;by_cases n:k<e
  ·obtain⟨s,rfl,l⟩:=q.out (by omega);have h:=l.of_block (w':=wr) (a.block s l.lt);have E:=h.cell0 n (by omega);rw[A6I] at E;have F:=h.cell n (f:=1) (by omega);rw[A6H] at F;have I:=h.lt;have J:(0:Int)≤(k:Int)∧(k:Int)<(e:Int):=(by omega);clear h l;replace a:=hd a;have d:=B2f rl j r k;by_cases o:rl k=r
   ·have H:((rl k:Int)==(r:Int))=true:=(by simp[o]);rw[if_pos o] at d;replace d:=hd d;replace o:=hd o;replace b:=hd b;go_wp2_with (first|(at_builtin;refine C3 _ rfl _ _ 38 rfl w.heap.size 3 _ 1 8 A5w A19 rfl (by decide) _ _ _ rfl (by exact b.out.alloc _) _ 1 1 [.int .i64 (j k:Int)] rfl (by exact A9 (by simp)) rfl (A4f _) (by unfold maxLen;omega) (by omega) (by simp;omega) ?_;intro K w1 c g;obtain⟨D,G,rfl⟩:=V4 c;replace c:=hd c;replace g:=hd g));refine⟨⟨k+1,by omega,by go_num,?_,?_⟩,by simp[intOf];omega⟩
    ·rw[d.out];have:=c.out;simpa[A3P] using this
    ·exact (a.out.alloc x _).grown g.out (by simp;omega) (fun k q=>(b.out.lt k q).1)
   ·have H:((rl k:Int)==(r:Int))=false:=(by simp;omega);rw[if_neg o,z7] at d;replace d:=hd d;replace b:=hd b;go_wp2;exact⟨⟨k+1,by omega,by go_num,by rw[d.out];exact b.out,a.out⟩,by simp[intOf];omega⟩
  ·have t:k=e:=(by omega);subst t;replace b:=hd b;replace a:=hd a;go_wp2;exact A6 (m.out _ _ a.out b.out) rfl
theorem A89 (r:Nat):∀a b:List Vd,kdV r (a++b)=kdV r a++kdV r b
 |[],_=>rfl
 |v::t,b=>by simp only[y5,kdV,A89 r t b,z8]
theorem B3h {r:Nat}{vs:List Vd}{i:Nat}{v:Vd}(h:vs[i]? =some v):kdV r (vs.take (i+1))=kdV r (vs.take i)++(if v.role=r then z9 v.len.toNat v.kind else []):=by rw[X9 h,A89];simp only[kdV,z7]
theorem A32 (r:Nat):∀vs:List Vd,(∀v∈vs,v.len≤16)→(kdV r vs).length≤16*vs.length
 |[],_=>Nat.le_refl _
 |v::t,h=>by
  have b:=h v (z5 ..);have c:=A32 r t (fun u a=>h u (z3 _ a));simp only[kdV,z4,z6];split
  ·rw[y0];omega
  ·simp only[y8];omega
theorem B2z {vs:List Vd}{pb m:Nat}{av:VL}{w:WD}(h:Dg vs pb m av w)(T:∀v∈vs,A6o v)(hw:∀v∈vs,wtV v=true)(r:Nat)(R:RP)(G:∀v w',Below w.heap.size w w'→w'.ownsRow w.heap.size 3 1 v (kdV r vs).length (A3P (kdV r vs))→R (.returned v) w'):Calls Tryz.prog 17 #[.pointer (some ⟨pb,0,none⟩),.int .i64 (r:Int)] w R:=by
 obtain⟨sv,C⟩:=h.pr;obtain⟨ao,U,rfl,hcp,y⟩:=h.sl;have c0:=A1 (i:=0) C rfl;have lb:pb<w.heap.size:=(Array.getElem?_eq_some_iff.1 C).1;have hsm:=h.sm;replace G:=hd G;replace h:=hd h;replace C:=hd C;replace y:=hd y;go_enter Tryz.func17,Tryz.ntmps17;go_wp2;go_loopw [5,6] (fun Q iv wr=>∃i:Nat,i≤vs.length∧iv=.int .i64 (i:Int)∧wr.ownsRow w.heap.size 3 1 Q (kdV r (vs.take i)).length (A3P (kdV r (vs.take i)))∧Below w.heap.size w wr) (fun _ iv _=>vs.length-(intOf iv).toNat);case atStart=>exact⟨0,Nat.zero_le _,rfl,World.ownsRow_nil _ _ _ _,Below.refl _ _⟩
 case round=>
  obtain⟨i,hi,rfl,c,d⟩:=hrel;rename WD=>wr;obtain⟨ao0,cp0,rfl⟩:=V4 c;have hzr:=d.size;have c0r:wr.cell? ⟨pb,0,none⟩=some (.slice ao vs.length U):=(d.cell (p:=⟨pb,0,none⟩) lb).trans c0;have lbr:pb<wr.heap.size:=(by omega);by_cases z:i<vs.length
  ·have td:decide ((i:Int)<(vs.length:Int))=true:=(by simp;omega);have j0:(0:Int)≤(i:Int)∧(i:Int)<(vs.length:Int):=(by omega);obtain⟨g,rfl,hg,N⟩:=y.out (by omega);obtain⟨v,J⟩:∃v,vs[i]? =some v:=⟨_,y4 z⟩;have F:=List.mem_of_getElem? J;have hwt:=A1q (hw v F);have B:ceD v=v.len:=by
    have:=T v F;unfold ceD szD c40;cases ha:v.arr
    ·have:=this.2.2.2.1 ha;simp;omega
    ·have:=this.2.2.1 ha;simp only[if_true];split<;>omega
   have D:=B3h (r:=r) J;have P:=A32 r (vs.take i) (fun u hu=>(A1q (hw u (List.mem_of_mem_take hu))).2.1);rw[List.length_take] at P;generalize kdV r (vs.take i)=L0 at*;replace D:=hd D;replace c:=hd c;replace d:=hd d;replace J:=hd J;replace N:=hd N;go_wp2;go_loopw [5,7] (fun Q O A=>∃k:Nat,(k:Int)≤v.len∧(v.role≠r→k=0)∧O=.int .i64 (k:Int)∧A.ownsRow w.heap.size 3 1 Q (L0++z9 k v.kind).length (A3P (L0++z9 k v.kind))∧Below w.heap.size w A) (fun _ O _=>v.len.toNat-(intOf O).toNat);case atStart=>exact⟨0,by omega,fun _=>rfl,rfl,by simpa using c.out,d.out⟩
   case round=>
    obtain⟨k,hk,K,rfl,l,b⟩:=hrel;obtain⟨H,s⟩:∃H,H=L0++z9 k v.kind:=⟨_,rfl⟩;rw[←s] at l;have hll:H.length≤L0.length+16:=(by rw[s,z4,y0];omega);obtain⟨ao3,cp3,rfl⟩:=V4 l;replace s:=hd s;rename WD=>A;have S:=b.size;have t:=N.out.of_block (w':=A) (b.block g N.out.lt);have L:vs.getD i ⟨⟨#[]⟩,0,0,false,0⟩=v:=(by rw[List.getD_eq_getElem?_getD,J.out];rfl);have k0:A.cell? ⟨g,i*4,none⟩=some (.int .i64 (v.role:Int)):=(by rw[t.cell0 z (by omega)];unfold dgA;rw[L];rfl);have k1:A.cell? ⟨g,i*4+1,none⟩=some (.string v.name):=(by rw[t.cell z (f:=1) (by omega)];unfold dgA;rw[L];rfl);have k2:A.cell? ⟨g,i*4+2,none⟩=some (.int .i64 (v.kind:Int)):=(by rw[t.cell z (f:=2) (by omega)];unfold dgA;rw[L];rfl);have k3:A.cell? ⟨g,i*4+3,none⟩=some (.int .i64 (szD v)):=(by rw[t.cell z (f:=3) (by omega)];unfold dgA;rw[L];rfl);have X:A.cell? ⟨pb,0,none⟩=some (.slice (some ⟨g,0,none⟩) vs.length U):=(b.cell (p:=⟨pb,0,none⟩) lb).trans c0;have V:=t.lt;have j0q:(0:Int)≤(i:Int)∧(i:Int)<(vs.length:Int):=j0;have jk:IntKind.i64.wrap ((k:Int)+1)=(k:Int)+1:=IntWalk.i64_in _ (by omega);have aa:pb<A.heap.size:=(by omega);clear L t;replace l:=hd l;replace b:=hd b;go_wp2_with (fail);refine A5H _ v _ ?_;intro I q;rw[B];have n:=b.out.trans (q.mono S);have Y:=n.size;have c04:I.cell? ⟨pb,0,none⟩=some (.slice (some ⟨g,0,none⟩) vs.length U):=(q.cell (p:=⟨pb,0,none⟩) aa).trans X;have k04:I.cell? ⟨g,i*4,none⟩=some (.int .i64 (v.role:Int)):=(q.cell (p:=⟨g,i*4,none⟩) V).trans k0;have k24:I.cell? ⟨g,i*4+2,none⟩=some (.int .i64 (v.kind:Int)):=(q.cell (p:=⟨g,i*4+2,none⟩) V).trans k2;have a:=A5 (w':=I) l.out (fun j _ _ hj=>q.block j hj);have lb4:pb<I.heap.size:=(by omega);have lg4:g<I.heap.size:=Nat.lt_of_lt_of_le V q.size;by_cases M:(k:Int)<v.len
    ·have tk:decide ((k:Int)<v.len)=true:=(by simpa using M);by_cases E:v.role=r
     ·have tr:((v.role:Int)==(r:Int))=true:=(by simp[E]);have hbd:H.length+1≤1000000:=(by omega);replace E:=hd E;replace n:=hd n;replace a:=hd a;clear q B;go_wp2_with (first|(at_builtin;refine C3 _ rfl _ _ 38 rfl w.heap.size 3 _ 1 8 A5w A19 rfl (by decide) _ _ _ rfl (by exact a.out.alloc _) _ 1 1 [.int .i64 (v.kind:Int)] rfl (by exact A9 (by simp)) rfl (A4f _) (by unfold maxLen;omega) (by omega) (by simp;omega) ?_;intro v5 w5 o x;obtain⟨ao5,cp5,rfl⟩:=V4 o;replace o:=hd o;replace x:=hd x));refine⟨⟨k+1,by omega,fun h=>absurd E.out h,by go_num,?_,?_⟩,by simp[intOf];omega⟩
      ·have:=o.out;rw[List.replicate_succ',←z8,←s.out];unfold A3P at this ⊢;simpa using this
      ·exact (n.out.alloc Y _).grown x.out (by simp;omega) (fun k hk=>(a.out.lt k hk).1)
     ·have tr:((v.role:Int)==(r:Int))=false:=(by simp;omega);have Z:=K E;subst Z;have e:H=kdV r (vs.take (i+1)):=(by rw[D.out,if_neg E,s.out];simp);rw[e] at a ⊢;replace n:=hd n;replace a:=hd a;replace e:=hd e;clear q B;go_wp2;exact⟨⟨i+1,by omega,by go_num,a.out,n.out⟩,by simp[intOf];omega⟩
    ·have tk:decide ((k:Int)<v.len)=false:=(by simpa using M);have e:H=kdV r (vs.take (i+1)):=by
      rw[D.out,s.out];by_cases E:v.role=r
      ·rw[if_pos E,show k=v.len.toNat by omega]
      ·have:=K E;omega
     rw[e] at a ⊢;replace n:=hd n;replace a:=hd a;replace e:=hd e;clear q B;go_wp2;exact⟨⟨i+1,by omega,by go_num,a.out,n.out⟩,by simp[intOf];omega⟩
  ·have td:decide ((i:Int)<(vs.length:Int))=false:=(by simp;omega);have hie:i=vs.length:=(by omega);subst hie;rw[List.take_length] at c ⊢;replace c:=hd c;replace d:=hd d;go_wp2;exact A6 (G.out _ _ d.out c.out) rfl
end Go.Proofs.YtidhiaaicmfabaaGreatDoor
