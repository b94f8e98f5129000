/- Texts (its parts, joined). -/
import Derived.Test.YtidhiaaicmfabaaGreatDoorTqBN
import Derived.Test.YtidhiaaicmfabaaGreatDoorTqAW
import Derived.Test.YtidhiaaicmfabaaGreatDoorTqBQ
open List renaming length_append→z0,length_cons→z2,length_nil→z3,mem_cons_of_mem→z6
open Bool renaming and_eq_true→z1
open Nat renaming lt_of_lt_of_le→z4
namespace Go.Proofs.YtidhiaaicmfabaaGreatDoor
open Go.RowKit Go.Proofs Go.Deep
set_option maxRecDepth 100000
set_option maxHeartbeats 4000000
open IntWalk renaming i64_in→z5
theorem B3O {kk:Ex→Int}{s:BA}{f l:Int}{b:Sl}(V: -2147483648≤f∧f≤2147483647)(Y: -2147483648≤l∧l≤2147483647)(T:A2r kk b)(y:b.len≤1000000):A7F kk (.loop s f l b):=by
 intro lo hi t u w S hh R g;obtain⟨vb,L,xs,j,r⟩:=S;injection L with Q M;subst Q M;simp only[A6v];simp only[xcS] at g;have D:=A2P f l;rw[←D] at g;have C:(U6 f l:Int)≤4294967296:=(by rw[D];omega);clear D;have K:=A0a b;obtain⟨q,o,rfl⟩:=A7 j.1;obtain⟨Z,m⟩:∃Z,Z=w.alloc (Obj.cells #[.string s,.int .i64 f,.int .i64 l,.slice q b.len o] 320):=⟨_,rfl⟩;have h:Below w.heap.size w Z:=(by rw[m];exact (Below.refl _ w).alloc (Nat.le_refl _) _);have n:=j.below h;have v:=r.belowZ h;have c:w.heap.size<Z.heap.size:=(by rw[m];simp);have a:Z.heap[w.heap.size]? =some (.cells #[.string s,.int .i64 f,.int .i64 l,.slice q b.len o] 320):=(by rw[m];exact A2);have E:Z.cell? ⟨w.heap.size,0,none⟩=some (.string s):=A1 (i:=0) a rfl;have G:Z.cell? ⟨w.heap.size,1,none⟩=some (.int .i64 f):=A1 (i:=1) a rfl;have H:Z.cell? ⟨w.heap.size,2,none⟩=some (.int .i64 l):=A1 (i:=2) a rfl;have J:Z.cell? ⟨w.heap.size,3,none⟩=some (.slice q b.len o):=A1 (i:=3) a rfl;have B:hi≤Z.heap.size:=(by omega);have U:=hd (fun (W:WD) (A:Below Z.heap.size Z W)=>A2c (kk:=kk) T y (n.below A).1 (v.belowZ A) (Nat.le_trans B A.size));replace g:=hd g;clear j r n v;generalize xcL b=kb at*;generalize P:U6 f l=N at*;have F:0≤(N:Int)*(1+kb):=Int.mul_nonneg (by omega) (by omega);have I:(N:Int)*(1+kb)≤4294967296*4002:=Int.mul_le_mul C (by omega) (by omega) (by omega);have X:IntKind.i64.wrap (1+kb)=1+kb:=z5 _ (by omega);have j1:IntKind.i64.wrap ((N:Int)*(1+kb))=(N:Int)*(1+kb):=z5 _ (by omega);have j2:IntKind.i64.wrap (1+(N:Int)*(1+kb))=1+(N:Int)*(1+kb):=z5 _ (by omega);go_enter Tryz.func326,Tryz.ntmps326;go_wp2_with (fail);rw[←m];replace m:=hd m;replace h:=hd h;replace a:=hd a;generalize x:w.heap.size=z at*;replace x:=hd x;go_region_held3 (fun w'=>w'.cell? ⟨z,0,none⟩=some (.string s)∧w'.cell? ⟨z,1,none⟩=some (.int .i64 f)∧w'.cell? ⟨z,2,none⟩=some (.int .i64 l)∧w'.cell? ⟨z,3,none⟩=some (.slice q b.len o)) (first|exact⟨(d.out.cell (p:=⟨z,0,none⟩) c).trans E,(d.out.cell (p:=⟨z,1,none⟩) c).trans G,(d.out.cell (p:=⟨z,2,none⟩) c).trans H,(d.out.cell (p:=⟨z,3,none⟩) c).trans J⟩|exact⟨(k.out.cell (p:=⟨z,0,none⟩) (z4 c d.out.size)).trans ((d.out.cell (p:=⟨z,0,none⟩) c).trans E),(k.out.cell (p:=⟨z,1,none⟩) (z4 c d.out.size)).trans ((d.out.cell (p:=⟨z,1,none⟩) c).trans G),(k.out.cell (p:=⟨z,2,none⟩) (z4 c d.out.size)).trans ((d.out.cell (p:=⟨z,2,none⟩) c).trans H),(k.out.cell (p:=⟨z,3,none⟩) (z4 c d.out.size)).trans ((d.out.cell (p:=⟨z,3,none⟩) c).trans J)⟩|go_keep)
  (first
   |(go_at_call 328;refine A2e _ s f l (.slice q b.len o) (by omega) (by omega) _ ?_;intro w1 d;rw[P];replace d:=hd d)
   |(go_at_call 71;refine U.out _ (by exact (below_drewN (Below.refl _ Z) 1).trans d.out) _ ?_;intro O k;replace k:=hd k))
 have hB:=hd (show Below w.heap.size w O from by have e:=x.out;rw[e];exact h.out.trans (((below_drewN (Below.refl _ Z) 1).trans (d.out.trans (k.out.mono d.out.size))).mono (Nat.le_of_lt c)));go_wp2;have e:=x.out;first|exact A6 (g.out _ (by rw[←e];exact hB.out)) rfl|(go_ret;exact A6 (g.out _ (by rw[←e];exact hB.out)) rfl)|trace_state
section
variable {vs:List Vd}
theorem B2p:∀(a:Wl) (m:Int),m≤4001→xcW a m≤4001
 |.nil,_,h=>h
 |.cons _ b t,m,h=>by
  have:=A0a b;exact B2p t _ (by omega)
theorem A9c:∀a:Wl,cN a≤U4 a
 |.nil=>Int.le_refl _
 |.cons ns b t=>by
  have:=A9c t;have:=B0 b;simp only[cN,U4];omega
mutual
theorem sxS:∀(s:Q3) (ls:LB),wtS vs ls s=true→I2 s≤1000→A7F (kE vs) s∧xcS s≤100000000000000
 |.set s e,ls,_,hn=>by
  simp only[I2] at hn;exact⟨B7n (Q5 _ e) (by omega),by simp only[xcS];omega⟩
 |.setx s i e,ls,_,hn=>by
  simp only[I2] at hn;exact⟨B3L (Q5 _ i) (Q5 _ e) (by omega),by simp only[xcS];omega⟩
 |.ife c t o,ls,hw,hn=>by
  simp only[wtS,z1] at hw;simp only[I2] at hn;have h1:=B0 t;have h2:=B0 o;have h3:=B5 c;have h4:=A0a t;have h5:=A0a o;exact⟨B5N (Q5 _ c) (by omega) (sxL t ls hw.1.2 (by omega)) (by omega) (sxL o ls hw.2 (by omega)) (by omega),by simp only[xcS];omega⟩
 |.cas e ws o,ls,hw,hn=>by
  simp only[wtS,z1] at hw;simp only[I2] at hn;have h1:=J9 ws;have h2:=B0 o;have h3:=B5 e;have h4:=A0a o;have h5:=B2p ws (xcL o) h4.2;have h6:=A9c ws;exact⟨B6O (Q5 _ e) (by omega) (sxW ws ls hw.1.2 (by omega)) (by omega) (sxL o ls hw.2 (by omega)) (by omega),by simp only[xcS];omega⟩
 |.loop s f l b,ls,hw,hn=>by
  simp only[I2] at hn;have h1:=B0 b;have h4:=A0a b;simp only[wtS,z1] at hw;have hr:(-2147483648≤f∧f≤2147483647)∧(-2147483648≤l∧l≤2147483647):=by
   have hw1:=hw.1;cases hv:C1 vs s with
   |none=>rw[hv] at hw1;cases hw1
   |some v=>
    rw[hv] at hw1;simp only[z1,Bool.or_eq_true,decide_eq_true_eq,inI,inD] at hw1;omega
  refine⟨B3O hr.1 hr.2 (sxL b (ls++[s]) hw.2 (by omega)) (by omega),?_⟩;simp only[xcS];have:=Int.mul_le_mul (show max 0 (l-f+1)≤4294967296 by omega) (show 1+xcL b≤4002 by omega) (by omega) (by omega);omega
theorem sxL:∀(l:Sl) (ls:LB),Q9 vs ls l=true→O6 l≤1000→A2r (kE vs) l
 |.nil,_,_,_=>trivial
 |.cons h t,ls,hw,hn=>by
  simp only[Q9,z1] at hw;simp only[O6] at hn;have h1:=B0 t;have h2:=U8 h;exact⟨sxS h ls hw.1 (by omega),sxL t ls hw.2 (by omega)⟩
theorem sxW:∀(l:Wl) (ls:LB),wtW vs ls l=true→U4 l≤1000→A6t (kE vs) l
 |.nil,_,_,_=>trivial
 |.cons ns b t,ls,hw,hn=>by
  simp only[wtW,z1] at hw;simp only[U4] at hn;have h1:=B0 b;have h2:=J9 t;exact⟨sxL b ls hw.1.2 (by omega),by omega,by omega,sxW t ls hw.2 (by omega)⟩
end
end
section
mutual
def wS (vs:List Vd)(sp:Int):Q3→Nat→List Int
 |.set s e,_=>C4 vs e++[3,B3 vs 0 s]
 |.setx s i e,_=>C4 vs i++C4 vs e++[5,B3 vs 0 s,P9 vs s]
 |.ife c t .nil,p=>A8S (C4 vs c) (wL vs sp t) p
 |.ife c t (.cons h u),p=>A8m (C4 vs c) (wL vs sp t) (fun a=>wS vs sp h a++wL vs sp u (a+(wS vs sp h a).length)) p
 |.cas e ws o,p=>A7v sp (C4 vs e) (wW vs sp ws) (wL vs sp o) p
 |.loop s f l b,p=>if U6 f l=0 then K9 f++[3,B3 vs 0 s] else A3G vs s f l++wL vs sp b (p+20)++[20]
def wL (vs:List Vd)(sp:Int):Sl→Nat→List Int
 |.nil,_=>[]
 |.cons h t,p=>wS vs sp h p++wL vs sp t (p+(wS vs sp h p).length)
def wW (vs:List Vd)(sp:Int):Wl→List (List Int×(Nat→List Int))
 |.nil=>[]
 |.cons ns b t=>(ns,wL vs sp b)::wW vs sp t
end
mutual
def kpS:Q3→Bool
 |.set _ _=>false
 |.setx _ _ _=>false
 |.ife _ t o=>kpL t||kpL o
 |.cas _ _ _=>true
 |.loop _ f l b=>if U6 f l=0 then false else kpL b
def kpL:Sl→Bool
 |.nil=>false
 |.cons h t=>kpS h||kpL t
end
section
variable {vs:List Vd}{sp:Int}
mutual
theorem swS (hv:∀v∈vs,0≤v.len∧v.len≤255):∀(s:Q3) (ls:LB),wtS vs ls s=true→I2 s≤1000→cS s≤4000→Y7 vs sp s (wS vs sp s) (kpS s)
 |.set s e,ls,hw,hn,hc=>by
  simp only[wtS] at hw;unfold A5B at hw;cases hl:C1 vs s with
  |none=>rw[hl] at hw;cases hw
  |some v=>
   rw[hl] at hw;simp only[z1] at hw;simp only[wS,kpS];exact fun _=>A8F (sp:=sp) (M1 vs hv e hw.1.1.1.1.2) hl
 |.setx s i e,ls,hw,hn,hc=>by
  simp only[wtS] at hw;unfold A3t at hw;cases hl:C1 vs s with
  |none=>rw[hl] at hw;cases hw
  |some v=>
   rw[hl] at hw;simp only[z1] at hw;simp only[wS,kpS];exact fun _=>A7u (sp:=sp) (M1 vs hv i hw.1.1.1.1.1.1.2) (M1 vs hv e hw.1.1.1.1.2) hl (hv v (J0 vs s v hl).1)
 |.ife c t .nil,ls,hw,hn,hc=>by
  simp only[wtS,z1] at hw;simp only[I2,O6] at hn;simp only[cS,C0] at hc;have h1:=B0 t;have h3:=B5 c;have h4:=G2 t;simp only[wS,kpS,kpL,Bool.or_false];exact A8B (sp:=sp) (M1 vs hv c hw.1.1.1) (swL hv t ls hw.1.2 (by omega) (by omega)) (by omega)
 |.ife c t (.cons h u),ls,hw,hn,hc=>by
  simp only[wtS,z1] at hw;simp only[I2] at hn;simp only[cS] at hc;have h1:=B0 t;have h2:=B0 (.cons h u);have h3:=B5 c;have h4:=G2 t;have h5:=G2 (.cons h u);have hL:=swL hv (.cons h u) ls hw.2 (by omega) (by omega);simp only[wS,kpS];exact A8D (sp:=sp) (M1 vs hv c hw.1.1.1) (swL hv t ls hw.1.2 (by omega) (by omega)) (by omega) hL (by omega) (by simp only[Sl.len];omega)
 |.cas e ws o,ls,hw,hn,hc=>by
  simp only[wtS,z1] at hw;simp only[I2] at hn;simp only[cS] at hc;have h1:=J9 ws;have h2:=B0 o;have h3:=B5 e;have h4:=G2 o;have h5:=A2I ws;have h6:=A2G ws (C0 o);simp only[wS,kpS];exact A8K (sp:=sp) (M1 vs hv e hw.1.1.1) (swW hv ws ls (C0 o) hw.1.2 (by omega) (by omega)) (by omega) (swL hv o ls hw.2 (by omega) (by omega)) (by omega)
 |.loop s f l b,ls,hw,hn,hc=>by
  simp only[I2] at hn;simp only[cS] at hc;have h1:=B0 b;have h4:=G2 b;simp only[wtS,z1] at hw;have hw1:=hw.1;cases hl:C1 vs s with
  |none=>rw[hl] at hw1;cases hw1
  |some v=>
   rw[hl] at hw1;have hr:(-2147483648≤f∧f≤2147483647)∧(-2147483648≤l∧l≤2147483647):=(by simp only[z1,Bool.or_eq_true,decide_eq_true_eq,inI,inD] at hw1;omega);have hri:=A2P f l;by_cases h0:U6 f l=0
   ·have e1:wS vs sp (.loop s f l b)=fun _=>K9 f++[3,B3 vs 0 s]:=(by funext p;simp only[wS,if_pos h0]);have e2:kpS (.loop s f l b)=false:=(by simp only[kpS,if_pos h0]);rw[e1,e2];exact A6E hr.1 hr.2 h0 hl
   ·have e1:wS vs sp (.loop s f l b)=fun p=>A3G vs s f l++wL vs sp b (p+20)++[20]:=(by funext p;simp only[wS,if_neg h0]);have e2:kpS (.loop s f l b)=kpL b:=(by simp only[kpS,if_neg h0]);rw[e1,e2];rw[←hri] at hc;have m1:(U6 f l:Int)*1≤(U6 f l:Int)*(1+C0 b):=Int.mul_le_mul_of_nonneg_left (by omega) (by omega);have m2:1*(1+C0 b)≤(U6 f l:Int)*(1+C0 b):=Int.mul_le_mul_of_nonneg_right (by omega) (by omega);exact A7e hr.1 hr.2 (by omega) (by omega) (swL hv b (ls++[s]) hw.2 (by omega) (by omega)) (by omega) hl
theorem swL (hv:∀v∈vs,0≤v.len∧v.len≤255):∀(l:Sl) (ls:LB),Q9 vs ls l=true→O6 l≤1000→C0 l≤4000→A0y vs sp l (wL vs sp l) (kpL l)
 |.nil,_,_,_,_=>A0y.nil
 |.cons h t,ls,hw,hn,hc=>by
  simp only[Q9,z1] at hw;simp only[O6] at hn;simp only[C0] at hc;have h1:=B0 t;have h2:=U8 h;have h3:=G2 t;have h4:=A2L h;exact A0y.cons (swS hv h ls hw.1 (by omega) (by omega)) (swL hv t ls hw.2 (by omega) (by omega))
theorem swW (hv:∀v∈vs,0≤v.len∧v.len≤255):∀(l:Wl) (ls:LB) (m:Int),wtW vs ls l=true→U4 l≤1000→cW l m≤4000→A3F vs sp l (wW vs sp l)
 |.nil,_,_,_,_,_=>A3F.nil
 |.cons ns b t,ls,m,hw,hn,hc=>by
  simp only[wtW,z1] at hw;simp only[U4] at hn;simp only[cW] at hc;have h1:=B0 b;have h2:=J9 t;have h3:=A2G t (max m (C0 b));exact A3F.cons (swL hv b ls hw.1.2 (by omega) (by omega)) (by omega) (by omega) (swW hv t ls _ hw.2 (by omega) hc)
end
end
end
section
variable {vs:List Vd}{sp:Int}
theorem M0:∀e:Ex,((C4 vs e).length:Int)≤5*cE e
 |.lit _=>by simp[C4,cE,K9]
 |.tru _=>by simp[C4,cE,K9]
 |.plc _=>by simp[C4,cE]
 |.idx _ i=>by have:=M0 i;simp only[C4,cE,z0,z2,z3];omega
 |.bin o l r=>by
  have:=M0 l;have:=M0 r;have h:(if kE vs (.bin o l r)=1 then ([16]:List Int) else []).length≤1:=(by split<;>simp);simp only[C4,cE,z0,z2,z3];omega
 |.neg e=>by have:=M0 e;simp only[C4,cE,z0,z2,z3];omega
 |.sho e=>by have:=M0 e;simp only[C4,cE,z0,z2,z3];omega
 |.dly _ a s=>by have:=M0 a;have:=M0 s;simp only[C4,cE,z0,z2,z3];omega
mutual
theorem B2w:∀(s:Q3) (p:Nat),((wS vs sp s p).length:Int)≤11*I2 s
 |.set _ e,p=>by have:=M0 (vs:=vs) e;have:=B5 e;simp only[wS,I2,z0,z2,z3];omega
 |.setx _ i e,p=>by have:=M0 (vs:=vs) e;have:=M0 (vs:=vs) i;have:=B5 e;have:=B5 i;simp only[wS,I2,z0,z2,z3];omega
 |.ife c t .nil,p=>by
  have:=M0 (vs:=vs) c;have:=B5 c;have:=A1t t (p+(C4 vs c).length+3);simp only[wS,A8S,I2,O6,z0,z2,Y6];omega
 |.ife c t (.cons h u),p=>by
  have h1:=M0 (vs:=vs) c;have h2:=B5 c;have h3:=A1t t (p+(C4 vs c).length+3);have h4:=B2w h (p+(C4 vs c).length+3+(wL vs sp t (p+(C4 vs c).length+3)).length+3);have h5:=fun q=>A1t u q;simp only[wS,A8m,I2,O6,z0,z2,Y6];have h6:=h5 (p+(C4 vs c).length+3+(wL vs sp t (p+(C4 vs c).length+3)).length+3+(wS vs sp h (p+(C4 vs c).length+3+(wL vs sp t (p+(C4 vs c).length+3)).length+3)).length);omega
 |.cas e ws o,p=>by
  have h1:=M0 (vs:=vs) e;have h2:=B5 e;have h3:=fun q E hE=>B2G ws q E hE;have h4:=fun q=>A1t o q;simp only[wS,A7v,I2,z0,z2,z3];have h5:=h4 (whE sp (p+(C4 vs e).length+2) (wW vs sp ws));have h6:=h3 (p+(C4 vs e).length+2) (two (whE sp (p+(C4 vs e).length+2) (wW vs sp ws)+(wL vs sp o (whE sp (p+(C4 vs e).length+2) (wW vs sp ws))).length)) rfl;omega
 |.loop s f l b,p=>by
  have h1:=A1t b (p+20);have h2:=B0 b;simp only[wS,I2];split
  ·simp only[K9,z0,z2,z3];omega
  ·simp only[z0,z2,z3,A5E];omega
theorem A1t:∀(l:Sl) (p:Nat),((wL vs sp l p).length:Int)≤11*O6 l
 |.nil,_=>by simp[wL,O6]
 |.cons h t,p=>by
  have h1:=B2w h p;have h2:=A1t t (p+(wS vs sp h p).length);simp only[wL,O6,z0];omega
theorem B2G:∀(ws:Wl) (p:Nat) (E:List Int),E.length=2→((whB sp E p (wW vs sp ws)).length:Int)≤11*U4 ws
 |.nil,_,_,_=>by simp[wW,whB,U4]
 |.cons ns b t,p,E,hE=>by
  have h1:=B3S sp ns;have h2:=A1t b (p+(P4 sp ns).length+3);have h3:=B2G t (A0h sp p ns (wL vs sp b)) E hE;simp only[wW,whB,U4,z0,z2,Y6,hE];omega
end
end
def K8 (l:List Int):Prop:=∀n∈l,0≤n∧n≤255
theorem K8.app {a b:List Int}(d:K8 a)(e:K8 b):K8 (a++b):=fun n c=>(List.mem_append.1 c).elim (d n) (e n)
theorem K8.cons {a:Int}{b:List Int}(d:0≤a∧a≤255)(f:K8 b):K8 (a::b):=fun n c=>(List.mem_cons.1 c).elim (fun e=>e▸d) (f n)
theorem K8.nil:K8 []:=fun n a=>by cases a
theorem A3n (n:Nat):K8 (two n):=K8.cons (by omega) (K8.cons (by omega) K8.nil)
theorem A2J (n:Int):K8 (K9 n):=K8.cons (by omega) (K8.cons (by omega) (K8.cons (by omega) (K8.cons (by omega) (K8.cons (by omega) K8.nil))))
theorem B6I (o:Nat):0≤(opI o:Int)∧(opI o:Int)≤255:=by unfold opI;split<;>omega
section
variable {vs:List Vd}{sp:Int}
theorem A3m (c:∀s,0≤B3 vs 0 s∧B3 vs 0 s≤255)(d:∀s,0≤P9 vs s∧P9 vs s≤255):∀e:Ex,K8 (C4 vs e)
 |.lit n=>A2J n
 |.tru b=>A2J _
 |.plc s=>K8.cons (by omega) (K8.cons (c s) K8.nil)
 |.idx s i=>(A3m c d i).app (K8.cons (by omega) (K8.cons (c s) (K8.cons (d s) K8.nil)))
 |.bin o l r=>by
  simp only[C4];refine (((A3m c d l).app (A3m c d r)).app (K8.cons (B6I o) K8.nil)).app ?_;split
  ·exact K8.cons (by omega) K8.nil
  ·exact K8.nil
 |.neg e=>(A3m c d e).app (K8.cons (by omega) K8.nil)
 |.sho e=>(A3m c d e).app (K8.cons (by omega) K8.nil)
 |.dly t a s=>((A3m c d a).app (A3m c d s)).app (K8.cons (by omega) (K8.cons (c t) K8.nil))
theorem A9p (a:0≤sp∧sp≤255):∀l:List Int,K8 (A3b sp l)
 |[]=>by simp only[A3b];exact K8.nil
 |n::r=>by
  simp only[A3b];exact (K8.app (K8.cons (by omega) (K8.cons a K8.nil)) ((A2J n).app (K8.cons (by omega) (K8.cons (by omega) K8.nil)))).app (A9p a r)
theorem B7k (a:0≤sp∧sp≤255):∀l:List Int,K8 (P4 sp l)
 |[]=>by simp only[P4];exact K8.nil
 |n::r=>by
  simp only[P4];exact (K8.app (K8.cons (by omega) (K8.cons a K8.nil)) ((A2J n).app (K8.cons (by omega) K8.nil))).app (A9p a r)
mutual
theorem B9f (hF:∀s,0≤B3 vs 0 s∧B3 vs 0 s≤255)(hL:∀s,0≤P9 vs s∧P9 vs s≤255)(hsp:0≤sp∧sp≤255):∀(s:Q3) (p:Nat),K8 (wS vs sp s p)
 |.set s e,p=>by simp only[wS];exact (A3m hF hL e).app (K8.cons (by omega) (K8.cons (hF s) K8.nil))
 |.setx s i e,p=>by simp only[wS];exact ((A3m hF hL i).app (A3m hF hL e)).app (K8.cons (by omega) (K8.cons (hF s) (K8.cons (hL s) K8.nil)))
 |.ife c t .nil,p=>by simp only[wS,A8S];exact (A3m hF hL c).app ((K8.cons (by omega) (A3n _)).app (A7r hF hL hsp t _))
 |.ife c t (.cons h u),p=>by simp only[wS,A8m];exact (A3m hF hL c).app ((K8.cons (by omega) (A3n _)).app ((A7r hF hL hsp t _).app ((K8.cons (by omega) (A3n _)).app ((B9f hF hL hsp h _).app (A7r hF hL hsp u _)))))
 |.cas e ws o,p=>by simp only[wS,A7v];exact (A3m hF hL e).app ((K8.cons (by omega) (K8.cons hsp K8.nil)).app ((B81 hF hL hsp ws _ _ (A3n _)).app (A7r hF hL hsp o _)))
 |.loop s f l b,p=>by
  simp only[wS];split
  ·exact (A2J f).app (K8.cons (by omega) (K8.cons (hF s) K8.nil))
  ·refine K8.app (K8.app ?_ (A7r hF hL hsp b _)) (K8.cons (by omega) K8.nil);unfold A3G;refine ((((K8.app (A2J _) (K8.cons (by omega) (K8.cons (hF s) (K8.cons (by omega) K8.nil)))).app (A3n _)).app (K8.cons (by omega) (K8.cons (hF s) K8.nil))).app (A2J _)).app (K8.cons (by omega) (K8.cons (by omega) (K8.cons (hF s) K8.nil)))
theorem A7r (hF:∀s,0≤B3 vs 0 s∧B3 vs 0 s≤255)(hL:∀s,0≤P9 vs s∧P9 vs s≤255)(hsp:0≤sp∧sp≤255):∀(l:Sl) (p:Nat),K8 (wL vs sp l p)
 |.nil,_=>by simp only[wL];exact K8.nil
 |.cons h t,p=>by simp only[wL];exact (B9f hF hL hsp h p).app (A7r hF hL hsp t _)
theorem B81 (hF:∀s,0≤B3 vs 0 s∧B3 vs 0 s≤255)(hL:∀s,0≤P9 vs s∧P9 vs s≤255)(hsp:0≤sp∧sp≤255):∀(ws:Wl) (p:Nat) (E:List Int),K8 E→K8 (whB sp E p (wW vs sp ws))
 |.nil,_,_,_=>by simp only[wW,whB];exact K8.nil
 |.cons ns b t,p,E,hE=>by simp only[wW,whB];exact (B7k hsp ns).app ((K8.cons (by omega) (A3n _)).app ((A7r hF hL hsp b _).app ((K8.cons (by omega) hE).app (B81 hF hL hsp t _ E hE))))
end
end
theorem A3w:∀(vs:List Vd) (a:Int) (s:BA),(∀v∈vs,0≤v.len)→0≤a→0≤B3 vs a s∧B3 vs a s≤a+N4 vs∧0≤N4 vs
 |[],a,s,_,h=>by simp only[B3,N4];omega
 |v::t,a,s,hv,h=>by
  have d:=hv v (List.mem_cons_self ..);have e:=A3w t (a+v.len) s (fun u b=>hv u (z6 _ b)) (by omega);have c:=A3w t a s (fun u b=>hv u (z6 _ b)) h;simp only[B3,N4];split<;>omega
def A08 (vs:List Vd)(body:Sl):BA:=if kpL body=true then B97 vs (wL vs ((B8 vs).length:Int) body) else C0d vs (wL vs ((B8 vs).length:Int) body)
end Go.Proofs.YtidhiaaicmfabaaGreatDoor
