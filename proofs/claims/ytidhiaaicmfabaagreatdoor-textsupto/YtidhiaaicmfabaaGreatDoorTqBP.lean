/- Texts (its parts, joined). -/
import Derived.Test.YtidhiaaicmfabaaGreatDoorTqBM
import Derived.Test.YtidhiaaicmfabaaGreatDoorTqBL
open Bool renaming and_eq_true→z0
open Nat renaming le_refl→z1
open List renaming getD_eq_getElem?_getD→z2,getElem?_eq_some_iff→z6,getElem?_eq_getElem→z7,all_cons→z8
open Option renaming isSome_iff_exists→z3
open Array renaming getElem?_setIfInBounds→z5
namespace Go.Proofs.YtidhiaaicmfabaaGreatDoor
open Go.RowKit Go.Proofs Go.Deep
set_option maxRecDepth 100000
set_option maxHeartbeats 4000000
open Below renaming heap_setCell→z4
section
def dgA (vs:List Vd)(i f:Nat):VL:=(dcV (vs.getD i ⟨⟨#[]⟩,0,0,false,0⟩)).getD f undef
theorem A3X (v:Vd):(dcV v).length=4:=rfl
theorem B1s:∀(vs:List Vd) (i:Nat),i<vs.length→∀f,f<4→(dcL vs)[i*4+f]? =some (dgA vs i f)
 |[],i,h,_,_=>by simp at h
 |v::vs,0,_,f,hf=>by
  have e:dcL (v::vs)=dcV v++dcL vs:=rfl;rw[e,Nat.zero_mul,Nat.zero_add,List.getElem?_append_left (by rw[A3X];exact hf)];unfold dgA;rw[List.getD_cons_zero,z2,z7 (by rw[A3X];exact hf)];rfl
 |v::vs,i+1,h,f,hf=>by
  have e:dcL (v::vs)=dcV v++dcL vs:=rfl;rw[e,List.getElem?_append_right (by rw[A3X];omega),A3X,show (i+1)*4+f-4=i*4+f by omega,B1s vs i (by simpa using h) f hf];rfl
structure Dg (vs:List Vd)(pb m:Nat)(av:VL)(w:WD):Prop where
 ok:∀v∈vs,v.kind≤3∧v.role≤2∧(v.arr=true→0≤v.len)
 sm:vs.length≤1000
 lt:pb<m
 le:m≤w.heap.size
 pr:∃c,w.heap[pb]? =some (.cells #[av,c] 100)
 sl:∃b a,av=.slice b vs.length a∧vs.length≤a∧(0<vs.length→∃g,b=some ⟨g,0,none⟩∧g<m∧R8 w g 102 4 vs.length a (dgA vs))
theorem Dg.keep {vs:List Vd}{pb m:Nat}{av:VL}{w w':WD}(h:Dg vs pb m av w)(a:∀c,c<m→w'.heap[c]? =w.heap[c]?)(q:m≤w'.heap.size):Dg vs pb m av w':=by obtain⟨k,n⟩:=h.pr;obtain⟨l,i,p,d,j⟩:=h.sl;refine⟨h.ok,h.sm,h.lt,q,⟨k,(a pb h.lt).trans n⟩,l,i,p,d,fun o=>?_⟩;obtain⟨g,e,b,f⟩:=j o;exact⟨g,e,b,f.of_block (a g b)⟩
def fdI:List Vd→BA→Option Nat
 |[],_=>none
 |v::vs,s=>if s=v.name then some 0 else (fdI vs s).map (· +1)
theorem A4Q:∀(vs:List Vd) (s:BA) (i:Nat) (u:Vd),(∀j v,j<i→vs[j]? =some v→s≠v.name)→vs[i]? =some u→s=u.name→fdI vs s=some i∧C1 vs s=some u
 |[],_,i,_,_,h,_=>by simp at h
 |v::vs,s,0,u,_,h,e=>by
  simp only[List.getElem?_cons_zero,Option.some.injEq] at h;subst h;simp only[fdI,C1,if_pos e];exact⟨trivial,trivial⟩
 |v::vs,s,i+1,u,hn,h,e=>by
  have d:=hn 0 v (by omega) rfl;obtain⟨c,f⟩:=A4Q vs s i u (fun j a g b=>hn (j+1) a (by omega) (by simpa using b)) (by simpa using h) e;simp only[fdI,C1,if_neg d,c,f,Option.map_some];exact⟨trivial,trivial⟩
theorem A9f:∀(vs:List Vd) (s:BA),(∀(j:Nat) v,vs[j]? =some v→s≠v.name)→C1 vs s=none
 |[],_,_=>rfl
 |v::vs,s,hn=>by
  simp only[C1,if_neg (hn 0 v rfl)];exact A9f vs s (fun j a h=>hn (j+1) a (by simpa using h))
theorem B2a {s t:BA}(h:s≠t):(t.toList==s.toList)=false:=by rw[beq_eq_false_iff_ne];intro e;rw[ByteArray.toList_eq,ByteArray.toList_eq] at e;exact h (ByteArray.ext (Array.toList_inj.1 e.symm))
section
variable {vs:List Vd}{pb m:Nat}{av:VL}{w:WD}
theorem A3z (h:Dg vs pb m av w)(s:BA)(R:RP)(r:C1 vs s=none→R (.returned (.pointer none)) w)(l:∀g i v q,fdI vs s=some i→vs[i]? =some v→C1 vs s=some v→g<m→av=.slice (some ⟨g,0,none⟩) vs.length q→R8 w g 102 4 vs.length q (dgA vs)→R (.returned (.pointer (some ⟨g,i*4,none⟩))) w):Calls Tryz.prog 48 #[.pointer (some ⟨pb,0,none⟩),.string s] w R:=by
 obtain⟨K,x⟩:=h.pr;obtain⟨L,q,rfl,B,t⟩:=h.sl;have I:=A1 (i:=0) x rfl;have N:pb<w.heap.size:=Nat.lt_of_lt_of_le h.lt h.le;have G:=h.sm;replace r:=hd r;replace l:=hd l;replace t:=hd t;replace x:=hd x;replace h:=hd h;go_enter Tryz.func48,Tryz.ntmps48;go_wp2;go_loopw [5] (fun y wr=>∃i:Nat,i≤vs.length∧y=.int .i64 (i:Int)∧w=wr∧∀j v,j<i→vs[j]? =some v→s≠v.name) (fun y _=>vs.length-(intOf y).toNat);case atStart=>exact⟨0,Nat.zero_le _,rfl,rfl,fun j v C=>by omega⟩
 case round=>
  obtain⟨i,hi,rfl,e,b⟩:=hrel;subst e;by_cases p:i<vs.length
  ·have F:decide ((i:Int)<(vs.length:Int))=true:=(by simp;omega);obtain⟨v,d⟩:∃v,vs[i]? =some v:=⟨_,z7 p⟩;obtain⟨g,rfl,D,a⟩:=t.out (by omega);have J:w.cell? ⟨g,i*4+1,none⟩=some (.string v.name):=(by rw[a.cell p (f:=1) (by omega)];unfold dgA;rw[show vs.getD i ⟨⟨#[]⟩,0,0,false,0⟩=v by rw[z2,d];rfl];rfl);have M:=a.lt;have H:(0:Int)≤(i:Int)∧(i:Int)<(vs.length:Int):=(by omega);by_cases c:s=v.name
   ·have E:(v.name.toList==s.toList)=true:=(by rw[c];simp);obtain⟨z,A⟩:=A4Q vs s i v b d c;have n:=hd (l.out g i v q z d A D rfl a);clear b z A a c l r;replace d:=hd d;go_wp2;exact A6 n.out rfl
   ·have E:=B2a c;have k:∀j u,j<i+1→vs[j]? =some u→s≠u.name:=fun j u C o=>by
     by_cases e:j=i
     ·subst e;rw[d] at o;injection o with o;rw[←o];exact c
     ·exact b j u (by omega) o
    replace k:=hd k;clear b a;replace d:=hd d;go_wp2;exact⟨⟨i+1,by omega,by go_num,by first|rfl|trivial,k.out⟩,by simp[intOf];omega⟩
  ·have F:decide ((i:Int)<(vs.length:Int))=false:=(by simp;omega);have n:=hd (r.out (A9f vs s (fun j v d=>b j v (by have:=(z6.1 d).1;omega) d)));clear b;go_wp2;exact A6 n.out rfl
theorem G4 (w:WD)(k:Int)(R:RP)(a:R (.returned (.bool (B9 k))) w):Calls Tryz.prog 92 #[.int .i64 k] w R:=by
 unfold B9 at a;cases c:(k==1) with
 |true=>
  rw[c] at a;replace a:=hd a;go_enter Tryz.func92,Tryz.ntmps92;go_wp2;exact A6 a.out rfl
 |false=>
  rw[c,Bool.false_or] at a;replace a:=hd a;go_enter Tryz.func92,Tryz.ntmps92;go_wp2;exact A6 a.out rfl
def knE (vs:List Vd)(e:Ex):Bool:=(C7 e).all (fun n=>(C1 vs n).isSome)
theorem R0 (w:WD)(pv:VL)(R:RP)(a:R (.returned (.bool true)) w):Calls Tryz.prog 89 #[pv,.pointer none] w R:=by replace a:=hd a;go_enter Tryz.func89,Tryz.ntmps89;go_wp2;exact A6 a.out rfl
theorem S3 {b c:Nat}{n:Int}{k:Bool}{nm op:BA}{x y:Option Nat}{t:Int}(d:w.rowIs b 194 8 (deF c n k nm op x y t))(h:Dg vs pb m av w)(u f s:Bool)(l:u=(c==110||c==120||c==116))(e:∀R:RP,R (.returned (.bool f)) w→Calls Tryz.prog 89 #[.pointer (some ⟨pb,0,none⟩),.pointer (x.map (fun b=>⟨b,0,none⟩))] w R)(hB:∀R:RP,R (.returned (.bool s)) w→Calls Tryz.prog 89 #[.pointer (some ⟨pb,0,none⟩),.pointer (y.map (fun b=>⟨b,0,none⟩))] w R)(R:RP)(a:R (.returned (.bool ((!u||(C1 vs nm).isSome)&&(f&&s)))) w):Calls Tryz.prog 89 #[.pointer (some ⟨pb,0,none⟩),.pointer (some ⟨b,0,none⟩)] w R:=by
 have D:w.cell? ⟨b,0,none⟩=some (.int .u8 (c:Int)):=d.cell (i:=0) (by omega);have F:w.cell? ⟨b,3,none⟩=some (.string nm):=d.cell (i:=3) (by omega);have C:w.cell? ⟨b,5,none⟩=some (.pointer (x.map (fun b=>⟨b,0,none⟩))):=d.cell (i:=5) (by omega);have G:w.cell? ⟨b,6,none⟩=some (.pointer (y.map (fun b=>⟨b,0,none⟩))):=d.cell (i:=6) (by omega);have J:=d.lt;have B:((c:Int)==110)=(c==110):=A1h c 110;have I:((c:Int)==120)=(c==120):=A1h c 120;have E:((c:Int)==116)=(c==116):=A1h c 116;generalize Option.map (fun b=>(⟨b,0,none⟩:Addr)) x=px at*;generalize Option.map (fun b=>(⟨b,0,none⟩:Addr)) y=py at*;replace e:=hd e;replace hB:=hd hB;replace h:=hd h;replace a:=hd a;clear d;generalize j:(c==110)=q1 at*;generalize r:(c==120)=q2 at*;generalize q:(c==116)=q3 at*;clear j r q;subst l;rcases (show (q1=false∧q2=false∧q3=false)∨(q1=true)∨(q1=false∧q2=true)∨(q1=false∧q2=false∧q3=true) by cases q1<;>cases q2<;>cases q3<;>simp) with ⟨rfl,rfl,rfl⟩|rfl|⟨rfl,rfl⟩|⟨rfl,rfl,rfl⟩
 ·go_enter Tryz.func89,Tryz.ntmps89;go_wp2_with (fail);refine e.out _ ?_;cases f with
  |false=>
   go_wp2;exact A6 a.out (by simp)
  |true=>
   go_wp2_with (fail);refine hB.out _ ?_;go_wp2;exact A6 a.out (by simp)
 all_goals
  go_enter Tryz.func89,Tryz.ntmps89
  go_wp2_with (fail)
  refine A3z h.out nm _ ?_ ?_
  ·intro o;rw[o] at a;replace o:=hd o;go_wp2;exact A6 a.out (by simp)
  ·intro g i v H A z p _ _ _;rw[p] at a;replace p:=hd p;replace z:=hd z;clear A;cases f with
   |false=>
    go_wp2_with (fail);refine e.out _ ?_;go_wp2;exact A6 a.out (by simp)
   |true=>
    go_wp2_with (fail);refine e.out _ ?_;go_wp2_with (fail);refine hB.out _ ?_;go_wp2;exact A6 a.out (by simp)
theorem A1Q {k:Ex→Int→Prop}(h:Dg vs pb m av w):∀(e:Ex){lo hi b:Nat},DE k e lo hi w b→∀R:RP,R (.returned (.bool (knE vs e))) w→Calls Tryz.prog 89 #[.pointer (some ⟨pb,0,none⟩),.pointer (some ⟨b,0,none⟩)] w R
 |.lit n,lo,hi,b,hE,R,fin=>by
  obtain⟨_,_,t,_,d⟩:=hE;exact S3 d h false true true rfl (fun R c=>R0 w _ R c) (fun R c=>R0 w _ R c) R (by simpa[knE,C7] using fin)
 |.tru n,lo,hi,b,hE,R,fin=>by
  obtain⟨_,_,t,_,d⟩:=hE;exact S3 d h false true true rfl (fun R c=>R0 w _ R c) (fun R c=>R0 w _ R c) R (by simpa[knE,C7] using fin)
 |.plc n,lo,hi,b,hE,R,fin=>by
  obtain⟨_,_,t,_,d⟩:=hE;exact S3 d h true true true rfl (fun R c=>R0 w _ R c) (fun R c=>R0 w _ R c) R (by simpa[knE,C7] using fin)
 |.idx s i,lo,hi,b,hE,R,fin=>by
  obtain⟨_,_,p,⟨t,_,d⟩,f⟩:=hE;exact S3 d h true (knE vs i) true rfl (fun R c=>A1Q h i f R c) (fun R c=>R0 w _ R c) R (by simpa[knE,C7] using fin)
 |.bin o l r,lo,hi,b,hE,R,fin=>by
  obtain⟨_,_,bl,v,⟨t,_,d⟩,f,g⟩:=hE;exact S3 d h false (knE vs l) (knE vs r) rfl (fun R c=>A1Q h l f R c) (fun R c=>A1Q h r g R c) R (by simpa[knE,C7] using fin)
 |.neg e,lo,hi,b,hE,R,fin=>by
  obtain⟨_,_,j,⟨t,_,d⟩,f⟩:=hE;exact S3 d h false (knE vs e) true rfl (fun R c=>A1Q h e f R c) (fun R c=>R0 w _ R c) R (by simpa[knE,C7] using fin)
 |.sho e,lo,hi,b,hE,R,fin=>by
  obtain⟨_,_,j,⟨t,_,d⟩,f⟩:=hE;exact S3 d h false (knE vs e) true rfl (fun R c=>A1Q h e f R c) (fun R c=>R0 w _ R c) R (by simpa[knE,C7] using fin)
 |.dly n a s,lo,hi,b,hE,R,fin=>by
  obtain⟨_,_,ba,u,q,⟨t,_,d⟩,_,_,f,g⟩:=hE;exact S3 d h true (knE vs a) (knE vs s) rfl (fun R c=>A1Q h a f R c) (fun R c=>A1Q h s g R c) R (by simpa[knE,C7] using fin)
theorem Q6 (w:WD)(R:RP)(a:R (.returned (.int .i64 0)) w):Calls Tryz.prog 99 #[.pointer none] w R:=by replace a:=hd a;go_enter Tryz.func99,Tryz.ntmps99;go_wp2;exact A6 a.out rfl
theorem S0 {b h:Nat}{n:Int}{f:Bool}{nm op:BA}{x y:Option Nat}{t:Int}(e:w.rowIs b 194 8 (deF h n f nm op x y t))(a d:Int)(p:0≤a∧a≤1000000000)(m:0≤d∧d≤1000000000)(g:∀R:RP,R (.returned (.int .i64 a)) w→Calls Tryz.prog 99 #[.pointer (x.map (fun b=>⟨b,0,none⟩))] w R)(hB:∀R:RP,R (.returned (.int .i64 d)) w→Calls Tryz.prog 99 #[.pointer (y.map (fun b=>⟨b,0,none⟩))] w R)(R:RP)(c:R (.returned (.int .i64 (1+a+d))) w):Calls Tryz.prog 99 #[.pointer (some ⟨b,0,none⟩)] w R:=by have l:w.cell? ⟨b,5,none⟩=some (.pointer (x.map (fun b=>⟨b,0,none⟩))):=e.cell (i:=5) (by omega);have k:w.cell? ⟨b,6,none⟩=some (.pointer (y.map (fun b=>⟨b,0,none⟩))):=e.cell (i:=6) (by omega);have j:=e.lt;generalize Option.map (fun b=>(⟨b,0,none⟩:Addr)) x=px at*;generalize Option.map (fun b=>(⟨b,0,none⟩:Addr)) y=py at*;have q:IntKind.i64.wrap (1+a)=1+a:=IntWalk.i64_in _ (by omega);have o:IntKind.i64.wrap (1+a+d)=1+a+d:=IntWalk.i64_in _ (by omega);replace g:=hd g;replace hB:=hd hB;replace c:=hd c;clear e;go_enter Tryz.func99,Tryz.ntmps99;go_wp2_with (fail);refine g.out _ ?_;go_wp2_with (fail);refine hB.out _ ?_;go_wp2;exact A6 c.out rfl
theorem A1R {j:Ex→Int→Prop}:∀(e:Ex){lo hi b:Nat},cE e≤1000000→DE j e lo hi w b→∀R:RP,R (.returned (.int .i64 (cE e))) w→Calls Tryz.prog 99 #[.pointer (some ⟨b,0,none⟩)] w R
 |.lit n,lo,hi,b,hc,hE,R,fin=>by
  obtain⟨_,_,t,_,d⟩:=hE;exact S0 d 0 0 (by omega) (by omega) (fun R c=>Q6 w R c) (fun R c=>Q6 w R c) R (by simpa[cE] using fin)
 |.tru n,lo,hi,b,hc,hE,R,fin=>by
  obtain⟨_,_,t,_,d⟩:=hE;exact S0 d 0 0 (by omega) (by omega) (fun R c=>Q6 w R c) (fun R c=>Q6 w R c) R (by simpa[cE] using fin)
 |.plc n,lo,hi,b,hc,hE,R,fin=>by
  obtain⟨_,_,t,_,d⟩:=hE;exact S0 d 0 0 (by omega) (by omega) (fun R c=>Q6 w R c) (fun R c=>Q6 w R c) R (by simpa[cE] using fin)
 |.idx s i,lo,hi,b,hc,hE,R,fin=>by
  obtain⟨_,_,k,⟨t,_,d⟩,f⟩:=hE;have:=B5 i;simp only[cE] at hc;exact S0 d (cE i) 0 (by omega) (by omega) (fun R c=>A1R i (by omega) f R c) (fun R c=>Q6 w R c) R (by simpa[cE] using fin)
 |.bin o l r,lo,hi,b,hc,hE,R,fin=>by
  obtain⟨_,_,bl,q,⟨t,_,d⟩,f,g⟩:=hE;have:=B5 l;have:=B5 r;simp only[cE] at hc;exact S0 d (cE l) (cE r) (by omega) (by omega) (fun R c=>A1R l (by omega) f R c) (fun R c=>A1R r (by omega) g R c) R fin
 |.neg e,lo,hi,b,hc,hE,R,fin=>by
  obtain⟨_,_,h,⟨t,_,d⟩,f⟩:=hE;have:=B5 e;simp only[cE] at hc;exact S0 d (cE e) 0 (by omega) (by omega) (fun R c=>A1R e (by omega) f R c) (fun R c=>Q6 w R c) R (by simpa[cE] using fin)
 |.sho e,lo,hi,b,hc,hE,R,fin=>by
  obtain⟨_,_,h,⟨t,_,d⟩,f⟩:=hE;have:=B5 e;simp only[cE] at hc;exact S0 d (cE e) 0 (by omega) (by omega) (fun R c=>A1R e (by omega) f R c) (fun R c=>Q6 w R c) R (by simpa[cE] using fin)
 |.dly n a s,lo,hi,b,hc,hE,R,fin=>by
  obtain⟨_,_,ba,p,m,⟨t,_,d⟩,_,_,f,g⟩:=hE;have:=B5 a;have:=B5 s;simp only[cE] at hc;exact S0 d (cE a) (cE s) (by omega) (by omega) (fun R c=>A1R a (by omega) f R c) (fun R c=>A1R s (by omega) g R c) R fin
theorem B6f:∀o,o<9→((P6 o).toList==[65,78,68])=(o==7)∧((P6 o).toList==[79,82])=(o==8)∧((P6 o).toList==[61])=(o==5)∧((P6 o).toList==[60])=(o==6):=by have h:((List.range 9).all fun o=>(((P6 o).toList==[65,78,68])==(o==7))&&(((P6 o).toList==[79,82])==(o==8))&&(((P6 o).toList==[61])==(o==5))&&(((P6 o).toList==[60])==(o==6)))=true:=(by kernel_rfl);intro o a;have:=List.all_eq_true.1 h o (List.mem_range.2 a);simp only[z0,beq_iff_eq] at this;exact⟨this.1.1.1,this.1.1.2,this.1.2,this.2⟩
theorem B9H {o:Nat}{a b:Int}(h:opF o=3):opT o a b=if (decide (a=0)&&decide (b=0))=true then 0 else -1:=by unfold opT;rw[if_pos h];simp only[z0,decide_eq_true_eq]
theorem C0G {o:Nat}{a b:Int}(h:opF o=1):opT o a b=if (decide (a=0)&&decide (b=0)||B9 a&&B9 b)=true then 0 else -1:=by unfold opT;rw[if_neg (by omega),if_pos h];simp only[z0,Bool.or_eq_true,decide_eq_true_eq]
theorem C0w {o:Nat}{a b:Int}(h:opF o=2):opT o a b=if (B9 a&&B9 b)=true then 0 else -1:=by unfold opT;rw[if_neg (by omega),if_neg (by omega),if_pos h];simp only[z0]
theorem B93 {o:Nat}{a b:Int}(h:opF o=0):opT o a b=if (B9 a&&B9 b)=true then max a b else -1:=by unfold opT;rw[if_neg (by omega),if_neg (by omega),if_neg (by omega)];simp only[z0]
theorem A5a (w:WD)(o:Nat)(t:o<9)(a b:Int)(R:RP)(c:R (.returned (.int .i64 (opT o a b))) w):Calls Tryz.prog 206 #[.string (P6 o),.int .i64 a,.int .i64 b] w R:=by
 obtain⟨f,g,i,j⟩:=B6f o t;have m:(a==0)=decide (a=0):=(by by_cases h:a=0<;>simp[h]);have p:(b==0)=decide (b=0):=(by by_cases h:b=0<;>simp[h]);obtain⟨l,e⟩:∃n,B9 a=n:=⟨_,rfl⟩;obtain⟨k,d⟩:∃n,B9 b=n:=⟨_,rfl⟩;generalize P6 o=S at*;rcases (show o=7∨o=8∨o=5∨o=6∨(opF o=0∧(o==7)=false∧(o==8)=false∧(o==5)=false∧(o==6)=false) by have:o=0∨o=1∨o=2∨o=3∨o=4∨o=5∨o=6∨o=7∨o=8:=(by omega);rcases this with rfl|rfl|rfl|rfl|rfl|rfl|rfl|rfl|rfl<;>simp[opF]) with rfl|rfl|rfl|rfl|⟨q,r,s,v,u⟩
 ·rw[B9H rfl] at c;replace f:(S.toList==[65,78,68])=true:=f;clear g i j;generalize decide (a=0)=pa at*;generalize decide (b=0)=pb at*;replace c:=hd c;cases pa<;>cases pb;all_goals
   go_enter Tryz.func206,Tryz.ntmps206
   go_wp2_with (first|(go_at_call 92;refine G4 _ _ _ ?_;first|rw[e]|rw[d]))
   exact A6 c.out rfl
 ·rw[B9H rfl] at c;replace f:(S.toList==[65,78,68])=false:=f;replace g:(S.toList==[79,82])=true:=g;clear i j;generalize decide (a=0)=pa at*;generalize decide (b=0)=pb at*;replace c:=hd c;cases pa<;>cases pb;all_goals
   go_enter Tryz.func206,Tryz.ntmps206
   go_wp2_with (first|(go_at_call 92;refine G4 _ _ _ ?_;first|rw[e]|rw[d]))
   exact A6 c.out rfl
 ·rw[C0G rfl,e,d] at c;replace f:(S.toList==[65,78,68])=false:=f;replace g:(S.toList==[79,82])=false:=g;replace i:(S.toList==[61])=true:=i;clear j;generalize decide (a=0)=pa at*;generalize decide (b=0)=pb at*;replace c:=hd c;cases pa<;>cases pb<;>cases l<;>cases k;all_goals
   go_enter Tryz.func206,Tryz.ntmps206
   go_wp2_with (first|(go_at_call 92;refine G4 _ _ _ ?_;first|rw[e]|rw[d]))
   exact A6 c.out rfl
 ·rw[C0w rfl,e,d] at c;replace f:(S.toList==[65,78,68])=false:=f;replace g:(S.toList==[79,82])=false:=g;replace i:(S.toList==[61])=false:=i;replace j:(S.toList==[60])=true:=j;clear m p;replace c:=hd c;cases l<;>cases k;all_goals
   go_enter Tryz.func206,Tryz.ntmps206
   go_wp2_with (first|(go_at_call 92;refine G4 _ _ _ ?_;first|rw[e]|rw[d]))
   exact A6 c.out rfl
 ·rw[B93 q,e,d] at c;rw[r] at f;rw[s] at g;rw[v] at i;rw[u] at j;clear m p;replace c:=hd c;cases l<;>cases k;all_goals
   go_enter Tryz.func206,Tryz.ntmps206
   go_wp2_with (first|(go_at_call 92;refine G4 _ _ _ ?_;first|rw[e]|rw[d]))
   exact A6 c.out rfl
end
end
section
def TY (vs:List Vd)(e:Ex)(t:Int):Prop:=(∀n,e≠.lit n)→t=K6 vs e
def Ex7 (w w':WD):Prop:=∀(c:Nat) (cur:Array VL) (f:Nat×Nat),w.heap[c]? =some (.cells cur 194 f)→∃a,w'.heap[c]? =some (.cells a 194 f)∧a.size=cur.size∧(∀j,j≠7→a[j]? =cur[j]?)∧∀t,cur[7]? =some (.int .i64 t)→∃b,a[7]? =some (.int .i64 b)
theorem Ex7.same {w w':WD}(h:∀(c:Nat) (cur:Array VL) (f:Nat×Nat),w.heap[c]? =some (.cells cur 194 f)→w'.heap[c]? =w.heap[c]?):Ex7 w w':=fun c cur f a=>⟨cur,(h c cur f a).trans a,rfl,fun _ _=>rfl,fun t b=>⟨t,b⟩⟩
theorem Ex7.trans {w w' w'':WD}(h:Ex7 w w')(g:Ex7 w' w''):Ex7 w w'':=fun c cur f u=>by obtain⟨o,m,p,q,e⟩:=h c cur f u;obtain⟨s,l,n,d,k⟩:=g c o f m;exact⟨s,l,n.trans p,fun j a=>(d j a).trans (q j a),fun t i=>by obtain⟨r,b⟩:=e t i;exact k r b⟩
theorem Ex7.set {w:WD}{b:Nat}(t:Int):Ex7 w (w.setCell ⟨b,7,none⟩ (.int .i64 t)):=fun c cur f d=>by
 by_cases e:c=b
 ·subst e;refine⟨cur.setIfInBounds 7 (.int .i64 t),by simp[World.setCell,Array.getElem?_modify,d],by simp,fun j g=>?_,fun i a=>⟨t,?_⟩⟩
  ·rw[z5,if_neg (fun h=>g h.symm)]
  ·have:7<cur.size:=(Array.getElem?_eq_some_iff.1 a).1;rw[z5];simp[this]
 ·exact⟨cur,(z4 _ _ _ _ (show c≠b from e)).trans d,rfl,fun _ _=>rfl,fun t a=>⟨t,a⟩⟩
structure Kz (lo hi:Nat)(w w':WD):Prop where
 sz:w'.heap.size=w.heap.size
 out:∀c,c<lo∨hi≤c→w'.heap[c]? =w.heap[c]?
 tag:∀(c:Nat) (cur:Array VL) (T:Nat) (f:Nat×Nat),w.heap[c]? =some (.cells cur T f)→T≠194→w'.heap[c]? =w.heap[c]?
 ex:Ex7 w w'
 fr:w'.os=w.os∧w'.tape=w.tape∧w'.output=w.output
section
variable {lo hi lo' hi':Nat}{w w' w'':WD}
theorem Kz.drewN (n:Nat):Kz lo hi w (w.drewN n):=⟨rfl,fun _ _=>rfl,fun _ _ _ _ _ _=>rfl,Ex7.same (fun _ _ _ _=>rfl),rfl,rfl,rfl⟩
theorem Kz.refl:Kz lo hi w w:=⟨rfl,fun _ _=>rfl,fun _ _ _ _ _ _=>rfl,Ex7.same (fun _ _ _ _=>rfl),rfl,rfl,rfl⟩
theorem Kz.trans (h:Kz lo hi w w')(g:Kz lo' hi' w' w'')(d:lo≤lo')(e:hi'≤hi):Kz lo hi w w'':=
 ⟨g.sz.trans h.sz,fun c a=>(g.out c (by omega)).trans (h.out c a),fun c cur T f a b=>(g.tag c cur T f ((h.tag c cur T f a b).trans a) b).trans (h.tag c cur T f a b),h.ex.trans g.ex,g.fr.1.trans h.fr.1,g.fr.2.1.trans h.fr.2.1,g.fr.2.2.trans h.fr.2.2⟩
theorem Kz.wide (h:Kz lo hi w w')(a:lo'≤lo)(b:hi≤hi'):Kz lo' hi' w w':=⟨h.sz,fun c d=>h.out c (by omega),h.tag,h.ex,h.fr⟩
theorem Kz.set {b:Nat}{f:Nat→VL}(g:w.rowIs b 194 8 f)(i:lo≤b)(k:b<hi)(t:Int):Kz lo hi w (w.setCell ⟨b,7,none⟩ (.int .i64 t)):=by refine⟨World.size_setCell _ _ _,fun c a=>z4 _ _ _ _ (show c≠b by omega),fun c cur T l a h=>z4 _ _ _ _ (show c≠b from fun e=>?_),Ex7.set t,rfl,rfl,rfl⟩;obtain⟨j,d,_⟩:=g;rw[e,d] at a;injection a with a;injection a with _ a;exact h a.symm
theorem Dg.kz {vs:List Vd}{pb m:Nat}{a:VL}(h:Dg vs pb m a w)(k:Kz lo hi w w')(b:m≤lo):Dg vs pb m a w':=h.keep (fun c d=>k.out c (by omega)) (by rw[k.sz];exact h.le)
end
def DH (vs:List Vd):Ex→Nat→Nat→WD→Nat→Prop
 |.lit n,lo,hi,w,b=>DE TA (.lit n) lo hi w b
 |.tru v,lo,hi,w,b=>DE TA (.tru v) lo hi w b
 |.plc s,lo,hi,w,b=>DE TA (.plc s) lo hi w b
 |.idx s i,lo,hi,w,b=>lo≤b∧b<hi∧∃d,DN TA (.idx s i) w b 120 0 false s ⟨#[]⟩ (some d) none∧DE (TY vs) i (b+1) hi w d
 |.bin o l r,lo,hi,w,b=>lo≤b∧b<hi∧∃bl g,DN TA (.bin o l r) w b 111 0 false ⟨#[]⟩ (P6 o) (some bl) (some g)∧DE (TY vs) l lo b w bl∧DE (TY vs) r (b+1) hi w g
 |.neg e,lo,hi,w,b=>lo≤b∧b<hi∧∃c,DN TA (.neg e) w b 33 0 false ⟨#[]⟩ ⟨#[]⟩ (some c) none∧DE (TY vs) e lo b w c
 |.sho e,lo,hi,w,b=>lo≤b∧b<hi∧∃c,DN TA (.sho e) w b 115 0 false ⟨#[]⟩ ⟨#[]⟩ (some c) none∧DE (TY vs) e lo b w c
 |.dly t a s,lo,hi,w,b=>lo≤b∧b<hi∧∃ba f m,DN TA (.dly t a s) w b 116 0 false t ⟨#[]⟩ (some ba) (some f)∧b+1≤m∧m≤hi∧DE (TY vs) a (b+1) m w ba∧DE (TY vs) s m hi w f
section
variable {vs:List Vd}{w:WD}{lo hi b:Nat}
theorem DH.row:∀{e:Ex},DH vs e lo hi w b→lo≤b∧b<hi∧∃c n a nm op x y t,w.rowIs b 194 8 (deF c n a nm op x y t)
 |.lit _,⟨h1,h2,_,_,hr⟩=>⟨h1,h2,_,_,_,_,_,_,_,_,hr⟩
 |.tru _,⟨h1,h2,_,_,hr⟩=>⟨h1,h2,_,_,_,_,_,_,_,_,hr⟩
 |.plc _,⟨h1,h2,_,_,hr⟩=>⟨h1,h2,_,_,_,_,_,_,_,_,hr⟩
 |.idx _ _,⟨h1,h2,_,⟨_,_,hr⟩,_⟩=>⟨h1,h2,_,_,_,_,_,_,_,_,hr⟩
 |.bin _ _ _,⟨h1,h2,_,_,⟨_,_,hr⟩,_⟩=>⟨h1,h2,_,_,_,_,_,_,_,_,hr⟩
 |.neg _,⟨h1,h2,_,⟨_,_,hr⟩,_⟩=>⟨h1,h2,_,_,_,_,_,_,_,_,hr⟩
 |.sho _,⟨h1,h2,_,⟨_,_,hr⟩,_⟩=>⟨h1,h2,_,_,_,_,_,_,_,_,hr⟩
 |.dly _ _ _,⟨h1,h2,_,_,_,⟨_,_,hr⟩,_⟩=>⟨h1,h2,_,_,_,_,_,_,_,_,hr⟩
theorem DN.setT {e:Ex}{f:Nat}{n:Int}{a:Bool}{nm op:BA}{x y:Option Nat}{g c:Ex→Int→Prop}{d:Int}(h:DN g e w b f n a nm op x y)(j:c e d):DN c e (w.setCell ⟨b,7,none⟩ (.int .i64 d)) b f n a nm op x y:=by obtain⟨t,_,i⟩:=h;exact⟨d,j,(i.set 7 (.int .i64 d)).congr (X6 rfl rfl rfl rfl rfl rfl rfl rfl)⟩
theorem DE.at7 {a:Ex→Int→Prop}{e:Ex}{lo' hi' b':Nat}{v:VL}(h:DE a e lo' hi' w b')(f:b<lo'∨hi'≤b):DE a e lo' hi' (w.setCell ⟨b,7,none⟩ v) b':=h.keep (fun c d g=>z4 _ _ _ _ (show c≠b by omega))
theorem DH.set:∀{e:Ex},DH vs e lo hi w b→DE (TY vs) e lo hi (w.setCell ⟨b,7,none⟩ (.int .i64 (K6 vs e))) b
 |.lit _,⟨h1,h2,h3⟩=>⟨h1,h2,h3.setT (fun _=>rfl)⟩
 |.tru _,⟨h1,h2,h3⟩=>⟨h1,h2,h3.setT (fun _=>rfl)⟩
 |.plc _,⟨h1,h2,h3⟩=>⟨h1,h2,h3.setT (fun _=>rfl)⟩
 |.idx _ _,⟨h1,h2,_,h3,h4⟩=>⟨h1,h2,_,h3.setT (fun _=>rfl),h4.at7 (.inl (by omega))⟩
 |.bin _ _ _,⟨h1,h2,_,_,h3,h4,h5⟩=>⟨h1,h2,_,_,h3.setT (fun _=>rfl),h4.at7 (.inr (z1 _)),h5.at7 (.inl (by omega))⟩
 |.neg _,⟨h1,h2,_,h3,h4⟩=>⟨h1,h2,_,h3.setT (fun _=>rfl),h4.at7 (.inr (z1 _))⟩
 |.sho _,⟨h1,h2,_,h3,h4⟩=>⟨h1,h2,_,h3.setT (fun _=>rfl),h4.at7 (.inr (z1 _))⟩
 |.dly _ _ _,⟨h1,h2,_,_,_,h3,h6,h7,h4,h5⟩=>⟨h1,h2,_,_,_,h3.setT (fun _=>rfl),h6,h7,h4.at7 (.inl (by omega)),h5.at7 (.inl (by omega))⟩
end
def oOk:Ex→Bool
 |.lit _=>true
 |.tru _=>true
 |.plc _=>true
 |.idx _ i=>oOk i
 |.bin o l r=>decide (o<9)&&oOk l&&oOk r
 |.neg e=>oOk e
 |.sho e=>oOk e
 |.dly _ a s=>oOk a&&oOk s
def A13 (vs:List Vd)(e:Ex):Prop:=∀{pb m:Nat}{a:VL}{lo hi b:Nat}{w:WD},Dg vs pb m a w→m≤lo→knE vs e=true→DE TA e lo hi w b→∀R:RP,(∀w',Kz lo hi w w'→DE (TY vs) e lo hi w' b→R (.returned (.int .i64 (K6 vs e))) w')→
 Calls Tryz.prog 91 #[.pointer (some ⟨pb,0,none⟩),.pointer (some ⟨b,0,none⟩)] w R
def A6c (vs:List Vd)(e:Ex):Prop:=∀{pb m:Nat}{a:VL}{lo hi b:Nat}{w:WD},Dg vs pb m a w→m≤lo→knE vs e=true→DE TA e lo hi w b→∀R:RP,(∀w',Kz lo hi w w'→DH vs e lo hi w' b→R (.returned (.int .i64 (K6 vs e))) w')→
 Calls Tryz.prog 142 #[.pointer (some ⟨pb,0,none⟩),.pointer (some ⟨b,0,none⟩)] w R
theorem A0O {vs:List Vd}{e:Ex}(u:A6c vs e):A13 vs e:=by
 intro pb m z lo hi b w k r s c R d;have A:b<w.heap.size:=by
  have:∃f,w.rowIs b 194 8 f:=by
   cases e with
   |lit _=>obtain⟨_,_,_,_,a⟩:=c;exact⟨_,a⟩
   |tru _=>obtain⟨_,_,_,_,a⟩:=c;exact⟨_,a⟩
   |plc _=>obtain⟨_,_,_,_,a⟩:=c;exact⟨_,a⟩
   |idx _ _=>obtain⟨_,_,_,⟨_,_,a⟩,_⟩:=c;exact⟨_,a⟩
   |bin _ _ _=>obtain⟨_,_,_,_,⟨_,_,a⟩,_⟩:=c;exact⟨_,a⟩
   |neg _=>obtain⟨_,_,_,⟨_,_,a⟩,_⟩:=c;exact⟨_,a⟩
   |sho _=>obtain⟨_,_,_,⟨_,_,a⟩,_⟩:=c;exact⟨_,a⟩
   |dly _ _ _=>obtain⟨_,_,_,_,_,⟨_,_,a⟩,_⟩:=c;exact⟨_,a⟩
  obtain⟨f,a⟩:=this;exact a.lt
 replace d:=hd d;go_enter Tryz.func91,Tryz.ntmps91;go_wp2_with (fail);refine u k r s c _ ?_;intro w1 j g;obtain⟨o,p,C,n,q,nm,op,x,y,t,a⟩:=g.row;have v:=a.cell (i:=7) (by omega);have B:=a.frozen 7;have l:=a.lt;have h:=hd (d.out _ (j.trans (Kz.set a o p (K6 vs e)) (z1 _) (z1 _)) g.set);generalize K6 vs e=T at*;clear a g j d;replace c:=hd c;replace k:=hd k;go_wp2;exact A6 h.out rfl
end
section
theorem B7b (n:Int):(A0R 1 n==n)=inI n:=by have h:=B5p n;rw[B8E] at h;exact h
theorem A8X {n:Int}(h: -2147483648≤n∧n≤2147483647):c40 n=n:=by unfold c40;omega
theorem A5c:B9 (-1)=false:=by decide
section
variable {vs:List Vd}
theorem B66 (n:Int):A6c vs (.lit n):=by
 intro pb m D lo hi b w u z s x R g;obtain⟨p,r,t,_,f⟩:=x;have C:w.cell? ⟨b,0,none⟩=some (.int .u8 108):=f.cell (i:=0) (by omega);have v:w.cell? ⟨b,1,none⟩=some (.int .i64 (c40 n)):=f.cell (i:=1) (by omega);have q:w.cell? ⟨b,2,none⟩=some (.bool (A2m n)):=f.cell (i:=2) (by omega);have B:w.cell? ⟨b,5,none⟩=some (.pointer none):=f.cell (i:=5) (by omega);have A:w.cell? ⟨b,6,none⟩=some (.pointer none):=f.cell (i:=6) (by omega);have y:=f.lt;have d:∀k,R (.returned (.int .i64 (K6 vs (.lit n)))) (w.drewN k):=fun k=>g _ (Kz.drewN k) ⟨p,r,t,trivial,f⟩;have e:R (.returned (.int .i64 (K6 vs (.lit n)))) w:=g _ Kz.refl ⟨p,r,t,trivial,f⟩;rw[B7q] at d e;clear f s g u;cases h:A2m n with
 |true=>
  rw[h,if_pos rfl] at e;rw[h] at q;replace d:=hd d;replace e:=hd e;go_enter Tryz.func142,Tryz.ntmps142;go_wp2_with (first|(go_at_call 92;refine G4 _ _ _ ?_;rw[A5c]));exact A6 e.out rfl
 |false=>
  rw[h,if_neg (by simp)] at d;rw[h] at q;have o: -2147483648≤n∧n≤2147483647:=(by unfold A2m at h;simp only[Bool.not_eq_false',z0,decide_eq_true_eq] at h;exact h);rw[A8X o] at v;have j:=B7b n;have l:inI n=decide (-32768≤n∧n≤32767):=(by unfold inI;by_cases a: -32768≤n<;>by_cases b:n≤32767<;>simp[a,b]);rw[l] at j;by_cases c: -32768≤n∧n≤32767
  ·rw[decide_eq_true c] at j;rw[if_pos c] at d;replace d:=hd d;replace e:=hd e;clear l;go_enter Tryz.func142,Tryz.ntmps142;go_wp2_with (first|(go_at_call 92;refine G4 _ _ _ ?_;rw[A5c]));go_quiet (first|(go_at_call 60;exact Calls.quiet_of_same (S1 _ _ 1 (by omega) _ ⟨rfl,rfl⟩)));go_wp2;exact A6 (d.out _) rfl
  ·rw[decide_eq_false c] at j;rw[if_neg c] at d;replace d:=hd d;replace e:=hd e;clear l;go_enter Tryz.func142,Tryz.ntmps142;go_wp2_with (first|(go_at_call 92;refine G4 _ _ _ ?_;rw[A5c]));go_quiet (first|(go_at_call 60;exact Calls.quiet_of_same (S1 _ _ 1 (by omega) _ ⟨rfl,rfl⟩)));go_wp2;exact A6 (d.out _) rfl
theorem B5R (v:Bool):A6c vs (.tru v):=by intro pb m q lo hi b w f l e g R d;obtain⟨h,j,t,_,c⟩:=g;have p:w.cell? ⟨b,0,none⟩=some (.int .u8 98):=c.cell (i:=0) (by omega);have o:w.cell? ⟨b,5,none⟩=some (.pointer none):=c.cell (i:=5) (by omega);have n:w.cell? ⟨b,6,none⟩=some (.pointer none):=c.cell (i:=6) (by omega);have k:=c.lt;have a:R (.returned (.int .i64 (K6 vs (.tru v)))) w:=d _ Kz.refl ⟨h,j,t,trivial,c⟩;rw[B6R] at a;clear c e d f;replace a:=hd a;go_enter Tryz.func142,Tryz.ntmps142;go_wp2_with (first|(go_at_call 92;refine G4 _ _ _ ?_;rw[A5c]));exact A6 a.out rfl
theorem A1V {pb m:Nat}{l:VL}{w:WD}{g i o:Nat}{v:Vd}(n:Dg vs pb m l w)(c:vs[i]? =some v)(d:R8 w g 102 4 vs.length o (dgA vs)):w.cell? ⟨g,i*4,none⟩=some (.int .i64 (v.role:Int))∧w.cell? ⟨g,i*4+2,none⟩=some (.int .i64 (v.kind:Int))∧(∃a:Int,w.cell? ⟨g,i*4+3,none⟩=some (.int .i64 a)∧decide (0≤a)=v.arr∧decide (a<0)= !v.arr)∧v.kind≤3∧v.role≤2:=by
 have b:i<vs.length:=(z6.1 c).1;obtain⟨k,p,j⟩:=n.ok v (List.mem_of_getElem? c);have e:vs.getD i ⟨⟨#[]⟩,0,0,false,0⟩=v:=(by rw[z2,c];rfl);refine⟨?_,?_,⟨if v.arr then c40 v.len else -1,?_,?_,?_⟩,k,p⟩
 ·rw[d.cell0 b (by omega)];unfold dgA;rw[e];rfl
 ·rw[d.cell b (f:=2) (by omega)];unfold dgA;rw[e];rfl
 ·rw[d.cell b (f:=3) (by omega)];unfold dgA;rw[e];rfl
 ·cases h:v.arr
  ·simp
  ·have:=j h;simp only[if_true,decide_eq_true_eq];unfold c40;omega
 ·cases h:v.arr
  ·simp
  ·have:=j h;simp only[if_true,Bool.not_true,decide_eq_false_iff_not];unfold c40;omega
theorem B53 {s:BA}(h:knE vs (.plc s)=true):∃v,C1 vs s=some v:=by simp only[knE,C7,z8,List.all_nil,Bool.and_true] at h;exact z3.1 h
theorem B73 (s:BA):A6c vs (.plc s):=by
 intro pb m J lo hi b w o L x C R h;obtain⟨y,z,t,_,d⟩:=C;have G:w.cell? ⟨b,0,none⟩=some (.int .u8 110):=d.cell (i:=0) (by omega);have M:w.cell? ⟨b,3,none⟩=some (.string s):=d.cell (i:=3) (by omega);have E:w.cell? ⟨b,5,none⟩=some (.pointer none):=d.cell (i:=5) (by omega);have N:w.cell? ⟨b,6,none⟩=some (.pointer none):=d.cell (i:=6) (by omega);have K:=d.lt;have a:∀k,R (.returned (.int .i64 (K6 vs (.plc s)))) (w.drewN k):=fun k=>h _ (Kz.drewN k) ⟨y,z,t,trivial,d⟩;obtain⟨v,f⟩:=B53 x;rw[B28 f] at a;clear d x h;replace a:=hd a;replace o:=hd o;go_enter Tryz.func142,Tryz.ntmps142;go_wp2_with (first|(go_at_call 92;refine G4 _ _ _ ?_;rw[A5c]));refine A3z o.out s _ (fun e=>by rw[f] at e;cases e) ?_;intro g i F P A p l D q j;rw[f] at l;injection l with l;subst l;obtain⟨O,U,⟨I,Q,u,B⟩,H,S⟩:=A1V o.out p j;have T:=j.lt;have r:((v.kind:Int)==3)=decide (v.kind=3):=A0r _ 3;replace j:=hd j;replace p:=hd p;replace f:=hd f;clear A q B;by_cases c:v.kind=3
 ·rw[decide_eq_true c] at r;rw[if_pos (.inl c)] at a;go_wp2_with (fail);go_quiet (fail);go_wp2;exact A6 (a.out _) rfl
 ·rw[decide_eq_false c] at r;cases n:v.arr with
  |true=>
   rw[n] at u;rw[if_pos (.inr n)] at a;go_wp2_with (fail);go_quiet (fail);go_wp2;exact A6 (a.out _) rfl
  |false=>
   rw[n] at u;rw[if_neg (by simp[c,n])] at a;go_wp2_with (fail);go_quiet (fail);go_wp2;exact A6 (a.out _) rfl
end
end
section
variable {vs:List Vd}
theorem B7f {s:BA}{r:Ex}(F:A13 vs r):A6c vs (.idx s r):=by
 intro pb m av lo hi b w B hm A Z R f;obtain⟨P,Q,J,⟨t,_,j⟩,p⟩:=Z;have M:w.cell? ⟨b,0,none⟩=some (.int .u8 120):=j.cell (i:=0) (by omega);have S:w.cell? ⟨b,3,none⟩=some (.string s):=j.cell (i:=3) (by omega);have L:w.cell? ⟨b,5,none⟩=some (.pointer (some ⟨J,0,none⟩)):=j.cell (i:=5) (by omega);have X:w.cell? ⟨b,6,none⟩=some (.pointer none):=j.cell (i:=6) (by omega);have lb:=j.lt;have G:(∃v,C1 vs s=some v)∧knE vs r=true:=(by simp only[knE,C7,z8,z0] at A;exact⟨z3.1 A.1,A.2⟩);obtain⟨⟨v,o⟩,q⟩:=G;rw[B1N o] at f;replace f:=hd f;replace j:=hd j;go_enter Tryz.func142,Tryz.ntmps142;go_wp2_with (fail);refine F B (by omega) q p _ ?_;intro w1 C l;have d:=j.out.of_block (C.out b (.inl (by omega)));have aa:w1.cell? ⟨b,0,none⟩=some (.int .u8 120):=d.cell (i:=0) (by omega);have U:w1.cell? ⟨b,3,none⟩=some (.string s):=d.cell (i:=3) (by omega);have O:w1.cell? ⟨b,6,none⟩=some (.pointer none):=d.cell (i:=6) (by omega);have K:=d.lt;have h:=B.kz C (by omega);have a:∀k,R (.returned (.int .i64 (if v.kind=3∨v.arr=false∨B9 (K6 vs r)=false then -1 else (v.kind:Int)))) (w1.drewN k):=fun k=>f.out _ ((C.wide (by omega) (z1 _)).trans (Kz.drewN k) (z1 _) (z1 _)) ⟨P,Q,J,⟨t,trivial,d⟩,l.keep (fun _ _ _=>rfl)⟩;replace a:=hd a;replace B:=hd B;replace h:=hd h;clear A q p l d C f M S L X j;generalize K6 vs r=T at*;obtain⟨N,y⟩:∃n,B9 T=n:=⟨_,rfl⟩;rw[y] at a;go_wp2_with (first|(go_at_call 92;refine G4 _ _ _ ?_;first|rw[A5c]|rw[y]));refine A3z h.out s _ (fun e=>by rw[o] at e;cases e) ?_;intro g i v' cp V D x hg E u;rw[o] at x;injection x with x;subst x;obtain⟨k0,k2,⟨sz,k3,I,Y⟩,b1,b2⟩:=A1V h.out D u;have lg:=u.lt;have H:((v.kind:Int)==3)=decide (v.kind=3):=A0r _ 3;replace u:=hd u;replace D:=hd D;replace o:=hd o;replace y:=hd y;clear V E Y;by_cases c:v.kind=3
 ·rw[decide_eq_true c] at H;rw[if_pos (.inl c)] at a;go_wp2_with (fail);go_quiet (fail);go_wp2;exact A6 (a.out _) rfl
 ·rw[decide_eq_false c] at H;cases z:v.arr with
  |false=>
   rw[z] at I;rw[if_pos (.inr (.inl z))] at a;go_wp2_with (fail);go_quiet (fail);go_wp2;exact A6 (a.out _) rfl
  |true=>
   rw[z] at I;cases N with
   |false=>
    rw[if_pos (.inr (.inr rfl))] at a;go_wp2_with (fail);go_quiet (fail);go_wp2;exact A6 (a.out _) rfl
   |true=>
    rw[if_neg (by simp[c,z])] at a;go_wp2_with (fail);go_quiet (fail);go_wp2;exact A6 (a.out _) rfl
theorem B6a {e:Ex}(x:A13 vs e):A6c vs (.neg e):=by
 intro pb m E lo hi b w r C o y R f;obtain⟨v,B,p,⟨t,_,g⟩,j⟩:=y;have s:w.cell? ⟨b,5,none⟩=some (.pointer (some ⟨p,0,none⟩)):=g.cell (i:=5) (by omega);have F:=g.lt;rw[B6z] at f;replace f:=hd f;replace g:=hd g;go_enter Tryz.func142,Tryz.ntmps142;go_wp2_with (fail);refine x r C o j _ ?_;intro w1 l k;have d:=g.out.of_block (l.out b (.inr (z1 _)));have D:w1.cell? ⟨b,0,none⟩=some (.int .u8 33):=d.cell (i:=0) (by omega);have u:w1.cell? ⟨b,6,none⟩=some (.pointer none):=d.cell (i:=6) (by omega);have A:=d.lt;have a:R (.returned (.int .i64 (if K6 vs e=0 then 0 else -1))) w1:=f.out _ (l.wide (z1 _) (by omega)) ⟨v,B,p,⟨t,trivial,d⟩,k⟩;replace a:=hd a;clear o j k d l f s g r;generalize K6 vs e=T at*;have z:(T==0)=decide (T=0):=(by by_cases h:T=0<;>simp[h]);obtain⟨N,q⟩:∃n,B9 T=n:=⟨_,rfl⟩;by_cases c:T=0
 ·rw[decide_eq_true c] at z;rw[if_pos c] at a;clear c;go_wp2_with (first|(go_at_call 92;refine G4 _ _ _ ?_;first|rw[A5c]|rw[q]));exact A6 a.out rfl
 ·rw[decide_eq_false c] at z;rw[if_neg c] at a;clear c;go_wp2_with (first|(go_at_call 92;refine G4 _ _ _ ?_;first|rw[A5c]|rw[q]));exact A6 a.out rfl
theorem B7D {e:Ex}(u:A13 vs e):A6c vs (.sho e):=by
 intro pb m C lo hi b w o r l x R c;obtain⟨z,A,p,⟨t,_,f⟩,h⟩:=x;have s:w.cell? ⟨b,5,none⟩=some (.pointer (some ⟨p,0,none⟩)):=f.cell (i:=5) (by omega);have B:=f.lt;rw[B6e] at c;replace c:=hd c;replace f:=hd f;go_enter Tryz.func142,Tryz.ntmps142;go_wp2_with (fail);refine u o r l h _ ?_;intro w1 j g;have d:=f.out.of_block (j.out b (.inr (z1 _)));have y:w1.cell? ⟨b,0,none⟩=some (.int .u8 115):=d.cell (i:=0) (by omega);have v:w1.cell? ⟨b,6,none⟩=some (.pointer none):=d.cell (i:=6) (by omega);have q:=d.lt;have a:R (.returned (.int .i64 (if B9 (K6 vs e)=true then 1 else -1))) w1:=c.out _ (j.wide (z1 _) (by omega)) ⟨z,A,p,⟨t,trivial,d⟩,g⟩;replace a:=hd a;clear l h g d j c s f o;generalize K6 vs e=T at*;obtain⟨N,k⟩:∃n,B9 T=n:=⟨_,rfl⟩;rw[k] at a;cases N with
 |true=>
  rw[if_pos rfl] at a;go_wp2_with (first|(go_at_call 92;refine G4 _ _ _ ?_;first|rw[A5c]|rw[k]));exact A6 a.out rfl
 |false=>
  rw[if_neg (by simp)] at a;go_wp2_with (first|(go_at_call 92;refine G4 _ _ _ ?_;first|rw[A5c]|rw[k]));exact A6 a.out rfl
theorem B7c {o:Nat}{l r:Ex}(H:o<9)(L:A13 vs l)(y:A13 vs r):A6c vs (.bin o l r):=by intro pb m U lo hi b w C G B Q R f;obtain⟨N,O,bl,F,⟨t,_,p⟩,u,q⟩:=Q;have J:w.cell? ⟨b,5,none⟩=some (.pointer (some ⟨bl,0,none⟩)):=p.cell (i:=5) (by omega);have X:=p.lt;have k:knE vs l=true∧knE vs r=true:=(by simp only[knE,C7,List.all_append,z0] at B;exact B);rw[B6d H] at f;replace f:=hd f;replace p:=hd p;go_enter Tryz.func142,Tryz.ntmps142;go_wp2_with (fail);refine L C G k.1 u _ ?_;intro w1 j g;have a:=p.out.of_block (j.out b (.inr (z1 _)));have z:w1.cell? ⟨b,6,none⟩=some (.pointer (some ⟨F,0,none⟩)):=a.cell (i:=6) (by omega);have I:=a.lt;have s:=C.kz j G;have x:=q.keep (w':=w1) (fun c T _=>j.out c (.inr (by omega)));clear B J p C u q;replace g:=hd g;replace j:=hd j;replace a:=hd a;go_wp2_with (fail);refine y s (by omega) k.2 x _ ?_;intro A h v;have e:=a.out.of_block (h.out b (.inl (by omega)));have K:A.cell? ⟨b,0,none⟩=some (.int .u8 111):=e.cell (i:=0) (by omega);have P:A.cell? ⟨b,4,none⟩=some (.string (P6 o)):=e.cell (i:=4) (by omega);have M:=e.lt;have d:R (.returned (.int .i64 (opT o (K6 vs l) (K6 vs r)))) A:=f.out _ ((j.out.wide (lo':=lo) (hi':=hi) (z1 _) (by omega)).trans h (by omega) (z1 _)) ⟨N,O,bl,F,⟨t,trivial,e⟩,g.out.keep (fun c _ V=>h.out c (.inl (by omega))),v⟩;replace d:=hd d;clear v h g j a e x s f k z;generalize K6 vs l=T1 at*;generalize K6 vs r=T2 at*;obtain⟨S,D⟩:∃n,B9 T1=n:=⟨_,rfl⟩;obtain⟨Y,E⟩:∃n,B9 T2=n:=⟨_,rfl⟩;go_wp2_with (first|(go_at_call 92;refine G4 _ _ _ ?_;first|rw[D]|rw[E]));refine A5a _ o H T1 T2 _ ?_;go_wp2;exact A6 d.out rfl
theorem B6q {s:BA}{a p:Ex}(N:A13 vs a)(T:A13 vs p):A6c vs (.dly s a p):=by
 intro pb m av lo hi b w U hm K hE R k;obtain⟨h1,h2,ba,Y,m',⟨t,_,B⟩,m1,m2,H,C⟩:=hE;have Z:w.cell? ⟨b,5,none⟩=some (.pointer (some ⟨ba,0,none⟩)):=B.cell (i:=5) (by omega);have lb:=B.lt;have V:(∃v,C1 vs s=some v)∧knE vs a=true∧knE vs p=true:=(by simp only[knE,C7,z8,List.all_append,z0] at K;exact⟨z3.1 K.1,K.2⟩);obtain⟨⟨v,F⟩,D,G⟩:=V;rw[B5S F] at k;replace k:=hd k;replace B:=hd B;go_enter Tryz.func142,Tryz.ntmps142;go_wp2_with (fail);refine N U (by omega) D H _ ?_;intro w1 y q;have f:=B.out.of_block (y.out b (.inl (by omega)));have O:w1.cell? ⟨b,6,none⟩=some (.pointer (some ⟨Y,0,none⟩)):=f.cell (i:=6) (by omega);have lb1:=f.lt;have u:=U.kz y (by omega);have E:=C.keep (w':=w1) (fun c r _=>y.out c (.inr (by omega)));clear K Z B U H C;replace q:=hd q;replace y:=hd y;replace f:=hd f;go_wp2_with (fail);refine T u (by omega) G E _ ?_;intro P l J;have j:=f.out.of_block (l.out b (.inl (by omega)));have c02:P.cell? ⟨b,0,none⟩=some (.int .u8 116):=j.cell (i:=0) (by omega);have aa:P.cell? ⟨b,3,none⟩=some (.string s):=j.cell (i:=3) (by omega);have ab:=j.lt;have I:=hd (u.kz l (by omega));have d:R (.returned (.int .i64 (if v.kind=3∧K6 vs a=0∧B9 (K6 vs p)=true then 0 else -1))) P:=k.out _ ((y.out.wide (lo':=lo) (hi':=hi) (by omega) (by omega)).trans l (by omega) (z1 _)) ⟨h1,h2,ba,Y,m',⟨t,trivial,j⟩,m1,m2,q.out.keep (fun c _ c2=>l.out c (.inl (by omega))),J⟩;replace d:=hd d;clear J l q y f j E u k O D G;generalize K6 vs a=T1 at*;generalize K6 vs p=T2 at*;obtain⟨N1,A⟩:∃n,B9 T1=n:=⟨_,rfl⟩;obtain⟨N2,o⟩:∃n,B9 T2=n:=⟨_,rfl⟩;rw[o] at d;have z:(T1==0)=decide (T1=0):=(by by_cases h:T1=0<;>simp[h]);go_wp2_with (first|(go_at_call 92;refine G4 _ _ _ ?_;first|rw[A]|rw[o]));refine A3z I.out s _ (fun e=>by rw[F] at e;cases e) ?_;intro g i v' cp e1 S M hg Q L;rw[F] at M;injection M with M;subst M;obtain⟨k0,k2,_,b1,b2⟩:=A1V I.out S L;have lg:=L.lt;have X:((v.kind:Int)==3)=decide (v.kind=3):=A0r _ 3;replace L:=hd L;replace S:=hd S;replace F:=hd F;replace A:=hd A;replace o:=hd o;clear e1 Q;by_cases c:v.kind=3
 ·rw[decide_eq_true c] at X;by_cases r:T1=0
  ·rw[decide_eq_true r] at z;cases N2 with
   |true=>
    rw[if_pos ⟨c,r,rfl⟩] at d;clear r;go_wp2;exact A6 d.out rfl
   |false=>
    rw[if_neg (by simp)] at d;clear r;go_wp2;exact A6 d.out rfl
  ·rw[decide_eq_false r] at z;rw[if_neg (fun x=>r x.2.1)] at d;clear r;go_wp2;exact A6 d.out rfl
 ·rw[decide_eq_false c] at X;rw[if_neg (fun x=>c x.1)] at d;go_wp2;exact A6 d.out rfl
theorem Y4:∀e:Ex,oOk e=true→A13 vs e
 |.lit n,_=>A0O (B66 n)
 |.tru b,_=>A0O (B5R b)
 |.plc s,_=>A0O (B73 s)
 |.idx s i,h=>A0O (B7f (Y4 i h))
 |.bin o l r,h=>by
  simp only[oOk,z0,decide_eq_true_eq] at h;exact A0O (B7c h.1.1 (Y4 l h.1.2) (Y4 r h.2))
 |.neg e,h=>A0O (B6a (Y4 e h))
 |.sho e,h=>A0O (B7D (Y4 e h))
 |.dly t a s,h=>by
  simp only[oOk,z0] at h;exact A0O (B6q (Y4 a h.1) (Y4 s h.2))
end
end Go.Proofs.YtidhiaaicmfabaaGreatDoor
