/- Texts (its parts, joined). -/
import Derived.Test.YtidhiaaicmfabaaGreatDoorTqAD
import Derived.Deep.RegionHeld3
import Derived.Deep.RegionWith
import Derived.Laws.BitsLemmas
import Derived.Laws.Rows
import Derived.Laws.ResultCell
import Derived.Deep.MidRow
import Derived.Laws.MakeOwn
import Derived.Deep.AppendLies
import Derived.Deep.DrawnRows
import Derived.Deep.RegionLaw
import Derived.Deep.RegionHeldLaw
import Derived.Maps.AppendAt
import Derived.ArgAppend
import Derived.Deep.LoopGhost
open Bool renaming false_eq_true→z5
open Int renaming natAbs_mul→z8
open Nat renaming mul_le_mul→z9
namespace Go.Proofs.YtidhiaaicmfabaaGreatDoor
open Go.RowKit Go.Proofs Go.Deep
set_option maxRecDepth 100000
set_option maxHeartbeats 4000000
open World renaming block_lt_of_cell?→z0,frozen?_of_block→z7
open Below renaming setCell→z1,alloc→z2,drew→z4,heap_alloc→z6
open IntWalk renaming wrap64_in→z3
theorem U5 (w:WD)(o:Nat)(R:RP)(a:R (.returned (.int .i64 (osz o:Nat))) w):Calls Tryz.prog 143 #[.int .i64 (o:Int)] w R:=by go_enter Tryz.func143,Tryz.ntmps143;go_wp2;all_goals (go_light;refine cast (congrArg (fun v=>R (.returned v) w) ?_) a;simp only[beq_iff_eq,beq_eq_false_iff_ne,ne_eq] at*;simp;unfold osz;(repeat' split)<;>omega)
def B7 (op:Nat):Nat:=if op=3∨op=18∨op=4∨op=13∨op=16 then 1 else if op=5∨(6≤op∧op≤12)∨op=14∨op=15∨op=21 then 2 else 0
def B1 (op:Nat):Nat:=if op=1∨op=2∨op=4∨op=13∨op=16∨(6≤op∧op≤12)∨op=14∨op=15∨op=21 then 1 else 0
theorem A8u (w:WD)(o:Nat)(R:RP)(g:R (.returned (.tuple #[.int .i64 (B7 o:Nat),.int .i64 (B1 o:Nat)])) w):Calls Tryz.prog 145 #[.int .i64 (o:Int)] w R:=by
 go_enter Tryz.func145,Tryz.ntmps145;go_wp2;all_goals
  go_light
  refine A6 g ?_
  simp only[beq_iff_eq,beq_eq_false_iff_ne,ne_eq] at*
  have e:∀a b c d:Int,a=c→b=d→Value.tuple #[.int .i64 a,.int .i64 b]=Value.tuple #[.int .i64 c,.int .i64 d]:=by intro a b c d e f;rw[e,f]
  refine e _ _ _ _ ?_ ?_
  ·unfold B7;(repeat' split)<;>omega
  ·unfold B1;(repeat' split)<;>omega
theorem B2P (w:WD)(bh bl n:Nat)(i:Nat)(H L:Nat→Int)(h d:Int)(hi:i<n)(_hn:n≤10000)(b:bh≠bl)(e:w.rowIs bh 3 n (fun j=>.int .i64 (H j)))(rl:w.rowIs bl 3 n (fun j=>.int .i64 (L j)))(R:RP)(f:0≤H i→H i≠h→R (.returned (.bool false)) w)(c:∀m:Int,m=max (L i) d→(H i<0∨H i=h)→R (.returned (.bool true)) ((w.setCell ⟨bh,i,none⟩ (.int .i64 h)).setCell ⟨bl,i,none⟩ (.int .i64 m))):Calls Tryz.prog 146 #[.slice (some ⟨bh,0,none⟩) n n,.slice (some ⟨bl,0,none⟩) n n,.int .i64 (i:Int),.int .i64 h,.int .i64 d] w R:=by
 change Hid _ at f;change Hid _ at c;have r:=e.cell hi;have p:=rl.cell hi;have q:=e.frozen i;have s:=rl.frozen i;have k:∀v,(w.setCell ⟨bh,i,none⟩ v).cell? ⟨bl,i,none⟩=some (.int .i64 (L i)):=fun v=>(rl.setOther (a:=⟨bh,i,none⟩) (Ne.symm b) v).cell hi;have g:∀v,(w.setCell ⟨bh,i,none⟩ v).frozen? ⟨bl,i,none⟩=false:=fun v=>(rl.setOther (a:=⟨bh,i,none⟩) (Ne.symm b) v).frozen i;clear e rl;go_enter Tryz.func146,Tryz.ntmps146;go_wp2
 ·rename_i l o;exact f.out l (by simpa using o)
 all_goals
  go_light
  refine c.out _ (by omega) ?_
  try simp only[bne_eq_false_iff_eq] at*
  omega
theorem B0k (w:WD)(b n cap:Nat)(t:Int)(A:Nat→Int)(o:n≤10000)(h:∀j,j<n→w.cell? ⟨b,j*6,none⟩=some (.int .i64 (A j)))(R:RP)(d:∀k,k<n→A k=t→(∀j,j<k→A j≠t)→R (.returned (.int .i64 (k:Int))) w)(c:(∀j,j<n→A j≠t)→R (.returned (.int .i64 (-1))) w):Calls Tryz.prog 144 #[.slice (some ⟨b,0,none⟩) n cap,.int .i64 t] w R:=by
 change Hid _ at h;change Hid _ at d;change Hid _ at c;go_enter Tryz.func144,Tryz.ntmps144;go_wp2;go_loop [5] (fun i=>∃k:Nat,k≤n∧i=.int .i64 k∧(∀j,j<k→A j≠t)) (fun i=>n-(intOf i).toNat);case atStart=>exact⟨0,by omega,rfl,by omega⟩
 case round=>
  obtain⟨k,m,rfl,a⟩:=hrel;change Hid _ at a;by_cases f:k<n
  ·have p:=h.out k f;go_wp2
   ·rename_i g _;exact d.out k f (by simpa using g) a.out
   ·rename_i g;refine⟨⟨k+1,by omega,by go_num,fun j l=>?_⟩,by simp[intOf];omega⟩;by_cases e:j=k
    ·subst e;simpa using g
    ·exact a.out j (by omega)
  ·go_wp2;exact c.out (fun j l=>a.out j (by omega))
theorem A7P (w:WD)(p:VL)(at_ c n d e:Int)(op:Nat)(q:op≠2)(s:op≠3)(i:op≠4)(l:op≠5)(g:op≠21)(R:RP)(a:∀(b:Bool) w',(b=true↔(op=19→1≤n))→Below w.heap.size w w'→R (.returned (.bool b)) w'):Calls Tryz.prog 95 #[p,.agg #[.int .i64 at_,.int .i64 op,.int .i64 c,.int .i64 n,.int .i64 d,.int .i64 e]] w R:=by
 change Hid _ at a;have f:((op:Int)==2)=false:=(by simp;omega);have m:((op:Int)==3)=false:=(by simp;omega);have j:((op:Int)==4)=false:=(by simp;omega);have o:((op:Int)==5)=false:=(by simp;omega);have k:((op:Int)==21)=false:=(by simp;omega);by_cases h:op=19
 ·subst h;go_enter Tryz.func95,Tryz.ntmps95;go_wp2;all_goals
   refine A6 (a.out _ _ ?_ (by repeat (first|exact Below.refl _ _|refine below_drewN ?_ _|refine z4 ?_|refine z2 ?_ (by simp) _|refine z1 ?_ (by simp) _))) rfl
   simp
 ·have r:((op:Int)==19)=false:=(by simp;omega);go_enter Tryz.func95,Tryz.ntmps95;go_wp2;all_goals
   refine A6 (a.out _ _ ?_ (by repeat (first|exact Below.refl _ _|refine below_drewN ?_ _|refine z4 ?_|refine z2 ?_ (by simp) _|refine z1 ?_ (by simp) _))) rfl
   simp[h]
theorem A9I:Tryz.prog.stoodInHeld 111=false:=by kernel_rfl
theorem B85:Tryz.prog.eqGuardType Tryz.prog.depth 111=false:=by kernel_rfl
theorem A8V (w:WD)(a b c d:Int):(Op.equalIn 10000 111 (.agg #[.int .i64 a,.int .i64 b]) (.agg #[.int .i64 c,.int .i64 d])).run Tryz.prog w=.ok (a==c&&b==d) w:=by rw[run_equalIn_agg w 9999 111 _ _ (by kernel_rfl) A9I];have f:(Tryz.prog.fieldsOf 111).toList=[⟨ "Role",3,0,false, "", "",0⟩,⟨ "Kind",3,1,false, "", "",8⟩]:=(by kernel_rfl);rw[f];by_cases e:a=c<;>by_cases g:b=d<;>simp[go_sem,e,g]
def A0S (rl a:Nat→Int)(b op c n:Nat):Prop:=
 1≤n∧c+n≤b∧(∀i,i<n→rl (c+i)=rl c∧a (c+i)=a c)∧((op=3∨op=5)→rl c≠0)∧(op=21→rl c=2∧a c=2)
theorem B23 (w:WD)(bx bc capc f:Nat)(rl o:Nat→Int)(at_ s q:Int)(op c n:Nat)(B:Option Addr)(l:op=2∨op=3∨op=4∨op=5∨op=21)(V:n≤255)(X:c≤255)(U:f≤100)(J:w.cell? ⟨bx,0,none⟩=some (.slice B f capc))(p:0<f→B=some ⟨bc,0,none⟩)(t:∀j,j<f→w.cell? ⟨bc,j*2,none⟩=some (.int .i64 (rl j)))(x:∀j,j<f→w.cell? ⟨bc,j*2+1,none⟩=some (.int .i64 (o j)))(R:RP)(d:∀(b:Bool) w',(b=true↔A0S rl o f op c n)→Below w.heap.size w w'→R (.returned (.bool b)) w'):Calls Tryz.prog 95 #[.pointer (some ⟨bx,0,none⟩),.agg #[.int .i64 at_,.int .i64 op,.int .i64 c,.int .i64 n,.int .i64 s,.int .i64 q]] w R:=by
 change Hid _ at d;change Hid _ at t;change Hid _ at x;change Hid _ at p;have K:bx<w.heap.size:=z0 w _ J;by_cases z:1≤n
 ·have M:decide ((n:Int)<1)=false:=(by simp;omega);by_cases A:c+n≤f
  ·have C:decide ((f:Int)<(c:Int)+n)=false:=(by simp;omega);have r:=p.out (by omega);subst r;have H:bc<w.heap.size:=z0 w _ (t.out 0 (by omega));have F:=t.out c (by omega);have G:=x.out c (by omega);rcases l with rfl|rfl|rfl|rfl|rfl;all_goals
    go_enter Tryz.func95,Tryz.ntmps95
    go_wp2
    go_quiet (fail)
    go_wp2
    go_loopw [5] (fun i wr=>∃k m:Nat,k≤n∧i=.int .i64 k∧wr=(w.alloc (Obj.cells #[.int .i64 at_,.int .i64 _,.int .i64 c,.int .i64 n,.int .i64 s,.int .i64 q] 123)).drewN m∧(∀j,j<k→rl (c+j)=rl c∧o (c+j)=o c)) (fun i _=>n-(intOf i).toNat)
    case atStart=>exact⟨0,_,by omega,rfl,rfl,by omega⟩
    case round=>
     obtain⟨k,m,D,rfl,rfl,a⟩:=hrel
     change Hid _ at a
     by_cases v:k<n
     ·have E:=t.out (c+k) (by omega);have I:=x.out (c+k) (by omega);have T:(c:Int)+(k:Int)<(f:Int):=(by omega);have O:0≤(c:Int)+(k:Int):=(by omega);have P:((c:Int)+(k:Int)).toNat=c+k:=(by omega);have S:=A8V;have Q:=A9I;have N:=B85;go_wp2;go_quiet (fail);go_wp2
      ·rename_i u;refine A6 (d.out _ _ ?_ (by repeat (first|exact Below.refl _ _|refine below_drewN ?_ _|refine z4 ?_|refine z2 ?_ (by simp) _|refine z1 ?_ (by simp) _))) rfl;simp only[z5,false_iff];intro h;have:=h.2.2.1 k v;simp[this.1,this.2] at u
      ·rename_i u;refine⟨⟨k+1,_,by omega,by go_num,rfl,fun j L=>?_⟩,by simp[intOf];omega⟩;by_cases e:j=k
       ·subst e;simpa using u
       ·exact a.out j (by omega)
     ·have:k=n:=(by omega);subst this;have y:=a.out;have g:=fun op=>(show A0S rl o f op c k↔(((op=3∨op=5)→rl c≠0)∧(op=21→rl c=2∧o c=2)) from ⟨fun h=>h.2.2.2,fun h=>⟨z,A,y,h⟩⟩);rw[g] at d;clear y g a;go_wp2;go_region;go_wp2;all_goals
       refine A6 (d.out _ _ ?_ (by repeat (first|exact Below.refl _ _|refine below_drewN ?_ _|refine z4 ?_|refine z2 ?_ (by simp) _|refine z1 ?_ (by simp) _))) rfl
       simp
       try simp[*]
  ·have C:decide ((f:Int)<(c:Int)+n)=true:=(by simp;omega);rcases l with rfl|rfl|rfl|rfl|rfl;all_goals
    go_enter Tryz.func95,Tryz.ntmps95
    go_wp2
    go_quiet (fail)
    go_wp2
    exact A6 (d.out _ _ (by simp only[z5,false_iff];exact fun h=>A h.2.1) (by repeat (first|exact Below.refl _ _|refine below_drewN ?_ _|refine z4 ?_|refine z2 ?_ (by simp) _|refine z1 ?_ (by simp) _))) rfl
 ·have:n=0:=(by omega);subst this;rcases l with rfl|rfl|rfl|rfl|rfl;all_goals
   go_enter Tryz.func95,Tryz.ntmps95
   go_wp2
   go_quiet (fail)
   go_wp2
   exact A6 (d.out _ _ (by simp only[z5,false_iff];exact fun h=>z h.1) (by repeat (first|exact Below.refl _ _|refine below_drewN ?_ _|refine z4 ?_|refine z2 ?_ (by simp) _|refine z1 ?_ (by simp) _))) rfl
def N0 (at_:Nat→Nat)(op:Nat→Nat)(C:Nat→Nat)(N:Nat→Int)(To a:Nat→Int)(i f:Nat):VL:=
 .int .i64 (if f=0 then (at_ i:Int) else if f=1 then (op i:Int) else if f=2 then (C i:Int) else if f=3 then N i else if f=4 then To i else a i)
def stV (a:List Nat):List VL:=a.reverse.map fun f:Nat=>Value.int .i64 (f:Int)
theorem B12 {at_ op C:Nat→Nat}{N To a:Nat→Int}{k:Nat}{x:Int}(j g:Nat)(c:g<6):(if j=k∧g=5 then Value.int .i64 x else N0 at_ op C N To a j g)=N0 at_ op C N To (fun j=>if j=k then x else a j) j g:=by
 unfold N0;by_cases e:g=5
 ·subst e;by_cases b:j=k<;>simp[b]
 ·simp only[e,and_false,if_false];(repeat' split)<;>first|rfl|omega
theorem A4D {at_ op C:Nat→Nat}{N To a:Nat→Int}{k:Nat}{x:Int}(j g:Nat):(if j=k∧g=4 then Value.int .i64 x else N0 at_ op C N To a j g)=N0 at_ op C N (fun j=>if j=k then x else To j) a j g:=by
 unfold N0;by_cases e:g=4
 ·subst e;by_cases b:j=k<;>simp[b]
 ·simp only[e,and_false,if_false]
theorem B13 {op:Nat→Nat}{k:Nat}(h:X5 op k=some []):O8 op k= -1:=by simp[O8,h]
theorem A5U {op:Nat→Nat}{k f:Nat}{t:List Nat}(h:X5 op k=some (f::t)):O8 op k=f:=by simp[O8,h]
theorem A5J {op:Nat→Nat}{k:Nat}{a:List Nat}(h:X5 op k=some a)(b:op k≠19)(c:op k≠20):X5 op (k+1)=some a:=by simp[X5,h,b,c]
theorem A9D {op:Nat→Nat}{k:Nat}{a:List Nat}(h:X5 op k=some a)(b:op k=19)(c:a.length<10):X5 op (k+1)=some (k::a):=by simp[X5,h,b];omega
theorem B4l {op:Nat→Nat}{k:Nat}{a:List Nat}(h:X5 op k=some a)(b:op k=19)(c:10≤a.length):X5 op (k+1)=none:=by simp[X5,h,b,c]
theorem B2D {op:Nat→Nat}{k f:Nat}{t:List Nat}(h:X5 op k=some (f::t))(a:op k=20):X5 op (k+1)=some t:=by simp[X5,h,a]
theorem A4j {op:Nat→Nat}{k:Nat}(h:X5 op k=some [])(a:op k=20):X5 op (k+1)=none:=by simp[X5,h,a]
theorem A9i {op:Nat→Nat}{k n:Nat}{a:Nat→Int}(g:∀j,j<k→a j=O8 op j)(b:∀j,k≤j→j<n→a j= -1)(d:k<n)(h:O8 op k= -1):(∀j,j<k+1→a j=O8 op j)∧(∀j,k+1≤j→j<n→a j= -1):=
 ⟨fun j c=>by
  by_cases e:j=k
  ·subst e;rw[b j (by omega) d,h]
  ·exact g j (by omega),fun j c f=>b j (by omega) f⟩
theorem B7M {op:Nat→Nat}{k n:Nat}{a:Nat→Int}{x:Int}(d:∀j,j<k→a j=O8 op j)(f:∀j,k≤j→j<n→a j= -1)(h:O8 op k=x):(∀j,j<k+1→(fun j=>if j=k then x else a j) j=O8 op j)∧(∀j,k+1≤j→j<n→(fun j=>if j=k then x else a j) j= -1):=
 ⟨fun j b=>by
  by_cases e:j=k
  ·subst e;simp[h]
  ·simp only[e,if_false];exact d j (by omega),fun j b c=>by have e:j≠k:=(by omega);simp only[e,if_false];exact f j (by omega) c⟩
theorem A21 {op:Nat→Nat}{k:Nat}{To:Nat→Int}(h:∀j,j<k→op j=20→To j=O8 op j)(b:op k≠20):∀j,j<k+1→op j=20→To j=O8 op j:=
 fun j c a=>by
  by_cases e:j=k
  ·subst e;exact absurd a b
  ·exact h j (by omega) a
theorem N3 {w:WD}{b e c:Nat}{v:VL}{n:Nat}{xs:List VL}(h:w.ownsRow b e c v n xs){a:Addr}(d:a.block<b)(u:VL):(w.setCell a u).ownsRow b e c v n xs:=
 ownsRow_setCell_below h d u
theorem A4K (f:Nat)(t:List Nat):stV (f::t)=stV t++[Value.int .i64 (f:Int)]:=by simp[stV]
theorem A6B (t:List Nat):(stV t).length=t.length:=by simp[stV]
theorem B2U (a:Int):∀u∈[Value.int .i64 a],u.oneCell'=true:=by intro u b;simp only[List.mem_cons,List.not_mem_nil,or_false] at b;rcases b with rfl;rfl
theorem A6m:(Tryz.prog.info? 3).map (fun i=>(i.zero,i.size,i.bytes))=some (some (.int .i64 0),1,8):=by kernel_rfl
theorem A53:Tryz.prog.underlying 38=some (.slice 3):=by kernel_rfl
theorem B0H (w:WD)(bx b n cap:Nat)(at_ op C:Nat→Nat)(N To In:Nat→Int)(hn:n≤8000)(hne:bx≠b)(hx:w.cell? ⟨bx,1,none⟩=some (.slice (some ⟨b,0,none⟩) n cap))(ht:R8 w b 123 6 n cap (N0 at_ op C N To In))(U:∀i,i<n→In i= -1)(R:RP)(Z:X5 op n≠some []→∀w',A8 b w w'→R (.returned (.bool false)) w')(P:X5 op n=some []→∀w' s,A8 b w w'→R8 w' b 123 6 n cap (N0 at_ op C N s (O8 op))→(∀i,i<n→op i=20→s i=O8 op i)→R (.returned (.bool true)) w'):Calls Tryz.prog 96 #[.pointer (some ⟨bx,0,none⟩)] w R:=by
 replace P:=hd P;replace Z:=hd Z;replace U:=hd U;have hbx:bx<w.heap.size:=z0 w _ hx;have Q:=ht.lt;replace ht:=hd ht;go_enter Tryz.func96,Tryz.ntmps96;go_wp2;go_loopw [3,4] (fun v i wr=>∃(k:Nat) (K:List Nat) (s E:Nat→Int),k≤n∧i=.int .i64 k∧X5 op k=some K∧wr.ownsRow w.heap.size 3 1 v K.length (stV K)∧
   A8 b w wr∧R8 wr b 123 6 n cap (N0 at_ op C N s E)∧(∀j,j<k→E j=O8 op j)∧(∀j,k≤j→j<n→E j= -1)∧(∀j,j<k→op j=20→s j=O8 op j)) (fun _ i _=>n-(intOf i).toNat)
 case atStart=>exact⟨0,[],To,In,by omega,rfl,rfl,World.ownsRow_nil _ _ _ _,A8.refl _ _,ht.out,by omega,fun j _ hj=>U.out j hj,by omega⟩
 case round=>
  obtain⟨k,K,s,E,V,rfl,q,a,h,m,A,B,D⟩:=hrel;have hx1:wr.cell? ⟨bx,1,none⟩=some (.slice (some ⟨b,0,none⟩) n cap):=(by rw[h.cell hbx hne];exact hx);have O:=A9h op k K q;have Y:=hd (A6w op k K q);obtain⟨ao,capo,hv,I,y⟩:=H5 a;subst hv;have hbs:=h.size;replace a:=hd a;replace h:=hd h;replace q:=hd q;replace A:=hd A;replace B:=hd B;replace D:=hd D;replace y:=hd y;by_cases F:k<n
  ·have c1:wr.cell? ⟨b,k*6+1,none⟩=some (.int .i64 (op k)):=m.cell F (f:=1) (by omega);have c5:wr.cell? ⟨b,k*6+5,none⟩=some (.int .i64 (-1)):=(by rw[m.cell F (f:=5) (by omega),←B.out k (by omega) F];rfl);have c4:wr.cell? ⟨b,k*6+4,none⟩=some (.int .i64 (s k)):=m.cell F (f:=4) (by omega);have fz:=fun o=>m.frozen o;replace m:=hd m;cases K with
   |nil=>
    have L:=B13 q.out;replace L:=hd L;simp only[List.length_nil] at I O a y ⊢;by_cases r:op k=19
    ·replace r:=hd r;have M:((op k:Int)==19)=true:=(by simp[r.out]);go_wp2_with (first|(at_builtin;refine C3 _ rfl _ _ 38 rfl w.heap.size 3 _ 1 8 A53 A6m rfl (by decide) _ _ _ rfl (by first|exact a.out.alloc _|exact (N3 a.out Q _).alloc _) _ 1 1 _ rfl (A9 (by simp)) rfl (B2U _) (by unfold maxLen;omega) (by omega) (by simp;omega) ?_;intro v1 w1 c l;have H:=H5 c;replace c:=hd c;replace l:=hd l;obtain⟨ab,G,rfl,J,d⟩:=H;replace d:=hd d));have hi:=A9i A.out B.out F L.out;refine⟨⟨k+1,[k],s,E,by omega,by go_num,A9D q.out r.out (by simp),c.out,?_,?_,hi.1,hi.2,A21 D.out (by rw[r.out];decide)⟩,by simp[intOf];omega⟩
     ·exact (h.out.alloc _).grown l.out (fun k V=>.inr (a.out.lt k V).1)
     ·exact (m.out.alloc _).of_block (l.out.block b (by simp;omega) (fun e=>by have:=(a.out.lt b e.symm).1;omega))
    ·by_cases z:op k=20
     ·go_wp2;refine A6 (Z.out (by rw[A27 op (A4j q.out z) (by omega)];simp) _ h.out) rfl
     ·have M:((op k:Int)==19)=false:=(by simp;omega);have X:((op k:Int)==20)=false:=(by simp;omega);go_wp2;have hi:=A9i A.out B.out F L.out;refine⟨⟨k+1,[],s,E,by omega,by go_num,A5J q.out r z,a.out,h.out,m.out,hi.1,hi.2,A21 D.out z⟩,by simp[intOf];omega⟩
   |cons f t=>
    have aa:=hd (A5U q.out);obtain⟨g,hao,hg1,hg2,S⟩:=y.out (by simp);subst hao;have hfm:=Y.out f (by simp);have cg:wr.cell? ⟨g,t.length,none⟩=some (.int .i64 (f:Int)):=S t.length _ (by rw[A4K,List.getElem?_append_right (by rw[A6B];omega),A6B];simp);have hgb:¬g=b:=(by omega);have hgb':¬b=g:=(by omega);replace S:=hd S;simp only[List.length_cons] at I O a y ⊢;have hi:=B7M A.out B.out (x:=(f:Int)) aa.out;have u:R8 (wr.setCell ⟨b,k*6+5,none⟩ (.int .i64 (f:Int))) b 123 6 n cap (N0 at_ op C N s (fun j=>if j=k then (f:Int) else E j)):=
     (m.out.set k 5 (by omega) _).congr (fun j _ g hg=>B12 j g hg)
    have p:A8 b w (wr.setCell ⟨b,k*6+5,none⟩ (.int .i64 (f:Int))):=h.out.setCell (.inl rfl) _;replace hi:=hd hi;replace u:=hd u;replace p:=hd p;by_cases r:op k=19
    ·replace r:=hd r;have M:((op k:Int)==19)=true:=(by simp[r.out]);by_cases T:10≤t.length+1
     ·have hlf:10<(t.length:Int)+1+1:=(by omega);go_wp2_with (first|(at_builtin;refine C3 _ rfl _ _ 38 rfl w.heap.size 3 _ 1 8 A53 A6m rfl (by decide) _ _ _ rfl (by first|exact a.out.alloc _|exact (N3 a.out Q _).alloc _) _ 1 1 _ rfl (A9 (by simp)) rfl (B2U _) (by unfold maxLen;omega) (by omega) (by simp;omega) ?_;intro v1 w1 c l;have H:=H5 c;replace c:=hd c;replace l:=hd l;obtain⟨ab,G,rfl,J,d⟩:=H;replace d:=hd d));refine A6 (Z.out (by rw[A27 op (B4l q.out r.out (by simpa using T)) (by omega)];simp) _ ?_) rfl;exact (p.out.alloc _).grown l.out (fun k V=>.inr (a.out.lt k V).1)
     ·have hlf:t.length+1+1≤10:=(by omega);go_wp2_with (first|(at_builtin;refine C3 _ rfl _ _ 38 rfl w.heap.size 3 _ 1 8 A53 A6m rfl (by decide) _ _ _ rfl (by first|exact a.out.alloc _|exact (N3 a.out Q _).alloc _) _ 1 1 _ rfl (A9 (by simp)) rfl (B2U _) (by unfold maxLen;omega) (by omega) (by simp;omega) ?_;intro v1 w1 c l;have H:=H5 c;replace c:=hd c;replace l:=hd l;obtain⟨ab,G,rfl,J,d⟩:=H;replace d:=hd d));refine⟨⟨k+1,k::f::t,s,_,by omega,by go_num,A9D q.out r.out (by simp;omega),?_,?_,?_,hi.out.1,hi.out.2,A21 D.out (by rw[r.out];decide)⟩,by simp[intOf];omega⟩
      ·rw[A4K];exact c.out
      ·exact (p.out.alloc _).grown l.out (fun k V=>.inr (a.out.lt k V).1)
      ·exact (u.out.alloc _).of_block (l.out.block b (by simp;omega) (fun e=>by have:=(a.out.lt b e.symm).1;omega))
    ·by_cases z:op k=20
     ·replace z:=hd z;have M:((op k:Int)==19)=false:=(by simp;omega);have X:((op k:Int)==20)=true:=(by simp[z.out]);have hfn:(f:Int)<(n:Int):=(by omega);have cf4:wr.cell? ⟨b,f*6+4,none⟩=some (.int .i64 (s f)):=m.out.cell (by omega) (f:=4) (by omega);have hkf:¬f*6+4=k*6+4:=(by omega);have hkf5:¬f*6+4=k*6+5:=(by omega);have e0:((t.length:Int)+1==0)=false:=(by simp;omega);go_wp2;go_region;go_wp2;refine⟨⟨k+1,t,(fun j=>if j=f then (k:Int) else if j=k then (f:Int) else s j),_,by omega,by go_num,B2D q.out z.out,?_,?_,?_,hi.out.1,hi.out.2,?_⟩,by simp[intOf];omega⟩
      ·have h1:=a.out;rw[A4K] at h1;exact S4 (N3 (N3 (N3 (ownsRow_pop (by rw[A6B];omega) h1) Q _) Q _) Q _)
      ·exact ((p.out.setCell (.inl rfl) _).setCell (.inl rfl) _).drew
      ·have h1:=(u.out.set k 4 (by omega) (.int .i64 (f:Int))).congr (fun j _ g _=>A4D j g);have h2:=(h1.set f 4 (by omega) (.int .i64 (k:Int))).congr (fun j _ g _=>A4D j g);exact h2.drew
      ·intro j hj ho;have hjf:j≠f:=fun e=>by rw[e,hfm.2] at ho;omega
       simp only[hjf,if_false];by_cases e:j=k
       ·subst e;simp[aa.out]
       ·simp only[e,if_false];exact D.out j (by omega) ho
     ·have M:((op k:Int)==19)=false:=(by simp;omega);have X:((op k:Int)==20)=false:=(by simp;omega);go_wp2;refine⟨⟨k+1,f::t,s,_,by omega,by go_num,A5J q.out r z,N3 a.out Q _,p.out,u.out,hi.out.1,hi.out.2,A21 D.out z⟩,by simp[intOf];omega⟩
  ·have:k=n:=(by omega);subst this;go_wp2;by_cases e:K=[]
   ·subst e;refine A6 (P.out q.out _ _ h.out (m.congr fun i hi f hf=>?_) D.out) rfl;unfold N0;(repeat' split)<;>first|rfl|(rw[A.out i hi])
   ·refine A6 (Z.out (by rw[q.out];simpa using e) _ h.out) ?_;have:K.length≠0:=(by simpa using e);simp[this]
def R6 (f:Nat→Int)(t:Nat)(v:Int):Nat→Int:=fun j=>if j=t then v else f j
def jn (H L:Nat→Int)(t:Nat)(h d:Int):Option ((Nat→Int)×(Nat→Int)):=
 if 0≤H t∧H t≠h then none else some (R6 H t h,R6 L t (max (L t) d))
def D7 (op:Nat→Nat)(N:Nat→Int)(To:Nat→Nat)(i:Nat)(H L:Nat→Int):Option ((Nat→Int)×(Nat→Int)):=
 if H i<B7 (op i)∨32<H i-B7 (op i)+B1 (op i) then none
 else if op i=17 then jn H L (To i) (H i-B7 (op i)+B1 (op i)) (L i+1)
 else if op i=18 then
  match jn H L (To i) (H i-B7 (op i)+B1 (op i)) (L i+1) with
  |none=>none
  |some S=>jn S.1 S.2 (i+1) (H i-B7 (op i)+B1 (op i)) (L i+1)
 else if op i=19 then jn H L (i+1) (H i-B7 (op i)+B1 (op i)) 0
 else if op i=20 then
  (if H i-B7 (op i)+B1 (op i)=H (To i+1) then jn H L (i+1) (H i-B7 (op i)+B1 (op i)) (min (L (To i)+1+N (To i)*(L i+1)) 1099511627776) else none)
 else jn H L (i+1) (H i-B7 (op i)+B1 (op i)) (L i+1)
def P7 (op:Nat→Nat)(N:Nat→Int)(To:Nat→Nat)(n:Nat):Nat→Nat→(Nat→Int)→(Nat→Int)→Option Int
 |0,_,_,_=>none
 |fuel+1,i,H,L=>
  if op i=0 then (if H i=0∧i+1=n then some (L i+1) else none)
  else
   match D7 op N To i H L with
   |none=>none
   |some S=>P7 op N To n fuel (i+1) S.1 S.2
def H0:Nat→Int:=fun j=>if j=0 then 0 else -1
def L0:Nat→Int:=fun _=>0
theorem A2b {H L:Nat→Int}{t:Nat}{h d:Int}(a:0≤H t∧H t≠h):jn H L t h d=none:=by simp[jn,a]
theorem S8 {H L:Nat→Int}{t:Nat}{h d:Int}(a:¬(0≤H t∧H t≠h)):jn H L t h d=some (R6 H t h,R6 L t (max (L t) d)):=by rw[jn,if_neg a]
theorem A5L {w:WD}{bh bl n i T:Nat}{H L:Nat→Int}{h m d:Int}(b:bh≠bl)(c:m=max (L i) d)(e:w.rowIs bh T n (fun j=>.int .i64 (H j)))(rl:w.rowIs bl T n (fun j=>.int .i64 (L j))):((w.setCell ⟨bh,i,none⟩ (.int .i64 h)).setCell ⟨bl,i,none⟩ (.int .i64 m)).rowIs bh T n (fun j=>.int .i64 (R6 H i h j))∧((w.setCell ⟨bh,i,none⟩ (.int .i64 h)).setCell ⟨bl,i,none⟩ (.int .i64 m)).rowIs bl T n (fun j=>.int .i64 (R6 L i (max (L i) d) j)):=by
 subst c;constructor
 ·refine ((e.set i (.int .i64 h)).setOther (a:=⟨bl,i,none⟩) b _).congr fun j _=>?_;unfold R6;split<;>rfl
 ·refine ((rl.setOther (a:=⟨bh,i,none⟩) (Ne.symm b) _).set i _).congr fun j _=>?_;unfold R6;split<;>rfl
theorem A4N (w:WD)(a:Int)(R:RP)(b:R (.returned (.int .i64 a)) w):Calls Tryz.prog 14 #[.int .i64 a] w R:=by replace b:=hd b;go_enter Tryz.func14,Tryz.ntmps14;go_wp2;exact A6 b.out rfl
def A4C (s:BA)(a:Nat):Int:=if bt s a=1 then s32 s (a+1) else if bt s a=2∨bt s a=3∨bt s a=21∨bt s a=4∨bt s a=5 then (bt s (a+1):Int) else if bt s a=17∨bt s a=18∨bt s a=19 then (b16 s (a+1):Int) else 0
def A8a (s:BA)(a:Nat):Int:=if bt s a=4∨bt s a=5 then (bt s (a+2):Int) else 0
theorem A0l {w w':WD}{b e a:Nat}{v:VL}{n:Nat}{xs:List VL}(h:w.ownsRow b e a v n xs)(c:Below w.heap.size w w'):w'.ownsRow b e a v n xs:=
 h.kept (row:=none) ⟨c.os,c.tape,c.output,c.size,fun i hi _=>c.block i hi⟩ (by cases v.ownBlock<;>simp)
theorem V4 {w:WD}{b e a:Nat}{v:VL}{n:Nat}{xs:List VL}(h:w.ownsRow b e a v n xs):∃c cap,v=.slice c n cap:=by
 rcases h.2 with ⟨rfl,rfl⟩|⟨g,cap,cur,rfl,_⟩
 ·exact⟨none,0,rfl⟩
 ·exact⟨_,cap,rfl⟩
theorem B24 {w:WD}{c a e b:Nat}{v:VL}{n:Nat}{xs:List VL}(h:w.ownsRow c e b v n xs)(i:a≤c):w.ownsRow a e b v n xs:=by
 refine⟨h.1,?_⟩;rcases h.2 with k|⟨g,cap,cur,j,d,f⟩
 ·exact .inl k
 ·exact .inr ⟨g,cap,cur,j,Nat.le_trans i d,f⟩
theorem six {w:WD}{g T:Nat}{e d a b c f:VL}(h:w.heap[g]? =some (.cells #[e,d,a,b,c,f] T (0,0))):w.cell? ⟨g,0,none⟩=some e∧w.cell? ⟨g,1,none⟩=some d∧w.cell? ⟨g,2,none⟩=some a∧w.cell? ⟨g,3,none⟩=some b∧w.cell? ⟨g,4,none⟩=some c∧w.cell? ⟨g,5,none⟩=some f∧∀j,w.frozen? ⟨g,j,none⟩=false:=by refine⟨?_,?_,?_,?_,?_,?_,fun j=>by simp[World.frozen?,h]⟩<;>rw[cell_of_row w g _ _ T (0,0) h]<;>rfl
def tr (b:Bool):Int:=if b then 1 else 0
def A0R (k:Nat)(n:Int):Int:=if k=0 then tr (n !=0) else if k=1 then IntKind.i16.wrap n else wrap32 n
def Y2 (x:Int):Prop:= -2147483648≤x∧x≤2147483647
theorem B8F (b:Bool):Y2 (tr b):=by cases b<;>unfold tr Y2<;>simp
theorem B7A (n:Int): -32768≤IntKind.i16.wrap n∧IntKind.i16.wrap n≤32767:=by
 have e:IntKind.i16.wrap n=if n%65536≥32768 then n%65536-65536 else n%65536:=(by unfold IntKind.wrap;by_cases h:n%65536≥32768<;>simp[IntKind.bits,IntKind.signed,h]);rw[e];by_cases h:n%65536≥32768
 ·rw[if_pos h];omega
 ·rw[if_neg h];omega
theorem A8i (n:Int):Y2 (wrap32 n):=by unfold wrap32 Y2;omega
theorem B4f (k:Nat)(n:Int):Y2 (A0R k n):=by
 unfold A0R;split
 ·exact B8F _
 ·split
  ·have:=B7A n;unfold Y2;omega
  ·exact A8i n
structure B1w (b c base:Nat)(w w':WD):Prop where
 os:w'.os=w.os
 tape:w'.tape=w.tape
 output:w'.output=w.output
 size:base≤w'.heap.size
 block:∀k,k<base→k≠b→k≠c→w'.heap[k]? =w.heap[k]?
def A1m (l:List Int):List VL:=(l.map (fun x=>Value.int .i64 x)).reverse
theorem Y0 (w:WD)(b:Bool)(R:RP)(a:R (.returned (.int .i64 (tr b))) w):Calls Tryz.prog 115 #[.bool b] w R:=by
 replace a:=hd a;cases b
 ·go_enter Tryz.func115,Tryz.ntmps115;go_wp2;exact A6 a.out rfl
 ·go_enter Tryz.func115,Tryz.ntmps115;go_wp2;exact A6 a.out rfl
theorem B8E (n:Int):wrap64 (IntKind.i16.wrap n)=IntKind.i16.wrap n:=by have e:IntKind.i16.wrap n=if n%65536≥32768 then n%65536-65536 else n%65536:=(by unfold IntKind.wrap;by_cases h:n%65536≥32768<;>simp[IntKind.bits,IntKind.signed,h]);have: -32768≤IntKind.i16.wrap n∧IntKind.i16.wrap n≤32767:=(by rw[e];split<;>omega);exact z3 _ (by omega)
theorem C0A (n:Int):wrap64 (wrap32 n)=wrap32 n:=by have: -2147483648≤wrap32 n∧wrap32 n≤2147483647:=(by unfold wrap32;omega);exact z3 _ (by omega)
theorem S1 (w:WD)(n:Int)(k:Nat)(b:k≤2)(R:RP)(a:R (.returned (.int .i64 (A0R k n))) w):Calls Tryz.prog 60 #[.int .i64 n,.int .i64 (k:Int)] w R:=by
 replace a:=hd a;obtain rfl|rfl|rfl:k=0∨k=1∨k=2:=by omega
 ·by_cases h:n=0
  ·have d:(n==0)=true:=(by simpa using h);go_enter Tryz.func60,Tryz.ntmps60;go_wp2;exact A6 a.out (by simp[A0R,tr,h])
  ·have d:(n==0)=false:=(by simpa using h);go_enter Tryz.func60,Tryz.ntmps60;go_wp2;exact A6 a.out (by simp[A0R,tr,h])
 ·go_enter Tryz.func60,Tryz.ntmps60;go_wp2;exact A6 a.out (by show Value.int _ _=Value.int _ _;rw[B8E];rfl)
 ·go_enter Tryz.func60,Tryz.ntmps60;go_wp2;exact A6 a.out (by show Value.int _ _=Value.int _ _;rw[C0A];rfl)
def A1v (o:Nat)(a b:Int):Int×Int:=
 if o=6 then (a+b,0) else if o=7 then (a-b,0) else if o=8 then (a*b,0) else if o=9 then (if b=0 then (0,4) else (wrap32 (a.tdiv b),0))
 else if o=10 then (if b=0 then (0,4) else (a-b*wrap32 (a.tdiv b),0)) else if o=11 then (tr (a==b),0) else if o=12 then (tr (decide (a<b)),0)
 else if o=14 then (tr (a !=0&&b !=0),0) else (tr (a !=0||b !=0),0)
theorem B2F (w:WD)(o:Nat)(a b:Int)(n: -2147483648≤a∧a≤2147483647)(m: -2147483648≤b∧b≤2147483647)(i:o=6∨o=7∨o=8∨o=9∨o=10∨o=11∨o=12∨o=14∨o=15)(R:RP)(c:R (.returned (.tuple #[.int .i64 (A1v o a b).1,.int .i64 (A1v o a b).2])) w):Calls Tryz.prog 116 #[.int .i64 (o:Int),.int .i64 a,.int .i64 b] w R:=by
 replace c:=hd c;have l: -4611686018427387904≤a*b∧a*b≤4611686018427387904:=(by have f:(a*b).natAbs≤2147483648*2147483648:=(by rw[z8];exact z9 (by omega) (by omega));omega);rcases i with rfl|rfl|rfl|rfl|rfl|rfl|rfl|rfl|rfl
 ·go_enter Tryz.func116,Tryz.ntmps116;go_wp2;exact A6 c.out (by simp[A1v])
 ·go_enter Tryz.func116,Tryz.ntmps116;go_wp2;exact A6 c.out (by simp[A1v])
 ·go_enter Tryz.func116,Tryz.ntmps116;go_wp2;exact A6 c.out (by simp[A1v])
 ·by_cases e:b=0
  ·have d:(b==0)=true:=(by simpa using e);go_enter Tryz.func116,Tryz.ntmps116;go_wp2;exact A6 c.out (by simp[A1v,e])
  ·have d:(b==0)=false:=(by simpa using e);have j: -2147483648≤wrap32 (a.tdiv b)∧wrap32 (a.tdiv b)≤2147483647:=(by unfold wrap32;omega);have k:wrap64 (a.tdiv b)=a.tdiv b:=z3 _ (by have f:(a.tdiv b).natAbs≤a.natAbs:=(by rw[Int.natAbs_tdiv];exact Nat.div_le_self _ _);omega);go_enter Tryz.func116,Tryz.ntmps116;go_wp2_with (fail);refine S1 _ _ 2 (by omega) _ ?_;rw[show A0R 2 (a.tdiv b)=wrap32 (a.tdiv b) from rfl];have g: -4611686018427387904≤b*wrap32 (a.tdiv b)∧b*wrap32 (a.tdiv b)≤4611686018427387904:=(by have f:(b*wrap32 (a.tdiv b)).natAbs≤2147483648*2147483648:=(by rw[z8];exact z9 (by omega) (by omega));omega);go_wp2;exact A6 c.out (by simp[A1v,e])
 ·by_cases e:b=0
  ·have d:(b==0)=true:=(by simpa using e);go_enter Tryz.func116,Tryz.ntmps116;go_wp2;exact A6 c.out (by simp[A1v,e])
  ·have d:(b==0)=false:=(by simpa using e);have j: -2147483648≤wrap32 (a.tdiv b)∧wrap32 (a.tdiv b)≤2147483647:=(by unfold wrap32;omega);have k:wrap64 (a.tdiv b)=a.tdiv b:=z3 _ (by have f:(a.tdiv b).natAbs≤a.natAbs:=(by rw[Int.natAbs_tdiv];exact Nat.div_le_self _ _);omega);go_enter Tryz.func116,Tryz.ntmps116;go_wp2_with (fail);refine S1 _ _ 2 (by omega) _ ?_;rw[show A0R 2 (a.tdiv b)=wrap32 (a.tdiv b) from rfl];have g: -4611686018427387904≤b*wrap32 (a.tdiv b)∧b*wrap32 (a.tdiv b)≤4611686018427387904:=(by have f:(b*wrap32 (a.tdiv b)).natAbs≤2147483648*2147483648:=(by rw[z8];exact z9 (by omega) (by omega));omega);go_wp2;exact A6 c.out (by simp[A1v,e])
 ·go_enter Tryz.func116,Tryz.ntmps116;go_wp2_with (first|(go_at_call 115;refine Y0 _ _ _ ?_));exact A6 c.out (by simp[A1v])
 ·go_enter Tryz.func116,Tryz.ntmps116;go_wp2_with (first|(go_at_call 115;refine Y0 _ _ _ ?_));exact A6 c.out (by simp[A1v])
 ·cases h:(a !=0);all_goals
   go_enter Tryz.func116,Tryz.ntmps116
   go_wp2_with (fail)
   refine Y0 _ _ _ ?_
   go_wp2
   exact A6 c.out (by simp[A1v,h])
 ·cases h:(a !=0);all_goals
   go_enter Tryz.func116,Tryz.ntmps116
   go_wp2_with (fail)
   refine Y0 _ _ _ ?_
   go_wp2
   exact A6 c.out (by simp[A1v,h])
theorem B1y (w:WD)(bm g n cap:Nat)(x:Int)(h:w.cell? ⟨bm,5,none⟩=some (.slice (some ⟨g,0,none⟩) (n+1) cap))(d:w.frozen? ⟨bm,5,none⟩=false)(i:n+1≤cap)(b:cap≤maxLen)(e:w.cell? ⟨g,n,none⟩=some (.int .i64 x))(R:RP)(a:∀W,Below w.heap.size w W→R (.returned (.int .i64 x)) (W.setCell ⟨bm,5,none⟩ (.slice (some ⟨g,0,none⟩) n cap))):Calls Tryz.prog 114 #[.pointer (some ⟨bm,0,none⟩)] w R:=by replace a:=hd a;unfold maxLen at b;have j:((n+1:Nat):Int)-1=(n:Int):=(by omega);have c:(0:Int)≤(n:Int)∧(n:Int)<((n+1:Nat):Int):=(by omega);have f:(0:Int)≤(n:Int)∧(n:Int)≤(cap:Int):=(by omega);go_enter Tryz.func114,Tryz.ntmps114;go_wp2;go_quiet (fail);go_wp2;go_region;go_wp2;exact A6 (a.out _ (by repeat (first|with_reducible exact Below.refl _ _|with_reducible refine below_drewN ?_ _|with_reducible refine z4 ?_|with_reducible refine z2 ?_ (by simp) _|with_reducible refine z1 ?_ (by simp) _))) rfl
theorem A6x {w:WD}{a:Addr}{v:VL}(h:w.cell? a=some v)(o:Obj):(w.alloc o).cell? a=some v:=by rw[World.cell?_alloc_lt _ _ _ (z0 w a h)];exact h
theorem A3q {w:WD}{a:Addr}(h:w.frozen? a=false)(b:a.block<w.heap.size)(o:Obj):(w.alloc o).frozen? a=false:=by rw[z7 (w:=w) (w':=w.alloc o) (z6 w o a.block b)];exact h
theorem B3p {w:WD}{a e:Nat}{i:Option Addr}{n cap m:Nat}{xs:List VL}(h:w.ownsRow a e 1 (.slice i n cap) n xs)(r:m≤n):w.ownsRow a e 1 (.slice i m cap) m (xs.take m):=by
 refine⟨by rw[List.length_take,h.1];omega,?_⟩;rcases h.2 with ⟨b,s⟩|⟨g,f,cur,b,o,j,t,l,q,k⟩
 ·injection b with d p c;subst d;subst c;have:m=0:=(by omega);subst this;exact .inl ⟨rfl,rfl⟩
 ·injection b with d p c;subst d;subst c;refine .inr ⟨g,_,cur,rfl,o,j,by omega,l,q,?_⟩;rw[←k,List.take_take];congr 1;omega
theorem A2W {w:WD}{a e:Nat}{v:VL}{n:Nat}{xs:List VL}(h:w.ownsRow a e 1 v n xs)(l:0<n):∃g cap,v=.slice (some ⟨g,0,none⟩) n cap∧n≤cap∧a≤g∧g<w.heap.size∧(∀j,w.frozen? ⟨g,j,none⟩=false)∧∀j,j<n→w.cell? ⟨g,j,none⟩=xs[j]? :=by
 rcases h.2 with ⟨_,m⟩|⟨g,cap,cur,rfl,d,b,f,k,o,c⟩
 ·omega
 ·refine⟨g,cap,rfl,f,d,(Array.getElem?_eq_some_iff.1 b).1,fun j=>by simp[World.frozen?,b],fun j i=>?_⟩;rw[cell_of_row w g j cur e (0,0) b,←c,List.getElem?_take,if_pos (by omega)];simp
theorem B0x (l:List Int)(p:Nat)(a:p≤l.length):(A1m l).take (l.length-p)=A1m (l.drop p):=by unfold A1m;rw[List.take_reverse,List.length_map,List.map_drop];congr 2;omega
theorem B3U (l:List Int)(p:Nat)(a:p<l.length):(A1m l)[l.length-1-p]? =some (.int .i64 (l.getD p 0)):=by unfold A1m;rw[List.getElem?_reverse (by simp;omega)];simp only[List.length_map,List.getElem?_map];rw[show l.length-1-(l.length-1-p)=p by omega,List.getElem?_eq_getElem a];simp[List.getD,a]
theorem A19:(Tryz.prog.info? 3).map (fun i=>(i.zero,i.size,i.bytes))=some (some (.int .i64 0),1,8):=by kernel_rfl
theorem A5w:Tryz.prog.underlying 38=some (.slice 3):=by kernel_rfl
theorem A4f (a:Int):∀u∈[Value.int .i64 a],u.oneCell'=true:=by intro u b;simp only[List.mem_cons,List.not_mem_nil,or_false] at b;subst b;rfl
theorem A5Q (x:Int)(l:List Int):A1m (x::l)=A1m l++[.int .i64 x]:=by simp[A1m]
theorem A8I {w w':WD}{v:VL}{a:Addr}{u:VL}(c:w.grownBy w' v.ownBlock)(h:w.cell? a=some u)(b:some a.block≠v.ownBlock):w'.cell? a=some u:=by rw[World.cell?_of_block (c.block a.block (z0 w a h) b)];exact h
theorem A8Y {w w':WD}{v:VL}{a:Addr}(d:w.grownBy w' v.ownBlock)(h:w.frozen? a=false)(c:a.block<w.heap.size)(b:some a.block≠v.ownBlock):w'.frozen? a=false:=by rw[z7 (d.block a.block c b)];exact h
theorem A8l {w:WD}{o:Obj}{g:Nat}(h:g=w.heap.size):(w.alloc o).drew.heap[g]? =some o:=by subst h;exact heap_alloc_new w o
theorem B09 {P:Program}{w:WD}{B:Array Oper}{o:Oper}{a:Act}{K:Act→WD→Prop}{Q:Exit→Act→WD→Prop}{E:Prop}(C:o.guard=none)(s x:Operand)(t:TypeId)(Y:o.op=.call { callee:=.builtin .append,args:=#[s,x],argTypes:=#[t,t]})(k:Nat)(e:TypeId)(z:VL)(b f:Nat)(M:P.underlying t=some (.slice e))(p:(P.info? e).map (fun i=>(i.zero,i.size,i.bytes))=some (some z,b,f))(H:z.cells.size=b)(G:0<b)(v:VL)(n:Nat)(xs:List VL)(S:a.eval s=v)(r:w.ownsRow k e b v n xs)(g m c:Nat)(d:List VL)(V:a.eval x=.slice (some ⟨g,0,none⟩) m c)(L:w.heap[g]? =some (.cells d.toArray e))(O:d.length=m*b)(T:∀u∈d,u.oneCell'=true)(U:0<m)(F:n+m≤maxLen)(l:(n+m)*f≤140737488355328)(q:k≤w.heap.size)(h:∀g' cap w',w'.ownsRow k e b (.slice (some ⟨g',0,none⟩) (n+m) cap) (n+m) (xs++d)→w.grownBy w' v.ownBlock→(v.ownBlock=some g'∨g'=w.heap.size)→K (a.put o.dst (.slice (some ⟨g',0,none⟩) (n+m) cap)) w'):if Region.wanted o (yielded B a.tmps)=true then Oper.wp P o a w K Q else E:=by obtain⟨i,hi,y⟩:=Option.map_eq_some_iff.1 p;simp only[Prod.mk.injEq] at y;obtain⟨Z,D,I⟩:=y;refine step_append_lies _ C s x t Y k e i z b f M hi Z D I H G v n xs S r ⟨g,0,none⟩ m c d V O ?_ T U F l q w.heap.size rfl (fun g' cap w' N X R _=>h g' cap w' N X R);intro j u J;have A:(⟨g,0,none⟩:Addr).add j=⟨g,j,none⟩:=(by unfold Addr.add;split<;>simp_all);rw[A,cell_of_row _ g j d.toArray e (0,0) L];simpa using J
theorem B0D (w:WD)(bm b:Nat)(l:VL)(S:List Int)(n:Int)(A:bm<b)(y:b≤w.heap.size)(x:w.cell? ⟨bm,5,none⟩=some l)(r:w.frozen? ⟨bm,5,none⟩=false)(C:S.length≤40)(i:w.ownsRow b 3 1 l S.length (A1m S))(R:RP)(h:∀W m,W.ownsRow b 3 1 m (S.length+1) (A1m (wrap32 n::S))→w.grownBy W l.ownBlock→(m.ownBlock=l.ownBlock∨∃g,m.ownBlock=some g∧w.heap.size≤g)→R (.returned (.tuple #[])) (W.setCell ⟨bm,5,none⟩ m)):Calls Tryz.prog 113 #[.pointer (some ⟨bm,0,none⟩),.int .i64 n] w R:=by
 replace h:=hd h;have p:bm<w.heap.size:=(by omega);have f:some bm≠l.ownBlock:=fun e=>by have:=(i.lt bm e.symm).1;omega
 obtain⟨t,s,rfl⟩:=V4 i;replace f:=hd f;replace i:=hd i;go_enter Tryz.func113,Tryz.ntmps113;go_wp2_with (fail);go_region_law
  (first
   |(go_simp;go_at_call 60;refine S1 _ _ 2 (by omega) _ ?_;go_simp;rw[show A0R 2 n=wrap32 n from rfl])
   |(refine B09 (by rfl) _ _ 38 (by rfl) b 3 _ 1 8 A5w A19 rfl (by omega) _ S.length (A1m S) (by rfl) (by first|exact (i.out.alloc _).drew|exact i.out.alloc _) w.heap.size 1 1 [.int .i64 (wrap32 n)] (by rfl) (by exact A8l (by simp)) rfl (A4f _) (by omega) (by unfold maxLen;omega) (by omega) (by simp;omega) ?_;intro z u w1 c a d;have D:w1.cell? ⟨bm,5,none⟩=some (.slice t S.length s):=A8I a (by exact A6x x _) f.out;have r:w1.frozen? ⟨bm,5,none⟩=false:=A8Y a (by exact A3q r p _) (by simp;omega) f.out;replace d:=hd d;replace c:=hd c;replace a:=hd a))
 all_goals
  go_wp2
  have j:=c.out
  rw[←A5Q] at j
  have B:=a.out.size
  have v:w.grownBy w1 (Value.slice t S.length s).ownBlock:=⟨a.out.os,a.out.tape,a.out.output,by simp at B;omega,fun k q o=>(a.out.block k (by simp;omega) o).trans (by first|exact z6 _ _ _ q|exact z6 w _ _ q)⟩
  go_end0
  refine h.out _ _ j v ?_
  rcases d.out with e|e
  ·exact .inl e.symm
  ·exact .inr ⟨z,rfl,by rw[e];simp⟩
theorem B3Z {w:WD}{a e:Nat}{v:VL}{n:Nat}{xs:List VL}(h:w.ownsRow a e 1 v n xs){f:Option Addr}{m cap:Nat}(c:v=.slice f m cap):cap≤maxLen:=by
 rcases h.2 with ⟨rfl,_⟩|⟨g,d,cur,rfl,_,_,_,i,_⟩
 ·injection c with _ _ b;subst b;exact Nat.zero_le _
 ·injection c with _ _ b;subst b;exact i
def A1Z (at_ op:Nat→Nat)(N:Nat→Int)(n i t:Nat):Prop:=(at_ t:Int)=N i∧i<t∧t<n∧O8 op t=O8 op i∧∀j,j<t→(at_ j:Int)≠N i
def Z6 (op:Nat):Prop:=op=17∨op=18
def B4L (A:Nat→Int)(n:Nat)(t r:Int):Prop:=(∃k:Nat,k<n∧r=k∧A k=t∧∀j,j<k→A j≠t)∨(r= -1∧∀j,j<n→A j≠t)
theorem B0T (w:WD)(b n cap:Nat)(t:Int)(A:Nat→Int)(f:n≤10000)(e:∀j,j<n→w.cell? ⟨b,j*6,none⟩=some (.int .i64 (A j)))(R:RP)(c:∀r,B4L A n t r→R (.returned (.int .i64 r)) w):Calls Tryz.prog 144 #[.slice (some ⟨b,0,none⟩) n cap,.int .i64 t] w R:=
 B0k w b n cap t A f e R (fun k d g a=>c _ (.inl ⟨k,d,rfl,g,a⟩)) (fun h=>c _ (.inr ⟨rfl,h⟩))
theorem A5S {at_ op:Nat→Nat}{N:Nat→Int}{n i t f:Nat}(g:(at_ t:Int)=N i)(k:∀j,j<t→(at_ j:Int)≠N i)(h:A1Z at_ op N n i f):f=t:=by
 obtain⟨a,b,c,d,e⟩:=h;rcases Nat.lt_trichotomy f t with h|h|h
 ·exact absurd a (k f h)
 ·exact h
 ·exact absurd g (e t h)
theorem B0s (w:WD)(bx b n cap:Nat)(at_ op C:Nat→Nat)(N To:Nat→Int)(hn:n≤8000)(K:bx≠b)(S:w.cell? ⟨bx,1,none⟩=some (.slice (some ⟨b,0,none⟩) n cap))(H:R8 w b 123 6 n cap (N0 at_ op C N To (O8 op)))(R:RP)(G:(∃i,i<n∧Z6 (op i)∧∀t,¬A1Z at_ op N n i t)→∀w',A8 b w w'→R (.returned (.bool false)) w')(D:∀m:Nat→Int,(∀i,i<n→Z6 (op i)→∃t:Nat,m i=(t:Int)∧A1Z at_ op N n i t)→(∀i,¬Z6 (op i)→m i=To i)→∀w',A8 b w w'→R8 w' b 123 6 n cap (N0 at_ op C N m (O8 op))→R (.returned (.bool true)) w'):Calls Tryz.prog 97 #[.pointer (some ⟨bx,0,none⟩)] w R:=by
 replace D:=hd D;replace G:=hd G;have L:bx<w.heap.size:=z0 w _ S;have hb:=H.lt;replace H:=hd H;go_enter Tryz.func97,Tryz.ntmps97;go_wp2;go_loopw [3] (fun i wr=>∃(k:Nat) (m:Nat→Int),k≤n∧i=.int .i64 k∧A8 b w wr∧R8 wr b 123 6 n cap (N0 at_ op C N m (O8 op))∧
   (∀i,i<k→Z6 (op i)→∃t:Nat,m i=(t:Int)∧A1Z at_ op N n i t)∧(∀i,(k≤i∨¬Z6 (op i))→m i=To i)) (fun i _=>n-(intOf i).toNat)
 case atStart=>exact⟨0,To,by omega,rfl,A8.refl _ _,H.out,by omega,fun _ _=>rfl⟩
 case round=>
  obtain⟨k,m,hk,rfl,l,c,y,x⟩:=hrel;have V:wr.cell? ⟨bx,1,none⟩=some (.slice (some ⟨b,0,none⟩) n cap):=(by rw[l.cell L K];exact S);replace l:=hd l;replace y:=hd y;replace x:=hd x;by_cases s:k<n
  ·have c1:wr.cell? ⟨b,k*6+1,none⟩=some (.int .i64 (op k)):=c.cell s (f:=1) (by omega);have c3:wr.cell? ⟨b,k*6+3,none⟩=some (.int .i64 (N k)):=c.cell s (f:=3) (by omega);have c4:wr.cell? ⟨b,k*6+4,none⟩=some (.int .i64 (m k)):=c.cell s (f:=4) (by omega);have Z:wr.cell? ⟨b,k*6+5,none⟩=some (.int .i64 (O8 op k)):=c.cell s (f:=5) (by omega);have fz:=fun o=>c.frozen o;have U:=hd (fun j (z:j<n)=>c.cell0 z (by omega));by_cases d:Z6 (op k)
   ·have Y:((op k:Int) !=17)=false∨((op k:Int) !=17)=true∧((op k:Int) !=18)=false:=(by rcases d with h|h<;>simp[h]);rcases Y with E|⟨E,J⟩;all_goals
     replace c:=hd c
     go_wp2
     go_region_with (go_at_call 144;refine B0T _ _ _ _ _ (fun j=>(at_ j:Int)) (by omega) (by exact U.out) _ ?_;intro r M;replace M:=hd M)
     all_goals
      have B:=hd ((c.out.set k 4 (by omega) (.int .i64 r)).congr (fun j _ g _=>A4D j g))
      have p:=hd (l.out.setCell (a:=⟨b,k*6+4,none⟩) (.inl rfl) (.int .i64 r))
      rcases M.out with ⟨t,F,A,q,u⟩|⟨A,q⟩
      ·subst A;have T:wr.cell? ⟨b,t*6+5,none⟩=some (.int .i64 (O8 op t)):=c.out.cell F (f:=5) (by omega);have Q:¬t*6+5=k*6+4:=(by omega);replace q:=hd q;replace u:=hd u;by_cases X:t≤k
       ·have P:decide ((t:Int)≤(k:Int))=true:=(by simp;omega);go_wp2;go_quiet (fail);go_wp2;refine A6 (G.out ⟨k,s,d,fun O z=>?_⟩ _ (p.out.drew.drewN _)) rfl;have:=A5S q.out u.out z;have:=z.2.1;omega
       ·have P:decide ((t:Int)≤(k:Int))=false:=(by simp;omega);have v:(O8 op t !=O8 op k)=true∨(O8 op t !=O8 op k)=false:=(by cases (O8 op t !=O8 op k)<;>simp);rcases v with v|v
        ·go_wp2;go_quiet (fail);go_wp2;refine A6 (G.out ⟨k,s,d,fun O z=>?_⟩ _ (p.out.drew.drewN _)) rfl;have:=A5S q.out u.out z;subst this;have:=z.2.2.2.1;simp[this] at v
        ·go_wp2;go_quiet (fail);go_wp2;refine⟨⟨k+1,(fun j=>if j=k then (t:Int) else m j),by omega,by go_num,p.out.drewN _,B.out.drewN _,fun i hi I=>?_,fun i hi=>?_⟩,by simp[intOf];omega⟩
         ·by_cases e:i=k
          ·subst e;exact⟨t,by simp,q.out,by omega,F,by simpa using v,u.out⟩
          ·simp only[e,if_false];exact y.out i (by omega) I
         ·have e:i≠k:=by
           rcases hi with h|h
           ·omega
           ·intro e;subst e;exact h d
          simp only[e,if_false];exact x.out i (hi.elim (fun h=>.inl (by omega)) .inr)
      ·subst A;have P:decide ((-1:Int)≤(k:Int))=true:=(by rw[decide_eq_true_iff];omega);replace q:=hd q;go_wp2;go_quiet (fail);go_wp2;refine A6 (G.out ⟨k,s,d,fun O z=>?_⟩ _ (p.out.drew.drewN _)) rfl;exact absurd z.1 (q.out O z.2.2.1)
   ·have E:((op k:Int) !=17)=true:=(by simp;intro h;exact d (.inl (by omega)));have J:((op k:Int) !=18)=true:=(by simp;intro h;exact d (.inr (by omega)));replace c:=hd c;replace d:=hd d;go_wp2;refine⟨⟨k+1,m,by omega,by go_num,l.out,c.out,fun i hi I=>?_,fun i hi=>x.out i (hi.elim (fun h=>.inl (by omega)) .inr)⟩,by simp[intOf];omega⟩;by_cases e:i=k
    ·subst e;exact absurd I d.out
    ·exact y.out i (by omega) I
  ·have:k=n:=(by omega);subst this;go_wp2;refine A6 (D.out m y.out (fun i hi=>x.out i (.inr hi)) _ l.out c) rfl
def B9F (a:List Nat):Option (List Nat):=match a with | []=>none|_::t=>some t
theorem A4T {op:Nat→Nat}{i:Nat}{a:List Nat}(h:X5 op i=some a):X5 op (i+1)=if op i=19 then (if 10≤a.length then none else some (i::a)) else if op i=20 then B9F a else some a:=by simp only[X5,h,B9F];cases a<;>rfl
def B5m (b:Nat)(w:WD)(v:VL)(l:List Int):Prop:=
 ∃a cap,v=.slice a l.length cap∧l.length≤cap∧((∃g o,a=some ⟨g,o,none⟩∧g≠b∧∀j x,l[j]? =some x→w.cell? ⟨g,o+j,none⟩=some (.int .i64 x))∨l=[])
def B1F (s:BA):Prop:=9≤s.size∧(s.extract 0 6).toList=[83,76,85,73,67,69]∧bt s 6≤100∧9+bt s 6≤s.size
def A9j (s:BA):Prop:=∀i,i<bt s 6→bt s (7+i)≤8
def A3 (s:BA):BA:=s.extract (9+bt s 6) s.size
def A5W (s:BA):Prop:=s.size-(9+bt s 6)=b16 s (7+bt s 6)∧b16 s (7+bt s 6)≤8000
def A2k (s:BA)(i:Nat):Int:=((bt s (7+i)/3:Nat):Int)
def A2w (s:BA)(i:Nat):Int:=((bt s (7+i)%3:Nat):Int)
def atL (a:List Nat)(i:Nat):Nat:=a.getD i 0
def S7 (c:BA)(a:List Nat)(i:Nat):Nat:=bt c (atL a i)
def cL (c:BA)(a:List Nat)(i:Nat):Nat:=Z2 c (atL a i)
def nL (c:BA)(a:List Nat)(i:Nat):Int:=U1 c (atL a i)
def A07 (rl b:Nat→Int)(a op c:Nat)(N:Int):Prop:=
 ((op=2∨op=3∨op=4∨op=5∨op=21)→A0S rl b a op c N.toNat)∧(op=19→1≤N)
def tgt (at_:Nat→Nat)(n:Nat)(t:Int):Nat:=(List.range n).findIdx (fun j=>(at_ j:Int)==t)
def toL (at_ op:Nat→Nat)(N:Nat→Int)(n i:Nat):Nat:=if op i=20 then (O8 op i).toNat else tgt at_ n (N i)
def A8p (rl d:Nat→Int)(b:Nat)(c:BA)(a:List Nat)(bd:Int):Prop:=
 a≠[]∧(∀i,i<a.length→A07 rl d b (S7 c a i) (cL c a i) (nL c a i))∧X5 (S7 c a) a.length=some []∧
 (∀i,i<a.length→Z6 (S7 c a i)→∃t,A1Z (atL a) (S7 c a) (nL c a) a.length i t)∧
 P7 (S7 c a) (nL c a) (toL (atL a) (S7 c a) (nL c a) a.length) a.length a.length 0 H0 L0=some bd
def A1H (s:BA)(bd:Int):Prop:=
 B1F s∧A9j s∧A5W s∧∃a,U2 (A3 s) ((A3 s).size+1) 0=some a∧A8p (A2k s) (A2w s) (bt s 6) (A3 s) a bd
theorem B6l {at_ op:Nat→Nat}{N:Nat→Int}{n i t:Nat}(h:A1Z at_ op N n i t):tgt at_ n (N i)=t:=by obtain⟨a,_,c,_,e⟩:=h;unfold tgt;rw[List.findIdx_eq (by simpa using c)];refine⟨by simpa using a,fun j b=>?_⟩;have:=e j b;simpa using this
def B6t (c:BA)(a:List Nat)(i:Nat):Int:=A4C c (atL a i)
def B7L (c:BA)(a:List Nat)(i:Nat):Int:=A8a c (atL a i)
theorem B7x (s:BA)(a:Nat):b16 s a≤65535:=by have b:=N5 s a;have c:=N5 s (a+1);unfold b16;omega
end Go.Proofs.YtidhiaaicmfabaaGreatDoor
