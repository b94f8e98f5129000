/- Texts (its parts, joined). -/
import Derived.Test.YtidhiaaicmfabaaGreatDoorTqAF
open Nat renaming le_refl→z1,lt_of_lt_of_le→z3,le_trans→y0,le_succ→y1
open List renaming flatMap_append→z4,getElem?_append_right→z6,getElem?_append_left→z8,range_succ→z9
open Array renaming getElem?_eq_some_iff→z5
namespace Go.Proofs.YtidhiaaicmfabaaGreatDoor
open Go.RowKit Go.Proofs Go.Deep
set_option maxRecDepth 100000
set_option maxHeartbeats 4000000
open World renaming size_setCell→z0,cell?_setCell_other→z7
open IntWalk renaming i64_in→z2
theorem A0Y:(Tryz.prog.info? 123).map (fun i=>(i.zero,i.size,i.bytes))=some (some (.agg #[.int .i64 0,.int .i64 0,.int .i64 0,.int .i64 0,.int .i64 0,.int .i64 0]),6,48):=by kernel_rfl
theorem A48:Tryz.prog.underlying 34=some (.slice 123):=by kernel_rfl
theorem B0o (w:WD)(s:BA)(hs:s.size≤8000)(R:RP)(F:U2 s (s.size+1) 0=none→∀w',Below w.heap.size w w'→R (.returned (.tuple #[.slice none 0 0,.bool false])) w')(z:∀l,U2 s (s.size+1) 0=some l→∀v w',Below w.heap.size w w'→w'.ownsRow w.heap.size 123 6 v l.length (l.flatMap (doC s))→R (.returned (.tuple #[v,.bool true])) w'):Calls Tryz.prog 94 #[.string s] w R:=by
 replace z:=hd z;replace F:=hd F;go_enter Tryz.func94,Tryz.ntmps94;go_wp2;go_loopw [4,5] (fun G i wr=>∃(l:List Nat) (a:Nat),a≤s.size∧l.length≤a∧i=.int .i64 a∧wr.ownsRow w.heap.size 123 6 G l.length (l.flatMap (doC s))∧Below w.heap.size w wr∧
   U2 s (s.size+1) 0=(U2 s (s.size+1-l.length) a).map (l++·)) (fun _ i _=>s.size-(intOf i).toNat)
 case atStart=>exact⟨[],0,by omega,by simp,rfl,World.ownsRow_nil _ _ _ _,Below.refl _ _,by simp⟩
 case round=>
  obtain⟨l,a,ha,L,rfl,d,f,g⟩:=hrel;have q:w.heap.size≤wr.heap.size:=f.size;have p:l.length+1≤maxLen:=(by unfold maxLen;omega);have j:(l.length+1)*48≤140737488355328:=(by omega);replace d:=hd d;replace f:=hd f;replace g:=hd g;by_cases o:a<s.size
  ·have P:=J4 s a o;have S:=N5 s a;by_cases m:osz (bt s a)=0∨s.size<a+osz (bt s a)
   ·have U:osz (bt s a)≤5:=(by unfold osz;(repeat' split)<;>omega);by_cases I:osz (bt s a)=0
    ·replace m:=hd m;go_wp2_with (first|(go_at_call 143;refine U5 _ _ _ ?_)|(at_builtin;refine C3 _ rfl _ _ 34 rfl w.heap.size 123 _ 6 48 A48 A0Y rfl (by decide) _ _ _ rfl (by first|exact (d.out.alloc _).alloc _|exact S4 ((d.out.alloc _).alloc _)) _ 1 1 _ rfl (A9 (by simp)) rfl (A2q _ _ _ _ _ _) p j (by simp;omega) ?_;intro y w1 b c;replace b:=hd b;replace c:=hd c));refine A6 (F.out (A61 s _ a l g.out (by omega) o m.out) _ ?_) rfl;exact f.out.alloc q _
    ·have B:((osz (bt s a):Int)==0)=false:=(by simp;omega);have O:decide ((s.size:Int)<(a:Int)+osz (bt s a))=true:=(by simp;omega);have J:(s.size:Int)<(a:Int)+osz (bt s a):=(by omega);replace m:=hd m;go_wp2_with (first|(go_at_call 143;refine U5 _ _ _ ?_)|(at_builtin;refine C3 _ rfl _ _ 34 rfl w.heap.size 123 _ 6 48 A48 A0Y rfl (by decide) _ _ _ rfl (by first|exact (d.out.alloc _).alloc _|exact S4 ((d.out.alloc _).alloc _)) _ 1 1 _ rfl (A9 (by simp)) rfl (A2q _ _ _ _ _ _) p j (by simp;omega) ?_;intro y w1 b c;replace b:=hd b;replace c:=hd c));refine A6 (F.out (A61 s _ a l g.out (by omega) o m.out) _ ?_) rfl;exact f.out.alloc q _
   ·have I:osz (bt s a)≠0:=fun h=>m (.inl h);have r:a+osz (bt s a)≤s.size:=(by omega);clear m;by_cases e:bt s a=1
    ·replace e:=hd e;have n:osz (bt s a)=5:=(by simp[osz,e.out]);rw[n] at r;have A:=J4 s (a+1) (by omega);have D:=J4 s (a+2) (by omega);have Q:=J4 s (a+3) (by omega);have M:=J4 s (a+4) (by omega);go_wp2_with (first|(go_at_call 143;refine U5 _ _ _ ?_)|(at_builtin;refine C3 _ rfl _ _ 34 rfl w.heap.size 123 _ 6 48 A48 A0Y rfl (by decide) _ _ _ rfl (by first|exact (d.out.alloc _).alloc _|exact S4 ((d.out.alloc _).alloc _)) _ 1 1 _ rfl (A9 (by simp)) rfl (A2q _ _ _ _ _ _) p j (by simp;omega) ?_;intro y w1 b c;replace b:=hd b;replace c:=hd c));refine wp_loop_rounds 5 ?_;rw[rounds_succ];go_wp2;rw[rounds_succ];go_wp2;rw[rounds_succ];go_wp2;rw[rounds_succ];go_wp2;rw[rounds_succ];go_wp2_with (first|(go_at_call 143;refine U5 _ _ _ ?_)|(at_builtin;refine C3 _ rfl _ _ 34 rfl w.heap.size 123 _ 6 48 A48 A0Y rfl (by decide) _ _ _ rfl (by first|exact (d.out.alloc _).alloc _|exact S4 ((d.out.alloc _).alloc _)) _ 1 1 _ rfl (A9 (by simp)) rfl (A2q _ _ _ _ _ _) p j (by simp;omega) ?_;intro y w1 b c;replace b:=hd b;replace c:=hd c));all_goals
      rename_i H
      refine⟨⟨l++[a],a+5,by omega,by simp;omega,by go_num,A1e b.out (B2t s a _ e.out ?_),?_,A0o s _ a 5 l g.out (by omega) o n (by omega) (by omega)⟩,by simp[intOf];omega⟩
      ·first|exact B6n s (a+1) _ (A9r s a) H|exact B6F s (a+1) _ (A9r s a) H
      ·exact ((f.out.alloc q _).alloc (by simp;omega) _).grown c.out (by simp;omega) (fun k u=>(d.out.lt k u).1)
    ·by_cases t:bt s a=17∨bt s a=18∨bt s a=19
     ·rcases t with e|e|e;all_goals
       have n:osz _=3:=e▸(show osz (bt s a)=3 by simp[osz,e])
       rw[e,n] at r
       have A:=J4 s (a+1) (by omega)
       have D:=J4 s (a+2) (by omega)
       have K:=N5 s (a+1)
       have N:=N5 s (a+2)
       have j1:0≤(a:Int)+1∧(a:Int)+1<(s.size:Int):=by omega
       have j2:0≤(a:Int)+2∧(a:Int)+2<(s.size:Int):=by omega
       go_wp2_with (first|(go_at_call 143;refine U5 _ _ _ ?_)|(at_builtin;refine C3 _ rfl _ _ 34 rfl w.heap.size 123 _ 6 48 A48 A0Y rfl (by decide) _ _ _ rfl (by first|exact (d.out.alloc _).alloc _|exact S4 ((d.out.alloc _).alloc _)) _ 1 1 _ rfl (A9 (by simp)) rfl (A2q _ _ _ _ _ _) p j (by simp;omega) ?_;intro y w1 b c;replace b:=hd b;replace c:=hd c))
       go_region
       go_wp2_with (first|(go_at_call 143;refine U5 _ _ _ ?_)|(at_builtin;refine C3 _ rfl _ _ 34 rfl w.heap.size 123 _ 6 48 A48 A0Y rfl (by decide) _ _ _ rfl (by first|exact (d.out.alloc _).alloc _|exact S4 ((d.out.alloc _).alloc _)) _ 1 1 _ rfl (A9 (by simp)) rfl (A2q _ _ _ _ _ _) p j (by simp;omega) ?_;intro y w1 b c;replace b:=hd b;replace c:=hd c))
       refine⟨⟨l++[a],a+3,by omega,by simp;omega,by go_num,A1e b.out ?_,?_,A0o s _ a 3 l g.out (by omega) o (by simp[e,osz]) (by omega) (by omega)⟩,by simp[intOf];omega⟩
       ·simp[doC,Z2,U1,b16,e,Nat.add_assoc]
       ·exact ((f.out.alloc q _).alloc (by simp;omega) _).drew.grown c.out (by simp;omega) (fun k u=>(d.out.lt k u).1)
     ·by_cases E:bt s a=4∨bt s a=5
      ·rcases E with e|e;all_goals
        have n:osz _=3:=e▸(show osz (bt s a)=3 by simp[osz,e])
        rw[e,n] at r
        have A:=J4 s (a+1) (by omega)
        have D:=J4 s (a+2) (by omega)
        have K:=N5 s (a+1)
        have N:=N5 s (a+2)
        go_wp2_with (first|(go_at_call 143;refine U5 _ _ _ ?_)|(at_builtin;refine C3 _ rfl _ _ 34 rfl w.heap.size 123 _ 6 48 A48 A0Y rfl (by decide) _ _ _ rfl (by first|exact (d.out.alloc _).alloc _|exact S4 ((d.out.alloc _).alloc _)) _ 1 1 _ rfl (A9 (by simp)) rfl (A2q _ _ _ _ _ _) p j (by simp;omega) ?_;intro y w1 b c;replace b:=hd b;replace c:=hd c))
        refine⟨⟨l++[a],a+3,by omega,by simp;omega,by go_num,A1e b.out ?_,?_,A0o s _ a 3 l g.out (by omega) o (by simp[e,osz]) (by omega) (by omega)⟩,by simp[intOf];omega⟩
        ·simp[doC,Z2,U1,e]
        ·exact ((f.out.alloc q _).alloc (by simp;omega) _).grown c.out (by simp;omega) (fun k u=>(d.out.lt k u).1)
      ·by_cases C:bt s a=2∨bt s a=3∨bt s a=21
       ·rcases C with e|e|e;all_goals
         have n:osz _=2:=e▸(show osz (bt s a)=2 by simp[osz,e])
         rw[e,n] at r
         have A:=J4 s (a+1) (by omega)
         have K:=N5 s (a+1)
         go_wp2_with (first|(go_at_call 143;refine U5 _ _ _ ?_)|(at_builtin;refine C3 _ rfl _ _ 34 rfl w.heap.size 123 _ 6 48 A48 A0Y rfl (by decide) _ _ _ rfl (by first|exact (d.out.alloc _).alloc _|exact S4 ((d.out.alloc _).alloc _)) _ 1 1 _ rfl (A9 (by simp)) rfl (A2q _ _ _ _ _ _) p j (by simp;omega) ?_;intro y w1 b c;replace b:=hd b;replace c:=hd c))
         refine⟨⟨l++[a],a+2,by omega,by simp;omega,by go_num,A1e b.out ?_,?_,A0o s _ a 2 l g.out (by omega) o (by simp[e,osz]) (by omega) (by omega)⟩,by simp[intOf];omega⟩
         ·simp[doC,Z2,U1,e]
         ·exact ((f.out.alloc q _).alloc (by simp;omega) _).grown c.out (by simp;omega) (fun k u=>(d.out.lt k u).1)
       ·have n:osz (bt s a)=1:=(by have B:=I;unfold osz at B ⊢;rw[if_neg e,if_neg C,if_neg (by omega)] at B ⊢;split<;>simp_all);rw[n] at r;have x:(decide ((17:Int)≤bt s a))=true→decide ((bt s a:Int)≤19)=false:=(by simp;omega);by_cases V:17≤bt s a
        ·have T:decide ((17:Int)≤bt s a)=true:=(by simp;omega);have Y:decide ((bt s a:Int)≤19)=false:=(by simp;omega);have Z:¬(bt s a:Int)≤19:=(by omega);have X:(17:Int)≤bt s a:=(by omega);clear x;go_wp2_with (first|(go_at_call 143;refine U5 _ _ _ ?_)|(at_builtin;refine C3 _ rfl _ _ 34 rfl w.heap.size 123 _ 6 48 A48 A0Y rfl (by decide) _ _ _ rfl (by first|exact (d.out.alloc _).alloc _|exact S4 ((d.out.alloc _).alloc _)) _ 1 1 _ rfl (A9 (by simp)) rfl (A2q _ _ _ _ _ _) p j (by simp;omega) ?_;intro y w1 b c;replace b:=hd b;replace c:=hd c));refine⟨⟨l++[a],a+1,by omega,by simp;omega,by go_num,A1e b.out ?_,?_,A0o s _ a 1 l g.out (by omega) o n (by omega) (by omega)⟩,by simp[intOf];omega⟩
         ·simp only[not_or] at t E C;simp[doC,Z2,U1,e,t,E,C]
         ·exact ((f.out.alloc q _).alloc (by simp;omega) _).grown c.out (by simp;omega) (fun k u=>(d.out.lt k u).1)
        ·have T:decide ((17:Int)≤bt s a)=false:=(by simp;omega);have X:¬(17:Int)≤bt s a:=(by omega);clear x;go_wp2_with (first|(go_at_call 143;refine U5 _ _ _ ?_)|(at_builtin;refine C3 _ rfl _ _ 34 rfl w.heap.size 123 _ 6 48 A48 A0Y rfl (by decide) _ _ _ rfl (by first|exact (d.out.alloc _).alloc _|exact S4 ((d.out.alloc _).alloc _)) _ 1 1 _ rfl (A9 (by simp)) rfl (A2q _ _ _ _ _ _) p j (by simp;omega) ?_;intro y w1 b c;replace b:=hd b;replace c:=hd c));refine⟨⟨l++[a],a+1,by omega,by simp;omega,by go_num,A1e b.out ?_,?_,A0o s _ a 1 l g.out (by omega) o n (by omega) (by omega)⟩,by simp[intOf];omega⟩
         ·simp only[not_or] at t E C;simp[doC,Z2,U1,e,t,E,C]
         ·exact ((f.out.alloc q _).alloc (by simp;omega) _).grown c.out (by simp;omega) (fun k u=>(d.out.lt k u).1)
  ·go_wp2;exact z.out l (B1K s _ a l g.out (by omega) o) _ _ f.out d.out
section
theorem B3z:(Tryz.prog.info? 3).map (fun i=>(i.zero,i.size,i.bytes))=some (some (.int .i64 0),1,8):=by kernel_rfl
section
variable {op ToN:Nat→Nat}{N:Nat→Int}{n k:Nat}{H L:Nat→Int}{X:Option Int}
theorem A6p (h:X=P7 op N ToN n (n-k) k H L)(c:k<n):X=(if op k=0 then (if H k=0∧k+1=n then some (L k+1) else none) else match D7 op N ToN k H L with|none=>none|some S=>P7 op N ToN n (n-(k+1)) (k+1) S.1 S.2):=by rw[h];obtain⟨F,b⟩:∃F,n-k=F+1:=⟨n-k-1,by omega⟩;have a:n-(k+1)=F:=(by omega);rw[b,a];rfl
theorem B5W (h:X=P7 op N ToN n (n-k) k H L)(b:k<n)(a:H k<B7 (op k)∨32<H k-B7 (op k)+B1 (op k)):X=none:=by
 rw[A6p h b];by_cases e:op k=0
 ·rw[e] at a;have p:B7 0=0:=rfl;have q:B1 0=0:=rfl;rw[p,q] at a;rw[if_pos e,if_neg (by omega)]
 ·rw[if_neg e];have:D7 op N ToN k H L=none:=(by unfold D7;rw[if_pos a]);rw[this]
theorem A1w (h:X=P7 op N ToN n (n-k) k H L)(a:k<n)(e:op k≠0)(b:D7 op N ToN k H L=none):X=none:=by rw[A6p h a,if_neg e,b]
theorem A3a (h:X=P7 op N ToN n (n-k) k H L)(b:k<n)(e:op k≠0){S:(Nat→Int)×(Nat→Int)}(a:D7 op N ToN k H L=some S):X=P7 op N ToN n (n-(k+1)) (k+1) S.1 S.2:=by rw[A6p h b,if_neg e,a]
theorem B6A (h:X=P7 op N ToN n (n-k) k H L)(a:¬k<n):X=none:=by rw[h];have:n-k=0:=(by omega);rw[this];rfl
end
def A7k (w:WD)(op ToN:Nat→Nat)(N:Nat→Int)(n:Nat)(i:VL)(wr:WD):Prop:=
 ∃(k:Nat) (H L:Nat→Int),k≤n∧i=.int .i64 k∧Below w.heap.size w wr∧w.heap.size+2≤wr.heap.size∧
  wr.rowIs w.heap.size 3 (n+1) (fun j=>.int .i64 (H j))∧wr.rowIs (w.heap.size+1) 3 (n+1) (fun j=>.int .i64 (L j))∧
  (∀j, -1≤H j∧H j≤32)∧(∀j,0≤L j∧L j≤1099511627776+k)∧P7 op N ToN n n 0 H0 L0=P7 op N ToN n (n-k) k H L
theorem A7k.next {w W:WD}{op ToN:Nat→Nat}{N:Nat→Int}{n k t:Nat}{H L:Nat→Int}{h d m:Int}(r:k<n)(a:Below w.heap.size w W)(b:w.heap.size+2≤W.heap.size)(o:W.rowIs w.heap.size 3 (n+1) (fun j=>.int .i64 (H j)))(rl:W.rowIs (w.heap.size+1) 3 (n+1) (fun j=>.int .i64 (L j)))(q:∀j, -1≤H j∧H j≤32)(e:∀j,0≤L j∧L j≤1099511627776+(k+1:Nat))(l: -1≤h∧h≤32)(p:0≤d∧d≤1099511627776+(k+1:Nat))(g:m=max (L t) d)(c:P7 op N ToN n n 0 H0 L0=P7 op N ToN n (n-(k+1)) (k+1) (R6 H t h) (R6 L t (max (L t) d))):A7k w op ToN N n (.int .i64 ((k:Int)+1)) ((W.setCell ⟨w.heap.size,t,none⟩ (.int .i64 h)).setCell ⟨w.heap.size+1,t,none⟩ (.int .i64 m)):=by
 have f:=A5L (bh:=w.heap.size) (bl:=w.heap.size+1) (i:=t) (h:=h) (by omega) g o rl;refine⟨k+1,_,_,by omega,by go_num,(a.setCell (z1 _) _).setCell (y1 _) _,by rw[z0,z0];exact b,f.1,f.2,fun j=>?_,fun j=>?_,c⟩
 ·unfold R6;split
  ·exact l
  ·exact q j
 ·have s:=e t;have u:=e j;unfold R6;split<;>omega
theorem C0j {w:WD}{g T:Nat}{e b c d a f:VL}(h:w.heap[g]? =some (.cells #[e,b,c,d,a,f] T (0,0))):w.cell? ⟨g,1,none⟩=some b∧w.cell? ⟨g,4,none⟩=some a:=by refine⟨?_,?_⟩<;>rw[cell_of_row w g _ _ T (0,0) h]<;>rfl
structure B4U (w:WD)(bh bl:Nat)(H L:Nat→Int)(i:Nat)(h d:Int)(r:Bool)(w':WD):Prop where
 no:r=false→(0≤H i∧H i≠h)∧w'=w
 yes:r=true→¬(0≤H i∧H i≠h)∧w'=(w.setCell ⟨bh,i,none⟩ (.int .i64 h)).setCell ⟨bl,i,none⟩ (.int .i64 (max (L i) d))
theorem B4U.keep {w:WD}{bh bl:Nat}{H L:Nat→Int}{i:Nat}{h d:Int}{r:Bool}{w':WD}(b:B4U w bh bl H L i h d r w'){a:Addr}{v:VL}(c:w.cell? a=some v)(e:⟨bh,i,none⟩≠a)(f:⟨bl,i,none⟩≠a):w'.cell? a=some v:=by
 cases r with
 |false=>rw[(b.no rfl).2];exact c
 |true=>rw[(b.yes rfl).2,z7 _ _ _ _ f,z7 _ _ _ _ e];exact c
theorem A36 (w:WD)(bh bl n:Nat)(i:Nat)(g:Int)(H L:Nat→Int)(h d:Int)(b:g=(i:Int))(hi:i<n)(o:n≤10000)(c:bh≠bl)(l:w.rowIs bh 3 n (fun j=>.int .i64 (H j)))(rl:w.rowIs bl 3 n (fun j=>.int .i64 (L j)))(R:RP)(a:∀(r:Bool) (w':WD),Hid (B4U w bh bl H L i h d r w')→R (.returned (.bool r)) w'):Calls Tryz.prog 146 #[.slice (some ⟨bh,0,none⟩) n n,.slice (some ⟨bl,0,none⟩) n n,.int .i64 g,.int .i64 h,.int .i64 d] w R:=by subst b;refine B2P w bh bl n i H L h d hi o c l rl R (fun p q=>a false w ⟨fun _=>⟨⟨p,q⟩,rfl⟩,fun e=>by cases e⟩) (fun m k f=>a true _ ⟨fun e=>by (cases e),fun _=>⟨fun s=>?_,by rw[k]⟩⟩);rcases f with f|f<;>omega
theorem B3u (w:WD)(bx b n cap:Nat)(at_ op C ToN:Nat→Nat)(N To In:Nat→Int)(b0:Int)(hn:n≤8000)(hn0:0<n)(_hne:bx≠b)(hx1:w.cell? ⟨bx,1,none⟩=some (.slice (some ⟨b,0,none⟩) n cap))(hx2:w.cell? ⟨bx,2,none⟩=some (.int .i64 b0))(fx:w.frozen? ⟨bx,2,none⟩=false)(ht:R8 w b 123 6 n cap (N0 at_ op C N To In))(ad:∀i,i<n→(op i=17∨op i=18∨op i=20)→To i=(ToN i:Int))(hJ:∀i,i<n→(op i=17∨op i=18)→i<ToN i∧ToN i<n)(hF:∀i,i<n→op i=20→ToN i<i∧op (ToN i)=19)(hN:∀i,i<n→op i=19→1≤N i∧N i≤65535)(R:RP)(Y:P7 op N ToN n n 0 H0 L0=none→∀w',A8 bx w w'→R (.returned (.bool false)) w')(yes:∀bd,P7 op N ToN n n 0 H0 L0=some bd→1≤bd→bd≤1100000000000→∀w',A8 bx w w'→w'.cell? ⟨bx,2,none⟩=some (.int .i64 bd)→(∃w1,Below w.heap.size w w1∧w'=w1.setCell ⟨bx,2,none⟩ (.int .i64 bd))→R (.returned (.bool true)) w'):Calls Tryz.prog 98 #[.pointer (some ⟨bx,0,none⟩)] w R:=by
 replace yes:=hd yes;replace Y:=hd Y;have hbx:bx<w.heap.size:=World.block_lt_of_cell? w _ hx1;have hb:=ht.lt;replace ht:=hd ht;replace ad:=hd ad;replace hJ:=hd hJ;replace hF:=hd hF;replace hN:=hd hN;have hmk:=run_make_row' (P:=Tryz.prog) 38 3 (.int .i64 0) 8 A53 B3z rfl .i64 .i64 (n+1) (by omega) (by omega);have ec:((n+1:Nat):Int)=(n:Int)+1:=(by omega);rw[ec] at hmk;clear ec;go_enter Tryz.func98,Tryz.ntmps98;go_wp2;go_loopw [6] (fun i wr=>∃k:Nat,k≤n+1∧i=.int .i64 k∧Below w.heap.size w wr∧wr.heap.size=w.heap.size+2∧
   wr.rowIs w.heap.size 3 (n+1) (fun j=>.int .i64 (if j<k then -1 else 0))∧wr.rowIs (w.heap.size+1) 3 (n+1) (fun j=>.int .i64 (L0 j))) (fun i _=>n+1-(intOf i).toNat)
 case atStart=>
  refine⟨0,by omega,rfl,(by repeat (first|exact Below.refl _ _|refine below_drewN ?_ _|refine Below.drew ?_|refine Below.alloc ?_ (by simp) _|refine Below.setCell ?_ (by simp) _)),by simp,?_,?_⟩
  ·exact (((World.rowIs_made w (.int .i64 0) (n+1) 3).alloc _)).congr (fun j _=>by simp)
  ·have:=World.rowIs_made (w.alloc (Obj.cells (madeCells #[Value.int IntKind.i64 0] (n+1)) 3)) (.int .i64 0) (n+1) 3;simpa[L0] using this
 case round=>
  obtain⟨k,hk,rfl,o,v,Q,rl⟩:=hrel;replace o:=hd o;by_cases g:k<n+1
  ·have c0:=Q.cell g;have f0:=Q.frozen k;replace Q:=hd Q;replace rl:=hd rl;replace v:=hd v;go_wp2;refine⟨⟨k+1,by omega,by go_num,o.out.setCell (z1 _) _,by rw[z0];exact v.out,(Q.out.set k _).congr (fun j _=>?_),rl.out.setOther (a:=⟨w.heap.size,k,none⟩) (by simp) _⟩,by simp[intOf];omega⟩;by_cases e:j=k
   ·subst e;simp
   ·simp only[e,if_false];congr 1;(repeat' split)<;>omega
  ·have hk1:=hd (show k=n+1 by omega);have c0:=Q.cell (show 0<n+1 by omega);have f0:=Q.frozen 0;replace Q:=hd Q;replace rl:=hd rl;replace v:=hd v;go_wp2;generalize Value.bool (decide (k≤n))=q29;go_loopw [7] (fun i wr=>A7k w op ToN N n i wr) (fun i _=>n-(intOf i).toNat);case atStart=>
    refine⟨0,H0,L0,by omega,rfl,o.out.setCell (z1 _) _,by rw[z0];exact Nat.le_of_eq v.out.symm,(Q.out.set 0 _).congr (fun j hj=>?_),rl.out.setOther (a:=⟨w.heap.size,0,none⟩) (by simp) _,fun j=>?_,fun j=>?_,rfl⟩
    ·unfold H0;by_cases e:j=0
     ·simp[e]
     ·simp only[e,if_false];rw[if_pos (by have:=hk1.out;omega)]
    ·unfold H0;split<;>omega
    ·unfold L0;omega
   case round=>
    clear c0 f0 Q rl v o;obtain⟨k,H,L,hk,rfl,o,v,Q,rl,hH,hL,u⟩:=hrel;replace u:=hd u;by_cases g:k<n
    ·have hx1':wr.cell? ⟨bx,1,none⟩=some (.slice (some ⟨b,0,none⟩) n cap):=(by rw[o.cell hbx];exact hx1);have t:R8 wr b 123 6 n cap (N0 at_ op C N To In):=ht.out.of_block (o.block b hb);have e0:wr.cell? ⟨b,k*6,none⟩=some (.int .i64 (at_ k)):=t.cell0 g (by omega);have e1:wr.cell? ⟨b,k*6+1,none⟩=some (.int .i64 (op k)):=t.cell g (f:=1) (by omega);have e2:wr.cell? ⟨b,k*6+2,none⟩=some (.int .i64 (C k)):=t.cell g (f:=2) (by omega);have e3:wr.cell? ⟨b,k*6+3,none⟩=some (.int .i64 (N k)):=t.cell g (f:=3) (by omega);have e4:wr.cell? ⟨b,k*6+4,none⟩=some (.int .i64 (To k)):=t.cell g (f:=4) (by omega);have e5:wr.cell? ⟨b,k*6+5,none⟩=some (.int .i64 (In k)):=t.cell g (f:=5) (by omega);have hbr:b<wr.heap.size:=t.lt;replace o:=hd o;replace t:=hd t;replace hH:=hd hH;replace hL:=hd hL;replace Q:=hd Q;replace rl:=hd rl;replace v:=hd v;go_wp2_with (fail);refine A8u _ _ _ ?_;have h5:=heap_alloc_new wr (Obj.cells #[Value.int .i64 (at_ k:Int),.int .i64 (op k:Int),.int .i64 (C k:Int),.int .i64 (N k),.int .i64 (To k),.int .i64 (In k)] 123);have V:Below wr.heap.size wr (wr.alloc (Obj.cells #[Value.int .i64 (at_ k:Int),.int .i64 (op k:Int),.int .i64 (C k:Int),.int .i64 (N k),.int .i64 (To k),.int .i64 (In k)] 123)):=(Below.refl _ _).alloc (z1 _) _;generalize (wr.alloc (Obj.cells #[Value.int .i64 (at_ k:Int),.int .i64 (op k:Int),.int .i64 (C k:Int),.int .i64 (N k),.int .i64 (To k),.int .i64 (In k)] 123))=W1 at h5 V ⊢;obtain⟨s1,s4⟩:=C0j h5;have l5:=(z5.1 h5).1;have c:Below w.heap.size w W1:=o.out.trans (V.mono (by have:=v.out;omega));have K:w.heap.size+2≤W1.heap.size:=y0 v.out V.size;have s:W1.rowIs w.heap.size 3 (n+1) (fun j=>.int .i64 (H j)):=Q.out.of_block (V.block _ (by have:=v.out;omega));have r:W1.rowIs (w.heap.size+1) 3 (n+1) (fun j=>.int .i64 (L j)):=rl.out.of_block (V.block _ (by have:=v.out;omega));have T:R8 W1 b 123 6 n cap (N0 at_ op C N To In):=t.out.of_block (V.block b hbr);have hx11:W1.cell? ⟨bx,1,none⟩=some (.slice (some ⟨b,0,none⟩) n cap):=(by rw[c.cell hbx];exact hx1);have x2:W1.cell? ⟨bx,2,none⟩=some (.int .i64 b0):=(by rw[c.cell hbx];exact hx2);have f2:W1.frozen? ⟨bx,2,none⟩=false:=(by rw[c.frozen hbx];exact fx);have hg5:w.heap.size+2≤wr.heap.size:=v.out;generalize wr.heap.size=g5 at h5 s1 s4 l5 hg5 ⊢;clear e0 e1 e2 e3 e4 e5 V o v Q rl t hx1' hbr hmk h5 hx1 hx2 fx ht;have ch:=s.cell (show k<n+1 by omega);have cl:=r.cell (show k<n+1 by omega);have bH:=hH.out k;have bL:=hL.out k;replace s:=hd s;replace r:=hd r;replace c:=hd c;replace T:=hd T;have hpo:B7 (op k)≤2:=(by unfold B7;(repeat' split)<;>omega);have hpu:B1 (op k)≤1:=(by unfold B1;(repeat' split)<;>omega);by_cases I:H k<B7 (op k)∨32<H k-B7 (op k)+B1 (op k)
     ·have hno:=hd (B5W u.out g I);by_cases hb1:H k<B7 (op k)
      ·have d1:decide (H k<(B7 (op k):Int))=true:=(by simpa using hb1);clear I;go_wp2;exact A6 (Y.out hno.out _ (A8.of_below c.out)) rfl
      ·have d1:decide (H k<(B7 (op k):Int))=false:=(by simpa using hb1);have d2:decide (32<H k-(B7 (op k):Int)+(B1 (op k):Int))=true:=(by simp;omega);clear I;go_wp2;exact A6 (Y.out hno.out _ (A8.of_below c.out)) rfl
     ·have d1:decide (H k<(B7 (op k):Int))=false:=(by simp;omega);have d2:decide (32<H k-(B7 (op k):Int)+(B1 (op k):Int))=false:=(by simp;omega);have hh: -1≤H k-(B7 (op k):Int)+(B1 (op k):Int)∧H k-(B7 (op k):Int)+(B1 (op k):Int)≤32:=(by omega);have hL1:=hd (fun j=>(show 0≤L j∧L j≤1099511627776+((k+1:Nat):Int) by have:=hL.out j;omega));have aa:=hd (show ∀A B:Option ((Nat→Int)×(Nat→Int)),(if H k<B7 (op k)∨32<H k-B7 (op k)+B1 (op k) then A else B)=B from fun A B=>if_neg I);have hwr:IntKind.i64.wrap (L k+1)=L k+1:=z2 _ (by omega);have hwk:IntKind.i64.wrap ((k:Int)+1)=(k:Int)+1:=z2 _ (by omega);clear I;by_cases F:op k=0
      ·as_aux_lemma=>
        have t0:((op k:Int)==0)=true:=(by simp[F]);have pq:H k-(B7 (op k):Int)+(B1 (op k):Int)=H k:=(by have p:B7 0=0:=rfl;have q:B1 0=0:=rfl;rw[F,p,q];omega);have hun:=hd (A6p u.out g);have hset:=hd (World.cell?_setCell_same W1 ⟨bx,2,none⟩ (.int .i64 (L k+1)) x2);replace pq:=hd pq;replace F:=hd F;by_cases hz:H k=0
        ·have dz:(H k-(B7 (op k):Int)+(B1 (op k):Int)==0)=true:=(by rw[pq.out];simpa using hz);by_cases hl:k+1=n
         ·have dl:((k:Int)==(n:Int)-1)=true:=(by simp;omega);replace hz:=hd hz;go_wp2;exact A6 (yes.out (L k+1) (by rw[hun.out,if_pos F.out,if_pos ⟨hz.out,hl⟩]) (by omega) (by omega) _ ((A8.of_below c.out).setCell (a:=⟨bx,2,none⟩) (.inl rfl) _) hset.out ⟨_,c.out,rfl⟩) rfl
         ·have dl:((k:Int)==(n:Int)-1)=false:=(by simp;omega);replace hz:=hd hz;go_wp2;exact A6 (Y.out (by rw[hun.out,if_pos F.out,if_neg (fun h=>hl h.2)]) _ ((A8.of_below c.out).setCell (a:=⟨bx,2,none⟩) (.inl rfl) _)) rfl
        ·have dz:(H k-(B7 (op k):Int)+(B1 (op k):Int)==0)=false:=(by rw[pq.out];simpa using hz);go_wp2;exact A6 (Y.out (by rw[hun.out,if_pos F.out,if_neg (fun h=>hz h.1)]) _ ((A8.of_below c.out).setCell (a:=⟨bx,2,none⟩) (.inl rfl) _)) rfl
      ·have t0:((op k:Int)==0)=false:=(by simp;omega);by_cases x:op k=17
       ·as_aux_lemma=>
         have t17:((op k:Int)==17)=true:=(by simp[x]);have E:=ad.out k g (.inl x);have hj:=hJ.out k g (.inl x);have G:=hd (show D7 op N ToN k H L=jn H L (ToN k) (H k-B7 (op k)+B1 (op k)) (L k+1) by unfold D7;rw[aa.out,if_pos x]);rw[E] at s4;replace x:=hd x;replace E:=hd E;have ne1:(⟨w.heap.size,ToN k,none⟩:Addr)≠⟨g5,4,none⟩:=(by intro e;injection e;omega);have ne2:(⟨w.heap.size+1,ToN k,none⟩:Addr)≠⟨g5,4,none⟩:=(by intro e;injection e;omega);have ne3:(⟨w.heap.size,ToN k,none⟩:Addr)≠⟨w.heap.size+1,k,none⟩:=(by intro e;injection e;omega);have ne4:(⟨w.heap.size+1,ToN k,none⟩:Addr)≠⟨w.heap.size+1,k,none⟩:=(by intro e;injection e;omega);have ib3:(k:Int)<(n:Int)+1:=(by omega);have ib0:(0:Int)≤(k:Int):=(by omega);have ib4:k<n+1:=(by omega);go_wp2_with (fail);go_region_held3 (fun w'=>w'.cell? ⟨g5,4,none⟩=some (.int .i64 (ToN k:Int))∧w'.cell? ⟨w.heap.size+1,k,none⟩=some (.int .i64 (L k))) (first|exact⟨l.out.keep s4 ne1 ne2,l.out.keep cl ne3 ne4⟩|go_keep) (first|(go_at_call 146;refine A36 _ _ _ _ (ToN k) _ H L _ _ rfl (by omega) (by omega) (by omega) (by first|exact s.out|exact s.out.drew) (by first|exact r.out|exact r.out.drew) _ ?_;intro r1 w1 l));cases r1
         ·go_wp2;exact A6 (Y.out (A1w u.out g F (by rw[G.out];exact A2b (l.out.no rfl).1)) _ (A8.of_below (by rw[(l.out.no rfl).2];exact c.out.drew))) rfl
         ·go_wp2;go_roundw;case measure=>simp[intOf];omega
          case rel=>
           rw[(l.out.yes rfl).2];exact (A7k.next g c.out.drew K s.out.drew r.out.drew hH.out hL1.out hh (by omega) rfl (A3a u.out g F (by rw[G.out];exact S8 (l.out.yes rfl).1)))
       ·have t17:((op k:Int)==17)=false:=(by simp;omega);by_cases z:op k=18
        ·as_aux_lemma=>
          have t18:((op k:Int)==18)=true:=(by simp[z]);have E:=ad.out k g (.inr (.inl z));have hj:=hJ.out k g (.inr z);have G:=hd (show D7 op N ToN k H L=(match jn H L (ToN k) (H k-B7 (op k)+B1 (op k)) (L k+1) with|none=>none|some S=>jn S.1 S.2 (k+1) (H k-B7 (op k)+B1 (op k)) (L k+1)) by unfold D7;rw[aa.out,if_neg x,if_pos z];try rfl);rw[E] at s4;replace z:=hd z;replace E:=hd E;have ne1:(⟨w.heap.size,ToN k,none⟩:Addr)≠⟨g5,4,none⟩:=(by intro e;injection e;omega);have ne2:(⟨w.heap.size+1,ToN k,none⟩:Addr)≠⟨g5,4,none⟩:=(by intro e;injection e;omega);have ne3:(⟨w.heap.size,ToN k,none⟩:Addr)≠⟨w.heap.size+1,k,none⟩:=(by intro e;injection e;omega);have ne4:(⟨w.heap.size+1,ToN k,none⟩:Addr)≠⟨w.heap.size+1,k,none⟩:=(by intro e;injection e;omega);have ib3:(k:Int)<(n:Int)+1:=(by omega);have ib0:(0:Int)≤(k:Int):=(by omega);have ib4:k<n+1:=(by omega);go_wp2_with (fail);go_region_held3 (fun w'=>w'.cell? ⟨g5,4,none⟩=some (.int .i64 (ToN k:Int))∧w'.cell? ⟨w.heap.size+1,k,none⟩=some (.int .i64 (L k))) (first|exact⟨l.out.keep s4 ne1 ne2,l.out.keep cl ne3 ne4⟩|go_keep) (first|(go_at_call 146;refine A36 _ _ _ _ (ToN k) _ H L _ _ rfl (by omega) (by omega) (by omega) (by first|exact s.out|exact s.out.drew) (by first|exact r.out|exact r.out.drew) _ ?_;intro r1 w1 l));have cl1':=hd (l.out.keep cl ne3 ne4);cases r1
          ·have hc1:=hd (l.out.no rfl).1;have Z:=(l.out.no rfl).2;clear l cl1';subst Z;go_wp2_with (fail);refine A36 _ _ _ _ (k+1) _ H L _ _ (by omega) (by omega) (by omega) (by omega) s.out.drew r.out.drew _ ?_;intro r2 w2 ab;have hb2:Below w.heap.size w w2:=by
            cases r2 with
            |false=>rw[(ab.out.no rfl).2];exact c.out.drew
            |true=>rw[(ab.out.yes rfl).2];exact (c.out.drew.setCell (p:=⟨w.heap.size,k+1,none⟩) (z1 _) _).setCell (p:=⟨w.heap.size+1,k+1,none⟩) (y1 _) _
           replace hb2:=hd hb2;go_wp2;exact A6 (Y.out (A1w u.out g F (by rw[G.out,A2b hc1.out])) _ (A8.of_below hb2.out)) rfl
          ·have hc1:=hd (l.out.yes rfl).1;have Z:=(l.out.yes rfl).2;have hr:=A5L (w:=W1.drew) (bh:=w.heap.size) (bl:=w.heap.size+1) (i:=ToN k) (h:=H k-B7 (op k)+B1 (op k)) (m:=max (L (ToN k)) (L k+1)) (d:=L k+1) (by omega) rfl s.out.drew r.out.drew;rw[←Z] at hr;have X:Below w.heap.size w w1:=(by rw[Z];exact (c.out.drew.setCell (p:=⟨w.heap.size,ToN k,none⟩) (z1 _) _).setCell (p:=⟨w.heap.size+1,ToN k,none⟩) (y1 _) _);have hz1:w.heap.size+2≤w1.heap.size:=(by rw[Z,z0,z0];exact K);clear Z l;have cl2:=cl1'.out;have hHN:=hd (show ∀j, -1≤(R6 H (ToN k) (H k-B7 (op k)+B1 (op k))) j∧(R6 H (ToN k) (H k-B7 (op k)+B1 (op k))) j≤32 by intro j;have:=hH.out j;unfold R6;split<;>omega);have hLN:=hd (show ∀j,0≤(R6 L (ToN k) (max (L (ToN k)) (L k+1))) j∧(R6 L (ToN k) (max (L (ToN k)) (L k+1))) j≤1099511627776+((k+1:Nat):Int) by intro j;have:=hL.out j;have:=hL.out (ToN k);have:=hL.out k;unfold R6;split<;>omega);replace X:=hd X;replace hr:=hd hr;go_wp2_with (fail);refine A36 _ _ _ _ (k+1) _ (R6 H (ToN k) (H k-B7 (op k)+B1 (op k))) (R6 L (ToN k) (max (L (ToN k)) (L k+1))) _ _ (by omega) (by omega) (by omega) (by omega) hr.out.1 hr.out.2 _ ?_;intro r2 w2 ab;cases r2
           ·have y:=hd (ab.out.no rfl);go_wp2;exact A6 (Y.out (A1w u.out g F (by rw[G.out,S8 hc1.out];exact A2b y.out.1)) _ (A8.of_below (by rw[y.out.2];exact X.out))) rfl
           ·go_wp2;go_roundw;case measure=>simp[intOf];omega
            case rel=>
             rw[(ab.out.yes rfl).2];exact A7k.next g X.out hz1 hr.out.1 hr.out.2 hHN.out hLN.out hh (by omega) rfl (A3a u.out g F (by rw[G.out,S8 hc1.out];exact S8 (ab.out.yes rfl).1))
        ·have t18:((op k:Int)==18)=false:=(by simp;omega);by_cases U:op k=19
         ·as_aux_lemma=>
           have t19:((op k:Int)==19)=true:=(by simp[U]);have G:=hd (show D7 op N ToN k H L=jn H L (k+1) (H k-B7 (op k)+B1 (op k)) 0 by unfold D7;rw[aa.out,if_neg x,if_neg z,if_pos U]);replace U:=hd U;go_wp2_with (fail);refine A36 _ _ _ _ (k+1) _ H L _ _ (by omega) (by omega) (by omega) (by omega) s.out r.out _ ?_;intro r1 w1 l;cases r1
           ·have y:=hd (l.out.no rfl);go_wp2;exact A6 (Y.out (A1w u.out g F (by rw[G.out];exact A2b y.out.1)) _ (A8.of_below (by rw[y.out.2];exact c.out))) rfl
           ·go_wp2;go_roundw;case measure=>simp[intOf];omega
            case rel=>
             rw[(l.out.yes rfl).2];exact A7k.next g c.out K s.out r.out hH.out hL1.out hh (by omega) rfl (A3a u.out g F (by rw[G.out];exact S8 (l.out.yes rfl).1))
         ·have t19:((op k:Int)==19)=false:=(by simp;omega);by_cases D:op k=20
          ·as_aux_lemma=>
            have t20:((op k:Int)==20)=true:=(by simp[D]);have E:=ad.out k g (.inr (.inr D));have hf:=hF.out k g D;have hnf:=hN.out (ToN k) (by omega) hf.2;rw[E] at s4;have ef3:W1.cell? ⟨b,ToN k*6+3,none⟩=some (.int .i64 (N (ToN k))):=T.out.cell (by omega) (f:=3) (by omega);have chf:=s.out.cell (show ToN k+1<n+1 by omega);have clf:=r.out.cell (show ToN k<n+1 by omega);have bLf:=hL.out (ToN k);have hi1:0≤(ToN k:Int)+1∧(ToN k:Int)+1<(n:Int)+1:=(by omega);have hi2:(ToN k:Int)+1<(n:Int)+1:=(by omega);have hi3:((ToN k:Int)+1).toNat=ToN k+1:=(by omega);have hmul:N (ToN k)*(L k+1)≤65535*1099511636000:=(by have h1:N (ToN k)*(L k+1)≤65535*(L k+1):=Int.mul_le_mul_of_nonneg_right hnf.2 (by omega);omega);have hmul0:0≤N (ToN k)*(L k+1):=Int.mul_nonneg (by omega) (by omega);have ew1:IntKind.i64.wrap (L (ToN k)+1)=L (ToN k)+1:=z2 _ (by omega);have ew2:IntKind.i64.wrap (N (ToN k)*(L k+1))=N (ToN k)*(L k+1):=z2 _ (by omega);have ew3:IntKind.i64.wrap (L (ToN k)+1+N (ToN k)*(L k+1))=L (ToN k)+1+N (ToN k)*(L k+1):=z2 _ (by omega);have ew4:IntKind.i64.wrap ((ToN k:Int)+1)=(ToN k:Int)+1:=z2 _ (by omega);have ib0:(0:Int)≤(k:Int):=(by omega);have ib1:(ToN k:Int)<(n:Int)+1:=(by omega);have ib2:(ToN k:Int)<(n:Int):=(by omega);have ib3:(k:Int)<(n:Int)+1:=(by omega);have ib4:ToN k<n+1:=(by omega);have ib5:ToN k<n:=(by omega);have ib6:k<n+1:=(by omega);by_cases O:H k-B7 (op k)+B1 (op k)=H (ToN k+1)
            ·have deq:(H k-(B7 (op k):Int)+(B1 (op k):Int)==H (ToN k+1))=true:=(by simpa using O);have G:=hd (show D7 op N ToN k H L=jn H L (k+1) (H k-B7 (op k)+B1 (op k)) (min (L (ToN k)+1+N (ToN k)*(L k+1)) 1099511627776) by unfold D7;rw[aa.out,if_neg x,if_neg z,if_neg U,if_pos D,if_pos O]);replace O:=hd O;replace D:=hd D;have nn:∀(a:Addr),a=⟨w.heap.size,ToN k+1,none⟩∨a=⟨w.heap.size+1,ToN k,none⟩∨a=⟨w.heap.size+1,k,none⟩∨a=⟨bx,1,none⟩∨a=⟨b,ToN k*6+3,none⟩→(⟨w.heap.size,k+1,none⟩:Addr)≠a∧(⟨w.heap.size+1,k+1,none⟩:Addr)≠a:=(by intro a ha;rcases ha with rfl|rfl|rfl|rfl|rfl<;>(constructor<;>(intro e;injection e;omega)));have n1:=hd (nn _ (.inl rfl));have n2:=hd (nn _ (.inr (.inl rfl)));have n3:=hd (nn _ (.inr (.inr (.inl rfl))));have n4:=hd (nn _ (.inr (.inr (.inr (.inl rfl)))));have n5:=hd (nn _ (.inr (.inr (.inr (.inr rfl)))));clear nn;have J:∃M:Int,min (L (ToN k)+1+N (ToN k)*(L k+1)) 1099511627776=M∧(((L (ToN k)+1+N (ToN k)*(L k+1))≤1099511627776∧M=(L (ToN k)+1+N (ToN k)*(L k+1)))∨(1099511627776<(L (ToN k)+1+N (ToN k)*(L k+1))∧M=1099511627776)):=by
              rcases Int.le_total (L (ToN k)+1+N (ToN k)*(L k+1)) 1099511627776 with h|h
              ·exact⟨_,rfl,.inl ⟨h,by omega⟩⟩
              ·by_cases e:(L (ToN k)+1+N (ToN k)*(L k+1))=1099511627776
               ·exact⟨_,rfl,.inl ⟨by omega,by omega⟩⟩
               ·exact⟨_,rfl,.inr ⟨by omega,by omega⟩⟩
             obtain⟨M,hM,J⟩:=J;replace hM:=hd hM;rcases J with ⟨J,ae⟩|⟨J,ae⟩;all_goals
              replace ae:=hd ae
              go_wp2_with (fail)
              go_region_held3 (fun w'=>w'.cell? ⟨w.heap.size,ToN k+1,none⟩=some (.int .i64 (H (ToN k+1)))∧w'.cell? ⟨w.heap.size+1,ToN k,none⟩=some (.int .i64 (L (ToN k)))∧w'.cell? ⟨w.heap.size+1,k,none⟩=some (.int .i64 (L k))∧w'.cell? ⟨bx,1,none⟩=some (.slice (some ⟨b,0,none⟩) n cap)∧w'.cell? ⟨b,ToN k*6+3,none⟩=some (.int .i64 (N (ToN k)))) (first|exact⟨l.out.keep chf n1.out.1 n1.out.2,l.out.keep clf n2.out.1 n2.out.2,l.out.keep cl n3.out.1 n3.out.2,l.out.keep hx11 n4.out.1 n4.out.2,l.out.keep ef3 n5.out.1 n5.out.2⟩|go_keep) (first|(go_at_call 146;refine A36 _ _ _ _ (k+1) _ H L _ _ (by omega) (by omega) (by omega) (by omega) (by first|exact s.out|exact s.out.drew) (by first|exact r.out|exact r.out.drew) _ ?_;intro r1 w1 l))
              have ac:B4U W1.drew w.heap.size (w.heap.size+1) H L (k+1) (H k-B7 (op k)+B1 (op k)) M r1 w1:=by
               have h1:=l.out;have h2:=ae.out;first|(rw[if_neg (by omega)] at h1;rw[h2];exact h1)|(rw[h2];exact h1)
              replace ac:=hd ac
              clear l
              cases r1
              ·have y:=hd (ac.out.no rfl);go_wp2;exact A6 (Y.out (A1w u.out g F (by rw[G.out];exact A2b y.out.1)) _ (A8.of_below (by rw[y.out.2];exact c.out.drew))) rfl
              ·go_wp2;go_roundw;case measure=>simp[intOf];omega
               case rel=>
                rw[(ac.out.yes rfl).2];exact A7k.next g c.out.drew K s.out.drew r.out.drew hH.out hL1.out hh (by have:=ae.out;omega) rfl (A3a u.out g F (by rw[G.out,hM.out];exact S8 (ac.out.yes rfl).1))
            ·have deq:(H k-(B7 (op k):Int)+(B1 (op k):Int)==H (ToN k+1))=false:=(by simpa using O);have G:D7 op N ToN k H L=none:=(by unfold D7;rw[aa.out,if_neg x,if_neg z,if_neg U,if_pos D,if_neg O]);have hno:=hd (A1w u.out g F G);clear G;replace D:=hd D;replace O:=hd O;go_wp2_with (fail);go_quiet (fail);go_wp2;exact A6 (Y.out hno.out _ (A8.of_below (below_drewN c.out _))) rfl
          ·as_aux_lemma=>
            have t20:((op k:Int)==20)=false:=(by simp;omega);have G:=hd (show D7 op N ToN k H L=jn H L (k+1) (H k-B7 (op k)+B1 (op k)) (L k+1) by unfold D7;rw[aa.out,if_neg x,if_neg z,if_neg U,if_neg D]);go_wp2_with (fail);refine A36 _ _ _ _ (k+1) _ H L _ _ (by omega) (by omega) (by omega) (by omega) s.out r.out _ ?_;intro r1 w1 l;cases r1
            ·have y:=hd (l.out.no rfl);go_wp2;exact A6 (Y.out (A1w u.out g F (by rw[G.out];exact A2b y.out.1)) _ (A8.of_below (by rw[y.out.2];exact c.out))) rfl
            ·go_wp2;go_roundw;case measure=>simp[intOf];omega
             case rel=>
              rw[(l.out.yes rfl).2];exact A7k.next g c.out K s.out r.out hH.out hL1.out hh (by omega) rfl (A3a u.out g F (by rw[G.out];exact S8 (l.out.yes rfl).1))
    ·go_wp2;exact A6 (Y.out (B6A u.out g) _ (A8.of_below o)) rfl
end
section
theorem B06 (w:WD)(bx bc capc d:Nat)(rl o:Nat→Int)(at_ N f g:Int)(op c:Nat)(l:Option Addr)(p:(op=2∨op=3∨op=4∨op=5∨op=21)→0≤N∧N≤255)(u:c≤255)(s:d≤100)(r:w.cell? ⟨bx,0,none⟩=some (.slice l d capc))(k:0<d→l=some ⟨bc,0,none⟩)(t:∀j,j<d→w.cell? ⟨bc,j*2,none⟩=some (.int .i64 (rl j)))(q:∀j,j<d→w.cell? ⟨bc,j*2+1,none⟩=some (.int .i64 (o j)))(R:RP)(i:∀(b:Bool) w',(b=true↔A07 rl o d op c N)→Below w.heap.size w w'→R (.returned (.bool b)) w'):Calls Tryz.prog 95 #[.pointer (some ⟨bx,0,none⟩),.agg #[.int .i64 at_,.int .i64 op,.int .i64 c,.int .i64 N,.int .i64 f,.int .i64 g]] w R:=by
 by_cases a:op=2∨op=3∨op=4∨op=5∨op=21
 ·obtain⟨n,rfl⟩:=Int.eq_ofNat_of_zero_le (p a).1;refine B23 w bx bc capc d rl o at_ f g op c n l a (by have:=(p a).2;omega) u s r k t q R fun b w' m=>i b w' (m.trans ⟨fun h=>⟨fun _=>by simpa using h,fun e=>by omega⟩,fun h=>by simpa using h.1 a⟩)
 ·refine A7P w _ at_ c N f g op (by omega) (by omega) (by omega) (by omega) (by omega) R fun b w' m=>i b w' (m.trans ⟨fun h=>⟨fun e=>absurd e a,h⟩,fun h=>h.2⟩)
def Blk (w:WD)(b:Nat)(a:Array VL)(T:Nat):Prop:=w.heap[b]? =some (.cells a T (0,0))
theorem Blk.cell {w:WD}{b T i:Nat}{a:Array VL}{v:VL}(h:Blk w b a T)(hi:a[i]? =some v):w.cell? ⟨b,i,none⟩=some v:=by unfold Blk at h;simp[World.cell?,h,hi]
theorem Blk.frozen {w:WD}{b T:Nat}{a:Array VL}(h:Blk w b a T)(i:Nat):w.frozen? ⟨b,i,none⟩=false:=by unfold Blk at h;simp[World.frozen?,h]
theorem Blk.lt {w:WD}{b T:Nat}{a:Array VL}(h:Blk w b a T):b<w.heap.size:=(z5.1 h).1
theorem Blk.of_block {w w':WD}{b T:Nat}{a:Array VL}(h:Blk w b a T)(e:w'.heap[b]? =w.heap[b]?):Blk w' b a T:=e.trans h
theorem Blk.set {w:WD}{b T:Nat}{a:Array VL}(h:Blk w b a T)(i:Nat)(v:VL):Blk (w.setCell ⟨b,i,none⟩ v) b (a.setIfInBounds i v) T:=by unfold Blk at*;simp[World.setCell,Array.getElem?_modify,h]
theorem A7C:(Tryz.prog.info? 111).map (fun i=>(i.zero,i.size,i.bytes))=some (some (.agg #[.int .i64 0,.int .i64 0]),2,16):=by kernel_rfl
theorem A9t:Tryz.prog.underlying 33=some (.slice 111):=by kernel_rfl
def A01 (s:BA)(i:Nat):List VL:=[.int .i64 (A2k s i),.int .i64 (A2w s i)]
theorem B0d (c:BA):∀(l:List Nat) (i f:Nat),i<l.length→f<6→(l.flatMap (doC c))[i*6+f]? =some (N0 (atL l) (S7 c l) (cL c l) (nL c l) (fun _=> -1) (fun _=> -1) i f)
 |[],i,f,hi,_=>by simp at hi
 |a::l,0,f,_,hf=>by
  rw[List.flatMap_cons,z8 (by simp[doC];omega)];have:f=0∨f=1∨f=2∨f=3∨f=4∨f=5:=(by omega);rcases this with rfl|rfl|rfl|rfl|rfl|rfl<;>rfl
 |a::l,i+1,f,hi,hf=>by
  rw[List.flatMap_cons,z6 (by simp[doC];omega)];have h:=B0d c l i f (by simpa using hi) hf;have e:(i+1)*6+f-(doC c a).length=i*6+f:=(by simp[doC];omega);rw[e,h];rfl
theorem A5m (s:BA):∀(F a:Nat) (l:List Nat),U2 s F a=some l→l.length≤s.size-a
 |0,_,_,h=>by simp[U2] at h
 |F+1,a,l,h=>by
  unfold U2 at h;split at h
  ·rename_i d;split at h
   ·cases h
   ·rename_i b;obtain⟨t,c,rfl⟩:=Option.map_eq_some_iff.1 h;have:=A5m s F _ t c;simp only[not_or] at b;have e:=b.1;simp;omega
  ·injection h with h;subst h;simp
theorem B11 {s:BA}{F:Nat}{l:List Nat}(h:U2 s F 0=some l)(a:s.size≤8000):l.length≤8000:=by have:=A5m s F 0 l h;omega
theorem B2r (s:BA)(k i f:Nat)(hi:i<k)(b:f<2):((List.range k).flatMap (A01 s))[i*2+f]? =some (if f=0 then Value.int .i64 (A2k s i) else .int .i64 (A2w s i)):=by
 induction k with
 |zero=>omega
 |succ k ih=>
  have a:∀n,((List.range n).flatMap (A01 s)).length=n*2:=by
   intro n;induction n with
   |zero=>rfl
   |succ n ih=>rw[z9,z4,List.length_append,ih];simp[A01];omega
  rw[z9,z4];by_cases e:i=k
  ·subst e;rw[z6 (by rw[a];omega),a];have:f=0∨f=1:=(by omega);rcases this with rfl|rfl<;>simp[A01]
  ·rw[z8 (by rw[a];omega)];exact ih (by omega)
theorem B0p {w:WD}{c T k capc:Nat}{acc:Option Addr}{s:BA}(h:w.ownsRow c T 2 (.slice acc k capc) k ((List.range k).flatMap (A01 s))):∃bc,(0<k→acc=some ⟨bc,0,none⟩)∧(∀j,j<k→w.cell? ⟨bc,j*2,none⟩=some (.int .i64 (A2k s j)))∧(∀j,j<k→w.cell? ⟨bc,j*2+1,none⟩=some (.int .i64 (A2w s j))):=by
 by_cases d:0<k
 ·obtain⟨b,cap,l,_,e⟩:=A3W h d (A:=fun i f=>if f=0 then Value.int .i64 (A2k s i) else .int .i64 (A2w s i)) (fun i hi f g=>B2r s k i f hi g);injection l with m;exact⟨b,fun _=>m,fun j a=>e.cell0 a (by omega),fun j a=>e.cell a (f:=1) (by omega)⟩
 ·exact⟨0,fun h=>absurd h d,fun j a=>by omega,fun j a=>by omega⟩
theorem B4H (c:BA)(a:Nat)(h:bt c a=2∨bt c a=3∨bt c a=4∨bt c a=5∨bt c a=21):0≤U1 c a∧U1 c a≤255:=by have:=N5 c (a+2);unfold U1;rcases h with h|h|h|h|h<;>simp[h]<;>omega
theorem B4w (c:BA)(a:Nat):Z2 c a≤255:=by have:=N5 c (a+1);unfold Z2;split<;>omega
theorem A6k {s:BA}{bd:Int}{l:List Nat}{k:Nat}(h:A1H s bd)(c:U2 (A3 s) ((A3 s).size+1) 0=some l)(d:bt s 6=k):A8p (A2k s) (A2w s) k (A3 s) l bd:=by obtain⟨_,_,_,f,a,b⟩:=h;rw[c] at a;injection a with e;subst e;subst d;exact b
theorem B3c {op:Nat→Nat}{n i:Nat}(h:X5 op n=some [])(hi:i<n)(b:op i=20):∃f:Nat,O8 op i=f∧f<i∧op f=19:=by
 cases a:X5 op i with
 |none=>rw[A27 op a (by omega)] at h;cases h
 |some st=>
  cases st with
  |nil=>rw[A27 op (A4j a b) (by omega)] at h;cases h
  |cons f t=>
   have:=A6w op i _ a f (by simp);exact⟨f,A5U a,this.1,this.2⟩
theorem B3a (c:BA)(a:Nat)(h:bt c a=19):U1 c a≤65535:=by have b:=N5 c (a+1);have d:=N5 c (a+1+1);simp[U1,h,b16];omega
section
variable {at_ op C:Nat→Nat}{N To In:Nat→Int}{i:Nat}
theorem B4F:N0 at_ op C N To In i 0=.int .i64 (at_ i):=rfl
theorem B3P:N0 at_ op C N To In i 1=.int .i64 (op i):=rfl
theorem B4t:N0 at_ op C N To In i 2=.int .i64 (C i):=rfl
theorem B4R:N0 at_ op C N To In i 3=.int .i64 (N i):=rfl
theorem B4v:N0 at_ op C N To In i 4=.int .i64 (To i):=rfl
theorem B3R:N0 at_ op C N To In i 5=.int .i64 (In i):=rfl
end
theorem A2f {w:WD}{b e a:Nat}{v:VL}{n:Nat}{xs:List VL}(h:w.ownsRow b e a v n xs):∃c cap,v=.slice c n cap:=by
 rcases h.2 with ⟨rfl,rfl⟩|⟨g,cap,cur,rfl,_⟩
 ·exact⟨none,0,rfl⟩
 ·exact⟨_,cap,rfl⟩
theorem B5D (a b:Int):∀u∈[Value.int .i64 a,.int .i64 b],u.oneCell'=true:=by intro u c;simp only[List.mem_cons,List.not_mem_nil,or_false] at c;rcases c with rfl|rfl<;>rfl
structure B5s (a:Nat)(s:BA)(l:List Nat)(bx b cap:Nat)(acc:Option Addr)(capc:Nat)(To:Nat→Int)(bd:Int)(w:WD):Prop where
 blk:Blk w bx #[.slice acc (bt s 6) capc,.slice (some ⟨b,0,none⟩) l.length cap,.int .i64 bd] 36
 tab:R8 w b 123 6 l.length cap (N0 (atL l) (S7 (A3 s) l) (cL (A3 s) l) (nL (A3 s) l) To (O8 (S7 (A3 s) l)))
 row:w.ownsRow a 111 2 (.slice acc (bt s 6) capc) (bt s 6) ((List.range (bt s 6)).flatMap (A01 s))
 to_:∀i,i<l.length→(Z6 (S7 (A3 s) l i)∨S7 (A3 s) l i=20)→To i=((toL (atL l) (S7 (A3 s) l) (nL (A3 s) l) l.length i:Nat):Int)
theorem A4M {w w':WD}{a T f n b:Nat}{v:VL}{g:List VL}(h:w.ownsRow a T f v n g)(c:A8 b w w')(d:∀k,v.ownBlock=some k→k≠b):w'.ownsRow a T f v n g:=
 h.kept (row:=some b) ⟨c.os,c.tape,c.output,c.size,fun i hi j=>c.block i hi (fun e=>j (by rw[e]))⟩ (by cases l:v.ownBlock with
  |none=>simp
  |some k=>have:=d k l;simpa using this)
theorem B0O (w:WD)(s:BA)(hs:s.size≤maxLen)(R:RP)(H:(∀bd,¬A1H s bd)→∀w',Below w.heap.size w w'→R (.returned (.tuple #[.pointer none,.int .i64 1])) w')(ah:∀bd,A1H s bd→200000<bd→∀w',Below w.heap.size w w'→R (.returned (.tuple #[.pointer none,.int .i64 2])) w')(ai:∀bd l,A1H s bd→bd≤200000→U2 (A3 s) ((A3 s).size+1) 0=some l→∀w' bx b cap acc capc To,Below w.heap.size w w'→w.heap.size≤bx→w.heap.size<b→B5s (w.heap.size+1) s l bx b cap acc capc To bd w'→R (.returned (.tuple #[.pointer (some ⟨bx,0,none⟩),.int .i64 0])) w'):Calls Tryz.prog 52 #[.string s] w R:=by
 unfold maxLen at hs;replace H:=hd H;replace ah:=hd ah;replace ai:=hd ai;by_cases hh:B1F s
 ·obtain⟨h9,hmk,h100,hfit⟩:=hh;have hh:=hd (show B1F s from ⟨h9,hmk,h100,hfit⟩);have d9:decide ((s.size:Int)<9)=false:=(by simp;omega);have i6:6<s.size:=(by omega);have i6':(6:Int)<(s.size:Int):=(by omega);have i6'':(6:Int)≤(s.size:Int):=(by omega);have hb6:=J4 s 6 i6;have hle:=N5 s 6;have d100:decide ((100:Int)<(bt s 6:Int))=false:=(by simp;omega);have dfit:decide ((s.size:Int)<9+(bt s 6:Int))=false:=(by simp;omega);generalize B:bt s 6=nC at*;replace B:=hd B;go_enter Tryz.func52,Tryz.ntmps52;go_wp2;go_loopw [6] (fun i wr=>∃(k:Nat) (v:VL),k≤nC∧i=.int .i64 k∧Blk wr w.heap.size #[v,.slice none 0 0,.int .i64 0] 36∧
    wr.ownsRow (w.heap.size+1) 111 2 v k ((List.range k).flatMap (A01 s))∧Below w.heap.size w wr∧w.heap.size+1≤wr.heap.size∧(∀j,j<k→bt s (7+j)≤8)) (fun i _=>nC-(intOf i).toNat)
  case atStart=>exact⟨0,_,by omega,rfl,heap_alloc_new _ _,World.ownsRow_nil _ _ _ _,(by repeat (first|exact Below.refl _ _|refine below_drewN ?_ _|refine Below.drew ?_|refine Below.alloc ?_ (by simp) _|refine Below.setCell ?_ (by simp) _)),by simp,by omega⟩
  case round=>
   obtain⟨k,v,hk,rfl,N,x,K,hsz,Q⟩:=hrel;have cx0:=N.cell (i:=0) rfl;replace N:=hd N;replace x:=hd x;replace K:=hd K;replace Q:=hd Q;by_cases hlt:k<nC
   ·have hb7:=J4 s (7+k) (by omega);have hle7:=N5 s (7+k);have j7:0≤7+(k:Int)∧7+(k:Int)<(s.size:Int):=(by omega);by_cases h8:bt s (7+k)≤8
    ·have d8:decide ((8:Int)<(bt s (7+k):Int))=false:=(by simp;omega);go_wp2_with (first|(at_builtin;refine C3 _ rfl _ _ 33 rfl (w.heap.size+1) 111 _ 2 16 A9t A7C rfl (by decide) _ _ _ rfl (by exact x.out.alloc _) _ 1 1 _ rfl (A9 (by simp)) rfl (B5D _ _) (by unfold maxLen;omega) (by omega) (by simp;omega) ?_;intro v1 w1 n D;obtain⟨ao1,ak,rfl⟩:=A2f n;have d:Blk w1 w.heap.size #[v,.slice none 0 0,.int .i64 0] 36:=N.out.of_block ((D.block w.heap.size (by simp;omega) (fun e=>by have:=(x.out.lt _ e.symm).1;omega)).trans (Below.heap_alloc _ _ _ (by omega)));have cx1:=d.cell (i:=0) rfl;have fx1:=d.frozen 0;replace d:=hd d;replace n:=hd n;replace D:=hd D));refine⟨⟨k+1,_,by omega,by go_num,(d.out.set 0 _),?_,?_,?_,?_⟩,by simp[intOf];omega⟩
     ·rw[z9,z4];have h1:=N3 n.out (a:=⟨w.heap.size,0,none⟩) (show w.heap.size<w.heap.size+1 by omega) (Value.slice ao1 (k+1) ak);simpa[A01,A2k,A2w] using h1
     ·exact ((K.out.alloc (by omega) _).grown D.out (by simp;omega) (fun k hk=>by have:=(x.out.lt k hk).1;omega)).setCell (z1 _) _
     ·have:=D.out.size;rw[z0];simp at this;omega
     ·intro j hj;by_cases e:j=k
      ·subst e;exact h8
      ·exact Q.out j (by omega)
    ·have d8:decide ((8:Int)<(bt s (7+k):Int))=true:=(by simp;omega);go_wp2_with (first|(at_builtin;refine C3 _ rfl _ _ 33 rfl (w.heap.size+1) 111 _ 2 16 A9t A7C rfl (by decide) _ _ _ rfl (by exact x.out.alloc _) _ 1 1 _ rfl (A9 (by simp)) rfl (B5D _ _) (by unfold maxLen;omega) (by omega) (by simp;omega) ?_;intro v1 w1 n D;obtain⟨ao1,ak,rfl⟩:=A2f n;have d:Blk w1 w.heap.size #[v,.slice none 0 0,.int .i64 0] 36:=N.out.of_block ((D.block w.heap.size (by simp;omega) (fun e=>by have:=(x.out.lt _ e.symm).1;omega)).trans (Below.heap_alloc _ _ _ (by omega)));have cx1:=d.cell (i:=0) rfl;have fx1:=d.frozen 0;replace d:=hd d;replace n:=hd n;replace D:=hd D));exact A6 (H.out (fun bd h=>h8 (h.2.1 k (by rw[B.out];exact hlt))) _ K.out) rfl
   ·have hkn:k=nC:=(by omega);subst hkn;have hb7:=J4 s (7+k) (by omega);have hb8:=J4 s (8+k) (by omega);have hle7:=N5 s (7+k);have hle8:=N5 s (8+k);have j7:0≤7+(k:Int)∧7+(k:Int)<(s.size:Int):=(by omega);have j8:0≤8+(k:Int)∧8+(k:Int)<(s.size:Int):=(by omega);have j9:0≤9+(k:Int)∧9+(k:Int)≤(s.size:Int):=(by omega);have O:A9j s:=fun i hi=>Q.out i (by rw[B.out] at hi;exact hi);replace O:=hd O;have e8:7+k+1=8+k:=(by omega);by_cases z:A5W s
    ·have I:=z;unfold A5W b16 at I;rw[B.out,e8] at I;have t2:decide ((8000:Int)<256*(bt s (7+k):Int)+(bt s (8+k):Int))=false:=(by simp;omega);have hcsz:(A3 s).size=s.size-(9+k):=(by unfold A3;rw[B.out,ByteArray.size_extract];omega);have hce:s.extract (9+k) s.size=A3 s:=(by unfold A3;rw[B.out]);have hcl:(A3 s).size≤8000:=(by omega);have t1:(((A3 s).size:Int) !=256*(bt s (7+k):Int)+(bt s (8+k):Int))=false:=(by simp;omega);replace hcsz:=hd hcsz;replace z:=hd z;replace I:=hd I;clear e8;go_wp2;go_quiet (fail);go_wp2_with (fail);refine B0o _ _ hcl _ ?_ ?_
     ·intro Z w1 C;replace Z:=hd Z;replace C:=hd C;go_wp2;refine A6 (H.out (fun bd h=>?_) _ ((below_drewN K.out _).trans (C.out.mono (by simp;omega)))) rfl;obtain⟨_,_,_,ps,af,_⟩:=h;rw[Z.out] at af;cases af
     ·intro l hl v1 w1 C n;have A:Below w.heap.size w w1:=(below_drewN K.out _).trans (C.mono (by simp;omega));have d:Blk w1 w.heap.size #[v,.slice none 0 0,.int .i64 0] 36:=N.out.of_block (C.block w.heap.size (by simp;omega));have L:w1.ownsRow (w.heap.size+1) 111 2 v k ((List.range k).flatMap (A01 s)):=x.out.kept (row:=none) ⟨C.os,C.tape,C.output,C.size,fun i hi _=>C.block i hi⟩ (by cases hq:v.ownBlock<;>simp);replace hl:=hd hl;by_cases aj:l=[]
      ·subst aj;obtain⟨ao1,ak,rfl⟩:=A2f n;replace A:=hd A;clear n C d L;go_wp2;refine A6 (H.out (fun bd h=>?_) _ A.out) rfl;obtain⟨_,_,_,ps,af,hok⟩:=h;rw[hl.out] at af;injection af with e;exact hok.1 e.symm
      ·have hl0:0<l.length:=by cases l with
        |nil=>exact absurd rfl aj
        |cons=>simp
       obtain⟨b,cap,hv1,hbb,aa⟩:=A3W n hl0 (fun i hi f hf=>B0d (A3 s) l i f hi hf);subst hv1;have hln:l.length≤8000:=B11 hl.out hcl;obtain⟨acc,capc,hvc⟩:=A2f L;subst hvc;have cx1:=d.cell (i:=1) rfl;have fx1:=d.frozen 1;have hbb':w.heap.size<b:=(by simp at hbb;omega);have hnc:∀q,(Value.slice acc k capc).ownBlock=some q→q≠b:=fun q hq=>by have:=(x.out.lt q hq).1;have:=(x.out.lt q hq).2;simp at hbb;omega
       have hnx:∀q,(Value.slice acc k capc).ownBlock=some q→q≠w.heap.size:=fun q hq=>by have:=(x.out.lt q hq).1;have:=(x.out.lt q hq).2;omega
       replace hnc:=hd hnc;replace hnx:=hd hnx;have hbsz:=aa.lt;have hl0':(((l.length:Nat):Int)==0)=false:=(by simp;omega);replace A:=hd A;replace d:=hd d;replace aa:=hd aa;replace L:=hd L;replace C:=hd C;clear n;go_wp2;go_loopw [12] (fun i wr2=>∃S:Nat,S≤l.length∧i=.int .i64 S∧Below (w1.setCell ⟨w.heap.size,1,none⟩ (.slice (some ⟨b,0,none⟩) l.length cap)).heap.size (w1.setCell ⟨w.heap.size,1,none⟩ (.slice (some ⟨b,0,none⟩) l.length cap)) wr2∧
         (∀i,i<S→A07 (A2k s) (A2w s) k (S7 (A3 s) l i) (cL (A3 s) l i) (nL (A3 s) l i))) (fun i _=>l.length-(intOf i).toNat)
       case atStart=>exact⟨0,by omega,rfl,Below.refl _ _,by omega⟩
       case round=>
        obtain⟨S,hk2,rfl,m,ab⟩:=hrel;rw[z0] at m;have r:R8 wr b 123 6 l.length cap (N0 (atL l) (S7 (A3 s) l) (cL (A3 s) l) (nL (A3 s) l) (fun _=> -1) (fun _=> -1)):=
         (aa.out.setOther (a:=⟨w.heap.size,1,none⟩) (by simp;omega) _).of_block (m.block b hbsz)
        have u:Blk wr w.heap.size #[.slice acc k capc,.slice (some ⟨b,0,none⟩) l.length cap,.int .i64 0] 36:=
         (d.out.set 1 _).of_block (m.block w.heap.size (by omega))
        have E:wr.ownsRow (w.heap.size+1) 111 2 (.slice acc k capc) k ((List.range k).flatMap (A01 s)):=
         (N3 L.out (a:=⟨w.heap.size,1,none⟩) (show w.heap.size<w.heap.size+1 by omega) _).kept (row:=none) ⟨m.os,m.tape,m.output,m.size,fun i hi _=>m.block i (by rw[z0] at hi;exact hi)⟩ (by cases hq:(Value.slice acc k capc).ownBlock<;>simp)
        replace ab:=hd ab;have hB:Below w.heap.size w wr:=(A.out.setCell (p:=⟨w.heap.size,1,none⟩) (z1 _) _).trans (m.mono (by have:=A.out.size;omega));replace hB:=hd hB;have cx02:=u.cell (i:=0) (v:=.slice acc k capc) rfl;obtain⟨bc,hac,hrc,hkc⟩:=B0p E;by_cases M:S<l.length
        ·have e0:wr.cell? ⟨b,S*6,none⟩=some (.int .i64 (atL l S)):=(by rw[r.cell0 M (by omega),B4F]);have e1:wr.cell? ⟨b,S*6+1,none⟩=some (.int .i64 (S7 (A3 s) l S)):=(by rw[r.cell M (f:=1) (by omega),B3P]);have e2:wr.cell? ⟨b,S*6+2,none⟩=some (.int .i64 (cL (A3 s) l S)):=(by rw[r.cell M (f:=2) (by omega),B4t]);have e3:wr.cell? ⟨b,S*6+3,none⟩=some (.int .i64 (nL (A3 s) l S)):=(by rw[r.cell M (f:=3) (by omega),B4R]);have e4:wr.cell? ⟨b,S*6+4,none⟩=some (.int .i64 (-1)):=(by rw[r.cell M (f:=4) (by omega),B4v]);have e5:wr.cell? ⟨b,S*6+5,none⟩=some (.int .i64 (-1)):=(by rw[r.cell M (f:=5) (by omega),B3R]);replace m:=hd m;replace r:=hd r;replace u:=hd u;replace E:=hd E;replace hac:=hd hac;replace hrc:=hd hrc;replace hkc:=hd hkc;go_wp2_with (fail);refine B06 _ _ bc capc k (A2k s) (A2w s) _ _ _ _ _ _ acc (fun h=>B4H _ _ h) (B4w _ _) h100 cx02 hac.out hrc.out hkc.out _ ?_;intro bb w3 ad hb3;replace ad:=hd ad;replace hb3:=hd hb3;cases bb with
         |false=>
          go_wp2;refine A6 (H.out (fun bd h=>?_) _ ?_) rfl
          ·have h1:=(A6k h hl.out B.out).2.1 S M;have:=ad.out.2 h1;cases this
          ·exact hB.out.trans (hb3.out.mono (by have:=hB.out.size;omega))
         |true=>
          go_wp2;refine⟨⟨S+1,by omega,by go_num,?_,fun i hi=>?_⟩,by simp[intOf];omega⟩
          ·rw[z0];refine m.out.trans (hb3.out.mono ?_);have:=m.out.size;rw[z0] at this;exact this
          ·by_cases e:i=S
           ·subst e;exact ad.out.1 (by first|rfl|trivial)
           ·exact ab.out i (by omega)
        ·have hk2n:S=l.length:=(by omega);have hall:=hd (show ∀i,i<l.length→A07 (A2k s) (A2w s) k (S7 (A3 s) l i) (cL (A3 s) l i) (nL (A3 s) l i) from fun i hi=>ab.out i (by omega));have cx12:=u.cell (i:=1) (v:=.slice (some ⟨b,0,none⟩) l.length cap) rfl;have cx22:=u.cell (i:=2) (v:=.int .i64 0) rfl;have fx22:=u.frozen 2;have G:=u.lt;have y:w.heap.size≠b:=(by omega);replace hk2n:=hd hk2n;clear hac hrc hkc cx02;replace E:=hd E;replace m:=hd m;replace r:=hd r;replace u:=hd u;go_wp2_with (fail);refine B0H _ w.heap.size b l.length cap (atL l) (S7 (A3 s) l) (cL (A3 s) l) (nL (A3 s) l) (fun _=> -1) (fun _=> -1) hln y cx12 r.out (fun _ _=>rfl) _ ?_ ?_
         ·intro F w4 c;replace F:=hd F;replace c:=hd c;go_wp2;exact A6 (H.out (fun bd h=>F.out (A6k h hl.out B.out).2.2.1) _ (hB.out.trans (c.out.below (by omega) hB.out.size))) rfl
         ·intro F w4 To4 c U ag;have cx14:w4.cell? ⟨w.heap.size,1,none⟩=some (.slice (some ⟨b,0,none⟩) l.length cap):=(by rw[c.cell G y];exact cx12);replace F:=hd F;replace c:=hd c;replace U:=hd U;replace ag:=hd ag;go_wp2_with (fail);refine B0s _ w.heap.size b l.length cap (atL l) (S7 (A3 s) l) (cL (A3 s) l) (nL (A3 s) l) To4 hln y cx14 U.out _ ?_ ?_
          ·intro X w5 g;replace X:=hd X;replace g:=hd g;go_wp2;refine A6 (H.out (fun bd h=>?_) _ ((hB.out.trans (c.out.below (by omega) hB.out.size)).trans (g.out.below (by omega) (y0 hB.out.size c.out.size)))) rfl;obtain⟨i,hi,hji,hnt⟩:=X.out;obtain⟨t,ht⟩:=(A6k h hl.out B.out).2.2.2.1 i hi hji;exact hnt t ht
          ·intro To5 hj5 P w5 g J;have cx15:w5.cell? ⟨w.heap.size,1,none⟩=some (.slice (some ⟨b,0,none⟩) l.length cap):=(by rw[g.cell (z3 G c.out.size) y];exact cx14);have cx25:w5.cell? ⟨w.heap.size,2,none⟩=some (.int .i64 0):=(by rw[g.cell (z3 G c.out.size) y,c.out.cell G y];exact cx22);have fx25:w5.frozen? ⟨w.heap.size,2,none⟩=false:=(by rw[g.frozen (z3 G c.out.size) y,c.out.frozen G y];exact fx22);have T:Below w.heap.size w w5:=(hB.out.trans (c.out.below (by omega) hB.out.size)).trans (g.below (by omega) (y0 hB.out.size c.out.size));have Y:∀i,i<l.length→Z6 (S7 (A3 s) l i)→To5 i=((toL (atL l) (S7 (A3 s) l) (nL (A3 s) l) l.length i:Nat):Int)∧A1Z (atL l) (S7 (A3 s) l) (nL (A3 s) l) l.length i (toL (atL l) (S7 (A3 s) l) (nL (A3 s) l) l.length i):=(by intro i hi hji;obtain⟨t,ht,hok⟩:=hj5 i hi hji;have al:S7 (A3 s) l i≠20:=(by rcases hji with h|h<;>omega);have:toL (atL l) (S7 (A3 s) l) (nL (A3 s) l) l.length i=t:=(by unfold toL;rw[if_neg al];exact B6l hok);rw[this];exact⟨ht,hok⟩);have ae:∀i,i<l.length→S7 (A3 s) l i=20→To5 i=((toL (atL l) (S7 (A3 s) l) (nL (A3 s) l) l.length i:Nat):Int)∧toL (atL l) (S7 (A3 s) l) (nL (A3 s) l) l.length i<i∧S7 (A3 s) l (toL (atL l) (S7 (A3 s) l) (nL (A3 s) l) l.length i)=19:=(by intro i hi al;obtain⟨f,hf,hfi,hf19⟩:=B3c F.out hi al;have:toL (atL l) (S7 (A3 s) l) (nL (A3 s) l) l.length i=f:=(by unfold toL;rw[if_pos al,hf];exact Int.toNat_natCast f);rw[this];exact⟨by rw[P i (by unfold Z6;omega),ag.out i hi al,hf],hfi,hf19⟩);have hjx:∀i,i<l.length→Z6 (S7 (A3 s) l i)→∃t,A1Z (atL l) (S7 (A3 s) l) (nL (A3 s) l) l.length i t:=fun i hi h=>⟨_,(Y i hi h).2⟩;have hnn:∀i,i<l.length→S7 (A3 s) l i=19→1≤nL (A3 s) l i∧nL (A3 s) l i≤65535:=fun i hi h=>⟨(hall.out i hi).2 h,B3a _ _ h⟩;replace g:=hd g;replace J:=hd J;replace hj5:=hd hj5;replace P:=hd P;replace Y:=hd Y;replace ae:=hd ae;replace hjx:=hd hjx;replace hnn:=hd hnn;replace T:=hd T;go_wp2_with (fail);refine B3u _ w.heap.size b l.length cap (atL l) (S7 (A3 s) l) (cL (A3 s) l) (toL (atL l) (S7 (A3 s) l) (nL (A3 s) l) l.length) (nL (A3 s) l) To5 (O8 (S7 (A3 s) l)) 0 hln hl0 y cx15 cx25 fx25 J.out ?_ ?_ ?_ hnn.out _ ?_ ?_
           ·intro i hi h;rcases h with h|h|h
            ·exact (Y.out i hi (.inl h)).1
            ·exact (Y.out i hi (.inr h)).1
            ·exact (ae.out i hi h).1
           ·intro i hi h;have:=(Y.out i hi h).2;exact⟨this.2.1,this.2.2.1⟩
           ·intro i hi h;exact⟨(ae.out i hi h).2.1,(ae.out i hi h).2.2⟩
           ·intro X w6 o;replace X:=hd X;replace o:=hd o;go_wp2;refine A6 (H.out (fun bd h=>?_) _ (T.out.trans (o.out.below (z1 _) T.out.size))) rfl;have:=(A6k h hl.out B.out).2.2.2.2;rw[X.out] at this;cases this
           ·intro bd hbd hbd1 hbd2 w6 o cx26 hw6;have V:B5s (w.heap.size+1) s l w.heap.size b cap acc capc To5 bd w6:=by
             refine⟨?_,?_,?_,?_⟩
             ·rw[B.out];obtain⟨w1',hb1',rfl⟩:=hw6;have h5:Blk w5 w.heap.size #[.slice acc k capc,.slice (some ⟨b,0,none⟩) l.length cap,.int .i64 0] 36:=
               (u.out.of_block (c.out.block _ G y)).of_block (g.out.block _ (z3 G c.out.size) y)
              exact (h5.of_block (hb1'.block _ h5.lt)).set 2 _
             ·exact J.out.of_block (o.block b J.out.lt (Ne.symm y))
             ·rw[B.out];exact A4M (A4M (A4M E.out c.out hnc.out) g.out hnc.out) o hnx.out
             ·intro i hi h;rcases h with h|h
              ·exact (Y.out i hi h).1
              ·exact (ae.out i hi h).1
            replace V:=hd V;clear hw6;have ac:A1H s bd:=⟨hh.out,O.out,z.out,l,hl.out,by rw[B.out];exact⟨aj,hall.out,F.out,hjx.out,hbd⟩⟩;replace ac:=hd ac;replace o:=hd o;replace hbd:=hd hbd;by_cases hlong:200000<bd
            ·go_wp2;exact A6 (ah.out bd ac.out hlong _ (T.out.trans (o.out.below (z1 _) T.out.size))) rfl
            ·go_wp2;exact A6 (ai.out bd l ac.out (by omega) hl.out _ _ _ _ _ _ _ (T.out.trans (o.out.below (z1 _) T.out.size)) (z1 _) hbb' V.out) rfl
    ·have hsz2:¬(s.size-(9+k)=256*bt s (7+k)+bt s (8+k)∧256*bt s (7+k)+bt s (8+k)≤8000):=(by intro h;apply z;unfold A5W b16;rw[B.out,e8];exact h);replace z:=hd z;clear e8;go_wp2;go_quiet (fail);go_wp2_with (fail);all_goals first|(exfalso;omega)|exact A6 (H.out (fun bd h=>z.out h.2.2.1) _ (below_drewN K.out _)) rfl
 ·by_cases h9:s.size<9
  ·have d9:decide ((s.size:Int)<9)=true:=(by simp;omega);go_enter Tryz.func52,Tryz.ntmps52;go_wp2;exact A6 (H.out (fun bd h=>hh h.1) _ (Below.refl _ _)) rfl
  ·have d9:decide ((s.size:Int)<9)=false:=(by simp;omega);have i6:6<s.size:=(by omega);have i6':(6:Int)<(s.size:Int):=(by omega);have i6'':(6:Int)≤(s.size:Int):=(by omega);have hb6:=J4 s 6 i6;have hle:=N5 s 6;replace hh:=hd hh;go_enter Tryz.func52,Tryz.ntmps52;go_wp2;all_goals first|exact A6 (H.out (fun bd h=>hh.out h.1) _ (Below.refl _ _)) rfl|(exfalso;exact hh.out ⟨by omega,by assumption,by omega,by omega⟩)
end
end Go.Proofs.YtidhiaaicmfabaaGreatDoor
