/- The contract of settle. -/
import Derived.Test.YtidhiaaicmfabaaGreatDoorMem
import Derived.Test.YtidhiaaicmfabaaGreatDoorSpec
import Derived.Test.YtidhiaaicmfabaaGreatDoorRefA
import Derived.Test.YtidhiaaicmfabaaGreatDoorRefC
import Derived.Test.YtidhiaaicmfabaaGreatDoorSpec2
import Derived.WalkKit
import Derived.WalkSpells
import Derived.WalkLawsBesides
import Derived.Deep.OwnRows
import Derived.BigQuiet
import Derived.Handy
import Derived.Deep.Light
import Derived.Deep.RegionHeld3
import Derived.Deep.RegionWith
import Derived.Test.YtidhiaaicmfabaaGreatDoorVmA
import Derived.Test.YtidhiaaicmfabaaGreatDoorVmB
import Derived.Test.YtidhiaaicmfabaaGreatDoorVmC
import Derived.Test.YtidhiaaicmfabaaGreatDoorVmD
import Derived.Test.YtidhiaaicmfabaaGreatDoorVmE
import Derived.Test.YtidhiaaicmfabaaGreatDoorVmF
namespace Go.Proofs.YtidhiaaicmfabaaGreatDoor
open Go.RowKit Go.Proofs Go.Deep

/-- All rules that need no way through the steps. -/
def SetOk (rl kd : Nat → Nat) (nC n : Nat) (op at_ : Nat → Nat) (arg cnt : Nat → Int) : Prop :=
  (∀ i, i < n → OpOk rl kd nC (op i) (arg i) (cnt i)) ∧ EndsOk op n ∧ stk op n = some [] ∧ ∀ i, i < n → isJump (op i) → ∃ t, JumpOk at_ op arg n i t
set_option maxRecDepth 100000 in
set_option maxHeartbeats 2000000 in
theorem settle_any (w : World) (bc capc nC bs n cap : Nat) (rl kd : Nat → Nat) (sa : Option Addr) (op at_ : Nat → Nat) (arg cnt lp to_ : Nat → Int) (hC : nC ≤ 100) (hn : n ≤ 8000) (hmono : ∀ i j, i < j → j < n → at_ i < at_ j)
    (hb : ∀ i, i < n → (op i = 2 ∨ op i = 3 ∨ op i = 21 ∨ op i = 4 ∨ op i = 5) → 0 ≤ arg i ∧ arg i ≤ 255) (hb2 : ∀ i, i < n → (op i = 4 ∨ op i = 5) → 0 ≤ cnt i ∧ cnt i ≤ 255)
    (ht : Tab w bc 129 3 nC capc (cellA rl kd)) (hsa : 0 < n → sa = some ⟨bs, 0, none⟩ ∧ Tab w bs 254 6 n cap (stepA op at_ arg cnt lp to_)) (R : Ending → World → Prop)
    (no : ¬ SetOk rl kd nC n op at_ arg cnt → ∀ w', Only bs w w' → R (.returned (.bool false)) w')
    (yes : SetOk rl kd nC n op at_ arg cnt → ∀ To' : Nat → Int, (∀ i, i < n → isJump (op i) → ∃ t : Nat, To' i = (t : Int) ∧ JumpOk at_ op arg n i t) → ∀ w', Only bs w w' → Tab w' bs 254 6 n cap (stepA op at_ arg cnt (inOf op) To') → R (.returned (.bool true)) w') :
    Calls Tryz.prog 57 #[.agg #[.slice (some ⟨bc, 0, none⟩) nC capc, .slice sa n cap]] w R := by
  replace no := hd no
  replace yes := hd yes
  replace hmono := hd hmono
  have hbsz : 0 < n → bs < w.heap.size := fun h => (hsa h).2.lt
  replace hsa := hd hsa
  replace hbsz := hd hbsz
  replace hb := hd hb
  replace hb2 := hd hb2
  replace ht := hd ht
  go_enter Tryz.func57, Tryz.ntmps57
  go_wp2_with (fail)
  refine operandsRight_any _ bc capc nC bs n cap rl kd sa op at_ arg cnt lp to_ hC hn hb.out hb2.out (ht.out.alloc _) (fun h => ⟨(hsa.out h).1, (hsa.out h).2.alloc _⟩) _ ?_
  intro b1 w1 hb1 hbel1
  have hz1 : w1.heap[w.heap.size]? = some (.cells #[.slice (some ⟨bc, 0, none⟩) nC capc, .slice sa n cap] 115 (0, 0)) := (hbel1.block _ (by simp)).trans (heap_alloc_new w _)
  have hbw1 := bel_step (show Below w.heap.size w _ from (by repeat (first | with_reducible exact Below.refl _ _ | with_reducible refine below_drewN ?_ _ | with_reducible refine Below.drew ?_ | with_reducible refine Below.alloc ?_ (by simp) _ | with_reducible refine Below.setCell ?_ (by simp) _))) (Nat.le_refl _) hbel1
  have c1 : w1.cell? ⟨w.heap.size, 1, none⟩ = some (.slice sa n cap) := (cell_of_row _ _ 1 _ _ (0, 0) hz1).trans rfl
  have hlt1 : w.heap.size < w1.heap.size := (Array.getElem?_eq_some_iff.1 hz1).1
  have ht1 := hd (fun h => (⟨(hsa.out h).1, (hsa.out h).2.below hbw1⟩ : sa = some ⟨bs, 0, none⟩ ∧ Tab w1 bs 254 6 n cap (stepA op at_ arg cnt lp to_)))
  replace hbw1 := hd hbw1
  replace hz1 := hd hz1
  replace hbel1 := hd hbel1
  cases b1 with
  | false =>
    have hno := hd (show ¬ SetOk rl kd nC n op at_ arg cnt from fun h => by have := hb1.2 h.1; cases this)
    clear hb1
    go_wp2
    exact cl1 (no.out hno.out _ (Only.of_below hbw1.out)) rfl
  | true =>
    have hok1 := hd (hb1.1 rfl)
    clear hb1
    go_wp2_with (fail)
    refine endsOnce_any _ bs n cap sa op at_ arg cnt lp to_ hn ht1.out _ ?_
    intro b2 w2 hbb2 hbel2
    have hbw2 := bel_step hbw1.out (Nat.le_refl _) hbel2
    have c2 : w2.cell? ⟨w.heap.size, 1, none⟩ = some (.slice sa n cap) := (hbel2.cell (p := ⟨w.heap.size, 1, none⟩) hlt1).trans c1
    have hlt2 : w.heap.size < w2.heap.size := Nat.lt_of_lt_of_le hlt1 hbel2.size
    have ht2 := hd (fun h => (hsa.out h).2.below hbw2)
    replace hbw2 := hd hbw2
    replace hbel2 := hd hbel2
    cases b2 with
    | false =>
      have hno := hd (show ¬ SetOk rl kd nC n op at_ arg cnt from fun h => by have := hbb2.2 h.2.1; cases this)
      clear hbb2
      go_wp2
      exact cl1 (no.out hno.out _ (Only.of_below hbw2.out)) rfl
    | true =>
      have hends := hbb2.1 rfl
      have hn0 := hends.1
      have hsa0 := (hsa.out hn0).1
      subst hsa0
      replace hends := hd hends
      have hbs2 := hbsz.out hn0
      have hne : w.heap.size ≠ bs := by omega
      clear hbb2
      go_wp2_with (fail)
      refine nestLoops_any _ bs n cap op at_ arg cnt lp to_ hn (ht2.out hn0) _ ?_ ?_
      · intro hst w3 ho3
        have hno := hd (show ¬ SetOk rl kd nC n op at_ arg cnt from fun h => hst h.2.2.1)
        have ho := hd ((Only.of_below (b := bs) hbw2.out).trans ho3)
        clear hst ho3
        go_wp2
        exact cl1 (no.out hno.out _ ho.out) rfl
      · intro hst w3 ho3 ht3
        have c3 : w3.cell? ⟨w.heap.size, 1, none⟩ = some (.slice (some ⟨bs, 0, none⟩) n cap) := (ho3.cell (p := ⟨w.heap.size, 1, none⟩) hlt2 hne).trans c2
        have ho := hd ((Only.of_below (b := bs) hbw2.out).trans ho3)
        replace hst := hd hst
        replace ho3 := hd ho3
        replace ht3 := hd ht3
        go_wp2_with (fail)
        refine aimJumps_any _ bs n cap op at_ arg cnt to_ hn hmono.out ht3.out _ ?_ ?_
        · intro hj w4 ho4
          have hno := hd (show ¬ SetOk rl kd nC n op at_ arg cnt from fun h => by
            obtain ⟨i, hi, h1, h2⟩ := hj
            obtain ⟨t, ht⟩ := h.2.2.2 i hi h1
            exact h2 t ht)
          have ho5 := hd (ho.out.trans ho4)
          clear hj ho4
          go_wp2
          exact cl1 (no.out hno.out _ ho5.out) rfl
        · intro To' hj w4 ho4 ht4
          have hyes := hd (show SetOk rl kd nC n op at_ arg cnt from ⟨hok1.out, hends.out, hst.out, fun i hi h1 => by obtain ⟨t, _, ht⟩ := hj i hi h1; exact ⟨t, ht⟩⟩)
          have ho5 := hd (ho.out.trans ho4)
          replace hj := hd hj
          replace ho4 := hd ho4
          replace ht4 := hd ht4
          go_wp2
          exact cl1 (yes.out hyes.out To' hj.out _ ho5.out ht4.out) rfl

end Go.Proofs.YtidhiaaicmfabaaGreatDoor
