/- The contracts of the rules on operands. -/
import Derived.Test.YtidhiaaicmfabaaGreatDoorMem
import Derived.Test.YtidhiaaicmfabaaGreatDoorSpec
import Derived.Test.YtidhiaaicmfabaaGreatDoorRefA
import Derived.Test.YtidhiaaicmfabaaGreatDoorRefC
import Derived.Test.YtidhiaaicmfabaaGreatDoorSpec2
import Derived.WalkKit
import Derived.WalkSpells
import Derived.WalkLawsBesides
import Derived.Deep.OwnRows
import Derived.BigQuiet
import Derived.Handy
import Derived.Deep.Light
import Derived.Deep.RegionHeld3
import Derived.Deep.RegionWith
import Derived.Test.YtidhiaaicmfabaaGreatDoorVmA
import Derived.Test.YtidhiaaicmfabaaGreatDoorVmB
import Derived.Test.YtidhiaaicmfabaaGreatDoorVmC
namespace Go.Proofs.YtidhiaaicmfabaaGreatDoor
open Go.RowKit Go.Proofs Go.Deep

def AlikeOk (rl kd : Nat → Nat) (nC c n : Nat) : Prop := 1 ≤ n ∧ c + n ≤ nC ∧ ∀ i, i < n → rl (c + i) = rl c ∧ kd (c + i) = kd c
set_option maxRecDepth 100000 in
set_option maxHeartbeats 1000000 in
theorem alike_any (w : World) (bc capc nC : Nat) (rl kd : Nat → Nat) (sa : Option Addr) (sn sc : Nat) (c n : Nat) (hn : n ≤ 255) (hc : c ≤ 255) (hC : nC ≤ 100)
    (ht : Tab w bc 129 3 nC capc (cellA rl kd)) (R : Ending → World → Prop)
    (fin : ∀ (b : Bool) w', (b = true ↔ AlikeOk rl kd nC c n) → Below w.heap.size w w' → R (.returned (.bool b)) w') :
    Calls Tryz.prog 209 #[.agg #[.slice (some ⟨bc, 0, none⟩) nC capc, .slice sa sn sc], .int .i64 (c : Int), .int .i64 (n : Int)] w R := by
  replace fin := hd fin
  have hcap := ht.le
  have hbc := ht.lt
  by_cases h1 : 1 ≤ n
  · have d1 : decide ((n:Int) < 1) = false := by simp; omega
    by_cases h2 : c + n ≤ nC
    · have d2 : decide ((nC:Int) < (c:Int) + n) = false := by simp; omega
      have j1 : 0 ≤ (c : Int) ∧ (c : Int) ≤ (c : Int) + (n : Int) := by omega
      have j2 : (c : Int) + (n : Int) ≤ (capc : Int) := by omega
      have j3 : ((c : Int) + (n : Int)).toNat - c = n := by omega
      have cr := ht.cell0 (show c < nC by omega) (by omega)
      have ck := ht.cell (show c < nC by omega) (f := 1) (by omega)
      rw [cellA_0] at cr
      rw [cellA_1] at ck
      have jc : (c : Int) < (nC : Int) := by omega
      replace ht := hd ht
      go_enter Tryz.func209, Tryz.ntmps209
      go_wp2
      go_loopw [28] (fun i wr => ∃ k : Nat, k ≤ n ∧ i = .int .i64 k ∧ Below (w.heap.size + 1) (w.alloc (Obj.cells #[.slice (some ⟨bc, 0, none⟩) nC capc, .slice sa sn sc] 115)) wr ∧ (∀ j, j < k → rl (c + j) = rl c ∧ kd (c + j) = kd c)) (fun i _ => n - (intOf i).toNat)
      case atStart => exact ⟨0, by omega, rfl, Below.refl _ _, by omega⟩
      case round =>
        obtain ⟨k, hk, rfl, hbel, hall⟩ := hrel
        have hbw : Below w.heap.size w wr := (Below.alloc (Below.refl _ _) (Nat.le_refl _) _).trans (hbel.mono (by omega))
        have cb : wr.cell? ⟨w.heap.size, 0, none⟩ = some (.slice (some ⟨bc, 0, none⟩) nC capc) := by rw [hbel.cell (by simp)]; simp
        have cr' : wr.cell? ⟨bc, c * 3, none⟩ = some (.int .u8 (rl c : Int)) := by rw [hbw.cell hbc]; exact cr
        have ck' : wr.cell? ⟨bc, c * 3 + 1, none⟩ = some (.int .u8 (kd c : Int)) := by rw [hbw.cell hbc]; exact ck
        have hlt1 : w.heap.size < wr.heap.size := by have := hbel.size; simp at this; omega
        have hlt2 : bc < wr.heap.size := by omega
        replace hall := hd hall
        by_cases hlt : k < n
        · have e3 : c * 3 + k * 3 = (c + k) * 3 := by omega
          have x0 : wr.cell? ⟨bc, c * 3 + k * 3, none⟩ = some (.int .u8 (rl (c + k) : Int)) := by rw [hbw.cell hbc, e3]; exact ht.out.cell0 (by omega) (by omega)
          have x1 : wr.cell? ⟨bc, c * 3 + k * 3 + 1, none⟩ = some (.int .u8 (kd (c + k) : Int)) := by rw [hbw.cell hbc, e3]; exact ht.out.cell (f := 1) (by omega) (by omega)
          have x2 : wr.cell? ⟨bc, c * 3 + k * 3 + 2, none⟩ = some (.int .i32 0) := by rw [hbw.cell hbc, e3]; exact ht.out.cell (f := 2) (by omega) (by omega)
          replace hbel := hd hbel
          replace hbw := hd hbw
          clear e3
          by_cases hr : rl (c + k) = rl c
          · have tr : ((rl (c + k) : Int) != (rl c : Int)) = false := by simp [hr]
            by_cases hkk : kd (c + k) = kd c
            · have tk : ((kd (c + k) : Int) != (kd c : Int)) = false := by simp [hkk]
              replace hr := hd hr
              replace hkk := hd hkk
              go_wp2
              go_quiet (fail)
              go_wp2
              refine ⟨⟨k + 1, by omega, by go_num, below_drewN (hbel.out.alloc (by omega) _) _, fun j hj => ?_⟩, by simp [intOf]; omega⟩
              by_cases e : j = k
              · subst e; exact ⟨hr.out, hkk.out⟩
              · exact hall.out j (by omega)
            · have tk : ((kd (c + k) : Int) != (kd c : Int)) = true := by simp; omega
              replace hr := hd hr
              go_wp2
              go_quiet (fail)
              go_wp2
              refine cl1 (fin.out false _ ?_ (below_drewN (hbw.out.alloc (by omega) _) _)) rfl
              simp only [Bool.false_eq_true, false_iff]
              intro h
              exact hkk (h.2.2 k hlt).2
          · have tr : ((rl (c + k) : Int) != (rl c : Int)) = true := by simp; omega
            go_wp2
            go_quiet (fail)
            go_wp2
            refine cl1 (fin.out false _ ?_ (below_drewN (hbw.out.alloc (by omega) _) _)) rfl
            simp only [Bool.false_eq_true, false_iff]
            intro h
            exact hr (h.2.2 k hlt).1
        · have hkn : k = n := by omega
          subst hkn
          replace hbel := hd hbel
          replace hbw := hd hbw
          go_wp2
          exact cl1 (fin.out true _ (by simp; exact ⟨h1, h2, hall.out⟩) hbw.out) rfl
    · have d2 : decide ((nC:Int) < (c:Int) + n) = true := by simp; omega
      replace ht := hd ht
      go_enter Tryz.func209, Tryz.ntmps209
      go_wp2
      exact cl1 (fin.out false _ (by simp [AlikeOk]; omega) (by repeat (first | with_reducible exact Below.refl _ _ | with_reducible refine below_drewN ?_ _ | with_reducible refine Below.drew ?_ | with_reducible refine Below.alloc ?_ (by simp) _ | with_reducible refine Below.setCell ?_ (by simp) _))) rfl
  · have d1 : decide ((n:Int) < 1) = true := by simp; omega
    replace ht := hd ht
    go_enter Tryz.func209, Tryz.ntmps209
    go_wp2
    exact cl1 (fin.out false _ (by simp [AlikeOk]; omega) (by repeat (first | with_reducible exact Below.refl _ _ | with_reducible refine below_drewN ?_ _ | with_reducible refine Below.drew ?_ | with_reducible refine Below.alloc ?_ (by simp) _ | with_reducible refine Below.setCell ?_ (by simp) _))) rfl
theorem settable_any (w : World) (bc capc nC : Nat) (rl kd : Nat → Nat) (sa : Option Addr) (sn sc : Nat) (c : Nat) (hc : c < nC) (_hC : nC ≤ 100)
    (ht : Tab w bc 129 3 nC capc (cellA rl kd)) (R : Ending → World → Prop)
    (fin : ∀ (b : Bool) w', (b = true ↔ rl c ≠ 0) → Below w.heap.size w w' → R (.returned (.bool b)) w') :
    Calls Tryz.prog 210 #[.agg #[.slice (some ⟨bc, 0, none⟩) nC capc, .slice sa sn sc], .int .i64 (c : Int)] w R := by
  replace fin := hd fin
  have hbc := ht.lt
  have cr := ht.cell0 (show c < nC by omega) (by omega)
  rw [cellA_0] at cr
  have jc : (c : Int) < (nC : Int) := by omega
  replace ht := hd ht
  go_enter Tryz.func210, Tryz.ntmps210
  go_wp2
  exact cl1 (fin.out _ _ (by simp) (by repeat (first | with_reducible exact Below.refl _ _ | with_reducible refine below_drewN ?_ _ | with_reducible refine Below.drew ?_ | with_reducible refine Below.alloc ?_ (by simp) _ | with_reducible refine Below.setCell ?_ (by simp) _))) rfl
theorem keepsTime_any (w : World) (bc capc nC : Nat) (rl kd : Nat → Nat) (sa : Option Addr) (sn sc : Nat) (c : Nat) (hc : c < nC) (_hC : nC ≤ 100)
    (ht : Tab w bc 129 3 nC capc (cellA rl kd)) (R : Ending → World → Prop)
    (fin : ∀ (b : Bool) w', (b = true ↔ (rl c = 2 ∧ kd c = 2)) → Below w.heap.size w w' → R (.returned (.bool b)) w') :
    Calls Tryz.prog 211 #[.agg #[.slice (some ⟨bc, 0, none⟩) nC capc, .slice sa sn sc], .int .i64 (c : Int)] w R := by
  replace fin := hd fin
  have hbc := ht.lt
  have cr := ht.cell0 (show c < nC by omega) (by omega)
  have ck := ht.cell (show c < nC by omega) (f := 1) (by omega)
  rw [cellA_0] at cr
  rw [cellA_1] at ck
  have jc : (c : Int) < (nC : Int) := by omega
  replace ht := hd ht
  by_cases h2 : rl c = 2
  · have t2 : ((rl c : Int) == 2) = true := by simp [h2]
    go_enter Tryz.func211, Tryz.ntmps211
    go_wp2
    exact cl1 (fin.out ((kd c : Int) == 2) _ (by simp [h2]; omega) (by repeat (first | with_reducible exact Below.refl _ _ | with_reducible refine below_drewN ?_ _ | with_reducible refine Below.drew ?_ | with_reducible refine Below.alloc ?_ (by simp) _ | with_reducible refine Below.setCell ?_ (by simp) _))) rfl
  · have t2 : ((rl c : Int) == 2) = false := by simp; omega
    go_enter Tryz.func211, Tryz.ntmps211
    go_wp2
    exact cl1 (fin.out false _ (by simp [h2]) (by repeat (first | with_reducible exact Below.refl _ _ | with_reducible refine below_drewN ?_ _ | with_reducible refine Below.drew ?_ | with_reducible refine Below.alloc ?_ (by simp) _ | with_reducible refine Below.setCell ?_ (by simp) _))) rfl

theorem box_0 (w : World) (a b : Value) (T : Nat) (o : Obj) : ((w.alloc (.cells #[a, b] T)).alloc o).cell? ⟨w.heap.size, 0, none⟩ = some a :=
  (World.cell?_alloc_lt _ _ _ (by simp)).trans ((cell_of_row _ _ 0 _ T (0, 0) (heap_alloc_new w _)).trans rfl)
theorem box_1 (w : World) (a b : Value) (T : Nat) (o : Obj) : ((w.alloc (.cells #[a, b] T)).alloc o).cell? ⟨w.heap.size, 1, none⟩ = some b :=
  (World.cell?_alloc_lt _ _ _ (by simp)).trans ((cell_of_row _ _ 1 _ T (0, 0) (heap_alloc_new w _)).trans rfl)
def OpOk (rl kd : Nat → Nat) (nC op : Nat) (arg cnt : Int) : Prop :=
  ((op = 2 ∨ op = 3 ∨ op = 21) → AlikeOk rl kd nC arg.toNat 1) ∧ ((op = 4 ∨ op = 5) → AlikeOk rl kd nC arg.toNat cnt.toNat) ∧ ((op = 3 ∨ op = 5) → rl arg.toNat ≠ 0) ∧ (op = 21 → rl arg.toNat = 2 ∧ kd arg.toNat = 2) ∧ (op = 19 → 1 ≤ arg)
set_option maxRecDepth 100000 in
set_option maxHeartbeats 2000000 in
theorem operandRight_any (w : World) (bc capc nC : Nat) (rl kd : Nat → Nat) (sa : Option Addr) (sn sc : Nat) (op : Nat) (at_ arg cnt lp to_ : Int) (hC : nC ≤ 100)
    (hb : (op = 2 ∨ op = 3 ∨ op = 21 ∨ op = 4 ∨ op = 5) → 0 ≤ arg ∧ arg ≤ 255) (hb2 : (op = 4 ∨ op = 5) → 0 ≤ cnt ∧ cnt ≤ 255)
    (ht : Tab w bc 129 3 nC capc (cellA rl kd)) (R : Ending → World → Prop)
    (fin : ∀ (b : Bool) w', (b = true ↔ OpOk rl kd nC op arg cnt) → Below w.heap.size w w' → R (.returned (.bool b)) w') :
    Calls Tryz.prog 150 #[.agg #[.slice (some ⟨bc, 0, none⟩) nC capc, .slice sa sn sc], .agg #[.int .u8 (op : Int), .int .i64 at_, .int .i64 arg, .int .i64 cnt, .int .i64 lp, .int .i64 to_]] w R := by
  replace fin := hd fin
  have hbc := ht.lt
  have htA : ∀ o1 o2, Tab ((w.alloc o1).alloc o2) bc 129 3 nC capc (cellA rl kd) := fun o1 o2 => (ht.alloc o1).alloc o2
  replace htA := hd htA
  replace ht := hd ht
  replace hb := hd hb
  replace hb2 := hd hb2
  by_cases h2 : op = 2
  · subst h2
    obtain ⟨ca, hca, hle⟩ : ∃ ca : Nat, arg = (ca : Int) ∧ ca ≤ 255 := ⟨arg.toNat, by have := hb.out (.inl rfl); omega, by have := hb.out (.inl rfl); omega⟩
    subst hca
    go_enter Tryz.func150, Tryz.ntmps150
    go_wp2_with (fail)
    refine alike_any _ bc capc nC rl kd sa sn sc ca 1 (by omega) hle hC (htA.out _ _) _ ?_
    intro b w2 hbb hbel2
    replace hbb := hd hbb
    replace hbel2 := hd hbel2
    go_wp2
    refine cl1 (fin.out b _ ?_ (bel_step (show Below w.heap.size w _ from (by repeat (first | with_reducible exact Below.refl _ _ | with_reducible refine below_drewN ?_ _ | with_reducible refine Below.drew ?_ | with_reducible refine Below.alloc ?_ (by simp) _ | with_reducible refine Below.setCell ?_ (by simp) _))) (Nat.le_refl _) hbel2.out)) rfl
    rw [hbb.out]; simp [OpOk]
  by_cases h3 : op = 3
  · subst h3
    obtain ⟨ca, hca, hle⟩ : ∃ ca : Nat, arg = (ca : Int) ∧ ca ≤ 255 := ⟨arg.toNat, by have := hb.out (by simp); omega, by have := hb.out (by simp); omega⟩
    subst hca
    go_enter Tryz.func150, Tryz.ntmps150
    go_wp2_with (fail)
    refine alike_any _ bc capc nC rl kd sa sn sc ca 1 (by omega) hle hC (htA.out _ _) _ ?_
    intro b w2 hbb hbel2
    have htab2 := htA.out (.cells #[.slice (some ⟨bc, 0, none⟩) nC capc, .slice sa sn sc] 115) (.cells #[.int .u8 3, .int .i64 at_, .int .i64 ca, .int .i64 cnt, .int .i64 lp, .int .i64 to_] 254) |>.of_block (hbel2.block bc (by simp; omega))
    have cb : w2.cell? ⟨w.heap.size, 0, none⟩ = some (.slice (some ⟨bc, 0, none⟩) nC capc) := (hbel2.cell (by simp; omega)).trans (box_0 ..)
    have cb1 : w2.cell? ⟨w.heap.size, 1, none⟩ = some (.slice sa sn sc) := (hbel2.cell (by simp; omega)).trans (box_1 ..)
    have cs2 : w2.cell? ⟨w.heap.size + 1, 2, none⟩ = some (.int .i64 ca) := by rw [hbel2.cell (by simp)]; simp
    have hbw := hd (bel_step (show Below w.heap.size w _ from (by repeat (first | with_reducible exact Below.refl _ _ | with_reducible refine below_drewN ?_ _ | with_reducible refine Below.drew ?_ | with_reducible refine Below.alloc ?_ (by simp) _ | with_reducible refine Below.setCell ?_ (by simp) _))) (Nat.le_refl _) hbel2)
    replace hbel2 := hd hbel2
    replace htab2 := hd htab2
    cases b with
    | false =>
      have hno : ¬ AlikeOk rl kd nC ca 1 := fun h => by have := hbb.2 h; cases this
      replace hno := hd hno
      clear hbb
      go_wp2
      refine cl1 (fin.out false _ ?_ hbw.out) rfl
      simp only [Bool.false_eq_true, false_iff]
      intro h
      exact hno.out (by simpa using h.1 (by simp))
    | true =>
      have hyes := hbb.1 rfl
      have hlt : ca < nC := by have := hyes.1; have := hyes.2.1; omega
      replace hyes := hd hyes
      clear hbb
      go_wp2_with (fail)
      refine settable_any _ bc capc nC rl kd sa sn sc ca hlt hC htab2.out _ ?_
      intro b3 w3 hb3 hbel3
      replace hb3 := hd hb3
      replace hbel3 := hd hbel3
      go_wp2
      refine cl1 (fin.out b3 _ ?_ (bel_step hbw.out (Nat.le_refl _) hbel3.out)) rfl
      rw [hb3.out]
      have := hyes.out
      simp [OpOk, this]
  by_cases h4 : op = 4
  · subst h4
    obtain ⟨ca, hca, hle⟩ : ∃ ca : Nat, arg = (ca : Int) ∧ ca ≤ 255 := ⟨arg.toNat, by have := hb.out (by simp); omega, by have := hb.out (by simp); omega⟩
    subst hca
    obtain ⟨cn, hcn, hle2⟩ : ∃ cn : Nat, cnt = (cn : Int) ∧ cn ≤ 255 := ⟨cnt.toNat, by have := hb2.out (by simp); omega, by have := hb2.out (by simp); omega⟩
    subst hcn
    go_enter Tryz.func150, Tryz.ntmps150
    go_wp2_with (fail)
    refine alike_any _ bc capc nC rl kd sa sn sc ca cn hle2 hle hC (htA.out _ _) _ ?_
    intro b w2 hbb hbel2
    replace hbb := hd hbb
    replace hbel2 := hd hbel2
    go_wp2
    refine cl1 (fin.out b _ ?_ (bel_step (show Below w.heap.size w _ from (by repeat (first | with_reducible exact Below.refl _ _ | with_reducible refine below_drewN ?_ _ | with_reducible refine Below.drew ?_ | with_reducible refine Below.alloc ?_ (by simp) _ | with_reducible refine Below.setCell ?_ (by simp) _))) (Nat.le_refl _) hbel2.out)) rfl
    rw [hbb.out]; simp [OpOk]
  by_cases h5 : op = 5
  · subst h5
    obtain ⟨ca, hca, hle⟩ : ∃ ca : Nat, arg = (ca : Int) ∧ ca ≤ 255 := ⟨arg.toNat, by have := hb.out (by simp); omega, by have := hb.out (by simp); omega⟩
    subst hca
    obtain ⟨cn, hcn, hle2⟩ : ∃ cn : Nat, cnt = (cn : Int) ∧ cn ≤ 255 := ⟨cnt.toNat, by have := hb2.out (by simp); omega, by have := hb2.out (by simp); omega⟩
    subst hcn
    go_enter Tryz.func150, Tryz.ntmps150
    go_wp2_with (fail)
    refine alike_any _ bc capc nC rl kd sa sn sc ca cn hle2 hle hC (htA.out _ _) _ ?_
    intro b w2 hbb hbel2
    have htab2 := htA.out (.cells #[.slice (some ⟨bc, 0, none⟩) nC capc, .slice sa sn sc] 115) (.cells #[.int .u8 5, .int .i64 at_, .int .i64 ca, .int .i64 cn, .int .i64 lp, .int .i64 to_] 254) |>.of_block (hbel2.block bc (by simp; omega))
    have cb : w2.cell? ⟨w.heap.size, 0, none⟩ = some (.slice (some ⟨bc, 0, none⟩) nC capc) := (hbel2.cell (by simp; omega)).trans (box_0 ..)
    have cb1 : w2.cell? ⟨w.heap.size, 1, none⟩ = some (.slice sa sn sc) := (hbel2.cell (by simp; omega)).trans (box_1 ..)
    have cs2 : w2.cell? ⟨w.heap.size + 1, 2, none⟩ = some (.int .i64 ca) := by rw [hbel2.cell (by simp)]; simp
    have hbw := hd (bel_step (show Below w.heap.size w _ from (by repeat (first | with_reducible exact Below.refl _ _ | with_reducible refine below_drewN ?_ _ | with_reducible refine Below.drew ?_ | with_reducible refine Below.alloc ?_ (by simp) _ | with_reducible refine Below.setCell ?_ (by simp) _))) (Nat.le_refl _) hbel2)
    replace hbel2 := hd hbel2
    replace htab2 := hd htab2
    cases b with
    | false =>
      have hno : ¬ AlikeOk rl kd nC ca cn := fun h => by have := hbb.2 h; cases this
      replace hno := hd hno
      clear hbb
      go_wp2
      refine cl1 (fin.out false _ ?_ hbw.out) rfl
      simp only [Bool.false_eq_true, false_iff]
      intro h
      exact hno.out (by simpa using h.2.1 (by simp))
    | true =>
      have hyes := hbb.1 rfl
      have hlt : ca < nC := by have := hyes.1; have := hyes.2.1; omega
      replace hyes := hd hyes
      clear hbb
      go_wp2_with (fail)
      refine settable_any _ bc capc nC rl kd sa sn sc ca hlt hC htab2.out _ ?_
      intro b3 w3 hb3 hbel3
      replace hb3 := hd hb3
      replace hbel3 := hd hbel3
      go_wp2
      refine cl1 (fin.out b3 _ ?_ (bel_step hbw.out (Nat.le_refl _) hbel3.out)) rfl
      rw [hb3.out]
      have := hyes.out
      simp [OpOk, this]
  by_cases h21 : op = 21
  · subst h21
    obtain ⟨ca, hca, hle⟩ : ∃ ca : Nat, arg = (ca : Int) ∧ ca ≤ 255 := ⟨arg.toNat, by have := hb.out (by simp); omega, by have := hb.out (by simp); omega⟩
    subst hca
    go_enter Tryz.func150, Tryz.ntmps150
    go_wp2_with (fail)
    refine alike_any _ bc capc nC rl kd sa sn sc ca 1 (by omega) hle hC (htA.out _ _) _ ?_
    intro b w2 hbb hbel2
    have htab2 := htA.out (.cells #[.slice (some ⟨bc, 0, none⟩) nC capc, .slice sa sn sc] 115) (.cells #[.int .u8 21, .int .i64 at_, .int .i64 ca, .int .i64 cnt, .int .i64 lp, .int .i64 to_] 254) |>.of_block (hbel2.block bc (by simp; omega))
    have cb : w2.cell? ⟨w.heap.size, 0, none⟩ = some (.slice (some ⟨bc, 0, none⟩) nC capc) := (hbel2.cell (by simp; omega)).trans (box_0 ..)
    have cb1 : w2.cell? ⟨w.heap.size, 1, none⟩ = some (.slice sa sn sc) := (hbel2.cell (by simp; omega)).trans (box_1 ..)
    have cs2 : w2.cell? ⟨w.heap.size + 1, 2, none⟩ = some (.int .i64 ca) := by rw [hbel2.cell (by simp)]; simp
    have hbw := hd (bel_step (show Below w.heap.size w _ from (by repeat (first | with_reducible exact Below.refl _ _ | with_reducible refine below_drewN ?_ _ | with_reducible refine Below.drew ?_ | with_reducible refine Below.alloc ?_ (by simp) _ | with_reducible refine Below.setCell ?_ (by simp) _))) (Nat.le_refl _) hbel2)
    replace hbel2 := hd hbel2
    replace htab2 := hd htab2
    cases b with
    | false =>
      have hno : ¬ AlikeOk rl kd nC ca 1 := fun h => by have := hbb.2 h; cases this
      replace hno := hd hno
      clear hbb
      go_wp2
      refine cl1 (fin.out false _ ?_ hbw.out) rfl
      simp only [Bool.false_eq_true, false_iff]
      intro h
      exact hno.out (by simpa using h.1 (by simp))
    | true =>
      have hyes := hbb.1 rfl
      have hlt : ca < nC := by have := hyes.1; have := hyes.2.1; omega
      replace hyes := hd hyes
      clear hbb
      go_wp2_with (fail)
      refine keepsTime_any _ bc capc nC rl kd sa sn sc ca hlt hC htab2.out _ ?_
      intro b3 w3 hb3 hbel3
      replace hb3 := hd hb3
      replace hbel3 := hd hbel3
      go_wp2
      refine cl1 (fin.out b3 _ ?_ (bel_step hbw.out (Nat.le_refl _) hbel3.out)) rfl
      rw [hb3.out]
      have := hyes.out
      simp [OpOk, this]
  have t2 : ((op : Int) == 2) = false := by simp; omega
  have t3 : ((op : Int) == 3) = false := by simp; omega
  have t4 : ((op : Int) == 4) = false := by simp; omega
  have t5 : ((op : Int) == 5) = false := by simp; omega
  have t21 : ((op : Int) == 21) = false := by simp; omega
  by_cases h19 : op = 19
  · subst h19
    go_enter Tryz.func150, Tryz.ntmps150
    go_wp2
    refine cl1 (fin.out (decide (1 ≤ arg)) _ ?_ (by repeat (first | with_reducible exact Below.refl _ _ | with_reducible refine below_drewN ?_ _ | with_reducible refine Below.drew ?_ | with_reducible refine Below.alloc ?_ (by simp) _ | with_reducible refine Below.setCell ?_ (by simp) _))) rfl
    simp [OpOk]
  · have t19 : ((op : Int) == 19) = false := by simp; omega
    go_enter Tryz.func150, Tryz.ntmps150
    go_wp2
    refine cl1 (fin.out true _ ?_ (by repeat (first | with_reducible exact Below.refl _ _ | with_reducible refine below_drewN ?_ _ | with_reducible refine Below.drew ?_ | with_reducible refine Below.alloc ?_ (by simp) _ | with_reducible refine Below.setCell ?_ (by simp) _))) rfl
    simp [OpOk, h2, h3, h4, h5, h21, h19]

theorem Tab.below {w w' : World} {b T sz n cap : Nat} {A : Nat → Nat → Value} (h : Tab w b T sz n cap A) (hb : Below w.heap.size w w') : Tab w' b T sz n cap A := h.of_block (hb.block b h.lt)
def stepA (op at_ : Nat → Nat) (arg cnt lp to_ : Nat → Int) (i f : Nat) : Value :=
  if f = 0 then .int .u8 (op i : Int) else if f = 1 then .int .i64 (at_ i : Int) else if f = 2 then .int .i64 (arg i) else if f = 3 then .int .i64 (cnt i) else if f = 4 then .int .i64 (lp i) else .int .i64 (to_ i)
section
variable {op at_ : Nat → Nat} {arg cnt lp to_ : Nat → Int} {i : Nat}
theorem stepA_0 : stepA op at_ arg cnt lp to_ i 0 = .int .u8 (op i : Int) := rfl
theorem stepA_1 : stepA op at_ arg cnt lp to_ i 1 = .int .i64 (at_ i : Int) := rfl
theorem stepA_2 : stepA op at_ arg cnt lp to_ i 2 = .int .i64 (arg i) := rfl
theorem stepA_3 : stepA op at_ arg cnt lp to_ i 3 = .int .i64 (cnt i) := rfl
theorem stepA_4 : stepA op at_ arg cnt lp to_ i 4 = .int .i64 (lp i) := rfl
theorem stepA_5 : stepA op at_ arg cnt lp to_ i 5 = .int .i64 (to_ i) := rfl
end
/-- The six cells of a step. -/
theorem Tab.six {w : World} {b T n cap : Nat} {op at_ : Nat → Nat} {arg cnt lp to_ : Nat → Int} (h : Tab w b T 6 n cap (stepA op at_ arg cnt lp to_)) {i : Nat} (hi : i < n) :
    w.cell? ⟨b, i * 6, none⟩ = some (.int .u8 (op i : Int)) ∧ w.cell? ⟨b, i * 6 + 1, none⟩ = some (.int .i64 (at_ i : Int)) ∧ w.cell? ⟨b, i * 6 + 2, none⟩ = some (.int .i64 (arg i)) ∧
    w.cell? ⟨b, i * 6 + 3, none⟩ = some (.int .i64 (cnt i)) ∧ w.cell? ⟨b, i * 6 + 4, none⟩ = some (.int .i64 (lp i)) ∧ w.cell? ⟨b, i * 6 + 5, none⟩ = some (.int .i64 (to_ i)) :=
  ⟨h.cell0 hi (by omega), h.cell hi (f := 1) (by omega), h.cell hi (f := 2) (by omega), h.cell hi (f := 3) (by omega), h.cell hi (f := 4) (by omega), h.cell hi (f := 5) (by omega)⟩
set_option maxRecDepth 100000 in
set_option maxHeartbeats 2000000 in
theorem operandsRight_any (w : World) (bc capc nC bs n cap : Nat) (rl kd : Nat → Nat) (sa : Option Addr) (op at_ : Nat → Nat) (arg cnt lp to_ : Nat → Int) (hC : nC ≤ 100) (hn : n ≤ 8000)
    (hb : ∀ i, i < n → (op i = 2 ∨ op i = 3 ∨ op i = 21 ∨ op i = 4 ∨ op i = 5) → 0 ≤ arg i ∧ arg i ≤ 255) (hb2 : ∀ i, i < n → (op i = 4 ∨ op i = 5) → 0 ≤ cnt i ∧ cnt i ≤ 255)
    (ht : Tab w bc 129 3 nC capc (cellA rl kd)) (hsa : 0 < n → sa = some ⟨bs, 0, none⟩ ∧ Tab w bs 254 6 n cap (stepA op at_ arg cnt lp to_)) (R : Ending → World → Prop)
    (fin : ∀ (b : Bool) w', (b = true ↔ ∀ i, i < n → OpOk rl kd nC (op i) (arg i) (cnt i)) → Below w.heap.size w w' → R (.returned (.bool b)) w') :
    Calls Tryz.prog 104 #[.agg #[.slice (some ⟨bc, 0, none⟩) nC capc, .slice sa n cap]] w R := by
  replace fin := hd fin
  have hbc := ht.lt
  replace ht := hd ht
  replace hb := hd hb
  replace hb2 := hd hb2
  replace hsa := hd hsa
  go_enter Tryz.func104, Tryz.ntmps104
  go_wp2
  go_loopw [8] (fun i wr => ∃ k : Nat, k ≤ n ∧ i = .int .i64 k ∧ Below (w.heap.size + 1) (w.alloc (Obj.cells #[.slice (some ⟨bc, 0, none⟩) nC capc, .slice sa n cap] 115)) wr ∧ (∀ j, j < k → OpOk rl kd nC (op j) (arg j) (cnt j))) (fun i _ => n - (intOf i).toNat)
  case atStart => exact ⟨0, by omega, rfl, Below.refl _ _, by omega⟩
  case round =>
    obtain ⟨k, hk, rfl, hbel, hall⟩ := hrel
    have hbw : Below w.heap.size w wr := (Below.alloc (Below.refl _ _) (Nat.le_refl _) _).trans (hbel.mono (by omega))
    have cb : wr.cell? ⟨w.heap.size, 0, none⟩ = some (.slice (some ⟨bc, 0, none⟩) nC capc) := by rw [hbel.cell (by simp)]; simp
    have cb1 : wr.cell? ⟨w.heap.size, 1, none⟩ = some (.slice sa n cap) := by rw [hbel.cell (by simp)]; simp
    have hlt1 : w.heap.size < wr.heap.size := by have := hbel.size; simp at this; omega
    replace hall := hd hall
    by_cases hlt : k < n
    · obtain ⟨hsa1, hts⟩ := hsa.out (by omega)
      subst hsa1
      obtain ⟨x0, x1, x2, x3, x4, x5⟩ := (hts.below hbw).six hlt
      have htc := hd (fun o => (ht.out.below hbw).alloc o)
      replace hbel := hd hbel
      replace hbw := hd hbw
      replace hts := hd hts
      go_wp2_with (fail)
      refine operandRight_any _ bc capc nC rl kd _ n cap (op k) _ (arg k) (cnt k) _ _ hC (hb.out k hlt) (hb2.out k hlt) (htc.out _) _ ?_
      intro b w2 hbb hbel2
      replace hbel2 := hd hbel2
      cases b with
      | false =>
        have hno := hd (show ¬ OpOk rl kd nC (op k) (arg k) (cnt k) from fun h => by have := hbb.2 h; cases this)
        clear hbb
        go_wp2
        refine cl1 (fin.out false _ ?_ (bel_step (hbw.out.alloc (by omega) _) (Nat.le_trans (Nat.le_refl _) (Nat.le_refl _)) hbel2.out)) rfl
        simp only [Bool.false_eq_true, false_iff]
        intro h
        exact hno.out (h k hlt)
      | true =>
        have hyes := hd (hbb.1 rfl)
        clear hbb
        go_wp2
        refine ⟨⟨k + 1, by omega, by go_num, hbel.out.trans (((Below.alloc (Below.refl _ _) (by omega) _).trans (hbel2.out.mono (by simp; omega)))), fun j hj => ?_⟩, by simp [intOf]; omega⟩
        by_cases e : j = k
        · subst e; exact hyes.out
        · exact hall.out j (by omega)
    · have hkn : k = n := by omega
      subst hkn
      replace hbel := hd hbel
      replace hbw := hd hbw
      go_wp2
      exact cl1 (fin.out true _ (by simp; exact hall.out) hbw.out) rfl

end Go.Proofs.YtidhiaaicmfabaaGreatDoor
