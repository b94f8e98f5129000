/- Contracts of the document's own small functions: size, effect, join, place, cells. -/
import Derived.Test.YtidhiaaicmfabaaGreatDoorBase
import Derived.WalkKit
import Derived.WalkSpells
import Derived.WalkLawsBesides
import Derived.Deep.OwnRows
import Derived.BigQuiet
import Derived.Handy
import Derived.Deep.Light
namespace Go.Proofs.YtidhiaaicmfabaaGreatDoor
open Go.RowKit Go.Proofs Go.Deep

set_option maxHeartbeats 400000 in
theorem size_any (w : World) (o : Nat) (R : Ending → World → Prop) (hR : R (.returned (.int .i64 (osz o : Nat))) w) :
    Calls Tryz.prog 143 #[.int .i64 (o : Int)] w R := by
  go_enter Tryz.func143, Tryz.ntmps143
  go_wp2
  all_goals (go_light; refine cast (congrArg (fun v => R (.returned v) w) ?_) hR; simp only [beq_iff_eq, beq_eq_false_iff_ne, ne_eq] at *; simp; unfold osz; (repeat' split) <;> omega)

def popsOf (op : Nat) : Nat := if op = 3 ∨ op = 18 ∨ op = 4 ∨ op = 13 ∨ op = 16 then 1 else if op = 5 ∨ (6 ≤ op ∧ op ≤ 12) ∨ op = 14 ∨ op = 15 ∨ op = 21 then 2 else 0
def pushesOf (op : Nat) : Nat := if op = 1 ∨ op = 2 ∨ op = 4 ∨ op = 13 ∨ op = 16 ∨ (6 ≤ op ∧ op ≤ 12) ∨ op = 14 ∨ op = 15 ∨ op = 21 then 1 else 0

set_option maxHeartbeats 400000 in
theorem effect_any (w : World) (o : Nat) (R : Ending → World → Prop) (hR : R (.returned (.tuple #[.int .i64 (popsOf o : Nat), .int .i64 (pushesOf o : Nat)])) w) :
    Calls Tryz.prog 145 #[.int .i64 (o : Int)] w R := by
  go_enter Tryz.func145, Tryz.ntmps145
  go_wp2
  all_goals
    go_light
    refine cl1 hR ?_
    simp only [beq_iff_eq, beq_eq_false_iff_ne, ne_eq] at *
    have h1 : ∀ a b c d : Int, a = c → b = d → Value.tuple #[.int .i64 a, .int .i64 b] = Value.tuple #[.int .i64 c, .int .i64 d] := by intro a b c d h1 h2; rw [h1, h2]
    refine h1 _ _ _ _ ?_ ?_
    · unfold popsOf; (repeat' split) <;> omega
    · unfold pushesOf; (repeat' split) <;> omega

set_option maxHeartbeats 400000 in
theorem join_any (w : World) (bh bl n : Nat) (i : Nat) (H L : Nat → Int) (h d : Int) (hi : i < n) (_hn : n ≤ 10000) (hne : bh ≠ bl)
    (rh : w.rowIs bh 3 n (fun j => .int .i64 (H j))) (rl : w.rowIs bl 3 n (fun j => .int .i64 (L j)))
    (R : Ending → World → Prop)
    (no : 0 ≤ H i → H i ≠ h → R (.returned (.bool false)) w)
    (yes : ∀ m : Int, m = max (L i) d → (H i < 0 ∨ H i = h) → R (.returned (.bool true)) ((w.setCell ⟨bh, i, none⟩ (.int .i64 h)).setCell ⟨bl, i, none⟩ (.int .i64 m))) :
    Calls Tryz.prog 146 #[.slice (some ⟨bh, 0, none⟩) n n, .slice (some ⟨bl, 0, none⟩) n n, .int .i64 (i : Int), .int .i64 h, .int .i64 d] w R := by
  change Hid _ at no
  change Hid _ at yes
  have ch := rh.cell hi
  have cl := rl.cell hi
  have fh := rh.frozen i
  have fl := rl.frozen i
  have cl2 : ∀ v, (w.setCell ⟨bh, i, none⟩ v).cell? ⟨bl, i, none⟩ = some (.int .i64 (L i)) := fun v => (rl.setOther (a := ⟨bh, i, none⟩) (Ne.symm hne) v).cell hi
  have fl2 : ∀ v, (w.setCell ⟨bh, i, none⟩ v).frozen? ⟨bl, i, none⟩ = false := fun v => (rl.setOther (a := ⟨bh, i, none⟩) (Ne.symm hne) v).frozen i
  clear rh rl
  go_enter Tryz.func146, Tryz.ntmps146
  go_wp2
  · rename_i h1 h2; exact no.out h1 (by simpa using h2)
  all_goals
    go_light
    refine yes.out _ (by omega) ?_
    try simp only [bne_eq_false_iff_eq] at *
    omega

set_option maxHeartbeats 400000 in
theorem place_any (w : World) (b n cap : Nat) (t : Int) (A : Nat → Int) (hn : n ≤ 10000) (hA : ∀ j, j < n → w.cell? ⟨b, j * 6, none⟩ = some (.int .i64 (A j)))
    (R : Ending → World → Prop)
    (hit : ∀ k, k < n → A k = t → (∀ j, j < k → A j ≠ t) → R (.returned (.int .i64 (k : Int))) w)
    (miss : (∀ j, j < n → A j ≠ t) → R (.returned (.int .i64 (-1))) w) :
    Calls Tryz.prog 144 #[.slice (some ⟨b, 0, none⟩) n cap, .int .i64 t] w R := by
  change Hid _ at hA
  change Hid _ at hit
  change Hid _ at miss
  go_enter Tryz.func144, Tryz.ntmps144
  go_wp2
  go_loop [5] (fun i => ∃ k : Nat, k ≤ n ∧ i = .int .i64 k ∧ (∀ j, j < k → A j ≠ t)) (fun i => n - (intOf i).toNat)
  case atStart => exact ⟨0, by omega, rfl, by omega⟩
  case round =>
    obtain ⟨k, hk, rfl, hall⟩ := hrel
    change Hid _ at hall
    by_cases hlt : k < n
    · have hc := hA.out k hlt
      go_wp2
      · rename_i ht _
        exact hit.out k hlt (by simpa using ht) hall.out
      · rename_i ht
        refine ⟨⟨k + 1, by omega, by go_num, fun j hj => ?_⟩, by simp [intOf]; omega⟩
        by_cases e : j = k
        · subst e; simpa using ht
        · exact hall.out j (by omega)
    · go_wp2
      exact miss.out (fun j hj => hall.out j (by omega))

set_option maxHeartbeats 400000 in
theorem cells_other (w : World) (p : Value) (at_ c n to_ in_ : Int) (op : Nat) (h1 : op ≠ 2) (h2 : op ≠ 3) (h3 : op ≠ 4) (h4 : op ≠ 5) (h5 : op ≠ 21)
    (R : Ending → World → Prop)
    (fin : ∀ (b : Bool) w', (b = true ↔ (op = 19 → 1 ≤ n)) → Below w.heap.size w w' → R (.returned (.bool b)) w') :
    Calls Tryz.prog 95 #[p, .agg #[.int .i64 at_, .int .i64 op, .int .i64 c, .int .i64 n, .int .i64 to_, .int .i64 in_]] w R := by
  change Hid _ at fin
  have e1 : ((op : Int) == 2) = false := by simp; omega
  have e2 : ((op : Int) == 3) = false := by simp; omega
  have e3 : ((op : Int) == 4) = false := by simp; omega
  have e4 : ((op : Int) == 5) = false := by simp; omega
  have e5 : ((op : Int) == 21) = false := by simp; omega
  by_cases h : op = 19
  · subst h
    go_enter Tryz.func95, Tryz.ntmps95
    go_wp2
    all_goals
      refine cl1 (fin.out _ _ ?_ (by repeat (first | exact Below.refl _ _ | refine below_drewN ?_ _ | refine Below.drew ?_ | refine Below.alloc ?_ (by simp) _ | refine Below.setCell ?_ (by simp) _))) rfl
      simp
  · have e6 : ((op : Int) == 19) = false := by simp; omega
    go_enter Tryz.func95, Tryz.ntmps95
    go_wp2
    all_goals
      refine cl1 (fin.out _ _ ?_ (by repeat (first | exact Below.refl _ _ | refine below_drewN ?_ _ | refine Below.drew ?_ | refine Below.alloc ?_ (by simp) _ | refine Below.setCell ?_ (by simp) _))) rfl
      simp [h]

theorem stood48 : Tryz.prog.stoodInHeld 111 = false := by kernel_rfl
theorem eqg48 : Tryz.prog.eqGuardType Tryz.prog.depth 111 = false := by kernel_rfl
theorem equal_cell (w : World) (a b c d : Int) : (Op.equalIn 10000 111 (.agg #[.int .i64 a, .int .i64 b]) (.agg #[.int .i64 c, .int .i64 d])).run Tryz.prog w = .ok (a == c && b == d) w := by
  rw [run_equalIn_agg w 9999 111 _ _ (by kernel_rfl) stood48]
  have hf : (Tryz.prog.fieldsOf 111).toList = [⟨"Role", 3, 0, false, "", "", 0⟩, ⟨"Kind", 3, 1, false, "", "", 8⟩] := by kernel_rfl
  rw [hf]
  by_cases h1 : a = c <;> by_cases h2 : b = d <;> simp [go_sem, h1, h2]
def CellOk (rl kd : Nat → Int) (nC op c n : Nat) : Prop :=
  1 ≤ n ∧ c + n ≤ nC ∧ (∀ i, i < n → rl (c + i) = rl c ∧ kd (c + i) = kd c) ∧ ((op = 3 ∨ op = 5) → rl c ≠ 0) ∧ (op = 21 → rl c = 2 ∧ kd c = 2)
theorem below_alloc_drew (w : World) (o : Obj) (n : Nat) : Below w.heap.size w ((w.alloc o).drewN n) :=
  below_drewN (Below.alloc (Below.refl _ _) (Nat.le_refl _) _) n
theorem below_alloc2 (w : World) (o o' : Obj) (n : Nat) : Below w.heap.size w (((w.alloc o).drewN n).alloc o') :=
  (below_alloc_drew w o n).alloc (by simp) _

set_option maxRecDepth 100000 in
set_option maxHeartbeats 1000000 in
theorem cells_in (w : World) (bx bc capc nC : Nat) (rl kd : Nat → Int) (at_ to_ in_ : Int) (op c n : Nat) (ac : Option Addr) (hop : op = 2 ∨ op = 3 ∨ op = 4 ∨ op = 5 ∨ op = 21)
    (hn : n ≤ 255) (hc : c ≤ 255) (hC : nC ≤ 100)
    (hx : w.cell? ⟨bx, 0, none⟩ = some (.slice ac nC capc)) (hac : 0 < nC → ac = some ⟨bc, 0, none⟩)
    (hr : ∀ j, j < nC → w.cell? ⟨bc, j * 2, none⟩ = some (.int .i64 (rl j)))
    (hk : ∀ j, j < nC → w.cell? ⟨bc, j * 2 + 1, none⟩ = some (.int .i64 (kd j)))
    (R : Ending → World → Prop)
    (fin : ∀ (b : Bool) w', (b = true ↔ CellOk rl kd nC op c n) → Below w.heap.size w w' → R (.returned (.bool b)) w') :
    Calls Tryz.prog 95 #[.pointer (some ⟨bx, 0, none⟩), .agg #[.int .i64 at_, .int .i64 op, .int .i64 c, .int .i64 n, .int .i64 to_, .int .i64 in_]] w R := by
  change Hid _ at fin
  change Hid _ at hr
  change Hid _ at hk
  change Hid _ at hac
  have hbx : bx < w.heap.size := World.block_lt_of_cell? w _ hx
  by_cases h1 : 1 ≤ n
  · have d1 : decide ((n:Int) < 1) = false := by simp; omega
    by_cases h2 : c + n ≤ nC
    · have d2 : decide ((nC:Int) < (c:Int) + n) = false := by simp; omega
      have hac' := hac.out (by omega)
      subst hac'
      have hbc : bc < w.heap.size := World.block_lt_of_cell? w _ (hr.out 0 (by omega))
      have hr0 := hr.out c (by omega)
      have hk0 := hk.out c (by omega)
      rcases hop with rfl | rfl | rfl | rfl | rfl
      all_goals
        go_enter Tryz.func95, Tryz.ntmps95
        go_wp2
        go_quiet (fail)
        go_wp2
        go_loopw [5] (fun i wr => ∃ k m : Nat, k ≤ n ∧ i = .int .i64 k ∧ wr = (w.alloc (Obj.cells #[.int .i64 at_, .int .i64 _, .int .i64 c, .int .i64 n, .int .i64 to_, .int .i64 in_] 123)).drewN m ∧ (∀ j, j < k → rl (c + j) = rl c ∧ kd (c + j) = kd c)) (fun i _ => n - (intOf i).toNat)
        case atStart => exact ⟨0, _, by omega, rfl, rfl, by omega⟩
        case round =>
          obtain ⟨k, m, hk1, rfl, rfl, hall⟩ := hrel
          change Hid _ at hall
          by_cases hlt : k < n
          · have hr1 := hr.out (c + k) (by omega)
            have hk2 := hk.out (c + k) (by omega)
            have i1 : (c:Int) + (k:Int) < (nC:Int) := by omega
            have i2 : 0 ≤ (c:Int) + (k:Int) := by omega
            have i3 : ((c:Int) + (k:Int)).toNat = c + k := by omega
            have he := equal_cell
            have hs := stood48
            have hg := eqg48
            go_wp2
            go_quiet (fail)
            go_wp2
            · rename_i ht
              refine cl1 (fin.out _ _ ?_ (by repeat (first | exact Below.refl _ _ | refine below_drewN ?_ _ | refine Below.drew ?_ | refine Below.alloc ?_ (by simp) _ | refine Below.setCell ?_ (by simp) _))) rfl
              simp only [Bool.false_eq_true, false_iff]
              intro h
              have := h.2.2.1 k hlt
              simp [this.1, this.2] at ht
            · rename_i ht
              refine ⟨⟨k + 1, _, by omega, by go_num, rfl, fun j hj => ?_⟩, by simp [intOf]; omega⟩
              by_cases e : j = k
              · subst e; simpa using ht
              · exact hall.out j (by omega)
          · have : k = n := by omega
            subst this
            have h3 := hall.out
            have hiff := fun op => (show CellOk rl kd nC op c k ↔ (((op = 3 ∨ op = 5) → rl c ≠ 0) ∧ (op = 21 → rl c = 2 ∧ kd c = 2)) from ⟨fun h => h.2.2.2, fun h => ⟨h1, h2, h3, h⟩⟩)
            rw [hiff] at fin
            clear h3 hiff hall
            go_wp2
            go_region
            go_wp2
            all_goals
              refine cl1 (fin.out _ _ ?_ (by repeat (first | exact Below.refl _ _ | refine below_drewN ?_ _ | refine Below.drew ?_ | refine Below.alloc ?_ (by simp) _ | refine Below.setCell ?_ (by simp) _))) rfl
              simp
              try simp [*]
    · have d2 : decide ((nC:Int) < (c:Int) + n) = true := by simp; omega
      rcases hop with rfl | rfl | rfl | rfl | rfl
      all_goals
        go_enter Tryz.func95, Tryz.ntmps95
        go_wp2
        go_quiet (fail)
        go_wp2
        exact cl1 (fin.out _ _ (by simp only [Bool.false_eq_true, false_iff]; exact fun h => h2 h.2.1) (by repeat (first | exact Below.refl _ _ | refine below_drewN ?_ _ | refine Below.drew ?_ | refine Below.alloc ?_ (by simp) _ | refine Below.setCell ?_ (by simp) _))) rfl
  · have : n = 0 := by omega
    subst this
    rcases hop with rfl | rfl | rfl | rfl | rfl
    all_goals
      go_enter Tryz.func95, Tryz.ntmps95
      go_wp2
      go_quiet (fail)
      go_wp2
      exact cl1 (fin.out _ _ (by simp only [Bool.false_eq_true, false_iff]; exact fun h => h1 h.1) (by repeat (first | exact Below.refl _ _ | refine below_drewN ?_ _ | refine Below.drew ?_ | refine Below.alloc ?_ (by simp) _ | refine Below.setCell ?_ (by simp) _))) rfl

end Go.Proofs.YtidhiaaicmfabaaGreatDoor
