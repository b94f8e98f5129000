/- The document's small functions; the walk in plain functions. -/
import Derived.Test.YtidhiaaicmfabaaGreatDoorKaA
import Derived.WalkKit
import Derived.WalkSpells
import Derived.WalkLawsBesides
import Derived.Deep.OwnRows
import Derived.BigQuiet
import Derived.Handy
import Derived.Deep.Light

/- Contracts of the document's own small functions: size, effect, join, place, cells. -/
namespace Go.Proofs.YtidhiaaicmfabaaGreatDoor
open Go.RowKit Go.Proofs Go.Deep

set_option maxHeartbeats 400000 in
theorem size_any (w : World) (o : Nat) (R : Ending → World → Prop) (hR : R (.returned (.int .i64 (osz o : Nat))) w) :
    Calls Tryz.prog 143 #[.int .i64 (o : Int)] w R := by
  go_enter Tryz.func143, Tryz.ntmps143
  go_wp2
  all_goals (go_light; refine cast (congrArg (fun v => R (.returned v) w) ?_) hR; simp only [beq_iff_eq, beq_eq_false_iff_ne, ne_eq] at *; simp; unfold osz; (repeat' split) <;> omega)

def popsOf (op : Nat) : Nat := if op = 3 ∨ op = 18 ∨ op = 4 ∨ op = 13 ∨ op = 16 then 1 else if op = 5 ∨ (6 ≤ op ∧ op ≤ 12) ∨ op = 14 ∨ op = 15 ∨ op = 21 then 2 else 0
def pushesOf (op : Nat) : Nat := if op = 1 ∨ op = 2 ∨ op = 4 ∨ op = 13 ∨ op = 16 ∨ (6 ≤ op ∧ op ≤ 12) ∨ op = 14 ∨ op = 15 ∨ op = 21 then 1 else 0

set_option maxHeartbeats 400000 in
theorem effect_any (w : World) (o : Nat) (R : Ending → World → Prop) (hR : R (.returned (.tuple #[.int .i64 (popsOf o : Nat), .int .i64 (pushesOf o : Nat)])) w) :
    Calls Tryz.prog 145 #[.int .i64 (o : Int)] w R := by
  go_enter Tryz.func145, Tryz.ntmps145
  go_wp2
  all_goals
    go_light
    refine cl1 hR ?_
    simp only [beq_iff_eq, beq_eq_false_iff_ne, ne_eq] at *
    have h1 : ∀ a b c d : Int, a = c → b = d → Value.tuple #[.int .i64 a, .int .i64 b] = Value.tuple #[.int .i64 c, .int .i64 d] := by intro a b c d h1 h2; rw [h1, h2]
    refine h1 _ _ _ _ ?_ ?_
    · unfold popsOf; (repeat' split) <;> omega
    · unfold pushesOf; (repeat' split) <;> omega

set_option maxHeartbeats 400000 in
theorem join_any (w : World) (bh bl n : Nat) (i : Nat) (H L : Nat → Int) (h d : Int) (hi : i < n) (_hn : n ≤ 10000) (hne : bh ≠ bl)
    (rh : w.rowIs bh 3 n (fun j => .int .i64 (H j))) (rl : w.rowIs bl 3 n (fun j => .int .i64 (L j)))
    (R : Ending → World → Prop)
    (no : 0 ≤ H i → H i ≠ h → R (.returned (.bool false)) w)
    (yes : ∀ m : Int, m = max (L i) d → (H i < 0 ∨ H i = h) → R (.returned (.bool true)) ((w.setCell ⟨bh, i, none⟩ (.int .i64 h)).setCell ⟨bl, i, none⟩ (.int .i64 m))) :
    Calls Tryz.prog 146 #[.slice (some ⟨bh, 0, none⟩) n n, .slice (some ⟨bl, 0, none⟩) n n, .int .i64 (i : Int), .int .i64 h, .int .i64 d] w R := by
  change Hid _ at no
  change Hid _ at yes
  have ch := rh.cell hi
  have cl := rl.cell hi
  have fh := rh.frozen i
  have fl := rl.frozen i
  have cl2 : ∀ v, (w.setCell ⟨bh, i, none⟩ v).cell? ⟨bl, i, none⟩ = some (.int .i64 (L i)) := fun v => (rl.setOther (a := ⟨bh, i, none⟩) (Ne.symm hne) v).cell hi
  have fl2 : ∀ v, (w.setCell ⟨bh, i, none⟩ v).frozen? ⟨bl, i, none⟩ = false := fun v => (rl.setOther (a := ⟨bh, i, none⟩) (Ne.symm hne) v).frozen i
  clear rh rl
  go_enter Tryz.func146, Tryz.ntmps146
  go_wp2
  · rename_i h1 h2; exact no.out h1 (by simpa using h2)
  all_goals
    go_light
    refine yes.out _ (by omega) ?_
    try simp only [bne_eq_false_iff_eq] at *
    omega

set_option maxHeartbeats 400000 in
theorem place_any (w : World) (b n cap : Nat) (t : Int) (A : Nat → Int) (hn : n ≤ 10000) (hA : ∀ j, j < n → w.cell? ⟨b, j * 6, none⟩ = some (.int .i64 (A j)))
    (R : Ending → World → Prop)
    (hit : ∀ k, k < n → A k = t → (∀ j, j < k → A j ≠ t) → R (.returned (.int .i64 (k : Int))) w)
    (miss : (∀ j, j < n → A j ≠ t) → R (.returned (.int .i64 (-1))) w) :
    Calls Tryz.prog 144 #[.slice (some ⟨b, 0, none⟩) n cap, .int .i64 t] w R := by
  change Hid _ at hA
  change Hid _ at hit
  change Hid _ at miss
  go_enter Tryz.func144, Tryz.ntmps144
  go_wp2
  go_loop [5] (fun i => ∃ k : Nat, k ≤ n ∧ i = .int .i64 k ∧ (∀ j, j < k → A j ≠ t)) (fun i => n - (intOf i).toNat)
  case atStart => exact ⟨0, by omega, rfl, by omega⟩
  case round =>
    obtain ⟨k, hk, rfl, hall⟩ := hrel
    change Hid _ at hall
    by_cases hlt : k < n
    · have hc := hA.out k hlt
      go_wp2
      · rename_i ht _
        exact hit.out k hlt (by simpa using ht) hall.out
      · rename_i ht
        refine ⟨⟨k + 1, by omega, by go_num, fun j hj => ?_⟩, by simp [intOf]; omega⟩
        by_cases e : j = k
        · subst e; simpa using ht
        · exact hall.out j (by omega)
    · go_wp2
      exact miss.out (fun j hj => hall.out j (by omega))

set_option maxHeartbeats 400000 in
theorem cells_other (w : World) (p : Value) (at_ c n to_ in_ : Int) (op : Nat) (h1 : op ≠ 2) (h2 : op ≠ 3) (h3 : op ≠ 4) (h4 : op ≠ 5) (h5 : op ≠ 21)
    (R : Ending → World → Prop)
    (fin : ∀ (b : Bool) w', (b = true ↔ (op = 19 → 1 ≤ n)) → Below w.heap.size w w' → R (.returned (.bool b)) w') :
    Calls Tryz.prog 95 #[p, .agg #[.int .i64 at_, .int .i64 op, .int .i64 c, .int .i64 n, .int .i64 to_, .int .i64 in_]] w R := by
  change Hid _ at fin
  have e1 : ((op : Int) == 2) = false := by simp; omega
  have e2 : ((op : Int) == 3) = false := by simp; omega
  have e3 : ((op : Int) == 4) = false := by simp; omega
  have e4 : ((op : Int) == 5) = false := by simp; omega
  have e5 : ((op : Int) == 21) = false := by simp; omega
  by_cases h : op = 19
  · subst h
    go_enter Tryz.func95, Tryz.ntmps95
    go_wp2
    all_goals
      refine cl1 (fin.out _ _ ?_ (by repeat (first | exact Below.refl _ _ | refine below_drewN ?_ _ | refine Below.drew ?_ | refine Below.alloc ?_ (by simp) _ | refine Below.setCell ?_ (by simp) _))) rfl
      simp
  · have e6 : ((op : Int) == 19) = false := by simp; omega
    go_enter Tryz.func95, Tryz.ntmps95
    go_wp2
    all_goals
      refine cl1 (fin.out _ _ ?_ (by repeat (first | exact Below.refl _ _ | refine below_drewN ?_ _ | refine Below.drew ?_ | refine Below.alloc ?_ (by simp) _ | refine Below.setCell ?_ (by simp) _))) rfl
      simp [h]

theorem stood48 : Tryz.prog.stoodInHeld 111 = false := by kernel_rfl
theorem eqg48 : Tryz.prog.eqGuardType Tryz.prog.depth 111 = false := by kernel_rfl
theorem equal_cell (w : World) (a b c d : Int) : (Op.equalIn 10000 111 (.agg #[.int .i64 a, .int .i64 b]) (.agg #[.int .i64 c, .int .i64 d])).run Tryz.prog w = .ok (a == c && b == d) w := by
  rw [run_equalIn_agg w 9999 111 _ _ (by kernel_rfl) stood48]
  have hf : (Tryz.prog.fieldsOf 111).toList = [⟨"Role", 3, 0, false, "", "", 0⟩, ⟨"Kind", 3, 1, false, "", "", 8⟩] := by kernel_rfl
  rw [hf]
  by_cases h1 : a = c <;> by_cases h2 : b = d <;> simp [go_sem, h1, h2]
def CellOk (rl kd : Nat → Int) (nC op c n : Nat) : Prop :=
  1 ≤ n ∧ c + n ≤ nC ∧ (∀ i, i < n → rl (c + i) = rl c ∧ kd (c + i) = kd c) ∧ ((op = 3 ∨ op = 5) → rl c ≠ 0) ∧ (op = 21 → rl c = 2 ∧ kd c = 2)
theorem below_alloc_drew (w : World) (o : Obj) (n : Nat) : Below w.heap.size w ((w.alloc o).drewN n) :=
  below_drewN (Below.alloc (Below.refl _ _) (Nat.le_refl _) _) n
theorem below_alloc2 (w : World) (o o' : Obj) (n : Nat) : Below w.heap.size w (((w.alloc o).drewN n).alloc o') :=
  (below_alloc_drew w o n).alloc (by simp) _

set_option maxRecDepth 100000 in
set_option maxHeartbeats 1000000 in
theorem cells_in (w : World) (bx bc capc nC : Nat) (rl kd : Nat → Int) (at_ to_ in_ : Int) (op c n : Nat) (ac : Option Addr) (hop : op = 2 ∨ op = 3 ∨ op = 4 ∨ op = 5 ∨ op = 21)
    (hn : n ≤ 255) (hc : c ≤ 255) (hC : nC ≤ 100)
    (hx : w.cell? ⟨bx, 0, none⟩ = some (.slice ac nC capc)) (hac : 0 < nC → ac = some ⟨bc, 0, none⟩)
    (hr : ∀ j, j < nC → w.cell? ⟨bc, j * 2, none⟩ = some (.int .i64 (rl j)))
    (hk : ∀ j, j < nC → w.cell? ⟨bc, j * 2 + 1, none⟩ = some (.int .i64 (kd j)))
    (R : Ending → World → Prop)
    (fin : ∀ (b : Bool) w', (b = true ↔ CellOk rl kd nC op c n) → Below w.heap.size w w' → R (.returned (.bool b)) w') :
    Calls Tryz.prog 95 #[.pointer (some ⟨bx, 0, none⟩), .agg #[.int .i64 at_, .int .i64 op, .int .i64 c, .int .i64 n, .int .i64 to_, .int .i64 in_]] w R := by
  change Hid _ at fin
  change Hid _ at hr
  change Hid _ at hk
  change Hid _ at hac
  have hbx : bx < w.heap.size := World.block_lt_of_cell? w _ hx
  by_cases h1 : 1 ≤ n
  · have d1 : decide ((n:Int) < 1) = false := by simp; omega
    by_cases h2 : c + n ≤ nC
    · have d2 : decide ((nC:Int) < (c:Int) + n) = false := by simp; omega
      have hac' := hac.out (by omega)
      subst hac'
      have hbc : bc < w.heap.size := World.block_lt_of_cell? w _ (hr.out 0 (by omega))
      have hr0 := hr.out c (by omega)
      have hk0 := hk.out c (by omega)
      rcases hop with rfl | rfl | rfl | rfl | rfl
      all_goals
        go_enter Tryz.func95, Tryz.ntmps95
        go_wp2
        go_quiet (fail)
        go_wp2
        go_loopw [5] (fun i wr => ∃ k m : Nat, k ≤ n ∧ i = .int .i64 k ∧ wr = (w.alloc (Obj.cells #[.int .i64 at_, .int .i64 _, .int .i64 c, .int .i64 n, .int .i64 to_, .int .i64 in_] 123)).drewN m ∧ (∀ j, j < k → rl (c + j) = rl c ∧ kd (c + j) = kd c)) (fun i _ => n - (intOf i).toNat)
        case atStart => exact ⟨0, _, by omega, rfl, rfl, by omega⟩
        case round =>
          obtain ⟨k, m, hk1, rfl, rfl, hall⟩ := hrel
          change Hid _ at hall
          by_cases hlt : k < n
          · have hr1 := hr.out (c + k) (by omega)
            have hk2 := hk.out (c + k) (by omega)
            have i1 : (c:Int) + (k:Int) < (nC:Int) := by omega
            have i2 : 0 ≤ (c:Int) + (k:Int) := by omega
            have i3 : ((c:Int) + (k:Int)).toNat = c + k := by omega
            have he := equal_cell
            have hs := stood48
            have hg := eqg48
            go_wp2
            go_quiet (fail)
            go_wp2
            · rename_i ht
              refine cl1 (fin.out _ _ ?_ (by repeat (first | exact Below.refl _ _ | refine below_drewN ?_ _ | refine Below.drew ?_ | refine Below.alloc ?_ (by simp) _ | refine Below.setCell ?_ (by simp) _))) rfl
              simp only [Bool.false_eq_true, false_iff]
              intro h
              have := h.2.2.1 k hlt
              simp [this.1, this.2] at ht
            · rename_i ht
              refine ⟨⟨k + 1, _, by omega, by go_num, rfl, fun j hj => ?_⟩, by simp [intOf]; omega⟩
              by_cases e : j = k
              · subst e; simpa using ht
              · exact hall.out j (by omega)
          · have : k = n := by omega
            subst this
            have h3 := hall.out
            have hiff := fun op => (show CellOk rl kd nC op c k ↔ (((op = 3 ∨ op = 5) → rl c ≠ 0) ∧ (op = 21 → rl c = 2 ∧ kd c = 2)) from ⟨fun h => h.2.2.2, fun h => ⟨h1, h2, h3, h⟩⟩)
            rw [hiff] at fin
            clear h3 hiff hall
            go_wp2
            go_region
            go_wp2
            all_goals
              refine cl1 (fin.out _ _ ?_ (by repeat (first | exact Below.refl _ _ | refine below_drewN ?_ _ | refine Below.drew ?_ | refine Below.alloc ?_ (by simp) _ | refine Below.setCell ?_ (by simp) _))) rfl
              simp
              try simp [*]
    · have d2 : decide ((nC:Int) < (c:Int) + n) = true := by simp; omega
      rcases hop with rfl | rfl | rfl | rfl | rfl
      all_goals
        go_enter Tryz.func95, Tryz.ntmps95
        go_wp2
        go_quiet (fail)
        go_wp2
        exact cl1 (fin.out _ _ (by simp only [Bool.false_eq_true, false_iff]; exact fun h => h2 h.2.1) (by repeat (first | exact Below.refl _ _ | refine below_drewN ?_ _ | refine Below.drew ?_ | refine Below.alloc ?_ (by simp) _ | refine Below.setCell ?_ (by simp) _))) rfl
  · have : n = 0 := by omega
    subst this
    rcases hop with rfl | rfl | rfl | rfl | rfl
    all_goals
      go_enter Tryz.func95, Tryz.ntmps95
      go_wp2
      go_quiet (fail)
      go_wp2
      exact cl1 (fin.out _ _ (by simp only [Bool.false_eq_true, false_iff]; exact fun h => h1 h.1) (by repeat (first | exact Below.refl _ _ | refine below_drewN ?_ _ | refine Below.drew ?_ | refine Below.alloc ?_ (by simp) _ | refine Below.setCell ?_ (by simp) _))) rfl

end Go.Proofs.YtidhiaaicmfabaaGreatDoor

/- The contract of the document's own function loops. -/
namespace Go.Proofs.YtidhiaaicmfabaaGreatDoor
open Go.RowKit Go.Proofs Go.Deep

/-- The code's table as the document's own reader lays it: At, Op, C, N, To, In. -/
def codeA (at_ : Nat → Nat) (op : Nat → Nat) (C : Nat → Nat) (N : Nat → Int) (To In : Nat → Int) (i f : Nat) : Value :=
  .int .i64 (if f = 0 then (at_ i : Int) else if f = 1 then (op i : Int) else if f = 2 then (C i : Int) else if f = 3 then N i else if f = 4 then To i else In i)

def stV (st : List Nat) : List Value := st.reverse.map fun f : Nat => Value.int .i64 (f : Int)
theorem codeA_in {at_ op C : Nat → Nat} {N To In : Nat → Int} {k : Nat} {x : Int} (j g : Nat) (hg : g < 6) :
    (if j = k ∧ g = 5 then Value.int .i64 x else codeA at_ op C N To In j g) = codeA at_ op C N To (fun j => if j = k then x else In j) j g := by
  unfold codeA
  by_cases e : g = 5
  · subst e; by_cases e2 : j = k <;> simp [e2]
  · simp only [e, and_false, if_false]
    (repeat' split) <;> first | rfl | omega
theorem codeA_to {at_ op C : Nat → Nat} {N To In : Nat → Int} {k : Nat} {x : Int} (j g : Nat) :
    (if j = k ∧ g = 4 then Value.int .i64 x else codeA at_ op C N To In j g) = codeA at_ op C N (fun j => if j = k then x else To j) In j g := by
  unfold codeA
  by_cases e : g = 4
  · subst e; by_cases e2 : j = k <;> simp [e2]
  · simp only [e, and_false, if_false]
theorem inOf_nil {op : Nat → Nat} {k : Nat} (h : stk op k = some []) : inOf op k = -1 := by simp [inOf, h]
theorem inOf_cons {op : Nat → Nat} {k f : Nat} {t : List Nat} (h : stk op k = some (f :: t)) : inOf op k = f := by simp [inOf, h]
theorem stk_other {op : Nat → Nat} {k : Nat} {st : List Nat} (h : stk op k = some st) (h1 : op k ≠ 19) (h2 : op k ≠ 20) : stk op (k + 1) = some st := by simp [stk, h, h1, h2]
theorem stk_for {op : Nat → Nat} {k : Nat} {st : List Nat} (h : stk op k = some st) (h1 : op k = 19) (h2 : st.length < 10) : stk op (k + 1) = some (k :: st) := by
  simp [stk, h, h1]; omega
theorem stk_far {op : Nat → Nat} {k : Nat} {st : List Nat} (h : stk op k = some st) (h1 : op k = 19) (h2 : 10 ≤ st.length) : stk op (k + 1) = none := by
  simp [stk, h, h1, h2]
theorem stk_next {op : Nat → Nat} {k f : Nat} {t : List Nat} (h : stk op k = some (f :: t)) (h1 : op k = 20) : stk op (k + 1) = some t := by simp [stk, h, h1]
theorem stk_none20 {op : Nat → Nat} {k : Nat} (h : stk op k = some []) (h1 : op k = 20) : stk op (k + 1) = none := by simp [stk, h, h1]
theorem in_same {op : Nat → Nat} {k n : Nat} {In : Nat → Int} (h1 : ∀ j, j < k → In j = inOf op j) (h2 : ∀ j, k ≤ j → j < n → In j = -1) (hk : k < n) (h : inOf op k = -1) :
    (∀ j, j < k + 1 → In j = inOf op j) ∧ (∀ j, k + 1 ≤ j → j < n → In j = -1) :=
  ⟨fun j hj => by by_cases e : j = k
                  · subst e; rw [h2 j (by omega) hk, h]
                  · exact h1 j (by omega), fun j hj hn => h2 j (by omega) hn⟩
theorem in_set {op : Nat → Nat} {k n : Nat} {In : Nat → Int} {x : Int} (h1 : ∀ j, j < k → In j = inOf op j) (h2 : ∀ j, k ≤ j → j < n → In j = -1) (h : inOf op k = x) :
    (∀ j, j < k + 1 → (fun j => if j = k then x else In j) j = inOf op j) ∧ (∀ j, k + 1 ≤ j → j < n → (fun j => if j = k then x else In j) j = -1) :=
  ⟨fun j hj => by by_cases e : j = k
                  · subst e; simp [h]
                  · simp only [e, if_false]; exact h1 j (by omega), fun j hj hn => by
                      have e : j ≠ k := by omega
                      simp only [e, if_false]; exact h2 j (by omega) hn⟩
theorem to_other {op : Nat → Nat} {k : Nat} {To : Nat → Int} (h : ∀ j, j < k → op j = 20 → To j = inOf op j) (h1 : op k ≠ 20) : ∀ j, j < k + 1 → op j = 20 → To j = inOf op j :=
  fun j hj ho => by
    by_cases e : j = k
    · subst e; exact absurd ho h1
    · exact h j (by omega) ho
theorem own_set {w : World} {base e size : Nat} {v : Value} {n : Nat} {xs : List Value} (h : w.ownsRow base e size v n xs) {a : Addr} (ha : a.block < base) (u : Value) : (w.setCell a u).ownsRow base e size v n xs :=
  ownsRow_setCell_below h ha u
theorem stV_cons (f : Nat) (t : List Nat) : stV (f :: t) = stV t ++ [Value.int .i64 (f : Int)] := by simp [stV]
theorem stV_len (t : List Nat) : (stV t).length = t.length := by simp [stV]
theorem oneC1 (a : Int) : ∀ u ∈ [Value.int .i64 a], u.oneCell' = true := by
  intro u hu; simp only [List.mem_cons, List.not_mem_nil, or_false] at hu; rcases hu with rfl; rfl

theorem infoInt : (Tryz.prog.info? 3).map (fun i => (i.zero, i.size, i.bytes)) = some (some (.int .i64 0), 1, 8) := by kernel_rfl
theorem ulInts : Tryz.prog.underlying 38 = some (.slice 3) := by kernel_rfl

set_option maxRecDepth 100000 in
set_option maxHeartbeats 8000000 in
theorem loops_any (w : World) (bx b n cap : Nat) (at_ op C : Nat → Nat) (N To In : Nat → Int) (hn : n ≤ 8000) (hne : bx ≠ b)
    (hx : w.cell? ⟨bx, 1, none⟩ = some (.slice (some ⟨b, 0, none⟩) n cap))
    (ht : Tab w b 123 6 n cap (codeA at_ op C N To In)) (hIn : ∀ i, i < n → In i = -1)
    (R : Ending → World → Prop)
    (no : stk op n ≠ some [] → ∀ w', Only b w w' → R (.returned (.bool false)) w')
    (yes : stk op n = some [] → ∀ w' To', Only b w w' → Tab w' b 123 6 n cap (codeA at_ op C N To' (inOf op)) → (∀ i, i < n → op i = 20 → To' i = inOf op i) → R (.returned (.bool true)) w') :
    Calls Tryz.prog 96 #[.pointer (some ⟨bx, 0, none⟩)] w R := by
  replace yes := hd yes
  replace no := hd no
  replace hIn := hd hIn
  have hbx : bx < w.heap.size := World.block_lt_of_cell? w _ hx
  have hb := ht.lt
  replace ht := hd ht
  go_enter Tryz.func96, Tryz.ntmps96
  go_wp2
  go_loopw [3, 4] (fun v i wr => ∃ (k : Nat) (st : List Nat) (To' In' : Nat → Int), k ≤ n ∧ i = .int .i64 k ∧ stk op k = some st ∧ wr.ownsRow w.heap.size 3 1 v st.length (stV st) ∧
      Only b w wr ∧ Tab wr b 123 6 n cap (codeA at_ op C N To' In') ∧ (∀ j, j < k → In' j = inOf op j) ∧ (∀ j, k ≤ j → j < n → In' j = -1) ∧ (∀ j, j < k → op j = 20 → To' j = inOf op j)) (fun _ i _ => n - (intOf i).toNat)
  case atStart => exact ⟨0, [], To, In, by omega, rfl, rfl, World.ownsRow_nil _ _ _ _, Only.refl _ _, ht.out, by omega, fun j _ hj => hIn.out j hj, by omega⟩
  case round =>
    obtain ⟨k, st, To', In', hk, rfl, hst, hown, honly, htab, hin1, hin2, hto⟩ := hrel
    have hx1 : wr.cell? ⟨bx, 1, none⟩ = some (.slice (some ⟨b, 0, none⟩) n cap) := by rw [honly.cell hbx hne]; exact hx
    have hlen := stk_len op k st hst
    have hmem := hd (stk_mem op k st hst)
    obtain ⟨ao, capo, hv, hcapo, hform⟩ := own_form hown
    subst hv
    have hbs := honly.size
    replace hown := hd hown
    replace honly := hd honly
    replace hst := hd hst
    replace hin1 := hd hin1
    replace hin2 := hd hin2
    replace hto := hd hto
    replace hform := hd hform
    by_cases hlt : k < n
    · have c1 : wr.cell? ⟨b, k * 6 + 1, none⟩ = some (.int .i64 (op k)) := htab.cell hlt (f := 1) (by omega)
      have c5 : wr.cell? ⟨b, k * 6 + 5, none⟩ = some (.int .i64 (-1)) := by rw [htab.cell hlt (f := 5) (by omega), ← hin2.out k (by omega) hlt]; rfl
      have c4 : wr.cell? ⟨b, k * 6 + 4, none⟩ = some (.int .i64 (To' k)) := htab.cell hlt (f := 4) (by omega)
      have fz := fun o => htab.frozen o
      replace htab := hd htab
      cases st with
      | nil =>
        have hi0 := inOf_nil hst.out
        replace hi0 := hd hi0
        simp only [List.length_nil] at hcapo hlen hown hform ⊢
        by_cases h19 : op k = 19
        · replace h19 := hd h19
          have e19 : ((op k : Int) == 19) = true := by simp [h19.out]
          go_wp2_with (first | (at_builtin; refine wpList_app _ rfl _ _ 38 rfl w.heap.size 3 _ 1 8 ulInts infoInt rfl (by decide) _ _ _ rfl (by first | exact hown.out.alloc _ | exact (own_set hown.out hb _).alloc _) _ 1 1 _ rfl (alloc_at (by simp)) rfl (oneC1 _) (by unfold maxLen; omega) (by omega) (by simp; omega) ?_; intro v1 w1 hown1 hgr1; have hf1 := own_form hown1; replace hown1 := hd hown1; replace hgr1 := hd hgr1; obtain ⟨ao1, capo1, rfl, hcap1, hform1⟩ := hf1; replace hform1 := hd hform1))
          have hi := in_same hin1.out hin2.out hlt hi0.out
          refine ⟨⟨k + 1, [k], To', In', by omega, by go_num, stk_for hst.out h19.out (by simp), hown1.out, ?_, ?_, hi.1, hi.2, to_other hto.out (by rw [h19.out]; decide)⟩, by simp [intOf]; omega⟩
          · exact (honly.out.alloc _).grown hgr1.out (fun k hk => .inr (hown.out.lt k hk).1)
          · exact (htab.out.alloc _).of_block (hgr1.out.block b (by simp; omega) (fun e => by have := (hown.out.lt b e.symm).1; omega))
        · by_cases h20 : op k = 20
          · go_wp2
            refine cl1 (no.out (by rw [stk_none op (stk_none20 hst.out h20) (by omega)]; simp) _ honly.out) rfl
          · have e19 : ((op k : Int) == 19) = false := by simp; omega
            have e20 : ((op k : Int) == 20) = false := by simp; omega
            go_wp2
            have hi := in_same hin1.out hin2.out hlt hi0.out
            refine ⟨⟨k + 1, [], To', In', by omega, by go_num, stk_other hst.out h19 h20, hown.out, honly.out, htab.out, hi.1, hi.2, to_other hto.out h20⟩, by simp [intOf]; omega⟩
      | cons f t =>
        have hif := hd (inOf_cons hst.out)
        obtain ⟨g, hao, hg1, hg2, hgc⟩ := hform.out (by simp)
        subst hao
        have hfm := hmem.out f (by simp)
        have cg : wr.cell? ⟨g, t.length, none⟩ = some (.int .i64 (f : Int)) := hgc t.length _ (by rw [stV_cons, List.getElem?_append_right (by rw [stV_len]; omega), stV_len]; simp)
        have hgb : ¬ g = b := by omega
        have hgb' : ¬ b = g := by omega
        replace hgc := hd hgc
        simp only [List.length_cons] at hcapo hlen hown hform ⊢
        have hi := in_set hin1.out hin2.out (x := (f : Int)) hif.out
        have htab5 : Tab (wr.setCell ⟨b, k * 6 + 5, none⟩ (.int .i64 (f : Int))) b 123 6 n cap (codeA at_ op C N To' (fun j => if j = k then (f : Int) else In' j)) :=
          (htab.out.set k 5 (by omega) _).congr (fun j _ g hg => codeA_in j g hg)
        have honly5 : Only b w (wr.setCell ⟨b, k * 6 + 5, none⟩ (.int .i64 (f : Int))) := honly.out.setCell (.inl rfl) _
        replace hi := hd hi
        replace htab5 := hd htab5
        replace honly5 := hd honly5
        by_cases h19 : op k = 19
        · replace h19 := hd h19
          have e19 : ((op k : Int) == 19) = true := by simp [h19.out]
          by_cases hfull : 10 ≤ t.length + 1
          · have hlf : 10 < (t.length : Int) + 1 + 1 := by omega
            go_wp2_with (first | (at_builtin; refine wpList_app _ rfl _ _ 38 rfl w.heap.size 3 _ 1 8 ulInts infoInt rfl (by decide) _ _ _ rfl (by first | exact hown.out.alloc _ | exact (own_set hown.out hb _).alloc _) _ 1 1 _ rfl (alloc_at (by simp)) rfl (oneC1 _) (by unfold maxLen; omega) (by omega) (by simp; omega) ?_; intro v1 w1 hown1 hgr1; have hf1 := own_form hown1; replace hown1 := hd hown1; replace hgr1 := hd hgr1; obtain ⟨ao1, capo1, rfl, hcap1, hform1⟩ := hf1; replace hform1 := hd hform1))
            refine cl1 (no.out (by rw [stk_none op (stk_far hst.out h19.out (by simpa using hfull)) (by omega)]; simp) _ ?_) rfl
            exact (honly5.out.alloc _).grown hgr1.out (fun k hk => .inr (hown.out.lt k hk).1)
          · have hlf : t.length + 1 + 1 ≤ 10 := by omega
            go_wp2_with (first | (at_builtin; refine wpList_app _ rfl _ _ 38 rfl w.heap.size 3 _ 1 8 ulInts infoInt rfl (by decide) _ _ _ rfl (by first | exact hown.out.alloc _ | exact (own_set hown.out hb _).alloc _) _ 1 1 _ rfl (alloc_at (by simp)) rfl (oneC1 _) (by unfold maxLen; omega) (by omega) (by simp; omega) ?_; intro v1 w1 hown1 hgr1; have hf1 := own_form hown1; replace hown1 := hd hown1; replace hgr1 := hd hgr1; obtain ⟨ao1, capo1, rfl, hcap1, hform1⟩ := hf1; replace hform1 := hd hform1))
            refine ⟨⟨k + 1, k :: f :: t, To', _, by omega, by go_num, stk_for hst.out h19.out (by simp; omega), ?_, ?_, ?_, hi.out.1, hi.out.2, to_other hto.out (by rw [h19.out]; decide)⟩, by simp [intOf]; omega⟩
            · rw [stV_cons]; exact hown1.out
            · exact (honly5.out.alloc _).grown hgr1.out (fun k hk => .inr (hown.out.lt k hk).1)
            · exact (htab5.out.alloc _).of_block (hgr1.out.block b (by simp; omega) (fun e => by have := (hown.out.lt b e.symm).1; omega))
        · by_cases h20 : op k = 20
          · replace h20 := hd h20
            have e19 : ((op k : Int) == 19) = false := by simp; omega
            have e20 : ((op k : Int) == 20) = true := by simp [h20.out]
            have hfn : (f : Int) < (n : Int) := by omega
            have cf4 : wr.cell? ⟨b, f * 6 + 4, none⟩ = some (.int .i64 (To' f)) := htab.out.cell (by omega) (f := 4) (by omega)
            have hkf : ¬ f * 6 + 4 = k * 6 + 4 := by omega
            have hkf5 : ¬ f * 6 + 4 = k * 6 + 5 := by omega
            have e0 : ((t.length : Int) + 1 == 0) = false := by simp; omega
            go_wp2
            go_region
            go_wp2
            refine ⟨⟨k + 1, t, (fun j => if j = f then (k : Int) else if j = k then (f : Int) else To' j), _, by omega, by go_num, stk_next hst.out h20.out, ?_, ?_, ?_, hi.out.1, hi.out.2, ?_⟩, by simp [intOf]; omega⟩
            · have h1 := hown.out
              rw [stV_cons] at h1
              exact own_drew (own_set (own_set (own_set (ownsRow_pop (by rw [stV_len]; omega) h1) hb _) hb _) hb _)
            · exact ((honly5.out.setCell (.inl rfl) _).setCell (.inl rfl) _).drew
            · have h1 := (htab5.out.set k 4 (by omega) (.int .i64 (f : Int))).congr (fun j _ g _ => codeA_to j g)
              have h2 := (h1.set f 4 (by omega) (.int .i64 (k : Int))).congr (fun j _ g _ => codeA_to j g)
              exact h2.drew
            · intro j hj ho
              have hjf : j ≠ f := fun e => by rw [e, hfm.2] at ho; omega
              simp only [hjf, if_false]
              by_cases e : j = k
              · subst e; simp [hif.out]
              · simp only [e, if_false]; exact hto.out j (by omega) ho
          · have e19 : ((op k : Int) == 19) = false := by simp; omega
            have e20 : ((op k : Int) == 20) = false := by simp; omega
            go_wp2
            refine ⟨⟨k + 1, f :: t, To', _, by omega, by go_num, stk_other hst.out h19 h20, own_set hown.out hb _, honly5.out, htab5.out, hi.out.1, hi.out.2, to_other hto.out h20⟩, by simp [intOf]; omega⟩
    · have : k = n := by omega
      subst this
      go_wp2
      by_cases e : st = []
      · subst e
        refine cl1 (yes.out hst.out _ _ honly.out (htab.congr fun i hi f hf => ?_) hto.out) rfl
        unfold codeA
        (repeat' split) <;> first | rfl | (rw [hin1.out i hi])
      · refine cl1 (no.out (by rw [hst.out]; simpa using e) _ honly.out) ?_
        have : st.length ≠ 0 := by simpa using e
        simp [this]

end Go.Proofs.YtidhiaaicmfabaaGreatDoor

/- The walk from the first instruction to the last, in plain functions; join in two halves. -/
namespace Go.Proofs.YtidhiaaicmfabaaGreatDoor
open Go.RowKit Go.Proofs Go.Deep

/-- What is known ahead of each instruction: how many numbers are on the stack (-1: it can't be come to), how long it takes at most. -/
def upd (f : Nat → Int) (t : Nat) (v : Int) : Nat → Int := fun j => if j = t then v else f j

/-- One way to instruction t. -/
def jn (H L : Nat → Int) (t : Nat) (h d : Int) : Option ((Nat → Int) × (Nat → Int)) :=
  if 0 ≤ H t ∧ H t ≠ h then none else some (upd H t h, upd L t (max (L t) d))

/-- One instruction (not END) of the walk from the first to the last; none: a rule is broken. -/
def refStep (op : Nat → Nat) (N : Nat → Int) (To : Nat → Nat) (i : Nat) (H L : Nat → Int) : Option ((Nat → Int) × (Nat → Int)) :=
  if H i < popsOf (op i) ∨ 32 < H i - popsOf (op i) + pushesOf (op i) then none
  else if op i = 17 then jn H L (To i) (H i - popsOf (op i) + pushesOf (op i)) (L i + 1)
  else if op i = 18 then
    match jn H L (To i) (H i - popsOf (op i) + pushesOf (op i)) (L i + 1) with
    | none => none
    | some S => jn S.1 S.2 (i + 1) (H i - popsOf (op i) + pushesOf (op i)) (L i + 1)
  else if op i = 19 then jn H L (i + 1) (H i - popsOf (op i) + pushesOf (op i)) 0
  else if op i = 20 then
    (if H i - popsOf (op i) + pushesOf (op i) = H (To i + 1) then jn H L (i + 1) (H i - popsOf (op i) + pushesOf (op i)) (min (L (To i) + 1 + N (To i) * (L i + 1)) 1099511627776) else none)
  else jn H L (i + 1) (H i - popsOf (op i) + pushesOf (op i)) (L i + 1)

/-- The walk from instruction i on: the bound; none: a rule is broken. -/
def refGo (op : Nat → Nat) (N : Nat → Int) (To : Nat → Nat) (n : Nat) : Nat → Nat → (Nat → Int) → (Nat → Int) → Option Int
  | 0, _, _, _ => none
  | fuel + 1, i, H, L =>
    if op i = 0 then (if H i = 0 ∧ i + 1 = n then some (L i + 1) else none)
    else
      match refStep op N To i H L with
      | none => none
      | some S => refGo op N To n fuel (i + 1) S.1 S.2

def H0 : Nat → Int := fun j => if j = 0 then 0 else -1
def L0 : Nat → Int := fun _ => 0

theorem join_no (w : World) (bh bl n : Nat) (i : Nat) (H L : Nat → Int) (h d : Int) (hi : i < n) (hn : n ≤ 10000) (hne : bh ≠ bl)
    (rh : w.rowIs bh 3 n (fun j => .int .i64 (H j))) (rl : w.rowIs bl 3 n (fun j => .int .i64 (L j))) (hc : 0 ≤ H i ∧ H i ≠ h)
    (R : Ending → World → Prop) (fin : R (.returned (.bool false)) w) :
    Calls Tryz.prog 146 #[.slice (some ⟨bh, 0, none⟩) n n, .slice (some ⟨bl, 0, none⟩) n n, .int .i64 (i : Int), .int .i64 h, .int .i64 d] w R :=
  join_any w bh bl n i H L h d hi hn hne rh rl R (fun _ _ => fin) (fun _ _ h' => by rcases h' with h' | h' <;> omega)
theorem join_yes (w : World) (bh bl n : Nat) (i : Nat) (H L : Nat → Int) (h d : Int) (hi : i < n) (hn : n ≤ 10000) (hne : bh ≠ bl)
    (rh : w.rowIs bh 3 n (fun j => .int .i64 (H j))) (rl : w.rowIs bl 3 n (fun j => .int .i64 (L j))) (hc : ¬ (0 ≤ H i ∧ H i ≠ h))
    (R : Ending → World → Prop) (fin : ∀ m : Int, m = max (L i) d → R (.returned (.bool true)) ((w.setCell ⟨bh, i, none⟩ (.int .i64 h)).setCell ⟨bl, i, none⟩ (.int .i64 m))) :
    Calls Tryz.prog 146 #[.slice (some ⟨bh, 0, none⟩) n n, .slice (some ⟨bl, 0, none⟩) n n, .int .i64 (i : Int), .int .i64 h, .int .i64 d] w R :=
  join_any w bh bl n i H L h d hi hn hne rh rl R (fun h1 h2 => absurd ⟨h1, h2⟩ hc) (fun m hm _ => fin m hm)

theorem jn_none {H L : Nat → Int} {t : Nat} {h d : Int} (hc : 0 ≤ H t ∧ H t ≠ h) : jn H L t h d = none := by simp [jn, hc]
theorem jn_some {H L : Nat → Int} {t : Nat} {h d : Int} (hc : ¬ (0 ≤ H t ∧ H t ≠ h)) : jn H L t h d = some (upd H t h, upd L t (max (L t) d)) := by rw [jn, if_neg hc]

/-- Two rows behind a join. -/
theorem join_rows {w : World} {bh bl n i T : Nat} {H L : Nat → Int} {h m d : Int} (hne : bh ≠ bl) (hm : m = max (L i) d)
    (rh : w.rowIs bh T n (fun j => .int .i64 (H j))) (rl : w.rowIs bl T n (fun j => .int .i64 (L j))) :
    ((w.setCell ⟨bh, i, none⟩ (.int .i64 h)).setCell ⟨bl, i, none⟩ (.int .i64 m)).rowIs bh T n (fun j => .int .i64 (upd H i h j)) ∧
    ((w.setCell ⟨bh, i, none⟩ (.int .i64 h)).setCell ⟨bl, i, none⟩ (.int .i64 m)).rowIs bl T n (fun j => .int .i64 (upd L i (max (L i) d) j)) := by
  subst hm
  constructor
  · refine ((rh.set i (.int .i64 h)).setOther (a := ⟨bl, i, none⟩) hne _).congr fun j _ => ?_
    unfold upd; split <;> rfl
  · refine ((rl.setOther (a := ⟨bh, i, none⟩) (Ne.symm hne) _).set i _).congr fun j _ => ?_
    unfold upd; split <;> rfl

end Go.Proofs.YtidhiaaicmfabaaGreatDoor
