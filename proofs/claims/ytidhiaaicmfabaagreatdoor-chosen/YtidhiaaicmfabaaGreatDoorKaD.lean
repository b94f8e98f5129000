/- The heap of container/heap. -/
import Derived.Test.YtidhiaaicmfabaaGreatDoorKaA
import Derived.Test.YtidhiaaicmfabaaGreatDoorKaB
import Derived.WalkKit
import Derived.WalkSpells
import Derived.WalkLawsBesides
import Derived.Deep.OwnRows
import Derived.BigQuiet
import Derived.Handy
import Derived.Deep.Light
import Derived.Deep.RegionHeld3
import Derived.Deep.RegionWith
import Derived.Deep.RegionHeldLaw
import Derived.Deep.RegionLaw
import Derived.Deep.AppendLies

/- Contracts of small functions of Go's library and of the program: CutPrefix at the mark, Compare, add. -/
namespace Go.Proofs.YtidhiaaicmfabaaGreatDoor
open Go.RowKit Go.Proofs Go.Deep

/-- The image opens with the six bytes of the mark. -/
def Marked (s : ByteArray) : Prop := 6 ≤ s.size ∧ (s.extract 0 6).toList = [83, 76, 85, 73, 67, 69]
set_option maxHeartbeats 400000 in
theorem hasPrefix_mark (w : World) (s : ByteArray) (hs : s.size ≤ maxLen) (R : Ending → World → Prop)
    (fin : ∀ b : Bool, (b = true ↔ Marked s) → R (.returned (.bool b)) w) :
    Calls Tryz.prog 207 #[.string s, .string ⟨#[83, 76, 85, 73, 67, 69]⟩] w R := by
  unfold maxLen at hs
  replace fin := hd fin
  by_cases h6 : 6 ≤ s.size
  · have d6 : decide ((6 : Int) ≤ (s.size : Int)) = true := by simp; omega
    have i6 : (6 : Int) ≤ (s.size : Int) := by omega
    go_enter Tryz.func207, Tryz.ntmps207
    go_wp2
    exact cl1 (fin.out _ (by simp [Marked, h6])) rfl
  · have d6 : decide ((6 : Int) ≤ (s.size : Int)) = false := by simp; omega
    have i6 : ¬ (6 : Int) ≤ (s.size : Int) := by omega
    go_enter Tryz.func207, Tryz.ntmps207
    go_wp2
    exact cl1 (fin.out false (by simp [Marked, h6])) rfl

set_option maxHeartbeats 400000 in
theorem cutPrefix_lite (w : World) (s : ByteArray) (hs : s.size ≤ maxLen) (R : Ending → World → Prop)
    (no : ¬ Marked s → R (.returned (.tuple #[.string s, .bool false])) w)
    (yes : Marked s → R (.returned (.tuple #[.string (s.extract 6 s.size), .bool true])) w) :
    Calls Tryz.prog 147 #[.string s, .string ⟨#[83, 76, 85, 73, 67, 69]⟩] w R := by
  have hs' := hs
  unfold maxLen at hs'
  replace no := hd no
  replace yes := hd yes
  go_enter Tryz.func147, Tryz.ntmps147
  go_wp2_with (fail)
  refine hasPrefix_mark _ _ hs _ ?_
  intro b hb
  cases b with
  | false =>
    have h := hd (show ¬ Marked s from fun h => by have := hb.2 h; cases this)
    clear hb
    go_wp2
    exact cl1 (no.out h.out) rfl
  | true =>
    have h := hd (hb.1 rfl)
    have h6 := h.out.1
    have i6 : (6 : Int) ≤ (s.size : Int) := by omega
    clear hb
    go_wp2
    exact cl1 (yes.out h.out) rfl

set_option maxHeartbeats 400000 in
theorem cutPrefix_mark (w : World) (s : ByteArray) (hs : s.size ≤ maxLen) (R : Ending → World → Prop)
    (no : ¬ Marked s → R (.returned (.tuple #[.string s, .bool false])) w)
    (yes : Marked s → R (.returned (.tuple #[.string (s.extract 6 s.size), .bool true])) w) :
    Calls Tryz.prog 100 #[.string s, .string ⟨#[83, 76, 85, 73, 67, 69]⟩] w R := by
  replace no := hd no
  replace yes := hd yes
  go_enter Tryz.func100, Tryz.ntmps100
  go_wp2_with (fail)
  refine cutPrefix_lite _ _ hs _ ?_ ?_
  · intro h
    replace h := hd h
    go_wp2
    exact cl1 (no.out h.out) rfl
  · intro h
    replace h := hd h
    go_wp2
    exact cl1 (yes.out h.out) rfl

set_option maxHeartbeats 400000 in
theorem add_any (w : World) (a b : Int) (ha : 0 ≤ a ∧ a ≤ 300000) (hb : 0 ≤ b ∧ b ≤ 300000) (R : Ending → World → Prop)
    (fin : ∀ r, r = min (a + b) 200001 → R (.returned (.int .i64 r)) w) :
    Calls Tryz.prog 183 #[.int .i64 a, .int .i64 b] w R := by
  replace fin := hd fin
  go_enter Tryz.func183, Tryz.ntmps183
  go_wp2
  all_goals exact cl1 (fin.out _ (by omega)) rfl

set_option maxHeartbeats 400000 in
theorem compare_any (w : World) (a b : Int) (R : Ending → World → Prop)
    (fin : ∀ r : Int, (r < 0 ↔ a < b) → (r = 0 ↔ a = b) → R (.returned (.int .i64 r)) w) :
    Calls Tryz.prog 155 #[.int .i64 a, .int .i64 b] w R := by
  replace fin := hd fin
  go_enter Tryz.func155, Tryz.ntmps155
  go_wp2
  all_goals exact cl1 (fin.out _ (by omega) (by omega)) rfl

end Go.Proofs.YtidhiaaicmfabaaGreatDoor

/- The methods of the heap of instructions: which they are, Less, Swap. -/
namespace Go.Proofs.YtidhiaaicmfabaaGreatDoor
open Go.RowKit Go.Proofs Go.Deep

theorem wrapnil (ts : Array TypeId) (t : TypeId) (p : Addr) (s1 s2 : String) (w : World) : (Builtin.ssaWrapNilChk_ ts t #[.pointer (some p), strVal s1, strVal s2]).run Tryz.prog w = .ok (.pointer (some p)) w := rfl
theorem rowLess : (Array.find? (fun x => x.name == "Less") Tryz.t220.methods).map (fun m => (m.path, m.func)) = some (#[], some (302, false)) := by kernel_rfl
theorem rowSwap : (Array.find? (fun x => x.name == "Swap") Tryz.t220.methods).map (fun m => (m.path, m.func)) = some (#[], some (303, false)) := by kernel_rfl
theorem rowLen : (Array.find? (fun x => x.name == "Len") Tryz.t220.methods).map (fun m => (m.path, m.func)) = some (#[], some (110, false)) := by kernel_rfl
theorem rowPop : (Array.find? (fun x => x.name == "Pop") Tryz.t220.methods).map (fun m => (m.path, m.func)) = some (#[], some (304, true)) := by kernel_rfl
theorem rowPush : (Array.find? (fun x => x.name == "Push") Tryz.t220.methods).map (fun m => (m.path, m.func)) = some (#[], some (305, true)) := by kernel_rfl
theorem meth_less (k : Nat) (p : Addr) (a : Option Addr) (n c : Nat) (w : World) (h : w.cell? p = some (.slice a n c)) :
    (method (k + 1) 220 (.pointer (some p)) "Less").run Tryz.prog w = .ok (302, .slice a n c) w := by
  obtain ⟨m, hm, hmm⟩ := Option.map_eq_some_iff.1 rowLess
  simp only [Prod.mk.injEq] at hmm
  unfold method
  simp [go_sem, hm, hmm.1, hmm.2, follow, receiverAt, Place.get, wrapnil, h]
theorem meth_swap (k : Nat) (p : Addr) (a : Option Addr) (n c : Nat) (w : World) (h : w.cell? p = some (.slice a n c)) :
    (method (k + 1) 220 (.pointer (some p)) "Swap").run Tryz.prog w = .ok (303, .slice a n c) w := by
  obtain ⟨m, hm, hmm⟩ := Option.map_eq_some_iff.1 rowSwap
  simp only [Prod.mk.injEq] at hmm
  unfold method
  simp [go_sem, hm, hmm.1, hmm.2, follow, receiverAt, Place.get, wrapnil, h]
theorem meth_len (k : Nat) (p : Addr) (a : Option Addr) (n c : Nat) (w : World) (h : w.cell? p = some (.slice a n c)) :
    (method (k + 1) 220 (.pointer (some p)) "Len").run Tryz.prog w = .ok (110, .slice a n c) w := by
  obtain ⟨m, hm, hmm⟩ := Option.map_eq_some_iff.1 rowLen
  simp only [Prod.mk.injEq] at hmm
  unfold method
  simp [go_sem, hm, hmm.1, hmm.2, follow, receiverAt, Place.get, wrapnil, h]
theorem meth_pop (k : Nat) (p : Addr) (w : World) : (method (k + 1) 220 (.pointer (some p)) "Pop").run Tryz.prog w = .ok (304, .pointer (some p)) w := by
  obtain ⟨m, hm, hmm⟩ := Option.map_eq_some_iff.1 rowPop
  simp only [Prod.mk.injEq] at hmm
  unfold method
  simp [go_sem, hm, hmm.1, hmm.2, follow, receiverAt, Place.get]
theorem meth_push (k : Nat) (p : Addr) (w : World) : (method (k + 1) 220 (.pointer (some p)) "Push").run Tryz.prog w = .ok (305, .pointer (some p)) w := by
  obtain ⟨m, hm, hmm⟩ := Option.map_eq_some_iff.1 rowPush
  simp only [Prod.mk.injEq] at hmm
  unfold method
  simp [go_sem, hm, hmm.1, hmm.2, follow, receiverAt, Place.get]

set_option maxHeartbeats 400000 in
theorem less_any (w : World) (g n cap i j : Nat) (A : Nat → Int) (hi : i < n) (hj : j < n) (_hn : n ≤ 10000) (hA : ∀ k, k < n → w.cell? ⟨g, k, none⟩ = some (.int .i64 (A k)))
    (R : Ending → World → Prop) (fin : ∀ m, R (.returned (.bool (decide (A i < A j)))) (w.drewN m)) :
    Calls Tryz.prog 302 #[.slice (some ⟨g, 0, none⟩) n cap, .int .i64 (i : Int), .int .i64 (j : Int)] w R := by
  have ci := hA i hi
  have cj := hA j hj
  have i1 : (i : Int) < (n : Int) := by omega
  have j1 : (j : Int) < (n : Int) := by omega
  replace fin := hd fin
  replace hA := hd hA
  go_enter Tryz.func302, Tryz.ntmps302
  go_wp2
  go_quiet (fail)
  go_wp2
  exact cl1 (fin.out _) rfl

set_option maxHeartbeats 400000 in
theorem swap_any (w : World) (g n cap i j : Nat) (A : Nat → Int) (hi : i < n) (hj : j < n) (_hn : n ≤ 10000) (hA : ∀ k, k < n → w.cell? ⟨g, k, none⟩ = some (.int .i64 (A k))) (hf : ∀ k, w.frozen? ⟨g, k, none⟩ = false)
    (R : Ending → World → Prop) (fin : R (.returned (.tuple #[])) ((w.setCell ⟨g, i, none⟩ (.int .i64 (A j))).setCell ⟨g, j, none⟩ (.int .i64 (A i))).drew) :
    Calls Tryz.prog 303 #[.slice (some ⟨g, 0, none⟩) n cap, .int .i64 (i : Int), .int .i64 (j : Int)] w R := by
  have ci := hA i hi
  have cj := hA j hj
  have i1 : (i : Int) < (n : Int) := by omega
  have j1 : (j : Int) < (n : Int) := by omega
  have fi := hf i
  have fj := hf j
  replace fin := hd fin
  replace hA := hd hA
  go_enter Tryz.func303, Tryz.ntmps303
  by_cases hij : i = j
  · subst hij
    have c2 : ∀ v, (w.setCell ⟨g, i, none⟩ v).cell? ⟨g, i, none⟩ = some v := fun v => World.cell?_setCell_same _ _ _ ci
    go_wp2
    go_region
    all_goals go_wp2
    all_goals go_end0
    all_goals exact fin.out
  · have hji : ¬ j = i := fun h => hij h.symm
    go_wp2
    go_region
    all_goals go_wp2
    all_goals go_end0
    all_goals exact fin.out


end Go.Proofs.YtidhiaaicmfabaaGreatDoor

/- The contract of container/heap's up over the heap of instructions. -/
namespace Go.Proofs.YtidhiaaicmfabaaGreatDoor
open Go.RowKit Go.Proofs Go.Deep

/-- n numbers lie in block g, and may be written. -/
def Rw (w : World) (g cap n : Nat) (A : Nat → Int) : Prop := (∀ k, k < n → w.cell? ⟨g, k, none⟩ = some (.int .i64 (A k))) ∧ (∀ k, w.frozen? ⟨g, k, none⟩ = false) ∧ (∃ cur : Array Value, w.heap[g]? = some (.cells cur 3 (0, 0)) ∧ cur.size = cap)
theorem shape_set {w : World} {g cap i : Nat} {v : Value} (h : ∃ cur : Array Value, w.heap[g]? = some (.cells cur 3 (0, 0)) ∧ cur.size = cap) : ∃ cur : Array Value, (w.setCell ⟨g, i, none⟩ v).heap[g]? = some (.cells cur 3 (0, 0)) ∧ cur.size = cap := by
  obtain ⟨cur, hg, hc⟩ := h
  exact ⟨cur.setIfInBounds i v, by simp [World.setCell, Array.getElem?_modify, hg], by simpa using hc⟩
def swapF (A : Nat → Int) (i j : Nat) : Nat → Int := fun k => if k = j then A i else if k = i then A j else A k
def Heap (A : Nat → Int) (n : Nat) : Prop := ∀ i, 0 < i → i < n → A ((i - 1) / 2) ≤ A i
/-- The same numbers, and if they were all unlike they are still. -/
def Same (A B : Nat → Int) (n : Nat) : Prop := (∀ v, (∃ i, i < n ∧ A i = v) ↔ (∃ i, i < n ∧ B i = v)) ∧ ((∀ i j, i < n → j < n → A i = A j → i = j) → ∀ i j, i < n → j < n → B i = B j → i = j)
def HUp (A : Nat → Int) (n j : Nat) : Prop := (∀ i, 0 < i → i < n → i ≠ j → A ((i - 1) / 2) ≤ A i) ∧ (∀ i, 0 < i → i < n → (i - 1) / 2 = j → 0 < j → A ((j - 1) / 2) ≤ A i)
theorem Same.refl (A : Nat → Int) (n : Nat) : Same A A n := ⟨fun _ => Iff.rfl, fun h => h⟩
theorem Same.trans {A B C : Nat → Int} {n : Nat} (h : Same A B n) (k : Same B C n) : Same A C n := ⟨fun v => (h.1 v).trans (k.1 v), fun hi => k.2 (h.2 hi)⟩
theorem Same.swap (A : Nat → Int) {n i j : Nat} (hi : i < n) (hj : j < n) : Same A (swapF A i j) n := by
  have key : ∀ k, k < n → ∃ k', k' < n ∧ swapF A i j k' = A k := by
    intro k hk
    by_cases e1 : k = i
    · subst e1; exact ⟨j, hj, by simp [swapF]⟩
    · by_cases e2 : k = j
      · subst e2
        by_cases e3 : i = k
        · exact ⟨i, hi, by simp [swapF, e3]⟩
        · exact ⟨i, hi, by simp [swapF, e3]⟩
      · exact ⟨k, hk, by simp [swapF, e1, e2]⟩
  have key2 : ∀ k, k < n → ∃ k', k' < n ∧ A k' = swapF A i j k ∧ (k' = if k = j then i else if k = i then j else k) := by
    intro k hk
    by_cases e1 : k = j
    · exact ⟨i, hi, by simp [swapF, e1], by simp [e1]⟩
    · by_cases e2 : k = i
      · subst e2; exact ⟨j, hj, by simp [swapF, e1], by simp [e1]⟩
      · exact ⟨k, hk, by simp [swapF, e1, e2], by simp [e1, e2]⟩
  constructor
  · intro v
    constructor
    · rintro ⟨k, hk, rfl⟩; exact key k hk
    · rintro ⟨k, hk, rfl⟩
      obtain ⟨k', h1, h2, _⟩ := key2 k hk
      exact ⟨k', h1, h2⟩
  · intro hinj a b ha hb hab
    obtain ⟨a', ha1, ha2, ha3⟩ := key2 a ha
    obtain ⟨b', hb1, hb2, hb3⟩ := key2 b hb
    have := hinj a' b' ha1 hb1 (by rw [ha2, hb2, hab])
    rw [ha3, hb3] at this
    (repeat' split at this) <;> omega
theorem Rw.swap {w : World} {g cap n i j : Nat} {A : Nat → Int} (h : Rw w g cap n A) (hi : i < n) (hj : j < n) :
    Rw ((w.setCell ⟨g, i, none⟩ (.int .i64 (A j))).setCell ⟨g, j, none⟩ (.int .i64 (A i))) g cap n (swapF A i j) := by
  refine ⟨?_, ?_, shape_set (shape_set h.2.2)⟩
  · intro k hk
    unfold swapF
    by_cases e1 : k = j
    · subst e1
      rw [if_pos rfl]
      by_cases e2 : i = k
      · subst e2
        exact World.cell?_setCell_same _ _ _ (World.cell?_setCell_same _ _ _ (h.1 i hi))
      · exact World.cell?_setCell_same _ _ _ ((World.cell?_setCell_other _ _ _ _ (by first | (simp; done) | (simp; omega))).trans (h.1 k hk))
    · rw [if_neg e1, World.cell?_setCell_other _ _ _ _ (by first | (simp; done) | (simp; omega))]
      by_cases e2 : k = i
      · subst e2; rw [if_pos rfl]; exact World.cell?_setCell_same _ _ _ (h.1 k hk)
      · rw [if_neg e2, World.cell?_setCell_other _ _ _ _ (by first | (simp; done) | (simp; omega))]; exact h.1 k hk
  · intro k
    simp [h.2.1 k]
theorem HUp.done0 {A : Nat → Int} {n : Nat} (h : HUp A n 0) : Heap A n := fun i h0 hi => h.1 i h0 hi (by omega)
theorem HUp.done {A : Nat → Int} {n j : Nat} (h : HUp A n j) (hj : 0 < j) (hle : A ((j - 1) / 2) ≤ A j) : Heap A n := fun i h0 hi => by
  by_cases e : i = j
  · subst e; exact hle
  · exact h.1 i h0 hi e
theorem HUp.next {A : Nat → Int} {n j : Nat} (h : HUp A n j) (hj : 0 < j) (hjn : j < n) (hlt : A j < A ((j - 1) / 2)) : HUp (swapF A ((j - 1) / 2) j) n ((j - 1) / 2) := by
  have hp : (j - 1) / 2 ≠ j := by omega
  constructor
  · intro i h0 hi hne
    by_cases e : i = j
    · subst e; unfold swapF; simp [hp]; omega
    · by_cases e2 : (i - 1) / 2 = j
      · have h1 := h.2 i h0 hi e2 hj
        unfold swapF; simp [e, e2, hne]; exact h1
      · by_cases e3 : (i - 1) / 2 = (j - 1) / 2
        · have h1 := h.1 i h0 hi e
          rw [e3] at h1
          unfold swapF; simp [e, e3, hne, hp]; omega
        · have h1 := h.1 i h0 hi e
          unfold swapF; simp [e, e2, e3, hne]; exact h1
  · intro i h0 hi hpar hp0
    have hh : A (((j - 1) / 2 - 1) / 2) ≤ A ((j - 1) / 2) := h.1 ((j - 1) / 2) hp0 (by omega) hp
    have q1 : ((j - 1) / 2 - 1) / 2 ≠ j := by omega
    have q2 : ((j - 1) / 2 - 1) / 2 ≠ (j - 1) / 2 := by omega
    by_cases e : i = j
    · subst e; unfold swapF; simp [q1, q2]; exact hh
    · have h1 := h.1 i h0 hi e
      rw [hpar] at h1
      have e4 : i ≠ (j - 1) / 2 := by omega
      unfold swapF; simp [q1, q2, e, e4]; omega

set_option maxRecDepth 100000 in
set_option maxHeartbeats 1000000 in
theorem up_any (w : World) (p : Addr) (g n cap j : Nat) (A : Nat → Int) (hj : j < n) (hn : n ≤ 10000) (hpg : p.block ≠ g) (hp : w.cell? p = some (.slice (some ⟨g, 0, none⟩) n cap)) (hA : Rw w g cap n A) (hh : HUp A n j)
    (R : Ending → World → Prop) (fin : ∀ A' w', Only g w w' → Rw w' g cap n A' → Heap A' n → Same A A' n → R (.returned (.tuple #[])) w') :
    Calls Tryz.prog 216 #[.iface 220 (.pointer (some p)), .int .i64 (j : Int)] w R := by
  have hpb : p.block < w.heap.size := World.block_lt_of_cell? w _ hp
  replace fin := hd fin
  replace hA := hd hA
  replace hh := hd hh
  go_enter Tryz.func216, Tryz.ntmps216
  go_wp2
  go_loopw [1] (fun i wr => ∃ (k : Nat) (B : Nat → Int), i = .int .i64 k ∧ k < n ∧ Only g w wr ∧ Rw wr g cap n B ∧ HUp B n k ∧ Same A B n) (fun i _ => (intOf i).toNat)
  case atStart => exact ⟨j, A, rfl, hj, Only.refl _ _, hA.out, hh.out, Same.refl _ _⟩
  case round =>
    obtain ⟨k, B, rfl, hk, honly, hB, hH, hS⟩ := hrel
    have hp' : wr.cell? p = some (.slice (some ⟨g, 0, none⟩) n cap) := by rw [honly.cell hpb hpg]; exact hp
    replace honly := hd honly
    replace hB := hd hB
    replace hH := hd hH
    replace hS := hd hS
    have k1 : (k : Int) ≤ 10000 := by omega
    by_cases hk0 : k = 0
    · subst hk0
      go_wp2_with (fail)
      go_end0
      exact fin.out B wr honly.out hB.out (HUp.done0 hH.out) hS.out
    · obtain ⟨q, hq⟩ : ∃ q : Nat, (k - 1) / 2 = q := ⟨_, rfl⟩
      have e1 : (1 : Int) ≤ k := by omega
      have eq : ((k : Int) - 1) / 2 = (q : Int) := by omega
      have eb : ((q : Int) == (k : Int)) = false := by simp; omega
      have hml := meth_less 504 p _ _ _ _ hp'
      have hBq := hB.out
      go_wp2_with (fail)
      refine less_any _ g n cap k q B hk (by omega) hn hBq.1 _ ?_
      intro m
      replace hBq := hd hBq
      have hms := meth_swap 504 p _ _ _ (wr.drewN m) hp'
      by_cases hless : B k < B q
      · have dl : decide (B k < B q) = true := by simpa using hless
        go_wp2_with (fail)
        refine swap_any (wr.drewN m) g n cap q k B (by omega) hk hn (show ∀ k, k < n → (wr.drewN m).cell? ⟨g, k, none⟩ = some (.int .i64 (B k)) from hB.out.1) (show ∀ k, (wr.drewN m).frozen? ⟨g, k, none⟩ = false from hB.out.2.1) _ ?_
        go_wp2
        refine ⟨⟨q, swapF B q k, rfl, by omega, (((honly.out.drewN _).setCell (a := ⟨g, q, none⟩) (.inl rfl) _).setCell (a := ⟨g, k, none⟩) (.inl rfl) _).drew, ?_, ?_, ?_⟩, by simp [intOf]; omega⟩
        · exact Rw.swap (w := wr.drewN m) hB.out (by omega) hk
        · have := hH.out.next (by omega) hk (by rw [hq]; exact hless)
          rw [hq] at this
          exact this
        · exact hS.out.trans (Same.swap B (by omega) hk)
      · have dl : decide (B k < B q) = false := by simpa using hless
        go_wp2_with (fail)
        go_end0
        exact fin.out B _ (honly.out.drewN _) hB.out (HUp.done hH.out (by omega) (by rw [hq]; omega)) hS.out

end Go.Proofs.YtidhiaaicmfabaaGreatDoor

/- The contract of container/heap's down over the heap of instructions. -/
namespace Go.Proofs.YtidhiaaicmfabaaGreatDoor
open Go.RowKit Go.Proofs Go.Deep

theorem lessI (w : World) (g n cap i j : Nat) (ii jj : Int) (A : Nat → Int) (hii : ii = (i : Int)) (hjj : jj = (j : Int)) (hi : i < n) (hj : j < n) (hn : n ≤ 10000) (hA : ∀ k, k < n → w.cell? ⟨g, k, none⟩ = some (.int .i64 (A k)))
    (R : Ending → World → Prop) (fin : ∀ m, R (.returned (.bool (decide (A i < A j)))) (w.drewN m)) :
    Calls Tryz.prog 302 #[.slice (some ⟨g, 0, none⟩) n cap, .int .i64 ii, .int .i64 jj] w R := by
  subst hii hjj; exact less_any w g n cap i j A hi hj hn hA R fin
theorem swapI (w : World) (g n cap i j : Nat) (ii jj : Int) (A : Nat → Int) (hii : ii = (i : Int)) (hjj : jj = (j : Int)) (hi : i < n) (hj : j < n) (hn : n ≤ 10000) (hA : ∀ k, k < n → w.cell? ⟨g, k, none⟩ = some (.int .i64 (A k))) (hf : ∀ k, w.frozen? ⟨g, k, none⟩ = false)
    (R : Ending → World → Prop) (fin : R (.returned (.tuple #[])) ((w.setCell ⟨g, i, none⟩ (.int .i64 (A j))).setCell ⟨g, j, none⟩ (.int .i64 (A i))).drew) :
    Calls Tryz.prog 303 #[.slice (some ⟨g, 0, none⟩) n cap, .int .i64 ii, .int .i64 jj] w R := by
  subst hii hjj; exact swap_any w g n cap i j A hi hj hn hA hf R fin
def HDn (A : Nat → Int) (n i : Nat) : Prop := (∀ c, 0 < c → c < n → (c - 1) / 2 ≠ i → A ((c - 1) / 2) ≤ A c) ∧ (∀ c, 0 < c → c < n → (c - 1) / 2 = i → 0 < i → A ((i - 1) / 2) ≤ A c)
theorem HDn.leaf {A : Nat → Int} {n i : Nat} (h : HDn A n i) (hl : n ≤ 2 * i + 1) : Heap A n := fun c h0 hc => h.1 c h0 hc (by omega)
theorem HDn.done {A : Nat → Int} {n i : Nat} (h : HDn A n i) (h1 : 2 * i + 1 < n → A i ≤ A (2 * i + 1)) (h2 : 2 * i + 2 < n → A i ≤ A (2 * i + 2)) : Heap A n := fun c h0 hc => by
  by_cases e : (c - 1) / 2 = i
  · rw [e]
    have : c = 2 * i + 1 ∨ c = 2 * i + 2 := by omega
    rcases this with rfl | rfl
    · exact h1 hc
    · exact h2 hc
  · exact h.1 c h0 hc e
theorem HDn.next {A : Nat → Int} {n i c : Nat} (h : HDn A n i) (hc : c = 2 * i + 1 ∨ c = 2 * i + 2) (hcn : c < n) (hlt : A c < A i) (hmin : ∀ d, (d = 2 * i + 1 ∨ d = 2 * i + 2) → d < n → A c ≤ A d) : HDn (swapF A i c) n c := by
  have hci : c ≠ i := by omega
  have hpc : (c - 1) / 2 = i := by omega
  constructor
  · intro d h0 hd hne
    by_cases e : d = c
    · subst e; rw [hpc]; unfold swapF; simp [Ne.symm hci]; omega
    · by_cases e1 : d = i
      · subst e1
        have q1 : (d - 1) / 2 ≠ d := by omega
        have h2 := h.2 c (by omega) hcn hpc h0
        unfold swapF; simp [e, hne, q1]; exact h2
      · by_cases e2 : (d - 1) / 2 = i
        · have h3 := hmin d (by omega) hd
          unfold swapF; simp [e, e1, e2, Ne.symm hci]; exact h3
        · have h3 := h.1 d h0 hd e2
          unfold swapF; simp [e, e1, e2, hne]; exact h3
  · intro d h0 hd hpd _
    rw [hpc]
    have e : d ≠ c := by omega
    have e1 : d ≠ i := by omega
    have h3 := h.1 d h0 hd (by omega)
    rw [hpd] at h3
    unfold swapF; simp [e, e1, Ne.symm hci]; exact h3
theorem Same.swapN (A : Nat → Int) {n N i j : Nat} (hi : i < n) (hj : j < n) (_ : n ≤ N) : Same A (swapF A i j) n ∧ (∀ k, n ≤ k → swapF A i j k = A k) :=
  ⟨Same.swap A hi hj, fun k hk => by unfold swapF; rw [if_neg (by omega), if_neg (by omega)]⟩

set_option maxRecDepth 100000 in
set_option maxHeartbeats 4000000 in
theorem down_any (w : World) (p : Addr) (g N n cap j0 : Nat) (A : Nat → Int) (hj : j0 ≤ n) (hnN : n ≤ N) (hN : N ≤ 10000) (hpg : p.block ≠ g) (hp : w.cell? p = some (.slice (some ⟨g, 0, none⟩) N cap)) (hA : Rw w g cap N A) (hh : HDn A n j0)
    (R : Ending → World → Prop) (fin : ∀ (b : Bool) A' w', Only g w w' → Rw w' g cap N A' → Heap A' n → Same A A' n → (∀ k, n ≤ k → A' k = A k) → R (.returned (.bool b)) w') :
    Calls Tryz.prog 185 #[.iface 220 (.pointer (some p)), .int .i64 (j0 : Int), .int .i64 (n : Int)] w R := by
  have hpb : p.block < w.heap.size := World.block_lt_of_cell? w _ hp
  replace fin := hd fin
  replace hA := hd hA
  replace hh := hd hh
  go_enter Tryz.func185, Tryz.ntmps185
  go_wp2
  go_loopw [7] (fun i wr => ∃ (k : Nat) (B : Nat → Int), i = .int .i64 k ∧ k ≤ n ∧ Only g w wr ∧ Rw wr g cap N B ∧ HDn B n k ∧ Same A B n ∧ (∀ k, n ≤ k → B k = A k)) (fun i _ => n - (intOf i).toNat)
  case atStart => exact ⟨j0, A, rfl, hj, Only.refl _ _, hA.out, hh.out, Same.refl _ _, fun _ _ => rfl⟩
  case round =>
    obtain ⟨k, B, rfl, hk, honly, hB, hH, hS, hT⟩ := hrel
    have hp' : wr.cell? p = some (.slice (some ⟨g, 0, none⟩) N cap) := by rw [honly.cell hpb hpg]; exact hp
    replace honly := hd honly
    replace hB := hd hB
    replace hH := hd hH
    replace hS := hd hS
    replace hT := hd hT
    have k1 : (k : Int) ≤ 10000 := by omega
    have d0 : decide (2 * (k : Int) + 1 < 0) = false := by simp; omega
    by_cases hleaf : n ≤ 2 * k + 1
    · have d1 : decide ((n : Int) ≤ 2 * (k : Int) + 1) = true := by simp; omega
      go_wp2_with (fail)
      exact cl1 (fin.out _ B wr honly.out hB.out (HDn.leaf hH.out hleaf) hS.out hT.out) rfl
    · have d1 : decide ((n : Int) ≤ 2 * (k : Int) + 1) = false := by simp; omega
      have hml := fun m => meth_less 504 p _ _ _ (wr.drewN m) hp'
      have hml0 := meth_less 504 p _ _ _ wr hp'
      have hms := fun m => meth_swap 504 p _ _ _ (wr.drewN m) hp'
      by_cases h2 : 2 * k + 2 < n
      · have d2 : decide (2 * (k : Int) + 1 + 1 < (n : Int)) = true := by simp; omega
        go_wp2_with (fail)
        refine lessI _ g N cap (2 * k + 2) (2 * k + 1) _ _ B (by omega) (by omega) (by omega) (by omega) hN hB.out.1 _ ?_
        intro m
        by_cases hl : B (2 * k + 2) < B (2 * k + 1)
        · have dl : decide (B (2 * k + 2) < B (2 * k + 1)) = true := by simpa using hl
          go_wp2_with (fail)
          refine lessI _ g N cap (2 * k + 2) k _ _ B (by omega) rfl (by omega) (by omega) hN (by exact hB.out.1) _ ?_
          intro m2
          by_cases hl2 : B (2 * k + 2) < B k
          · have dl2 : decide (B (2 * k + 2) < B k) = true := by simpa using hl2
            go_wp2_with (fail)
            refine swapI _ g N cap k (2 * k + 2) _ _ B rfl (by omega) (by omega) (by omega) hN (by exact hB.out.1) (by exact hB.out.2.1) _ ?_
            go_wp2
            refine ⟨⟨2 * k + 2, swapF B k (2 * k + 2), by go_num, by omega, ?_, ?_, ?_, ?_, ?_⟩, by simp [intOf]; omega⟩
            · exact (((honly.out.drewN _).setCell (a := ⟨g, k, none⟩) (.inl rfl) _).setCell (a := ⟨g, 2 * k + 2, none⟩) (.inl rfl) _).drew
            · exact Rw.swap (w := wr) hB.out (by omega) (by omega)
            · exact hH.out.next (by omega) (by omega) hl2 (fun d hd1 hdn => by rcases hd1 with rfl | rfl <;> omega)
            · exact hS.out.trans (Same.swap B (by omega) (by omega))
            · intro q hq
              rw [(Same.swapN B (n := n) (N := N) (i := k) (j := 2 * k + 2) (by omega) (by omega) hnN).2 q hq]
              exact hT.out q hq
          · have dl2 : decide (B (2 * k + 2) < B k) = false := by simpa using hl2
            go_wp2_with (fail)
            exact cl1 (fin.out _ B _ (honly.out.drewN _) hB.out (HDn.done hH.out (fun _ => by omega) (fun _ => by omega)) hS.out hT.out) rfl
        · have dl : decide (B (2 * k + 2) < B (2 * k + 1)) = false := by simpa using hl
          go_wp2_with (fail)
          refine lessI _ g N cap (2 * k + 1) k _ _ B (by omega) rfl (by omega) (by omega) hN (by exact hB.out.1) _ ?_
          intro m2
          by_cases hl2 : B (2 * k + 1) < B k
          · have dl2 : decide (B (2 * k + 1) < B k) = true := by simpa using hl2
            go_wp2_with (fail)
            refine swapI _ g N cap k (2 * k + 1) _ _ B rfl (by omega) (by omega) (by omega) hN (by exact hB.out.1) (by exact hB.out.2.1) _ ?_
            go_wp2
            refine ⟨⟨2 * k + 1, swapF B k (2 * k + 1), by go_num, by omega, ?_, ?_, ?_, ?_, ?_⟩, by simp [intOf]; omega⟩
            · exact (((honly.out.drewN _).setCell (a := ⟨g, k, none⟩) (.inl rfl) _).setCell (a := ⟨g, 2 * k + 1, none⟩) (.inl rfl) _).drew
            · exact Rw.swap (w := wr) hB.out (by omega) (by omega)
            · exact hH.out.next (by omega) (by omega) hl2 (fun d hd1 hdn => by rcases hd1 with rfl | rfl <;> omega)
            · exact hS.out.trans (Same.swap B (by omega) (by omega))
            · intro q hq
              rw [(Same.swapN B (n := n) (N := N) (i := k) (j := 2 * k + 1) (by omega) (by omega) hnN).2 q hq]
              exact hT.out q hq
          · have dl2 : decide (B (2 * k + 1) < B k) = false := by simpa using hl2
            go_wp2_with (fail)
            exact cl1 (fin.out _ B _ (honly.out.drewN _) hB.out (HDn.done hH.out (fun _ => by omega) (fun _ => by omega)) hS.out hT.out) rfl
      · have d2 : decide (2 * (k : Int) + 1 + 1 < (n : Int)) = false := by simp; omega
        go_wp2_with (fail)
        refine lessI _ g N cap (2 * k + 1) k _ _ B (by omega) rfl (by omega) (by omega) hN (by exact hB.out.1) _ ?_
        intro m2
        by_cases hl2 : B (2 * k + 1) < B k
        · have dl2 : decide (B (2 * k + 1) < B k) = true := by simpa using hl2
          go_wp2_with (fail)
          refine swapI _ g N cap k (2 * k + 1) _ _ B rfl (by omega) (by omega) (by omega) hN (by exact hB.out.1) (by exact hB.out.2.1) _ ?_
          go_wp2
          refine ⟨⟨2 * k + 1, swapF B k (2 * k + 1), by go_num, by omega, ?_, ?_, ?_, ?_, ?_⟩, by simp [intOf]; omega⟩
          · exact (((honly.out.drewN _).setCell (a := ⟨g, k, none⟩) (.inl rfl) _).setCell (a := ⟨g, 2 * k + 1, none⟩) (.inl rfl) _).drew
          · exact Rw.swap (w := wr) hB.out (by omega) (by omega)
          · exact hH.out.next (by omega) (by omega) hl2 (fun d hd1 hdn => by rcases hd1 with rfl | rfl <;> omega)
          · exact hS.out.trans (Same.swap B (by omega) (by omega))
          · intro q hq
            rw [(Same.swapN B (n := n) (N := N) (i := k) (j := 2 * k + 1) (by omega) (by omega) hnN).2 q hq]
            exact hT.out q hq
        · have dl2 : decide (B (2 * k + 1) < B k) = false := by simpa using hl2
          go_wp2_with (fail)
          exact cl1 (fin.out _ B _ (honly.out.drewN _) hB.out (HDn.done hH.out (fun _ => by omega) (fun _ => by exfalso; omega)) hS.out hT.out) rfl

end Go.Proofs.YtidhiaaicmfabaaGreatDoor

/- The contracts of Len and Pop of the heap of instructions, and of container/heap's Pop. -/
namespace Go.Proofs.YtidhiaaicmfabaaGreatDoor
open Go.RowKit Go.Proofs Go.Deep

set_option maxHeartbeats 400000 in
theorem fpop_any (w : World) (pb po : Nat) (g N cap : Nat) (A : Nat → Int) (hN0 : 0 < N) (hN : N ≤ 10000) (hcap : N ≤ cap) (_hpg : pb ≠ g) (hp : w.cell? ⟨pb, po, none⟩ = some (.slice (some ⟨g, 0, none⟩) N cap)) (hf : w.frozen? ⟨pb, po, none⟩ = false) (hA : Rw w g cap N A)
    (R : Ending → World → Prop) (fin : R (.returned (.iface 3 (.int .i64 (A (N - 1))))) (w.setCell ⟨pb, po, none⟩ (.slice (some ⟨g, 0, none⟩) (N - 1) cap))) :
    Calls Tryz.prog 304 #[.pointer (some ⟨pb, po, none⟩)] w R := by
  obtain ⟨M, rfl⟩ : ∃ M, N = M + 1 := ⟨N - 1, by omega⟩
  have cl := hA.1 M (by omega)
  have e : M + 1 - 1 = M := by omega
  rw [e] at fin
  clear e
  replace fin := hd fin
  replace hA := hd hA
  go_enter Tryz.func304, Tryz.ntmps304
  go_wp2
  exact cl1 fin.out rfl
set_option maxHeartbeats 400000 in
theorem len_any (w : World) (a : Option Addr) (n c : Nat) (R : Ending → World → Prop) (fin : R (.returned (.int .i64 n)) w) :
    Calls Tryz.prog 110 #[.slice a n c] w R := by
  replace fin := hd fin
  go_enter Tryz.func110, Tryz.ntmps110
  go_wp2
  exact cl1 fin.out rfl

theorem HDn.of_swap {A : Nat → Int} {M : Nat} (h : Heap A (M + 1)) : HDn (swapF A 0 M) M 0 := by
  constructor
  · intro c h0 hc hne
    have h1 := h c h0 (by omega)
    have q1 : c ≠ M := by omega
    have q2 : (c - 1) / 2 ≠ M := by omega
    have q3 : c ≠ 0 := by omega
    unfold swapF; simp only [q1, q2, q3, hne, if_false]; exact h1
  · intro c _ _ _ h0; omega

set_option maxRecDepth 100000 in
set_option maxHeartbeats 1000000 in
theorem hpop_any (w : World) (pb po : Nat) (g N cap : Nat) (A : Nat → Int) (hN0 : 0 < N) (hN : N ≤ 10000) (hcap : N ≤ cap) (hpg : pb ≠ g) (hp : w.cell? ⟨pb, po, none⟩ = some (.slice (some ⟨g, 0, none⟩) N cap)) (hf : w.frozen? ⟨pb, po, none⟩ = false) (hA : Rw w g cap N A) (hh : Heap A N)
    (R : Ending → World → Prop)
    (fin : ∀ A' w1, Only g w w1 → Rw w1 g cap N A' → Heap A' (N - 1) → Same (swapF A 0 (N - 1)) A' (N - 1) → R (.returned (.iface 3 (.int .i64 (A 0)))) (w1.setCell ⟨pb, po, none⟩ (.slice (some ⟨g, 0, none⟩) (N - 1) cap))) :
    Calls Tryz.prog 112 #[.iface 220 (.pointer (some ⟨pb, po, none⟩))] w R := by
  obtain ⟨M, rfl⟩ : ∃ M, N = M + 1 := ⟨N - 1, by omega⟩
  have e : M + 1 - 1 = M := by omega
  rw [e] at fin
  clear e
  have hpb : pb < w.heap.size := World.block_lt_of_cell? w _ hp
  replace fin := hd fin
  replace hh := hd hh
  have hml := meth_len 504 ⟨pb, po, none⟩ _ _ _ w hp
  have hms := meth_swap 504 ⟨pb, po, none⟩ _ _ _ w hp
  have hmp := meth_pop 504 ⟨pb, po, none⟩
  go_enter Tryz.func112, Tryz.ntmps112
  go_wp2_with (fail)
  refine len_any _ _ _ _ _ ?_
  go_wp2_with (fail)
  refine swapI _ g (M + 1) cap 0 M _ _ A (by simp) (by omega) (by omega) (by omega) hN hA.1 hA.2.1 _ ?_
  have hR1 : Rw ((w.setCell ⟨g, 0, none⟩ (.int .i64 (A M))).setCell ⟨g, M, none⟩ (.int .i64 (A 0))).drew g cap (M + 1) (swapF A 0 M) := Rw.swap hA (by omega) (by omega)
  have hO1 : Only g w ((w.setCell ⟨g, 0, none⟩ (.int .i64 (A M))).setCell ⟨g, M, none⟩ (.int .i64 (A 0))).drew := (((Only.refl g w).setCell (a := ⟨g, 0, none⟩) (.inl rfl) _).setCell (a := ⟨g, M, none⟩) (.inl rfl) _).drew
  generalize ((w.setCell ⟨g, 0, none⟩ (.int .i64 (A M))).setCell ⟨g, M, none⟩ (.int .i64 (A 0))).drew = w2 at *
  have hp2 : w2.cell? ⟨pb, po, none⟩ = some (.slice (some ⟨g, 0, none⟩) (M + 1) cap) := by rw [hO1.cell hpb hpg]; exact hp
  replace hR1 := hd hR1
  replace hO1 := hd hO1
  replace hA := hd hA
  go_wp2_with (fail)
  refine down_any _ ⟨pb, po, none⟩ g (M + 1) M cap 0 (swapF A 0 M) (by omega) (by omega) hN hpg hp2 hR1.out (HDn.of_swap hh.out) _ ?_
  intro bb A' w3 hO3 hR3 hH3 hS3 hT3
  have hp3 : w3.cell? ⟨pb, po, none⟩ = some (.slice (some ⟨g, 0, none⟩) (M + 1) cap) := by rw [hO3.cell (Nat.lt_of_lt_of_le hpb hO1.out.size) hpg]; exact hp2
  have hf3 : w3.frozen? ⟨pb, po, none⟩ = false := by rw [hO3.frozen (Nat.lt_of_lt_of_le hpb hO1.out.size) hpg, hO1.out.frozen hpb hpg]; exact hf
  have hlast : A' M = A 0 := by rw [hT3 M (Nat.le_refl _)]; simp [swapF]
  replace hlast := hd hlast
  replace hR3 := hd hR3
  replace hO3 := hd hO3
  replace hH3 := hd hH3
  replace hS3 := hd hS3
  replace hT3 := hd hT3
  go_wp2_with (fail)
  refine fpop_any _ pb po g (M + 1) cap A' (by omega) hN hcap hpg hp3 hf3 hR3.out _ ?_
  rw [show M + 1 - 1 = M by omega, hlast.out]
  go_wp2
  exact cl1 (fin.out A' w3 (hO1.out.trans hO3.out) hR3.out hH3.out hS3.out) rfl

end Go.Proofs.YtidhiaaicmfabaaGreatDoor

/- The contract of the heap of instructions' own Push. -/
namespace Go.Proofs.YtidhiaaicmfabaaGreatDoor
open Go.RowKit Go.Proofs Go.Deep

theorem ulFirsts : Tryz.prog.underlying 215 = some (.slice 3) := by kernel_rfl
theorem lt_alloc_drew {w : World} {o : Obj} {pb : Nat} (h : pb < w.heap.size) : pb < (w.alloc o).drew.heap.size := by
  have : (w.alloc o).drew.heap.size = w.heap.size + 1 := by simp
  omega
theorem assertInt (x : Int) (w : World) : (Instr.typeAssert (.iface 3 (.int .i64 x)) 20 3 false).run Tryz.prog w = .ok (.int .i64 x) w := by kernel_rfl
set_option maxRecDepth 100000 in
set_option maxHeartbeats 1000000 in
theorem fpush_any (w : World) (pb po base : Nat) (v : Value) (n : Nat) (xs : List Value) (x : Int) (hn : n ≤ 9000) (hpb : pb < base) (hbase : base ≤ w.heap.size) (hp : w.cell? ⟨pb, po, none⟩ = some v) (hf : w.frozen? ⟨pb, po, none⟩ = false)
    (hown : w.ownsRow base 3 1 v n xs) (R : Ending → World → Prop)
    (fin : ∀ g cap w1, w1.ownsRow base 3 1 (.slice (some ⟨g, 0, none⟩) (n + 1) cap) (n + 1) (xs ++ [.int .i64 x]) → (w.alloc (.cells #[.int .i64 x] 3)).drew.grownBy w1 v.ownBlock → R (.returned (.tuple #[])) (w1.setCell ⟨pb, po, none⟩ (.slice (some ⟨g, 0, none⟩) (n + 1) cap))) :
    Calls Tryz.prog 305 #[.pointer (some ⟨pb, po, none⟩), .iface 3 (.int .i64 x)] w R := by
  obtain ⟨i, hi, hz0, hz1, hz2⟩ := info_parts infoInt
  obtain ⟨ao, capo, hv, hcapo, _⟩ := own_form hown
  subst hv
  have hpw : pb < w.heap.size := by omega
  have hob : ∀ k, (Value.slice ao n capo).ownBlock = some k → base ≤ k := fun k hk => (hown.lt k hk).1
  replace hob := hd hob
  replace hown := hd hown
  replace fin := hd fin
  replace hi := hd hi
  replace hz0 := hd hz0
  replace hz1 := hd hz1
  replace hz2 := hd hz2
  have hta := assertInt
  have hS0 : ∀ o, (w.alloc o).drew.cell? ⟨pb, po, none⟩ = some (.slice ao n capo) := fun o => (World.cell?_alloc_lt w o ⟨pb, po, none⟩ hpw).trans hp
  have hS00 : ∀ o, (w.alloc o).drew.frozen? ⟨pb, po, none⟩ = false := fun o => (World.frozen?_of_block (w := w) (w' := (w.alloc o).drew) (a := ⟨pb, po, none⟩) (Below.heap_alloc w o pb hpw)).trans hf
  replace hS0 := hd hS0
  replace hS00 := hd hS00
  go_enter Tryz.func305, Tryz.ntmps305
  go_wp2
  go_region_law (refine step_append_lies _ rfl _ _ 215 rfl base 3 i (.int .i64 0) 1 8 ulFirsts hi.out hz0.out hz1.out hz2.out rfl (by decide) _ n xs rfl (by first | exact hown.out.alloc _ | exact own_drew (hown.out.alloc _)) ⟨w.heap.size, 0, none⟩ 1 1 [.int .i64 x] rfl rfl (by exact cell_one_new _ _ _) (oneC1 _) (by decide) (by unfold maxLen; omega) (by omega) (by simp; omega) _ rfl ?_; intro g cap w1 hown1 hgr1 hat hlt; have hS1 : w1.cell? ⟨pb, po, none⟩ = some (.slice ao n capo) := (World.cell?_of_block (a := ⟨pb, po, none⟩) (hgr1.block pb (lt_alloc_drew hpw) (fun e => by have := hob.out pb e.symm; omega))).trans (hS0.out _); have hS2 : w1.frozen? ⟨pb, po, none⟩ = false := (World.frozen?_of_block (a := ⟨pb, po, none⟩) (hgr1.block pb (lt_alloc_drew hpw) (fun e => by have := hob.out pb e.symm; omega))).trans (hS00.out _); replace hown1 := hd hown1; replace hgr1 := hd hgr1)
  all_goals go_wp2
  all_goals go_end0
  all_goals exact fin.out _ _ _ hown1.out hgr1.out

end Go.Proofs.YtidhiaaicmfabaaGreatDoor

/- container/heap's Push and Pop over the heap of instructions, by what they keep. -/
namespace Go.Proofs.YtidhiaaicmfabaaGreatDoor
open Go.RowKit Go.Proofs Go.Deep

/-- Below base nothing has turned but one cell of block pb. -/
structure Kept (pb po base : Nat) (w w' : World) : Prop where
  os : w'.os = w.os
  tape : w'.tape = w.tape
  output : w'.output = w.output
  size : w.heap.size ≤ w'.heap.size
  block : ∀ k, k < base → k ≠ pb → w'.heap[k]? = w.heap[k]?
  cell : ∀ o, o ≠ po → w'.cell? ⟨pb, o, none⟩ = w.cell? ⟨pb, o, none⟩
  frozen : ∀ o, w'.frozen? ⟨pb, o, none⟩ = w.frozen? ⟨pb, o, none⟩
section
variable {pb po base : Nat} {w w' w'' : World}
theorem Kept.refl (pb po base : Nat) (w : World) : Kept pb po base w w := ⟨rfl, rfl, rfl, Nat.le_refl _, fun _ _ _ => rfl, fun _ _ => rfl, fun _ => rfl⟩
theorem Kept.trans (h : Kept pb po base w w') (k : Kept pb po base w' w'') : Kept pb po base w w'' :=
  ⟨k.os.trans h.os, k.tape.trans h.tape, k.output.trans h.output, Nat.le_trans h.size k.size, fun i hi hb => (k.block i hi hb).trans (h.block i hi hb), fun o ho => (k.cell o ho).trans (h.cell o ho), fun o => (k.frozen o).trans (h.frozen o)⟩
theorem Kept.of_only {g : Nat} (h : Only g w w') (hg : base ≤ g) (hpb : pb < base) (hb : base ≤ w.heap.size) : Kept pb po base w w' :=
  ⟨h.os, h.tape, h.output, h.size, fun k hk _ => h.block k (by omega) (by omega), fun o _ => h.cell (p := ⟨pb, o, none⟩) (show pb < _ by omega) (show pb ≠ g by omega), fun o => h.frozen (p := ⟨pb, o, none⟩) (show pb < _ by omega) (show pb ≠ g by omega)⟩
theorem Kept.of_below (h : Below w.heap.size w w') (hpb : pb < base) (hb : base ≤ w.heap.size) : Kept pb po base w w' :=
  ⟨h.os, h.tape, h.output, h.size, fun k hk _ => h.block k (by omega), fun o _ => h.cell (p := ⟨pb, o, none⟩) (show pb < _ by omega), fun o => h.frozen (p := ⟨pb, o, none⟩) (show pb < _ by omega)⟩
theorem Kept.of_grown {row : Option Nat} (h : w.grownBy w' row) (hr : ∀ k, row = some k → base ≤ k) (hpb : pb < base) (hb : base ≤ w.heap.size) : Kept pb po base w w' :=
  ⟨h.os, h.tape, h.output, h.size, fun k hk _ => h.block k (by omega) (fun e => by have := hr k e.symm; omega), fun o _ => World.cell?_of_block (h.block pb (by omega) (fun e => by have := hr pb e.symm; omega)),
   fun o => World.frozen?_of_block (h.block pb (by omega) (fun e => by have := hr pb e.symm; omega))⟩
theorem Kept.set (w : World) (v : Value) : Kept pb po base w (w.setCell ⟨pb, po, none⟩ v) :=
  ⟨rfl, rfl, rfl, by simp [World.setCell], fun k _ hk => Below.heap_setCell _ _ _ _ hk, fun o ho => World.cell?_setCell_other _ _ _ _ (by first | (simp; done) | (simp; omega)), fun o => by simp⟩
end
def valsOf (A : Nat → Int) (n : Nat) : List Value := (List.range n).map fun k => Value.int .i64 (A k)
theorem valsOf_at (A : Nat → Int) (n k : Nat) (hk : k < n) : (valsOf A n)[k]? = some (.int .i64 (A k)) := by simp [valsOf, hk]
theorem valsOf_push (A : Nat → Int) (n : Nat) (x : Int) : valsOf A n ++ [Value.int .i64 x] = valsOf (fun k => if k = n then x else A k) (n + 1) := by
  unfold valsOf
  rw [List.range_succ, List.map_append]
  congr 1
  · refine List.map_congr_left fun k hk => ?_
    have : k < n := by simpa using hk
    simp only [show ¬ k = n by omega, if_false]
  · simp
/-- The heap of instructions that lies at cell po of block pb: m numbers A in memory of its own, from base on. -/
def WH (w : World) (pb po base m : Nat) (A : Nat → Int) : Prop := ∃ v, w.cell? ⟨pb, po, none⟩ = some v ∧ w.ownsRow base 3 1 v m (valsOf A m)
theorem own_rw {w : World} {base g n cap : Nat} {A : Nat → Int} (h : w.ownsRow base 3 1 (.slice (some ⟨g, 0, none⟩) n cap) n (valsOf A n)) : Rw w g cap n A ∧ base ≤ g ∧ n ≤ cap ∧ cap ≤ maxLen := by
  obtain ⟨hl, h2⟩ := h
  rcases h2 with ⟨h3, _⟩ | ⟨g', cap', cur, h3, hb, hg, hn, hm, hcs, htake⟩
  · cases h3
  · injection h3 with e1 e2 e3
    injection e1 with e1
    injection e1 with e1
    subst e1; subst e3
    refine ⟨⟨fun k hk => ?_, fun k => by simp [World.frozen?, hg], cur, hg, by simpa using hcs⟩, hb, hn, hm⟩
    rw [cell_of_row w g k cur _ (0, 0) hg]
    have h5 : (cur.toList.take (n * 1))[k]? = some (.int .i64 (A k)) := by rw [htake]; exact valsOf_at A n k hk
    rw [List.getElem?_take] at h5
    split at h5
    · simpa using h5
    · cases h5
theorem rw_own {w : World} {base g n cap : Nat} {A : Nat → Int} (h : Rw w g cap n A) (hb : base ≤ g) (hn : n ≤ cap) (hm : cap ≤ maxLen) : w.ownsRow base 3 1 (.slice (some ⟨g, 0, none⟩) n cap) n (valsOf A n) := by
  obtain ⟨h1, _, cur, hg, hcs⟩ := h
  refine ⟨by simp [valsOf], .inr ⟨g, cap, cur, rfl, hb, hg, hn, hm, by simpa using hcs, ?_⟩⟩
  apply List.ext_getElem?
  intro k
  by_cases hk : k < n
  · rw [List.getElem?_take, if_pos (by omega), valsOf_at A n k hk]
    have := h1 k hk
    rw [cell_of_row w g k cur _ (0, 0) hg] at this
    simpa using this
  · rw [List.getElem?_eq_none (by simp; omega), List.getElem?_eq_none (by simp [valsOf]; omega)]
theorem Rw.less {w : World} {g n n' cap : Nat} {A : Nat → Int} (h : Rw w g cap n A) (hn : n' ≤ n) : Rw w g cap n' A := ⟨fun k hk => h.1 k (by omega), h.2⟩
theorem Rw.set {w : World} {g n cap : Nat} {A : Nat → Int} (h : Rw w g cap n A) {a : Addr} (ha : a.block ≠ g) (v : Value) : Rw (w.setCell a v) g cap n A :=
  ⟨fun k hk => (World.cell?_setCell_other _ _ _ _ (by intro e; apply ha; rw [e])).trans (h.1 k hk), fun k => by simp [h.2.1 k], by
    obtain ⟨cur, hg, hc⟩ := h.2.2
    exact ⟨cur, (Below.heap_setCell _ _ _ _ (Ne.symm ha)).trans hg, hc⟩⟩
theorem HUp.of_heap {A : Nat → Int} {m : Nat} {x : Int} (h : Heap A m) : HUp (fun k => if k = m then x else A k) (m + 1) m := by
  constructor
  · intro i h0 hi hne
    have q : (i - 1) / 2 ≠ m := by omega
    simp only [hne, q, if_false]
    exact h i h0 (by omega)
  · intro i h0 hi hp hm
    omega
set_option maxRecDepth 100000 in
set_option maxHeartbeats 1000000 in
theorem hpush_any (w : World) (pb po base m : Nat) (A : Nat → Int) (x : Int) (hm : m ≤ 9000) (hpb : pb < base) (hbase : base ≤ w.heap.size) (hf : w.frozen? ⟨pb, po, none⟩ = false) (hw : WH w pb po base m A) (hh : Heap A m)
    (R : Ending → World → Prop) (fin : ∀ A' w', Kept pb po base w w' → WH w' pb po base (m + 1) A' → Heap A' (m + 1) → Same (fun k => if k = m then x else A k) A' (m + 1) → R (.returned (.tuple #[])) w') :
    Calls Tryz.prog 182 #[.iface 220 (.pointer (some ⟨pb, po, none⟩)), .iface 3 (.int .i64 x)] w R := by
  obtain ⟨v, hv, hown⟩ := hw
  replace fin := hd fin
  replace hh := hd hh
  have hob : ∀ k, v.ownBlock = some k → base ≤ k := fun k hk => (hown.lt k hk).1
  replace hob := hd hob
  have hmp := meth_push 504 ⟨pb, po, none⟩
  go_enter Tryz.func182, Tryz.ntmps182
  go_wp2_with (fail)
  refine fpush_any w pb po base v m (valsOf A m) x hm hpb hbase hv hf hown _ ?_
  intro g cap w1 hown1 hgr
  rw [valsOf_push] at hown1
  obtain ⟨hR1, hbg, hncap, hcapm⟩ := own_rw hown1
  have hpg : pb ≠ g := by omega
  have hK1 : Kept pb po base w w1 := (Kept.of_below (Below.alloc (Below.refl w.heap.size w) (Nat.le_refl _) (.cells #[.int .i64 x] 3)).drew hpb hbase).trans (Kept.of_grown hgr hob.out hpb (by simp; omega))
  have hK2 : Kept pb po base w (w1.setCell ⟨pb, po, none⟩ (.slice (some ⟨g, 0, none⟩) (m + 1) cap)) := hK1.trans (Kept.set _ _)
  have hR2 : Rw (w1.setCell ⟨pb, po, none⟩ (.slice (some ⟨g, 0, none⟩) (m + 1) cap)) g cap (m + 1) _ := hR1.set hpg _
  have hp2 : (w1.setCell ⟨pb, po, none⟩ (.slice (some ⟨g, 0, none⟩) (m + 1) cap)).cell? ⟨pb, po, none⟩ = some (.slice (some ⟨g, 0, none⟩) (m + 1) cap) := by
    exact World.cell?_setCell_same _ _ _ ((World.cell?_of_block (hgr.block pb (by simp; omega) (fun e => by have := hob.out pb e.symm; omega))).trans ((World.cell?_alloc_lt w _ ⟨pb, po, none⟩ (show pb < _ by omega)).trans hv))
  generalize w1.setCell ⟨pb, po, none⟩ (.slice (some ⟨g, 0, none⟩) (m + 1) cap) = w2 at *
  have hml := meth_len 504 ⟨pb, po, none⟩ _ _ _ w2 hp2
  replace hK2 := hd hK2
  replace hK1 := hd hK1
  replace hR2 := hd hR2
  replace hR1 := hd hR1
  replace hown1 := hd hown1
  replace hgr := hd hgr
  replace hown := hd hown
  have ew : ((m + 1 : Nat) : Int) - 1 = (m : Int) := by omega
  go_wp2_with (fail)
  refine len_any _ _ _ _ _ ?_
  go_wp2_with (fail)
  refine up_any w2 ⟨pb, po, none⟩ g (m + 1) cap m _ (by omega) (by omega) hpg hp2 hR2.out (HUp.of_heap hh.out) _ ?_
  intro A' w3 hO3 hR3 hH3 hS3
  have hK3 := hd (hK2.out.trans (Kept.of_only hO3 hbg hpb (Nat.le_trans hbase hK2.out.size)))
  have hp3 : w3.cell? ⟨pb, po, none⟩ = some (.slice (some ⟨g, 0, none⟩) (m + 1) cap) := by
    rw [hO3.cell (p := ⟨pb, po, none⟩) (World.block_lt_of_cell? w2 _ hp2) hpg]; exact hp2
  replace hO3 := hd hO3
  replace hR3 := hd hR3
  replace hH3 := hd hH3
  replace hS3 := hd hS3
  go_wp2
  go_end0
  exact fin.out A' w3 hK3.out ⟨_, hp3, rw_own hR3.out hbg hncap hcapm⟩ hH3.out hS3.out
theorem wpop_any (w : World) (pb po base m : Nat) (A : Nat → Int) (hm0 : 0 < m) (hm : m ≤ 9000) (hpb : pb < base) (hbase : base ≤ w.heap.size) (hf : w.frozen? ⟨pb, po, none⟩ = false) (hw : WH w pb po base m A) (hh : Heap A m)
    (R : Ending → World → Prop) (fin : ∀ A' w', Kept pb po base w w' → WH w' pb po base (m - 1) A' → Heap A' (m - 1) → Same (swapF A 0 (m - 1)) A' (m - 1) → R (.returned (.iface 3 (.int .i64 (A 0)))) w') :
    Calls Tryz.prog 112 #[.iface 220 (.pointer (some ⟨pb, po, none⟩))] w R := by
  obtain ⟨v, hv, hown⟩ := hw
  obtain ⟨g, cap, rfl⟩ : ∃ g cap, v = .slice (some ⟨g, 0, none⟩) m cap := by
    rcases hown.2 with ⟨_, h⟩ | ⟨g, cap, cur, h, _⟩
    · omega
    · exact ⟨g, cap, h⟩
  obtain ⟨hR, hbg, hncap, hcapm⟩ := own_rw hown
  have hpg : pb ≠ g := by omega
  refine hpop_any w pb po g m cap A hm0 (by omega) hncap hpg hv hf hR hh R fun A' w1 hO hR1 hH hS => ?_
  refine fin A' _ ((Kept.of_only hO hbg hpb hbase).trans (Kept.set _ _)) ⟨.slice (some ⟨g, 0, none⟩) (m - 1) cap, ?_, ?_⟩ hH hS
  · exact World.cell?_setCell_same _ _ _ ((hO.cell (p := ⟨pb, po, none⟩) (World.block_lt_of_cell? w _ hv) hpg).trans hv)
  · exact rw_own ((hR1.set (a := ⟨pb, po, none⟩) hpg _).less (by omega)) hbg (by omega) hcapm

end Go.Proofs.YtidhiaaicmfabaaGreatDoor
