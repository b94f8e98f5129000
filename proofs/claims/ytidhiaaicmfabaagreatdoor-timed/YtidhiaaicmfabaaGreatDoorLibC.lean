/- The contract of container/heap's up over the heap of instructions. -/
import Derived.Test.YtidhiaaicmfabaaGreatDoorMem
import Derived.Test.YtidhiaaicmfabaaGreatDoorSpec
import Derived.Test.YtidhiaaicmfabaaGreatDoorRefA
import Derived.Test.YtidhiaaicmfabaaGreatDoorRefC
import Derived.Test.YtidhiaaicmfabaaGreatDoorSpec2
import Derived.Test.YtidhiaaicmfabaaGreatDoorLibB
import Derived.WalkKit
import Derived.WalkSpells
import Derived.WalkLawsBesides
import Derived.Deep.OwnRows
import Derived.BigQuiet
import Derived.Handy
import Derived.Deep.Light
import Derived.Deep.RegionHeld3
import Derived.Deep.RegionWith
namespace Go.Proofs.YtidhiaaicmfabaaGreatDoor
open Go.RowKit Go.Proofs Go.Deep

/-- n numbers lie in block g, and may be written. -/
def Rw (w : World) (g cap n : Nat) (A : Nat → Int) : Prop := (∀ k, k < n → w.cell? ⟨g, k, none⟩ = some (.int .i64 (A k))) ∧ (∀ k, w.frozen? ⟨g, k, none⟩ = false) ∧ (∃ cur : Array Value, w.heap[g]? = some (.cells cur 3 (0, 0)) ∧ cur.size = cap)
theorem shape_set {w : World} {g cap i : Nat} {v : Value} (h : ∃ cur : Array Value, w.heap[g]? = some (.cells cur 3 (0, 0)) ∧ cur.size = cap) : ∃ cur : Array Value, (w.setCell ⟨g, i, none⟩ v).heap[g]? = some (.cells cur 3 (0, 0)) ∧ cur.size = cap := by
  obtain ⟨cur, hg, hc⟩ := h
  exact ⟨cur.setIfInBounds i v, by simp [World.setCell, Array.getElem?_modify, hg], by simpa using hc⟩
def swapF (A : Nat → Int) (i j : Nat) : Nat → Int := fun k => if k = j then A i else if k = i then A j else A k
def Heap (A : Nat → Int) (n : Nat) : Prop := ∀ i, 0 < i → i < n → A ((i - 1) / 2) ≤ A i
/-- The same numbers, and if they were all unlike they are still. -/
def Same (A B : Nat → Int) (n : Nat) : Prop := (∀ v, (∃ i, i < n ∧ A i = v) ↔ (∃ i, i < n ∧ B i = v)) ∧ ((∀ i j, i < n → j < n → A i = A j → i = j) → ∀ i j, i < n → j < n → B i = B j → i = j)
def HUp (A : Nat → Int) (n j : Nat) : Prop := (∀ i, 0 < i → i < n → i ≠ j → A ((i - 1) / 2) ≤ A i) ∧ (∀ i, 0 < i → i < n → (i - 1) / 2 = j → 0 < j → A ((j - 1) / 2) ≤ A i)
theorem Same.refl (A : Nat → Int) (n : Nat) : Same A A n := ⟨fun _ => Iff.rfl, fun h => h⟩
theorem Same.trans {A B C : Nat → Int} {n : Nat} (h : Same A B n) (k : Same B C n) : Same A C n := ⟨fun v => (h.1 v).trans (k.1 v), fun hi => k.2 (h.2 hi)⟩
theorem Same.swap (A : Nat → Int) {n i j : Nat} (hi : i < n) (hj : j < n) : Same A (swapF A i j) n := by
  have key : ∀ k, k < n → ∃ k', k' < n ∧ swapF A i j k' = A k := by
    intro k hk
    by_cases e1 : k = i
    · subst e1; exact ⟨j, hj, by simp [swapF]⟩
    · by_cases e2 : k = j
      · subst e2
        by_cases e3 : i = k
        · exact ⟨i, hi, by simp [swapF, e3]⟩
        · exact ⟨i, hi, by simp [swapF, e3]⟩
      · exact ⟨k, hk, by simp [swapF, e1, e2]⟩
  have key2 : ∀ k, k < n → ∃ k', k' < n ∧ A k' = swapF A i j k ∧ (k' = if k = j then i else if k = i then j else k) := by
    intro k hk
    by_cases e1 : k = j
    · exact ⟨i, hi, by simp [swapF, e1], by simp [e1]⟩
    · by_cases e2 : k = i
      · subst e2; exact ⟨j, hj, by simp [swapF, e1], by simp [e1]⟩
      · exact ⟨k, hk, by simp [swapF, e1, e2], by simp [e1, e2]⟩
  constructor
  · intro v
    constructor
    · rintro ⟨k, hk, rfl⟩; exact key k hk
    · rintro ⟨k, hk, rfl⟩
      obtain ⟨k', h1, h2, _⟩ := key2 k hk
      exact ⟨k', h1, h2⟩
  · intro hinj a b ha hb hab
    obtain ⟨a', ha1, ha2, ha3⟩ := key2 a ha
    obtain ⟨b', hb1, hb2, hb3⟩ := key2 b hb
    have := hinj a' b' ha1 hb1 (by rw [ha2, hb2, hab])
    rw [ha3, hb3] at this
    (repeat' split at this) <;> omega
theorem Rw.swap {w : World} {g cap n i j : Nat} {A : Nat → Int} (h : Rw w g cap n A) (hi : i < n) (hj : j < n) :
    Rw ((w.setCell ⟨g, i, none⟩ (.int .i64 (A j))).setCell ⟨g, j, none⟩ (.int .i64 (A i))) g cap n (swapF A i j) := by
  refine ⟨?_, ?_, shape_set (shape_set h.2.2)⟩
  · intro k hk
    unfold swapF
    by_cases e1 : k = j
    · subst e1
      rw [if_pos rfl]
      by_cases e2 : i = k
      · subst e2
        exact World.cell?_setCell_same _ _ _ (World.cell?_setCell_same _ _ _ (h.1 i hi))
      · exact World.cell?_setCell_same _ _ _ ((World.cell?_setCell_other _ _ _ _ (by first | (simp; done) | (simp; omega))).trans (h.1 k hk))
    · rw [if_neg e1, World.cell?_setCell_other _ _ _ _ (by first | (simp; done) | (simp; omega))]
      by_cases e2 : k = i
      · subst e2; rw [if_pos rfl]; exact World.cell?_setCell_same _ _ _ (h.1 k hk)
      · rw [if_neg e2, World.cell?_setCell_other _ _ _ _ (by first | (simp; done) | (simp; omega))]; exact h.1 k hk
  · intro k
    simp [h.2.1 k]
theorem HUp.done0 {A : Nat → Int} {n : Nat} (h : HUp A n 0) : Heap A n := fun i h0 hi => h.1 i h0 hi (by omega)
theorem HUp.done {A : Nat → Int} {n j : Nat} (h : HUp A n j) (hj : 0 < j) (hle : A ((j - 1) / 2) ≤ A j) : Heap A n := fun i h0 hi => by
  by_cases e : i = j
  · subst e; exact hle
  · exact h.1 i h0 hi e
theorem HUp.next {A : Nat → Int} {n j : Nat} (h : HUp A n j) (hj : 0 < j) (hjn : j < n) (hlt : A j < A ((j - 1) / 2)) : HUp (swapF A ((j - 1) / 2) j) n ((j - 1) / 2) := by
  have hp : (j - 1) / 2 ≠ j := by omega
  constructor
  · intro i h0 hi hne
    by_cases e : i = j
    · subst e; unfold swapF; simp [hp]; omega
    · by_cases e2 : (i - 1) / 2 = j
      · have h1 := h.2 i h0 hi e2 hj
        unfold swapF; simp [e, e2, hne]; exact h1
      · by_cases e3 : (i - 1) / 2 = (j - 1) / 2
        · have h1 := h.1 i h0 hi e
          rw [e3] at h1
          unfold swapF; simp [e, e3, hne, hp]; omega
        · have h1 := h.1 i h0 hi e
          unfold swapF; simp [e, e2, e3, hne]; exact h1
  · intro i h0 hi hpar hp0
    have hh : A (((j - 1) / 2 - 1) / 2) ≤ A ((j - 1) / 2) := h.1 ((j - 1) / 2) hp0 (by omega) hp
    have q1 : ((j - 1) / 2 - 1) / 2 ≠ j := by omega
    have q2 : ((j - 1) / 2 - 1) / 2 ≠ (j - 1) / 2 := by omega
    by_cases e : i = j
    · subst e; unfold swapF; simp [q1, q2]; exact hh
    · have h1 := h.1 i h0 hi e
      rw [hpar] at h1
      have e4 : i ≠ (j - 1) / 2 := by omega
      unfold swapF; simp [q1, q2, e, e4]; omega

set_option maxRecDepth 100000 in
set_option maxHeartbeats 1000000 in
theorem up_any (w : World) (p : Addr) (g n cap j : Nat) (A : Nat → Int) (hj : j < n) (hn : n ≤ 10000) (hpg : p.block ≠ g) (hp : w.cell? p = some (.slice (some ⟨g, 0, none⟩) n cap)) (hA : Rw w g cap n A) (hh : HUp A n j)
    (R : Ending → World → Prop) (fin : ∀ A' w', Only g w w' → Rw w' g cap n A' → Heap A' n → Same A A' n → R (.returned (.tuple #[])) w') :
    Calls Tryz.prog 216 #[.iface 220 (.pointer (some p)), .int .i64 (j : Int)] w R := by
  have hpb : p.block < w.heap.size := World.block_lt_of_cell? w _ hp
  replace fin := hd fin
  replace hA := hd hA
  replace hh := hd hh
  go_enter Tryz.func216, Tryz.ntmps216
  go_wp2
  go_loopw [1] (fun i wr => ∃ (k : Nat) (B : Nat → Int), i = .int .i64 k ∧ k < n ∧ Only g w wr ∧ Rw wr g cap n B ∧ HUp B n k ∧ Same A B n) (fun i _ => (intOf i).toNat)
  case atStart => exact ⟨j, A, rfl, hj, Only.refl _ _, hA.out, hh.out, Same.refl _ _⟩
  case round =>
    obtain ⟨k, B, rfl, hk, honly, hB, hH, hS⟩ := hrel
    have hp' : wr.cell? p = some (.slice (some ⟨g, 0, none⟩) n cap) := by rw [honly.cell hpb hpg]; exact hp
    replace honly := hd honly
    replace hB := hd hB
    replace hH := hd hH
    replace hS := hd hS
    have k1 : (k : Int) ≤ 10000 := by omega
    by_cases hk0 : k = 0
    · subst hk0
      go_wp2_with (fail)
      go_end0
      exact fin.out B wr honly.out hB.out (HUp.done0 hH.out) hS.out
    · obtain ⟨q, hq⟩ : ∃ q : Nat, (k - 1) / 2 = q := ⟨_, rfl⟩
      have e1 : (1 : Int) ≤ k := by omega
      have eq : ((k : Int) - 1) / 2 = (q : Int) := by omega
      have eb : ((q : Int) == (k : Int)) = false := by simp; omega
      have hml := meth_less 504 p _ _ _ _ hp'
      have hBq := hB.out
      go_wp2_with (fail)
      refine less_any _ g n cap k q B hk (by omega) hn hBq.1 _ ?_
      intro m
      replace hBq := hd hBq
      have hms := meth_swap 504 p _ _ _ (wr.drewN m) hp'
      by_cases hless : B k < B q
      · have dl : decide (B k < B q) = true := by simpa using hless
        go_wp2_with (fail)
        refine swap_any (wr.drewN m) g n cap q k B (by omega) hk hn (show ∀ k, k < n → (wr.drewN m).cell? ⟨g, k, none⟩ = some (.int .i64 (B k)) from hB.out.1) (show ∀ k, (wr.drewN m).frozen? ⟨g, k, none⟩ = false from hB.out.2.1) _ ?_
        go_wp2
        refine ⟨⟨q, swapF B q k, rfl, by omega, (((honly.out.drewN _).setCell (a := ⟨g, q, none⟩) (.inl rfl) _).setCell (a := ⟨g, k, none⟩) (.inl rfl) _).drew, ?_, ?_, ?_⟩, by simp [intOf]; omega⟩
        · exact Rw.swap (w := wr.drewN m) hB.out (by omega) hk
        · have := hH.out.next (by omega) hk (by rw [hq]; exact hless)
          rw [hq] at this
          exact this
        · exact hS.out.trans (Same.swap B (by omega) hk)
      · have dl : decide (B k < B q) = false := by simpa using hless
        go_wp2_with (fail)
        go_end0
        exact fin.out B _ (honly.out.drewN _) hB.out (HUp.done hH.out (by omega) (by rw [hq]; omega)) hS.out

end Go.Proofs.YtidhiaaicmfabaaGreatDoor
