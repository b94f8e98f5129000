/- What the machine reads of the code and what the document reads of it, held against each other. -/
import Derived.Test.YtidhiaaicmfabaaGreatDoorMem
import Derived.Test.YtidhiaaicmfabaaGreatDoorSpec
import Derived.Test.YtidhiaaicmfabaaGreatDoorRefA
import Derived.Test.YtidhiaaicmfabaaGreatDoorRefC
import Derived.Test.YtidhiaaicmfabaaGreatDoorSpec2
import Derived.WalkKit
import Derived.WalkSpells
import Derived.WalkLawsBesides
import Derived.Deep.OwnRows
import Derived.BigQuiet
import Derived.Handy
import Derived.Deep.Light
import Derived.Deep.RegionHeld3
import Derived.Deep.RegionWith
import Derived.Test.YtidhiaaicmfabaaGreatDoorSpec3
import Derived.Test.YtidhiaaicmfabaaGreatDoorVmC
import Derived.Test.YtidhiaaicmfabaaGreatDoorVmD
import Derived.Test.YtidhiaaicmfabaaGreatDoorVmE
import Derived.Test.YtidhiaaicmfabaaGreatDoorVmF
import Derived.Test.YtidhiaaicmfabaaGreatDoorVmL
import Derived.Test.YtidhiaaicmfabaaGreatDoorSpec4
namespace Go.Proofs.YtidhiaaicmfabaaGreatDoor
open Go.RowKit Go.Proofs Go.Deep

def argL (c : ByteArray) (ps : List Nat) (i : Nat) : Int := vArg c (atL ps i)
def cntL (c : ByteArray) (ps : List Nat) (i : Nat) : Int := vCnt c (atL ps i)
theorem flat_st (c : ByteArray) : ∀ (l : List Nat) (i f : Nat), i < l.length → f < 6 →
    (l.flatMap (stC c))[i * 6 + f]? = some (stepA (opL c l) (atL l) (argL c l) (cntL c l) (fun _ => 0) (fun _ => 0) i f)
  | [], i, f, hi, _ => by simp at hi
  | a :: l, 0, f, _, hf => by
    rw [List.flatMap_cons, List.getElem?_append_left (by simp [stC]; omega)]
    have : f = 0 ∨ f = 1 ∨ f = 2 ∨ f = 3 ∨ f = 4 ∨ f = 5 := by omega
    rcases this with rfl | rfl | rfl | rfl | rfl | rfl <;> rfl
  | a :: l, i + 1, f, hi, hf => by
    rw [List.flatMap_cons, List.getElem?_append_right (by simp [stC]; omega)]
    have h := flat_st c l i f (by simpa using hi) hf
    have e : (i + 1) * 6 + f - (stC c a).length = i * 6 + f := by simp [stC]; omega
    rw [e, h]
    rfl
/-- The places of the instructions rise, lie in the code, and each has its bytes. -/
theorem posF_facts (s : ByteArray) : ∀ (F a : Nat) (l : List Nat), posF s F a = some l → l.length ≤ s.size - a ∧ (∀ i, i < l.length → a ≤ atL l i ∧ atL l i < s.size ∧ osz (bt s (atL l i)) ≠ 0) ∧ (∀ i j, i < j → j < l.length → atL l i < atL l j)
  | 0, _, _, h => by simp [posF] at h
  | F + 1, a, l, h => by
    unfold posF at h
    split at h
    · rename_i ha
      split at h
      · cases h
      · rename_i hb
        obtain ⟨t, ht, rfl⟩ := Option.map_eq_some_iff.1 h
        obtain ⟨h1, h2, h3⟩ := posF_facts s F _ t ht
        simp only [not_or] at hb
        have hz := hb.1
        refine ⟨by simp; omega, fun i hi => ?_, fun i j hij hj => ?_⟩
        · cases i with
          | zero => exact ⟨Nat.le_refl _, ha, hz⟩
          | succ i =>
            have := h2 i (by simpa using hi)
            exact ⟨Nat.le_trans (Nat.le_add_right _ _) this.1, this.2⟩
        · cases j with
          | zero => omega
          | succ j =>
            have hj' : j < t.length := by simpa using hj
            cases i with
            | zero =>
              have := (h2 j hj').1
              show a < atL t j
              omega
            | succ i => exact h3 i j (by omega) hj'
    · injection h with h; subst h; simp
theorem osz_lt {o : Nat} (h : osz o ≠ 0) : o < 22 := by
  rcases Nat.lt_or_ge o 22 with h1 | h1
  · exact h1
  · exact absurd (osz_big o h1) h
theorem vArg_bd (c : ByteArray) (a : Nat) (h : bt c a = 2 ∨ bt c a = 3 ∨ bt c a = 21 ∨ bt c a = 4 ∨ bt c a = 5) : vArg c a = (insC c a : Nat) ∧ 0 ≤ vArg c a ∧ vArg c a ≤ 255 := by
  have := bt_le c (a + 1)
  unfold vArg insC
  rcases h with h | h | h | h | h <;> simp [h] <;> omega
theorem vCnt_bd (c : ByteArray) (a : Nat) (h : bt c a = 4 ∨ bt c a = 5) : vCnt c a = insN c a ∧ 0 ≤ vCnt c a ∧ vCnt c a ≤ 255 := by
  have := bt_le c (a + 2)
  unfold vCnt insN
  rcases h with h | h <;> simp [h] <;> omega
theorem vArg_jmp (c : ByteArray) (a : Nat) (h : bt c a = 17 ∨ bt c a = 18 ∨ bt c a = 19) : vArg c a = insN c a ∧ 0 ≤ vArg c a ∧ vArg c a ≤ 65535 := by
  have h1 := bt_le c (a + 1)
  have h2 := bt_le c (a + 1 + 1)
  unfold vArg insN b16
  rcases h with h | h | h <;> simp [h] <;> omega
theorem op_iff (s c : ByteArray) (nC a : Nat) : OpOk (fun i => bt s (7 + i) / 3) (fun i => bt s (7 + i) % 3) nC (bt c a) (vArg c a) (vCnt c a) ↔ insOk (rlOf s) (kdOf s) nC (bt c a) (insC c a) (insN c a) := by
  have key : ∀ k n, AlikeOk (fun i => bt s (7 + i) / 3) (fun i => bt s (7 + i) % 3) nC k n ↔ (1 ≤ n ∧ k + n ≤ nC ∧ ∀ i, i < n → rlOf s (k + i) = rlOf s k ∧ kdOf s (k + i) = kdOf s k) := by
    intro k n
    unfold AlikeOk rlOf kdOf
    constructor
    · rintro ⟨a, b, h⟩; exact ⟨a, b, fun i hi => by have := h i hi; dsimp only at this ⊢; omega⟩
    · rintro ⟨a, b, h⟩; exact ⟨a, b, fun i hi => by have := h i hi; dsimp only at this ⊢; omega⟩
  have r0 : ∀ k, (bt s (7 + k) / 3 ≠ 0) ↔ rlOf s k ≠ 0 := fun k => by unfold rlOf; omega
  have r2 : ∀ k, (bt s (7 + k) / 3 = 2 ∧ bt s (7 + k) % 3 = 2) ↔ (rlOf s k = 2 ∧ kdOf s k = 2) := fun k => by unfold rlOf kdOf; omega
  unfold OpOk insOk CellOk
  by_cases h2 : bt c a = 2
  · have e := vArg_bd c a (.inl h2)
    have en : insN c a = 1 := by simp [insN, h2]
    rw [e.1, en]; simp [h2, key]
  · by_cases h3 : bt c a = 3
    · have e := vArg_bd c a (.inr (.inl h3))
      have en : insN c a = 1 := by simp [insN, h3]
      rw [e.1, en]; simp only [h3, key]; simp [r0]
    · by_cases h21 : bt c a = 21
      · have e := vArg_bd c a (.inr (.inr (.inl h21)))
        have en : insN c a = 1 := by simp [insN, h21]
        rw [e.1, en]; simp only [h21, key]; simp [r2]
      · by_cases h4 : bt c a = 4
        · have e := vArg_bd c a (.inr (.inr (.inr (.inl h4))))
          have en := vCnt_bd c a (.inl h4)
          rw [e.1, en.1]; simp [h4, key]
        · by_cases h5 : bt c a = 5
          · have e := vArg_bd c a (.inr (.inr (.inr (.inr h5))))
            have en := vCnt_bd c a (.inr h5)
            rw [e.1, en.1]; simp only [h5, key]; simp [r0, and_assoc]
          · by_cases h19 : bt c a = 19
            · have e := vArg_jmp c a (.inr (.inr h19))
              rw [e.1]; simp [h19]
            · simp [h2, h3, h4, h5, h21, h19]
theorem refStep_congr {op : Nat → Nat} {N N' : Nat → Int} {To : Nat → Nat} {i : Nat} {H L : Nat → Int} (h : op i = 20 → N (To i) = N' (To i)) : refStep op N To i H L = refStep op N' To i H L := by
  unfold refStep
  by_cases h20 : op i = 20
  · rw [h h20]
  · simp only [h20, if_false]
theorem refGo_congr {op : Nat → Nat} {N N' : Nat → Int} {To : Nat → Nat} {n : Nat} (h : ∀ i, i < n → op i = 20 → N (To i) = N' (To i)) : ∀ (fuel i : Nat) (H L : Nat → Int), i + fuel ≤ n → refGo op N To n fuel i H L = refGo op N' To n fuel i H L
  | 0, _, _, _, _ => rfl
  | fuel + 1, i, H, L, hf => by
    simp only [refGo]
    rw [refStep_congr (h i (by omega))]
    split
    · rfl
    · split
      · rfl
      · exact refGo_congr h fuel (i + 1) _ _ (by omega)

end Go.Proofs.YtidhiaaicmfabaaGreatDoor
