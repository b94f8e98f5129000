/- The plain functions by which the loops, the jumps and the ways of an image are told; no word of the program. -/
import Derived.Test.YtidhiaaicmfabaaGreatDoorBase
namespace Go.Proofs.YtidhiaaicmfabaaGreatDoor

/-- The FORs that are open ahead of instruction k, the last one first; none: a rule is broken. -/
def stk (op : Nat → Nat) : Nat → Option (List Nat)
  | 0 => some []
  | k + 1 =>
    match stk op k with
    | none => none
    | some st =>
      if op k = 19 then (if 10 ≤ st.length then none else some (k :: st))
      else if op k = 20 then (match st with | [] => none | _ :: t => some t)
      else some st

/-- The FOR in which instruction k stands; -1: none. -/
def inOf (op : Nat → Nat) (k : Nat) : Int :=
  match stk op k with
  | some (f :: _) => f
  | _ => -1

theorem stk_none (op : Nat → Nat) {k n : Nat} (h : stk op k = none) (hn : k ≤ n) : stk op n = none := by
  induction n with
  | zero => have : k = 0 := by omega
            subst this; exact h
  | succ n ih =>
    by_cases e : k = n + 1
    · subst e; exact h
    · simp [stk, ih (by omega)]

theorem stk_mem (op : Nat → Nat) : ∀ (k : Nat) (st : List Nat), stk op k = some st → ∀ f ∈ st, f < k ∧ op f = 19
  | 0, st, h, f, hf => by simp [stk] at h; subst h; cases hf
  | k + 1, st, h, f, hf => by
    simp only [stk] at h
    cases hk : stk op k with
    | none => simp [hk] at h
    | some s0 =>
      have ih := stk_mem op k s0 hk
      simp only [hk] at h
      by_cases h19 : op k = 19
      · simp only [h19, if_true] at h
        split at h
        · cases h
        · injection h with h; subst h
          rcases List.mem_cons.1 hf with rfl | hf
          · exact ⟨by omega, h19⟩
          · have := ih f hf; exact ⟨by omega, this.2⟩
      · simp only [h19, if_false] at h
        by_cases h20 : op k = 20
        · simp only [h20, if_true] at h
          cases s0 with
          | nil => cases h
          | cons a t =>
            injection h with h; subst h
            have := ih f (List.mem_cons_of_mem _ hf); exact ⟨by omega, this.2⟩
        · simp only [h20, if_false] at h
          injection h with h; subst h
          have := ih f hf; exact ⟨by omega, this.2⟩

theorem stk_len (op : Nat → Nat) : ∀ (k : Nat) (st : List Nat), stk op k = some st → st.length ≤ 10
  | 0, st, h => by simp [stk] at h; subst h; simp
  | k + 1, st, h => by
    simp only [stk] at h
    cases hk : stk op k with
    | none => simp [hk] at h
    | some s0 =>
      have ih := stk_len op k s0 hk
      simp only [hk] at h
      by_cases h19 : op k = 19
      · simp only [h19, if_true] at h
        split at h
        · cases h
        · injection h with h; subst h; simp; omega
      · simp only [h19, if_false] at h
        by_cases h20 : op k = 20
        · simp only [h20, if_true] at h
          cases s0 with
          | nil => cases h
          | cons a t => injection h with h; subst h; simp at ih; omega
        · simp only [h20, if_false] at h
          injection h with h; subst h; exact ih

end Go.Proofs.YtidhiaaicmfabaaGreatDoor
