/- What the walk from the first instruction to the last knows in the end. -/
import Derived.Test.YtidhiaaicmfabaaGreatMem
import Derived.Test.YtidhiaaicmfabaaGreatSpec
import Derived.Test.YtidhiaaicmfabaaGreatRefA
import Derived.Test.YtidhiaaicmfabaaGreatRefC
import Derived.Test.YtidhiaaicmfabaaGreatSpec2
import Derived.WalkKit
import Derived.WalkSpells
import Derived.WalkLawsBesides
import Derived.Deep.OwnRows
import Derived.BigQuiet
import Derived.Handy
import Derived.Deep.Light
import Derived.Deep.RegionHeld3
import Derived.Deep.RegionWith
import Derived.Test.YtidhiaaicmfabaaGreatVmE
import Derived.Test.YtidhiaaicmfabaaGreatSpec4
namespace Go.Proofs.YtidhiaaicmfabaaGreat
open Go.RowKit Go.Proofs Go.Deep

/-- One instruction's share of what the whole walk knows in the end. -/
structure Fact (op : Nat → Nat) (N : Nat → Int) (To : Nat → Nat) (n : Nat) (bd : Int) (H L : Nat → Int) (i : Nat) : Prop where
  pop : (popsOf (op i) : Int) ≤ H i ∧ H i - popsOf (op i) + pushesOf (op i) ≤ 32
  fin : op i = 0 → H i = 0 ∧ i + 1 = n ∧ bd = L i + 1
  jump : (op i = 17 ∨ op i = 18) → H (To i) = H i - popsOf (op i) + pushesOf (op i) ∧ L i + 1 ≤ L (To i)
  next : op i ≠ 0 → op i ≠ 17 → H (i + 1) = H i - popsOf (op i) + pushesOf (op i)
  len : op i ≠ 0 → op i ≠ 17 → op i ≠ 19 → op i ≠ 20 → L i + 1 ≤ L (i + 1)
  back : op i = 20 → H i - popsOf (op i) + pushesOf (op i) = H (To i + 1) ∧ min (L (To i) + 1 + N (To i) * (L i + 1)) 1099511627776 ≤ L (i + 1)
/-- A later state of the walk against an earlier one. -/
structure Ext (k : Nat) (H L H' L' : Nat → Int) : Prop where
  h : ∀ j, 0 ≤ H j → H' j = H j
  l : ∀ j, L j ≤ L' j
  old : ∀ j, j ≤ k → L' j = L j
theorem jn_spec {H L : Nat → Int} {t : Nat} {h d : Int} {S : (Nat → Int) × (Nat → Int)} (hs : jn H L t h d = some S) :
    S.1 t = h ∧ (∀ j, 0 ≤ H j → S.1 j = H j) ∧ (∀ j, L j ≤ S.2 j) ∧ (∀ j, j ≠ t → S.2 j = L j) ∧ d ≤ S.2 t := by
  obtain ⟨a, b, _⟩ := jn_old hs
  by_cases hx : 0 ≤ H t ∧ H t ≠ h
  · rw [jn_none hx] at hs; cases hs
  · rw [jn_some hx] at hs
    injection hs with hs
    subst hs
    refine ⟨b, a, fun j => ?_, fun j hj => by simp [upd, hj], ?_⟩
    · show L j ≤ upd L t (max (L t) d) j
      unfold upd; split
      · rename_i e; subst e; omega
      · omega
    · show d ≤ upd L t (max (L t) d) t
      unfold upd; rw [if_pos rfl]; omega
theorem known_from {op : Nat → Nat} {N : Nat → Int} {To : Nat → Nat} {n : Nat} {bd : Int} (hJ : ∀ i, i < n → (op i = 17 ∨ op i = 18) → i < To i) (hF : ∀ i, i < n → op i = 20 → To i < i) :
    ∀ (fuel k : Nat) (H L : Nat → Int), k + fuel = n → refGo op N To n fuel k H L = some bd → ∃ H' L', Ext k H L H' L' ∧ ∀ i, k ≤ i → i < n → Fact op N To n bd H' L' i
  | 0, k, H, L, _, h => by simp [refGo] at h
  | fuel + 1, k, H, L, hk, h => by
    simp only [refGo] at h
    by_cases h0 : op k = 0
    · rw [if_pos h0] at h
      split at h
      · rename_i hh
        injection h with h
        refine ⟨H, L, ⟨fun _ _ => rfl, fun _ => Int.le_refl _, fun _ _ => rfl⟩, fun i hi hin => ?_⟩
        have e : i = k := by omega
        subst e
        have p : popsOf (op i) = 0 := by rw [h0]; rfl
        have q : pushesOf (op i) = 0 := by rw [h0]; rfl
        exact ⟨by rw [p, q]; omega, fun _ => ⟨hh.1, hh.2, h.symm⟩, fun h' => by omega, fun h' => absurd h0 h', fun h' => absurd h0 h', fun h' => by omega⟩
      · cases h
    · rw [if_neg h0] at h
      split at h
      · cases h
      · rename_i S hS
        obtain ⟨H', L', he, hf⟩ := known_from hJ hF fuel (k + 1) S.1 S.2 (by omega) h
        have hkn : k < n := by omega
        unfold refStep at hS
        split at hS
        · cases hS
        · rename_i hbad
          have hH0 : 0 ≤ H k := by omega
          have hh : 0 ≤ H k - popsOf (op k) + pushesOf (op k) := by omega
          have key : ∀ (A : ∀ j, 0 ≤ H j → S.1 j = H j) (B : ∀ j, L j ≤ S.2 j) (C : ∀ j, j ≤ k → S.2 j = L j) (D : Fact op N To n bd H' L' k), ∃ H' L', Ext k H L H' L' ∧ ∀ i, k ≤ i → i < n → Fact op N To n bd H' L' i := by
            intro A B C D
            refine ⟨H', L', ⟨fun j hj => ?_, fun j => Int.le_trans (B j) (he.l j), fun j hj => by rw [he.old j (by omega), C j hj]⟩, fun i hi hin => ?_⟩
            · have := A j hj
              rw [he.h j (by omega), this]
            · by_cases e : i = k
              · subst e; exact D
              · exact hf i (by omega) hin
          have hpk : (popsOf (op k) : Int) ≤ H k ∧ H k - popsOf (op k) + pushesOf (op k) ≤ 32 := by omega
          split at hS
          · rename_i h17
            obtain ⟨s1, s2, s3, s4, s5⟩ := jn_spec hS
            have hj := hJ k hkn (.inl h17)
            have eH : H' k = H k := by rw [he.h k (by rw [s2 k hH0]; exact hH0), s2 k hH0]
            have eL : L' k = L k := by rw [he.old k (by omega), s4 k (by omega)]
            refine key s2 s3 (fun j hj' => s4 j (by omega)) ⟨by rw [eH]; exact hpk, fun h' => absurd h' h0, fun _ => ?_, fun _ h' => absurd h17 h', fun _ h' => absurd h17 h', fun h' => by omega⟩
            rw [eH, eL, he.h _ (by rw [s1]; exact hh), s1]
            exact ⟨rfl, Int.le_trans s5 (he.l _)⟩
          · rename_i h17
            split at hS
            · rename_i h18
              split at hS
              · cases hS
              · rename_i S1 hS1
                obtain ⟨s1, s2, s3, s4, s5⟩ := jn_spec hS1
                obtain ⟨r1, r2, r3, r4, r5⟩ := jn_spec hS
                have hj := hJ k hkn (.inr h18)
                have A : ∀ j, 0 ≤ H j → S.1 j = H j := fun j hj => by rw [r2 j (by rw [s2 j hj]; exact hj), s2 j hj]
                have eH : H' k = H k := by rw [he.h k (by rw [A k hH0]; exact hH0), A k hH0]
                have eL : L' k = L k := by rw [he.old k (by omega), r4 k (by omega), s4 k (by omega)]
                have e1 : S.1 (To k) = H k - popsOf (op k) + pushesOf (op k) := by rw [r2 _ (by rw [s1]; exact hh), s1]
                refine key A (fun j => Int.le_trans (s3 j) (r3 j)) (fun j hj' => by rw [r4 j (by omega), s4 j (by omega)]) ⟨by rw [eH]; exact hpk, fun h' => absurd h' h0, fun _ => ?_, fun _ _ => ?_, fun _ _ _ _ => ?_, fun h' => by omega⟩
                · rw [eH, eL, he.h _ (by rw [e1]; exact hh), e1]
                  exact ⟨rfl, Int.le_trans s5 (Int.le_trans (r3 _) (he.l _))⟩
                · rw [eH, he.h _ (by rw [r1]; exact hh), r1]
                · rw [eL]; exact Int.le_trans r5 (he.l _)
            · rename_i h18
              split at hS
              · rename_i h19
                obtain ⟨s1, s2, s3, s4, s5⟩ := jn_spec hS
                have eH : H' k = H k := by rw [he.h k (by rw [s2 k hH0]; exact hH0), s2 k hH0]
                refine key s2 s3 (fun j hj' => s4 j (by omega)) ⟨by rw [eH]; exact hpk, fun h' => absurd h' h0, fun h' => by omega, fun _ _ => ?_, fun _ _ h' => absurd h19 h', fun h' => by omega⟩
                rw [eH, he.h _ (by rw [s1]; exact hh), s1]
              · rename_i h19
                split at hS
                · rename_i h20
                  split at hS
                  · rename_i heq
                    obtain ⟨s1, s2, s3, s4, s5⟩ := jn_spec hS
                    have hj := hF k hkn h20
                    have eH : H' k = H k := by rw [he.h k (by rw [s2 k hH0]; exact hH0), s2 k hH0]
                    have eL : L' k = L k := by rw [he.old k (by omega), s4 k (by omega)]
                    have eF : H' (To k + 1) = H (To k + 1) := by
                      have h1 : 0 ≤ H (To k + 1) := by omega
                      rw [he.h _ (by rw [s2 _ h1]; exact h1), s2 _ h1]
                    have eLf : L' (To k) = L (To k) := by rw [he.old _ (by omega), s4 _ (by omega)]
                    refine key s2 s3 (fun j hj' => s4 j (by omega)) ⟨by rw [eH]; exact hpk, fun h' => absurd h' h0, fun h' => by omega, fun _ _ => ?_, fun _ _ _ h' => absurd h20 h', fun _ => ?_⟩
                    · rw [eH, he.h _ (by rw [s1]; exact hh), s1]
                    · rw [eH, eF, eLf, eL]
                      exact ⟨heq, Int.le_trans s5 (he.l _)⟩
                  · cases hS
                · rename_i h20
                  obtain ⟨s1, s2, s3, s4, s5⟩ := jn_spec hS
                  have eH : H' k = H k := by rw [he.h k (by rw [s2 k hH0]; exact hH0), s2 k hH0]
                  have eL : L' k = L k := by rw [he.old k (by omega), s4 k (by omega)]
                  refine key s2 s3 (fun j hj' => s4 j (by omega)) ⟨by rw [eH]; exact hpk, fun h' => absurd h' h0, fun h' => by omega, fun _ _ => ?_, fun _ _ _ _ => ?_, fun h' => absurd h' h20⟩
                  · rw [eH, he.h _ (by rw [s1]; exact hh), s1]
                  · rw [eL]; exact Int.le_trans s5 (he.l _)
/-- What the whole walk knows in the end. -/
structure Known (op : Nat → Nat) (N : Nat → Int) (To : Nat → Nat) (n : Nat) (bd : Int) (H L : Nat → Int) : Prop where
  h0 : H 0 = 0
  l0 : L 0 = 0
  lp : ∀ i, 0 ≤ L i
  n0 : 0 < n
  last : op (n - 1) = 0
  one : ∀ i, i + 1 < n → op i ≠ 0
  f : ∀ i, i < n → Fact op N To n bd H L i
theorem known_of {op : Nat → Nat} {N : Nat → Int} {To : Nat → Nat} {n : Nat} {bd : Int} (hJ : ∀ i, i < n → (op i = 17 ∨ op i = 18) → i < To i) (hF : ∀ i, i < n → op i = 20 → To i < i)
    (h : refGo op N To n n 0 H0 L0 = some bd) : ∃ H L, Known op N To n bd H L := by
  obtain ⟨H, L, he, hf⟩ := known_from hJ hF n 0 H0 L0 (by omega) h
  obtain ⟨a, _, c, d⟩ := refGo_ends op N To n n 0 H0 L0 bd (by omega) h
  exact ⟨H, L, he.h 0 (by decide), he.old 0 (by omega), fun i => he.l i, a, c, fun i hi => d i (by omega) hi, fun i hi => hf i (by omega) hi⟩

end Go.Proofs.YtidhiaaicmfabaaGreat
