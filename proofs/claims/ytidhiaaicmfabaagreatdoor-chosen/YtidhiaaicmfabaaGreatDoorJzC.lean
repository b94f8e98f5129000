/- The rules that a scan keeps to. -/
import Derived.Test.YtidhiaaicmfabaaGreatDoorKaA
import Derived.Test.YtidhiaaicmfabaaGreatDoorKaB
import Derived.WalkKit
import Derived.WalkSpells
import Derived.WalkLawsBesides
import Derived.Deep.OwnRows
import Derived.BigQuiet
import Derived.Handy
import Derived.Deep.Light
import Derived.Deep.RegionHeld3
import Derived.Deep.RegionWith
import Derived.Test.YtidhiaaicmfabaaGreatDoorKaF
import Derived.Test.YtidhiaaicmfabaaGreatDoorKaG
import Derived.Test.YtidhiaaicmfabaaGreatDoorJzB
import Derived.Deep.LoopGhost

/- What the walk from the first instruction to the last knows in the end. -/
namespace Go.Proofs.YtidhiaaicmfabaaGreatDoor
open Go.RowKit Go.Proofs Go.Deep

/-- One instruction's share of what the whole walk knows in the end. -/
structure Fact (op : Nat → Nat) (N : Nat → Int) (To : Nat → Nat) (n : Nat) (bd : Int) (H L : Nat → Int) (i : Nat) : Prop where
  pop : (popsOf (op i) : Int) ≤ H i ∧ H i - popsOf (op i) + pushesOf (op i) ≤ 32
  fin : op i = 0 → H i = 0 ∧ i + 1 = n ∧ bd = L i + 1
  jump : (op i = 17 ∨ op i = 18) → H (To i) = H i - popsOf (op i) + pushesOf (op i) ∧ L i + 1 ≤ L (To i)
  next : op i ≠ 0 → op i ≠ 17 → H (i + 1) = H i - popsOf (op i) + pushesOf (op i)
  len : op i ≠ 0 → op i ≠ 17 → op i ≠ 19 → op i ≠ 20 → L i + 1 ≤ L (i + 1)
  back : op i = 20 → H i - popsOf (op i) + pushesOf (op i) = H (To i + 1) ∧ min (L (To i) + 1 + N (To i) * (L i + 1)) 1099511627776 ≤ L (i + 1)
/-- A later state of the walk against an earlier one. -/
structure Ext (k : Nat) (H L H' L' : Nat → Int) : Prop where
  h : ∀ j, 0 ≤ H j → H' j = H j
  l : ∀ j, L j ≤ L' j
  old : ∀ j, j ≤ k → L' j = L j
theorem jn_spec {H L : Nat → Int} {t : Nat} {h d : Int} {S : (Nat → Int) × (Nat → Int)} (hs : jn H L t h d = some S) :
    S.1 t = h ∧ (∀ j, 0 ≤ H j → S.1 j = H j) ∧ (∀ j, L j ≤ S.2 j) ∧ (∀ j, j ≠ t → S.2 j = L j) ∧ d ≤ S.2 t := by
  obtain ⟨a, b, _⟩ := jn_old hs
  by_cases hx : 0 ≤ H t ∧ H t ≠ h
  · rw [jn_none hx] at hs; cases hs
  · rw [jn_some hx] at hs
    injection hs with hs
    subst hs
    refine ⟨b, a, fun j => ?_, fun j hj => by simp [upd, hj], ?_⟩
    · show L j ≤ upd L t (max (L t) d) j
      unfold upd; split
      · rename_i e; subst e; omega
      · omega
    · show d ≤ upd L t (max (L t) d) t
      unfold upd; rw [if_pos rfl]; omega
theorem known_from {op : Nat → Nat} {N : Nat → Int} {To : Nat → Nat} {n : Nat} {bd : Int} (hJ : ∀ i, i < n → (op i = 17 ∨ op i = 18) → i < To i) (hF : ∀ i, i < n → op i = 20 → To i < i) :
    ∀ (fuel k : Nat) (H L : Nat → Int), k + fuel = n → refGo op N To n fuel k H L = some bd → ∃ H' L', Ext k H L H' L' ∧ ∀ i, k ≤ i → i < n → Fact op N To n bd H' L' i
  | 0, k, H, L, _, h => by simp [refGo] at h
  | fuel + 1, k, H, L, hk, h => by
    simp only [refGo] at h
    by_cases h0 : op k = 0
    · rw [if_pos h0] at h
      split at h
      · rename_i hh
        injection h with h
        refine ⟨H, L, ⟨fun _ _ => rfl, fun _ => Int.le_refl _, fun _ _ => rfl⟩, fun i hi hin => ?_⟩
        have e : i = k := by omega
        subst e
        have p : popsOf (op i) = 0 := by rw [h0]; rfl
        have q : pushesOf (op i) = 0 := by rw [h0]; rfl
        exact ⟨by rw [p, q]; omega, fun _ => ⟨hh.1, hh.2, h.symm⟩, fun h' => by omega, fun h' => absurd h0 h', fun h' => absurd h0 h', fun h' => by omega⟩
      · cases h
    · rw [if_neg h0] at h
      split at h
      · cases h
      · rename_i S hS
        obtain ⟨H', L', he, hf⟩ := known_from hJ hF fuel (k + 1) S.1 S.2 (by omega) h
        have hkn : k < n := by omega
        unfold refStep at hS
        split at hS
        · cases hS
        · rename_i hbad
          have hH0 : 0 ≤ H k := by omega
          have hh : 0 ≤ H k - popsOf (op k) + pushesOf (op k) := by omega
          have key : ∀ (A : ∀ j, 0 ≤ H j → S.1 j = H j) (B : ∀ j, L j ≤ S.2 j) (C : ∀ j, j ≤ k → S.2 j = L j) (D : Fact op N To n bd H' L' k), ∃ H' L', Ext k H L H' L' ∧ ∀ i, k ≤ i → i < n → Fact op N To n bd H' L' i := by
            intro A B C D
            refine ⟨H', L', ⟨fun j hj => ?_, fun j => Int.le_trans (B j) (he.l j), fun j hj => by rw [he.old j (by omega), C j hj]⟩, fun i hi hin => ?_⟩
            · have := A j hj
              rw [he.h j (by omega), this]
            · by_cases e : i = k
              · subst e; exact D
              · exact hf i (by omega) hin
          have hpk : (popsOf (op k) : Int) ≤ H k ∧ H k - popsOf (op k) + pushesOf (op k) ≤ 32 := by omega
          split at hS
          · rename_i h17
            obtain ⟨s1, s2, s3, s4, s5⟩ := jn_spec hS
            have hj := hJ k hkn (.inl h17)
            have eH : H' k = H k := by rw [he.h k (by rw [s2 k hH0]; exact hH0), s2 k hH0]
            have eL : L' k = L k := by rw [he.old k (by omega), s4 k (by omega)]
            refine key s2 s3 (fun j hj' => s4 j (by omega)) ⟨by rw [eH]; exact hpk, fun h' => absurd h' h0, fun _ => ?_, fun _ h' => absurd h17 h', fun _ h' => absurd h17 h', fun h' => by omega⟩
            rw [eH, eL, he.h _ (by rw [s1]; exact hh), s1]
            exact ⟨rfl, Int.le_trans s5 (he.l _)⟩
          · rename_i h17
            split at hS
            · rename_i h18
              split at hS
              · cases hS
              · rename_i S1 hS1
                obtain ⟨s1, s2, s3, s4, s5⟩ := jn_spec hS1
                obtain ⟨r1, r2, r3, r4, r5⟩ := jn_spec hS
                have hj := hJ k hkn (.inr h18)
                have A : ∀ j, 0 ≤ H j → S.1 j = H j := fun j hj => by rw [r2 j (by rw [s2 j hj]; exact hj), s2 j hj]
                have eH : H' k = H k := by rw [he.h k (by rw [A k hH0]; exact hH0), A k hH0]
                have eL : L' k = L k := by rw [he.old k (by omega), r4 k (by omega), s4 k (by omega)]
                have e1 : S.1 (To k) = H k - popsOf (op k) + pushesOf (op k) := by rw [r2 _ (by rw [s1]; exact hh), s1]
                refine key A (fun j => Int.le_trans (s3 j) (r3 j)) (fun j hj' => by rw [r4 j (by omega), s4 j (by omega)]) ⟨by rw [eH]; exact hpk, fun h' => absurd h' h0, fun _ => ?_, fun _ _ => ?_, fun _ _ _ _ => ?_, fun h' => by omega⟩
                · rw [eH, eL, he.h _ (by rw [e1]; exact hh), e1]
                  exact ⟨rfl, Int.le_trans s5 (Int.le_trans (r3 _) (he.l _))⟩
                · rw [eH, he.h _ (by rw [r1]; exact hh), r1]
                · rw [eL]; exact Int.le_trans r5 (he.l _)
            · rename_i h18
              split at hS
              · rename_i h19
                obtain ⟨s1, s2, s3, s4, s5⟩ := jn_spec hS
                have eH : H' k = H k := by rw [he.h k (by rw [s2 k hH0]; exact hH0), s2 k hH0]
                refine key s2 s3 (fun j hj' => s4 j (by omega)) ⟨by rw [eH]; exact hpk, fun h' => absurd h' h0, fun h' => by omega, fun _ _ => ?_, fun _ _ h' => absurd h19 h', fun h' => by omega⟩
                rw [eH, he.h _ (by rw [s1]; exact hh), s1]
              · rename_i h19
                split at hS
                · rename_i h20
                  split at hS
                  · rename_i heq
                    obtain ⟨s1, s2, s3, s4, s5⟩ := jn_spec hS
                    have hj := hF k hkn h20
                    have eH : H' k = H k := by rw [he.h k (by rw [s2 k hH0]; exact hH0), s2 k hH0]
                    have eL : L' k = L k := by rw [he.old k (by omega), s4 k (by omega)]
                    have eF : H' (To k + 1) = H (To k + 1) := by
                      have h1 : 0 ≤ H (To k + 1) := by omega
                      rw [he.h _ (by rw [s2 _ h1]; exact h1), s2 _ h1]
                    have eLf : L' (To k) = L (To k) := by rw [he.old _ (by omega), s4 _ (by omega)]
                    refine key s2 s3 (fun j hj' => s4 j (by omega)) ⟨by rw [eH]; exact hpk, fun h' => absurd h' h0, fun h' => by omega, fun _ _ => ?_, fun _ _ _ h' => absurd h20 h', fun _ => ?_⟩
                    · rw [eH, he.h _ (by rw [s1]; exact hh), s1]
                    · rw [eH, eF, eLf, eL]
                      exact ⟨heq, Int.le_trans s5 (he.l _)⟩
                  · cases hS
                · rename_i h20
                  obtain ⟨s1, s2, s3, s4, s5⟩ := jn_spec hS
                  have eH : H' k = H k := by rw [he.h k (by rw [s2 k hH0]; exact hH0), s2 k hH0]
                  have eL : L' k = L k := by rw [he.old k (by omega), s4 k (by omega)]
                  refine key s2 s3 (fun j hj' => s4 j (by omega)) ⟨by rw [eH]; exact hpk, fun h' => absurd h' h0, fun h' => by omega, fun _ _ => ?_, fun _ _ _ _ => ?_, fun h' => absurd h' h20⟩
                  · rw [eH, he.h _ (by rw [s1]; exact hh), s1]
                  · rw [eL]; exact Int.le_trans s5 (he.l _)
/-- What the whole walk knows in the end. -/
structure Known (op : Nat → Nat) (N : Nat → Int) (To : Nat → Nat) (n : Nat) (bd : Int) (H L : Nat → Int) : Prop where
  h0 : H 0 = 0
  l0 : L 0 = 0
  lp : ∀ i, 0 ≤ L i
  n0 : 0 < n
  last : op (n - 1) = 0
  one : ∀ i, i + 1 < n → op i ≠ 0
  f : ∀ i, i < n → Fact op N To n bd H L i
theorem known_of {op : Nat → Nat} {N : Nat → Int} {To : Nat → Nat} {n : Nat} {bd : Int} (hJ : ∀ i, i < n → (op i = 17 ∨ op i = 18) → i < To i) (hF : ∀ i, i < n → op i = 20 → To i < i)
    (h : refGo op N To n n 0 H0 L0 = some bd) : ∃ H L, Known op N To n bd H L := by
  obtain ⟨H, L, he, hf⟩ := known_from hJ hF n 0 H0 L0 (by omega) h
  obtain ⟨a, _, c, d⟩ := refGo_ends op N To n n 0 H0 L0 bd (by omega) h
  exact ⟨H, L, he.h 0 (by decide), he.old 0 (by omega), fun i => he.l i, a, c, fun i hi => d i (by omega) hi, fun i hi => hf i (by omega) hi⟩

end Go.Proofs.YtidhiaaicmfabaaGreatDoor

/- The FORs and the ways of an image that is right: no instruction is farther than the bound. -/
namespace Go.Proofs.YtidhiaaicmfabaaGreatDoor
open Go.RowKit Go.Proofs Go.Deep

def popS (st : List Nat) : Option (List Nat) := match st with | [] => none | _ :: t => some t
theorem stk_at {op : Nat → Nat} {i : Nat} {st : List Nat} (h : stk op i = some st) : stk op (i + 1) = if op i = 19 then (if 10 ≤ st.length then none else some (i :: st)) else if op i = 20 then popS st else some st := by
  simp only [stk, h, popS]
  cases st <;> rfl
theorem stk_some {op : Nat → Nat} {n i : Nat} {st : List Nat} (h : stk op n = some st) (hi : i ≤ n) : ∃ s, stk op i = some s := by
  cases hs : stk op i with
  | none => rw [stk_none op hs hi] at h; cases h
  | some s => exact ⟨s, rfl⟩
/-- A FOR that is open somewhere is ended behind that. -/
theorem for_ends {op : Nat → Nat} {n : Nat} (h : stk op n = some []) (f : Nat) : ∀ (d j : Nat) (st : List Nat), n - j = d → j ≤ n → stk op j = some st → f ∈ st → ∃ x t, j ≤ x ∧ x < n ∧ op x = 20 ∧ stk op x = some (f :: t)
  | 0, j, st, hd, hj, hs, hm => by
    have e : j = n := by omega
    subst e
    rw [h] at hs; injection hs with hs; subst hs; cases hm
  | d + 1, j, st, hd, hj, hs, hm => by
    have h1 := stk_at hs
    obtain ⟨s1, hs1⟩ := stk_some (i := j + 1) h (by omega)
    rw [hs1] at h1
    have again : f ∈ s1 → ∃ x t, j ≤ x ∧ x < n ∧ op x = 20 ∧ stk op x = some (f :: t) := fun hm1 => by
      obtain ⟨x, t, a, b, c, e⟩ := for_ends h f d (j + 1) s1 (by omega) (by omega) hs1 hm1
      exact ⟨x, t, by omega, b, c, e⟩
    by_cases h19 : op j = 19
    · rw [if_pos h19] at h1
      split at h1
      · cases h1
      · injection h1 with h1; subst h1; exact again (List.mem_cons_of_mem _ hm)
    · rw [if_neg h19] at h1
      by_cases h20 : op j = 20
      · rw [if_pos h20] at h1
        cases st with
        | nil => cases hm
        | cons g t =>
          injection h1 with h1; subst h1
          rcases List.mem_cons.1 hm with e | e
          · subst e; exact ⟨j, _, Nat.le_refl _, by omega, h20, hs⟩
          · exact again e
      · rw [if_neg h20] at h1; injection h1 with h1; subst h1; exact again hm
/-- Behind the NEXT of a FOR that FOR is never open again. -/
theorem for_gone {op : Nat → Nat} {x f : Nat} {t : List Nat} (hx : stk op x = some (f :: t)) (h20 : op x = 20) : ∀ (j : Nat) (st : List Nat), x < j → stk op j = some st → f ∉ st
  | 0, st, hj, _ => by omega
  | j + 1, st, hj, hs => by
    have hft : f ∉ t := fun hm => by
      have := stk_mem op f t (stk_prev op x f t hx) f hm
      omega
    obtain ⟨s0, hs0⟩ := stk_some (i := j) hs (by omega)
    have h1 := stk_at hs0
    rw [hs] at h1
    by_cases e : j = x
    · subst e
      rw [hx] at hs0; injection hs0 with hs0; subst hs0
      rw [if_neg (by omega), if_pos h20] at h1
      injection h1 with h1; subst h1; exact hft
    · have ih := for_gone hx h20 j s0 (by omega) hs0
      have hfx : f < x := (stk_mem op x _ hx f (by simp)).1
      split at h1
      · split at h1
        · cases h1
        · injection h1 with h1; subst h1
          intro hm
          rcases List.mem_cons.1 hm with e' | e'
          · omega
          · exact ih e'
      · split at h1
        · cases s0 with
          | nil => cases h1
          | cons g t' => injection h1 with h1; subst h1; exact fun hm => ih (List.mem_cons_of_mem _ hm)
        · injection h1 with h1; subst h1; exact ih
theorem for_one {op : Nat → Nat} {x i f : Nat} {t t' : List Nat} (hx : stk op x = some (f :: t)) (h20 : op x = 20) (hi : stk op i = some (f :: t')) : i ≤ x ∧ t' = t := by
  refine ⟨?_, ?_⟩
  · rcases Nat.lt_or_ge x i with hl | hl
    · exact absurd (by simp) (for_gone hx h20 i _ hl hi)
    · exact hl
  · have a := stk_prev op x f t hx
    have b := stk_prev op i f t' hi
    rw [a] at b; injection b with b; exact b.symm
theorem inOf_top {op : Nat → Nat} {i f : Nat} {s : List Nat} (hs : stk op i = some s) (h : inOf op i = (f : Int)) : ∃ t, s = f :: t := by
  unfold inOf at h
  rw [hs] at h
  cases s with
  | nil => simp at h; try omega
  | cons g t =>
    have h' : (g : Int) = (f : Int) := h
    have : g = f := by omega
    subst this; exact ⟨t, rfl⟩
theorem top_inOf {op : Nat → Nat} {i f : Nat} {t : List Nat} (hs : stk op i = some (f :: t)) : inOf op i = (f : Int) := by
  unfold inOf; rw [hs]
/-- The NEXT of a FOR. -/
def nxOf (op : Nat → Nat) (n f : Nat) : Nat := ((List.range n).find? (fun x => op x == 20 && inOf op x == (f : Int))).getD 0
theorem nxOf_spec {op : Nat → Nat} {n f i : Nat} {t : List Nat} (h : stk op n = some []) (hi : stk op i = some (f :: t)) (hin : i ≤ n) :
    nxOf op n f < n ∧ op (nxOf op n f) = 20 ∧ stk op (nxOf op n f) = some (f :: t) ∧ i ≤ nxOf op n f ∧ stk op (nxOf op n f + 1) = some t := by
  obtain ⟨x, t', _, hxn, hx20, hxs⟩ := for_ends h f (n - i) i _ rfl hin hi (by simp)
  cases hf : (List.range n).find? (fun x => op x == 20 && inOf op x == (f : Int)) with
  | none =>
    have := List.find?_eq_none.1 hf x (by simpa using hxn)
    simp [hx20, top_inOf hxs] at this
  | some y =>
    have e : nxOf op n f = y := by unfold nxOf; rw [hf]; rfl
    rw [e]
    have hy := List.find?_some hf
    have hm := List.mem_of_find?_eq_some hf
    simp only [Bool.and_eq_true, beq_iff_eq] at hy
    have hyn : y < n := by simpa using hm
    obtain ⟨s, hs⟩ := stk_some (i := y) h (by omega)
    obtain ⟨t2, rfl⟩ := inOf_top hs hy.2
    obtain ⟨d1, d2⟩ := for_one hs hy.1 hi
    subst d2
    refine ⟨hyn, hy.1, hs, d1, ?_⟩
    rw [stk_at hs, if_neg (by omega), if_pos hy.1]; rfl
theorem nxOf_self {op : Nat → Nat} {n f i : Nat} {t : List Nat} (h : stk op n = some []) (hi : stk op i = some (f :: t)) (hin : i < n) (h20 : op i = 20) : nxOf op n f = i := by
  obtain ⟨_, b, c, d, _⟩ := nxOf_spec h hi (by omega)
  have := (for_one hi h20 c).1
  omega
/-- What the rules say of ways and FORs. -/
structure Ways (op : Nat → Nat) (N : Nat → Int) (To : Nat → Nat) (n : Nat) (bd : Int) (H L : Nat → Int) : Prop where
  k : Known op N To n bd H L
  st : stk op n = some []
  jump : ∀ i, i < n → (op i = 17 ∨ op i = 18) → i < To i ∧ To i < n ∧ inOf op (To i) = inOf op i
  back : ∀ i, i < n → op i = 20 → inOf op i = (To i : Int)
  cnt : ∀ i, i < n → op i = 19 → 1 ≤ N i
  bd : bd ≤ 200000
section
variable {op : Nat → Nat} {N : Nat → Int} {To : Nat → Nat} {n : Nat} {bd : Int} {H L : Nat → Int}
theorem Ways.stkS (w : Ways op N To n bd H L) {i : Nat} (hi : i ≤ n) : ∃ s, Go.Proofs.YtidhiaaicmfabaaGreatDoor.stk op i = some s := stk_some w.st hi
theorem same_stk {i j : Nat} {s t : List Nat} (hi : stk op i = some s) (hj : stk op j = some t) (h : inOf op i = inOf op j) : s = t := by
  unfold inOf at h
  rw [hi, hj] at h
  cases s with
  | nil =>
    cases t with
    | nil => rfl
    | cons g t => simp at h; try omega
  | cons f s =>
    cases t with
    | nil => simp at h; try omega
    | cons g t =>
      have e : f = g := by have h' : (f : Int) = (g : Int) := h; omega
      subst e
      have a := stk_prev op i f s hi
      have b := stk_prev op j f t hj
      rw [a] at b; injection b with b; rw [b]
theorem Ways.lt1 (w : Ways op N To n bd H L) {i : Nat} (hi : i < n) (h0 : op i ≠ 0) : i + 1 < n := by
  rcases Nat.lt_or_ge (i + 1) n with h | h
  · exact h
  · have e : i = n - 1 := by omega
    subst e
    exact absurd w.k.last h0
theorem Ways.nxt (w : Ways op N To n bd H L) {i : Nat} (hi : i < n) (h20 : op i = 20) : ∃ f t, Go.Proofs.YtidhiaaicmfabaaGreatDoor.stk op i = some (f :: t) ∧ To i = f ∧ f < i ∧ op f = 19 ∧ Go.Proofs.YtidhiaaicmfabaaGreatDoor.stk op (i + 1) = some t := by
  obtain ⟨s, hs⟩ := w.stkS (i := i) (by omega)
  obtain ⟨s1, hs1⟩ := w.stkS (i := i + 1) (by omega)
  have h1 := stk_at hs
  rw [hs1, if_neg (by omega), if_pos h20] at h1
  cases s with
  | nil => cases h1
  | cons f t =>
    injection h1 with h1; subst h1
    have := stk_mem op i _ hs f (by simp)
    have e := w.back i hi h20
    unfold inOf at e
    rw [hs] at e
    exact ⟨f, _, hs, by simp at e; omega, this.1, this.2, hs1⟩
/-- No instruction is farther from its beginning than the bound. -/
theorem Ways.small (w : Ways op N To n bd H L) : ∀ (d i : Nat), n - i = d → i < n → L i ≤ 199999 := by
  intro d
  induction d using Nat.strongRecOn with
  | _ d ih =>
    intro i hd hi
    have F := w.k.f i hi
    have hp := w.k.lp
    by_cases h0 : op i = 0
    · have := (F.fin h0).2.2
      have := w.bd
      omega
    · have h1 := w.lt1 hi h0
      by_cases h17 : op i = 17
      · have a := w.jump i hi (.inl h17)
        have := (F.jump (.inl h17)).2
        have := ih (n - To i) (by omega) (To i) rfl a.2.1
        omega
      · by_cases h19 : op i = 19
        · obtain ⟨s, hs⟩ := w.stkS (i := i) (by omega)
          obtain ⟨s1, hs1⟩ := w.stkS (i := i + 1) (by omega)
          have e := stk_at hs
          rw [hs1, if_pos h19] at e
          split at e
          · cases e
          · injection e with e; subst e
            obtain ⟨x1, x2, x3, x4, x5⟩ := nxOf_spec w.st hs1 (by omega)
            have h2 := w.lt1 x1 (by omega)
            have Fx := (w.k.f _ x1).back x2
            obtain ⟨f, t, y1, y2, _⟩ := w.nxt x1 x2
            rw [x3] at y1
            injection y1 with y1
            injection y1 with y1 y3
            rw [y2, ← y1] at Fx
            have h3 := ih (n - (nxOf op n i + 1)) (by omega) _ rfl h2
            have hN := w.cnt i hi h19
            have hm : 0 ≤ N i * (L (nxOf op n i) + 1) := Int.mul_nonneg (by omega) (by have := hp (nxOf op n i); omega)
            omega
        · by_cases h20 : op i = 20
          · obtain ⟨f, t, y1, y2, y3, y4, _⟩ := w.nxt hi h20
            have Fx := (F.back h20).2
            rw [y2] at Fx
            have h3 := ih (n - (i + 1)) (by omega) _ rfl h1
            have hN := w.cnt f (by omega) y4
            have h4 := hp i
            have h5 := hp f
            have hm : 1 * (L i + 1) ≤ N f * (L i + 1) := Int.mul_le_mul_of_nonneg_right hN (by omega)
            omega
          · have := F.len h0 h17 h19 h20
            have := ih (n - (i + 1)) (by omega) _ rfl h1
            omega
theorem Ways.back' (w : Ways op N To n bd H L) {i f : Nat} {t : List Nat} (hi : i < n) (h20 : op i = 20) (hs : Go.Proofs.YtidhiaaicmfabaaGreatDoor.stk op i = some (f :: t)) : L f + 1 + N f * (L i + 1) ≤ L (i + 1) := by
  obtain ⟨f', t', y1, y2, y3, y4, y5⟩ := w.nxt hi h20
  rw [hs] at y1
  injection y1 with y1
  injection y1 with y1 y6
  have Fx := ((w.k.f i hi).back h20).2
  rw [y2, ← y1] at Fx
  have := w.small _ (i + 1) rfl (w.lt1 hi (by omega))
  omega
/-- What stands in a FOR is no farther from its beginning than its NEXT; what stands in none, than END. -/
theorem Ways.ahead (w : Ways op N To n bd H L) : ∀ (d i : Nat), n - i = d → i < n → (Go.Proofs.YtidhiaaicmfabaaGreatDoor.stk op i = some [] → L i ≤ L (n - 1)) ∧ (∀ f t, Go.Proofs.YtidhiaaicmfabaaGreatDoor.stk op i = some (f :: t) → L i ≤ L (nxOf op n f)) := by
  intro d
  induction d using Nat.strongRecOn with
  | _ d ih =>
    intro i hd hi
    have F := w.k.f i hi
    have hp := w.k.lp
    obtain ⟨s, hs⟩ := w.stkS (i := i) (by omega)
    have go : ∀ j, i < j → j < n → Go.Proofs.YtidhiaaicmfabaaGreatDoor.stk op j = some s → L i ≤ L j → (Go.Proofs.YtidhiaaicmfabaaGreatDoor.stk op i = some [] → L i ≤ L (n - 1)) ∧ (∀ f t, Go.Proofs.YtidhiaaicmfabaaGreatDoor.stk op i = some (f :: t) → L i ≤ L (nxOf op n f)) := fun j hij hj hsj hL => by
      have h := ih (n - j) (by omega) j rfl hj
      refine ⟨fun e => ?_, fun f t e => ?_⟩
      · rw [hs] at e; rw [← hsj] at e; have := h.1 e; omega
      · rw [hs] at e; rw [← hsj] at e; have := h.2 f t e; omega
    by_cases h0 : op i = 0
    · have e := (F.fin h0).2.1
      have e' : n - 1 = i := by omega
      refine ⟨fun _ => by rw [e']; exact Int.le_refl _, fun f t h => ?_⟩
      obtain ⟨x1, x2, x3, x4, x5⟩ := nxOf_spec w.st h (by omega)
      have : nxOf op n f = i := by omega
      rw [this]; exact Int.le_refl _
    · have h1 := w.lt1 hi h0
      obtain ⟨s1, hs1⟩ := w.stkS (i := i + 1) (by omega)
      have e := stk_at hs
      rw [hs1] at e
      by_cases h17 : op i = 17
      · have a := w.jump i hi (.inl h17)
        obtain ⟨s2, hs2⟩ := w.stkS (i := To i) (by omega)
        have := same_stk hs2 hs a.2.2
        subst this
        exact go (To i) a.1 a.2.1 hs2 (by have := (F.jump (.inl h17)).2; omega)
      · by_cases h19 : op i = 19
        · rw [if_pos h19] at e
          split at e
          · cases e
          · injection e with e; subst e
            obtain ⟨x1, x2, x3, x4, x5⟩ := nxOf_spec w.st hs1 (by omega)
            have h2 := w.lt1 x1 (by omega)
            have hb := w.back' x1 x2 x3
            have hN := w.cnt i hi h19
            have hm : 0 ≤ N i * (L (nxOf op n i) + 1) := Int.mul_nonneg (by omega) (by have := hp (nxOf op n i); omega)
            exact go _ (by omega) h2 x5 (by omega)
        · by_cases h20 : op i = 20
          · refine ⟨fun e' => ?_, fun f t h => ?_⟩
            · rw [hs] at e'; injection e' with e'; subst e'
              rw [if_neg h19, if_pos h20] at e; cases e
            · rw [nxOf_self w.st h hi h20]; exact Int.le_refl _
          · rw [if_neg h19, if_neg h20] at e
            injection e with e; subst e
            exact go (i + 1) (by omega) h1 hs1 (by have := F.len h0 h17 h19 h20; omega)
end

end Go.Proofs.YtidhiaaicmfabaaGreatDoor

/- A scan goes on: each step comes nearer to the bound. -/
namespace Go.Proofs.YtidhiaaicmfabaaGreatDoor
open Go.RowKit Go.Proofs Go.Deep

/-- How many steps are behind at most, by the FORs that are open (which, how many rounds are left). -/
def baseOf (N L : Nat → Int) (M : Nat → Int) : List (Nat × Int) → Int
  | [] => 0
  | p :: r => L p.1 + 1 + (N p.1 - p.2) * M p.1 + baseOf N L M r
/-- Where a scan is: an instruction, and the FORs that are open there. -/
structure Dyn (op : Nat → Nat) (N : Nat → Int) (n : Nat) (i : Nat) (l : List (Nat × Int)) : Prop where
  lt : i < n
  st : stk op i = some (l.map (·.1))
  c : ∀ p ∈ l, 1 ≤ p.2 ∧ p.2 ≤ N p.1
def posOf (op : Nat → Nat) (N L : Nat → Int) (n i : Nat) (l : List (Nat × Int)) : Int := L i + baseOf N L (fun f => L (nxOf op n f) + 1) l
section
variable {op : Nat → Nat} {N : Nat → Int} {To : Nat → Nat} {n : Nat} {bd : Int} {H L : Nat → Int}
theorem Ways.top (w : Ways op N To n bd H L) : ∀ (l : List (Nat × Int)) (i : Nat), Dyn op N n i l → posOf op N L n i l ≤ L (n - 1)
  | [], i, h => by
    have := (w.ahead _ i rfl h.lt).1 h.st
    unfold posOf baseOf; omega
  | (f, c) :: r, i, h => by
    have hs : stk op i = some (f :: r.map (·.1)) := h.st
    obtain ⟨x1, x2, x3, x4, x5⟩ := nxOf_spec w.st hs (by have := h.lt; omega)
    have h1 := (w.ahead _ i rfl h.lt).2 f _ hs
    have h2 := w.lt1 x1 (by omega)
    have h3 := w.back' x1 x2 x3
    have hc := h.c (f, c) (by simp)
    have ih := Ways.top w r (nxOf op n f + 1) ⟨h2, x5, fun p hp => h.c p (List.mem_cons_of_mem _ hp)⟩
    have hp := w.k.lp (nxOf op n f)
    have hm : (N f - c) * (L (nxOf op n f) + 1) ≤ (N f - 1) * (L (nxOf op n f) + 1) := Int.mul_le_mul_of_nonneg_right (by have := hc.1; simp at this; omega) (by omega)
    have e : (N f - 1) * (L (nxOf op n f) + 1) = N f * (L (nxOf op n f) + 1) - (L (nxOf op n f) + 1) := by rw [Int.sub_mul]; omega
    unfold posOf at ih ⊢
    simp only [baseOf]
    omega
theorem Ways.start (w : Ways op N To n bd H L) : Dyn op N n 0 [] ∧ posOf op N L n 0 [] = 0 := by
  refine ⟨⟨w.k.n0, rfl, fun p hp => by cases hp⟩, ?_⟩
  unfold posOf baseOf; have := w.k.l0; omega
theorem Ways.next (w : Ways op N To n bd H L) {i : Nat} {l : List (Nat × Int)} (h : Dyn op N n i l) (h0 : op i ≠ 0) (h17 : op i ≠ 17) (h19 : op i ≠ 19) (h20 : op i ≠ 20) :
    Dyn op N n (i + 1) l ∧ posOf op N L n i l + 1 ≤ posOf op N L n (i + 1) l := by
  refine ⟨⟨w.lt1 h.lt h0, by rw [stk_at h.st, if_neg h19, if_neg h20], h.c⟩, ?_⟩
  have := (w.k.f i h.lt).len h0 h17 h19 h20
  unfold posOf; omega
theorem Ways.jumps (w : Ways op N To n bd H L) {i : Nat} {l : List (Nat × Int)} (h : Dyn op N n i l) (hj : op i = 17 ∨ op i = 18) :
    Dyn op N n (To i) l ∧ posOf op N L n i l + 1 ≤ posOf op N L n (To i) l := by
  have a := w.jump i h.lt hj
  obtain ⟨s, hs⟩ := w.stkS (i := To i) (by omega)
  have e := same_stk hs h.st a.2.2
  refine ⟨⟨a.2.1, by rw [hs, e], h.c⟩, ?_⟩
  have := ((w.k.f i h.lt).jump hj).2
  unfold posOf; omega
theorem Ways.enter (w : Ways op N To n bd H L) {i : Nat} {l : List (Nat × Int)} (h : Dyn op N n i l) (h19 : op i = 19) :
    Dyn op N n (i + 1) ((i, N i) :: l) ∧ posOf op N L n i l + 1 ≤ posOf op N L n (i + 1) ((i, N i) :: l) := by
  have h1 := w.lt1 h.lt (by omega)
  obtain ⟨s, hs⟩ := w.stkS (i := i + 1) (by omega)
  have e := stk_at h.st
  rw [hs, if_pos h19] at e
  split at e
  · cases e
  · injection e with e
    subst e
    refine ⟨⟨h1, hs, fun p hp => ?_⟩, ?_⟩
    · rcases List.mem_cons.1 hp with e | e
      · subst e; exact ⟨w.cnt i h.lt h19, Int.le_refl _⟩
      · exact h.c p e
    · have := w.k.lp (i + 1)
      unfold posOf
      simp only [baseOf]
      have e0 : (N i - N i) * (L (nxOf op n i) + 1) = 0 := by rw [Int.sub_self, Int.zero_mul]
      omega
theorem Ways.nexts (w : Ways op N To n bd H L) {i : Nat} {l : List (Nat × Int)} (h : Dyn op N n i l) (h20 : op i = 20) : ∃ c r, l = (To i, c) :: r ∧ To i < i ∧ op (To i) = 19 ∧ 1 ≤ c ∧ c ≤ N (To i) ∧
    (1 < c → Dyn op N n (To i + 1) ((To i, c - 1) :: r) ∧ posOf op N L n i l + 1 ≤ posOf op N L n (To i + 1) ((To i, c - 1) :: r)) ∧
    (c = 1 → Dyn op N n (i + 1) r ∧ posOf op N L n i l + 1 ≤ posOf op N L n (i + 1) r) := by
  obtain ⟨f, t, y1, y2, y3, y4, y5⟩ := w.nxt h.lt h20
  have hst := h.st
  rw [y1] at hst
  cases l with
  | nil => simp at hst
  | cons p r =>
    obtain ⟨f', c⟩ := p
    simp only [List.map_cons, Option.some.injEq, List.cons.injEq] at hst
    obtain ⟨e1, e2⟩ := hst
    subst e1
    subst y2
    have hc := h.c (To i, c) (by simp)
    have hx := nxOf_self w.st y1 h.lt h20
    have h1 := w.lt1 h.lt (by omega)
    have hb := w.back' h.lt h20 y1
    refine ⟨c, r, rfl, y3, y4, hc.1, hc.2, fun hlt => ⟨⟨by omega, ?_, fun p hp => ?_⟩, ?_⟩, fun he => ⟨⟨h1, by rw [y5, e2], fun p hp => h.c p (List.mem_cons_of_mem _ hp)⟩, ?_⟩⟩
    · have hf := stk_prev op i _ _ y1
      obtain ⟨s, hs⟩ := w.stkS (i := To i + 1) (by omega)
      have e := stk_at hf
      rw [hs, if_pos y4] at e
      split at e
      · cases e
      · rw [hs, e, e2]; rfl
    · rcases List.mem_cons.1 hp with e | e
      · subst e; have := hc.2; simp at *; omega
      · exact h.c p (List.mem_cons_of_mem _ e)
    · have := w.k.lp (To i + 1)
      unfold posOf
      simp only [baseOf, hx]
      have e0 : (N (To i) - (c - 1)) * (L i + 1) = (N (To i) - c) * (L i + 1) + (L i + 1) := by
        rw [show N (To i) - (c - 1) = (N (To i) - c) + 1 by omega, Int.add_mul, Int.one_mul]
      omega
    · subst he
      unfold posOf
      simp only [baseOf, hx]
      have e0 : (N (To i) - 1) * (L i + 1) = N (To i) * (L i + 1) - (L i + 1) := by rw [Int.sub_mul, Int.one_mul]
      omega
theorem Ways.endN (w : Ways op N To n bd H L) {i : Nat} {l : List (Nat × Int)} (h : Dyn op N n i l) (h0 : op i = 0) : l = [] ∧ bd = L i + 1 ∧ H i = 0 ∧ i + 1 = n := by
  have F := (w.k.f i h.lt).fin h0
  have hs := w.st
  rw [← F.2.1, stk_at h.st, if_neg (by omega), if_neg (by omega)] at hs
  refine ⟨?_, F.2.2, F.1, F.2.1⟩
  injection hs with hs
  simpa using hs
theorem Ways.bound (w : Ways op N To n bd H L) {i : Nat} {l : List (Nat × Int)} (h : Dyn op N n i l) : posOf op N L n i l + 1 ≤ bd := by
  have h1 := w.top l i h
  have F := (w.k.f (n - 1) (by have := w.k.n0; omega)).fin w.k.last
  omega
end

end Go.Proofs.YtidhiaaicmfabaaGreatDoor

/- A scan on its way keeps to the rules, and to the bound. -/
namespace Go.Proofs.YtidhiaaicmfabaaGreatDoor
open Go.RowKit Go.Proofs Go.Deep

/-- One step: the state, the stack, the error. -/
def stepK (K : Rc) (q : Sc) (S : List Int) : Sc × List Int × Int :=
  ((doesK K q.nx.toNat (popA (popsOf (K.op q.nx.toNat)) S) (popB (popsOf (K.op q.nx.toNat)) S) { q with nx := q.nx + 1 }).1,
   pushS (K.op q.nx.toNat) (doesK K q.nx.toNat (popA (popsOf (K.op q.nx.toNat)) S) (popB (popsOf (K.op q.nx.toNat)) S) { q with nx := q.nx + 1 }).2.1 (S.drop (popsOf (K.op q.nx.toNat))),
   (doesK K q.nx.toNat (popA (popsOf (K.op q.nx.toNat)) S) (popB (popsOf (K.op q.nx.toNat)) S) { q with nx := q.nx + 1 }).2.2)
/-- All steps up to END or an error: the state, how many, the error. -/
def runK (K : Rc) : Nat → Sc → List Int → Int → Sc × Int × Int
  | 0, q, _, dn => (q, dn, 0)
  | f + 1, q, S, dn => if q.ov then (q, dn, 0) else if (stepK K q S).2.2 ≠ 0 then ((stepK K q S).1, dn + 1, (stepK K q S).2.2) else runK K f (stepK K q S).1 (stepK K q S).2.1 (dn + 1)
/-- What of a machine's steps does not hang on memory. -/
structure KW (K : Rc) (To : Nat → Nat) (bd : Int) (H L : Nat → Int) : Prop where
  w : Ways K.op K.arg To K.n bd H L
  n : K.n ≤ 8000
  op : ∀ i, i < K.n → K.op i < 22
  to_ : ∀ i, i < K.n → (K.op i = 17 ∨ K.op i = 18) → K.to_ i = (To i : Int)
  lp : ∀ i, i < K.n → K.op i = 20 → K.lp i = (To i : Int)
  cell : ∀ i, i < K.n → (K.op i = 2 ∨ K.op i = 3 ∨ K.op i = 21) → ∃ c : Nat, K.arg i = (c : Int) ∧ c < K.nC
  cells : ∀ i, i < K.n → (K.op i = 4 ∨ K.op i = 5) → ∃ c n : Nat, K.arg i = (c : Int) ∧ K.cnt i = (n : Int) ∧ c + n ≤ K.nC
  rep : ∀ i, i < K.n → K.op i = 19 → K.arg i ≤ 65535
/-- A scan on its way, as the rules have it. -/
structure GI (K : Rc) (bd : Int) (H L : Nat → Int) (q : Sc) (S : List Int) (dn : Int) : Prop where
  run : q.ov = false → ∃ (i : Nat) (l : List (Nat × Int)), q.nx = (i : Int) ∧ Dyn K.op K.arg K.n i l ∧ q.Lf = l.map (·.2) ∧ (S.length : Int) = H i ∧ dn ≤ posOf K.op K.arg L K.n i l
  over : q.ov = true → 1 ≤ dn ∧ dn ≤ bd
  dn0 : 0 ≤ dn
section
variable {K : Rc} {To : Nat → Nat} {bd : Int} {H L : Nat → Int}
theorem Dyn.len {op : Nat → Nat} {N : Nat → Int} {n i : Nat} {l : List (Nat × Int)} (h : Dyn op N n i l) : l.length ≤ 10 := by
  have := stk_len op i _ h.st
  simpa using this
theorem GI.side (k : KW K To bd H L) {q : Sc} {S : List Int} {dn : Int} (g : GI K bd H L q S dn) (ho : q.ov = false) : ∃ i : Nat, q.nx = (i : Int) ∧ i < K.n ∧ K.op i < 22 ∧ popsOf (K.op i) ≤ S.length ∧ S.length ≤ 40 ∧ Side K i q ∧ 0 ≤ dn ∧ dn + 1 ≤ bd := by
  obtain ⟨i, l, h1, h2, h3, h4, h5⟩ := g.run ho
  have F := k.w.k.f i h2.lt
  have hb := k.w.bound h2
  have hl := h2.len
  have hpo : popsOf (K.op i) ≤ 2 := by unfold popsOf; (repeat' split) <;> omega
  refine ⟨i, h1, h2.lt, k.op i h2.lt, by have := F.pop; omega, by have := F.pop; omega, ⟨k.cell i h2.lt, k.cells i h2.lt, fun _ => by rw [h3]; simpa using hl, fun h20 => ?_⟩, g.dn0, by omega⟩
  obtain ⟨c, r, e, a1, a2, a3, a4, _⟩ := k.w.nexts h2 h20
  have hlp := k.lp i h2.lt h20
  have hn := k.n
  have hlt := h2.lt
  have hr := k.rep (To i) (by omega) a2
  subst e
  refine ⟨c, r.map (·.2), by rw [h3]; rfl, a3, by omega, by simp at hl ⊢; omega, by omega, by omega⟩
theorem does_plain {i : Nat} {a b : Int} {q : Sc} (h0 : K.op i ≠ 0) (h17 : K.op i ≠ 17) (h18 : K.op i ≠ 18) (h19 : K.op i ≠ 19) (h20 : K.op i ≠ 20) :
    (doesK K i a b q).1.nx = q.nx ∧ (doesK K i a b q).1.Lf = q.Lf ∧ (doesK K i a b q).1.ov = q.ov := by
  have ite : ∀ {c : Prop} [Decidable c] {A B : Sc × Int × Int}, (A.1.nx = q.nx ∧ A.1.Lf = q.Lf ∧ A.1.ov = q.ov) → (B.1.nx = q.nx ∧ B.1.Lf = q.Lf ∧ B.1.ov = q.ov) → ((if c then A else B).1.nx = q.nx ∧ (if c then A else B).1.Lf = q.Lf ∧ (if c then A else B).1.ov = q.ov) := by
    intro c _ A B ha hb
    split
    · exact ha
    · exact hb
  unfold doesK doesV
  rw [if_neg h0, if_neg h17, if_neg h18, if_neg h19, if_neg h20]
  repeat' (refine ite ?_ ?_)
  all_goals exact ⟨rfl, rfl, rfl⟩
theorem pushS_len (o : Nat) (v : Int) (S : List Int) : (pushS o v S).length = S.length + pushesOf o := by
  have hpu : pushesOf o ≤ 1 := by unfold pushesOf; (repeat' split) <;> omega
  unfold pushS; split
  · simp; omega
  · omega
theorem GI.step (k : KW K To bd H L) {q : Sc} {S : List Int} {dn : Int} (g : GI K bd H L q S dn) (ho : q.ov = false) : GI K bd H L (stepK K q S).1 (stepK K q S).2.1 (dn + 1) := by
  obtain ⟨i, l, h1, h2, h3, h4, h5⟩ := g.run ho
  have F := k.w.k.f i h2.lt
  have hb := k.w.bound h2
  have hd0 := g.dn0
  have ei : q.nx.toNat = i := by omega
  have hlen : ((stepK K q S).2.1.length : Int) = H i - popsOf (K.op i) + pushesOf (K.op i) := by
    unfold stepK
    rw [ei]
    show ((pushS _ _ _).length : Int) = _
    rw [pushS_len, List.length_drop]
    have := F.pop
    omega
  have hst : (stepK K q S).1 = (doesK K i (popA (popsOf (K.op i)) S) (popB (popsOf (K.op i)) S) { q with nx := q.nx + 1 }).1 := by unfold stepK; rw [ei]
  by_cases h0 : K.op i = 0
  · have e : (stepK K q S).1.ov = true := by rw [hst]; unfold doesK doesV; rw [if_pos h0]
    exact ⟨fun h => by rw [e] at h; (cases h), fun _ => ⟨by omega, by omega⟩, by omega⟩
  · have hov : ∀ (i' : Nat) (l' : List (Nat × Int)), (stepK K q S).1.nx = (i' : Int) → (stepK K q S).1.ov = false → Dyn K.op K.arg K.n i' l' → (stepK K q S).1.Lf = l'.map (·.2) → H i - popsOf (K.op i) + pushesOf (K.op i) = H i' → posOf K.op K.arg L K.n i l + 1 ≤ posOf K.op K.arg L K.n i' l' → GI K bd H L (stepK K q S).1 (stepK K q S).2.1 (dn + 1) := by
      intro i' l' e1 e2 e3 e4 e5 e6
      exact ⟨fun _ => ⟨i', l', e1, e3, e4, by rw [hlen, e5], by omega⟩, fun h => by rw [e2] at h; (cases h), by omega⟩
    by_cases h17 : K.op i = 17
    · have e : (stepK K q S).1 = { q with nx := K.to_ i } := by rw [hst]; unfold doesK doesV; rw [h17]; rfl
      obtain ⟨d1, d2⟩ := k.w.jumps h2 (.inl h17)
      exact hov (To i) l (by rw [e]; exact k.to_ i h2.lt (.inl h17)) (by rw [e]; exact ho) d1 (by rw [e]; exact h3) (F.jump (.inl h17)).1.symm d2
    · by_cases h18 : K.op i = 18
      · by_cases ha : popA (popsOf (K.op i)) S = 0
        · have e : (stepK K q S).1 = { q with nx := K.to_ i } := by rw [hst]; unfold doesK doesV; rw [h18] at ha ⊢; simp [ha]
          obtain ⟨d1, d2⟩ := k.w.jumps h2 (.inr h18)
          exact hov (To i) l (by rw [e]; exact k.to_ i h2.lt (.inr h18)) (by rw [e]; exact ho) d1 (by rw [e]; exact h3) (F.jump (.inr h18)).1.symm d2
        · have e : (stepK K q S).1 = { q with nx := q.nx + 1 } := by rw [hst]; unfold doesK doesV; rw [h18] at ha ⊢; simp [ha]
          obtain ⟨d1, d2⟩ := k.w.next h2 h0 h17 (by omega) (by omega)
          exact hov (i + 1) l (by rw [e]; show q.nx + 1 = _; omega) (by rw [e]; exact ho) d1 (by rw [e]; exact h3) (F.next h0 h17).symm d2
      · by_cases h19 : K.op i = 19
        · have e : (stepK K q S).1 = { q with nx := q.nx + 1, Lf := K.arg i :: q.Lf } := by rw [hst]; unfold doesK doesV; rw [h19]; rfl
          obtain ⟨d1, d2⟩ := k.w.enter h2 h19
          exact hov (i + 1) _ (by rw [e]; show q.nx + 1 = _; omega) (by rw [e]; exact ho) d1 (by rw [e]; show K.arg i :: q.Lf = _; rw [h3]; rfl) (F.next h0 h17).symm d2
        · by_cases h20 : K.op i = 20
          · obtain ⟨c, r, el, a1, a2, a3, a4, a5, a6⟩ := k.w.nexts h2 h20
            subst el
            have hLf : q.Lf = c :: r.map (·.2) := by rw [h3]; rfl
            by_cases hc : 1 < c
            · have e : (stepK K q S).1 = { q with nx := K.lp i + 1, Lf := (c - 1) :: r.map (·.2) } := by rw [hst]; unfold doesK doesV; rw [h20]; simp [hLf, hc]
              obtain ⟨d1, d2⟩ := a5 hc
              have hlp := k.lp i h2.lt h20
              exact hov (To i + 1) _ (by rw [e]; show K.lp i + 1 = _; omega) (by rw [e]; exact ho) d1 (by rw [e]; rfl) (F.back h20).1 d2
            · have e : (stepK K q S).1 = { q with nx := q.nx + 1, Lf := r.map (·.2) } := by rw [hst]; unfold doesK doesV; rw [h20]; simp [hLf, hc]
              obtain ⟨d1, d2⟩ := a6 (by omega)
              exact hov (i + 1) _ (by rw [e]; show q.nx + 1 = _; omega) (by rw [e]; exact ho) d1 (by rw [e]) (F.next h0 h17).symm d2
          · obtain ⟨p1, p2, p3⟩ := does_plain (K := K) (i := i) (a := popA (popsOf (K.op i)) S) (b := popB (popsOf (K.op i)) S) (q := { q with nx := q.nx + 1 }) h0 h17 h18 h19 h20
            obtain ⟨d1, d2⟩ := k.w.next h2 h0 h17 h19 h20
            exact hov (i + 1) l (by rw [hst, p1]; show q.nx + 1 = _; omega) (by rw [hst, p3]; exact ho) d1 (by rw [hst, p2]; exact h3) (F.next h0 h17).symm d2
end

end Go.Proofs.YtidhiaaicmfabaaGreatDoor

/- A scan's steps, all of them: toEnd. -/
namespace Go.Proofs.YtidhiaaicmfabaaGreatDoor
open Go.RowKit Go.Proofs Go.Deep

theorem runK_done (K : Rc) (f : Nat) (q : Sc) (S : List Int) (dn : Int) (h : q.ov = true) : runK K f q S dn = (q, dn, 0) := by
  cases f with
  | zero => rfl
  | succ f => unfold runK; rw [if_pos h]
theorem runK_err (K : Rc) (f : Nat) (q : Sc) (S : List Int) (dn : Int) (h : q.ov = false) (he : (stepK K q S).2.2 ≠ 0) (hf : 0 < f) : runK K f q S dn = ((stepK K q S).1, dn + 1, (stepK K q S).2.2) := by
  obtain ⟨g, rfl⟩ : ∃ g, f = g + 1 := ⟨f - 1, by omega⟩
  simp only [runK]
  rw [if_neg (by rw [h]; simp), if_pos he]
theorem runK_on (K : Rc) (f : Nat) (q : Sc) (S : List Int) (dn : Int) (h : q.ov = false) (he : (stepK K q S).2.2 = 0) (hf : 0 < f) : runK K f q S dn = runK K (f - 1) (stepK K q S).1 (stepK K q S).2.1 (dn + 1) := by
  obtain ⟨g, rfl⟩ : ∃ g, f = g + 1 := ⟨f - 1, by omega⟩
  simp only [runK]
  rw [if_neg (by rw [h]; simp), if_neg (by rw [he]; simp)]
  rfl
set_option maxRecDepth 100000 in
set_option maxHeartbeats 1000000 in
theorem toEnd_any {K : Rc} (hK : RcOk K) (hF : FvOk K) {To : Nat → Nat} {bd : Int} {H L : Nat → Int} (k : KW K To bd H L) (hbd : bd ≤ 200000) {q : Sc} {w : World} (h : RS K 0 q [] w) (g : GI K bd H L q [] 0) (R : Ending → World → Prop)
    (fin : ∀ w' q' S' dn e, RS K dn q' S' w' → runK K 300000 q [] 0 = (q', dn, e) → 1 ≤ dn → dn ≤ bd → R (.returned (.int .i64 e)) w') :
    Calls Tryz.prog 125 #[.pointer (some ⟨K.br, 0, none⟩)] w R := by
  have hX : ∃ X, runK K 300000 q [] 0 = X := ⟨_, rfl⟩
  obtain ⟨X, hX⟩ := hX
  replace fin := hd fin
  replace hX := hd hX
  replace h := hd h
  replace g := hd g
  go_enter Tryz.func125, Tryz.ntmps125
  go_wp2
  go_loopg [3] 200001 (fun gk _ wr => ∃ (q1 : Sc) (S1 : List Int) (dn : Nat), gk + dn = 200001 ∧ RS K dn q1 S1 wr ∧ GI K bd H L q1 S1 dn ∧ X = runK K (300000 - dn) q1 S1 dn)
  case atStart => exact ⟨q, [], 0, rfl, h.out, g.out, hX.out.symm⟩
  case round =>
    obtain ⟨q1, S1, dn, hgk, hrs, hgi, hx⟩ := hrel
    obtain ⟨sv, rv, hm, _, _⟩ := hrs.ex
    have c7 := hm.c117
    have hlt := hm.run.lt
    replace hx := hd hx
    clear hm
    by_cases ho : q1.ov = true
    · have ob := hgi.over ho
      rw [ho] at c7
      rw [runK_done K _ q1 S1 dn ho] at hx
      replace hrs := hd hrs
      replace hgi := hd hgi
      go_wp2
      exact cl1 (fin.out _ q1 S1 dn 0 hrs.out (by rw [hX.out, hx.out]) ob.1 ob.2) rfl
    · have ho : q1.ov = false := by cases e : q1.ov; rfl; exact absurd e ho
      obtain ⟨i, e1, e2, e3, e4, e5, e6, e7, e8⟩ := hgi.side k ho
      have hst := hgi.step k ho
      have esK : stepK K q1 S1 = ((doesK K i (popA (popsOf (K.op i)) S1) (popB (popsOf (K.op i)) S1) { q1 with nx := (i : Int) + 1 }).1, pushS (K.op i) (doesK K i (popA (popsOf (K.op i)) S1) (popB (popsOf (K.op i)) S1) { q1 with nx := (i : Int) + 1 }).2.1 (S1.drop (popsOf (K.op i))), (doesK K i (popA (popsOf (K.op i)) S1) (popB (popsOf (K.op i)) S1) { q1 with nx := (i : Int) + 1 }).2.2) := by
        unfold stepK
        rw [e1]; rfl
      rw [ho] at c7
      replace hgi := hd hgi
      replace hst := hd hst
      replace hrs := hd hrs
      replace esK := hd esK
      go_wp2_with (fail)
      refine advance_any hK hF hrs.out i e2 e1 e3 e4 e5 ⟨e7, by omega⟩ e6 _ ?_
      intro w1 hw1
      have f1 : (doesK K i (popA (popsOf (K.op i)) S1) (popB (popsOf (K.op i)) S1) { q1 with nx := (i : Int) + 1 }).1 = (stepK K q1 S1).1 := by rw [esK.out]
      have f2 : pushS (K.op i) (doesK K i (popA (popsOf (K.op i)) S1) (popB (popsOf (K.op i)) S1) { q1 with nx := (i : Int) + 1 }).2.1 (S1.drop (popsOf (K.op i))) = (stepK K q1 S1).2.1 := by rw [esK.out]
      have f3 : (doesK K i (popA (popsOf (K.op i)) S1) (popB (popsOf (K.op i)) S1) { q1 with nx := (i : Int) + 1 }).2.2 = (stepK K q1 S1).2.2 := by rw [esK.out]
      rw [f1, f2] at hw1
      rw [f3]
      clear f1 f2 f3 esK
      have hx2 := hd (fun he : (stepK K q1 S1).2.2 ≠ 0 => hx.out.trans (runK_err K _ q1 S1 dn ho he (by omega)))
      have hx3 := hd (fun he : (stepK K q1 S1).2.2 = 0 => hx.out.trans (runK_on K _ q1 S1 dn ho he (by omega)))
      generalize stepK K q1 S1 = sk at *
      obtain ⟨q2, S2, e⟩ := sk
      replace hw1 := hd hw1
      clear hx hrs c7
      by_cases he : e = 0
      · subst he
        go_wp2
        go_roundg (gk - 1)
        case measure => omega
        case rel => exact ⟨q2, S2, dn + 1, by omega, by have := hw1.out; simpa using this, by have := hst.out; simpa using this, by have := hx3.out (by first | rfl | trivial); rw [this]; simp [Nat.sub_sub]⟩
      · have te : (e != 0) = true := by simpa using he
        go_wp2
        exact cl1 (fin.out _ q2 S2 (dn + 1) e hw1.out (by rw [hX.out, hx2.out he]) (by omega) (by omega)) rfl

end Go.Proofs.YtidhiaaicmfabaaGreatDoor
