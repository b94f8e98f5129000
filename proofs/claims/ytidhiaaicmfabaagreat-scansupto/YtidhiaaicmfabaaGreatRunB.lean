/- The FORs and the ways of an image that is right: no instruction is farther than the bound. -/
import Derived.Test.YtidhiaaicmfabaaGreatMem
import Derived.Test.YtidhiaaicmfabaaGreatSpec
import Derived.Test.YtidhiaaicmfabaaGreatRefA
import Derived.Test.YtidhiaaicmfabaaGreatRefC
import Derived.Test.YtidhiaaicmfabaaGreatSpec2
import Derived.WalkKit
import Derived.WalkSpells
import Derived.WalkLawsBesides
import Derived.Deep.OwnRows
import Derived.BigQuiet
import Derived.Handy
import Derived.Deep.Light
import Derived.Deep.RegionHeld3
import Derived.Deep.RegionWith
import Derived.Test.YtidhiaaicmfabaaGreatRunA
namespace Go.Proofs.YtidhiaaicmfabaaGreat
open Go.RowKit Go.Proofs Go.Deep

def popS (st : List Nat) : Option (List Nat) := match st with | [] => none | _ :: t => some t
theorem stk_at {op : Nat → Nat} {i : Nat} {st : List Nat} (h : stk op i = some st) : stk op (i + 1) = if op i = 19 then (if 10 ≤ st.length then none else some (i :: st)) else if op i = 20 then popS st else some st := by
  simp only [stk, h, popS]
  cases st <;> rfl
theorem stk_some {op : Nat → Nat} {n i : Nat} {st : List Nat} (h : stk op n = some st) (hi : i ≤ n) : ∃ s, stk op i = some s := by
  cases hs : stk op i with
  | none => rw [stk_none op hs hi] at h; cases h
  | some s => exact ⟨s, rfl⟩
/-- A FOR that is open somewhere is ended behind that. -/
theorem for_ends {op : Nat → Nat} {n : Nat} (h : stk op n = some []) (f : Nat) : ∀ (d j : Nat) (st : List Nat), n - j = d → j ≤ n → stk op j = some st → f ∈ st → ∃ x t, j ≤ x ∧ x < n ∧ op x = 20 ∧ stk op x = some (f :: t)
  | 0, j, st, hd, hj, hs, hm => by
    have e : j = n := by omega
    subst e
    rw [h] at hs; injection hs with hs; subst hs; cases hm
  | d + 1, j, st, hd, hj, hs, hm => by
    have h1 := stk_at hs
    obtain ⟨s1, hs1⟩ := stk_some (i := j + 1) h (by omega)
    rw [hs1] at h1
    have again : f ∈ s1 → ∃ x t, j ≤ x ∧ x < n ∧ op x = 20 ∧ stk op x = some (f :: t) := fun hm1 => by
      obtain ⟨x, t, a, b, c, e⟩ := for_ends h f d (j + 1) s1 (by omega) (by omega) hs1 hm1
      exact ⟨x, t, by omega, b, c, e⟩
    by_cases h19 : op j = 19
    · rw [if_pos h19] at h1
      split at h1
      · cases h1
      · injection h1 with h1; subst h1; exact again (List.mem_cons_of_mem _ hm)
    · rw [if_neg h19] at h1
      by_cases h20 : op j = 20
      · rw [if_pos h20] at h1
        cases st with
        | nil => cases hm
        | cons g t =>
          injection h1 with h1; subst h1
          rcases List.mem_cons.1 hm with e | e
          · subst e; exact ⟨j, _, Nat.le_refl _, by omega, h20, hs⟩
          · exact again e
      · rw [if_neg h20] at h1; injection h1 with h1; subst h1; exact again hm
/-- Behind the NEXT of a FOR that FOR is never open again. -/
theorem for_gone {op : Nat → Nat} {x f : Nat} {t : List Nat} (hx : stk op x = some (f :: t)) (h20 : op x = 20) : ∀ (j : Nat) (st : List Nat), x < j → stk op j = some st → f ∉ st
  | 0, st, hj, _ => by omega
  | j + 1, st, hj, hs => by
    have hft : f ∉ t := fun hm => by
      have := stk_mem op f t (stk_prev op x f t hx) f hm
      omega
    obtain ⟨s0, hs0⟩ := stk_some (i := j) hs (by omega)
    have h1 := stk_at hs0
    rw [hs] at h1
    by_cases e : j = x
    · subst e
      rw [hx] at hs0; injection hs0 with hs0; subst hs0
      rw [if_neg (by omega), if_pos h20] at h1
      injection h1 with h1; subst h1; exact hft
    · have ih := for_gone hx h20 j s0 (by omega) hs0
      have hfx : f < x := (stk_mem op x _ hx f (by simp)).1
      split at h1
      · split at h1
        · cases h1
        · injection h1 with h1; subst h1
          intro hm
          rcases List.mem_cons.1 hm with e' | e'
          · omega
          · exact ih e'
      · split at h1
        · cases s0 with
          | nil => cases h1
          | cons g t' => injection h1 with h1; subst h1; exact fun hm => ih (List.mem_cons_of_mem _ hm)
        · injection h1 with h1; subst h1; exact ih
theorem for_one {op : Nat → Nat} {x i f : Nat} {t t' : List Nat} (hx : stk op x = some (f :: t)) (h20 : op x = 20) (hi : stk op i = some (f :: t')) : i ≤ x ∧ t' = t := by
  refine ⟨?_, ?_⟩
  · rcases Nat.lt_or_ge x i with hl | hl
    · exact absurd (by simp) (for_gone hx h20 i _ hl hi)
    · exact hl
  · have a := stk_prev op x f t hx
    have b := stk_prev op i f t' hi
    rw [a] at b; injection b with b; exact b.symm
theorem inOf_top {op : Nat → Nat} {i f : Nat} {s : List Nat} (hs : stk op i = some s) (h : inOf op i = (f : Int)) : ∃ t, s = f :: t := by
  unfold inOf at h
  rw [hs] at h
  cases s with
  | nil => simp at h; try omega
  | cons g t =>
    have h' : (g : Int) = (f : Int) := h
    have : g = f := by omega
    subst this; exact ⟨t, rfl⟩
theorem top_inOf {op : Nat → Nat} {i f : Nat} {t : List Nat} (hs : stk op i = some (f :: t)) : inOf op i = (f : Int) := by
  unfold inOf; rw [hs]
/-- The NEXT of a FOR. -/
def nxOf (op : Nat → Nat) (n f : Nat) : Nat := ((List.range n).find? (fun x => op x == 20 && inOf op x == (f : Int))).getD 0
theorem nxOf_spec {op : Nat → Nat} {n f i : Nat} {t : List Nat} (h : stk op n = some []) (hi : stk op i = some (f :: t)) (hin : i ≤ n) :
    nxOf op n f < n ∧ op (nxOf op n f) = 20 ∧ stk op (nxOf op n f) = some (f :: t) ∧ i ≤ nxOf op n f ∧ stk op (nxOf op n f + 1) = some t := by
  obtain ⟨x, t', _, hxn, hx20, hxs⟩ := for_ends h f (n - i) i _ rfl hin hi (by simp)
  cases hf : (List.range n).find? (fun x => op x == 20 && inOf op x == (f : Int)) with
  | none =>
    have := List.find?_eq_none.1 hf x (by simpa using hxn)
    simp [hx20, top_inOf hxs] at this
  | some y =>
    have e : nxOf op n f = y := by unfold nxOf; rw [hf]; rfl
    rw [e]
    have hy := List.find?_some hf
    have hm := List.mem_of_find?_eq_some hf
    simp only [Bool.and_eq_true, beq_iff_eq] at hy
    have hyn : y < n := by simpa using hm
    obtain ⟨s, hs⟩ := stk_some (i := y) h (by omega)
    obtain ⟨t2, rfl⟩ := inOf_top hs hy.2
    obtain ⟨d1, d2⟩ := for_one hs hy.1 hi
    subst d2
    refine ⟨hyn, hy.1, hs, d1, ?_⟩
    rw [stk_at hs, if_neg (by omega), if_pos hy.1]; rfl
theorem nxOf_self {op : Nat → Nat} {n f i : Nat} {t : List Nat} (h : stk op n = some []) (hi : stk op i = some (f :: t)) (hin : i < n) (h20 : op i = 20) : nxOf op n f = i := by
  obtain ⟨_, b, c, d, _⟩ := nxOf_spec h hi (by omega)
  have := (for_one hi h20 c).1
  omega
/-- What the rules say of ways and FORs. -/
structure Ways (op : Nat → Nat) (N : Nat → Int) (To : Nat → Nat) (n : Nat) (bd : Int) (H L : Nat → Int) : Prop where
  k : Known op N To n bd H L
  st : stk op n = some []
  jump : ∀ i, i < n → (op i = 17 ∨ op i = 18) → i < To i ∧ To i < n ∧ inOf op (To i) = inOf op i
  back : ∀ i, i < n → op i = 20 → inOf op i = (To i : Int)
  cnt : ∀ i, i < n → op i = 19 → 1 ≤ N i
  bd : bd ≤ 200000
section
variable {op : Nat → Nat} {N : Nat → Int} {To : Nat → Nat} {n : Nat} {bd : Int} {H L : Nat → Int}
theorem Ways.stkS (w : Ways op N To n bd H L) {i : Nat} (hi : i ≤ n) : ∃ s, Go.Proofs.YtidhiaaicmfabaaGreat.stk op i = some s := stk_some w.st hi
theorem same_stk {i j : Nat} {s t : List Nat} (hi : stk op i = some s) (hj : stk op j = some t) (h : inOf op i = inOf op j) : s = t := by
  unfold inOf at h
  rw [hi, hj] at h
  cases s with
  | nil =>
    cases t with
    | nil => rfl
    | cons g t => simp at h; try omega
  | cons f s =>
    cases t with
    | nil => simp at h; try omega
    | cons g t =>
      have e : f = g := by have h' : (f : Int) = (g : Int) := h; omega
      subst e
      have a := stk_prev op i f s hi
      have b := stk_prev op j f t hj
      rw [a] at b; injection b with b; rw [b]
theorem Ways.lt1 (w : Ways op N To n bd H L) {i : Nat} (hi : i < n) (h0 : op i ≠ 0) : i + 1 < n := by
  rcases Nat.lt_or_ge (i + 1) n with h | h
  · exact h
  · have e : i = n - 1 := by omega
    subst e
    exact absurd w.k.last h0
theorem Ways.nxt (w : Ways op N To n bd H L) {i : Nat} (hi : i < n) (h20 : op i = 20) : ∃ f t, Go.Proofs.YtidhiaaicmfabaaGreat.stk op i = some (f :: t) ∧ To i = f ∧ f < i ∧ op f = 19 ∧ Go.Proofs.YtidhiaaicmfabaaGreat.stk op (i + 1) = some t := by
  obtain ⟨s, hs⟩ := w.stkS (i := i) (by omega)
  obtain ⟨s1, hs1⟩ := w.stkS (i := i + 1) (by omega)
  have h1 := stk_at hs
  rw [hs1, if_neg (by omega), if_pos h20] at h1
  cases s with
  | nil => cases h1
  | cons f t =>
    injection h1 with h1; subst h1
    have := stk_mem op i _ hs f (by simp)
    have e := w.back i hi h20
    unfold inOf at e
    rw [hs] at e
    exact ⟨f, _, hs, by simp at e; omega, this.1, this.2, hs1⟩
/-- No instruction is farther from its beginning than the bound. -/
theorem Ways.small (w : Ways op N To n bd H L) : ∀ (d i : Nat), n - i = d → i < n → L i ≤ 199999 := by
  intro d
  induction d using Nat.strongRecOn with
  | _ d ih =>
    intro i hd hi
    have F := w.k.f i hi
    have hp := w.k.lp
    by_cases h0 : op i = 0
    · have := (F.fin h0).2.2
      have := w.bd
      omega
    · have h1 := w.lt1 hi h0
      by_cases h17 : op i = 17
      · have a := w.jump i hi (.inl h17)
        have := (F.jump (.inl h17)).2
        have := ih (n - To i) (by omega) (To i) rfl a.2.1
        omega
      · by_cases h19 : op i = 19
        · obtain ⟨s, hs⟩ := w.stkS (i := i) (by omega)
          obtain ⟨s1, hs1⟩ := w.stkS (i := i + 1) (by omega)
          have e := stk_at hs
          rw [hs1, if_pos h19] at e
          split at e
          · cases e
          · injection e with e; subst e
            obtain ⟨x1, x2, x3, x4, x5⟩ := nxOf_spec w.st hs1 (by omega)
            have h2 := w.lt1 x1 (by omega)
            have Fx := (w.k.f _ x1).back x2
            obtain ⟨f, t, y1, y2, _⟩ := w.nxt x1 x2
            rw [x3] at y1
            injection y1 with y1
            injection y1 with y1 y3
            rw [y2, ← y1] at Fx
            have h3 := ih (n - (nxOf op n i + 1)) (by omega) _ rfl h2
            have hN := w.cnt i hi h19
            have hm : 0 ≤ N i * (L (nxOf op n i) + 1) := Int.mul_nonneg (by omega) (by have := hp (nxOf op n i); omega)
            omega
        · by_cases h20 : op i = 20
          · obtain ⟨f, t, y1, y2, y3, y4, _⟩ := w.nxt hi h20
            have Fx := (F.back h20).2
            rw [y2] at Fx
            have h3 := ih (n - (i + 1)) (by omega) _ rfl h1
            have hN := w.cnt f (by omega) y4
            have h4 := hp i
            have h5 := hp f
            have hm : 1 * (L i + 1) ≤ N f * (L i + 1) := Int.mul_le_mul_of_nonneg_right hN (by omega)
            omega
          · have := F.len h0 h17 h19 h20
            have := ih (n - (i + 1)) (by omega) _ rfl h1
            omega
theorem Ways.back' (w : Ways op N To n bd H L) {i f : Nat} {t : List Nat} (hi : i < n) (h20 : op i = 20) (hs : Go.Proofs.YtidhiaaicmfabaaGreat.stk op i = some (f :: t)) : L f + 1 + N f * (L i + 1) ≤ L (i + 1) := by
  obtain ⟨f', t', y1, y2, y3, y4, y5⟩ := w.nxt hi h20
  rw [hs] at y1
  injection y1 with y1
  injection y1 with y1 y6
  have Fx := ((w.k.f i hi).back h20).2
  rw [y2, ← y1] at Fx
  have := w.small _ (i + 1) rfl (w.lt1 hi (by omega))
  omega
/-- What stands in a FOR is no farther from its beginning than its NEXT; what stands in none, than END. -/
theorem Ways.ahead (w : Ways op N To n bd H L) : ∀ (d i : Nat), n - i = d → i < n → (Go.Proofs.YtidhiaaicmfabaaGreat.stk op i = some [] → L i ≤ L (n - 1)) ∧ (∀ f t, Go.Proofs.YtidhiaaicmfabaaGreat.stk op i = some (f :: t) → L i ≤ L (nxOf op n f)) := by
  intro d
  induction d using Nat.strongRecOn with
  | _ d ih =>
    intro i hd hi
    have F := w.k.f i hi
    have hp := w.k.lp
    obtain ⟨s, hs⟩ := w.stkS (i := i) (by omega)
    have go : ∀ j, i < j → j < n → Go.Proofs.YtidhiaaicmfabaaGreat.stk op j = some s → L i ≤ L j → (Go.Proofs.YtidhiaaicmfabaaGreat.stk op i = some [] → L i ≤ L (n - 1)) ∧ (∀ f t, Go.Proofs.YtidhiaaicmfabaaGreat.stk op i = some (f :: t) → L i ≤ L (nxOf op n f)) := fun j hij hj hsj hL => by
      have h := ih (n - j) (by omega) j rfl hj
      refine ⟨fun e => ?_, fun f t e => ?_⟩
      · rw [hs] at e; rw [← hsj] at e; have := h.1 e; omega
      · rw [hs] at e; rw [← hsj] at e; have := h.2 f t e; omega
    by_cases h0 : op i = 0
    · have e := (F.fin h0).2.1
      have e' : n - 1 = i := by omega
      refine ⟨fun _ => by rw [e']; exact Int.le_refl _, fun f t h => ?_⟩
      obtain ⟨x1, x2, x3, x4, x5⟩ := nxOf_spec w.st h (by omega)
      have : nxOf op n f = i := by omega
      rw [this]; exact Int.le_refl _
    · have h1 := w.lt1 hi h0
      obtain ⟨s1, hs1⟩ := w.stkS (i := i + 1) (by omega)
      have e := stk_at hs
      rw [hs1] at e
      by_cases h17 : op i = 17
      · have a := w.jump i hi (.inl h17)
        obtain ⟨s2, hs2⟩ := w.stkS (i := To i) (by omega)
        have := same_stk hs2 hs a.2.2
        subst this
        exact go (To i) a.1 a.2.1 hs2 (by have := (F.jump (.inl h17)).2; omega)
      · by_cases h19 : op i = 19
        · rw [if_pos h19] at e
          split at e
          · cases e
          · injection e with e; subst e
            obtain ⟨x1, x2, x3, x4, x5⟩ := nxOf_spec w.st hs1 (by omega)
            have h2 := w.lt1 x1 (by omega)
            have hb := w.back' x1 x2 x3
            have hN := w.cnt i hi h19
            have hm : 0 ≤ N i * (L (nxOf op n i) + 1) := Int.mul_nonneg (by omega) (by have := hp (nxOf op n i); omega)
            exact go _ (by omega) h2 x5 (by omega)
        · by_cases h20 : op i = 20
          · refine ⟨fun e' => ?_, fun f t h => ?_⟩
            · rw [hs] at e'; injection e' with e'; subst e'
              rw [if_neg h19, if_pos h20] at e; cases e
            · rw [nxOf_self w.st h hi h20]; exact Int.le_refl _
          · rw [if_neg h19, if_neg h20] at e
            injection e with e; subst e
            exact go (i + 1) (by omega) h1 hs1 (by have := F.len h0 h17 h19 h20; omega)
end

end Go.Proofs.YtidhiaaicmfabaaGreat
