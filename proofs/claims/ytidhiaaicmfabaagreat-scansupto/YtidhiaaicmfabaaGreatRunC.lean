/- A scan goes on: each step comes nearer to the bound. -/
import Derived.Test.YtidhiaaicmfabaaGreatMem
import Derived.Test.YtidhiaaicmfabaaGreatSpec
import Derived.Test.YtidhiaaicmfabaaGreatRefA
import Derived.Test.YtidhiaaicmfabaaGreatRefC
import Derived.Test.YtidhiaaicmfabaaGreatSpec2
import Derived.WalkKit
import Derived.WalkSpells
import Derived.WalkLawsBesides
import Derived.Deep.OwnRows
import Derived.BigQuiet
import Derived.Handy
import Derived.Deep.Light
import Derived.Deep.RegionHeld3
import Derived.Deep.RegionWith
import Derived.Test.YtidhiaaicmfabaaGreatRunB
namespace Go.Proofs.YtidhiaaicmfabaaGreat
open Go.RowKit Go.Proofs Go.Deep

/-- How many steps are behind at most, by the FORs that are open (which, how many rounds are left). -/
def baseOf (N L : Nat → Int) (M : Nat → Int) : List (Nat × Int) → Int
  | [] => 0
  | p :: r => L p.1 + 1 + (N p.1 - p.2) * M p.1 + baseOf N L M r
/-- Where a scan is: an instruction, and the FORs that are open there. -/
structure Dyn (op : Nat → Nat) (N : Nat → Int) (n : Nat) (i : Nat) (l : List (Nat × Int)) : Prop where
  lt : i < n
  st : stk op i = some (l.map (·.1))
  c : ∀ p ∈ l, 1 ≤ p.2 ∧ p.2 ≤ N p.1
def posOf (op : Nat → Nat) (N L : Nat → Int) (n i : Nat) (l : List (Nat × Int)) : Int := L i + baseOf N L (fun f => L (nxOf op n f) + 1) l
section
variable {op : Nat → Nat} {N : Nat → Int} {To : Nat → Nat} {n : Nat} {bd : Int} {H L : Nat → Int}
theorem Ways.top (w : Ways op N To n bd H L) : ∀ (l : List (Nat × Int)) (i : Nat), Dyn op N n i l → posOf op N L n i l ≤ L (n - 1)
  | [], i, h => by
    have := (w.ahead _ i rfl h.lt).1 h.st
    unfold posOf baseOf; omega
  | (f, c) :: r, i, h => by
    have hs : stk op i = some (f :: r.map (·.1)) := h.st
    obtain ⟨x1, x2, x3, x4, x5⟩ := nxOf_spec w.st hs (by have := h.lt; omega)
    have h1 := (w.ahead _ i rfl h.lt).2 f _ hs
    have h2 := w.lt1 x1 (by omega)
    have h3 := w.back' x1 x2 x3
    have hc := h.c (f, c) (by simp)
    have ih := Ways.top w r (nxOf op n f + 1) ⟨h2, x5, fun p hp => h.c p (List.mem_cons_of_mem _ hp)⟩
    have hp := w.k.lp (nxOf op n f)
    have hm : (N f - c) * (L (nxOf op n f) + 1) ≤ (N f - 1) * (L (nxOf op n f) + 1) := Int.mul_le_mul_of_nonneg_right (by have := hc.1; simp at this; omega) (by omega)
    have e : (N f - 1) * (L (nxOf op n f) + 1) = N f * (L (nxOf op n f) + 1) - (L (nxOf op n f) + 1) := by rw [Int.sub_mul]; omega
    unfold posOf at ih ⊢
    simp only [baseOf]
    omega
theorem Ways.start (w : Ways op N To n bd H L) : Dyn op N n 0 [] ∧ posOf op N L n 0 [] = 0 := by
  refine ⟨⟨w.k.n0, rfl, fun p hp => by cases hp⟩, ?_⟩
  unfold posOf baseOf; have := w.k.l0; omega
theorem Ways.next (w : Ways op N To n bd H L) {i : Nat} {l : List (Nat × Int)} (h : Dyn op N n i l) (h0 : op i ≠ 0) (h17 : op i ≠ 17) (h19 : op i ≠ 19) (h20 : op i ≠ 20) :
    Dyn op N n (i + 1) l ∧ posOf op N L n i l + 1 ≤ posOf op N L n (i + 1) l := by
  refine ⟨⟨w.lt1 h.lt h0, by rw [stk_at h.st, if_neg h19, if_neg h20], h.c⟩, ?_⟩
  have := (w.k.f i h.lt).len h0 h17 h19 h20
  unfold posOf; omega
theorem Ways.jumps (w : Ways op N To n bd H L) {i : Nat} {l : List (Nat × Int)} (h : Dyn op N n i l) (hj : op i = 17 ∨ op i = 18) :
    Dyn op N n (To i) l ∧ posOf op N L n i l + 1 ≤ posOf op N L n (To i) l := by
  have a := w.jump i h.lt hj
  obtain ⟨s, hs⟩ := w.stkS (i := To i) (by omega)
  have e := same_stk hs h.st a.2.2
  refine ⟨⟨a.2.1, by rw [hs, e], h.c⟩, ?_⟩
  have := ((w.k.f i h.lt).jump hj).2
  unfold posOf; omega
theorem Ways.enter (w : Ways op N To n bd H L) {i : Nat} {l : List (Nat × Int)} (h : Dyn op N n i l) (h19 : op i = 19) :
    Dyn op N n (i + 1) ((i, N i) :: l) ∧ posOf op N L n i l + 1 ≤ posOf op N L n (i + 1) ((i, N i) :: l) := by
  have h1 := w.lt1 h.lt (by omega)
  obtain ⟨s, hs⟩ := w.stkS (i := i + 1) (by omega)
  have e := stk_at h.st
  rw [hs, if_pos h19] at e
  split at e
  · cases e
  · injection e with e
    subst e
    refine ⟨⟨h1, hs, fun p hp => ?_⟩, ?_⟩
    · rcases List.mem_cons.1 hp with e | e
      · subst e; exact ⟨w.cnt i h.lt h19, Int.le_refl _⟩
      · exact h.c p e
    · have := w.k.lp (i + 1)
      unfold posOf
      simp only [baseOf]
      have e0 : (N i - N i) * (L (nxOf op n i) + 1) = 0 := by rw [Int.sub_self, Int.zero_mul]
      omega
theorem Ways.nexts (w : Ways op N To n bd H L) {i : Nat} {l : List (Nat × Int)} (h : Dyn op N n i l) (h20 : op i = 20) : ∃ c r, l = (To i, c) :: r ∧ To i < i ∧ op (To i) = 19 ∧ 1 ≤ c ∧ c ≤ N (To i) ∧
    (1 < c → Dyn op N n (To i + 1) ((To i, c - 1) :: r) ∧ posOf op N L n i l + 1 ≤ posOf op N L n (To i + 1) ((To i, c - 1) :: r)) ∧
    (c = 1 → Dyn op N n (i + 1) r ∧ posOf op N L n i l + 1 ≤ posOf op N L n (i + 1) r) := by
  obtain ⟨f, t, y1, y2, y3, y4, y5⟩ := w.nxt h.lt h20
  have hst := h.st
  rw [y1] at hst
  cases l with
  | nil => simp at hst
  | cons p r =>
    obtain ⟨f', c⟩ := p
    simp only [List.map_cons, Option.some.injEq, List.cons.injEq] at hst
    obtain ⟨e1, e2⟩ := hst
    subst e1
    subst y2
    have hc := h.c (To i, c) (by simp)
    have hx := nxOf_self w.st y1 h.lt h20
    have h1 := w.lt1 h.lt (by omega)
    have hb := w.back' h.lt h20 y1
    refine ⟨c, r, rfl, y3, y4, hc.1, hc.2, fun hlt => ⟨⟨by omega, ?_, fun p hp => ?_⟩, ?_⟩, fun he => ⟨⟨h1, by rw [y5, e2], fun p hp => h.c p (List.mem_cons_of_mem _ hp)⟩, ?_⟩⟩
    · have hf := stk_prev op i _ _ y1
      obtain ⟨s, hs⟩ := w.stkS (i := To i + 1) (by omega)
      have e := stk_at hf
      rw [hs, if_pos y4] at e
      split at e
      · cases e
      · rw [hs, e, e2]; rfl
    · rcases List.mem_cons.1 hp with e | e
      · subst e; have := hc.2; simp at *; omega
      · exact h.c p (List.mem_cons_of_mem _ e)
    · have := w.k.lp (To i + 1)
      unfold posOf
      simp only [baseOf, hx]
      have e0 : (N (To i) - (c - 1)) * (L i + 1) = (N (To i) - c) * (L i + 1) + (L i + 1) := by
        rw [show N (To i) - (c - 1) = (N (To i) - c) + 1 by omega, Int.add_mul, Int.one_mul]
      omega
    · subst he
      unfold posOf
      simp only [baseOf, hx]
      have e0 : (N (To i) - 1) * (L i + 1) = N (To i) * (L i + 1) - (L i + 1) := by rw [Int.sub_mul, Int.one_mul]
      omega
theorem Ways.endN (w : Ways op N To n bd H L) {i : Nat} {l : List (Nat × Int)} (h : Dyn op N n i l) (h0 : op i = 0) : l = [] ∧ bd = L i + 1 ∧ H i = 0 ∧ i + 1 = n := by
  have F := (w.k.f i h.lt).fin h0
  have hs := w.st
  rw [← F.2.1, stk_at h.st, if_neg (by omega), if_neg (by omega)] at hs
  refine ⟨?_, F.2.2, F.1, F.2.1⟩
  injection hs with hs
  simpa using hs
theorem Ways.bound (w : Ways op N To n bd H L) {i : Nat} {l : List (Nat × Int)} (h : Dyn op N n i l) : posOf op N L n i l + 1 ≤ bd := by
  have h1 := w.top l i h
  have F := (w.k.f (n - 1) (by have := w.k.n0; omega)).fin w.k.last
  omega
end

end Go.Proofs.YtidhiaaicmfabaaGreat
