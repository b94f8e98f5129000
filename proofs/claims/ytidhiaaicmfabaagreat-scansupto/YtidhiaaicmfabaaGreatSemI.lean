/- A scan on its way keeps to the rules, and to the bound. -/
import Derived.Test.YtidhiaaicmfabaaGreatMem
import Derived.Test.YtidhiaaicmfabaaGreatSpec
import Derived.Test.YtidhiaaicmfabaaGreatRefA
import Derived.Test.YtidhiaaicmfabaaGreatRefC
import Derived.Test.YtidhiaaicmfabaaGreatSpec2
import Derived.WalkKit
import Derived.WalkSpells
import Derived.WalkLawsBesides
import Derived.Deep.OwnRows
import Derived.BigQuiet
import Derived.Handy
import Derived.Deep.Light
import Derived.Deep.RegionHeld3
import Derived.Deep.RegionWith
import Derived.Test.YtidhiaaicmfabaaGreatSemF
import Derived.Test.YtidhiaaicmfabaaGreatRunC
namespace Go.Proofs.YtidhiaaicmfabaaGreat
open Go.RowKit Go.Proofs Go.Deep

/-- One step: the state, the stack, the error. -/
def stepK (K : Rc) (q : Sc) (S : List Int) : Sc × List Int × Int :=
  ((doesK K q.nx.toNat (popA (popsOf (K.op q.nx.toNat)) S) (popB (popsOf (K.op q.nx.toNat)) S) { q with nx := q.nx + 1 }).1,
   pushS (K.op q.nx.toNat) (doesK K q.nx.toNat (popA (popsOf (K.op q.nx.toNat)) S) (popB (popsOf (K.op q.nx.toNat)) S) { q with nx := q.nx + 1 }).2.1 (S.drop (popsOf (K.op q.nx.toNat))),
   (doesK K q.nx.toNat (popA (popsOf (K.op q.nx.toNat)) S) (popB (popsOf (K.op q.nx.toNat)) S) { q with nx := q.nx + 1 }).2.2)
/-- All steps up to END or an error: the state, how many, the error. -/
def runK (K : Rc) : Nat → Sc → List Int → Int → Sc × Int × Int
  | 0, q, _, dn => (q, dn, 0)
  | f + 1, q, S, dn => if q.ov then (q, dn, 0) else if (stepK K q S).2.2 ≠ 0 then ((stepK K q S).1, dn + 1, (stepK K q S).2.2) else runK K f (stepK K q S).1 (stepK K q S).2.1 (dn + 1)
/-- What of a machine's steps does not hang on memory. -/
structure KW (K : Rc) (To : Nat → Nat) (bd : Int) (H L : Nat → Int) : Prop where
  w : Ways K.op K.arg To K.n bd H L
  n : K.n ≤ 8000
  op : ∀ i, i < K.n → K.op i < 22
  to_ : ∀ i, i < K.n → (K.op i = 17 ∨ K.op i = 18) → K.to_ i = (To i : Int)
  lp : ∀ i, i < K.n → K.op i = 20 → K.lp i = (To i : Int)
  cell : ∀ i, i < K.n → (K.op i = 2 ∨ K.op i = 3 ∨ K.op i = 21) → ∃ c : Nat, K.arg i = (c : Int) ∧ c < K.nC
  cells : ∀ i, i < K.n → (K.op i = 4 ∨ K.op i = 5) → ∃ c n : Nat, K.arg i = (c : Int) ∧ K.cnt i = (n : Int) ∧ c + n ≤ K.nC
  rep : ∀ i, i < K.n → K.op i = 19 → K.arg i ≤ 65535
/-- A scan on its way, as the rules have it. -/
structure GI (K : Rc) (bd : Int) (H L : Nat → Int) (q : Sc) (S : List Int) (dn : Int) : Prop where
  run : q.ov = false → ∃ (i : Nat) (l : List (Nat × Int)), q.nx = (i : Int) ∧ Dyn K.op K.arg K.n i l ∧ q.Lf = l.map (·.2) ∧ (S.length : Int) = H i ∧ dn ≤ posOf K.op K.arg L K.n i l
  over : q.ov = true → 1 ≤ dn ∧ dn ≤ bd
  dn0 : 0 ≤ dn
section
variable {K : Rc} {To : Nat → Nat} {bd : Int} {H L : Nat → Int}
theorem Dyn.len {op : Nat → Nat} {N : Nat → Int} {n i : Nat} {l : List (Nat × Int)} (h : Dyn op N n i l) : l.length ≤ 10 := by
  have := stk_len op i _ h.st
  simpa using this
theorem GI.side (k : KW K To bd H L) {q : Sc} {S : List Int} {dn : Int} (g : GI K bd H L q S dn) (ho : q.ov = false) : ∃ i : Nat, q.nx = (i : Int) ∧ i < K.n ∧ K.op i < 22 ∧ popsOf (K.op i) ≤ S.length ∧ S.length ≤ 40 ∧ Side K i q ∧ 0 ≤ dn ∧ dn + 1 ≤ bd := by
  obtain ⟨i, l, h1, h2, h3, h4, h5⟩ := g.run ho
  have F := k.w.k.f i h2.lt
  have hb := k.w.bound h2
  have hl := h2.len
  have hpo : popsOf (K.op i) ≤ 2 := by unfold popsOf; (repeat' split) <;> omega
  refine ⟨i, h1, h2.lt, k.op i h2.lt, by have := F.pop; omega, by have := F.pop; omega, ⟨k.cell i h2.lt, k.cells i h2.lt, fun _ => by rw [h3]; simpa using hl, fun h20 => ?_⟩, g.dn0, by omega⟩
  obtain ⟨c, r, e, a1, a2, a3, a4, _⟩ := k.w.nexts h2 h20
  have hlp := k.lp i h2.lt h20
  have hn := k.n
  have hlt := h2.lt
  have hr := k.rep (To i) (by omega) a2
  subst e
  refine ⟨c, r.map (·.2), by rw [h3]; rfl, a3, by omega, by simp at hl ⊢; omega, by omega, by omega⟩
theorem does_plain {i : Nat} {a b : Int} {q : Sc} (h0 : K.op i ≠ 0) (h17 : K.op i ≠ 17) (h18 : K.op i ≠ 18) (h19 : K.op i ≠ 19) (h20 : K.op i ≠ 20) :
    (doesK K i a b q).1.nx = q.nx ∧ (doesK K i a b q).1.Lf = q.Lf ∧ (doesK K i a b q).1.ov = q.ov := by
  have ite : ∀ {c : Prop} [Decidable c] {A B : Sc × Int × Int}, (A.1.nx = q.nx ∧ A.1.Lf = q.Lf ∧ A.1.ov = q.ov) → (B.1.nx = q.nx ∧ B.1.Lf = q.Lf ∧ B.1.ov = q.ov) → ((if c then A else B).1.nx = q.nx ∧ (if c then A else B).1.Lf = q.Lf ∧ (if c then A else B).1.ov = q.ov) := by
    intro c _ A B ha hb
    split
    · exact ha
    · exact hb
  unfold doesK doesV
  rw [if_neg h0, if_neg h17, if_neg h18, if_neg h19, if_neg h20]
  repeat' (refine ite ?_ ?_)
  all_goals exact ⟨rfl, rfl, rfl⟩
theorem pushS_len (o : Nat) (v : Int) (S : List Int) : (pushS o v S).length = S.length + pushesOf o := by
  have hpu : pushesOf o ≤ 1 := by unfold pushesOf; (repeat' split) <;> omega
  unfold pushS; split
  · simp; omega
  · omega
theorem GI.step (k : KW K To bd H L) {q : Sc} {S : List Int} {dn : Int} (g : GI K bd H L q S dn) (ho : q.ov = false) : GI K bd H L (stepK K q S).1 (stepK K q S).2.1 (dn + 1) := by
  obtain ⟨i, l, h1, h2, h3, h4, h5⟩ := g.run ho
  have F := k.w.k.f i h2.lt
  have hb := k.w.bound h2
  have hd0 := g.dn0
  have ei : q.nx.toNat = i := by omega
  have hlen : ((stepK K q S).2.1.length : Int) = H i - popsOf (K.op i) + pushesOf (K.op i) := by
    unfold stepK
    rw [ei]
    show ((pushS _ _ _).length : Int) = _
    rw [pushS_len, List.length_drop]
    have := F.pop
    omega
  have hst : (stepK K q S).1 = (doesK K i (popA (popsOf (K.op i)) S) (popB (popsOf (K.op i)) S) { q with nx := q.nx + 1 }).1 := by unfold stepK; rw [ei]
  by_cases h0 : K.op i = 0
  · have e : (stepK K q S).1.ov = true := by rw [hst]; unfold doesK doesV; rw [if_pos h0]
    exact ⟨fun h => by rw [e] at h; (cases h), fun _ => ⟨by omega, by omega⟩, by omega⟩
  · have hov : ∀ (i' : Nat) (l' : List (Nat × Int)), (stepK K q S).1.nx = (i' : Int) → (stepK K q S).1.ov = false → Dyn K.op K.arg K.n i' l' → (stepK K q S).1.Lf = l'.map (·.2) → H i - popsOf (K.op i) + pushesOf (K.op i) = H i' → posOf K.op K.arg L K.n i l + 1 ≤ posOf K.op K.arg L K.n i' l' → GI K bd H L (stepK K q S).1 (stepK K q S).2.1 (dn + 1) := by
      intro i' l' e1 e2 e3 e4 e5 e6
      exact ⟨fun _ => ⟨i', l', e1, e3, e4, by rw [hlen, e5], by omega⟩, fun h => by rw [e2] at h; (cases h), by omega⟩
    by_cases h17 : K.op i = 17
    · have e : (stepK K q S).1 = { q with nx := K.to_ i } := by rw [hst]; unfold doesK doesV; rw [h17]; rfl
      obtain ⟨d1, d2⟩ := k.w.jumps h2 (.inl h17)
      exact hov (To i) l (by rw [e]; exact k.to_ i h2.lt (.inl h17)) (by rw [e]; exact ho) d1 (by rw [e]; exact h3) (F.jump (.inl h17)).1.symm d2
    · by_cases h18 : K.op i = 18
      · by_cases ha : popA (popsOf (K.op i)) S = 0
        · have e : (stepK K q S).1 = { q with nx := K.to_ i } := by rw [hst]; unfold doesK doesV; rw [h18] at ha ⊢; simp [ha]
          obtain ⟨d1, d2⟩ := k.w.jumps h2 (.inr h18)
          exact hov (To i) l (by rw [e]; exact k.to_ i h2.lt (.inr h18)) (by rw [e]; exact ho) d1 (by rw [e]; exact h3) (F.jump (.inr h18)).1.symm d2
        · have e : (stepK K q S).1 = { q with nx := q.nx + 1 } := by rw [hst]; unfold doesK doesV; rw [h18] at ha ⊢; simp [ha]
          obtain ⟨d1, d2⟩ := k.w.next h2 h0 h17 (by omega) (by omega)
          exact hov (i + 1) l (by rw [e]; show q.nx + 1 = _; omega) (by rw [e]; exact ho) d1 (by rw [e]; exact h3) (F.next h0 h17).symm d2
      · by_cases h19 : K.op i = 19
        · have e : (stepK K q S).1 = { q with nx := q.nx + 1, Lf := K.arg i :: q.Lf } := by rw [hst]; unfold doesK doesV; rw [h19]; rfl
          obtain ⟨d1, d2⟩ := k.w.enter h2 h19
          exact hov (i + 1) _ (by rw [e]; show q.nx + 1 = _; omega) (by rw [e]; exact ho) d1 (by rw [e]; show K.arg i :: q.Lf = _; rw [h3]; rfl) (F.next h0 h17).symm d2
        · by_cases h20 : K.op i = 20
          · obtain ⟨c, r, el, a1, a2, a3, a4, a5, a6⟩ := k.w.nexts h2 h20
            subst el
            have hLf : q.Lf = c :: r.map (·.2) := by rw [h3]; rfl
            by_cases hc : 1 < c
            · have e : (stepK K q S).1 = { q with nx := K.lp i + 1, Lf := (c - 1) :: r.map (·.2) } := by rw [hst]; unfold doesK doesV; rw [h20]; simp [hLf, hc]
              obtain ⟨d1, d2⟩ := a5 hc
              have hlp := k.lp i h2.lt h20
              exact hov (To i + 1) _ (by rw [e]; show K.lp i + 1 = _; omega) (by rw [e]; exact ho) d1 (by rw [e]; rfl) (F.back h20).1 d2
            · have e : (stepK K q S).1 = { q with nx := q.nx + 1, Lf := r.map (·.2) } := by rw [hst]; unfold doesK doesV; rw [h20]; simp [hLf, hc]
              obtain ⟨d1, d2⟩ := a6 (by omega)
              exact hov (i + 1) _ (by rw [e]; show q.nx + 1 = _; omega) (by rw [e]; exact ho) d1 (by rw [e]) (F.next h0 h17).symm d2
          · obtain ⟨p1, p2, p3⟩ := does_plain (K := K) (i := i) (a := popA (popsOf (K.op i)) S) (b := popB (popsOf (K.op i)) S) (q := { q with nx := q.nx + 1 }) h0 h17 h18 h19 h20
            obtain ⟨d1, d2⟩ := k.w.next h2 h0 h17 h19 h20
            exact hov (i + 1) l (by rw [hst, p1]; show q.nx + 1 = _; omega) (by rw [hst, p3]; exact ho) d1 (by rw [hst, p2]; exact h3) (F.next h0 h17).symm d2
end

end Go.Proofs.YtidhiaaicmfabaaGreat
