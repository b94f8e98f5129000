/- A scan's steps, all of them: toEnd. -/
import Derived.Test.YtidhiaaicmfabaaGreatMem
import Derived.Test.YtidhiaaicmfabaaGreatSpec
import Derived.Test.YtidhiaaicmfabaaGreatRefA
import Derived.Test.YtidhiaaicmfabaaGreatRefC
import Derived.Test.YtidhiaaicmfabaaGreatSpec2
import Derived.WalkKit
import Derived.WalkSpells
import Derived.WalkLawsBesides
import Derived.Deep.OwnRows
import Derived.BigQuiet
import Derived.Handy
import Derived.Deep.Light
import Derived.Deep.RegionHeld3
import Derived.Deep.RegionWith
import Derived.Test.YtidhiaaicmfabaaGreatSemI
import Derived.Deep.LoopGhost
namespace Go.Proofs.YtidhiaaicmfabaaGreat
open Go.RowKit Go.Proofs Go.Deep

theorem runK_done (K : Rc) (f : Nat) (q : Sc) (S : List Int) (dn : Int) (h : q.ov = true) : runK K f q S dn = (q, dn, 0) := by
  cases f with
  | zero => rfl
  | succ f => unfold runK; rw [if_pos h]
theorem runK_err (K : Rc) (f : Nat) (q : Sc) (S : List Int) (dn : Int) (h : q.ov = false) (he : (stepK K q S).2.2 ≠ 0) (hf : 0 < f) : runK K f q S dn = ((stepK K q S).1, dn + 1, (stepK K q S).2.2) := by
  obtain ⟨g, rfl⟩ : ∃ g, f = g + 1 := ⟨f - 1, by omega⟩
  simp only [runK]
  rw [if_neg (by rw [h]; simp), if_pos he]
theorem runK_on (K : Rc) (f : Nat) (q : Sc) (S : List Int) (dn : Int) (h : q.ov = false) (he : (stepK K q S).2.2 = 0) (hf : 0 < f) : runK K f q S dn = runK K (f - 1) (stepK K q S).1 (stepK K q S).2.1 (dn + 1) := by
  obtain ⟨g, rfl⟩ : ∃ g, f = g + 1 := ⟨f - 1, by omega⟩
  simp only [runK]
  rw [if_neg (by rw [h]; simp), if_neg (by rw [he]; simp)]
  rfl
set_option maxRecDepth 100000 in
set_option maxHeartbeats 1000000 in
theorem toEnd_any {K : Rc} (hK : RcOk K) (hF : FvOk K) {To : Nat → Nat} {bd : Int} {H L : Nat → Int} (k : KW K To bd H L) (hbd : bd ≤ 200000) {q : Sc} {w : World} (h : RS K 0 q [] w) (g : GI K bd H L q [] 0) (R : Ending → World → Prop)
    (fin : ∀ w' q' S' dn e, RS K dn q' S' w' → runK K 300000 q [] 0 = (q', dn, e) → 1 ≤ dn → dn ≤ bd → R (.returned (.int .i64 e)) w') :
    Calls Tryz.prog 53 #[.pointer (some ⟨K.br, 0, none⟩)] w R := by
  have hX : ∃ X, runK K 300000 q [] 0 = X := ⟨_, rfl⟩
  obtain ⟨X, hX⟩ := hX
  replace fin := hd fin
  replace hX := hd hX
  replace h := hd h
  replace g := hd g
  go_enter Tryz.func53, Tryz.ntmps53
  go_wp2
  go_loopg [3] 200001 (fun gk _ wr => ∃ (q1 : Sc) (S1 : List Int) (dn : Nat), gk + dn = 200001 ∧ RS K dn q1 S1 wr ∧ GI K bd H L q1 S1 dn ∧ X = runK K (300000 - dn) q1 S1 dn)
  case atStart => exact ⟨q, [], 0, rfl, h.out, g.out, hX.out.symm⟩
  case round =>
    obtain ⟨q1, S1, dn, hgk, hrs, hgi, hx⟩ := hrel
    obtain ⟨sv, rv, hm, _, _⟩ := hrs.ex
    have c7 := hm.c117
    have hlt := hm.run.lt
    replace hx := hd hx
    clear hm
    by_cases ho : q1.ov = true
    · have ob := hgi.over ho
      rw [ho] at c7
      rw [runK_done K _ q1 S1 dn ho] at hx
      replace hrs := hd hrs
      replace hgi := hd hgi
      go_wp2
      exact cl1 (fin.out _ q1 S1 dn 0 hrs.out (by rw [hX.out, hx.out]) ob.1 ob.2) rfl
    · have ho : q1.ov = false := by cases e : q1.ov; rfl; exact absurd e ho
      obtain ⟨i, e1, e2, e3, e4, e5, e6, e7, e8⟩ := hgi.side k ho
      have hst := hgi.step k ho
      have esK : stepK K q1 S1 = ((doesK K i (popA (popsOf (K.op i)) S1) (popB (popsOf (K.op i)) S1) { q1 with nx := (i : Int) + 1 }).1, pushS (K.op i) (doesK K i (popA (popsOf (K.op i)) S1) (popB (popsOf (K.op i)) S1) { q1 with nx := (i : Int) + 1 }).2.1 (S1.drop (popsOf (K.op i))), (doesK K i (popA (popsOf (K.op i)) S1) (popB (popsOf (K.op i)) S1) { q1 with nx := (i : Int) + 1 }).2.2) := by
        unfold stepK
        rw [e1]; rfl
      rw [ho] at c7
      replace hgi := hd hgi
      replace hst := hd hst
      replace hrs := hd hrs
      replace esK := hd esK
      go_wp2_with (fail)
      refine advance_any hK hF hrs.out i e2 e1 e3 e4 e5 ⟨e7, by omega⟩ e6 _ ?_
      intro w1 hw1
      have f1 : (doesK K i (popA (popsOf (K.op i)) S1) (popB (popsOf (K.op i)) S1) { q1 with nx := (i : Int) + 1 }).1 = (stepK K q1 S1).1 := by rw [esK.out]
      have f2 : pushS (K.op i) (doesK K i (popA (popsOf (K.op i)) S1) (popB (popsOf (K.op i)) S1) { q1 with nx := (i : Int) + 1 }).2.1 (S1.drop (popsOf (K.op i))) = (stepK K q1 S1).2.1 := by rw [esK.out]
      have f3 : (doesK K i (popA (popsOf (K.op i)) S1) (popB (popsOf (K.op i)) S1) { q1 with nx := (i : Int) + 1 }).2.2 = (stepK K q1 S1).2.2 := by rw [esK.out]
      rw [f1, f2] at hw1
      rw [f3]
      clear f1 f2 f3 esK
      have hx2 := hd (fun he : (stepK K q1 S1).2.2 ≠ 0 => hx.out.trans (runK_err K _ q1 S1 dn ho he (by omega)))
      have hx3 := hd (fun he : (stepK K q1 S1).2.2 = 0 => hx.out.trans (runK_on K _ q1 S1 dn ho he (by omega)))
      generalize stepK K q1 S1 = sk at *
      obtain ⟨q2, S2, e⟩ := sk
      replace hw1 := hd hw1
      clear hx hrs c7
      by_cases he : e = 0
      · subst he
        go_wp2
        go_roundg (gk - 1)
        case measure => omega
        case rel => exact ⟨q2, S2, dn + 1, by omega, by have := hw1.out; simpa using this, by have := hst.out; simpa using this, by have := hx3.out (by first | rfl | trivial); rw [this]; simp [Nat.sub_sub]⟩
      · have te : (e != 0) = true := by simpa using he
        go_wp2
        exact cl1 (fin.out _ q2 S2 (dn + 1) e hw1.out (by rw [hX.out, hx2.out he]) (by omega) (by omega)) rfl

end Go.Proofs.YtidhiaaicmfabaaGreat
