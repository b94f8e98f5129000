/- What the harness's small functions do (pick, copies), straight code and its image, straight_any. -/
import Derived.Test.YtidhiaaicmfabaaMem
import Derived.Test.YtidhiaaicmfabaaSpec
import Derived.Test.YtidhiaaicmfabaaRefA
import Derived.Test.YtidhiaaicmfabaaRefC
import Derived.Test.YtidhiaaicmfabaaSpec2
import Derived.WalkKit
import Derived.WalkSpells
import Derived.WalkLawsBesides
import Derived.Deep.OwnRows
import Derived.BigQuiet
import Derived.Handy
import Derived.Deep.Light
import Derived.Deep.RegionHeld3
import Derived.Deep.RegionWith
import Derived.Test.YtidhiaaicmfabaaSemQ
import Derived.Test.YtidhiaaicmfabaaVmN
import Derived.Laws.IdiomStrings

/- Small functions of the statements without the document's answer; the example's machine. -/
namespace Go.Proofs.Ytidhiaaicmfabaa
open Go.RowKit Go.Proofs Go.Deep

def pickV (c n : Int) : Int := (if c < 0 then -(c + 1) else c) % n
theorem pick_any (w : World) (c n : Int) (hc : -9223372036854775808 ≤ c ∧ c ≤ 9223372036854775807) (hn : 0 < n ∧ n ≤ 9223372036854775807) (R : Ending → World → Prop) (fin : R (.returned (.int .i64 (pickV c n))) w) :
    Calls Try.prog 13 #[.int .i64 c, .int .i64 n] w R := by
  have n0 : ¬ n = 0 := by omega
  have nb : (n == 0) = false := by simpa using n0
  unfold pickV at fin
  by_cases h : c < 0
  · rw [if_pos h] at fin
    have d : decide (c < 0) = true := by simpa using h
    have e1 : 0 ≤ -(c + 1) := by omega
    replace fin := hd fin
    go_enter Try.func13, Try.ntmps13
    go_wp2
    exact cl1 fin.out (by show Value.int _ _ = Value.int _ _; rw [← Int.neg_tmod, Int.tmod_eq_emod_of_nonneg e1])
  · rw [if_neg h] at fin
    have d : decide (c < 0) = false := by simpa using h
    replace fin := hd fin
    go_enter Try.func13, Try.ntmps13
    go_wp2
    exact cl1 fin.out (by first | rfl | (show Value.int _ _ = Value.int _ _; rw [Int.tmod_eq_emod_of_nonneg (by omega)]))
theorem err_ite {c : Prop} [Decidable c] {A B : Sc × Int × Int} (ha : A.2.2 = 0 ∨ A.2.2 = 4 ∨ A.2.2 = 5) (hb : B.2.2 = 0 ∨ B.2.2 = 4 ∨ B.2.2 = 5) : (if c then A else B).2.2 = 0 ∨ (if c then A else B).2.2 = 4 ∨ (if c then A else B).2.2 = 5 := by
  split
  · exact ha
  · exact hb
theorem doesK_err (K : Rc) (i : Nat) (a b : Int) (q : Sc) : (doesK K i a b q).2.2 = 0 ∨ (doesK K i a b q).2.2 = 4 ∨ (doesK K i a b q).2.2 = 5 := by
  unfold doesK doesV
  repeat' (refine err_ite ?_ ?_)
  all_goals first | exact .inl rfl | exact .inr (.inl rfl) | exact .inr (.inr rfl) | skip
  cases q.Lf with
  | nil => exact .inl rfl
  | cons c r => exact err_ite (.inl rfl) (.inl rfl)
theorem runK_e (K : Rc) : ∀ (f : Nat) (q : Sc) (S : List Int) (dn : Int), (runK K f q S dn).2.2 = 0 ∨ (runK K f q S dn).2.2 = 4 ∨ (runK K f q S dn).2.2 = 5
  | 0, _, _, _ => .inl rfl
  | f + 1, q, S, dn => by
    simp only [runK]
    split
    · exact .inl rfl
    · split
      · exact doesK_err K _ _ _ _
      · exact runK_e K f _ _ _
theorem runM_e {M : Md} {w : World} {d : Int} {C : Nat → Int} {q : Sc} {dn e : Int} (h : runM M w d C = (q, dn, e)) : e = 0 ∨ e = 4 ∨ e = 5 := by
  have := runK_e (mkK M w 0 0 0 nmT (fun _ => undef) d) 300000 ⟨C, [], 0, false⟩ [] 0
  unfold runM at h
  rw [h] at this
  exact this

theorem simple_pos : posF (codeOf simpleB) ((codeOf simpleB).size + 1) 0 = some [0, 2, 4] := by kernel_rfl
def sMd (cap bs bx : Nat) (To' : Nat → Int) (bd : Int) : Md := mdFull (opL (codeOf simpleB) [0, 2, 4]) (atL [0, 2, 4]) (argL (codeOf simpleB) [0, 2, 4]) (cntL (codeOf simpleB) [0, 2, 4]) (fun i => bt simpleB (7 + i) / 3) (fun i => bt simpleB (7 + i) % 3) (bt simpleB 6) [0, 2, 4].length cap bs bx To' bd
theorem s_fits (cap bs bx : Nat) (To' : Nat → Int) (bd : Int) : fitsL (sMd cap bs bx To' bd).rl (sMd cap bs bx To' bd).kd (sMd cap bs bx To' bd).nC 0 [-5] = true := by kernel_rfl
theorem s_fits0 (cap bs bx : Nat) (To' : Nat → Int) (bd : Int) : fitsL (sMd cap bs bx To' bd).rl (sMd cap bs bx To' bd).kd (sMd cap bs bx To' bd).nC 0 [] = false := by kernel_rfl
theorem s_run (cap bs bx : Nat) (To' : Nat → Int) (bd : Int) (w : World) : (runM (sMd cap bs bx To' bd) w 3 (layL (sMd cap bs bx To' bd).rl (sMd cap bs bx To' bd).kd (sMd cap bs bx To' bd).nC 0 [-5] (fun _ => 0))).2 = (3, 0) := by kernel_rfl
theorem s_runC (cap bs bx : Nat) (To' : Nat → Int) (bd : Int) (w : World) : (runM (sMd cap bs bx To' bd) w 3 (layL (sMd cap bs bx To' bd).rl (sMd cap bs bx To' bd).kd (sMd cap bs bx To' bd).nC 0 [-5] (fun _ => 0))).1.C 1 = -5 := by kernel_rfl
theorem s_outs (cap bs bx : Nat) (To' : Nat → Int) (bd : Int) (C : Nat → Int) : outsL (sMd cap bs bx To' bd).rl C (sMd cap bs bx To' bd).nC = [C 1] := by kernel_rfl

end Go.Proofs.Ytidhiaaicmfabaa

/- The example of the statements without the document's answer: copies. -/
namespace Go.Proofs.Ytidhiaaicmfabaa
open Go.RowKit Go.Proofs Go.Deep

theorem Twain.below {b c base B : Nat} {w w' : World} (h : Twain b c base w w') (hb : B ≤ b) (hc : B ≤ c) (hB : B ≤ base) (hw : base = w.heap.size) : Below B w w' :=
  ⟨h.os, h.tape, h.output, by rw [← hw]; exact h.size, fun k hk => h.block k (by omega) (by omega) (by omega)⟩
set_option maxRecDepth 100000 in
set_option maxHeartbeats 1000000 in
theorem copies_any (w : World) (R : Ending → World → Prop) (fin : ∀ w', Below w.heap.size w w' → R (.returned (.bool true)) w') : Calls Try.prog 10 #[] w R := by
  replace fin := hd fin
  go_enter Try.func10, Try.ntmps10
  go_wp2_with (fail)
  refine load_full _ simpleB (by unfold maxLen; decide) _ ?_ ?_ ?_
  · intro h; exact absurd simple_ok (h 3)
  · intro bd h hl
    have := img_unique simple_ok h
    omega
  · intro bd l h hle hl cap bs bx bc To' H L w1 hb1 hbx hbs hbc hlive hkw
    have e := img_unique simple_ok h
    subst e
    rw [simple_pos] at hl
    injection hl with hl
    subst hl
    replace hlive : Live (sMd cap bs bx To' 3) bc (fun _ => 0) 0 w1 := hlive
    replace hkw : ∀ w0 br bc base nm fv d, KW (mkK (sMd cap bs bx To' 3) w0 br bc base nm fv d) _ (sMd cap bs bx To' 3).bd H L := hkw
    have hbxl : bx < w1.heap.size := hlive.row.lt
    have hsz1 := hb1.size
    have hi1 : InpAt bc (w1.alloc (.cells #[.int .i64 (-5)] 3)) (.slice (some ⟨w1.heap.size, 0, none⟩) 1 1) [-5] := by
      refine ⟨_, 1, rfl, by simp, .inl ⟨w1.heap.size, 0, rfl, by have := hlive.cel.lt; omega, fun j x hx => ?_⟩⟩
      have : j = 0 := by cases j with
        | zero => rfl
        | succ j => simp at hx
      subst this
      simp at hx
      subst hx
      exact (cell_of_row _ _ 0 _ _ (0, 0) (heap_alloc_new w1 _)).trans rfl
    have hlive2 := hlive.below ((Below.refl _ _).alloc (Nat.le_refl _) (.cells #[.int .i64 (-5)] 3))
    replace hb1 := hd hb1
    replace hkw := hd hkw
    replace hi1 := hd hi1
    replace hlive2 := hd hlive2
    clear hlive h
    go_wp2_with (fail)
    refine scan_any _ (sMd cap bs bx To' 3) bc (fun _ => 0) 0 hlive2.out _ [-5] 3 hi1.out hkw.out (by show (3 : Int) ≤ 200000; omega) _ ?_ ?_ ?_
    · intro hbad
      rcases hbad with hbad | hbad | hbad
      · rw [s_fits] at hbad; cases hbad
      · omega
      · omega
    · intro _ _ w2 q' dn hr hl2 ht _ _
      have hr2 := s_run cap bs bx To' 3 (w1.alloc (.cells #[.int .i64 (-5)] 3))
      rw [hr] at hr2
      have hrc := s_runC cap bs bx To' 3 (w1.alloc (.cells #[.int .i64 (-5)] 3))
      rw [hr] at hrc
      simp only [Prod.mk.injEq] at hr2
      obtain ⟨rfl, _⟩ := hr2
      have hbw2 : Below w.heap.size w w2 := (hb1.out.alloc hsz1 _).trans (ht.below hbx hbc (by simp; omega) rfl)
      have c0 := hl2.row.cell (i := 0) (by omega)
      have c2 := hl2.row.cell (i := 2) (by omega)
      have c3 := hl2.row.cell (i := 3) (by omega)
      replace hbw2 := hd hbw2
      have hlen := hl2.cel
      have hC2 := hl2.hC
      replace hl2 := hd hl2
      clear ht hr
      go_wp2_with (fail)
      refine outputs_any _ bx bc _ _ (sMd cap bs bx To' 3).rl (sMd cap bs bx To' 3).kd q'.C hl2.out.nC hC2 c0 hlen _ ?_
      intro v w3 hb3 hown
      rw [s_outs] at hown
      obtain ⟨g, cp, rfl, _, _, _, _, hg⟩ := own_one hown (by simp)
      have hg0 := hg 0 (by simp)
      rw [show (i64L [q'.C 1])[0]? = some (.int .i64 (q'.C 1)) from rfl, hrc] at hg0
      have hbw3 := hd (bel_step hbw2.out (Nat.le_refl _) hb3)
      have hl3 := hd (hl2.out.below hb3)
      replace c2 := (hb3.cell (p := ⟨bx, 2, none⟩) hl2.out.row.lt).trans c2
      replace c3 := (hb3.cell (p := ⟨bx, 3, none⟩) hl2.out.row.lt).trans c3
      have hi3 : InpAt bc w3 (.slice none 0 0) [] := ⟨none, 0, rfl, by simp, .inr rfl⟩
      clear hown hg hb3 hlen
      replace hi3 := hd hi3
      replace c2 : w3.cell? ⟨bx, 2, none⟩ = some (.int .i64 3) := c2
      replace c3 : w3.cell? ⟨bx, 3, none⟩ = some (.int .i64 3) := c3
      clear c0
      go_wp2_with (first | (go_at_call 11; refine steps_any _ _ 3 c3 _ ?_) | (go_at_call 9; refine bound_any _ _ 3 c2 _ ?_))
      refine scan_any _ (sMd cap bs bx To' 3) bc q'.C 3 hl3.out _ [] 0 hi3.out hkw.out (by show (3 : Int) ≤ 200000; omega) _ ?_ ?_ ?_
      · intro _ w4 hb4
        have hbw4 := hd (bel_step hbw3.out (Nat.le_refl _) hb4)
        replace hg0 := (hb4.cell (p := ⟨g, 0, none⟩) (World.block_lt_of_cell? w3 _ hg0)).trans hg0
        clear hb4
        go_wp2
        exact cl1 (fin.out _ hbw4.out) rfl
      · intro hf; rw [s_fits0] at hf; cases hf
      · intro hf; rw [s_fits0] at hf; cases hf
    · intro _ _ w2 q' dn e cv hr he
      have hr2 := s_run cap bs bx To' 3 (w1.alloc (.cells #[.int .i64 (-5)] 3))
      rw [hr] at hr2
      simp only [Prod.mk.injEq] at hr2
      exact absurd hr2.2 he

end Go.Proofs.Ytidhiaaicmfabaa

/- Code that goes one way alone, run. -/
namespace Go.Proofs.Ytidhiaaicmfabaa
open Go.RowKit Go.Proofs Go.Deep

/-- Instructions that stand from i on: which, and what belongs to them. -/
def At (op : Nat → Nat) (arg : Nat → Int) : Nat → List (Nat × Nat) → Prop
  | _, [] => True
  | i, p :: r => op i = p.1 ∧ arg i = (p.2 : Int) ∧ At op arg (i + 1) r
theorem At.app {op : Nat → Nat} {arg : Nat → Int} : ∀ {P Q : List (Nat × Nat)} {i : Nat}, At op arg i (P ++ Q) → At op arg i P ∧ At op arg (i + P.length) Q
  | [], Q, i, h => ⟨trivial, by simpa using h⟩
  | p :: r, Q, i, h => by
    obtain ⟨a, b, c⟩ := h
    obtain ⟨d, e⟩ := At.app c
    exact ⟨⟨a, b, d⟩, by rw [List.length_cons, show i + (r.length + 1) = i + 1 + r.length by omega]; exact e⟩
/-- Numbers into cell 0. -/
def prs : Nat → Nat → List (Nat × Nat)
  | _, 0 => []
  | j, k + 1 => (1, j) :: (3, 0) :: prs (j + 1) k
theorem prs_len : ∀ (k j : Nat), (prs j k).length = 2 * k
  | 0, _ => rfl
  | k + 1, j => by simp only [prs, List.length_cons, prs_len k]; omega
def segL (k : Nat) (t : Option Nat) : List (Nat × Nat) := match t with
  | none => prs 0 k
  | some t => (19, t) :: prs 0 k ++ [(20, 0)]
def segN (k : Nat) (t : Option Nat) : Nat := match t with
  | none => 2 * k
  | some t => 1 + t * (2 * k + 1)
section
variable {K : Rc}
theorem st_num {i : Nat} {C : Nat → Int} {Lf : List Int} {S : List Int} (h : K.op i = 1) : stepK K ⟨C, Lf, (i : Int), false⟩ S = (⟨C, Lf, ((i + 1 : Nat) : Int), false⟩, wrap32 (K.arg i) :: S, 0) := by
  unfold stepK doesK doesV pushS
  simp [h, popsOf, pushesOf]
theorem st_set {i : Nat} {C : Nat → Int} {Lf : List Int} {x : Int} {S : List Int} (h : K.op i = 3) : ∃ C', stepK K ⟨C, Lf, (i : Int), false⟩ (x :: S) = (⟨C', Lf, ((i + 1 : Nat) : Int), false⟩, S, 0) := by
  refine ⟨upd C (K.arg i).toNat (layK (K.kd (K.arg i).toNat) x), ?_⟩
  unfold stepK doesK doesV pushS
  simp [h, popsOf, pushesOf, popA]
theorem st_for {i : Nat} {C : Nat → Int} {Lf : List Int} {S : List Int} (h : K.op i = 19) : stepK K ⟨C, Lf, (i : Int), false⟩ S = (⟨C, K.arg i :: Lf, ((i + 1 : Nat) : Int), false⟩, S, 0) := by
  unfold stepK doesK doesV pushS
  simp [h, popsOf, pushesOf]
theorem st_back {i f : Nat} {C : Nat → Int} {Lf : List Int} {S : List Int} {c : Int} (h : K.op i = 20) (hl : K.lp i = (f : Int)) (hc : 1 < c) : stepK K ⟨C, c :: Lf, (i : Int), false⟩ S = (⟨C, (c - 1) :: Lf, ((f + 1 : Nat) : Int), false⟩, S, 0) := by
  unfold stepK doesK doesV pushS
  simp [h, popsOf, pushesOf, hl, hc]
theorem st_out {i : Nat} {C : Nat → Int} {Lf : List Int} {S : List Int} (h : K.op i = 20) : stepK K ⟨C, 1 :: Lf, (i : Int), false⟩ S = (⟨C, Lf, ((i + 1 : Nat) : Int), false⟩, S, 0) := by
  unfold stepK doesK doesV pushS
  simp [h, popsOf, pushesOf]
theorem st_end {i : Nat} {C : Nat → Int} {Lf : List Int} {S : List Int} (h : K.op i = 0) : stepK K ⟨C, Lf, (i : Int), false⟩ S = (⟨C, Lf, ((i + 1 : Nat) : Int), true⟩, S, 0) := by
  unfold stepK doesK doesV pushS
  simp [h, popsOf, pushesOf]
theorem run_step {f : Nat} {q q' : Sc} {S S' : List Int} {dn : Int} (ho : q.ov = false) (h : stepK K q S = (q', S', 0)) (hf : 0 < f) : runK K f q S dn = runK K (f - 1) q' S' (dn + 1) := by
  rw [runK_on K f q S dn ho (by rw [h]) hf, h]
theorem run_prs : ∀ (k j i f : Nat) (C : Nat → Int) (Lf : List Int) (dn : Int), At K.op K.arg i (prs j k) → 2 * k ≤ f → ∃ C', runK K f ⟨C, Lf, (i : Int), false⟩ [] dn = runK K (f - 2 * k) ⟨C', Lf, ((i + 2 * k : Nat) : Int), false⟩ [] (dn + 2 * k)
  | 0, _, i, f, C, Lf, dn, _, _ => ⟨C, by simp⟩
  | k + 1, j, i, f, C, Lf, dn, h, hf => by
    obtain ⟨a, _, b, _, c⟩ := h
    obtain ⟨C1, e1⟩ := st_set (K := K) (C := C) (Lf := Lf) (x := wrap32 (K.arg i)) (S := []) b
    obtain ⟨C2, e2⟩ := run_prs k (j + 1) (i + 1 + 1) (f - 1 - 1) C1 Lf (dn + 1 + 1) c (by omega)
    refine ⟨C2, ?_⟩
    rw [run_step rfl (st_num a) (by omega), run_step rfl e1 (by omega), e2]
    rw [show f - 1 - 1 - 2 * k = f - 2 * (k + 1) by omega, show i + 1 + 1 + 2 * k = i + 2 * (k + 1) by omega, show dn + 1 + 1 + 2 * (k : Int) = dn + 2 * ((k + 1 : Nat) : Int) by omega]
theorem run_rounds (k i : Nat) (hp : At K.op K.arg (i + 1) (prs 0 k)) (h20 : K.op (i + 1 + 2 * k) = 20) (hl : K.lp (i + 1 + 2 * k) = (i : Int)) : ∀ (c f : Nat) (C : Nat → Int) (Lf : List Int) (dn : Int), (c + 1) * (2 * k + 1) ≤ f →
    ∃ C', runK K f ⟨C, ((c + 1 : Nat) : Int) :: Lf, ((i + 1 : Nat) : Int), false⟩ [] dn = runK K (f - (c + 1) * (2 * k + 1)) ⟨C', Lf, ((i + 1 + 2 * k + 1 : Nat) : Int), false⟩ [] (dn + ((c + 1) * (2 * k + 1) : Nat))
  | 0, f, C, Lf, dn, hf => by
    obtain ⟨C1, e1⟩ := run_prs k 0 (i + 1) f C (1 :: Lf) dn hp (by omega)
    refine ⟨C1, ?_⟩
    rw [show (((0 + 1 : Nat) : Int)) = 1 from rfl, e1, run_step rfl (st_out h20) (by omega)]
    rw [show f - 2 * k - 1 = f - (0 + 1) * (2 * k + 1) by omega, show dn + 2 * (k : Int) + 1 = dn + (((0 + 1) * (2 * k + 1) : Nat) : Int) by omega]
  | c + 1, f, C, Lf, dn, hf => by
    have hm : (c + 1 + 1) * (2 * k + 1) = (c + 1) * (2 * k + 1) + (2 * k + 1) := by rw [Nat.succ_mul]
    obtain ⟨C1, e1⟩ := run_prs k 0 (i + 1) f C (((c + 1 + 1 : Nat) : Int) :: Lf) dn hp (by omega)
    obtain ⟨C2, e2⟩ := run_rounds k i hp h20 hl c (f - 2 * k - 1) C1 Lf (dn + 2 * k + 1) (by omega)
    refine ⟨C2, ?_⟩
    rw [e1, run_step rfl (st_back h20 hl (by omega)) (by omega), show (((c + 1 + 1 : Nat) : Int) - 1) = ((c + 1 : Nat) : Int) by omega, e2]
    rw [show f - 2 * k - 1 - (c + 1) * (2 * k + 1) = f - (c + 1 + 1) * (2 * k + 1) by omega, show dn + 2 * (k : Int) + 1 + (((c + 1) * (2 * k + 1) : Nat) : Int) = dn + (((c + 1 + 1) * (2 * k + 1) : Nat) : Int) by rw [hm]; omega]
theorem run_seg (k : Nat) (t : Option Nat) (ht : ∀ x, t = some x → 1 ≤ x) (i f : Nat) (C : Nat → Int) (Lf : List Int) (dn : Int) (h : At K.op K.arg i (segL k t)) (hl : K.op (i + 1 + 2 * k) = 20 → t ≠ none → K.lp (i + 1 + 2 * k) = (i : Int)) (hf : segN k t ≤ f) :
    ∃ C', runK K f ⟨C, Lf, (i : Int), false⟩ [] dn = runK K (f - segN k t) ⟨C', Lf, ((i + (segL k t).length : Nat) : Int), false⟩ [] (dn + segN k t) := by
  cases t with
  | none =>
    obtain ⟨C1, e1⟩ := run_prs k 0 i f C Lf dn h hf
    refine ⟨C1, ?_⟩
    rw [e1]
    simp only [segL, segN, prs_len]
    rfl
  | some x =>
    have hx := ht x rfl
    obtain ⟨a, b, c⟩ := h
    obtain ⟨c1, c2⟩ := At.app c
    rw [prs_len] at c2
    obtain ⟨c3, _, _⟩ := c2
    obtain ⟨y, rfl⟩ : ∃ y, x = y + 1 := ⟨x - 1, by omega⟩
    have hf' : 1 + (y + 1) * (2 * k + 1) ≤ f := hf
    obtain ⟨C1, e1⟩ := run_rounds k i c1 c3 (hl c3 (by simp)) y (f - 1) C Lf (dn + 1) (by omega)
    refine ⟨C1, ?_⟩
    have e0 := st_for (K := K) (C := C) (Lf := Lf) (S := []) a
    rw [b] at e0
    rw [run_step rfl e0 (by omega), e1]
    simp only [segL, segN, List.length_cons, List.length_append, prs_len, List.length_nil]
    rw [show f - 1 - (y + 1) * (2 * k + 1) = f - (1 + (y + 1) * (2 * k + 1)) by omega, show i + 1 + 2 * k + 1 = i + (2 * k + (0 + 1) + 1) by omega, show dn + 1 + (((y + 1) * (2 * k + 1) : Nat) : Int) = dn + ((1 + (y + 1) * (2 * k + 1) : Nat) : Int) by omega]
end

end Go.Proofs.Ytidhiaaicmfabaa

/- Code that goes one way alone: how its instructions are known, and its bound. -/
namespace Go.Proofs.Ytidhiaaicmfabaa
open Go.RowKit Go.Proofs Go.Deep

section
variable {op : Nat → Nat} {arg : Nat → Int}
theorem stk_on {i : Nat} {st : List Nat} (h : stk op i = some st) (h19 : op i ≠ 19) (h20 : op i ≠ 20) : stk op (i + 1) = some st := by rw [stk_at h, if_neg h19, if_neg h20]
theorem stk_prs : ∀ (k j i : Nat) (st : List Nat), At op arg i (prs j k) → stk op i = some st → stk op (i + 2 * k) = some st
  | 0, _, _, _, _, hs => hs
  | k + 1, j, i, st, h, hs => by
    obtain ⟨a, _, b, _, c⟩ := h
    have := stk_prs k (j + 1) (i + 1 + 1) st c (stk_on (stk_on hs (by omega) (by omega)) (by omega) (by omega))
    rw [show i + 2 * (k + 1) = i + 1 + 1 + 2 * k by omega]; exact this
theorem stk_seg (k : Nat) (t : Option Nat) (i : Nat) (h : At op arg i (segL k t)) (hs : stk op i = some []) : stk op (i + (segL k t).length) = some [] ∧ (t ≠ none → op (i + 1 + 2 * k) = 20 ∧ inOf op (i + 1 + 2 * k) = (i : Int)) := by
  cases t with
  | none => exact ⟨by have := stk_prs k 0 i [] h hs; simpa [segL, prs_len] using this, fun h => absurd rfl h⟩
  | some x =>
    obtain ⟨a, b, c⟩ := h
    obtain ⟨c1, c2⟩ := At.app c
    rw [prs_len] at c2
    obtain ⟨c3, _, _⟩ := c2
    have h1 : stk op (i + 1) = some [i] := by rw [stk_at hs, if_pos a, if_neg (by simp)]
    have h2 := stk_prs k 0 (i + 1) [i] c1 h1
    have h3 : stk op (i + 1 + 2 * k + 1) = some [] := by rw [stk_at h2, if_neg (by omega), if_pos c3]; rfl
    refine ⟨?_, fun _ => ⟨c3, top_inOf h2⟩⟩
    simp only [segL, List.length_cons, List.length_append, prs_len, List.length_nil]
    rw [show i + (2 * k + (0 + 1) + 1) = i + 1 + 2 * k + 1 by omega]; exact h3
/-- Where a segment begins: nothing is known of what comes. -/
structure Edge (i : Nat) (y : Int) (H L : Nat → Int) : Prop where
  h : H i = 0
  l : L i = y
  fh : ∀ j, i < j → H j = -1
  fl : ∀ j, i < j → L j = 0
variable {N : Nat → Int} {To : Nat → Nat} {n : Nat}
theorem go_one {i : Nat} {H L : Nat → Int} {h' d : Int} (hi : i < n) (h0 : op i ≠ 0) (hs : refStep op N To i H L = jn H L (i + 1) h' d) (hf : H (i + 1) = -1) :
    refGo op N To n (n - i) i H L = refGo op N To n (n - (i + 1)) (i + 1) (upd H (i + 1) h') (upd L (i + 1) (max (L (i + 1)) d)) := by
  rw [refGo_step hi h0, hs, jn_some (by omega)]
theorem st_def {i : Nat} {H L : Nat → Int} {p q : Nat} (hp : popsOf (op i) = p) (hq : pushesOf (op i) = q) (h1 : (p : Int) ≤ H i) (h2 : H i - p + q ≤ 32) (h17 : op i ≠ 17) (h18 : op i ≠ 18) (h19 : op i ≠ 19) (h20 : op i ≠ 20) : refStep op N To i H L = jn H L (i + 1) (H i - p + q) (L i + 1) := by
  unfold refStep
  rw [hp, hq, if_neg (by omega), if_neg h17, if_neg h18, if_neg h19, if_neg h20]
theorem st_19 {i : Nat} {H L : Nat → Int} (h1 : 0 ≤ H i ∧ H i ≤ 32) (h19 : op i = 19) : refStep op N To i H L = jn H L (i + 1) (H i) 0 := by
  unfold refStep
  have hp : popsOf (op i) = 0 := by rw [h19]; rfl
  have hq : pushesOf (op i) = 0 := by rw [h19]; rfl
  rw [hp, hq, if_neg (by omega), if_neg (by omega), if_neg (by omega), if_pos h19]
  congr 1
  omega
theorem st_20 {i : Nat} {H L : Nat → Int} (h1 : 0 ≤ H i ∧ H i ≤ 32) (h20 : op i = 20) (he : H i = H (To i + 1)) : refStep op N To i H L = jn H L (i + 1) (H i) (min (L (To i) + 1 + N (To i) * (L i + 1)) 1099511627776) := by
  unfold refStep
  have hp : popsOf (op i) = 0 := by rw [h20]; rfl
  have hq : pushesOf (op i) = 0 := by rw [h20]; rfl
  have e : H i - ((0 : Nat) : Int) + ((0 : Nat) : Int) = H i := by omega
  rw [hp, hq, e, if_neg (by omega), if_neg (by omega), if_neg (by omega), if_neg (by omega), if_pos h20, if_pos he]
theorem go_prs : ∀ (k j i : Nat) (y : Int) (H L : Nat → Int), At op arg i (prs j k) → i + 2 * k < n → 0 ≤ y → Edge i y H L →
    ∃ H' L', refGo op N To n (n - i) i H L = refGo op N To n (n - (i + 2 * k)) (i + 2 * k) H' L' ∧ Edge (i + 2 * k) (y + 2 * k) H' L' ∧ (∀ j, j ≤ i → H' j = H j ∧ L' j = L j)
  | 0, _, i, y, H, L, _, _, _, e => ⟨H, L, rfl, by simpa using e, fun _ _ => ⟨rfl, rfl⟩⟩
  | k + 1, j, i, y, H, L, h, hn, hy, e => by
    obtain ⟨a, _, b, _, c⟩ := h
    have p1 : popsOf (op i) = 0 := by rw [a]; rfl
    have q1 : pushesOf (op i) = 1 := by rw [a]; rfl
    have p2 : popsOf (op (i + 1)) = 1 := by rw [b]; rfl
    have q2 : pushesOf (op (i + 1)) = 0 := by rw [b]; rfl
    have a' : op i = 1 := a
    have b' : op (i + 1) = 3 := b
    have s1 : refStep op N To i H L = jn H L (i + 1) 1 (L i + 1) := by
      have := st_def (N := N) (To := To) (H := H) (L := L) p1 q1 (by rw [e.h]; decide) (by rw [e.h]; decide) (by omega) (by omega) (by omega) (by omega)
      rw [this, e.h]; rfl
    have g1 := go_one (n := n) (by omega) (by omega) s1 (e.fh _ (by omega))
    have hu : upd H (i + 1) 1 (i + 1) = 1 := by simp [upd]
    have s2 : refStep op N To (i + 1) (upd H (i + 1) 1) (upd L (i + 1) (max (L (i + 1)) (L i + 1))) = jn (upd H (i + 1) 1) (upd L (i + 1) (max (L (i + 1)) (L i + 1))) (i + 1 + 1) 0 (upd L (i + 1) (max (L (i + 1)) (L i + 1)) (i + 1) + 1) := by
      have := st_def (N := N) (To := To) (H := upd H (i + 1) 1) (L := upd L (i + 1) (max (L (i + 1)) (L i + 1))) p2 q2 (by rw [hu]; decide) (by rw [hu]; decide) (by omega) (by omega) (by omega) (by omega)
      rw [this, hu]; rfl
    have g2 := go_one (n := n) (by omega) (by omega) s2 (by simp only [upd]; rw [if_neg (by omega)]; exact e.fh _ (by omega))
    have e2 : Edge (i + 1 + 1) (y + 2) (upd (upd H (i + 1) 1) (i + 1 + 1) 0) (upd (upd L (i + 1) (max (L (i + 1)) (L i + 1))) (i + 1 + 1) (max (upd L (i + 1) (max (L (i + 1)) (L i + 1)) (i + 1 + 1)) (upd L (i + 1) (max (L (i + 1)) (L i + 1)) (i + 1) + 1))) := by
      have l1 := e.fl (i + 1) (by omega)
      have l2 := e.fl (i + 1 + 1) (by omega)
      have l0 := e.l
      refine ⟨by simp [upd], ?_, fun j hj => ?_, fun j hj => ?_⟩
      · simp only [upd, if_true]
        rw [if_neg (by omega)]
        omega
      · simp only [upd]; rw [if_neg (by omega), if_neg (by omega)]; exact e.fh j (by omega)
      · simp only [upd]; rw [if_neg (by omega), if_neg (by omega)]; exact e.fl j (by omega)
    obtain ⟨H', L', g3, e3, k3⟩ := go_prs k (j + 1) (i + 1 + 1) (y + 2) _ _ c (by omega) (by omega) e2
    refine ⟨H', L', ?_, ?_, fun j hj => ?_⟩
    · rw [g1, g2, g3, show i + 1 + 1 + 2 * k = i + 2 * (k + 1) by omega]
    · rw [show i + 2 * (k + 1) = i + 1 + 1 + 2 * k by omega, show y + 2 * ((k + 1 : Nat) : Int) = y + 2 + 2 * (k : Int) by omega]; exact e3
    · have := k3 j (by omega)
      rw [this.1, this.2]
      simp only [upd]
      rw [if_neg (by omega), if_neg (by omega), if_neg (by omega), if_neg (by omega)]
      exact ⟨rfl, rfl⟩
theorem go_seg (k : Nat) (t : Option Nat) (i : Nat) (y : Int) (H L : Nat → Int) (h : At op arg i (segL k t)) (hN : ∀ x, t = some x → N i = (x : Int)) (hT : t ≠ none → To (i + 1 + 2 * k) = i) (hk : k ≤ 5) (ht : ∀ x, t = some x → 1 ≤ x ∧ x ≤ 40) (hn : i + (segL k t).length < n) (hy : 0 ≤ y ∧ y ≤ 100000) (e : Edge i y H L) :
    ∃ H' L', refGo op N To n (n - i) i H L = refGo op N To n (n - (i + (segL k t).length)) (i + (segL k t).length) H' L' ∧ Edge (i + (segL k t).length) (y + segN k t) H' L' := by
  cases t with
  | none =>
    simp only [segL, segN, prs_len] at *
    obtain ⟨H', L', g, e', _⟩ := go_prs (N := N) (To := To) (n := n) k 0 i y H L h hn hy.1 e
    exact ⟨H', L', g, by simpa using e'⟩
  | some x =>
    obtain ⟨hx1, hx2⟩ := ht x rfl
    obtain ⟨a, b, c⟩ := h
    obtain ⟨c1, c2⟩ := At.app c
    rw [prs_len] at c2
    obtain ⟨c3, _, _⟩ := c2
    have hlen : (segL k (some x)).length = 2 * k + 2 := by simp [segL, prs_len]
    rw [hlen] at hn ⊢
    have a' : op i = 19 := a
    have c3' : op (i + 1 + 2 * k) = 20 := c3
    have s1 : refStep op N To i H L = jn H L (i + 1) 0 0 := by
      have := st_19 (N := N) (To := To) (H := H) (L := L) (by rw [e.h]; decide) a
      rw [this, e.h]
    have g1 := go_one (n := n) (by omega) (by omega) s1 (e.fh _ (by omega))
    have e1 : Edge (i + 1) 0 (upd H (i + 1) 0) (upd L (i + 1) (max (L (i + 1)) 0)) := by
      have l1 := e.fl (i + 1) (by omega)
      refine ⟨by simp [upd], ?_, fun j hj => ?_, fun j hj => ?_⟩
      · simp only [upd, if_true]; omega
      · simp only [upd]; rw [if_neg (by omega)]; exact e.fh j (by omega)
      · simp only [upd]; rw [if_neg (by omega)]; exact e.fl j (by omega)
    obtain ⟨H2, L2, g2, e2, k2⟩ := go_prs (N := N) (To := To) (n := n) k 0 (i + 1) 0 _ _ c1 (by omega) (by omega) e1
    have hTi := hT (by simp)
    have hH1 : H2 (i + 1) = 0 := by rw [(k2 (i + 1) (by omega)).1]; simp [upd]
    have hLi : L2 i = y := by rw [(k2 i (by omega)).2]; simp only [upd]; rw [if_neg (by omega)]; exact e.l
    have hNi := hN x rfl
    have hLn : L2 (i + 1 + 2 * k) = 2 * (k : Int) := by have := e2.l; omega
    have hmul : (x : Int) * (2 * (k : Int) + 1) ≤ 40 * 11 := by
      have h1 : (x : Int) * (2 * (k : Int) + 1) ≤ 40 * (2 * (k : Int) + 1) := Int.mul_le_mul_of_nonneg_right (by omega) (by omega)
      omega
    have hmul0 : 0 ≤ (x : Int) * (2 * (k : Int) + 1) := Int.mul_nonneg (by omega) (by omega)
    have s3 : refStep op N To (i + 1 + 2 * k) H2 L2 = jn H2 L2 (i + 1 + 2 * k + 1) 0 (y + 1 + x * (2 * (k : Int) + 1)) := by
      have := st_20 (N := N) (To := To) (H := H2) (L := L2) (by rw [e2.h]; decide) c3 (by rw [hTi, hH1, e2.h])
      rw [this, e2.h, hTi, hLi, hNi, hLn]
      congr 1
      omega
    have g3 := go_one (n := n) (by omega) (by omega) s3 (e2.fh _ (by omega))
    refine ⟨upd H2 (i + 1 + 2 * k + 1) 0, upd L2 (i + 1 + 2 * k + 1) (max (L2 (i + 1 + 2 * k + 1)) (y + 1 + x * (2 * (k : Int) + 1))), ?_, ?_⟩
    · rw [g1, g2, g3, show i + 1 + 2 * k + 1 = i + (2 * k + 2) by omega]
    · have l1 := e2.fl (i + 1 + 2 * k + 1) (by omega)
      rw [show i + (2 * k + 2) = i + 1 + 2 * k + 1 by omega]
      refine ⟨by simp [upd], ?_, fun j hj => ?_, fun j hj => ?_⟩
      · simp only [upd, if_true, segN]
        have : ((1 + x * (2 * k + 1) : Nat) : Int) = 1 + (x : Int) * (2 * (k : Int) + 1) := by simp
        rw [this]
        omega
      · simp only [upd]; rw [if_neg (by omega)]; exact e2.fh j (by omega)
      · simp only [upd]; rw [if_neg (by omega)]; exact e2.fl j (by omega)
end

end Go.Proofs.Ytidhiaaicmfabaa

/- Programs of such code: their bound, and how many steps they do. -/
namespace Go.Proofs.Ytidhiaaicmfabaa
open Go.RowKit Go.Proofs Go.Deep

abbrev Seg := Nat × Option Nat
def Seg.ok (p : Seg) : Prop := p.1 ≤ 5 ∧ ∀ x, p.2 = some x → 1 ≤ x ∧ x ≤ 40
def progL : List Seg → List (Nat × Nat)
  | [] => [(0, 0)]
  | p :: r => segL p.1 p.2 ++ progL r
def progN : List Seg → Nat
  | [] => 1
  | p :: r => segN p.1 p.2 + progN r
theorem progL_pos : ∀ r : List Seg, 0 < (progL r).length
  | [] => by simp [progL]
  | p :: r => by have := progL_pos r; simp only [progL, List.length_append]; omega
theorem segN_le (p : Seg) (h : p.ok) : segN p.1 p.2 ≤ 441 := by
  obtain ⟨k, t⟩ := p
  obtain ⟨h1, h2⟩ := h
  cases t with
  | none => simp only [segN]; simp at h1; omega
  | some x =>
    have := h2 x rfl
    simp only [segN]
    have : x * (2 * k + 1) ≤ 40 * 11 := Nat.mul_le_mul (by omega) (by simp at h1; omega)
    omega
theorem progN_le : ∀ (l : List Seg), (∀ p ∈ l, p.ok) → progN l ≤ 441 * l.length + 1
  | [], _ => by simp [progN]
  | p :: r, h => by
    have h1 := segN_le p (h p (by simp))
    have h2 := progN_le r (fun q hq => h q (by simp [hq]))
    simp only [progN, List.length_cons]
    omega
section
variable {op : Nat → Nat} {arg : Nat → Int}
theorem stk_prog : ∀ (l : List Seg) (i : Nat), At op arg i (progL l) → stk op i = some [] → stk op (i + (progL l).length) = some []
  | [], i, h, hs => by
    obtain ⟨a, _⟩ := h
    have a' : op i = 0 := a
    exact stk_on hs (by omega) (by omega)
  | p :: r, i, h, hs => by
    obtain ⟨h1, h2⟩ := At.app h
    have := stk_prog r _ h2 (stk_seg p.1 p.2 i h1 hs).1
    simp only [progL, List.length_append]
    rw [← Nat.add_assoc]; exact this
variable {N : Nat → Int} {To : Nat → Nat} {n : Nat}
theorem go_prog (hN : ∀ j, op j = 19 → N j = arg j) (hT : ∀ j, j < n → op j = 20 → inOf op j = (To j : Int)) : ∀ (l : List Seg) (i : Nat) (y : Int) (H L : Nat → Int), (∀ p ∈ l, p.ok) → At op arg i (progL l) → stk op i = some [] → n = i + (progL l).length → 0 ≤ y → y + 441 * l.length ≤ 100000 → Edge i y H L →
    refGo op N To n (n - i) i H L = some (y + progN l)
  | [], i, y, H, L, _, h, _, hn, _, _, e => by
    obtain ⟨a, _⟩ := h
    have a' : op i = 0 := a
    have hn' : i + 1 = n := by rw [hn]; simp [progL]
    rw [refGo_last hn' a', if_pos e.h, e.l]
    rfl
  | p :: r, i, y, H, L, hok, h, hs, hn, hy, hy2, e => by
    obtain ⟨h1, h2⟩ := At.app h
    obtain ⟨s1, s2⟩ := stk_seg p.1 p.2 i h1 hs
    have hp := hok p (by simp)
    have hlen : (progL (p :: r)).length = (segL p.1 p.2).length + (progL r).length := by simp [progL]
    have hpos := progL_pos r
    have hsn := segN_le p hp
    simp only [List.length_cons] at hy2
    have hNi : ∀ x, p.2 = some x → N i = (x : Int) := fun x hx => by
      rw [hx] at h1
      obtain ⟨a, b, _⟩ := h1
      rw [hN i a, b]
    have hTi : p.2 ≠ none → To (i + 1 + 2 * p.1) = i := fun hx => by
      obtain ⟨t1, t2⟩ := s2 hx
      have hl2 : (segL p.1 p.2).length = 2 * p.1 + 2 := by
        cases hq : p.2 with
        | none => exact absurd hq hx
        | some x => simp [segL, prs_len]
      have := hT _ (by omega) t1
      omega
    obtain ⟨H', L', g, e'⟩ := go_seg (N := N) (To := To) (n := n) p.1 p.2 i y H L h1 hNi hTi hp.1 hp.2 (by omega) ⟨hy, by omega⟩ e
    have ih := go_prog hN hT r (i + (segL p.1 p.2).length) (y + segN p.1 p.2) H' L' (fun q hq => hok q (by simp [hq])) h2 s1 (by omega) (by omega) (by omega) e'
    rw [g, ih]
    simp only [progN]
    congr 1
    omega
end
theorem run_prog {K : Rc} (hl : ∀ j, K.op j = 20 → K.lp j = inOf K.op j) : ∀ (l : List Seg) (i f : Nat) (C : Nat → Int) (dn : Int), (∀ p ∈ l, p.ok) → At K.op K.arg i (progL l) → stk K.op i = some [] → progN l ≤ f →
    ∃ q, runK K f ⟨C, [], (i : Int), false⟩ [] dn = (q, dn + progN l, 0)
  | [], i, f, C, dn, _, h, _, hf => by
    obtain ⟨a, _⟩ := h
    have hf' : 1 ≤ f := hf
    refine ⟨⟨C, [], ((i + 1 : Nat) : Int), true⟩, ?_⟩
    rw [run_step rfl (st_end a) (by omega), runK_done _ _ _ _ _ rfl]
    rfl
  | p :: r, i, f, C, dn, hok, h, hs, hf => by
    obtain ⟨h1, h2⟩ := At.app h
    obtain ⟨s1, s2⟩ := stk_seg p.1 p.2 i h1 hs
    have hp := hok p (by simp)
    have hf' : segN p.1 p.2 + progN r ≤ f := hf
    obtain ⟨C1, e1⟩ := run_seg p.1 p.2 (fun x hx => (hp.2 x hx).1) i f C [] dn h1 (fun h20 hx => by rw [hl _ h20]; exact (s2 hx).2) (by omega)
    obtain ⟨q, e2⟩ := run_prog hl r (i + (segL p.1 p.2).length) (f - segN p.1 p.2) C1 (dn + segN p.1 p.2) (fun q hq => hok q (by simp [hq])) h2 s1 (by omega)
    refine ⟨q, ?_⟩
    rw [e1, e2]
    simp only [progN]
    congr 2
    omega

end Go.Proofs.Ytidhiaaicmfabaa

/- The bytes of such code, read again. -/
namespace Go.Proofs.Ytidhiaaicmfabaa
open Go.RowKit Go.Proofs Go.Deep

def enc (p : Nat × Nat) : List UInt8 := if p.1 = 1 then [1, 0, 0, 0, UInt8.ofNat p.2] else if p.1 = 3 then [3, 0] else if p.1 = 19 then [19, 0, UInt8.ofNat p.2] else [UInt8.ofNat p.1]
def okI (p : Nat × Nat) : Prop := (p.1 = 1 ∧ p.2 ≤ 40) ∨ (p.1 = 3 ∧ p.2 = 0) ∨ (p.1 = 19 ∧ p.2 ≤ 40 ∧ 1 ≤ p.2) ∨ (p.1 = 20 ∧ p.2 = 0) ∨ (p.1 = 0 ∧ p.2 = 0)
def bytesL (P : List (Nat × Nat)) : List UInt8 := P.flatMap enc
def ofL (l : List UInt8) : ByteArray := ⟨l.toArray⟩
theorem ofL_size (l : List UInt8) : (ofL l).size = l.length := by simp [ofL, ByteArray.size]
theorem bt_ofL (l : List UInt8) (i : Nat) : bt (ofL l) i = (l.getD i 0).toNat := by
  unfold bt
  by_cases h : i < (ofL l).size
  · rw [dif_pos h]
    have h' : i < l.length := by rw [ofL_size] at h; exact h
    have e : ((ofL l)[i]'h) = l[i]'h' := by simp [ofL, ByteArray.getElem_eq_getElem_data]
    show ((ofL l)[i]'h).toNat = _
    rw [e]
    simp [List.getD, h']
  · rw [dif_neg h]
    have h' : l.length ≤ i := by rw [ofL_size] at h; omega
    simp [List.getD, h']
theorem bt_mid (pre x post : List UInt8) (j : Nat) (hj : j < x.length) : bt (ofL (pre ++ (x ++ post))) (pre.length + j) = (x.getD j 0).toNat := by
  rw [bt_ofL]
  congr 1
  simp only [List.getD_eq_getElem?_getD]
  rw [List.getElem?_append_right (by omega), show pre.length + j - pre.length = j by omega, List.getElem?_append_left hj]
def posL : Nat → List (Nat × Nat) → List Nat
  | _, [] => []
  | a, p :: r => a :: posL (a + (enc p).length) r
theorem enc_facts {p : Nat × Nat} (h : okI p) (pre post : List UInt8) : bt (ofL (pre ++ (enc p ++ post))) pre.length = p.1 ∧ osz p.1 = (enc p).length ∧ 0 < (enc p).length ∧ vArg (ofL (pre ++ (enc p ++ post))) pre.length = (p.2 : Int) ∧ insC (ofL (pre ++ (enc p ++ post))) pre.length = 0 := by
  obtain ⟨o, x⟩ := p
  have b := fun j hj => bt_mid pre (enc (o, x)) post j hj
  rcases h with ⟨h1, h2⟩ | ⟨h1, h2⟩ | ⟨h1, h2, h3⟩ | ⟨h1, h2⟩ | ⟨h1, h2⟩ <;> simp only at h1 h2 <;> subst h1
  · have e : enc (1, x) = [1, 0, 0, 0, UInt8.ofNat x] := rfl
    rw [e] at b ⊢
    have b0 := b 0 (by simp)
    have b1 := b 1 (by simp)
    have b2 := b 2 (by simp)
    have b3 := b 3 (by simp)
    have b4 := b 4 (by simp)
    simp only [Nat.add_zero] at b0
    have ex : (UInt8.ofNat x).toNat = x := by simp; omega
    have c0 : bt (ofL (pre ++ ([1, 0, 0, 0, UInt8.ofNat x] ++ post))) pre.length = 1 := b0
    have c1 : bt (ofL (pre ++ ([1, 0, 0, 0, UInt8.ofNat x] ++ post))) (pre.length + 1) = 0 := b1
    have c2 : bt (ofL (pre ++ ([1, 0, 0, 0, UInt8.ofNat x] ++ post))) (pre.length + 1 + 1) = 0 := b2
    have c3 : bt (ofL (pre ++ ([1, 0, 0, 0, UInt8.ofNat x] ++ post))) (pre.length + 1 + 2) = 0 := b3
    have c4 : bt (ofL (pre ++ ([1, 0, 0, 0, UInt8.ofNat x] ++ post))) (pre.length + 1 + 3) = x := b4.trans ex
    refine ⟨c0, rfl, by simp, ?_, ?_⟩
    · unfold vArg
      rw [if_pos c0]
      unfold s32 b32
      rw [c1, c2, c3, c4, if_neg (by omega)]
      omega
    · unfold insC; rw [c0, if_neg (by omega)]
  · subst h2
    have e : enc (3, 0) = [3, 0] := rfl
    rw [e] at b ⊢
    have c0 : bt (ofL (pre ++ ([3, 0] ++ post))) pre.length = 3 := b 0 (by simp)
    have c1 : bt (ofL (pre ++ ([3, 0] ++ post))) (pre.length + 1) = 0 := b 1 (by simp)
    refine ⟨c0, rfl, by simp, ?_, ?_⟩
    · unfold vArg; rw [c0, if_neg (by omega), if_pos (by omega), c1]; try rfl
    · unfold insC; rw [c0, if_pos (by omega), c1]
  · have e : enc (19, x) = [19, 0, UInt8.ofNat x] := rfl
    rw [e] at b ⊢
    have ex : (UInt8.ofNat x).toNat = x := by simp; omega
    have c0 : bt (ofL (pre ++ ([19, 0, UInt8.ofNat x] ++ post))) pre.length = 19 := b 0 (by simp)
    have c1 : bt (ofL (pre ++ ([19, 0, UInt8.ofNat x] ++ post))) (pre.length + 1) = 0 := b 1 (by simp)
    have c2 : bt (ofL (pre ++ ([19, 0, UInt8.ofNat x] ++ post))) (pre.length + 1 + 1) = x := (b 2 (by simp)).trans ex
    refine ⟨c0, rfl, by simp, ?_, ?_⟩
    · unfold vArg; rw [c0, if_neg (by omega), if_neg (by omega), if_pos (by omega)]; unfold b16; rw [c1, c2]; omega
    · unfold insC; rw [c0, if_neg (by omega)]
  · subst h2
    have e : enc (20, 0) = [20] := rfl
    rw [e] at b ⊢
    have c0 : bt (ofL (pre ++ ([20] ++ post))) pre.length = 20 := b 0 (by simp)
    refine ⟨c0, rfl, by simp, ?_, ?_⟩
    · unfold vArg; rw [c0, if_neg (by omega), if_neg (by omega), if_neg (by omega)]; try rfl
    · unfold insC; rw [c0, if_neg (by omega)]
  · subst h2
    have e : enc (0, 0) = [0] := rfl
    rw [e] at b ⊢
    have c0 : bt (ofL (pre ++ ([0] ++ post))) pre.length = 0 := b 0 (by simp)
    refine ⟨c0, rfl, by simp, ?_, ?_⟩
    · unfold vArg; rw [c0, if_neg (by omega), if_neg (by omega), if_neg (by omega)]; try rfl
    · unfold insC; rw [c0, if_neg (by omega)]
theorem posF_enc : ∀ (P : List (Nat × Nat)) (pre : List UInt8) (F : Nat), (∀ p ∈ P, okI p) → P.length < F → posF (ofL (pre ++ bytesL P)) F pre.length = some (posL pre.length P)
  | [], pre, F, _, hF => by
    obtain ⟨f, rfl⟩ : ∃ f, F = f + 1 := ⟨F - 1, by simp at hF; omega⟩
    simp only [posF, posL, bytesL, List.flatMap_nil, List.append_nil, ofL_size]
    rw [if_neg (by omega)]
  | p :: r, pre, F, h, hF => by
    obtain ⟨f, rfl⟩ : ∃ f, F = f + 1 := ⟨F - 1, by simp at hF; omega⟩
    have hb : bytesL (p :: r) = enc p ++ bytesL r := by simp [bytesL]
    obtain ⟨e1, e2, e3, _, _⟩ := enc_facts (h p (by simp)) pre (bytesL r)
    have ih := posF_enc r (pre ++ enc p) f (fun q hq => h q (by simp [hq])) (by simp at hF; omega)
    rw [List.append_assoc, List.length_append] at ih
    rw [hb]
    simp only [posF, posL]
    rw [e1, e2, if_pos (by rw [ofL_size]; simp only [List.length_append]; omega), if_neg (by rw [ofL_size]; simp only [List.length_append]; omega), ih]
    rfl
theorem at_enc : ∀ (P : List (Nat × Nat)) (pre : List UInt8) (ps0 : List Nat), (∀ p ∈ P, okI p) →
    At (opL (ofL (pre ++ bytesL P)) (ps0 ++ posL pre.length P)) (argL (ofL (pre ++ bytesL P)) (ps0 ++ posL pre.length P)) ps0.length P
  | [], _, _, _ => trivial
  | p :: r, pre, ps0, h => by
    have hb : bytesL (p :: r) = enc p ++ bytesL r := by simp [bytesL]
    obtain ⟨e1, e2, e3, e4, _⟩ := enc_facts (h p (by simp)) pre (bytesL r)
    have ih := at_enc r (pre ++ enc p) (ps0 ++ [pre.length]) (fun q hq => h q (by simp [hq]))
    have ha : atL (ps0 ++ posL pre.length (p :: r)) ps0.length = pre.length := by simp [atL, posL]
    rw [List.append_assoc, List.length_append, List.append_assoc, List.length_append] at ih
    rw [hb]
    refine ⟨?_, ?_, ?_⟩
    · unfold opL; rw [ha]; exact e1
    · unfold argL; rw [ha]; exact e4
    · exact ih
theorem posL_len : ∀ (P : List (Nat × Nat)) (a : Nat), (posL a P).length = P.length
  | [], _ => rfl
  | p :: r, a => by simp [posL, posL_len r]

end Go.Proofs.Ytidhiaaicmfabaa

/- An image of such code is right, and its bound is told. -/
namespace Go.Proofs.Ytidhiaaicmfabaa
open Go.RowKit Go.Proofs Go.Deep

theorem At.get {op : Nat → Nat} {arg : Nat → Int} : ∀ {P : List (Nat × Nat)} {i : Nat}, At op arg i P → ∀ j (hj : j < P.length), op (i + j) = (P[j]).1 ∧ arg (i + j) = ((P[j]).2 : Int)
  | [], _, _, j, hj => by simp at hj
  | p :: r, i, h, 0, _ => ⟨h.1, h.2.1⟩
  | p :: r, i, h, j + 1, hj => by
    have := At.get h.2.2 j (by simpa using hj)
    rw [show i + (j + 1) = i + 1 + j by omega]
    simpa using this
theorem prs_ok : ∀ (k j : Nat), j + k ≤ 40 → ∀ p ∈ prs j k, okI p
  | 0, _, _, p, hp => by cases hp
  | k + 1, j, h, p, hp => by
    rcases List.mem_cons.1 hp with e | hp
    · subst e; exact .inl ⟨rfl, by show j ≤ 40; omega⟩
    · rcases List.mem_cons.1 hp with e | hp
      · subst e; exact .inr (.inl ⟨rfl, rfl⟩)
      · exact prs_ok k (j + 1) (by omega) p hp
theorem seg_ok (q : Seg) (h : q.ok) : ∀ p ∈ segL q.1 q.2, okI p := by
  obtain ⟨k, t⟩ := q
  obtain ⟨h1, h2⟩ := h
  have h1' : k ≤ 5 := h1
  intro p hp
  cases t with
  | none => exact prs_ok k 0 (by omega) p hp
  | some x =>
    have hx := h2 x rfl
    simp only [segL, List.mem_cons, List.mem_append, List.cons_append, List.not_mem_nil, or_false] at hp
    rcases hp with e | e | e
    · subst e; exact .inr (.inr (.inl ⟨rfl, hx.2, hx.1⟩))
    · exact prs_ok k 0 (by omega) p e
    · subst e; exact .inr (.inr (.inr (.inl ⟨rfl, rfl⟩)))
theorem prog_ok : ∀ (l : List Seg), (∀ p ∈ l, p.ok) → ∀ p ∈ progL l, okI p
  | [], _, p, hp => by
    simp only [progL, List.mem_cons, List.not_mem_nil, or_false] at hp
    subst hp; exact .inr (.inr (.inr (.inr ⟨rfl, rfl⟩)))
  | q :: r, h, p, hp => by
    rcases List.mem_append.1 hp with e | e
    · exact seg_ok q (h q (by simp)) p e
    · exact prog_ok r (fun q hq => h q (by simp [hq])) p e
theorem enc_le (p : Nat × Nat) : (enc p).length ≤ 5 := by
  unfold enc
  (repeat' split) <;> simp
theorem seg_len (q : Seg) (h : q.ok) : (segL q.1 q.2).length ≤ 12 := by
  obtain ⟨k, t⟩ := q
  have h1 : k ≤ 5 := h.1
  cases t <;> simp [segL, prs_len] <;> omega
theorem prog_len : ∀ (l : List Seg), (∀ p ∈ l, p.ok) → (progL l).length ≤ 12 * l.length + 1
  | [], _ => by simp [progL]
  | q :: r, h => by
    have h1 := seg_len q (h q (by simp))
    have h2 := prog_len r (fun p hp => h p (by simp [hp]))
    simp only [progL, List.length_append, List.length_cons]
    omega
theorem bytes_len : ∀ (P : List (Nat × Nat)), (bytesL P).length ≤ 5 * P.length
  | [] => by simp [bytesL]
  | p :: r => by
    have h1 := enc_le p
    have h2 := bytes_len r
    have hb : bytesL (p :: r) = enc p ++ bytesL r := by simp [bytesL]
    rw [hb]
    simp only [List.length_append, List.length_cons]
    omega
def hdB (n : Nat) : List UInt8 := [83, 76, 85, 73, 67, 69, 1, 8, UInt8.ofNat (n / 256), UInt8.ofNat n]
def imgB (l : List Seg) : ByteArray := ofL (hdB (bytesL (progL l)).length ++ bytesL (progL l))
theorem codeOf_img (l : List Seg) : codeOf (imgB l) = ofL (bytesL (progL l)) := by
  have h6 : bt (imgB l) 6 = 1 := by unfold imgB; rw [bt_ofL]; rfl
  unfold codeOf
  rw [h6]
  unfold imgB
  rw [ofL_size]
  apply ByteArray.ext
  rw [ByteArray.data_extract]
  simp only [ofL, hdB]
  simp
theorem img_straight (l : List Seg) (hok : ∀ p ∈ l, p.ok) (hl : l.length ≤ 20) : imgOk (imgB l) (progN l) := by
  have hP := prog_ok l hok
  have hlen := prog_len l hok
  have hbl := bytes_len (progL l)
  have hn : (bytesL (progL l)).length ≤ 1205 := by omega
  have hb : ∀ j, j < 10 → bt (imgB l) j = ((hdB (bytesL (progL l)).length).getD j 0).toNat := fun j hj => by
    unfold imgB
    have := bt_mid [] (hdB (bytesL (progL l)).length) (bytesL (progL l)) j (by simpa [hdB] using hj)
    simpa using this
  have h6 : bt (imgB l) 6 = 1 := hb 6 (by omega)
  have h7 : bt (imgB l) 7 = 8 := hb 7 (by omega)
  have h8 : bt (imgB l) 8 = (bytesL (progL l)).length / 256 := (hb 8 (by omega)).trans (by show (UInt8.ofNat _).toNat = _; simp; omega)
  have h9 : bt (imgB l) 9 = (bytesL (progL l)).length % 256 := (hb 9 (by omega)).trans (by show (UInt8.ofNat _).toNat = _; simp)
  have hsz : (imgB l).size = 10 + (bytesL (progL l)).length := by unfold imgB; rw [ofL_size]; simp [hdB]; omega
  have hps : posF (codeOf (imgB l)) ((codeOf (imgB l)).size + 1) 0 = some (posL 0 (progL l)) := by
    rw [codeOf_img, ofL_size]
    have := posF_enc (progL l) [] ((bytesL (progL l)).length + 1) hP (by
      have : ∀ (P : List (Nat × Nat)), (∀ p ∈ P, okI p) → P.length ≤ (bytesL P).length := by
        intro P
        induction P with
        | nil => intro _; simp [bytesL]
        | cons p r ih =>
          intro h
          have h1 := (enc_facts (h p (by simp)) [] []).2.2.1
          have h2 := ih (fun q hq => h q (by simp [hq]))
          have hb : bytesL (p :: r) = enc p ++ bytesL r := by simp [bytesL]
          rw [hb]
          simp only [List.length_append, List.length_cons]
          omega
      have := this _ hP
      omega)
    simpa using this
  have hat : At (opL (ofL (bytesL (progL l))) (posL 0 (progL l))) (argL (ofL (bytesL (progL l))) (posL 0 (progL l))) 0 (progL l) := by
    have := at_enc (progL l) [] [] hP
    simpa using this
  have hpl := posL_len (progL l) 0
  refine ⟨⟨by omega, ?_, by omega, by omega⟩, fun i hi => ?_, ⟨?_, ?_⟩, posL 0 (progL l), hps, ?_⟩
  · have e : (imgB l).extract 0 6 = ofL [83, 76, 85, 73, 67, 69] := by
      apply ByteArray.ext
      rw [ByteArray.data_extract]
      simp [imgB, ofL, hdB]
    have e2 : (ofL [83, 76, 85, 73, 67, 69]).toList = [83, 76, 85, 73, 67, 69] := by kernel_rfl
    rw [e]
    exact e2
  · have : i = 0 := by omega
    subst this
    show bt (imgB l) 7 ≤ 8
    omega
  · rw [h6]; unfold b16; rw [show 7 + 1 = 8 by rfl, show 8 + 1 = 9 by rfl, h8, h9]; omega
  · rw [h6]; unfold b16; rw [show 7 + 1 = 8 by rfl, show 8 + 1 = 9 by rfl, h8, h9]; omega
  · rw [codeOf_img, h6]
    have hstk : stk (opL (ofL (bytesL (progL l))) (posL 0 (progL l))) (posL 0 (progL l)).length = some [] := by
      have := stk_prog l 0 hat rfl
      rw [hpl]; simpa using this
    have hget : ∀ i, i < (posL 0 (progL l)).length → ∃ p, okI p ∧ opL (ofL (bytesL (progL l))) (posL 0 (progL l)) i = p.1 ∧ argL (ofL (bytesL (progL l))) (posL 0 (progL l)) i = (p.2 : Int) := fun i hi => by
      have hi' : i < (progL l).length := by rw [hpl] at hi; exact hi
      obtain ⟨g1, g2⟩ := hat.get i hi'
      rw [Nat.zero_add] at g1 g2
      exact ⟨_, hP _ (List.getElem_mem hi'), g1, g2⟩
    refine ⟨fun e => ?_, fun i hi => ?_, hstk, fun i hi hj => ?_, ?_⟩
    · have := progL_pos l
      rw [e] at hpl
      simp at hpl; omega
    · obtain ⟨p, hp, g1, g2⟩ := hget i hi
      refine ⟨fun h => ?_, fun h => ?_⟩
      · have h3 : p.1 = 3 ∧ p.2 = 0 := by
          unfold okI at hp
          rcases hp with hp | hp | hp | hp | hp <;> omega
        have h3' : bt (ofL (bytesL (progL l))) (atL (posL 0 (progL l)) i) = 3 := g1.trans h3.1
        have ha := (vArg_bd (ofL (bytesL (progL l))) (atL (posL 0 (progL l)) i) (by omega)).1
        have g2' : vArg (ofL (bytesL (progL l))) (atL (posL 0 (progL l)) i) = (p.2 : Int) := g2
        have hc : cL (ofL (bytesL (progL l))) (posL 0 (progL l)) i = 0 := by unfold cL; omega
        have hN : nL (ofL (bytesL (progL l))) (posL 0 (progL l)) i = 1 := by unfold nL insN; simp [h3']
        rw [hc, hN]
        have hr0 : rlOf (imgB l) 0 = 2 := by unfold rlOf; rw [show 7 + 0 = 7 by rfl, h7]; rfl
        refine ⟨by decide, by decide, fun j hj => ?_, fun _ => by rw [hr0]; decide, fun h21 => by rw [g1, h3.1] at h21; omega⟩
        have : j = 0 := by simp at hj; omega
        subst this; exact ⟨rfl, rfl⟩
      · have h19 : p.1 = 19 := by rw [← g1]; exact h
        have hx : 1 ≤ p.2 := by unfold okI at hp; rcases hp with hp | hp | hp | hp | hp <;> omega
        have h19' : bt (ofL (bytesL (progL l))) (atL (posL 0 (progL l)) i) = 19 := h
        have ha := (vArg_jmp (ofL (bytesL (progL l))) (atL (posL 0 (progL l)) i) (by omega)).1
        have g2' : vArg (ofL (bytesL (progL l))) (atL (posL 0 (progL l)) i) = (p.2 : Int) := g2
        unfold nL
        omega
    · obtain ⟨p, hp, g1, _⟩ := hget i hi
      unfold isJump at hj
      unfold okI at hp
      exfalso
      rcases hp with hp | hp | hp | hp | hp <;> omega
    · have := go_prog (op := opL (ofL (bytesL (progL l))) (posL 0 (progL l))) (arg := argL (ofL (bytesL (progL l))) (posL 0 (progL l))) (N := nL (ofL (bytesL (progL l))) (posL 0 (progL l)))
        (To := toL (atL (posL 0 (progL l))) (opL (ofL (bytesL (progL l))) (posL 0 (progL l))) (nL (ofL (bytesL (progL l))) (posL 0 (progL l))) (posL 0 (progL l)).length) (n := (posL 0 (progL l)).length)
        (fun j hj => ((vArg_jmp (ofL (bytesL (progL l))) (atL (posL 0 (progL l)) j) (.inr (.inr hj))).1).symm)
        (fun j hj h20 => by
          obtain ⟨f, e1, _⟩ := for_of hstk hj h20
          unfold toL
          rw [if_pos h20, e1]; rfl)
        l 0 0 H0 L0 hok hat rfl (by rw [hpl]; omega) (by omega) (by omega) ⟨rfl, rfl, fun j hj => by unfold H0; rw [if_neg (by omega)], fun j _ => rfl⟩
      simpa using this

end Go.Proofs.Ytidhiaaicmfabaa

/- Code that goes one way alone, made of raw numbers: straight. -/
namespace Go.Proofs.Ytidhiaaicmfabaa
open Go.RowKit Go.Proofs Go.Deep

def segOf (x : Int) : Seg := ((1 + pickV x 5).toNat, if x % 2 = 0 then some (1 + pickV x 40).toNat else none)
theorem prs_snoc : ∀ (k a : Nat), prs a (k + 1) = prs a k ++ [(1, a + k), (3, 0)]
  | 0, a => rfl
  | k + 1, a => by
    rw [prs, prs_snoc k (a + 1), prs]
    simp; omega
theorem ofL_app (a b : List UInt8) : ofL a ++ ofL b = ofL (a ++ b) := by
  apply ByteArray.ext
  simp [ofL]
def sgB : List Int → List UInt8
  | [] => []
  | x :: r => bytesL (segL (segOf x).1 (segOf x).2) ++ sgB r
def sgN : List Int → Nat
  | [] => 0
  | x :: r => segN (segOf x).1 (segOf x).2 + sgN r
theorem sgB_prog : ∀ l : List Int, bytesL (progL (l.map segOf)) = sgB l ++ [0]
  | [] => rfl
  | x :: r => by
    have := sgB_prog r
    simp only [List.map_cons, progL, sgB]
    rw [List.append_assoc, ← this]
    simp [bytesL]
theorem sgN_prog : ∀ l : List Int, progN (l.map segOf) = sgN l + 1
  | [] => rfl
  | x :: r => by
    have := sgN_prog r
    simp only [List.map_cons, progN, sgN]
    omega
theorem sgB_snoc : ∀ (l : List Int) (x : Int), sgB (l ++ [x]) = sgB l ++ bytesL (segL (segOf x).1 (segOf x).2)
  | [], x => by simp [sgB]
  | y :: r, x => by simp [sgB, sgB_snoc r x]
theorem sgN_snoc : ∀ (l : List Int) (x : Int), sgN (l ++ [x]) = sgN l + segN (segOf x).1 (segOf x).2
  | [], x => by simp [sgN]
  | y :: r, x => by simp only [List.cons_append, sgN, sgN_snoc r x]; omega
theorem sgB_len : ∀ l : List Int, (∀ x, (segOf x).ok) → (sgB l).length ≤ 60 * l.length
  | [], _ => by simp [sgB]
  | x :: r, h => by
    have h1 := sgB_len r h
    have h2 := bytes_len (segL (segOf x).1 (segOf x).2)
    have h3 := seg_len (segOf x) (h x)
    simp only [sgB, List.length_append, List.length_cons]
    omega
theorem pick_bd (x n : Int) (hn : 0 < n) : 0 ≤ pickV x n ∧ pickV x n < n := by
  unfold pickV
  exact ⟨Int.emod_nonneg _ (by omega), Int.emod_lt_of_pos _ hn⟩
theorem segOf_ok (x : Int) : (segOf x).ok := by
  have h5 := pick_bd x 5 (by omega)
  have h40 := pick_bd x 40 (by omega)
  refine ⟨by show (1 + pickV x 5).toNat ≤ 5; omega, fun y hy => ?_⟩
  simp only [segOf] at hy
  split at hy
  · injection hy with hy; omega
  · cases hy
theorem conv_one (W : World) (n : Nat) (hn : n ≤ 255) : (convert 42 9 (.slice (some ⟨W.heap.size, 0, none⟩) 1 1)).run Try.prog (W.alloc (.cells #[.int .u8 (n : Int)] 5)) = .ok (.string (ofL [UInt8.ofNat n])) (W.alloc (.cells #[.int .u8 (n : Int)] 5)) := by
  refine run_convert_bytes_back (P := Try.prog) (W.alloc (.cells #[.int .u8 (n : Int)] 5)) 42 9 5 ⟨W.heap.size, 0, none⟩ 1 [UInt8.ofNat n] (by kernel_rfl) (by kernel_rfl) (by kernel_rfl) (fun j hj => ?_)
  have : j = 0 := by simp at hj; omega
  subst this
  have hadd : (⟨W.heap.size, 0, none⟩ : Addr).add 0 = ⟨W.heap.size, 0, none⟩ := by unfold Addr.add; split <;> simp_all
  rw [hadd, cell_of_row _ _ 0 _ _ (0, 0) (heap_alloc_new W _)]
  have e : (UInt8.ofNat n).toNat = n := by simp; omega
  simp
  omega
theorem pair_bytes (q : Nat) : ofL (bytesL (prs 0 q)) ++ ⟨#[1, 0, 0, 0]⟩ ++ ofL [UInt8.ofNat q] ++ ⟨#[3, 0]⟩ = ofL (bytesL (prs 0 (q + 1))) := by
  show ofL (bytesL (prs 0 q)) ++ ofL [1, 0, 0, 0] ++ ofL [UInt8.ofNat q] ++ ofL [3, 0] = _
  rw [ofL_app, ofL_app, ofL_app, prs_snoc]
  congr 1
  simp [bytesL, enc]
theorem for_bytes (k t : Nat) : (⟨#[19, 0]⟩ : ByteArray) ++ ofL [UInt8.ofNat t] ++ ofL (bytesL (prs 0 k)) ++ ⟨#[20]⟩ = ofL (bytesL (segL k (some t))) := by
  show ofL [19, 0] ++ ofL [UInt8.ofNat t] ++ ofL (bytesL (prs 0 k)) ++ ofL [20] = _
  rw [ofL_app, ofL_app, ofL_app]
  congr 1
  simp [bytesL, enc, segL]
set_option maxRecDepth 100000 in
set_option maxHeartbeats 1000000 in
theorem straight_any (w : World) (v : Value) (l : List Int) (nb : Nat) (hv : InpAt nb w v l) (hl : ∀ x ∈ l, -9223372036854775808 ≤ x ∧ x ≤ 9223372036854775807) (R : Ending → World → Prop)
    (fin : ∀ w', Below w.heap.size w w' → R (.returned (.tuple #[.string (ofL (bytesL (progL ((l.take 20).map segOf)))), .int .i64 (progN ((l.take 20).map segOf) : Nat)])) w') :
    Calls Try.prog 14 #[v] w R := by
  obtain ⟨ao, cp, rfl, hcp, hcs⟩ := hv
  replace fin := hd fin
  replace hcs := hd hcs
  replace hl := hd hl
  go_enter Try.func14, Try.ntmps14
  go_wp2
  go_loopw [4, 5, 6] (fun c s i wr => ∃ k : Nat, k ≤ l.length ∧ k ≤ 20 ∧ i = .int .i64 k ∧ c = .string (ofL (sgB (l.take k))) ∧ s = .int .i64 (1 + (sgN (l.take k) : Nat)) ∧ sgN (l.take k) ≤ 441 * k ∧ Below w.heap.size w wr) (fun _ _ i _ => 20 - (intOf i).toNat)
  case atStart => exact ⟨0, by omega, by omega, rfl, rfl, rfl, by simp [sgN], Below.refl _ _⟩
  case round =>
    obtain ⟨k, hk, hk20, rfl, rfl, rfl, hsn, hbel⟩ := hrel
    by_cases hlt : k < l.length ∧ k < 20
    · obtain ⟨hlt, hlt2⟩ := hlt
      obtain ⟨x, hx⟩ : ∃ x, l[k]? = some x := ⟨_, List.getElem?_eq_getElem hlt⟩
      obtain ⟨g, o, rfl, hc⟩ : ∃ g o, ao = some ⟨g, o, none⟩ ∧ w.cell? ⟨g, o + k, none⟩ = some (.int .i64 x) := by
        rcases hcs.out with ⟨g, o, e, _, h⟩ | h
        · exact ⟨g, o, e, h k x hx⟩
        · subst h; simp at hlt
      have hgl : g < w.heap.size := World.block_lt_of_cell? w _ hc
      have cx := (hbel.cell (p := ⟨g, o + k, none⟩) hgl).trans hc
      have hxb := hl.out x (List.mem_of_getElem? hx)
      have h5 := pick_bd x 5 (by omega)
      have h40 := pick_bd x 40 (by omega)
      have t1 : decide ((k : Int) < (l.length : Int)) = true := by simp; omega
      have t2 : decide ((k : Int) < 20) = true := by simp; omega
      have hglr : g < wr.heap.size := by have := hbel.size; omega
      replace hbel := hd hbel
      replace hx := hd hx
      go_wp2_with (first | (go_at_call 13; refine pick_any _ _ _ hxb (by omega) _ ?_))
      obtain ⟨m, hm⟩ : ∃ m : Nat, 1 + pickV x 5 = (m : Int) := ⟨(1 + pickV x 5).toNat, by omega⟩
      rw [hm]
      obtain ⟨wo, hwo⟩ : ∃ wo, wo = wr := ⟨_, rfl⟩
      subst hwo
      go_loopw [8, 9, 10] (fun s n j w2 => ∃ q : Nat, q ≤ m ∧ j = .int .i64 q ∧ n = .int .i64 (2 * q : Nat) ∧ s = .string (ofL (bytesL (prs 0 q))) ∧ Below wo.heap.size wo w2) (fun _ _ j _ => m - (intOf j).toNat)
      case atStart => exact ⟨0, by omega, rfl, rfl, rfl, Below.refl _ _⟩
      case round =>
        obtain ⟨q, hq, rfl, rfl, rfl, hb2⟩ := hrel
        by_cases hql : q < m
        · have hcq := conv_one wr q (by omega)
          have hpb := hd (pair_bytes q)
          have z1 : (ofL (bytesL (prs 0 q))).size ≤ 100 := by rw [ofL_size]; have := bytes_len (prs 0 q); rw [prs_len] at this; omega
          have z2 : (ofL [UInt8.ofNat q]).size = 1 := by rw [ofL_size]; rfl
          generalize ofL (bytesL (prs 0 q)) = B0 at hpb z1 ⊢
          generalize ofL [UInt8.ofNat q] = B1 at hpb z2 hcq
          have hszr := hb2.size
          replace hb2 := hd hb2
          go_wp2
          refine ⟨⟨q + 1, by omega, by go_num, by go_num, by rw [← hpb.out], hb2.out.alloc hszr _⟩, by simp [intOf]; omega⟩
        · have hqm : q = m := by omega
          subst hqm
          have cx2 := (hb2.cell (p := ⟨g, o + k, none⟩) hglr).trans cx
          have hszr := hb2.size
          have hglr2 : g < wr.heap.size := by omega
          have hbw := hd (hbel.out.trans (hb2.mono hbel.out.size))
          have htk : l.take (k + 1) = l.take k ++ [x] := by rw [List.take_add_one, hx.out]; rfl
          have hnx := sgB_snoc (l.take k) x
          have hnn := sgN_snoc (l.take k) x
          rw [← htk] at hnx hnn
          have hsl := segN_le (segOf x) (segOf_ok x)
          have hk1 : (segOf x).1 = q := by show (1 + pickV x 5).toNat = q; omega
          clear hb2 hcp
          by_cases hev : x % 2 = 0
          · have hts : (x.tmod 2 == 0) = true := by rw [beq_iff_eq]; exact Int.tmod_eq_zero_of_dvd (Int.dvd_of_emod_eq_zero hev)
            obtain ⟨t, ht⟩ : ∃ t : Nat, 1 + pickV x 40 = (t : Int) := ⟨(1 + pickV x 40).toNat, by omega⟩
            have hsg : segOf x = (q, some t) := by
              unfold segOf
              rw [if_pos hev, hm, ht]; rfl
            have hcq := conv_one wr t (by omega)
            have hmul : (t : Int) * (2 * (q : Int) + 1) ≤ 440 := by
              have h1 : (t : Int) * (2 * (q : Int) + 1) ≤ 40 * (2 * (q : Int) + 1) := Int.mul_le_mul_of_nonneg_right (by omega) (by omega)
              omega
            have hmul0 : 0 ≤ (t : Int) * (2 * (q : Int) + 1) := Int.mul_nonneg (by omega) (by omega)
            have hfb := hd (for_bytes q t)
            rw [hsg] at hnx hnn hsl
            simp only [segN] at hnn hsl
            replace hnx := hd hnx
            replace hnn := hd hnn
            replace hsg := hd hsg
            replace htk := hd htk
            have hcat : Hid (ofL (sgB (l.take k)) ++ ((⟨#[19, 0]⟩ : ByteArray) ++ ofL [UInt8.ofNat t] ++ ofL (bytesL (prs 0 q)) ++ ⟨#[20]⟩) = ofL (sgB (l.take (k + 1)))) := hd (by rw [hfb.out, ofL_app, hnx.out])
            have z1 : (ofL (bytesL (prs 0 q))).size ≤ 100 := by rw [ofL_size]; have := bytes_len (prs 0 q); rw [prs_len] at this; omega
            have z2 : (ofL [UInt8.ofNat t]).size = 1 := by rw [ofL_size]; rfl
            have z3 : (ofL (sgB (l.take k))).size ≤ 1200 := by rw [ofL_size]; have := sgB_len (l.take k) segOf_ok; have := List.length_take_le k l; omega
            generalize ofL (bytesL (prs 0 q)) = B0 at hcat z1 ⊢
            generalize ofL [UInt8.ofNat t] = B1 at hcat z2 hcq
            generalize ofL (sgB (l.take k)) = B2 at hcat z3 ⊢
            clear hfb hnx
            go_wp2_with (first | (go_at_call 13; refine pick_any _ _ _ hxb (by omega) _ ?_))
            refine ⟨⟨k + 1, by omega, by omega, by go_num, by rw [← hcat.out], ?_, by rw [hnn.out]; omega, hbw.out.alloc (by have := hbw.out.size; omega) _⟩, by simp [intOf]; omega⟩
            rw [hnn.out]
            show Value.int _ _ = Value.int _ _
            congr 1
            push_cast
            omega
          · have hts : (x.tmod 2 == 0) = false := by
              rw [beq_eq_false_iff_ne]
              intro h
              exact hev (Int.emod_eq_zero_of_dvd (Int.dvd_of_tmod_eq_zero h))
            have hsg : segOf x = (q, none) := by
              unfold segOf
              rw [if_neg hev, hm]; rfl
            rw [hsg] at hnx hnn hsl
            simp only [segN, segL] at hnn hsl hnx
            have hcat : Hid (ofL (sgB (l.take k)) ++ ofL (bytesL (prs 0 q)) = ofL (sgB (l.take (k + 1)))) := hd (by rw [ofL_app, hnx])
            have z1 : (ofL (bytesL (prs 0 q))).size ≤ 100 := by rw [ofL_size]; have := bytes_len (prs 0 q); rw [prs_len] at this; omega
            have z3 : (ofL (sgB (l.take k))).size ≤ 1200 := by rw [ofL_size]; have := sgB_len (l.take k) segOf_ok; have := List.length_take_le k l; omega
            generalize ofL (bytesL (prs 0 q)) = B0 at hcat z1 ⊢
            generalize ofL (sgB (l.take k)) = B2 at hcat z3 ⊢
            replace hnn := hd hnn
            replace hsg := hd hsg
            replace htk := hd htk
            clear hnx
            go_wp2
            refine ⟨⟨k + 1, by omega, by omega, by go_num, by rw [← hcat.out], ?_, by rw [hnn.out]; omega, hbw.out⟩, by simp [intOf]; omega⟩
            rw [hnn.out]
            show Value.int _ _ = Value.int _ _
            congr 1
            push_cast
            omega
    · have htk : l.take 20 = l.take k := by
        rcases Nat.lt_or_ge k l.length with h | h
        · have : k = 20 := by omega
          rw [this]
        · rw [List.take_of_length_le (by omega), List.take_of_length_le (by omega)]
      have hval : Hid (Value.tuple #[.string (ofL (bytesL (progL ((l.take 20).map segOf)))), .int .i64 (progN ((l.take 20).map segOf) : Nat)] = Value.tuple #[.string (ofL (sgB (l.take k)) ++ ⟨#[0]⟩), .int .i64 (1 + (sgN (l.take k) : Nat))]) := hd (by
        rw [htk, sgB_prog, sgN_prog]
        have e1 : ofL (sgB (l.take k) ++ [0]) = ofL (sgB (l.take k)) ++ ⟨#[0]⟩ := (ofL_app _ [0]).symm
        have e2 : ((sgN (l.take k) + 1 : Nat) : Int) = 1 + (sgN (l.take k) : Nat) := by omega
        rw [e1, e2])
      have z3 : (ofL (sgB (l.take k))).size ≤ 1200 := by rw [ofL_size]; have := sgB_len (l.take k) segOf_ok; have := List.length_take_le k l; omega
      rw [hval.out] at fin
      generalize ofL (sgB (l.take k)) = B2 at hval z3 fin ⊢
      clear htk
      replace hbel := hd hbel
      by_cases h1 : k < l.length
      · have t1 : decide ((k : Int) < (l.length : Int)) = true := by simp; omega
        have t2 : decide ((k : Int) < 20) = false := by simp; omega
        go_wp2
        exact cl1 (fin.out _ hbel.out) rfl
      · have t1 : decide ((k : Int) < (l.length : Int)) = false := by simp; omega
        go_wp2
        exact cl1 (fin.out _ hbel.out) rfl

end Go.Proofs.Ytidhiaaicmfabaa
