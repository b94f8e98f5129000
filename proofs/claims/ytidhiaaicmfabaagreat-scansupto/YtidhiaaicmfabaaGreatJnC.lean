/- The document's Scan and Load. -/
import Derived.Test.YtidhiaaicmfabaaGreatMem
import Derived.Test.YtidhiaaicmfabaaGreatSpec
import Derived.Test.YtidhiaaicmfabaaGreatRefA
import Derived.Test.YtidhiaaicmfabaaGreatRefC
import Derived.Test.YtidhiaaicmfabaaGreatSpec2
import Derived.WalkKit
import Derived.WalkSpells
import Derived.WalkLawsBesides
import Derived.Deep.OwnRows
import Derived.BigQuiet
import Derived.Handy
import Derived.Deep.Light
import Derived.Deep.RegionHeld3
import Derived.Deep.RegionWith
import Derived.Test.YtidhiaaicmfabaaGreatJnA
import Derived.Test.YtidhiaaicmfabaaGreatJnB
import Derived.Test.YtidhiaaicmfabaaGreatDocD
import Derived.Test.YtidhiaaicmfabaaGreatDocF
import Derived.Deep.LoopGhost

/- Where inputs are laid, by the document (seats .Z, .ZD alone). -/
namespace Go.Proofs.YtidhiaaicmfabaaGreat
open Go.RowKit Go.Proofs Go.Deep

/-- The cells that inputs are laid into, in their order. -/
def atF (rl : Nat → Nat) : Nat → Nat → List Nat
  | 0, _ => []
  | k + 1, i => if rl i = 0 then i :: atF rl k (i + 1) else atF rl k (i + 1)
theorem atF_mem {rl : Nat → Nat} : ∀ (k i a : Nat), a ∈ atF rl k i → i ≤ a ∧ a < i + k
  | 0, _, _, h => by cases h
  | k + 1, i, a, h => by
    simp only [atF] at h
    split at h
    · rcases List.mem_cons.1 h with rfl | h
      · omega
      · have := atF_mem k (i + 1) a h; omega
    · have := atF_mem k (i + 1) a h; omega
theorem atF_len {rl : Nat → Nat} : ∀ (k i : Nat), (atF rl k i).length ≤ k
  | 0, _ => by simp [atF]
  | k + 1, i => by
    have := atF_len (rl := rl) k (i + 1)
    simp only [atF]; split <;> simp <;> omega
theorem atF_snoc {rl : Nat → Nat} : ∀ (k i : Nat), atF rl (k + 1) i = atF rl k i ++ (if rl (i + k) = 0 then [i + k] else [])
  | 0, i => by simp [atF]
  | k + 1, i => by
    have ih := atF_snoc (rl := rl) k (i + 1)
    rw [show i + 1 + k = i + (k + 1) by omega] at ih
    rw [atF, ih]
    conv => rhs; rw [atF]
    split <;> simp
/-- Are there ps many inputs ps cells, each of its kind? -/
def fits2 (kd : Nat → Nat) : List Nat → List Int → Bool
  | [], l => l.isEmpty
  | _ :: _, [] => false
  | a :: ps, x :: r => layK (kd a) x == x && fits2 kd ps r
def lay2 : List Nat → List Int → (Nat → Int) → (Nat → Int)
  | a :: ps, x :: r, C => lay2 ps r (upd C a x)
  | _, _, C => C
theorem fits_two {rl kd : Nat → Nat} : ∀ (k i : Nat) (l : List Int), fitsL rl kd k i l = fits2 kd (atF rl k i) l
  | 0, _, l => by simp [fitsL, atF, fits2]
  | k + 1, i, l => by
    simp only [fitsL, atF]
    split
    · cases l with
      | nil => simp [fits2]
      | cons x r => simp only [fits2]; rw [fits_two k (i + 1) r]
    · exact fits_two k (i + 1) l
theorem lay_two {rl kd : Nat → Nat} : ∀ (k i : Nat) (l : List Int) (C : Nat → Int), fitsL rl kd k i l = true → layL rl kd k i l C = lay2 (atF rl k i) l C
  | 0, _, l, C, _ => by simp [layL, atF, lay2]
  | k + 1, i, l, C, h => by
    simp only [fitsL] at h
    simp only [layL, atF]
    split
    · rename_i h0
      rw [if_pos h0] at h
      cases l with
      | nil => simp [lay2]
      | cons x r =>
        simp only [Bool.and_eq_true, beq_iff_eq] at h
        simp only [lay2]
        rw [h.1, lay_two k (i + 1) r _ h.2]
    · rename_i h0
      rw [if_neg h0] at h
      exact lay_two k (i + 1) l C h
theorem fits2_len {kd : Nat → Nat} : ∀ (ps : List Nat) (l : List Int), fits2 kd ps l = true → ps.length = l.length
  | [], l, h => by cases l with
    | nil => rfl
    | cons x r => simp [fits2] at h
  | a :: ps, [], h => by simp [fits2] at h
  | a :: ps, x :: r, h => by
    simp only [fits2, Bool.and_eq_true] at h
    simp [fits2_len ps r h.2]
theorem fits2_iff {kd : Nat → Nat} : ∀ (ps : List Nat) (l : List Int), ps.length = l.length → (fits2 kd ps l = true ↔ ∀ (j a : Nat) (x : Int), ps[j]? = some a → l[j]? = some x → layK (kd a) x = x)
  | [], l, h => by
    cases l with
    | nil => simp [fits2]
    | cons x r => simp at h
  | a :: ps, [], h => by simp at h
  | a :: ps, x :: r, h => by
    have ih := fits2_iff (kd := kd) ps r (by simpa using h)
    simp only [fits2, Bool.and_eq_true, beq_iff_eq]
    constructor
    · rintro ⟨h1, h2⟩ j a' x' e1 e2
      cases j with
      | zero => simp at e1 e2; subst e1 e2; exact h1
      | succ j => exact ih.1 h2 j a' x' (by simpa using e1) (by simpa using e2)
    · intro hall
      exact ⟨hall 0 a x rfl rfl, ih.2 (fun j a' x' e1 e2 => hall (j + 1) a' x' (by simpa using e1) (by simpa using e2))⟩
theorem lay2_snoc : ∀ (ps : List Nat) (l : List Int) (j a : Nat) (x : Int) (C : Nat → Int), ps[j]? = some a → l[j]? = some x → lay2 (ps.take (j + 1)) (l.take (j + 1)) C = upd (lay2 (ps.take j) (l.take j) C) a x
  | [], _, j, a, x, C, h, _ => by simp at h
  | _ :: _, [], j, a, x, C, _, h => by simp at h
  | b :: ps, y :: l, 0, a, x, C, h1, h2 => by simp at h1 h2; subst h1 h2; simp [lay2]
  | b :: ps, y :: l, j + 1, a, x, C, h1, h2 => by
    simp only [List.take_succ_cons, lay2]
    exact lay2_snoc ps l j a x _ (by simpa using h1) (by simpa using h2)
def natV (l : List Nat) : List Value := l.map (fun a : Nat => Value.int .i64 (a : Int))

end Go.Proofs.YtidhiaaicmfabaaGreat

/- The document's role (seats .Z, .ZD alone). -/
namespace Go.Proofs.YtidhiaaicmfabaaGreat
open Go.RowKit Go.Proofs Go.Deep

set_option maxRecDepth 100000 in
set_option maxHeartbeats 1000000 in
theorem rrole_any (w : World) (bm bx bc nC capc : Nat) (acc : Option Addr) (rl kd : Nat → Nat) (C : Nat → Int) (hn : nC ≤ 100) (hC : ∀ j, in32 (C j)) (c0 : w.cell? ⟨bm, 0, none⟩ = some (.pointer (some ⟨bx, 0, none⟩)))
    (c1 : w.cell? ⟨bm, 1, none⟩ = some (.slice (some ⟨bc, 0, none⟩) nC nC)) (x0 : w.cell? ⟨bx, 0, none⟩ = some (.slice acc nC capc)) (hk : 0 < nC → ∃ bk, acc = some ⟨bk, 0, none⟩ ∧ Tab w bk 104 2 nC capc (kindA rl kd))
    (ht : Tab w bc 3 1 nC nC (cintV C)) (R : Ending → World → Prop)
    (fin : ∀ v w', Below w.heap.size w w' → w'.ownsRow w.heap.size 3 1 v (outsL rl C nC).length (i64L (outsL rl C nC)) → R (.returned v) w') :
    Calls Tryz.prog 18 #[.pointer (some ⟨bm, 0, none⟩), .int .i64 1] w R := by
  have hbm := World.block_lt_of_cell? w _ c0
  have hbx := World.block_lt_of_cell? w _ x0
  have hbc := ht.lt
  replace fin := hd fin
  replace ht := hd ht
  replace hC := hd hC
  replace hk := hd hk
  go_enter Tryz.func18, Tryz.ntmps18
  go_wp2
  go_loopw [5, 6] (fun v i wr => ∃ (k : Nat), k ≤ nC ∧ i = .int .i64 k ∧ wr.ownsRow w.heap.size 3 1 v (outsL rl C k).length (i64L (outsL rl C k)) ∧ Below w.heap.size w wr) (fun _ i _ => nC - (intOf i).toNat)
  case atStart => exact ⟨0, by omega, rfl, World.ownsRow_nil _ _ _ _, Below.refl _ _⟩
  case round =>
    rename_i u3 u11
    obtain ⟨k, hk0, rfl, hown, hbel⟩ := hrel
    obtain ⟨ao, cp, rfl⟩ := own_sl hown
    have hlen := outsL_len rl C k
    have d0 : wr.cell? ⟨bm, 0, none⟩ = some (.pointer (some ⟨bx, 0, none⟩)) := (hbel.cell (p := ⟨bm, 0, none⟩) hbm).trans c0
    have d1 : wr.cell? ⟨bm, 1, none⟩ = some (.slice (some ⟨bc, 0, none⟩) nC nC) := (hbel.cell (p := ⟨bm, 1, none⟩) hbm).trans c1
    have y0 : wr.cell? ⟨bx, 0, none⟩ = some (.slice acc nC capc) := (hbel.cell (p := ⟨bx, 0, none⟩) hbx).trans x0
    have hwr := hbel.size
    by_cases hlt : k < nC
    · obtain ⟨bk, rfl, htk⟩ := hk.out (by omega)
      have k2 := (ht.out.of_block (w' := wr) (hbel.block bc hbc)).int hlt
      have htr := htk.of_block (w' := wr) (hbel.block bk htk.lt)
      have k0 := htr.cell0 hlt (by omega)
      rw [kindA_0] at k0
      have hbk := htr.lt
      have hCk := hC.out k
      unfold in32 at hCk
      have j0 : (0 : Int) ≤ (k : Int) ∧ (k : Int) < (nC : Int) := by omega
      clear htr htk
      replace hbel := hd hbel
      by_cases h1 : rl k = 1
      · have t1 : ((rl k : Int) == 1) = true := by simp [h1]
        have ho : outsL rl C (k + 1) = C k :: outsL rl C k := by simp [outsL, h1]
        replace ho := hd ho
        replace h1 := hd h1
        replace hown := hd hown
        go_wp2_with (first | (at_builtin; refine wpList_app _ rfl _ _ 42 rfl w.heap.size 3 _ 1 8 ulInt infoI64 rfl (by decide) _ _ _ rfl (by exact hown.out.alloc _) _ 1 1 [.int .i64 (C k)] rfl (by exact alloc_at (by simp)) rfl (oneI64 _) (by unfold maxLen; omega) (by omega) (by simp; omega) ?_; intro v1 w1 hown1 hgr1; obtain ⟨ao1, cp1, rfl⟩ := own_sl hown1; replace hown1 := hd hown1; replace hgr1 := hd hgr1))
        refine ⟨⟨k + 1, by omega, by go_num, by rw [ho.out, i64L_cons]; exact hown1.out, ?_⟩, by simp [intOf]; omega⟩
        exact (hbel.out.alloc hwr _).grown hgr1.out (by simp; omega) (fun k hk => (hown.out.lt k hk).1)
      · have t1 : ((rl k : Int) == 1) = false := by simp; omega
        have ho : outsL rl C (k + 1) = outsL rl C k := by simp [outsL, h1]
        replace ho := hd ho
        replace hown := hd hown
        go_wp2
        exact ⟨⟨k + 1, by omega, by go_num, by rw [ho.out]; exact hown.out, hbel.out⟩, by simp [intOf]; omega⟩
    · have hkn : k = nC := by omega
      subst hkn
      replace hown := hd hown
      replace hbel := hd hbel
      go_wp2
      exact cl1 (fin.out _ _ hbel.out hown.out) rfl

end Go.Proofs.YtidhiaaicmfabaaGreat

/- The document's step, whatever the instruction (seats .Z, .ZD alone). -/
namespace Go.Proofs.YtidhiaaicmfabaaGreat
open Go.RowKit Go.Proofs Go.Deep

def rcOf (D : Dk) (w0 : World) : Rc := mkK D.M w0 0 0 0 nmT (fun _ => undef) D.delta
theorem w32_in {x : Int} (h : in32 x) : wrap32 x = x := by unfold in32 at h; exact IntWalk.wrap32_in _ (by omega)
theorem tmod_two {a b : Int} (ha : in32 a) (hb : in32 b) (h0 : b ≠ 0) : wrap32 (a - b * wrap32 (a.tdiv b)) = a.tmod b := by
  unfold in32 at ha hb
  have hm := Int.tmod_def a b
  have hn : (a.tmod b).natAbs < b.natAbs := by rw [Int.natAbs_tmod]; exact Nat.mod_lt _ (by omega)
  have hq : (a.tdiv b).natAbs ≤ a.natAbs := by rw [Int.natAbs_tdiv]; exact Nat.div_le_self _ _
  by_cases h : a.tdiv b = 2147483648
  · have e : wrap32 (a.tdiv b) = -2147483648 := by rw [h]; unfold wrap32; omega
    rw [e]
    rw [h] at hm
    unfold wrap32
    omega
  · rw [IntWalk.wrap32_in (a.tdiv b) (by omega)]
    rw [← hm]
    exact IntWalk.wrap32_in _ (by omega)
theorem stepK_at {D : Dk} {w0 : World} {q : Sc} {S : List Int} {i : Nat} (hnx : q.nx = (i : Int)) : stepK (rcOf D w0) q S =
    ((doesV (D.M.op i) (D.M.arg i) (D.M.cnt i) (D.M.lp i) (D.M.to_ i) D.M.kd D.delta (popA (popsOf (D.M.op i)) S) (popB (popsOf (D.M.op i)) S) { q with nx := (i : Int) + 1 }).1,
     pushS (D.M.op i) (doesV (D.M.op i) (D.M.arg i) (D.M.cnt i) (D.M.lp i) (D.M.to_ i) D.M.kd D.delta (popA (popsOf (D.M.op i)) S) (popB (popsOf (D.M.op i)) S) { q with nx := (i : Int) + 1 }).2.1 (S.drop (popsOf (D.M.op i))),
     (doesV (D.M.op i) (D.M.arg i) (D.M.cnt i) (D.M.lp i) (D.M.to_ i) D.M.kd D.delta (popA (popsOf (D.M.op i)) S) (popB (popsOf (D.M.op i)) S) { q with nx := (i : Int) + 1 }).2.2) := by
  unfold stepK
  rw [hnx]
  rfl
theorem len_one {S : List Int} (h : 1 ≤ S.length) : ∃ x T, S = x :: T := by
  cases S with
  | nil => simp at h
  | cons x T => exact ⟨x, T, rfl⟩
theorem len_two {S : List Int} (h : 2 ≤ S.length) : ∃ y x T, S = y :: x :: T := by
  obtain ⟨y, T, rfl⟩ := len_one (S := S) (by omega)
  obtain ⟨x, T', rfl⟩ := len_one (S := T) (by simp at h; omega)
  exact ⟨y, x, T', rfl⟩
theorem tr_w (b : Bool) : wrap32 (tr b) = tr b := w32_in (tr_in b)
theorem rstep_any {D : Dk} (hD : DkOk D) (w0 : World) {dn : Int} {q : Sc} {S : List Int} {w : World} (h : DS D dn q.C q.Lf S w) (i : Nat) (hi : i < D.M.n) (hnx : q.nx = (i : Int)) (h0 : D.M.op i ≠ 0) (h22 : D.M.op i < 22)
    (hp : popsOf (D.M.op i) ≤ S.length) (h40 : S.length ≤ 40) (hside : Side (rcOf D w0) i q) (R : Ending → World → Prop)
    (ok : (stepK (rcOf D w0) q S).2.2 = 0 → ∀ w', DS D dn (stepK (rcOf D w0) q S).1.C (stepK (rcOf D w0) q S).1.Lf (stepK (rcOf D w0) q S).2.1 w' → R (.returned (.tuple #[.int .i64 (stepK (rcOf D w0) q S).1.nx, .int .i64 0])) w')
    (er : (stepK (rcOf D w0) q S).2.2 ≠ 0 → ∀ w' S', DS D dn q.C q.Lf S' w' → R (.returned (.tuple #[.int .i64 0, .int .i64 (stepK (rcOf D w0) q S).2.2])) w') :
    Calls Tryz.prog 48 #[.pointer (some ⟨D.bm, 0, none⟩), .int .i64 (i : Int)] w R := by
  have hcell : (D.M.op i = 2 ∨ D.M.op i = 3 ∨ D.M.op i = 21) → D.M.arg i = (D.c i : Int) ∧ D.c i < D.M.nC := fun h => by
    have h1 := hD.ac i hi (by omega)
    obtain ⟨c, h2, h3⟩ := hside.cell h
    have h2 : D.M.arg i = (c : Int) := h2
    have h3 : c < D.M.nC := h3
    exact ⟨h1, by omega⟩
  have hcells : (D.M.op i = 4 ∨ D.M.op i = 5) → D.M.arg i = (D.c i : Int) ∧ D.M.cnt i = D.N i ∧ (∀ y : Nat, (y : Int) < D.N i → D.c i + y < D.M.nC) := fun h => by
    have h1 := hD.ac i hi (by omega)
    obtain ⟨c, n, h2, h3, h4⟩ := hside.cells h
    have h2 : D.M.arg i = (c : Int) := h2
    have h3 : D.M.cnt i = (n : Int) := h3
    have h4 : c + n ≤ D.M.nC := h4
    have h5 := (hD.an i hi h).1
    exact ⟨h1, h5, fun y hy => by omega⟩
  have es := stepK_at (D := D) (w0 := w0) (S := S) hnx
  have hC := h.hC
  have hcs : D.M.op i = 1 ∨ D.M.op i = 2 ∨ D.M.op i = 3 ∨ D.M.op i = 4 ∨ D.M.op i = 5 ∨ D.M.op i = 6 ∨ D.M.op i = 7 ∨ D.M.op i = 8 ∨ D.M.op i = 9 ∨ D.M.op i = 10 ∨ D.M.op i = 11 ∨ D.M.op i = 12 ∨ D.M.op i = 13 ∨ D.M.op i = 14 ∨ D.M.op i = 15 ∨ D.M.op i = 16 ∨ D.M.op i = 17 ∨ D.M.op i = 18 ∨ D.M.op i = 19 ∨ D.M.op i = 20 ∨ D.M.op i = 21 := by omega
  rcases hcs with ho | ho | ho | ho | ho | ho | ho | ho | ho | ho | ho | ho | ho | ho | ho | ho | ho | ho | ho | ho | ho
  · have e : stepK (rcOf D w0) q S = ({ q with nx := (i : Int) + 1 }, wrap32 (D.N i) :: S, 0) := by
      rw [es, ho, hD.a1 i hi (.inl ho)]; simp [doesV, popsOf, pushesOf, pushS]
    rw [e] at ok
    exact rstep1 hD h h40 i hi ho R (fun w' hw => ok rfl w' hw)
  · obtain ⟨ea, hc⟩ := hcell (by omega)
    have e : stepK (rcOf D w0) q S = ({ q with nx := (i : Int) + 1 }, wrap32 (q.C (D.c i)) :: S, 0) := by
      rw [es, ho, ea, w32_in (hC _)]; simp [doesV, popsOf, pushesOf, pushS]
    rw [e] at ok
    exact rstep2 hD h h40 i hi ho R hc (fun w' hw => ok rfl w' hw)
  · obtain ⟨ea, hc⟩ := hcell (by omega)
    obtain ⟨x, T, rfl⟩ := len_one (S := S) (by rw [ho] at hp; exact hp)
    have e : stepK (rcOf D w0) q (x :: T) = ({ q with nx := (i : Int) + 1, C := upd q.C (D.c i) (layK (D.M.kd (D.c i)) x) }, T, 0) := by
      rw [es, ho, ea]; simp [doesV, popsOf, pushesOf, pushS, popA]
    rw [e] at ok
    exact rstep3 hD h i hi ho R hc (fun w' hw => ok rfl w' hw)
  · obtain ⟨ea, ec, hcn⟩ := hcells (by omega)
    obtain ⟨x, T, rfl⟩ := len_one (S := S) (by rw [ho] at hp; exact hp)
    have e : stepK (rcOf D w0) q (x :: T) = if 0 ≤ x ∧ x < D.N i then ({ q with nx := (i : Int) + 1 }, wrap32 (q.C ((D.c i : Int) + x).toNat) :: T, 0) else ({ q with nx := (i : Int) + 1 }, 0 :: T, 5) := by
      rw [es, ho, ea, ec, w32_in (hC _)]
      by_cases hx : 0 ≤ x ∧ x < D.N i <;> simp [doesV, popsOf, pushesOf, pushS, popA, hx]
    refine rstep4 hD h (by simp at h40; omega) i hi ho R hcn (fun hx w' hw => ?_) (fun hx w' hw => ?_)
    · rw [if_pos hx] at e
      rw [e] at ok
      exact ok rfl w' hw
    · rw [if_neg hx] at e
      rw [e] at er
      exact er (by simp) w' T hw
  · obtain ⟨ea, ec, hcn⟩ := hcells (by omega)
    obtain ⟨y, x, T, rfl⟩ := len_two (S := S) (by rw [ho] at hp; exact hp)
    have hk5 := (hD.an i hi (.inr ho)).2
    have e : stepK (rcOf D w0) q (y :: x :: T) = if 0 ≤ x ∧ x < D.N i then ({ q with nx := (i : Int) + 1, C := upd q.C ((D.c i : Int) + x).toNat (layK (D.M.kd (D.c i)) y) }, T, 0) else ({ q with nx := (i : Int) + 1 }, T, 5) := by
      rw [es, ho, ea, ec]
      by_cases hx : 0 ≤ x ∧ x < D.N i
      · have hkx : D.M.kd ((D.c i : Int) + x).toNat = D.M.kd (D.c i) := by
          have := hk5 x.toNat (by omega)
          rw [← this]; congr 1; omega
        simp [doesV, popsOf, pushesOf, pushS, popA, popB, hx, hkx]
      · simp [doesV, popsOf, pushesOf, pushS, popA, hx]
    refine rstep5 hD h i hi ho R (by have := hcn 0 (by have := hD.n1 i hi (.inr ho); omega); omega) hcn (fun hx w' hw => ?_) (fun hx w' hw => ?_)
    · rw [if_pos hx] at e
      rw [e] at ok
      exact ok rfl w' hw
    · rw [if_neg hx] at e
      rw [e] at er
      exact er (by simp) w' T hw
  · obtain ⟨y, x, T, rfl⟩ := len_two (S := S) (by rw [ho] at hp; exact hp)
    have e : stepK (rcOf D w0) q (y :: x :: T) = ({ q with nx := (i : Int) + 1 }, wrap32 (twoV 6 x y).1 :: T, 0) := by
      rw [es, ho]; simp [doesV, popsOf, pushesOf, pushS, popA, popB, twoV]
    rw [e] at ok
    exact rstep6 hD h (by simp at h40; omega) i hi ho R (fun _ w' hw => ok rfl w' hw) (fun hx => absurd (by first | rfl | simp [twoV]) hx)
  · obtain ⟨y, x, T, rfl⟩ := len_two (S := S) (by rw [ho] at hp; exact hp)
    have e : stepK (rcOf D w0) q (y :: x :: T) = ({ q with nx := (i : Int) + 1 }, wrap32 (twoV 7 x y).1 :: T, 0) := by
      rw [es, ho]; simp [doesV, popsOf, pushesOf, pushS, popA, popB, twoV]
    rw [e] at ok
    exact rstep7 hD h (by simp at h40; omega) i hi ho R (fun _ w' hw => ok rfl w' hw) (fun hx => absurd (by first | rfl | simp [twoV]) hx)
  · obtain ⟨y, x, T, rfl⟩ := len_two (S := S) (by rw [ho] at hp; exact hp)
    have e : stepK (rcOf D w0) q (y :: x :: T) = ({ q with nx := (i : Int) + 1 }, wrap32 (twoV 8 x y).1 :: T, 0) := by
      rw [es, ho]; simp [doesV, popsOf, pushesOf, pushS, popA, popB, twoV]
    rw [e] at ok
    exact rstep8 hD h (by simp at h40; omega) i hi ho R (fun _ w' hw => ok rfl w' hw) (fun hx => absurd (by first | rfl | simp [twoV]) hx)
  · obtain ⟨y, x, T, rfl⟩ := len_two (S := S) (by rw [ho] at hp; exact hp)
    have hxb := h.hS x (by simp)
    have hyb := h.hS y (by simp)
    have e : stepK (rcOf D w0) q (y :: x :: T) = if y = 0 then ({ q with nx := (i : Int) + 1 }, 0 :: T, 4) else ({ q with nx := (i : Int) + 1 }, wrap32 (twoV 9 x y).1 :: T, 0) := by
      rw [es, ho]
      by_cases hy : y = 0
      · simp [doesV, popsOf, pushesOf, pushS, popB, hy]
      · simp [doesV, popsOf, pushesOf, pushS, popA, popB, twoV, hy, w32_in (w32_bd (x.tdiv y))]
    refine rstep9 hD h (by simp at h40; omega) i hi ho R (fun hx w' hw => ?_) (fun hx w' hw => ?_)
    · by_cases hy : y = 0
      · simp [twoV, hy] at hx
      · rw [if_neg hy] at e
        rw [e] at ok
        exact ok rfl w' hw
    · by_cases hy : y = 0
      · rw [if_pos hy] at e
        rw [e] at er
        have e4 : (twoV 9 x y).2 = 4 := by simp [twoV, hy]
        rw [e4]
        exact er (by simp) w' T hw
      · simp [twoV, hy] at hx
  · obtain ⟨y, x, T, rfl⟩ := len_two (S := S) (by rw [ho] at hp; exact hp)
    have hxb := h.hS x (by simp)
    have hyb := h.hS y (by simp)
    have e : stepK (rcOf D w0) q (y :: x :: T) = if y = 0 then ({ q with nx := (i : Int) + 1 }, 0 :: T, 4) else ({ q with nx := (i : Int) + 1 }, wrap32 (twoV 10 x y).1 :: T, 0) := by
      rw [es, ho]
      by_cases hy : y = 0
      · simp [doesV, popsOf, pushesOf, pushS, popB, hy]
      · simp [doesV, popsOf, pushesOf, pushS, popA, popB, twoV, hy, tmod_two hxb hyb hy]
    refine rstep10 hD h (by simp at h40; omega) i hi ho R (fun hx w' hw => ?_) (fun hx w' hw => ?_)
    · by_cases hy : y = 0
      · simp [twoV, hy] at hx
      · rw [if_neg hy] at e
        rw [e] at ok
        exact ok rfl w' hw
    · by_cases hy : y = 0
      · rw [if_pos hy] at e
        rw [e] at er
        have e4 : (twoV 10 x y).2 = 4 := by simp [twoV, hy]
        rw [e4]
        exact er (by simp) w' T hw
      · simp [twoV, hy] at hx
  · obtain ⟨y, x, T, rfl⟩ := len_two (S := S) (by rw [ho] at hp; exact hp)
    have e : stepK (rcOf D w0) q (y :: x :: T) = ({ q with nx := (i : Int) + 1 }, wrap32 (twoV 11 x y).1 :: T, 0) := by
      rw [es, ho]; simp [doesV, popsOf, pushesOf, pushS, popA, popB, twoV, tr_w]
    rw [e] at ok
    exact rstep11 hD h (by simp at h40; omega) i hi ho R (fun _ w' hw => ok rfl w' hw) (fun hx => absurd (by first | rfl | simp [twoV]) hx)
  · obtain ⟨y, x, T, rfl⟩ := len_two (S := S) (by rw [ho] at hp; exact hp)
    have e : stepK (rcOf D w0) q (y :: x :: T) = ({ q with nx := (i : Int) + 1 }, wrap32 (twoV 12 x y).1 :: T, 0) := by
      rw [es, ho]; simp [doesV, popsOf, pushesOf, pushS, popA, popB, twoV, tr_w]
    rw [e] at ok
    exact rstep12 hD h (by simp at h40; omega) i hi ho R (fun _ w' hw => ok rfl w' hw) (fun hx => absurd (by first | rfl | simp [twoV]) hx)
  · obtain ⟨x, T, rfl⟩ := len_one (S := S) (by rw [ho] at hp; exact hp)
    have e : stepK (rcOf D w0) q (x :: T) = ({ q with nx := (i : Int) + 1 }, wrap32 (tr (x == 0)) :: T, 0) := by
      rw [es, ho]; simp [doesV, popsOf, pushesOf, pushS, popA, tr_w]
    rw [e] at ok
    exact rstep13 hD h (by simp at h40; omega) i hi ho R (fun w' hw => ok rfl w' hw)
  · obtain ⟨y, x, T, rfl⟩ := len_two (S := S) (by rw [ho] at hp; exact hp)
    have e : stepK (rcOf D w0) q (y :: x :: T) = ({ q with nx := (i : Int) + 1 }, wrap32 (twoV 14 x y).1 :: T, 0) := by
      rw [es, ho]; simp [doesV, popsOf, pushesOf, pushS, popA, popB, twoV, tr_w]
    rw [e] at ok
    exact rstep14 hD h (by simp at h40; omega) i hi ho R (fun _ w' hw => ok rfl w' hw) (fun hx => absurd (by first | rfl | simp [twoV]) hx)
  · obtain ⟨y, x, T, rfl⟩ := len_two (S := S) (by rw [ho] at hp; exact hp)
    have e : stepK (rcOf D w0) q (y :: x :: T) = ({ q with nx := (i : Int) + 1 }, wrap32 (twoV 15 x y).1 :: T, 0) := by
      rw [es, ho]; simp [doesV, popsOf, pushesOf, pushS, popA, popB, twoV, tr_w]
    rw [e] at ok
    exact rstep15 hD h (by simp at h40; omega) i hi ho R (fun _ w' hw => ok rfl w' hw) (fun hx => absurd (by first | rfl | simp [twoV]) hx)
  · obtain ⟨x, T, rfl⟩ := len_one (S := S) (by rw [ho] at hp; exact hp)
    have e : stepK (rcOf D w0) q (x :: T) = ({ q with nx := (i : Int) + 1 }, wrap32 (IntKind.i16.wrap x) :: T, 0) := by
      rw [es, ho]; simp [doesV, popsOf, pushesOf, pushS, popA, w32_16]
    rw [e] at ok
    exact rstep16 hD h (by simp at h40; omega) i hi ho R (fun w' hw => ok rfl w' hw)
  · have e : stepK (rcOf D w0) q S = ({ q with nx := D.To i }, S, 0) := by
      rw [es, ho, hD.at_ i hi (.inl ho)]; simp [doesV, popsOf, pushesOf, pushS]
    rw [e] at ok
    exact rstep17 hD h i hi ho R (fun w' hw => ok rfl w' hw)
  · obtain ⟨x, T, rfl⟩ := len_one (S := S) (by rw [ho] at hp; exact hp)
    have e : stepK (rcOf D w0) q (x :: T) = ({ q with nx := if x = 0 then D.To i else (i : Int) + 1 }, T, 0) := by
      rw [es, ho, hD.at_ i hi (.inr ho)]
      by_cases hx : x = 0 <;> simp [doesV, popsOf, pushesOf, pushS, popA, hx]
    rw [e] at ok
    exact rstep18 hD h i hi ho R (fun w' hw => ok rfl w' hw)
  · have e : stepK (rcOf D w0) q S = ({ q with nx := (i : Int) + 1, Lf := D.N i :: q.Lf }, S, 0) := by
      rw [es, ho, hD.a1 i hi (.inr ho)]; simp [doesV, popsOf, pushesOf, pushS]
    rw [e] at ok
    exact rstep19 hD h (hside.opn ho) i hi ho R (fun w' hw => ok rfl w' hw)
  · obtain ⟨c, r, eL, c1, c2, r10, l1, l2⟩ := hside.nxt ho
    have el := hD.al i hi ho
    have l1 : -1 ≤ D.M.lp i := l1
    have l2 : D.M.lp i ≤ 8000 := l2
    rw [eL] at h
    have e : stepK (rcOf D w0) q S = if 0 < c - 1 then ({ q with nx := D.To i + 1, Lf := (c - 1) :: r }, S, 0) else ({ q with nx := (i : Int) + 1, Lf := r }, S, 0) := by
      rw [es, ho, el]
      by_cases hx : 0 < c - 1
      · simp [doesV, popsOf, pushesOf, pushS, eL]
        try (rw [if_pos (by omega), if_pos (by omega)])
        try exact ⟨rfl, rfl⟩
      · simp [doesV, popsOf, pushesOf, pushS, eL]
        try (rw [if_neg (by omega), if_neg (by omega)])
        try exact ⟨rfl, rfl⟩
    refine rstep20 hD h ⟨c1, c2⟩ r10 i hi ho R ⟨by omega, by omega⟩ (fun hx w' hw => ?_) (fun hx w' hw => ?_)
    · rw [if_pos hx] at e
      rw [e] at ok
      exact ok rfl w' hw
    · rw [if_neg hx] at e
      rw [e] at ok
      exact ok rfl w' hw
  · obtain ⟨ea, hc⟩ := hcell (by omega)
    obtain ⟨y, x, T, rfl⟩ := len_two (S := S) (by rw [ho] at hp; exact hp)
    have e : stepK (rcOf D w0) q (y :: x :: T) = ({ q with nx := (i : Int) + 1, C := upd q.C (D.c i) (if x = 0 then 0 else min (q.C (D.c i) + D.delta) 2147483647) }, wrap32 (if x = 0 then 0 else tr (decide (y ≤ min (q.C (D.c i) + D.delta) 2147483647))) :: T, 0) := by
      rw [es, ho, ea]
      have w0' : wrap32 0 = 0 := w32_in (by unfold in32; omega)
      by_cases hx : x = 0
      · simp [doesV, popsOf, pushesOf, pushS, popA, hx, w0']
      · simp [doesV, popsOf, pushesOf, pushS, popA, popB, hx, tr_w]
    rw [e] at ok
    exact rstep21 hD h (by simp at h40; omega) i hi ho R hc (fun w' hw => ok rfl w' hw)

end Go.Proofs.YtidhiaaicmfabaaGreat

/- The document's machine between scans (seats .Z, .ZD alone). -/
namespace Go.Proofs.YtidhiaaicmfabaaGreat
open Go.RowKit Go.Proofs Go.Deep

/-- A machine of the document's, between its scans. -/
structure Dx where
  bm : Nat
  bx : Nat
  bd : Nat
  capD : Nat
  bc : Nat
  acc : Option Addr
  capc : Nat
  c : Nat → Nat
  N : Nat → Int
  To : Nat → Int
  inn : Nat → Int
  M : Md
def Dx.at_ (X : Dx) (w0 : World) (ov : Value) (delta : Int) : Dk := ⟨w0, X.bm, X.bx, X.bd, X.capD, X.bc, X.acc, X.capc, w0.heap.size, X.c, X.N, X.To, X.inn, X.M, ov, delta⟩
structure DxOk (X : Dx) : Prop where
  n : X.M.n ≤ 8000
  nC : X.M.nC ≤ 100
  kd : ∀ i, X.M.kd i ≤ 2
  a1 : ∀ i, i < X.M.n → (X.M.op i = 1 ∨ X.M.op i = 19) → X.M.arg i = X.N i
  ac : ∀ i, i < X.M.n → (X.M.op i = 2 ∨ X.M.op i = 3 ∨ X.M.op i = 4 ∨ X.M.op i = 5 ∨ X.M.op i = 21) → X.M.arg i = (X.c i : Int)
  an : ∀ i, i < X.M.n → (X.M.op i = 4 ∨ X.M.op i = 5) → X.M.cnt i = X.N i ∧ ∀ k : Nat, (k : Int) < X.N i → X.M.kd (X.c i + k) = X.M.kd (X.c i)
  at_ : ∀ i, i < X.M.n → (X.M.op i = 17 ∨ X.M.op i = 18) → X.M.to_ i = X.To i
  al : ∀ i, i < X.M.n → X.M.op i = 20 → X.M.lp i = X.To i
  hN : ∀ i, in32 (X.N i)
  n1 : ∀ i, i < X.M.n → (X.M.op i = 4 ∨ X.M.op i = 5) → 1 ≤ X.N i
structure DSt (X : Dx) (e : Int) (C : Nat → Int) (ov : Value) (dn : Int) (w : World) : Prop where
  row : ∃ dl sv rv, w.rowIs X.bm 67 8 (docG X.bx X.bc X.M.nC ov e dl sv rv dn)
  cel : Tab w X.bc 3 1 X.M.nC X.M.nC (cintV C)
  blk : Blk w X.bx #[.slice X.acc X.M.nC X.capc, .slice (some ⟨X.bd, 0, none⟩) X.M.n X.capD, .int .i64 X.M.bd] 65
  tab : Tab w X.bd 109 6 X.M.n X.capD (codeA X.M.at_ X.M.op X.c X.N X.To X.inn)
  kinds : 0 < X.M.nC → ∃ bk, X.acc = some ⟨bk, 0, none⟩ ∧ Tab w bk 104 2 X.M.nC X.capc (kindA X.M.rl X.M.kd)
  hC : ∀ j, in32 (C j)
theorem blk_ne {w : World} {b g T T' : Nat} {c c' : Array Value} {fr fr' : Nat × Nat} (h : w.heap[b]? = some (.cells c T fr)) (h' : w.heap[g]? = some (.cells c' T' fr')) (hT : T ≠ T') : b ≠ g := by
  rintro rfl
  rw [h] at h'
  injection h' with h'
  injection h' with _ h3
  exact hT h3
section
variable {X : Dx} {e : Int} {C : Nat → Int} {ov : Value} {dn : Int} {w w' : World}
theorem DSt.below (h : DSt X e C ov dn w) (hb : Below w.heap.size w w') : DSt X e C ov dn w' := by
  obtain ⟨dl, sv, rv, hr⟩ := h.row
  refine ⟨⟨dl, sv, rv, hr.of_block (hb.block _ hr.lt)⟩, h.cel.of_block (hb.block _ h.cel.lt), h.blk.of_block (hb.block _ h.blk.lt), h.tab.of_block (hb.block _ h.tab.lt), fun h0 => ?_, h.hC⟩
  obtain ⟨bk, e1, ht⟩ := h.kinds h0
  exact ⟨bk, e1, ht.of_block (hb.block _ ht.lt)⟩
theorem DSt.ne (h : DSt X e C ov dn w) : X.bm ≠ X.bc ∧ X.bx ≠ X.bm ∧ X.bx ≠ X.bc ∧ X.bd ≠ X.bm ∧ X.bd ≠ X.bc := by
  obtain ⟨dl, sv, rv, cm, hr, _⟩ := h.row
  obtain ⟨cc, hc, _⟩ := h.cel
  obtain ⟨cd, hd, _⟩ := h.tab
  have hb := h.blk
  exact ⟨blk_ne hr hc (by decide), blk_ne hb hr (by decide), blk_ne hb hc (by decide), blk_ne hd hr (by decide), blk_ne hd hc (by decide)⟩
theorem DSt.ok (h : DSt X e C ov dn w) (hX : DxOk X) {d : Int} (hd : 0 ≤ d ∧ d ≤ 1000000) : DkOk (X.at_ w ov d) := by
  obtain ⟨n1, n2, n3, n4, n5⟩ := h.ne
  obtain ⟨dl, sv, rv, hr⟩ := h.row
  refine ⟨hr.lt, h.blk.lt, h.tab.lt, h.cel.lt, n1, n2, n3, n4, n5, Nat.le_refl _, hX.n, hX.nC, hd, h.blk, h.tab, fun h0 => ?_, hX.kd, hX.a1, hX.ac, hX.an, hX.at_, hX.al, hX.hN, hX.n1⟩
  obtain ⟨bk, e1, ht⟩ := h.kinds h0
  obtain ⟨cm, hr, _⟩ := hr
  obtain ⟨cc, hc, _⟩ := h.cel
  have ht' := ht
  obtain ⟨ck, hk, _⟩ := ht'
  exact ⟨bk, e1, ht.lt, blk_ne hk hr (by decide), blk_ne hk hc (by decide), ht⟩
theorem DSt.twain (h : DSt X e C ov dn w) (ht : Twain X.bm X.bc w.heap.size w w') {e' : Int} {C' : Nat → Int} {ov' : Value} {dn' : Int} (hr : ∃ dl sv rv, w'.rowIs X.bm 67 8 (docG X.bx X.bc X.M.nC ov' e' dl sv rv dn'))
    (hc : Tab w' X.bc 3 1 X.M.nC X.M.nC (cintV C')) (hC : ∀ j, in32 (C' j)) : DSt X e' C' ov' dn' w' := by
  obtain ⟨n1, n2, n3, n4, n5⟩ := h.ne
  refine ⟨hr, hc, h.blk.of_block (ht.block _ h.blk.lt n2 n3), h.tab.of_block (ht.block _ h.tab.lt n4 n5), fun h0 => ?_, hC⟩
  obtain ⟨bk, e1, htk⟩ := h.kinds h0
  obtain ⟨_, _, _, cm, hr, _⟩ := h.row
  obtain ⟨cc, hc, _⟩ := h.cel
  have ht' := htk
  obtain ⟨ck, hk, _⟩ := ht'
  exact ⟨bk, e1, htk.of_block (ht.block _ htk.lt (blk_ne hk hr (by decide)) (blk_ne hk hc (by decide)))⟩
theorem rscan_dead (h : DSt X e C ov dn w) (he : e ≠ 0) (v : Value) (d : Int) (R : Ending → World → Prop) (fin : R (.returned (.int .i64 e)) w) :
    Calls Tryz.prog 23 #[.pointer (some ⟨X.bm, 0, none⟩), v, .int .i64 d] w R := by
  obtain ⟨dl, sv, rv, hr⟩ := h.row
  have c3 : w.cell? ⟨X.bm, 3, none⟩ = some (.int .i64 e) := hr.cell (i := 3) (by omega)
  have te : (e != 0) = true := by simpa using he
  replace fin := hd fin
  clear h hr
  go_enter Tryz.func23, Tryz.ntmps23
  go_wp2
  exact cl1 fin.out rfl
end
theorem step_ov {K : Rc} {q : Sc} {S : List Int} (h : K.op q.nx.toNat ≠ 0) : (stepK K q S).1.ov = q.ov := by
  have ite : ∀ {c : Prop} [Decidable c] {A B : Sc × Int × Int}, A.1.ov = q.ov → B.1.ov = q.ov → (if c then A else B).1.ov = q.ov := by
    intro c _ A B ha hb
    split
    · exact ha
    · exact hb
  unfold stepK doesK doesV
  rw [if_neg h]
  show (_ : Sc × Int × Int).1.ov = _
  repeat' (refine ite ?_ ?_)
  all_goals first | rfl | skip
  cases q.Lf with
  | nil => rfl
  | cons c r => exact ite rfl rfl
theorem natV_at {l : List Nat} {j a : Nat} (h : l[j]? = some a) : (natV l)[j]? = some (.int .i64 (a : Int)) := by simp [natV, h]
theorem natV_len (l : List Nat) : (natV l).length = l.length := by simp [natV]

end Go.Proofs.YtidhiaaicmfabaaGreat

/- The document's Scan (seats .Z, .ZD alone). -/
namespace Go.Proofs.YtidhiaaicmfabaaGreat
open Go.RowKit Go.Proofs Go.Deep

set_option maxRecDepth 100000 in
set_option maxHeartbeats 4000000 in
theorem rscan_any (w : World) (X : Dx) (hX : DxOk X) {C : Nat → Int} {ov : Value} {dn0 : Int} (h : DSt X 0 C ov dn0 w) (v : Value) (l : List Int) (hv : InpAt X.bc w v l) (d : Int) {To : Nat → Nat} {H L : Nat → Int}
    (hkw : ∀ w0 br bc base nm fv d, KW (mkK X.M w0 br bc base nm fv d) To X.M.bd H L) (hbd : X.M.bd ≤ 200000) (R : Ending → World → Prop)
    (bad : (fitsL X.M.rl X.M.kd X.M.nC 0 l = false ∨ d < 0 ∨ 1000000 < d) → ∀ w', Below w.heap.size w w' → R (.returned (.int .i64 3)) w')
    (ok : fitsL X.M.rl X.M.kd X.M.nC 0 l = true → 0 ≤ d ∧ d ≤ 1000000 → ∀ w' q' dn ov', runM X.M w d (layL X.M.rl X.M.kd X.M.nC 0 l C) = (q', dn, 0) → DSt X 0 q'.C ov' dn w' → Twain X.bm X.bc w.heap.size w w' →
      w'.ownsRow w.heap.size 3 1 ov' (outsL X.M.rl q'.C X.M.nC).length (i64L (outsL X.M.rl q'.C X.M.nC)) → R (.returned (.int .i64 0)) w')
    (err : fitsL X.M.rl X.M.kd X.M.nC 0 l = true → 0 ≤ d ∧ d ≤ 1000000 → ∀ w' q' dn e C', runM X.M w d (layL X.M.rl X.M.kd X.M.nC 0 l C) = (q', dn, e) → e ≠ 0 → DSt X e C' ov dn w' → Twain X.bm X.bc w.heap.size w w' → R (.returned (.int .i64 e)) w') :
    Calls Tryz.prog 23 #[.pointer (some ⟨X.bm, 0, none⟩), v, .int .i64 d] w R := by
  obtain ⟨dl, sv, rv, hr⟩ := h.row
  have c0 : w.cell? ⟨X.bm, 0, none⟩ = some (.pointer (some ⟨X.bx, 0, none⟩)) := hr.cell (i := 0) (by omega)
  have c1 : w.cell? ⟨X.bm, 1, none⟩ = some (.slice (some ⟨X.bc, 0, none⟩) X.M.nC X.M.nC) := hr.cell (i := 1) (by omega)
  have c3 : w.cell? ⟨X.bm, 3, none⟩ = some (.int .i64 0) := hr.cell (i := 3) (by omega)
  have x0 : w.cell? ⟨X.bx, 0, none⟩ = some (.slice X.acc X.M.nC X.capc) := h.blk.cell rfl
  have lbm := hr.lt
  have lbx := h.blk.lt
  have lbc := h.cel.lt
  have hnC := hX.nC
  obtain ⟨hmc, hxm, hxc, _, _⟩ := h.ne
  replace h := hd h
  replace hv := hd hv
  replace bad := hd bad
  replace ok := hd ok
  replace err := hd err
  replace hkw := hd hkw
  replace hr := hd hr
  go_enter Tryz.func23, Tryz.ntmps23
  go_wp2
  go_loopw [7, 8] (fun at_ i wr => ∃ (k : Nat), k ≤ X.M.nC ∧ i = .int .i64 k ∧ wr.ownsRow w.heap.size 3 1 at_ (atF X.M.rl k 0).length (natV (atF X.M.rl k 0)) ∧ Below w.heap.size w wr) (fun _ i _ => X.M.nC - (intOf i).toNat)
  case atStart => exact ⟨0, by omega, rfl, World.ownsRow_nil _ _ _ _, Below.refl _ _⟩
  case round =>
    rename_i u7 u8
    obtain ⟨k, hk0, rfl, hown, hbel⟩ := hrel
    obtain ⟨ao, cp, rfl⟩ := own_sl hown
    have hlen := atF_len (rl := X.M.rl) k 0
    have d0 : wr.cell? ⟨X.bm, 0, none⟩ = some (.pointer (some ⟨X.bx, 0, none⟩)) := (hbel.cell (p := ⟨X.bm, 0, none⟩) lbm).trans c0
    have y0 : wr.cell? ⟨X.bx, 0, none⟩ = some (.slice X.acc X.M.nC X.capc) := (hbel.cell (p := ⟨X.bx, 0, none⟩) lbx).trans x0
    have hwr := hbel.size
    by_cases hlt : k < X.M.nC
    · obtain ⟨bk, hacc, htk⟩ := h.out.kinds (by omega)
      rw [hacc] at y0
      have htr := htk.of_block (w' := wr) (hbel.block bk htk.lt)
      have k0 := htr.cell0 hlt (by omega)
      rw [kindA_0] at k0
      have hbk := htr.lt
      have j0 : (0 : Int) ≤ (k : Int) ∧ (k : Int) < (X.M.nC : Int) := by omega
      clear htr htk
      replace hbel := hd hbel
      have hsn := atF_snoc (rl := X.M.rl) k 0
      rw [Nat.zero_add] at hsn
      by_cases h1 : X.M.rl k = 0
      · have t1 : ((X.M.rl k : Int) == 0) = true := by simp [h1]
        rw [if_pos h1] at hsn
        replace hsn := hd hsn
        replace h1 := hd h1
        replace hown := hd hown
        go_wp2_with (first | (at_builtin; refine wpList_app _ rfl _ _ 42 rfl w.heap.size 3 _ 1 8 ulInt infoI64 rfl (by decide) _ _ _ rfl (by exact hown.out.alloc _) _ 1 1 [.int .i64 (k : Int)] rfl (by exact alloc_at (by simp)) rfl (oneI64 _) (by unfold maxLen; omega) (by omega) (by simp; omega) ?_; intro v1 w1 hown1 hgr1; obtain ⟨ao1, cp1, rfl⟩ := own_sl hown1; replace hown1 := hd hown1; replace hgr1 := hd hgr1))
        refine ⟨⟨k + 1, by omega, by go_num, ?_, ?_⟩, by simp [intOf]; omega⟩
        · rw [hsn.out]
          have := hown1.out
          simpa [natV] using this
        · exact (hbel.out.alloc hwr _).grown hgr1.out (by simp; omega) (fun k hk => (hown.out.lt k hk).1)
      · have t1 : ((X.M.rl k : Int) == 0) = false := by simp; omega
        rw [if_neg h1, List.append_nil] at hsn
        replace hsn := hd hsn
        replace hown := hd hown
        go_wp2
        exact ⟨⟨k + 1, by omega, by go_num, by rw [hsn.out]; exact hown.out, hbel.out⟩, by simp [intOf]; omega⟩
    · have hkn : k = X.M.nC := by omega
      subst hkn
      clear hlt hk0
      have hfits := hd (fits_two (rl := X.M.rl) (kd := X.M.kd) X.M.nC 0 l)
      have hatm := hd (fun a (ha : a ∈ atF X.M.rl X.M.nC 0) => (atF_mem (rl := X.M.rl) X.M.nC 0 a ha).2)
      have hlay := hd (lay_two (rl := X.M.rl) (kd := X.M.kd) X.M.nC 0 l C)
      generalize atF X.M.rl X.M.nC 0 = A at *
      have hvr := hd (hv.out.below hbel)
      replace hown := hd hown
      replace hbel := hd hbel
      obtain ⟨va, vcap, rfl, hvc, hvcs⟩ := id hv.out
      rename World => wo
      have hlenA : A.length ≤ 100 := by omega
      by_cases hll : l.length = A.length
      · have tl : ((l.length : Int) != (A.length : Int)) = false := by simp; omega
        by_cases d1 : d < 0
        · have t1 : decide (d < 0) = true := by simpa using d1
          go_wp2
          exact cl1 (bad.out (.inr (.inl d1)) _ hbel.out) rfl
        · have t1 : decide (d < 0) = false := by simpa using d1
          by_cases d2 : 1000000 < d
          · have t2 : decide (1000000 < d) = true := by simpa using d2
            go_wp2
            exact cl1 (bad.out (.inr (.inr d2)) _ hbel.out) rfl
          · have t2 : decide (1000000 < d) = false := by simpa using d2
            have dcell : 0 < A.length → ∃ ga, ao = some ⟨ga, 0, none⟩ ∧ A.length ≤ cp ∧ w.heap.size ≤ ga ∧ ga < wo.heap.size ∧ ∀ (j a : Nat), A[j]? = some a → wo.cell? ⟨ga, j, none⟩ = some (.int .i64 (a : Int)) := fun h0 => by
              obtain ⟨ga, cq, e, e1, e2, e3, _, e5⟩ := own_one hown.out h0
              injection e with e _ e'
              subst e e'
              refine ⟨ga, rfl, e1, e2, e3, fun j a hj => ?_⟩
              have hjl := (List.getElem?_eq_some_iff.1 hj).1
              rw [e5 j hjl]; exact natV_at hj
            have vcell : 0 < l.length → ∃ g o, va = some ⟨g, o, none⟩ ∧ g ≠ X.bc ∧ g < w.heap.size ∧ ∀ (j : Nat) (x : Int), l[j]? = some x → w.cell? ⟨g, o + j, none⟩ = some (.int .i64 x) := fun h0 => by
              rcases hvcs with ⟨g, o, e1, e2, e3⟩ | e
              · obtain ⟨x, hx⟩ : ∃ x, l[0]? = some x := ⟨_, List.getElem?_eq_getElem h0⟩
                exact ⟨g, o, e1, e2, World.block_lt_of_cell? _ _ (e3 0 x hx), e3⟩
              · rw [e] at h0; simp at h0
            have hwo := hbel.out.size
            replace dcell := hd dcell
            replace vcell := hd vcell
            clear hvcs
            go_wp2
            go_loopw [9] (fun i wr2 => ∃ j : Nat, j ≤ A.length ∧ i = .int .i64 j ∧ Below wo.heap.size wo wr2 ∧ ∀ (t a : Nat) (x : Int), t < j → A[t]? = some a → l[t]? = some x → layK (X.M.kd a) x = x) (fun i _ => A.length - (intOf i).toNat)
            case atStart => exact ⟨0, by omega, rfl, Below.refl _ _, fun t a x ht => by omega⟩
            case round =>
              obtain ⟨j, hj, rfl, hb2, hall⟩ := hrel
              by_cases hjl : j < A.length
              · obtain ⟨a, ha⟩ : ∃ a, A[j]? = some a := ⟨_, List.getElem?_eq_getElem hjl⟩
                obtain ⟨x, hx⟩ : ∃ x, l[j]? = some x := ⟨_, List.getElem?_eq_getElem (by omega)⟩
                have haC : a < X.M.nC := by have := hatm.out a (List.mem_of_getElem? ha); omega
                obtain ⟨ga, rfl, hac, hga, hgl, hgc⟩ := dcell.out (by omega)
                obtain ⟨g, o, rfl, hgne, hgw, hvx⟩ := vcell.out (by omega)
                have e1 : wr.cell? ⟨ga, j, none⟩ = some (.int .i64 (a : Int)) := (hb2.cell (p := ⟨ga, j, none⟩) hgl).trans (hgc j a ha)
                have e2 : wr.cell? ⟨g, o + j, none⟩ = some (.int .i64 x) := (hb2.cell (p := ⟨g, o + j, none⟩) (Nat.lt_of_lt_of_le hgw hwo)).trans ((hbel.out.cell (p := ⟨g, o + j, none⟩) hgw).trans (hvx j x hx))
                have d0 : wr.cell? ⟨X.bm, 0, none⟩ = some (.pointer (some ⟨X.bx, 0, none⟩)) := (hb2.cell (p := ⟨X.bm, 0, none⟩) (Nat.lt_of_lt_of_le lbm hwo)).trans ((hbel.out.cell (p := ⟨X.bm, 0, none⟩) lbm).trans c0)
                have y0 : wr.cell? ⟨X.bx, 0, none⟩ = some (.slice X.acc X.M.nC X.capc) := (hb2.cell (p := ⟨X.bx, 0, none⟩) (Nat.lt_of_lt_of_le lbx hwo)).trans ((hbel.out.cell (p := ⟨X.bx, 0, none⟩) lbx).trans x0)
                obtain ⟨bk, hacc, htk⟩ := h.out.kinds (by omega)
                rw [hacc] at y0
                have kk := htk.cell haC (f := 1) (by omega)
                rw [kindA_1] at kk
                have kk2 : wr.cell? ⟨bk, a * 2 + 1, none⟩ = some (.int .i64 (X.M.kd a : Int)) := (hb2.cell (p := ⟨bk, a * 2 + 1, none⟩) (Nat.lt_of_lt_of_le htk.lt hwo)).trans ((hbel.out.cell (p := ⟨bk, a * 2 + 1, none⟩) htk.lt).trans kk)
                have hkd := hX.kd a
                have j0 : (0 : Int) ≤ (j : Int) ∧ (j : Int) < (A.length : Int) := by omega
                have j1 : (0 : Int) ≤ (j : Int) ∧ (j : Int) < (l.length : Int) := by omega
                have j2 : (0 : Int) ≤ (a : Int) ∧ (a : Int) < (X.M.nC : Int) := by omega
                clear htk kk hgc hvx
                replace hb2 := hd hb2
                replace hall := hd hall
                by_cases hf : layK (X.M.kd a) x = x
                · have tf : (layK (X.M.kd a) x != x) = false := by simpa using hf
                  go_wp2_with (fail)
                  go_quiet (first | (go_at_call 47; exact Calls.quiet_of_same (rlay_any _ _ (X.M.kd a) hkd _ ⟨rfl, rfl⟩)))
                  go_wp2
                  refine ⟨⟨j + 1, by omega, by go_num, below_drewN hb2.out _, fun t a' x' ht h1 h2 => ?_⟩, by simp [intOf]; omega⟩
                  by_cases htj : t = j
                  · subst htj
                    rw [ha] at h1
                    rw [hx] at h2
                    injection h1 with h1
                    injection h2 with h2
                    subst h1 h2
                    exact hf
                  · exact hall.out t a' x' (by omega) h1 h2
                · have tf : (layK (X.M.kd a) x != x) = true := by simpa using hf
                  go_wp2_with (fail)
                  go_quiet (first | (go_at_call 47; exact Calls.quiet_of_same (rlay_any _ _ (X.M.kd a) hkd _ ⟨rfl, rfl⟩)))
                  go_wp2
                  refine cl1 (bad.out (.inl ?_) _ (below_drewN (hbel.out.trans (hb2.out.mono hwo)) _)) rfl
                  rw [hfits.out]
                  cases hq : fits2 X.M.kd A l with
                  | false => rfl
                  | true => exact absurd ((fits2_iff A l hll.symm).1 hq j a x ha hx) hf
              · have hja : j = A.length := by omega
                subst hja
                have hft : fitsL X.M.rl X.M.kd X.M.nC 0 l = true := by
                  rw [hfits.out, fits2_iff A l hll.symm]
                  intro t a x h1 h2
                  exact hall t a x (List.getElem?_eq_some_iff.1 h1).1 h1 h2
                rename World => wb
                have hbw := hd (hbel.out.trans (hb2.mono hwo))
                have hwb := hb2.size
                replace hft := hd hft
                replace hb2 := hd hb2
                clear hall hjl hj
                go_wp2
                go_loopw [10] (fun i wr3 => ∃ j : Nat, j ≤ A.length ∧ i = .int .i64 j ∧ Only X.bc wb wr3 ∧ Tab wr3 X.bc 3 1 X.M.nC X.M.nC (cintV (lay2 (A.take j) (l.take j) C))) (fun i _ => A.length - (intOf i).toNat)
                case atStart => exact ⟨0, by omega, rfl, Only.refl _ _, by simpa [lay2] using h.out.cel.of_block (hbw.out.block _ lbc)⟩
                case round =>
                  obtain ⟨j, hj, rfl, honly, htab⟩ := hrel
                  have hwc := honly.size
                  by_cases hjl : j < A.length
                  · obtain ⟨a, ha⟩ : ∃ a, A[j]? = some a := ⟨_, List.getElem?_eq_getElem hjl⟩
                    obtain ⟨x, hx⟩ : ∃ x, l[j]? = some x := ⟨_, List.getElem?_eq_getElem (by omega)⟩
                    have haC : a < X.M.nC := by have := hatm.out a (List.mem_of_getElem? ha); omega
                    obtain ⟨ga, rfl, hac, hga, hgl, hgc⟩ := dcell.out (by omega)
                    obtain ⟨g, o, rfl, hgne, hgw, hvx⟩ := vcell.out (by omega)
                    have e1 : wr.cell? ⟨ga, j, none⟩ = some (.int .i64 (a : Int)) := (honly.cell (p := ⟨ga, j, none⟩) (Nat.lt_of_lt_of_le hgl hwb) (by show ga ≠ X.bc; omega)).trans ((hb2.out.cell (p := ⟨ga, j, none⟩) hgl).trans (hgc j a ha))
                    have e2 : wr.cell? ⟨g, o + j, none⟩ = some (.int .i64 x) := (honly.cell (p := ⟨g, o + j, none⟩) (Nat.lt_of_lt_of_le hgw (Nat.le_trans hwo hwb)) hgne).trans ((hbw.out.cell (p := ⟨g, o + j, none⟩) hgw).trans (hvx j x hx))
                    have d1' : wr.cell? ⟨X.bm, 1, none⟩ = some (.slice (some ⟨X.bc, 0, none⟩) X.M.nC X.M.nC) := (honly.cell (p := ⟨X.bm, 1, none⟩) (Nat.lt_of_lt_of_le lbm (Nat.le_trans hwo hwb)) hmc).trans ((hbw.out.cell (p := ⟨X.bm, 1, none⟩) lbm).trans c1)
                    have kc := htab.int haC
                    have kf := htab.frozen a
                    have lbc2 := htab.lt
                    have j0 : (0 : Int) ≤ (j : Int) ∧ (j : Int) < (A.length : Int) := by omega
                    have j1 : (0 : Int) ≤ (j : Int) ∧ (j : Int) < (l.length : Int) := by omega
                    have j2 : (0 : Int) ≤ (a : Int) ∧ (a : Int) < (X.M.nC : Int) := by omega
                    have htn : Tab (wr.setCell ⟨X.bc, a, none⟩ (.int .i64 x)) X.bc 3 1 X.M.nC X.M.nC (cintV (lay2 (A.take (j + 1)) (l.take (j + 1)) C)) := by
                      have h1 := htab.set a 0 (by omega) (.int .i64 x)
                      rw [Nat.mul_one, Nat.add_zero] at h1
                      refine h1.congr (fun t _ f hf => ?_)
                      have hf0 : f = 0 := by omega
                      subst hf0
                      rw [lay2_snoc A l j a x C ha hx]
                      by_cases e : t = a <;> simp [cintV, upd, e]
                    replace htn := hd htn
                    replace honly := hd honly
                    clear hgc hvx htab
                    go_wp2_with (fail)
                    go_region
                    go_wp2
                    exact ⟨⟨j + 1, by omega, by go_num, by first | exact honly.out.setCell (a := ⟨X.bc, a, none⟩) (.inl rfl) _ | exact (honly.out.setCell (a := ⟨X.bc, a, none⟩) (.inl rfl) _).drew, by first | exact htn.out | exact htn.out.drew⟩, by simp [intOf]; omega⟩
                  · have hja : j = A.length := by omega
                    subst hja
                    rename World => wc
                    rw [List.take_of_length_le (Nat.le_refl _), List.take_of_length_le (by omega), ← hlay.out hft.out] at htab
                    have hC2 : ∀ t, in32 (layL X.M.rl X.M.kd X.M.nC 0 l C t) := layL_in _ _ _ _ h.out.hC
                    have hrun : runM X.M w d (layL X.M.rl X.M.kd X.M.nC 0 l C) = runK (rcOf (X.at_ w ov d) w) 300000 ⟨layL X.M.rl X.M.kd X.M.nC 0 l C, [], 0, false⟩ [] 0 := rfl
                    have okk := hd (ok.out hft.out ⟨by omega, by omega⟩)
                    have err2 := hd (err.out hft.out ⟨by omega, by omega⟩)
                    rw [hrun] at okk err2
                    have hDk := h.out.ok hX (d := d) ⟨by omega, by omega⟩
                    have hrc : wc.rowIs X.bm 67 8 (docG X.bx X.bc X.M.nC ov 0 dl sv rv dn0) := (hr.out.of_block (hbw.out.block _ lbm)).of_block (honly.block _ (by omega) hmc)
                    have f7 := hrc.frozen 7
                    have f4 := hrc.frozen 4
                    have f5 := hrc.frozen 5
                    have f6 := hrc.frozen 6
                    have q7 := hrc.cell (i := 7) (by omega)
                    have q4 := hrc.cell (i := 4) (by omega)
                    have q5 := hrc.cell (i := 5) (by omega)
                    have q6 := hrc.cell (i := 6) (by omega)
                    have lw2 := hrc.lt
                    generalize layL X.M.rl X.M.kd X.M.nC 0 l C = C2 at *
                    have hDS : DS (X.at_ w ov d) 0 C2 [] [] ((((wc.setCell ⟨X.bm, 7, none⟩ (.int .i64 d)).setCell ⟨X.bm, 4, none⟩ (.int .i64 0)).setCell ⟨X.bm, 5, none⟩ (.slice none 0 0)).setCell ⟨X.bm, 6, none⟩ (.slice none 0 0)) := by
                      refine ⟨⟨.slice none 0 0, .slice none 0 0, ⟨?_, ?_, ?_⟩, World.ownsRow_nil _ _ _ _, World.ownsRow_nil _ _ _ _, .inl rfl⟩, hC2, fun x hx => by cases hx⟩
                      · refine ⟨honly.os.trans hbw.out.os, honly.tape.trans hbw.out.tape, honly.output.trans hbw.out.output, ?_, fun k hk h1 h2 => ?_⟩
                        · have := hbw.out.size
                          show w.heap.size ≤ _
                          simp; omega
                        · have hk : k < w.heap.size := hk
                          have h1 : k ≠ X.bm := h1
                          rw [Below.heap_setCell _ _ _ _ h1, Below.heap_setCell _ _ _ _ h1, Below.heap_setCell _ _ _ _ h1, Below.heap_setCell _ _ _ _ h1, honly.block k (by omega) h2]
                          exact hbw.out.block k hk
                      · refine ((((hrc.set 7 _).set 4 _).set 5 _).set 6 _).congr (fun t ht => ?_)
                        have : t = 0 ∨ t = 1 ∨ t = 2 ∨ t = 3 ∨ t = 4 ∨ t = 5 ∨ t = 6 ∨ t = 7 := by omega
                        rcases this with rfl | rfl | rfl | rfl | rfl | rfl | rfl | rfl <;> rfl
                      · exact (((htab.setOther (Ne.symm hmc) _).setOther (Ne.symm hmc) _).setOther (Ne.symm hmc) _).setOther (Ne.symm hmc) _
                    have hkk : KW (rcOf (X.at_ w ov d) w) To X.M.bd H L := hkw.out w 0 0 0 nmT (fun _ => undef) d
                    have hst := hkk.w.start
                    have hgi : GI (rcOf (X.at_ w ov d) w) X.M.bd H L ⟨C2, [], 0, false⟩ [] 0 := ⟨fun _ => ⟨0, [], rfl, hst.1, rfl, by rw [hkk.w.k.h0]; rfl, by rw [hst.2]; omega⟩, (fun h => (by cases h)), by omega⟩
                    replace hDS := hd hDS
                    replace hgi := hd hgi
                    replace hkk := hd hkk
                    replace hDk := hd hDk
                    clear hrc honly htab hlay hfits hatm dcell vcell hown hbel hb2 hrun hst ok err bad hv hkw hvr
                    have hZ : ∃ Z, runK (rcOf (X.at_ w ov d) w) 300000 ⟨C2, [], 0, false⟩ [] 0 = Z := ⟨_, rfl⟩
                    obtain ⟨Z, hZ⟩ := hZ
                    rw [hZ] at okk err2
                    replace hZ := hd hZ
                    go_wp2
                    go_loopg [11] 200001 (fun gk i wr4 => ∃ (q : Sc) (S : List Int) (dn : Nat), gk + dn = 200001 ∧ i = .int .i64 q.nx ∧ q.ov = false ∧ DS (X.at_ w ov d) dn q.C q.Lf S wr4 ∧ GI (rcOf (X.at_ w ov d) w) X.M.bd H L q S dn ∧ Z = runK (rcOf (X.at_ w ov d) w) (300000 - dn) q S dn)
                    case atStart => exact ⟨⟨C2, [], 0, false⟩, [], 0, rfl, rfl, rfl, hDS.out, hgi.out, hZ.out.symm⟩
                    case round =>
                      obtain ⟨⟨qC, qL, qn, qo⟩, S, dn, hgk, rfl, hov, hds, hg, hz⟩ := hrel
                      obtain ⟨i, e1, e2, e3, e4, e5, e6, e7, e8⟩ := hg.side hkk.out hov
                      have hst := hg.step hkk.out hov
                      simp only at e1 hov hds
                      subst e1 hov
                      have e2 : i < X.M.n := e2
                      have e3 : X.M.op i < 22 := e3
                      have hn8 := hX.n
                      obtain ⟨sv4, rv4, hm4, _, _, _⟩ := hds.ex
                      have p0 : wr.cell? ⟨X.bm, 0, none⟩ = some (.pointer (some ⟨X.bx, 0, none⟩)) := hm4.c0
                      have p4 : wr.cell? ⟨X.bm, 4, none⟩ = some (.int .i64 (dn : Int)) := hm4.c4
                      have pf : wr.frozen? ⟨X.bm, 4, none⟩ = false := hm4.row.frozen 4
                      have px : wr.cell? ⟨X.bx, 1, none⟩ = some (.slice (some ⟨X.bd, 0, none⟩) X.M.n X.capD) := (hm4.img hDk.out).2
                      have pc : wr.cell? ⟨X.bd, i * 6 + 1, none⟩ = some (.int .i64 (X.M.op i : Int)) := (six_codeA (hm4.code hDk.out) e2).2.1
                      have l4 : X.bm < wr.heap.size := hm4.row.lt
                      have lx4 := World.block_lt_of_cell? _ _ px
                      have ld4 := World.block_lt_of_cell? _ _ pc
                      have j0 : (0 : Int) ≤ (i : Int) ∧ (i : Int) < (X.M.n : Int) := by omega
                      have hds6 := hds.setDn hDk.out ((dn : Int) + 1)
                      have jd : IntKind.i64.wrap ((dn : Int) + 1) = (dn : Int) + 1 := IntWalk.i64_in _ (by omega)
                      clear hm4
                      replace hds := hd hds
                      replace hg := hd hg
                      replace hst := hd hst
                      replace hz := hd hz
                      by_cases h0 : X.M.op i = 0
                      · have es := stepK_at (D := X.at_ w ov d) (w0 := w) (q := ⟨qC, qL, (i : Int), false⟩) (S := S) (i := i) rfl
                        have ho : (X.at_ w ov d).M.op i = 0 := h0
                        have e0 : stepK (rcOf (X.at_ w ov d) w) ⟨qC, qL, (i : Int), false⟩ S = (⟨qC, qL, (i : Int) + 1, true⟩, S, 0) := by
                          rw [es, ho]; simp [doesV, popsOf, pushesOf, pushS]
                        have hz2 : Z = (⟨qC, qL, (i : Int) + 1, true⟩, (dn : Int) + 1, 0) := by
                          rw [hz.out, runK_on _ _ _ _ _ rfl (by rw [e0]) (by omega), e0, runK_done _ _ _ _ _ rfl]
                        rw [h0] at pc
                        obtain ⟨sv6, rv6, hm6, hs6, hr6, ha6⟩ := hds6.ex
                        have hcel6 := hm6.cel
                        have hk6 := hd (fun h0 => hm6.kinds hDk.out h0)
                        have z0 := hm6.c0
                        have z1 := hm6.c1
                        have zx := (hm6.img hDk.out).1
                        have hC6 := hds6.hC
                        replace hm6 := hd hm6
                        replace hds6 := hd hds6
                        replace hz2 := hd hz2
                        clear es e0 hz hs6 hr6 ha6
                        go_wp2_with (fail)
                        refine rrole_any _ X.bm X.bx X.bc X.M.nC X.capc X.acc X.M.rl X.M.kd qC hnC hC6 z0 z1 zx hk6.out hcel6 _ ?_
                        intro v7 w7 hb7 hown7
                        obtain ⟨ao7, cp7, rfl⟩ := own_sl hown7
                        have hm7 := hm6.out.below hDk.out ⟨hb7.os, hb7.tape, hb7.output, hb7.size, fun k hk => hb7.block k (Nat.lt_of_lt_of_le hk hm6.out.fr.size)⟩
                        have y2 : w7.cell? ⟨X.bm, 2, none⟩ = some ov := hm7.c2
                        have yf : w7.frozen? ⟨X.bm, 2, none⟩ = false := hm7.row.frozen 2
                        have l7 : X.bm < w7.heap.size := hm7.row.lt
                        have hsz7 := hd (show w.heap.size ≤ (wr.setCell ⟨X.bm, 4, none⟩ (.int .i64 ((dn : Int) + 1))).heap.size from hm6.out.fr.size)
                        replace hm7 := hd hm7
                        replace hown7 := hd hown7
                        clear hb7 z0 z1 zx hcel6
                        go_wp2
                        have hfr : Twain X.bm X.bc w.heap.size w (w7.setCell ⟨X.bm, 2, none⟩ (.slice ao7 (outsL X.M.rl qC X.M.nC).length cp7)) := by
                          have f := hm7.out.fr
                          refine ⟨f.os, f.tape, f.output, by rw [World.size_setCell]; exact f.size, fun k hk h1 h2 => ?_⟩
                          rw [Below.heap_setCell _ _ _ _ h1]; exact f.block k hk h1 h2
                        refine cl1 (okk.out _ ⟨qC, qL, (i : Int) + 1, true⟩ ((dn : Int) + 1) (.slice ao7 (outsL X.M.rl qC X.M.nC).length cp7) hz2.out (h.out.twain hfr ⟨d, sv6, rv6, ?_⟩ (hm7.out.cel.setOther (Ne.symm hmc) _) hC6) hfr ?_) rfl
                        · refine (hm7.out.row.set 2 _).congr (fun t ht => ?_)
                          have : t = 0 ∨ t = 1 ∨ t = 2 ∨ t = 3 ∨ t = 4 ∨ t = 5 ∨ t = 6 ∨ t = 7 := by omega
                          rcases this with rfl | rfl | rfl | rfl | rfl | rfl | rfl | rfl <;> rfl
                        · exact own_set (own_base hown7.out hsz7.out) (a := ⟨X.bm, 2, none⟩) lbm _
                      · have tn : ((X.M.op i : Int) == 0) = false := by simp; omega
                        replace hds6 := hd hds6
                        go_wp2_with (fail)
                        refine rstep_any hDk.out w (q := ⟨qC, qL, (i : Int), false⟩) hds6.out i e2 rfl h0 e3 e4 e5 e6 _ ?_ ?_
                        · intro he w7 hw7
                          have hz3 := hd (hz.out.trans (runK_on _ _ _ _ _ rfl he (by omega)))
                          have hov7 : (stepK (rcOf (X.at_ w ov d) w) ⟨qC, qL, (i : Int), false⟩ S).1.ov = false := step_ov (K := rcOf (X.at_ w ov d) w) h0
                          generalize stepK (rcOf (X.at_ w ov d) w) ⟨qC, qL, (i : Int), false⟩ S = sk at *
                          obtain ⟨q2, S2, e'⟩ := sk
                          replace hw7 := hd hw7
                          clear hz hds hds6
                          go_wp2
                          go_roundg (gk - 1)
                          case measure => omega
                          case rel => exact ⟨q2, S2, dn + 1, by omega, rfl, hov7, by have := hw7.out; simpa using this, by have := hst.out; simpa using this, by have := hz3.out; rw [this]; simp [Nat.sub_sub]⟩
                        · intro he w7 S7 hw7
                          have hz3 := hd (hz.out.trans (runK_err _ _ _ _ _ rfl he (by omega)))
                          obtain ⟨sv7, rv7, hm7, _, _, _⟩ := hw7.ex
                          have hC7 := hw7.hC
                          have y3 : w7.cell? ⟨X.bm, 3, none⟩ = some (.int .i64 0) := hm7.c3
                          have yf : w7.frozen? ⟨X.bm, 3, none⟩ = false := hm7.row.frozen 3
                          have l7 : X.bm < w7.heap.size := hm7.row.lt
                          generalize stepK (rcOf (X.at_ w ov d) w) ⟨qC, qL, (i : Int), false⟩ S = sk at *
                          obtain ⟨q2, S2, e'⟩ := sk
                          have he' : e' ≠ 0 := he
                          have te : (e' != 0) = true := by simpa using he'
                          replace hm7 := hd hm7
                          clear hz hds hds6 hw7
                          go_wp2
                          have hfr : Twain X.bm X.bc w.heap.size w (w7.setCell ⟨X.bm, 3, none⟩ (.int .i64 e')) := by
                            have f := hm7.out.fr
                            refine ⟨f.os, f.tape, f.output, by rw [World.size_setCell]; exact f.size, fun k hk h1 h2 => ?_⟩
                            rw [Below.heap_setCell _ _ _ _ h1]; exact f.block k hk h1 h2
                          refine cl1 (err2.out _ q2 ((dn : Int) + 1) e' qC hz3.out he' (h.out.twain hfr ⟨d, sv7, rv7, ?_⟩ (hm7.out.cel.setOther (Ne.symm hmc) _) hC7) hfr) rfl
                          refine (hm7.out.row.set 3 _).congr (fun t ht => ?_)
                          have : t = 0 ∨ t = 1 ∨ t = 2 ∨ t = 3 ∨ t = 4 ∨ t = 5 ∨ t = 6 ∨ t = 7 := by omega
                          rcases this with rfl | rfl | rfl | rfl | rfl | rfl | rfl | rfl <;> rfl
      · have tl : ((l.length : Int) != (A.length : Int)) = true := by simp; omega
        go_wp2
        refine cl1 (bad.out (.inl ?_) _ hbel.out) rfl
        rw [hfits.out]
        cases hq : fits2 X.M.kd A l with
        | false => rfl
        | true => exact absurd (fits2_len A l hq).symm hll

end Go.Proofs.YtidhiaaicmfabaaGreat

/- What of an image the document's machine stands on (seats .Z, .ZD alone). -/
namespace Go.Proofs.YtidhiaaicmfabaaGreat
open Go.RowKit Go.Proofs Go.Deep

theorem s32_in (s : ByteArray) (a : Nat) : in32 (s32 s a) := by
  have := b32_le s a
  unfold s32 in32
  split <;> omega
theorem nL_in (c : ByteArray) (l : List Nat) (i : Nat) : in32 (nL c l i) := by
  have h1 := b16_le c (atL l i + 1)
  have h2 := bt_le c (atL l i + 2)
  unfold nL insN
  split
  · exact s32_in _ _
  · split
    · unfold in32; omega
    · split
      · unfold in32; omega
      · split <;> (unfold in32; omega)
theorem one_toNat {z : Int} (h : 1 ≤ z.toNat) : 1 ≤ z := by omega
theorem lt_toNat {z : Int} {j : Nat} (h : (j : Int) < z) : j < z.toNat := by omega
theorem mod3_of {a b : Nat} (h : ((a % 3 : Nat) : Int) = ((b % 3 : Nat) : Int)) : a % 3 = b % 3 := by omega
theorem kw_facts {OP AT : Nat → Nat} {AR CN : Nat → Int} {RL KD : Nat → Nat} {nC n cap bs bx : Nat} {To' : Nat → Int} {bd : Int} {w0 : World} {br bc base : Nat} {nm : Nat → ByteArray} {fv : Nat → Value} {d : Int} {To : Nat → Nat} {H L : Nat → Int}
    (k : KW (mkK (mdFull OP AT AR CN RL KD nC n cap bs bx To' bd) w0 br bc base nm fv d) To bd H L) : n ≤ 8000 ∧ (∀ i, i < n → (OP i = 17 ∨ OP i = 18) → To' i = (To i : Int)) ∧ (∀ i, i < n → OP i = 20 → inOf OP i = (To i : Int)) := ⟨k.n, k.to_, k.lp⟩
theorem dx_mk {OP AT : Nat → Nat} {AR CN : Nat → Int} {RL KD : Nat → Nat} {nC n cap bs bx : Nat} {To' : Nat → Int} {bd : Int} {bm bx' b capD bc capc : Nat} {acc : Option Addr} {c : Nat → Nat} {N To inn : Nat → Int} (f1 : n ≤ 8000) (f2 : nC ≤ 100) (f3 : ∀ i, KD i ≤ 2)
    (a1 : ∀ i, i < n → (OP i = 1 ∨ OP i = 19) → AR i = N i) (ac : ∀ i, i < n → (OP i = 2 ∨ OP i = 3 ∨ OP i = 4 ∨ OP i = 5 ∨ OP i = 21) → AR i = (c i : Int)) (an : ∀ i, i < n → (OP i = 4 ∨ OP i = 5) → CN i = N i ∧ ∀ k : Nat, (k : Int) < N i → KD (c i + k) = KD (c i))
    (at_ : ∀ i, i < n → (OP i = 17 ∨ OP i = 18) → To' i = To i) (al : ∀ i, i < n → OP i = 20 → inOf OP i = To i) (hN : ∀ i, in32 (N i)) (n1 : ∀ i, i < n → (OP i = 4 ∨ OP i = 5) → 1 ≤ N i) :
    DxOk ⟨bm, bx', b, capD, bc, acc, capc, c, N, To, inn, mdFull OP AT AR CN RL KD nC n cap bs bx To' bd⟩ := ⟨f1, f2, f3, a1, ac, an, at_, al, hN, n1⟩
set_option maxHeartbeats 400000 in
theorem dx_ok (w0 : World) {s : ByteArray} {bd : Int} {l : List Nat} (hi : imgOk s bd) (hl : posF (codeOf s) ((codeOf s).size + 1) 0 = some l) {capM bsM bxM : Nat} {To' : Nat → Int} {H L : Nat → Int}
    (hkw : ∀ w0 br bc base nm fv d, KW (mkK (mdFull (opL (codeOf s) l) (atL l) (argL (codeOf s) l) (cntL (codeOf s) l) (fun i => bt s (7 + i) / 3) (fun i => bt s (7 + i) % 3) (bt s 6) l.length capM bsM bxM To' bd) w0 br bc base nm fv d) (toL (atL l) (opL (codeOf s) l) (nL (codeOf s) l) l.length) bd H L)
    {bm bx b cap bc capc : Nat} {acc : Option Addr} {To inn : Nat → Int} (hto : ∀ i, i < l.length → (isJump (opL (codeOf s) l i) ∨ opL (codeOf s) l i = 20) → To i = ((toL (atL l) (opL (codeOf s) l) (nL (codeOf s) l) l.length i : Nat) : Int)) :
    DxOk ⟨bm, bx, b, cap, bc, acc, capc, cL (codeOf s) l, nL (codeOf s) l, To, inn, mdFull (opL (codeOf s) l) (atL l) (argL (codeOf s) l) (cntL (codeOf s) l) (fun i => bt s (7 + i) / 3) (fun i => bt s (7 + i) % 3) (bt s 6) l.length capM bsM bxM To' bd⟩ := by
  have hh : hdrOk s := hi.1
  have hc : codeOk (rlOf s) (kdOf s) (bt s 6) (codeOf s) l bd := by
    obtain ⟨ps, hps, hc⟩ := hi.2.2.2
    have : some l = some ps := hl.symm.trans hps
    have e : l = ps := Option.some.inj this
    rw [e]; exact hc
  obtain ⟨f1, kt, kl⟩ := kw_facts (hkw w0 0 0 0 (fun _ => ⟨#[]⟩) (fun _ => undef) 0)
  have cells : ∀ i, i < l.length → (opL (codeOf s) l i = 4 ∨ opL (codeOf s) l i = 5) → CellOk (rlOf s) (kdOf s) (bt s 6) (opL (codeOf s) l i) (cL (codeOf s) l i) (nL (codeOf s) l i).toNat := fun i h1 h2 => (hc.2.1 i h1).1 (by omega)
  have hN4 : ∀ i, (opL (codeOf s) l i = 4 ∨ opL (codeOf s) l i = 5) → nL (codeOf s) l i = (bt (codeOf s) (atL l i + 2) : Int) := fun i h => by
    unfold opL at h
    unfold nL insN
    generalize atL l i = ai at *
    rcases h with h | h <;> simp [h]
  have a1 : ∀ i, i < l.length → (opL (codeOf s) l i = 1 ∨ opL (codeOf s) l i = 19) → argL (codeOf s) l i = nL (codeOf s) l i := fun i _ h => by
    unfold opL at h
    unfold argL vArg nL insN
    generalize atL l i = ai at *
    rcases h with h | h <;> simp [h]
  have ac : ∀ i, i < l.length → (opL (codeOf s) l i = 2 ∨ opL (codeOf s) l i = 3 ∨ opL (codeOf s) l i = 4 ∨ opL (codeOf s) l i = 5 ∨ opL (codeOf s) l i = 21) → argL (codeOf s) l i = (cL (codeOf s) l i : Int) := fun i _ h => by
    unfold opL at h
    unfold argL vArg cL insC
    generalize atL l i = ai at *
    rcases h with h | h | h | h | h <;> simp [h]
  have an : ∀ i, i < l.length → (opL (codeOf s) l i = 4 ∨ opL (codeOf s) l i = 5) → cntL (codeOf s) l i = nL (codeOf s) l i ∧ ∀ k : Nat, (k : Int) < nL (codeOf s) l i → bt s (7 + (cL (codeOf s) l i + k)) % 3 = bt s (7 + cL (codeOf s) l i) % 3 := fun i h1 h => by
    refine ⟨?_, fun j hj => ?_⟩
    · rw [hN4 i h]
      unfold opL at h
      unfold cntL vCnt
      rw [if_pos h]
    · exact mod3_of ((cells i h1 h).2.2.1 j (lt_toNat hj)).2
  have at_ : ∀ i, i < l.length → (opL (codeOf s) l i = 17 ∨ opL (codeOf s) l i = 18) → To' i = To i := fun i h1 h => by
    rw [kt i h1 h, hto i h1 (.inl h)]
  have al : ∀ i, i < l.length → opL (codeOf s) l i = 20 → inOf (opL (codeOf s) l) i = To i := fun i h1 h => by
    rw [kl i h1 h, hto i h1 (.inr h)]
  have n1 : ∀ i, i < l.length → (opL (codeOf s) l i = 4 ∨ opL (codeOf s) l i = 5) → 1 ≤ nL (codeOf s) l i := fun i h1 h => by
    exact one_toNat (cells i h1 h).1
  have f2 : bt s 6 ≤ 100 := hh.2.2.1
  have f3 : ∀ i, bt s (7 + i) % 3 ≤ 2 := fun i => Nat.le_of_lt_succ (Nat.mod_lt _ (by decide))
  exact dx_mk f1 f2 f3 a1 ac an at_ al (nL_in _ _) n1

end Go.Proofs.YtidhiaaicmfabaaGreat

/- The document's Load (seats .Z, .ZD alone). -/
namespace Go.Proofs.YtidhiaaicmfabaaGreat
open Go.RowKit Go.Proofs Go.Deep

theorem dst_mk {OP AT : Nat → Nat} {AR CN : Nat → Int} {RL KD : Nat → Nat} {nC n cap bs bx : Nat} {To' : Nat → Int} {bd : Int} {bm bx' b capD bc capc : Nat} {acc : Option Addr} {c : Nat → Nat} {N To inn : Nat → Int} {e dn : Int} {C : Nat → Int} {ov : Value} {w : World}
    (row : ∃ dl sv rv, w.rowIs bm 67 8 (docG bx' bc nC ov e dl sv rv dn)) (cel : Tab w bc 3 1 nC nC (cintV C)) (blk : Blk w bx' #[.slice acc nC capc, .slice (some ⟨b, 0, none⟩) n capD, .int .i64 bd] 65)
    (tab : Tab w b 109 6 n capD (codeA AT OP c N To inn)) (kinds : 0 < nC → ∃ bk, acc = some ⟨bk, 0, none⟩ ∧ Tab w bk 104 2 nC capc (kindA RL KD)) (hC : ∀ j, in32 (C j)) :
    DSt ⟨bm, bx', b, capD, bc, acc, capc, c, N, To, inn, mdFull OP AT AR CN RL KD nC n cap bs bx To' bd⟩ e C ov dn w := ⟨row, cel, blk, tab, kinds, hC⟩
theorem tab_of_row {w : World} {b T n : Nat} {f : Nat → Value} (h : w.rowIs b T n f) : Tab w b T 1 n n (fun i _ => f i) := by
  obtain ⟨c, h1, h2, h3⟩ := h
  refine ⟨c, h1, by rw [h2, Nat.mul_one], Nat.le_refl _, fun i hi g hg => ?_⟩
  have hg0 : g = 0 := by omega
  subst hg0
  rw [Nat.mul_one, Nat.add_zero]; exact h3 i hi
theorem flat_kind (s : ByteArray) : ∀ (n i f : Nat), i < n → f < 2 → ((List.range n).flatMap (cellC s))[i * 2 + f]? = some (kindA (fun i => bt s (7 + i) / 3) (fun i => bt s (7 + i) % 3) i f)
  | 0, i, f, hi, _ => by omega
  | n + 1, i, f, hi, hf => by
    have hlen : ((List.range n).flatMap (cellC s)).length = n * 2 := by
      clear hi
      induction n with
      | zero => rfl
      | succ n ih => rw [List.range_succ, List.flatMap_append, List.length_append, ih]; simp [cellC]; omega
    rw [List.range_succ, List.flatMap_append]
    by_cases e : i < n
    · rw [List.getElem?_append_left (by rw [hlen]; omega)]
      exact flat_kind s n i f e hf
    · have : i = n := by omega
      subst this
      rw [List.getElem?_append_right (by rw [hlen]; omega), hlen, show i * 2 + f - i * 2 = f by omega]
      have : f = 0 ∨ f = 1 := by omega
      rcases this with rfl | rfl <;> rfl
set_option maxRecDepth 100000 in
set_option maxHeartbeats 1000000 in
theorem rload_any (w : World) (s : ByteArray) (hs : s.size ≤ maxLen) (R : Ending → World → Prop)
    (bad : (∀ bd, ¬ imgOk s bd) → ∀ w', Below w.heap.size w w' → R (.returned (.tuple #[.pointer none, .int .i64 1])) w')
    (long : ∀ bd, imgOk s bd → 200000 < bd → ∀ w', Below w.heap.size w w' → R (.returned (.tuple #[.pointer none, .int .i64 2])) w')
    (good : ∀ bd l, imgOk s bd → bd ≤ 200000 → posF (codeOf s) ((codeOf s).size + 1) 0 = some l → ∀ w' ov bm bx b cap bc acc capc To, Below w.heap.size w w' → w.heap.size ≤ bm → w.heap.size ≤ bc →
      (∀ i, i < l.length → (isJump (opL (codeOf s) l i) ∨ opL (codeOf s) l i = 20) → To i = ((toL (atL l) (opL (codeOf s) l) (nL (codeOf s) l) l.length i : Nat) : Int)) →
      (∀ capM bsM bxM To', DSt ⟨bm, bx, b, cap, bc, acc, capc, cL (codeOf s) l, nL (codeOf s) l, To, inOf (opL (codeOf s) l), mdFull (opL (codeOf s) l) (atL l) (argL (codeOf s) l) (cntL (codeOf s) l) (fun i => bt s (7 + i) / 3) (fun i => bt s (7 + i) % 3) (bt s 6) l.length capM bsM bxM To' bd⟩ 0 (fun _ => 0) ov 0 w') →
      w'.ownsRow (bm + 1) 3 1 ov (outsL (fun i => bt s (7 + i) / 3) (fun _ => 0) (bt s 6)).length (i64L (outsL (fun i => bt s (7 + i) / 3) (fun _ => 0) (bt s 6))) → bc < bm →
      R (.returned (.tuple #[.pointer (some ⟨bm, 0, none⟩), .int .i64 0])) w') :
    Calls Tryz.prog 6 #[.string s] w R := by
  replace bad := hd bad
  replace long := hd long
  replace good := hd good
  go_enter Tryz.func6, Tryz.ntmps6
  go_wp2_with (fail)
  refine read_full _ s hs _ ?_ ?_ ?_
  · intro hno w1 hb1
    have hf := hd (bad.out hno w1 hb1)
    clear hb1 hno
    go_wp2
    exact cl1 hf.out rfl
  · intro bd hi hl w1 hb1
    have hf := hd (long.out bd hi hl w1 hb1)
    clear hb1 hi hl
    go_wp2
    exact cl1 hf.out rfl
  · intro bd l hi hle hl w1 bx b cap acc capc To hb1 hbx hbb himg
    have hg := hd (good.out bd l hi hle hl)
    have h100 := hi.1.2.2.1
    have x0 : w1.cell? ⟨bx, 0, none⟩ = some (.slice acc (bt s 6) capc) := himg.blk.cell rfl
    have lx := himg.blk.lt
    replace himg := hd himg
    replace hb1 := hd hb1
    clear hi hl bad long good
    have hkinds : 0 < bt s 6 → ∃ bk, acc = some ⟨bk, 0, none⟩ ∧ Tab w1 bk 104 2 (bt s 6) capc (kindA (fun i => bt s (7 + i) / 3) (fun i => bt s (7 + i) % 3)) := fun h0 => by
      obtain ⟨bk, cq, e, _, ht⟩ := own_tab himg.out.row h0 (fun i hi f hf => flat_kind s (bt s 6) i f hi hf)
      injection e with e1 _ e3
      subst e1 e3
      exact ⟨bk, rfl, ht⟩
    have hmk := run_make_row' (P := Tryz.prog) 42 3 (.int .i64 0) 8 ulInt infoI64 rfl .i64 .i64 (bt s 6) (by omega) (by omega)
    have hb1s := hb1.out.size
    have lb := himg.out.tab.lt
    replace hkinds := hd hkinds
    generalize hnC : bt s 6 = nC at *
    generalize hrl : (fun i => bt s (7 + i) / 3) = rl at *
    generalize hkd : (fun i => bt s (7 + i) % 3) = kd at *
    replace hnC := hd hnC
    replace hrl := hd hrl
    replace hkd := hd hkd
    have himgb : Blk w1 bx #[.slice acc nC capc, .slice (some ⟨b, 0, none⟩) l.length cap, .int .i64 bd] 65 := by rw [← hnC.out]; exact himg.out.blk
    have himgt := himg.out.tab
    have hto := hd himg.out.to_
    have hW2 : Below w1.heap.size w1 ((w1.alloc (Obj.cells (madeCells #[Value.int .i64 0] nC) 3)).alloc (Obj.cells #[.pointer (some ⟨bx, 0, none⟩), .slice (some ⟨w1.heap.size, 0, none⟩) nC nC, .slice none 0 0, .int .i64 0, .int .i64 0, .slice none 0 0, .slice none 0 0, .int .i64 0] 67)) :=
      ((Below.refl _ _).alloc (Nat.le_refl _) _).alloc (by simp) _
    have hrow2 : ((w1.alloc (Obj.cells (madeCells #[Value.int .i64 0] nC) 3)).alloc (Obj.cells #[.pointer (some ⟨bx, 0, none⟩), .slice (some ⟨w1.heap.size, 0, none⟩) nC nC, .slice none 0 0, .int .i64 0, .int .i64 0, .slice none 0 0, .slice none 0 0, .int .i64 0] 67)).rowIs (w1.heap.size + 1) 67 8 (docG bx w1.heap.size nC (.slice none 0 0) 0 0 (.slice none 0 0) (.slice none 0 0) 0) := by
      refine ⟨_, alloc_at (by simp), rfl, fun t ht => ?_⟩
      have : t = 0 ∨ t = 1 ∨ t = 2 ∨ t = 3 ∨ t = 4 ∨ t = 5 ∨ t = 6 ∨ t = 7 := by omega
      rcases this with rfl | rfl | rfl | rfl | rfl | rfl | rfl | rfl <;> rfl
    have hcel2 : Tab ((w1.alloc (Obj.cells (madeCells #[Value.int .i64 0] nC) 3)).alloc (Obj.cells #[.pointer (some ⟨bx, 0, none⟩), .slice (some ⟨w1.heap.size, 0, none⟩) nC nC, .slice none 0 0, .int .i64 0, .int .i64 0, .slice none 0 0, .slice none 0 0, .int .i64 0] 67)) w1.heap.size 3 1 nC nC (cintV (fun _ => 0)) :=
      (tab_of_row (World.rowIs_made w1 (.int .i64 0) nC 3)).alloc _
    replace himg := hd himg
    replace himgt := hd himgt
    replace himgb := hd himgb
    go_wp2_with (fail)
    generalize (w1.alloc (Obj.cells (madeCells #[Value.int .i64 0] nC) 3)).alloc (Obj.cells #[.pointer (some ⟨bx, 0, none⟩), .slice (some ⟨w1.heap.size, 0, none⟩) nC nC, .slice none 0 0, .int .i64 0, .int .i64 0, .slice none 0 0, .slice none 0 0, .int .i64 0] 67) = W2 at *
    have c0 : W2.cell? ⟨w1.heap.size + 1, 0, none⟩ = some (.pointer (some ⟨bx, 0, none⟩)) := hrow2.cell (i := 0) (by omega)
    have c1 : W2.cell? ⟨w1.heap.size + 1, 1, none⟩ = some (.slice (some ⟨w1.heap.size, 0, none⟩) nC nC) := hrow2.cell (i := 1) (by omega)
    have x2 : W2.cell? ⟨bx, 0, none⟩ = some (.slice acc nC capc) := (hW2.cell (p := ⟨bx, 0, none⟩) lx).trans x0
    have hk2 : 0 < nC → ∃ bk, acc = some ⟨bk, 0, none⟩ ∧ Tab W2 bk 104 2 nC capc (kindA rl kd) := fun h0 => by
      obtain ⟨bk, e, ht⟩ := hkinds.out h0
      exact ⟨bk, e, ht.of_block (hW2.block _ ht.lt)⟩
    have h0in : ∀ _ : Nat, in32 0 := fun _ => by unfold in32; omega
    refine rrole_any _ (w1.heap.size + 1) bx w1.heap.size nC capc acc rl kd (fun _ => 0) h100 h0in c0 c1 x2 hk2 hcel2 _ ?_
    intro v3 w3 hb3 hown3
    obtain ⟨ao3, cp3, rfl⟩ := own_sl hown3
    have hrow3 := hrow2.of_block (hb3.block _ hrow2.lt)
    have hcel3 := hcel2.of_block (hb3.block _ hcel2.lt)
    have hB3 : Below w1.heap.size w1 w3 := hW2.trans (hb3.mono hW2.size)
    have l3 := hrow3.lt
    have lW := hrow2.lt
    have y2 : w3.cell? ⟨w1.heap.size + 1, 2, none⟩ = some (.slice none 0 0) := hrow3.cell (i := 2) (by omega)
    have yf := hrow3.frozen 2
    replace hrow3 := hd hrow3
    replace hcel3 := hd hcel3
    replace hB3 := hd hB3
    replace hown3 := hd hown3
    clear hrow2 hcel2 c0 c1 x2 hk2 hb3 hW2
    go_wp2
    have hB4 : Below w.heap.size w (w3.setCell ⟨w1.heap.size + 1, 2, none⟩ (.slice ao3 (outsL rl (fun _ => 0) nC).length cp3)) := ((hb1.out.trans (hB3.out.mono hb1s))).setCell (p := ⟨w1.heap.size + 1, 2, none⟩) (by show w.heap.size ≤ w1.heap.size + 1; omega) _
    have fin := hg.out _ (.slice ao3 (outsL rl (fun _ => 0) nC).length cp3) (w1.heap.size + 1) bx b cap w1.heap.size acc capc To hB4 (by omega) hb1s hto.out
    refine cl1 (fin ?_ ?_ (by omega)) rfl
    · intro capM bsM bxM To'
      have hbl : ∀ k, k < w1.heap.size → (w3.setCell ⟨w1.heap.size + 1, 2, none⟩ (.slice ao3 (outsL rl (fun _ => 0) nC).length cp3)).heap[k]? = w1.heap[k]? := fun k hk => by
        rw [Below.heap_setCell _ _ _ _ (show k ≠ w1.heap.size + 1 by omega)]; exact hB3.out.block k hk
      refine dst_mk ⟨0, .slice none 0 0, .slice none 0 0, ?_⟩ ?_ (himgb.out.of_block (hbl _ himgb.out.lt)) (himgt.out.of_block (hbl _ himgt.out.lt)) (fun h0 => ?_) h0in
      · refine (hrow3.out.set 2 _).congr (fun t ht => ?_)
        have : t = 0 ∨ t = 1 ∨ t = 2 ∨ t = 3 ∨ t = 4 ∨ t = 5 ∨ t = 6 ∨ t = 7 := by omega
        rcases this with rfl | rfl | rfl | rfl | rfl | rfl | rfl | rfl <;> rfl
      · exact hcel3.out.setOther (show w1.heap.size ≠ w1.heap.size + 1 by omega) _
      · obtain ⟨bk, e, ht⟩ := hkinds.out h0
        exact ⟨bk, e, ht.of_block (hbl _ ht.lt)⟩
    · exact own_set (own_base hown3.out (by omega)) (a := ⟨w1.heap.size + 1, 2, none⟩) (by show w1.heap.size + 1 < w1.heap.size + 1 + 1; omega) _

end Go.Proofs.YtidhiaaicmfabaaGreat
