/- The document's step: instructions 1 to 5, 13, 16 to 18 (seats .Z, .ZD alone). -/
import Derived.Test.YtidhiaaicmfabaaGreatMem
import Derived.Test.YtidhiaaicmfabaaGreatSpec
import Derived.Test.YtidhiaaicmfabaaGreatRefA
import Derived.Test.YtidhiaaicmfabaaGreatRefC
import Derived.Test.YtidhiaaicmfabaaGreatSpec2
import Derived.WalkKit
import Derived.WalkSpells
import Derived.WalkLawsBesides
import Derived.Deep.OwnRows
import Derived.BigQuiet
import Derived.Handy
import Derived.Deep.Light
import Derived.Deep.RegionHeld3
import Derived.Deep.RegionWith
import Derived.Test.YtidhiaaicmfabaaGreatJnB
namespace Go.Proofs.YtidhiaaicmfabaaGreat
open Go.RowKit Go.Proofs Go.Deep

set_option maxRecDepth 100000 in
set_option maxHeartbeats 2000000 in
theorem rstep1 {D : Dk} (hD : DkOk D) {dn : Int} {C : Nat → Int} {Lf S : List Int} {w : World} (h : DS D dn C Lf S w) (h40 : S.length ≤ 40) (i : Nat) (hi : i < D.M.n) (ho : D.M.op i = 1) (R : Ending → World → Prop)
    (fin : ∀ w', DS D dn C Lf (wrap32 (D.N i) :: S) w' → R (.returned (.tuple #[.int .i64 ((i : Int) + 1), .int .i64 0])) w') :
    Calls Tryz.prog 48 #[.pointer (some ⟨D.bm, 0, none⟩), .int .i64 (i : Int)] w R := by
  obtain ⟨sv, rv, hm, hs, hr, ha⟩ := h.ex
  have c0 := hm.c0
  have x1 := (hm.img hD).2
  have htb := hm.code hD
  obtain ⟨k0, k1, k2, k3, k4, k5⟩ := six_codeA htb hi
  have l0 := hm.row.lt
  have l1 := World.block_lt_of_cell? w _ x1
  have l2 := htb.lt
  have hn := hD.n
  have j0 : (0 : Int) ≤ (i : Int) := by omega
  have j1 : (i : Int) < (D.M.n : Int) := by omega
  rw [ho] at k1
  replace fin := hd fin
  replace h := hd h
  clear hm hs hr ha htb
  generalize D.M.at_ i = vat at k0
  generalize D.inn i = vin at k5
  go_enter Tryz.func48, Tryz.ntmps48
  go_wp2_with (fail)
  have h5 := alloc_at (W := w) (o := Obj.cells #[.int .i64 (vat : Int), .int .i64 (1 : Int), .int .i64 (D.c i : Int), .int .i64 (D.N i), .int .i64 (D.To i), .int .i64 vin] 109) rfl
  have hW := h.out.below hD ((Below.refl w.heap.size w).alloc (Nat.le_refl _) (Obj.cells #[.int .i64 (vat : Int), .int .i64 (1 : Int), .int .i64 (D.c i : Int), .int .i64 (D.N i), .int .i64 (D.To i), .int .i64 vin] 109))
  generalize w.alloc (Obj.cells #[.int .i64 (vat : Int), .int .i64 (1 : Int), .int .i64 (D.c i : Int), .int .i64 (D.N i), .int .i64 (D.To i), .int .i64 vin] 109) = W1 at h5 hW ⊢
  generalize w.heap.size = g5 at h5 ⊢
  clear k0 k1 k2 k3 k4 k5 c0 x1 l0 l1 l2 h
  obtain ⟨s0, s1, s2, s3, s4, s5, sf⟩ := six h5
  have l5 := (Array.getElem?_eq_some_iff.1 h5).1
  replace hW := hd hW
  replace h5 := hd h5
  refine dpush_any hD hW.out h40 _ _ ?_
  intro w2 hw2 _
  replace hw2 := hd hw2
  go_wp2
  exact cl1 (fin.out _ hw2.out) rfl
set_option maxRecDepth 100000 in
set_option maxHeartbeats 2000000 in
theorem rstep2 {D : Dk} (hD : DkOk D) {dn : Int} {C : Nat → Int} {Lf S : List Int} {w : World} (h : DS D dn C Lf S w) (h40 : S.length ≤ 40) (i : Nat) (hi : i < D.M.n) (ho : D.M.op i = 2) (R : Ending → World → Prop)
    (hc : D.c i < D.M.nC) (fin : ∀ w', DS D dn C Lf (wrap32 (C (D.c i)) :: S) w' → R (.returned (.tuple #[.int .i64 ((i : Int) + 1), .int .i64 0])) w') :
    Calls Tryz.prog 48 #[.pointer (some ⟨D.bm, 0, none⟩), .int .i64 (i : Int)] w R := by
  obtain ⟨sv, rv, hm, hs, hr, ha⟩ := h.ex
  have c0 := hm.c0
  have x1 := (hm.img hD).2
  have htb := hm.code hD
  obtain ⟨k0, k1, k2, k3, k4, k5⟩ := six_codeA htb hi
  have l0 := hm.row.lt
  have l1 := World.block_lt_of_cell? w _ x1
  have l2 := htb.lt
  have hn := hD.n
  have j0 : (0 : Int) ≤ (i : Int) := by omega
  have j1 : (i : Int) < (D.M.n : Int) := by omega
  rw [ho] at k1
  replace fin := hd fin
  replace h := hd h
  clear hm hs hr ha htb
  generalize D.M.at_ i = vat at k0
  generalize D.inn i = vin at k5
  go_enter Tryz.func48, Tryz.ntmps48
  go_wp2_with (fail)
  have h5 := alloc_at (W := w) (o := Obj.cells #[.int .i64 (vat : Int), .int .i64 (2 : Int), .int .i64 (D.c i : Int), .int .i64 (D.N i), .int .i64 (D.To i), .int .i64 vin] 109) rfl
  have hW := h.out.below hD ((Below.refl w.heap.size w).alloc (Nat.le_refl _) (Obj.cells #[.int .i64 (vat : Int), .int .i64 (2 : Int), .int .i64 (D.c i : Int), .int .i64 (D.N i), .int .i64 (D.To i), .int .i64 vin] 109))
  generalize w.alloc (Obj.cells #[.int .i64 (vat : Int), .int .i64 (2 : Int), .int .i64 (D.c i : Int), .int .i64 (D.N i), .int .i64 (D.To i), .int .i64 vin] 109) = W1 at h5 hW ⊢
  generalize w.heap.size = g5 at h5 ⊢
  clear k0 k1 k2 k3 k4 k5 c0 x1 l0 l1 l2 h
  obtain ⟨s0, s1, s2, s3, s4, s5, sf⟩ := six h5
  have l5 := (Array.getElem?_eq_some_iff.1 h5).1
  obtain ⟨sv1, rv1, hm1, _, _, _⟩ := hW.ex
  have c0 := hm1.c0
  have c1 := hm1.c1
  have x0 := (hm1.img hD).1
  have l0 := hm1.row.lt
  have l1 := World.block_lt_of_cell? W1 _ x0
  have l3 := hm1.cel.lt
  have hnC := hD.nC
  have hcc := hm1.cell hc
  have j2 : (0 : Int) ≤ (D.c i : Int) := by omega
  have j3 : (D.c i : Int) < (D.M.nC : Int) := by omega
  replace hW := hd hW
  replace h5 := hd h5
  clear hm1
  go_region_with (go_at_call 97; refine dpush_any hD (by first | exact hW.out | exact hW.out.drew hD | exact hW.out.drewN hD _) (by first | exact h40 | (simp at h40 ⊢; omega)) _ _ ?_; intro w9 hw9 _; replace hw9 := hd hw9)
  all_goals
    go_wp2
    exact cl1 (fin.out _ hw9.out) rfl
set_option maxRecDepth 100000 in
set_option maxHeartbeats 2000000 in
theorem rstep3 {D : Dk} (hD : DkOk D) {dn : Int} {C : Nat → Int} {Lf S : List Int} {x : Int} {w : World} (h : DS D dn C Lf (x :: S) w) (i : Nat) (hi : i < D.M.n) (ho : D.M.op i = 3) (R : Ending → World → Prop)
    (hc : D.c i < D.M.nC) (fin : ∀ w', DS D dn (upd C (D.c i) (layK (D.M.kd (D.c i)) x)) Lf S w' → R (.returned (.tuple #[.int .i64 ((i : Int) + 1), .int .i64 0])) w') :
    Calls Tryz.prog 48 #[.pointer (some ⟨D.bm, 0, none⟩), .int .i64 (i : Int)] w R := by
  obtain ⟨sv, rv, hm, hs, hr, ha⟩ := h.ex
  have c0 := hm.c0
  have x1 := (hm.img hD).2
  have htb := hm.code hD
  obtain ⟨k0, k1, k2, k3, k4, k5⟩ := six_codeA htb hi
  have l0 := hm.row.lt
  have l1 := World.block_lt_of_cell? w _ x1
  have l2 := htb.lt
  have hn := hD.n
  have j0 : (0 : Int) ≤ (i : Int) := by omega
  have j1 : (i : Int) < (D.M.n : Int) := by omega
  rw [ho] at k1
  replace fin := hd fin
  replace h := hd h
  clear hm hs hr ha htb
  generalize D.M.at_ i = vat at k0
  generalize D.inn i = vin at k5
  go_enter Tryz.func48, Tryz.ntmps48
  go_wp2_with (fail)
  have h5 := alloc_at (W := w) (o := Obj.cells #[.int .i64 (vat : Int), .int .i64 (3 : Int), .int .i64 (D.c i : Int), .int .i64 (D.N i), .int .i64 (D.To i), .int .i64 vin] 109) rfl
  have hW := h.out.below hD ((Below.refl w.heap.size w).alloc (Nat.le_refl _) (Obj.cells #[.int .i64 (vat : Int), .int .i64 (3 : Int), .int .i64 (D.c i : Int), .int .i64 (D.N i), .int .i64 (D.To i), .int .i64 vin] 109))
  generalize w.alloc (Obj.cells #[.int .i64 (vat : Int), .int .i64 (3 : Int), .int .i64 (D.c i : Int), .int .i64 (D.N i), .int .i64 (D.To i), .int .i64 vin] 109) = W1 at h5 hW ⊢
  generalize w.heap.size = g5 at h5 ⊢
  clear k0 k1 k2 k3 k4 k5 c0 x1 l0 l1 l2 h
  obtain ⟨s0, s1, s2, s3, s4, s5, sf⟩ := six h5
  have l5 := (Array.getElem?_eq_some_iff.1 h5).1
  replace hW := hd hW
  refine dpop_any hD (by first | exact hW.out | exact hW.out.drew hD | exact hW.out.drewN hD _) _ ?_
  intro w2 hw2 hk2
  have g2 := (hk2 _ _ _ _ h5 (by decide) (by decide)).trans h5
  clear s0 s1 s2 s3 s4 s5 sf l5
  obtain ⟨s0, s1, s2, s3, s4, s5, sf⟩ := six g2
  have l5 := (Array.getElem?_eq_some_iff.1 g2).1
  obtain ⟨sv1, rv1, hm1, _, _, _⟩ := hw2.ex
  have c0 := hm1.c0
  have c1 := hm1.c1
  have x0 := (hm1.img hD).1
  have l0 := hm1.row.lt
  have l1 := World.block_lt_of_cell? w2 _ x0
  have l3 := hm1.cel.lt
  have hnC := hD.nC
  have hcc := hm1.cell hc
  have j2 : (0 : Int) ≤ (D.c i : Int) := by omega
  have j3 : (D.c i : Int) < (D.M.nC : Int) := by omega
  obtain ⟨bk, hacc, htk⟩ := hm1.kinds hD (by omega)
  rw [hacc] at x0
  have kk := htk.cell hc (f := 1) (by omega)
  rw [kindA_1] at kk
  have lk := htk.lt
  have kf := hm1.cel.frozen (D.c i)
  have ne1 := Ne.symm hD.mc
  have ne2 := tab_blk hm1.cel g2 (by decide)
  have ne3 := Ne.symm hD.xc
  have ne4 := tab_ne hm1.cel htk (by decide)
  have hkd := hD.kd (D.c i)
  replace hw2 := hd hw2
  clear hm1 htk hk2 hW h5 g2
  go_wp2_with (fail)
  go_region_held3 (fun w' => w'.cell? ⟨D.bm, 1, none⟩ = some (.slice (some ⟨D.bc, 0, none⟩) D.M.nC D.M.nC) ∧ w'.cell? ⟨g5, 2, none⟩ = some (.int .i64 (D.c i : Int)) ∧ w'.cell? ⟨D.bm, 0, none⟩ = some (.pointer (some ⟨D.bx, 0, none⟩)) ∧ w'.cell? ⟨D.bx, 0, none⟩ = some (.slice (some ⟨bk, 0, none⟩) D.M.nC D.capc) ∧ w'.cell? ⟨bk, D.c i * 2 + 1, none⟩ = some (.int .i64 (D.M.kd (D.c i) : Int))) (first | exact ⟨cell_far c1 ne1, cell_far s2 ne2, cell_far c0 ne1, cell_far x0 ne3, cell_far kk ne4⟩ | go_keep) (first | (go_at_call 47; refine rlay_any _ _ (D.M.kd (D.c i)) hkd _ ?_))
  all_goals
    go_wp2
    exact cl1 (fin.out _ ((DS.setC hD hw2.out (D.c i) _ (layK_in _ _)).drew hD)) rfl
set_option maxRecDepth 100000 in
set_option maxHeartbeats 2000000 in
theorem rstep4 {D : Dk} (hD : DkOk D) {dn : Int} {C : Nat → Int} {Lf S : List Int} {x : Int} {w : World} (h : DS D dn C Lf (x :: S) w) (h40 : S.length ≤ 40) (i : Nat) (hi : i < D.M.n) (ho : D.M.op i = 4) (R : Ending → World → Prop)
    (hcn : ∀ y : Nat, (y : Int) < D.N i → D.c i + y < D.M.nC) (ok : 0 ≤ x ∧ x < D.N i → ∀ w', DS D dn C Lf (wrap32 (C ((D.c i : Int) + x).toNat) :: S) w' → R (.returned (.tuple #[.int .i64 ((i : Int) + 1), .int .i64 0])) w')
    (er : ¬ (0 ≤ x ∧ x < D.N i) → ∀ w', DS D dn C Lf S w' → R (.returned (.tuple #[.int .i64 0, .int .i64 5])) w') :
    Calls Tryz.prog 48 #[.pointer (some ⟨D.bm, 0, none⟩), .int .i64 (i : Int)] w R := by
  obtain ⟨sv, rv, hm, hs, hr, ha⟩ := h.ex
  have c0 := hm.c0
  have x1 := (hm.img hD).2
  have htb := hm.code hD
  obtain ⟨k0, k1, k2, k3, k4, k5⟩ := six_codeA htb hi
  have l0 := hm.row.lt
  have l1 := World.block_lt_of_cell? w _ x1
  have l2 := htb.lt
  have hn := hD.n
  have j0 : (0 : Int) ≤ (i : Int) := by omega
  have j1 : (i : Int) < (D.M.n : Int) := by omega
  rw [ho] at k1
  replace ok := hd ok
  replace er := hd er
  replace h := hd h
  clear hm hs hr ha htb
  generalize D.M.at_ i = vat at k0
  generalize D.inn i = vin at k5
  go_enter Tryz.func48, Tryz.ntmps48
  go_wp2_with (fail)
  have h5 := alloc_at (W := w) (o := Obj.cells #[.int .i64 (vat : Int), .int .i64 (4 : Int), .int .i64 (D.c i : Int), .int .i64 (D.N i), .int .i64 (D.To i), .int .i64 vin] 109) rfl
  have hW := h.out.below hD ((Below.refl w.heap.size w).alloc (Nat.le_refl _) (Obj.cells #[.int .i64 (vat : Int), .int .i64 (4 : Int), .int .i64 (D.c i : Int), .int .i64 (D.N i), .int .i64 (D.To i), .int .i64 vin] 109))
  generalize w.alloc (Obj.cells #[.int .i64 (vat : Int), .int .i64 (4 : Int), .int .i64 (D.c i : Int), .int .i64 (D.N i), .int .i64 (D.To i), .int .i64 vin] 109) = W1 at h5 hW ⊢
  generalize w.heap.size = g5 at h5 ⊢
  clear k0 k1 k2 k3 k4 k5 c0 x1 l0 l1 l2 h
  obtain ⟨s0, s1, s2, s3, s4, s5, sf⟩ := six h5
  have l5 := (Array.getElem?_eq_some_iff.1 h5).1
  replace hW := hd hW
  refine dpop_any hD (by first | exact hW.out | exact hW.out.drew hD | exact hW.out.drewN hD _) _ ?_
  intro w2 hw2 hk2
  have g2 := (hk2 _ _ _ _ h5 (by decide) (by decide)).trans h5
  clear s0 s1 s2 s3 s4 s5 sf l5
  obtain ⟨s0, s1, s2, s3, s4, s5, sf⟩ := six g2
  have l5 := (Array.getElem?_eq_some_iff.1 g2).1
  obtain ⟨sv1, rv1, hm1, _, _, _⟩ := hw2.ex
  have c0 := hm1.c0
  have c1 := hm1.c1
  have x0 := (hm1.img hD).1
  have l0 := hm1.row.lt
  have l1 := World.block_lt_of_cell? w2 _ x0
  have l3 := hm1.cel.lt
  have hnC := hD.nC
  replace hw2 := hd hw2
  clear hk2 hW h5
  by_cases hx : 0 ≤ x ∧ x < D.N i
  · clear er
    obtain ⟨k, rfl⟩ := Int.eq_ofNat_of_zero_le hx.1
    have hck := hcn k hx.2
    have e : ((D.c i : Int) + (k : Int)).toNat = D.c i + k := by omega
    have ok1 := ok.out hx
    rw [e] at ok1
    replace ok1 := hd ok1
    have hcc := hm1.cell hck
    have kf := hm1.cel.frozen (D.c i + k)
    have hcc2 := hcc
    rw [← e] at hcc2
    have kf2 := kf
    rw [← e] at kf2
    have j1 : 0 ≤ (D.c i : Int) + (k : Int) ∧ (D.c i : Int) + (k : Int) < (D.M.nC : Int) := by omega
    have j2 : (D.c i : Int) + (k : Int) < (D.M.nC : Int) := by omega
    have hwc : IntKind.i64.wrap ((D.c i : Int) + (k : Int)) = (D.c i : Int) + (k : Int) := IntWalk.i64_in _ (by omega)
    have t1 : decide ((k : Int) < 0) = false := by simp
    have t2 : decide (D.N i ≤ (k : Int)) = false := by simp; omega
    have jc0 : (0 : Int) ≤ (D.c i : Int) := by omega
    have jc1 : (D.c i : Int) < (D.M.nC : Int) := by omega
    replace e := hd e
    clear hm1 g2 hcn ok
    go_wp2_with (fail)
    go_region_with (go_at_call 97; refine dpush_any hD (by first | exact hw2.out | exact hw2.out.drew hD | exact hw2.out.drewN hD _) (by first | exact h40 | (simp at h40 ⊢; omega)) _ _ ?_; intro w9 hw9 _; replace hw9 := hd hw9)
    all_goals
      go_wp2
      exact cl1 (ok1.out _ hw9.out) rfl
  · have er1 := hd (er.out hx)
    clear ok er hm1
    by_cases h0 : x < 0
    · have t1 : decide (x < 0) = true := by simpa using h0
      go_wp2
      exact cl1 (er1.out _ hw2.out) rfl
    · have t1 : decide (x < 0) = false := by simpa using h0
      have t2 : decide (D.N i ≤ x) = true := by simp; omega
      go_wp2
      exact cl1 (er1.out _ hw2.out) rfl
set_option maxRecDepth 100000 in
set_option maxHeartbeats 2000000 in
theorem rstep5 {D : Dk} (hD : DkOk D) {dn : Int} {C : Nat → Int} {Lf S : List Int} {x y : Int} {w : World} (h : DS D dn C Lf (y :: x :: S) w) (i : Nat) (hi : i < D.M.n) (ho : D.M.op i = 5) (R : Ending → World → Prop)
    (hc : D.c i < D.M.nC) (hcn : ∀ y : Nat, (y : Int) < D.N i → D.c i + y < D.M.nC) (ok : 0 ≤ x ∧ x < D.N i → ∀ w', DS D dn (upd C ((D.c i : Int) + x).toNat (layK (D.M.kd (D.c i)) y)) Lf S w' → R (.returned (.tuple #[.int .i64 ((i : Int) + 1), .int .i64 0])) w')
    (er : ¬ (0 ≤ x ∧ x < D.N i) → ∀ w', DS D dn C Lf S w' → R (.returned (.tuple #[.int .i64 0, .int .i64 5])) w') :
    Calls Tryz.prog 48 #[.pointer (some ⟨D.bm, 0, none⟩), .int .i64 (i : Int)] w R := by
  obtain ⟨sv, rv, hm, hs, hr, ha⟩ := h.ex
  have c0 := hm.c0
  have x1 := (hm.img hD).2
  have htb := hm.code hD
  obtain ⟨k0, k1, k2, k3, k4, k5⟩ := six_codeA htb hi
  have l0 := hm.row.lt
  have l1 := World.block_lt_of_cell? w _ x1
  have l2 := htb.lt
  have hn := hD.n
  have j0 : (0 : Int) ≤ (i : Int) := by omega
  have j1 : (i : Int) < (D.M.n : Int) := by omega
  rw [ho] at k1
  replace ok := hd ok
  replace er := hd er
  replace h := hd h
  clear hm hs hr ha htb
  generalize D.M.at_ i = vat at k0
  generalize D.inn i = vin at k5
  go_enter Tryz.func48, Tryz.ntmps48
  go_wp2_with (fail)
  have h5 := alloc_at (W := w) (o := Obj.cells #[.int .i64 (vat : Int), .int .i64 (5 : Int), .int .i64 (D.c i : Int), .int .i64 (D.N i), .int .i64 (D.To i), .int .i64 vin] 109) rfl
  have hW := h.out.below hD ((Below.refl w.heap.size w).alloc (Nat.le_refl _) (Obj.cells #[.int .i64 (vat : Int), .int .i64 (5 : Int), .int .i64 (D.c i : Int), .int .i64 (D.N i), .int .i64 (D.To i), .int .i64 vin] 109))
  generalize w.alloc (Obj.cells #[.int .i64 (vat : Int), .int .i64 (5 : Int), .int .i64 (D.c i : Int), .int .i64 (D.N i), .int .i64 (D.To i), .int .i64 vin] 109) = W1 at h5 hW ⊢
  generalize w.heap.size = g5 at h5 ⊢
  clear k0 k1 k2 k3 k4 k5 c0 x1 l0 l1 l2 h
  obtain ⟨s0, s1, s2, s3, s4, s5, sf⟩ := six h5
  have l5 := (Array.getElem?_eq_some_iff.1 h5).1
  replace hW := hd hW
  refine dpop_any hD (by first | exact hW.out | exact hW.out.drew hD | exact hW.out.drewN hD _) _ ?_
  intro w2 hw2 hk2
  have g2 := (hk2 _ _ _ _ h5 (by decide) (by decide)).trans h5
  clear s0 s1 s2 s3 s4 s5 sf l5
  replace hw2 := hd hw2
  clear hk2 hW h5
  go_wp2_with (fail)
  refine dpop_any hD (by first | exact hw2.out | exact hw2.out.drew hD | exact hw2.out.drewN hD _) _ ?_
  intro w3 hw3 hk3
  have g3 := (hk3 _ _ _ _ g2 (by decide) (by decide)).trans g2
  obtain ⟨s0, s1, s2, s3, s4, s5, sf⟩ := six g3
  have l5 := (Array.getElem?_eq_some_iff.1 g3).1
  obtain ⟨sv1, rv1, hm1, _, _, _⟩ := hw3.ex
  have c0 := hm1.c0
  have c1 := hm1.c1
  have x0 := (hm1.img hD).1
  have l0 := hm1.row.lt
  have l1 := World.block_lt_of_cell? w3 _ x0
  have l3 := hm1.cel.lt
  have hnC := hD.nC
  replace hw3 := hd hw3
  clear hk3 hw2 g2
  obtain ⟨bk, hacc, htk⟩ := hm1.kinds hD (by omega)
  rw [hacc] at x0
  have kk := htk.cell hc (f := 1) (by omega)
  rw [kindA_1] at kk
  have lk := htk.lt
  have ne1 := Ne.symm hD.mc
  have ne2 := tab_blk hm1.cel g3 (by decide)
  have ne3 := Ne.symm hD.xc
  have ne4 := tab_ne hm1.cel htk (by decide)
  have hkd := hD.kd (D.c i)
  by_cases hx : 0 ≤ x ∧ x < D.N i
  · clear er
    obtain ⟨k, rfl⟩ := Int.eq_ofNat_of_zero_le hx.1
    have hck := hcn k hx.2
    have e : ((D.c i : Int) + (k : Int)).toNat = D.c i + k := by omega
    have ok1 := ok.out hx
    rw [e] at ok1
    replace ok1 := hd ok1
    have hcc := hm1.cell hck
    have kf := hm1.cel.frozen (D.c i + k)
    have hcc2 := hcc
    rw [← e] at hcc2
    have kf2 := kf
    rw [← e] at kf2
    have j1 : 0 ≤ (D.c i : Int) + (k : Int) ∧ (D.c i : Int) + (k : Int) < (D.M.nC : Int) := by omega
    have j2 : (D.c i : Int) + (k : Int) < (D.M.nC : Int) := by omega
    have hwc : IntKind.i64.wrap ((D.c i : Int) + (k : Int)) = (D.c i : Int) + (k : Int) := IntWalk.i64_in _ (by omega)
    have t1 : decide ((k : Int) < 0) = false := by simp
    have t2 : decide (D.N i ≤ (k : Int)) = false := by simp; omega
    have jc0 : (0 : Int) ≤ (D.c i : Int) := by omega
    have jc1 : (D.c i : Int) < (D.M.nC : Int) := by omega
    replace e := hd e
    clear hm1 g3 hcn ok htk
    go_wp2_with (fail)
    go_region_held3 (fun w' => w'.cell? ⟨D.bm, 1, none⟩ = some (.slice (some ⟨D.bc, 0, none⟩) D.M.nC D.M.nC) ∧ w'.cell? ⟨g5, 2, none⟩ = some (.int .i64 (D.c i : Int)) ∧ w'.cell? ⟨D.bm, 0, none⟩ = some (.pointer (some ⟨D.bx, 0, none⟩)) ∧ w'.cell? ⟨D.bx, 0, none⟩ = some (.slice (some ⟨bk, 0, none⟩) D.M.nC D.capc) ∧ w'.cell? ⟨bk, D.c i * 2 + 1, none⟩ = some (.int .i64 (D.M.kd (D.c i) : Int))) (first | exact ⟨cell_far c1 ne1, cell_far s2 ne2, cell_far c0 ne1, cell_far x0 ne3, cell_far kk ne4⟩ | go_keep) (first | (go_at_call 47; refine rlay_any _ _ (D.M.kd (D.c i)) hkd _ ?_))
    all_goals
      go_wp2
      exact cl1 (ok1.out _ ((DS.setC hD hw3.out (D.c i + k) _ (layK_in _ _)).drew hD)) rfl
  · have er1 := hd (er.out hx)
    clear ok er hm1 htk
    by_cases h0 : x < 0
    · have t1 : decide (x < 0) = true := by simpa using h0
      go_wp2
      exact cl1 (er1.out _ hw3.out) rfl
    · have t1 : decide (x < 0) = false := by simpa using h0
      have t2 : decide (D.N i ≤ x) = true := by simp; omega
      go_wp2
      exact cl1 (er1.out _ hw3.out) rfl
set_option maxRecDepth 100000 in
set_option maxHeartbeats 2000000 in
theorem rstep13 {D : Dk} (hD : DkOk D) {dn : Int} {C : Nat → Int} {Lf S : List Int} {x : Int} {w : World} (h : DS D dn C Lf (x :: S) w) (h40 : S.length ≤ 40) (i : Nat) (hi : i < D.M.n) (ho : D.M.op i = 13) (R : Ending → World → Prop)
    (fin : ∀ w', DS D dn C Lf (wrap32 (tr (x == 0)) :: S) w' → R (.returned (.tuple #[.int .i64 ((i : Int) + 1), .int .i64 0])) w') :
    Calls Tryz.prog 48 #[.pointer (some ⟨D.bm, 0, none⟩), .int .i64 (i : Int)] w R := by
  obtain ⟨sv, rv, hm, hs, hr, ha⟩ := h.ex
  have c0 := hm.c0
  have x1 := (hm.img hD).2
  have htb := hm.code hD
  obtain ⟨k0, k1, k2, k3, k4, k5⟩ := six_codeA htb hi
  have l0 := hm.row.lt
  have l1 := World.block_lt_of_cell? w _ x1
  have l2 := htb.lt
  have hn := hD.n
  have j0 : (0 : Int) ≤ (i : Int) := by omega
  have j1 : (i : Int) < (D.M.n : Int) := by omega
  rw [ho] at k1
  replace fin := hd fin
  replace h := hd h
  clear hm hs hr ha htb
  generalize D.M.at_ i = vat at k0
  generalize D.inn i = vin at k5
  go_enter Tryz.func48, Tryz.ntmps48
  go_wp2_with (fail)
  have h5 := alloc_at (W := w) (o := Obj.cells #[.int .i64 (vat : Int), .int .i64 (13 : Int), .int .i64 (D.c i : Int), .int .i64 (D.N i), .int .i64 (D.To i), .int .i64 vin] 109) rfl
  have hW := h.out.below hD ((Below.refl w.heap.size w).alloc (Nat.le_refl _) (Obj.cells #[.int .i64 (vat : Int), .int .i64 (13 : Int), .int .i64 (D.c i : Int), .int .i64 (D.N i), .int .i64 (D.To i), .int .i64 vin] 109))
  generalize w.alloc (Obj.cells #[.int .i64 (vat : Int), .int .i64 (13 : Int), .int .i64 (D.c i : Int), .int .i64 (D.N i), .int .i64 (D.To i), .int .i64 vin] 109) = W1 at h5 hW ⊢
  generalize w.heap.size = g5 at h5 ⊢
  clear k0 k1 k2 k3 k4 k5 c0 x1 l0 l1 l2 h
  obtain ⟨s0, s1, s2, s3, s4, s5, sf⟩ := six h5
  have l5 := (Array.getElem?_eq_some_iff.1 h5).1
  replace hW := hd hW
  refine dpop_any hD (by first | exact hW.out | exact hW.out.drew hD | exact hW.out.drewN hD _) _ ?_
  intro w2 hw2 hk2
  have g2 := (hk2 _ _ _ _ h5 (by decide) (by decide)).trans h5
  clear s0 s1 s2 s3 s4 s5 sf l5
  replace hw2 := hd hw2
  clear hk2 hW h5 g2
  go_wp2_with (fail)
  refine rtruth_any _ _ _ ?_
  go_wp2_with (fail)
  refine dpush_any hD hw2.out h40 _ _ ?_
  intro w9 hw9 _
  replace hw9 := hd hw9
  go_wp2
  exact cl1 (fin.out _ hw9.out) rfl
set_option maxRecDepth 100000 in
set_option maxHeartbeats 2000000 in
theorem rstep16 {D : Dk} (hD : DkOk D) {dn : Int} {C : Nat → Int} {Lf S : List Int} {x : Int} {w : World} (h : DS D dn C Lf (x :: S) w) (h40 : S.length ≤ 40) (i : Nat) (hi : i < D.M.n) (ho : D.M.op i = 16) (R : Ending → World → Prop)
    (fin : ∀ w', DS D dn C Lf (wrap32 (IntKind.i16.wrap x) :: S) w' → R (.returned (.tuple #[.int .i64 ((i : Int) + 1), .int .i64 0])) w') :
    Calls Tryz.prog 48 #[.pointer (some ⟨D.bm, 0, none⟩), .int .i64 (i : Int)] w R := by
  obtain ⟨sv, rv, hm, hs, hr, ha⟩ := h.ex
  have c0 := hm.c0
  have x1 := (hm.img hD).2
  have htb := hm.code hD
  obtain ⟨k0, k1, k2, k3, k4, k5⟩ := six_codeA htb hi
  have l0 := hm.row.lt
  have l1 := World.block_lt_of_cell? w _ x1
  have l2 := htb.lt
  have hn := hD.n
  have j0 : (0 : Int) ≤ (i : Int) := by omega
  have j1 : (i : Int) < (D.M.n : Int) := by omega
  rw [ho] at k1
  replace fin := hd fin
  replace h := hd h
  clear hm hs hr ha htb
  generalize D.M.at_ i = vat at k0
  generalize D.inn i = vin at k5
  go_enter Tryz.func48, Tryz.ntmps48
  go_wp2_with (fail)
  have h5 := alloc_at (W := w) (o := Obj.cells #[.int .i64 (vat : Int), .int .i64 (16 : Int), .int .i64 (D.c i : Int), .int .i64 (D.N i), .int .i64 (D.To i), .int .i64 vin] 109) rfl
  have hW := h.out.below hD ((Below.refl w.heap.size w).alloc (Nat.le_refl _) (Obj.cells #[.int .i64 (vat : Int), .int .i64 (16 : Int), .int .i64 (D.c i : Int), .int .i64 (D.N i), .int .i64 (D.To i), .int .i64 vin] 109))
  generalize w.alloc (Obj.cells #[.int .i64 (vat : Int), .int .i64 (16 : Int), .int .i64 (D.c i : Int), .int .i64 (D.N i), .int .i64 (D.To i), .int .i64 vin] 109) = W1 at h5 hW ⊢
  generalize w.heap.size = g5 at h5 ⊢
  clear k0 k1 k2 k3 k4 k5 c0 x1 l0 l1 l2 h
  obtain ⟨s0, s1, s2, s3, s4, s5, sf⟩ := six h5
  have l5 := (Array.getElem?_eq_some_iff.1 h5).1
  replace hW := hd hW
  refine dpop_any hD (by first | exact hW.out | exact hW.out.drew hD | exact hW.out.drewN hD _) _ ?_
  intro w2 hw2 hk2
  have g2 := (hk2 _ _ _ _ h5 (by decide) (by decide)).trans h5
  clear s0 s1 s2 s3 s4 s5 sf l5
  replace hw2 := hd hw2
  clear hk2 hW h5 g2
  go_wp2_with (fail)
  refine rlay_any _ _ 1 (by omega) _ ?_
  rw [show layK 1 x = IntKind.i16.wrap x from rfl]
  go_wp2_with (fail)
  refine dpush_any hD hw2.out h40 _ _ ?_
  intro w9 hw9 _
  replace hw9 := hd hw9
  go_wp2
  exact cl1 (fin.out _ hw9.out) rfl
set_option maxRecDepth 100000 in
set_option maxHeartbeats 2000000 in
theorem rstep17 {D : Dk} (hD : DkOk D) {dn : Int} {C : Nat → Int} {Lf S : List Int} {w : World} (h : DS D dn C Lf S w) (i : Nat) (hi : i < D.M.n) (ho : D.M.op i = 17) (R : Ending → World → Prop)
    (fin : ∀ w', DS D dn C Lf S w' → R (.returned (.tuple #[.int .i64 (D.To i), .int .i64 0])) w') :
    Calls Tryz.prog 48 #[.pointer (some ⟨D.bm, 0, none⟩), .int .i64 (i : Int)] w R := by
  obtain ⟨sv, rv, hm, hs, hr, ha⟩ := h.ex
  have c0 := hm.c0
  have x1 := (hm.img hD).2
  have htb := hm.code hD
  obtain ⟨k0, k1, k2, k3, k4, k5⟩ := six_codeA htb hi
  have l0 := hm.row.lt
  have l1 := World.block_lt_of_cell? w _ x1
  have l2 := htb.lt
  have hn := hD.n
  have j0 : (0 : Int) ≤ (i : Int) := by omega
  have j1 : (i : Int) < (D.M.n : Int) := by omega
  rw [ho] at k1
  replace fin := hd fin
  replace h := hd h
  clear hm hs hr ha htb
  generalize D.M.at_ i = vat at k0
  generalize D.inn i = vin at k5
  go_enter Tryz.func48, Tryz.ntmps48
  go_wp2
  exact cl1 (fin.out _ (h.out.below hD ((Below.refl w.heap.size w).alloc (Nat.le_refl _) _))) rfl
set_option maxRecDepth 100000 in
set_option maxHeartbeats 2000000 in
theorem rstep18 {D : Dk} (hD : DkOk D) {dn : Int} {C : Nat → Int} {Lf S : List Int} {x : Int} {w : World} (h : DS D dn C Lf (x :: S) w) (i : Nat) (hi : i < D.M.n) (ho : D.M.op i = 18) (R : Ending → World → Prop)
    (fin : ∀ w', DS D dn C Lf S w' → R (.returned (.tuple #[.int .i64 (if x = 0 then D.To i else (i : Int) + 1), .int .i64 0])) w') :
    Calls Tryz.prog 48 #[.pointer (some ⟨D.bm, 0, none⟩), .int .i64 (i : Int)] w R := by
  obtain ⟨sv, rv, hm, hs, hr, ha⟩ := h.ex
  have c0 := hm.c0
  have x1 := (hm.img hD).2
  have htb := hm.code hD
  obtain ⟨k0, k1, k2, k3, k4, k5⟩ := six_codeA htb hi
  have l0 := hm.row.lt
  have l1 := World.block_lt_of_cell? w _ x1
  have l2 := htb.lt
  have hn := hD.n
  have j0 : (0 : Int) ≤ (i : Int) := by omega
  have j1 : (i : Int) < (D.M.n : Int) := by omega
  rw [ho] at k1
  replace fin := hd fin
  replace h := hd h
  clear hm hs hr ha htb
  generalize D.M.at_ i = vat at k0
  generalize D.inn i = vin at k5
  go_enter Tryz.func48, Tryz.ntmps48
  go_wp2_with (fail)
  have h5 := alloc_at (W := w) (o := Obj.cells #[.int .i64 (vat : Int), .int .i64 (18 : Int), .int .i64 (D.c i : Int), .int .i64 (D.N i), .int .i64 (D.To i), .int .i64 vin] 109) rfl
  have hW := h.out.below hD ((Below.refl w.heap.size w).alloc (Nat.le_refl _) (Obj.cells #[.int .i64 (vat : Int), .int .i64 (18 : Int), .int .i64 (D.c i : Int), .int .i64 (D.N i), .int .i64 (D.To i), .int .i64 vin] 109))
  generalize w.alloc (Obj.cells #[.int .i64 (vat : Int), .int .i64 (18 : Int), .int .i64 (D.c i : Int), .int .i64 (D.N i), .int .i64 (D.To i), .int .i64 vin] 109) = W1 at h5 hW ⊢
  generalize w.heap.size = g5 at h5 ⊢
  clear k0 k1 k2 k3 k4 k5 c0 x1 l0 l1 l2 h
  obtain ⟨s0, s1, s2, s3, s4, s5, sf⟩ := six h5
  have l5 := (Array.getElem?_eq_some_iff.1 h5).1
  replace hW := hd hW
  refine dpop_any hD (by first | exact hW.out | exact hW.out.drew hD | exact hW.out.drewN hD _) _ ?_
  intro w2 hw2 hk2
  have g2 := (hk2 _ _ _ _ h5 (by decide) (by decide)).trans h5
  clear s0 s1 s2 s3 s4 s5 sf l5
  obtain ⟨s0, s1, s2, s3, s4, s5, sf⟩ := six g2
  have l5 := (Array.getElem?_eq_some_iff.1 g2).1
  replace hw2 := hd hw2
  clear hk2 hW h5 g2
  by_cases hx : x = 0
  · have t1 : (x == 0) = true := by simpa using hx
    rw [if_pos hx] at fin
    go_wp2
    exact cl1 (fin.out _ hw2.out) rfl
  · have t1 : (x == 0) = false := by simpa using hx
    rw [if_neg hx] at fin
    go_wp2
    exact cl1 (fin.out _ hw2.out) rfl

end Go.Proofs.YtidhiaaicmfabaaGreat
