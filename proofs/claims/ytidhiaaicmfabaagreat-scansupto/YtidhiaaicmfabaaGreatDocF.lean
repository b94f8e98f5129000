/- The document's step: the other instructions (seats .Z, .ZD alone). -/
import Derived.Test.YtidhiaaicmfabaaGreatMem
import Derived.Test.YtidhiaaicmfabaaGreatSpec
import Derived.Test.YtidhiaaicmfabaaGreatRefA
import Derived.Test.YtidhiaaicmfabaaGreatRefC
import Derived.Test.YtidhiaaicmfabaaGreatSpec2
import Derived.WalkKit
import Derived.WalkSpells
import Derived.WalkLawsBesides
import Derived.Deep.OwnRows
import Derived.BigQuiet
import Derived.Handy
import Derived.Deep.Light
import Derived.Deep.RegionHeld3
import Derived.Deep.RegionWith
import Derived.Test.YtidhiaaicmfabaaGreatJnB
namespace Go.Proofs.YtidhiaaicmfabaaGreat
open Go.RowKit Go.Proofs Go.Deep

set_option maxRecDepth 100000 in
set_option maxHeartbeats 2000000 in
theorem rstep19 {D : Dk} (hD : DkOk D) {dn : Int} {C : Nat → Int} {Lf S : List Int} {w : World} (h : DS D dn C Lf S w) (hL : Lf.length ≤ 10) (i : Nat) (hi : i < D.M.n) (ho : D.M.op i = 19) (R : Ending → World → Prop)
    (fin : ∀ w', DS D dn C (D.N i :: Lf) S w' → R (.returned (.tuple #[.int .i64 ((i : Int) + 1), .int .i64 0])) w') :
    Calls Tryz.prog 48 #[.pointer (some ⟨D.bm, 0, none⟩), .int .i64 (i : Int)] w R := by
  obtain ⟨sv, rv, hm, hs, hr, ha⟩ := h.ex
  have c0 := hm.c0
  have x1 := (hm.img hD).2
  have htb := hm.code hD
  obtain ⟨k0, k1, k2, k3, k4, k5⟩ := six_codeA htb hi
  have l0 := hm.row.lt
  have l1 := World.block_lt_of_cell? w _ x1
  have l2 := htb.lt
  have hn := hD.n
  have j0 : (0 : Int) ≤ (i : Int) := by omega
  have j1 : (i : Int) < (D.M.n : Int) := by omega
  rw [ho] at k1
  replace fin := hd fin
  replace h := hd h
  clear hm hs hr ha htb
  generalize D.M.at_ i = vat at k0
  generalize D.inn i = vin at k5
  go_enter Tryz.func48, Tryz.ntmps48
  go_wp2_with (fail)
  have h5 := alloc_at (W := w) (o := Obj.cells #[.int .i64 (vat : Int), .int .i64 (19 : Int), .int .i64 (D.c i : Int), .int .i64 (D.N i), .int .i64 (D.To i), .int .i64 vin] 109) rfl
  have hW := h.out.below hD ((Below.refl w.heap.size w).alloc (Nat.le_refl _) (Obj.cells #[.int .i64 (vat : Int), .int .i64 (19 : Int), .int .i64 (D.c i : Int), .int .i64 (D.N i), .int .i64 (D.To i), .int .i64 vin] 109))
  generalize w.alloc (Obj.cells #[.int .i64 (vat : Int), .int .i64 (19 : Int), .int .i64 (D.c i : Int), .int .i64 (D.N i), .int .i64 (D.To i), .int .i64 vin] 109) = W1 at h5 hW ⊢
  generalize w.heap.size = g5 at h5 ⊢
  clear k0 k1 k2 k3 k4 k5 c0 x1 l0 l1 l2 h
  obtain ⟨s0, s1, s2, s3, s4, s5, sf⟩ := six h5
  have l5 := (Array.getElem?_eq_some_iff.1 h5).1
  obtain ⟨sv1, rv1, hm1, hs1, hr1, ha1⟩ := hW.ex
  have c6 := hm1.c6
  have f6 := hm1.row.frozen 6
  have l0 := hm1.row.lt
  have hbs := hm1.fr.size
  have hbm := hD.bm
  have nb1 : some D.bm ≠ rv1.ownBlock := fun e => by have := (hr1.lt D.bm e.symm).1; omega
  obtain ⟨ao, cp, rfl⟩ := own_sl hr1
  replace nb1 := hd nb1
  replace hr1 := hd hr1
  replace hs1 := hd hs1
  replace ha1 := hd ha1
  replace hm1 := hd hm1
  replace hW := hd hW
  replace h5 := hd h5
  go_region_law
    (first
      | (refine step_app2 (by rfl) _ _ 42 (by rfl) D.base 3 _ 1 8 ulInt infoI64 rfl (by omega) _ Lf.length (i64L Lf) (by rfl) (by first | exact (hr1.out.alloc _).drew | exact hr1.out.alloc _) W1.heap.size 1 1 [.int .i64 (D.N i)] (by rfl) (by exact new_at (by simp)) rfl (oneI64 _) (by omega) (by unfold maxLen; omega) (by omega) (by simp; omega) ?_; intro g1 cap1 w1 hown1 hgr1 hat1; have cx : w1.cell? ⟨D.bm, 6, none⟩ = some (.slice ao Lf.length cp) := far_of hgr1 (by exact cell_al c6 _) nb1.out; have fx : w1.frozen? ⟨D.bm, 6, none⟩ = false := frz_of hgr1 (by exact frozen_al f6 l0 _) (by simp; omega) nb1.out; replace hat1 := hd hat1; replace hown1 := hd hown1; replace hgr1 := hd hgr1))
  all_goals
    go_wp2
    have hL1 := hown1.out
    rw [← i64L_cons] at hL1
    have hz := hgr1.out.size
    have hg : W1.grownBy w1 (Value.slice ao Lf.length cp).ownBlock := ⟨hgr1.out.os, hgr1.out.tape, hgr1.out.output, by simp at hz; omega, fun k hk hne => (hgr1.out.block k (by simp; omega) hne).trans (by first | exact Below.heap_alloc _ _ _ hk | exact Below.heap_alloc W1 _ _ hk)⟩
    refine cl1 (fin.out _ (ds_left hD hm1.out hs1.out hr1.out ha1.out hW.out.hC hW.out.hS hg (Lf' := D.N i :: Lf) hL1 ?_)) rfl
    rcases hat1.out with e | e
    · exact .inl e.symm
    · exact .inr ⟨g1, rfl, by rw [e]; simp⟩
set_option maxRecDepth 100000 in
set_option maxHeartbeats 2000000 in
theorem rstep20 {D : Dk} (hD : DkOk D) {dn : Int} {C : Nat → Int} {S : List Int} {w : World} {c : Int} {r : List Int} (h : DS D dn C (c :: r) S w) (hc : 1 ≤ c ∧ c ≤ 65535) (hr10 : r.length ≤ 10) (i : Nat) (hi : i < D.M.n) (ho : D.M.op i = 20) (R : Ending → World → Prop)
    (hto : -1 ≤ D.To i ∧ D.To i ≤ 8000) (f1 : 0 < c - 1 → ∀ w', DS D dn C ((c - 1) :: r) S w' → R (.returned (.tuple #[.int .i64 (D.To i + 1), .int .i64 0])) w')
    (f2 : ¬ 0 < c - 1 → ∀ w', DS D dn C r S w' → R (.returned (.tuple #[.int .i64 ((i : Int) + 1), .int .i64 0])) w') :
    Calls Tryz.prog 48 #[.pointer (some ⟨D.bm, 0, none⟩), .int .i64 (i : Int)] w R := by
  obtain ⟨sv, rv, hm, hs, hr, ha⟩ := h.ex
  have c0 := hm.c0
  have x1 := (hm.img hD).2
  have htb := hm.code hD
  obtain ⟨k0, k1, k2, k3, k4, k5⟩ := six_codeA htb hi
  have l0 := hm.row.lt
  have l1 := World.block_lt_of_cell? w _ x1
  have l2 := htb.lt
  have hn := hD.n
  have j0 : (0 : Int) ≤ (i : Int) := by omega
  have j1 : (i : Int) < (D.M.n : Int) := by omega
  rw [ho] at k1
  replace f1 := hd f1
  replace f2 := hd f2
  have c6 := hm.c6
  have f6 := hm.row.frozen 6
  obtain ⟨g, cap, rfl, hcap, hbg, hgl, hgf, hgc⟩ := own_one hr (by simp)
  have hg0 := hgc r.length (by simp)
  have e0 : (i64L (c :: r))[r.length]? = some (.int .i64 c) := by have := i64L_at (c :: r) 0 (by simp); simpa using this
  rw [e0] at hg0
  have hgf0 := hgf r.length
  have hneg : g ≠ D.bm := by have := hD.bm; omega
  have hneg2 : D.bm ≠ g := Ne.symm hneg
  have j1c : (r.length : Int) < (cap : Int) := by simp at hcap; omega
  have hsz := hm.fr.size
  have hb6 := hD.bm
  replace hr := hd hr
  replace hs := hd hs
  replace hm := hd hm
  replace ha := hd ha
  replace h := hd h
  clear hgf hgc e0 htb
  generalize D.M.at_ i = vat at k0
  generalize D.inn i = vin at k5
  by_cases hp : 0 < c - 1
  · have f1 := hd (f1.out hp)
    clear f2
    go_enter Tryz.func48, Tryz.ntmps48
    go_wp2
    have h1 := ds_setL hD hm.out hs.out hr.out ha.out (c - 1)
    exact cl1 (f1.out _ (DS.below hD (Lf := (c - 1) :: r) (S := S) ⟨⟨sv, _, h1.1, h1.2.1, h1.2.2, ha.out⟩, h.out.hC, h.out.hS⟩ ((Below.refl _ _).alloc (Nat.le_refl _) _))) rfl
  · have f3 := hd (f2.out hp)
    clear f1 f2
    go_enter Tryz.func48, Tryz.ntmps48
    go_wp2
    have h1 := ds_setL hD hm.out hs.out hr.out ha.out (c - 1)
    have h2 := own_take (m := r.length) h1.2.2 (by simp)
    have e2 : (i64L ((c - 1) :: r)).take r.length = i64L r := by have := i64L_take ((c - 1) :: r) 1 (by simp); simpa using this
    rw [e2] at h2
    exact cl1 (f3.out _ (DS.below hD (Lf := r) (S := S) ⟨⟨sv, _, h1.1.setRv hD _, own_set h1.2.1 hD.bm _, own_set h2 hD.bm _, ha.out⟩, h.out.hC, h.out.hS⟩ ((Below.refl _ _).alloc (Nat.le_refl _) _))) rfl
set_option maxRecDepth 100000 in
set_option maxHeartbeats 2000000 in
theorem rstep21 {D : Dk} (hD : DkOk D) {dn : Int} {C : Nat → Int} {Lf S : List Int} {x y : Int} {w : World} (h : DS D dn C Lf (y :: x :: S) w) (h40 : S.length ≤ 40) (i : Nat) (hi : i < D.M.n) (ho : D.M.op i = 21) (R : Ending → World → Prop)
    (hc : D.c i < D.M.nC) (fin : ∀ w', DS D dn (upd C (D.c i) (if x = 0 then 0 else min (C (D.c i) + D.delta) 2147483647)) Lf (wrap32 (if x = 0 then 0 else tr (decide (y ≤ min (C (D.c i) + D.delta) 2147483647))) :: S) w' → R (.returned (.tuple #[.int .i64 ((i : Int) + 1), .int .i64 0])) w') :
    Calls Tryz.prog 48 #[.pointer (some ⟨D.bm, 0, none⟩), .int .i64 (i : Int)] w R := by
  obtain ⟨sv, rv, hm, hs, hr, ha⟩ := h.ex
  have c0 := hm.c0
  have x1 := (hm.img hD).2
  have htb := hm.code hD
  obtain ⟨k0, k1, k2, k3, k4, k5⟩ := six_codeA htb hi
  have l0 := hm.row.lt
  have l1 := World.block_lt_of_cell? w _ x1
  have l2 := htb.lt
  have hn := hD.n
  have j0 : (0 : Int) ≤ (i : Int) := by omega
  have j1 : (i : Int) < (D.M.n : Int) := by omega
  rw [ho] at k1
  replace fin := hd fin
  replace h := hd h
  clear hm hs hr ha htb
  generalize D.M.at_ i = vat at k0
  generalize D.inn i = vin at k5
  go_enter Tryz.func48, Tryz.ntmps48
  go_wp2_with (fail)
  have h5 := alloc_at (W := w) (o := Obj.cells #[.int .i64 (vat : Int), .int .i64 (21 : Int), .int .i64 (D.c i : Int), .int .i64 (D.N i), .int .i64 (D.To i), .int .i64 vin] 109) rfl
  have hW := h.out.below hD ((Below.refl w.heap.size w).alloc (Nat.le_refl _) (Obj.cells #[.int .i64 (vat : Int), .int .i64 (21 : Int), .int .i64 (D.c i : Int), .int .i64 (D.N i), .int .i64 (D.To i), .int .i64 vin] 109))
  generalize w.alloc (Obj.cells #[.int .i64 (vat : Int), .int .i64 (21 : Int), .int .i64 (D.c i : Int), .int .i64 (D.N i), .int .i64 (D.To i), .int .i64 vin] 109) = W1 at h5 hW ⊢
  generalize w.heap.size = g5 at h5 ⊢
  clear k0 k1 k2 k3 k4 k5 c0 x1 l0 l1 l2 h
  obtain ⟨s0, s1, s2, s3, s4, s5, sf⟩ := six h5
  have l5 := (Array.getElem?_eq_some_iff.1 h5).1
  replace hW := hd hW
  refine dpop_any hD (by first | exact hW.out | exact hW.out.drew hD | exact hW.out.drewN hD _) _ ?_
  intro w2 hw2 hk2
  have g2 := (hk2 _ _ _ _ h5 (by decide) (by decide)).trans h5
  clear s0 s1 s2 s3 s4 s5 sf l5
  replace hw2 := hd hw2
  clear hk2 hW h5
  go_wp2_with (fail)
  refine dpop_any hD (by first | exact hw2.out | exact hw2.out.drew hD | exact hw2.out.drewN hD _) _ ?_
  intro w3 hw3 hk3
  have g3 := (hk3 _ _ _ _ g2 (by decide) (by decide)).trans g2
  obtain ⟨s0, s1, s2, s3, s4, s5, sf⟩ := six g3
  have l5 := (Array.getElem?_eq_some_iff.1 g3).1
  obtain ⟨sv1, rv1, hm1, _, _, _⟩ := hw3.ex
  have c0 := hm1.c0
  have c1 := hm1.c1
  have x0 := (hm1.img hD).1
  have l0 := hm1.row.lt
  have l1 := World.block_lt_of_cell? w3 _ x0
  have l3 := hm1.cel.lt
  have hnC := hD.nC
  have hCc := hw3.hC (D.c i)
  unfold in32 at hCc
  replace hw3 := hd hw3
  clear hk3 hw2 g2 g3
  have c7 := hm1.c7
  have hdl := hD.dl
  have kf := hm1.cel.frozen (D.c i)
  have nmc := hD.mc
  have hcc := hm1.cell hc
  have j2 : (0 : Int) ≤ (D.c i : Int) := by omega
  have j3 : (D.c i : Int) < (D.M.nC : Int) := by omega
  clear hm1
  by_cases hx : x = 0
  · have t1 : (x != 0) = false := by simpa using hx
    rw [if_pos hx, if_pos hx] at fin
    have hin : in32 0 := by unfold in32; omega
    go_wp2_with (fail)
    go_region
    go_wp2_with (fail)
    refine rtruth_any _ _ _ ?_
    go_wp2_with (fail)
    refine dpush_any hD (by first | exact DS.setC hD hw3.out (D.c i) _ hin | exact (DS.setC hD hw3.out (D.c i) _ hin).drew hD | exact ((DS.setC hD hw3.out (D.c i) _ hin).drew hD).drew hD | exact (DS.setC hD (hw3.out.drew hD) (D.c i) _ hin).drew hD) h40 _ _ ?_
    intro w9 hw9 _
    replace hw9 := hd hw9
    go_wp2
    exact cl1 (fin.out _ hw9.out) rfl
  · have t1 : (x != 0) = true := by simpa using hx
    rw [if_neg hx, if_neg hx] at fin
    have hwa : IntKind.i64.wrap (C (D.c i) + D.delta) = C (D.c i) + D.delta := IntWalk.i64_in _ (by omega)
    by_cases hmx : C (D.c i) + D.delta ≤ 2147483647
    · have em : min (C (D.c i) + D.delta) 2147483647 = C (D.c i) + D.delta := by omega
      have hin : in32 (C (D.c i) + D.delta) := by unfold in32; omega
      rw [em] at fin
      replace em := hd em
      go_wp2_with (fail)
      go_region
      go_wp2_with (fail)
      go_region
      go_wp2_with (fail)
      refine rtruth_any _ _ _ ?_
      go_wp2_with (fail)
      refine dpush_any hD (by first | exact DS.setC hD hw3.out (D.c i) _ hin | exact (DS.setC hD hw3.out (D.c i) _ hin).drew hD | exact ((DS.setC hD hw3.out (D.c i) _ hin).drew hD).drew hD | exact (DS.setC hD (hw3.out.drew hD) (D.c i) _ hin).drew hD) h40 _ _ ?_
      intro w9 hw9 _
      replace hw9 := hd hw9
      go_wp2
      exact cl1 (fin.out _ hw9.out) rfl
    · have em : min (C (D.c i) + D.delta) 2147483647 = 2147483647 := by omega
      have hmy : 2147483647 < C (D.c i) + D.delta := by omega
      have hin : in32 2147483647 := by unfold in32; omega
      rw [em] at fin
      replace em := hd em
      go_wp2_with (fail)
      go_region
      go_wp2_with (fail)
      go_region
      go_wp2_with (fail)
      refine rtruth_any _ _ _ ?_
      go_wp2_with (fail)
      refine dpush_any hD (by first | exact DS.setC hD hw3.out (D.c i) _ hin | exact (DS.setC hD hw3.out (D.c i) _ hin).drew hD | exact ((DS.setC hD hw3.out (D.c i) _ hin).drew hD).drew hD | exact (DS.setC hD (hw3.out.drew hD) (D.c i) _ hin).drew hD) h40 _ _ ?_
      intro w9 hw9 _
      replace hw9 := hd hw9
      go_wp2
      exact cl1 (fin.out _ hw9.out) rfl
set_option maxRecDepth 100000 in
set_option maxHeartbeats 2000000 in
theorem rstep6 {D : Dk} (hD : DkOk D) {dn : Int} {C : Nat → Int} {Lf S : List Int} {x y : Int} {w : World} (h : DS D dn C Lf (y :: x :: S) w) (h40 : S.length ≤ 40) (i : Nat) (hi : i < D.M.n) (ho : D.M.op i = 6) (R : Ending → World → Prop)
    (ok : (twoV 6 x y).2 = 0 → ∀ w', DS D dn C Lf (wrap32 (twoV 6 x y).1 :: S) w' → R (.returned (.tuple #[.int .i64 ((i : Int) + 1), .int .i64 0])) w')
    (er : (twoV 6 x y).2 ≠ 0 → ∀ w', DS D dn C Lf S w' → R (.returned (.tuple #[.int .i64 0, .int .i64 (twoV 6 x y).2])) w') :
    Calls Tryz.prog 48 #[.pointer (some ⟨D.bm, 0, none⟩), .int .i64 (i : Int)] w R := by
  obtain ⟨sv, rv, hm, hs, hr, ha⟩ := h.ex
  have c0 := hm.c0
  have x1 := (hm.img hD).2
  have htb := hm.code hD
  obtain ⟨k0, k1, k2, k3, k4, k5⟩ := six_codeA htb hi
  have l0 := hm.row.lt
  have l1 := World.block_lt_of_cell? w _ x1
  have l2 := htb.lt
  have hn := hD.n
  have j0 : (0 : Int) ≤ (i : Int) := by omega
  have j1 : (i : Int) < (D.M.n : Int) := by omega
  rw [ho] at k1
  replace ok := hd ok
  replace er := hd er
  replace h := hd h
  clear hm hs hr ha htb
  generalize D.M.at_ i = vat at k0
  generalize D.inn i = vin at k5
  go_enter Tryz.func48, Tryz.ntmps48
  go_wp2_with (fail)
  have h5 := alloc_at (W := w) (o := Obj.cells #[.int .i64 (vat : Int), .int .i64 (6 : Int), .int .i64 (D.c i : Int), .int .i64 (D.N i), .int .i64 (D.To i), .int .i64 vin] 109) rfl
  have hW := h.out.below hD ((Below.refl w.heap.size w).alloc (Nat.le_refl _) (Obj.cells #[.int .i64 (vat : Int), .int .i64 (6 : Int), .int .i64 (D.c i : Int), .int .i64 (D.N i), .int .i64 (D.To i), .int .i64 vin] 109))
  generalize w.alloc (Obj.cells #[.int .i64 (vat : Int), .int .i64 (6 : Int), .int .i64 (D.c i : Int), .int .i64 (D.N i), .int .i64 (D.To i), .int .i64 vin] 109) = W1 at h5 hW ⊢
  generalize w.heap.size = g5 at h5 ⊢
  clear k0 k1 k2 k3 k4 k5 c0 x1 l0 l1 l2 h
  obtain ⟨s0, s1, s2, s3, s4, s5, sf⟩ := six h5
  have l5 := (Array.getElem?_eq_some_iff.1 h5).1
  replace hW := hd hW
  refine dpop_any hD (by first | exact hW.out | exact hW.out.drew hD | exact hW.out.drewN hD _) _ ?_
  intro w2 hw2 hk2
  have g2 := (hk2 _ _ _ _ h5 (by decide) (by decide)).trans h5
  clear s0 s1 s2 s3 s4 s5 sf l5
  have hyb := hW.out.hS y (by simp)
  have hxb := hW.out.hS x (by simp)
  unfold in32 at hyb hxb
  replace hw2 := hd hw2
  clear hk2 hW h5
  go_wp2_with (fail)
  refine dpop_any hD (by first | exact hw2.out | exact hw2.out.drew hD | exact hw2.out.drewN hD _) _ ?_
  intro w3 hw3 hk3
  have g3 := (hk3 _ _ _ _ g2 (by decide) (by decide)).trans g2
  obtain ⟨s0, s1, s2, s3, s4, s5, sf⟩ := six g3
  have l5 := (Array.getElem?_eq_some_iff.1 g3).1
  replace hw3 := hd hw3
  clear hk3 hw2 g2 g3
  go_wp2_with (fail)
  refine rtwo_any _ 6 x y hxb hyb (by omega) _ ?_
  generalize twoV 6 x y = tv at *
  by_cases he : tv.2 = 0
  · have t1 : (tv.2 != 0) = false := by simpa using he
    have ok1 := hd (ok.out he)
    clear ok er
    go_wp2_with (fail)
    refine dpush_any hD hw3.out h40 _ _ ?_
    intro w9 hw9 _
    replace hw9 := hd hw9
    go_wp2
    exact cl1 (ok1.out _ hw9.out) rfl
  · have t1 : (tv.2 != 0) = true := by simpa using he
    have er1 := hd (er.out he)
    clear ok er
    go_wp2
    exact cl1 (er1.out _ hw3.out) rfl
set_option maxRecDepth 100000 in
set_option maxHeartbeats 2000000 in
theorem rstep7 {D : Dk} (hD : DkOk D) {dn : Int} {C : Nat → Int} {Lf S : List Int} {x y : Int} {w : World} (h : DS D dn C Lf (y :: x :: S) w) (h40 : S.length ≤ 40) (i : Nat) (hi : i < D.M.n) (ho : D.M.op i = 7) (R : Ending → World → Prop)
    (ok : (twoV 7 x y).2 = 0 → ∀ w', DS D dn C Lf (wrap32 (twoV 7 x y).1 :: S) w' → R (.returned (.tuple #[.int .i64 ((i : Int) + 1), .int .i64 0])) w')
    (er : (twoV 7 x y).2 ≠ 0 → ∀ w', DS D dn C Lf S w' → R (.returned (.tuple #[.int .i64 0, .int .i64 (twoV 7 x y).2])) w') :
    Calls Tryz.prog 48 #[.pointer (some ⟨D.bm, 0, none⟩), .int .i64 (i : Int)] w R := by
  obtain ⟨sv, rv, hm, hs, hr, ha⟩ := h.ex
  have c0 := hm.c0
  have x1 := (hm.img hD).2
  have htb := hm.code hD
  obtain ⟨k0, k1, k2, k3, k4, k5⟩ := six_codeA htb hi
  have l0 := hm.row.lt
  have l1 := World.block_lt_of_cell? w _ x1
  have l2 := htb.lt
  have hn := hD.n
  have j0 : (0 : Int) ≤ (i : Int) := by omega
  have j1 : (i : Int) < (D.M.n : Int) := by omega
  rw [ho] at k1
  replace ok := hd ok
  replace er := hd er
  replace h := hd h
  clear hm hs hr ha htb
  generalize D.M.at_ i = vat at k0
  generalize D.inn i = vin at k5
  go_enter Tryz.func48, Tryz.ntmps48
  go_wp2_with (fail)
  have h5 := alloc_at (W := w) (o := Obj.cells #[.int .i64 (vat : Int), .int .i64 (7 : Int), .int .i64 (D.c i : Int), .int .i64 (D.N i), .int .i64 (D.To i), .int .i64 vin] 109) rfl
  have hW := h.out.below hD ((Below.refl w.heap.size w).alloc (Nat.le_refl _) (Obj.cells #[.int .i64 (vat : Int), .int .i64 (7 : Int), .int .i64 (D.c i : Int), .int .i64 (D.N i), .int .i64 (D.To i), .int .i64 vin] 109))
  generalize w.alloc (Obj.cells #[.int .i64 (vat : Int), .int .i64 (7 : Int), .int .i64 (D.c i : Int), .int .i64 (D.N i), .int .i64 (D.To i), .int .i64 vin] 109) = W1 at h5 hW ⊢
  generalize w.heap.size = g5 at h5 ⊢
  clear k0 k1 k2 k3 k4 k5 c0 x1 l0 l1 l2 h
  obtain ⟨s0, s1, s2, s3, s4, s5, sf⟩ := six h5
  have l5 := (Array.getElem?_eq_some_iff.1 h5).1
  replace hW := hd hW
  refine dpop_any hD (by first | exact hW.out | exact hW.out.drew hD | exact hW.out.drewN hD _) _ ?_
  intro w2 hw2 hk2
  have g2 := (hk2 _ _ _ _ h5 (by decide) (by decide)).trans h5
  clear s0 s1 s2 s3 s4 s5 sf l5
  have hyb := hW.out.hS y (by simp)
  have hxb := hW.out.hS x (by simp)
  unfold in32 at hyb hxb
  replace hw2 := hd hw2
  clear hk2 hW h5
  go_wp2_with (fail)
  refine dpop_any hD (by first | exact hw2.out | exact hw2.out.drew hD | exact hw2.out.drewN hD _) _ ?_
  intro w3 hw3 hk3
  have g3 := (hk3 _ _ _ _ g2 (by decide) (by decide)).trans g2
  obtain ⟨s0, s1, s2, s3, s4, s5, sf⟩ := six g3
  have l5 := (Array.getElem?_eq_some_iff.1 g3).1
  replace hw3 := hd hw3
  clear hk3 hw2 g2 g3
  go_wp2_with (fail)
  refine rtwo_any _ 7 x y hxb hyb (by omega) _ ?_
  generalize twoV 7 x y = tv at *
  by_cases he : tv.2 = 0
  · have t1 : (tv.2 != 0) = false := by simpa using he
    have ok1 := hd (ok.out he)
    clear ok er
    go_wp2_with (fail)
    refine dpush_any hD hw3.out h40 _ _ ?_
    intro w9 hw9 _
    replace hw9 := hd hw9
    go_wp2
    exact cl1 (ok1.out _ hw9.out) rfl
  · have t1 : (tv.2 != 0) = true := by simpa using he
    have er1 := hd (er.out he)
    clear ok er
    go_wp2
    exact cl1 (er1.out _ hw3.out) rfl
set_option maxRecDepth 100000 in
set_option maxHeartbeats 2000000 in
theorem rstep8 {D : Dk} (hD : DkOk D) {dn : Int} {C : Nat → Int} {Lf S : List Int} {x y : Int} {w : World} (h : DS D dn C Lf (y :: x :: S) w) (h40 : S.length ≤ 40) (i : Nat) (hi : i < D.M.n) (ho : D.M.op i = 8) (R : Ending → World → Prop)
    (ok : (twoV 8 x y).2 = 0 → ∀ w', DS D dn C Lf (wrap32 (twoV 8 x y).1 :: S) w' → R (.returned (.tuple #[.int .i64 ((i : Int) + 1), .int .i64 0])) w')
    (er : (twoV 8 x y).2 ≠ 0 → ∀ w', DS D dn C Lf S w' → R (.returned (.tuple #[.int .i64 0, .int .i64 (twoV 8 x y).2])) w') :
    Calls Tryz.prog 48 #[.pointer (some ⟨D.bm, 0, none⟩), .int .i64 (i : Int)] w R := by
  obtain ⟨sv, rv, hm, hs, hr, ha⟩ := h.ex
  have c0 := hm.c0
  have x1 := (hm.img hD).2
  have htb := hm.code hD
  obtain ⟨k0, k1, k2, k3, k4, k5⟩ := six_codeA htb hi
  have l0 := hm.row.lt
  have l1 := World.block_lt_of_cell? w _ x1
  have l2 := htb.lt
  have hn := hD.n
  have j0 : (0 : Int) ≤ (i : Int) := by omega
  have j1 : (i : Int) < (D.M.n : Int) := by omega
  rw [ho] at k1
  replace ok := hd ok
  replace er := hd er
  replace h := hd h
  clear hm hs hr ha htb
  generalize D.M.at_ i = vat at k0
  generalize D.inn i = vin at k5
  go_enter Tryz.func48, Tryz.ntmps48
  go_wp2_with (fail)
  have h5 := alloc_at (W := w) (o := Obj.cells #[.int .i64 (vat : Int), .int .i64 (8 : Int), .int .i64 (D.c i : Int), .int .i64 (D.N i), .int .i64 (D.To i), .int .i64 vin] 109) rfl
  have hW := h.out.below hD ((Below.refl w.heap.size w).alloc (Nat.le_refl _) (Obj.cells #[.int .i64 (vat : Int), .int .i64 (8 : Int), .int .i64 (D.c i : Int), .int .i64 (D.N i), .int .i64 (D.To i), .int .i64 vin] 109))
  generalize w.alloc (Obj.cells #[.int .i64 (vat : Int), .int .i64 (8 : Int), .int .i64 (D.c i : Int), .int .i64 (D.N i), .int .i64 (D.To i), .int .i64 vin] 109) = W1 at h5 hW ⊢
  generalize w.heap.size = g5 at h5 ⊢
  clear k0 k1 k2 k3 k4 k5 c0 x1 l0 l1 l2 h
  obtain ⟨s0, s1, s2, s3, s4, s5, sf⟩ := six h5
  have l5 := (Array.getElem?_eq_some_iff.1 h5).1
  replace hW := hd hW
  refine dpop_any hD (by first | exact hW.out | exact hW.out.drew hD | exact hW.out.drewN hD _) _ ?_
  intro w2 hw2 hk2
  have g2 := (hk2 _ _ _ _ h5 (by decide) (by decide)).trans h5
  clear s0 s1 s2 s3 s4 s5 sf l5
  have hyb := hW.out.hS y (by simp)
  have hxb := hW.out.hS x (by simp)
  unfold in32 at hyb hxb
  replace hw2 := hd hw2
  clear hk2 hW h5
  go_wp2_with (fail)
  refine dpop_any hD (by first | exact hw2.out | exact hw2.out.drew hD | exact hw2.out.drewN hD _) _ ?_
  intro w3 hw3 hk3
  have g3 := (hk3 _ _ _ _ g2 (by decide) (by decide)).trans g2
  obtain ⟨s0, s1, s2, s3, s4, s5, sf⟩ := six g3
  have l5 := (Array.getElem?_eq_some_iff.1 g3).1
  replace hw3 := hd hw3
  clear hk3 hw2 g2 g3
  go_wp2_with (fail)
  refine rtwo_any _ 8 x y hxb hyb (by omega) _ ?_
  generalize twoV 8 x y = tv at *
  by_cases he : tv.2 = 0
  · have t1 : (tv.2 != 0) = false := by simpa using he
    have ok1 := hd (ok.out he)
    clear ok er
    go_wp2_with (fail)
    refine dpush_any hD hw3.out h40 _ _ ?_
    intro w9 hw9 _
    replace hw9 := hd hw9
    go_wp2
    exact cl1 (ok1.out _ hw9.out) rfl
  · have t1 : (tv.2 != 0) = true := by simpa using he
    have er1 := hd (er.out he)
    clear ok er
    go_wp2
    exact cl1 (er1.out _ hw3.out) rfl
set_option maxRecDepth 100000 in
set_option maxHeartbeats 2000000 in
theorem rstep9 {D : Dk} (hD : DkOk D) {dn : Int} {C : Nat → Int} {Lf S : List Int} {x y : Int} {w : World} (h : DS D dn C Lf (y :: x :: S) w) (h40 : S.length ≤ 40) (i : Nat) (hi : i < D.M.n) (ho : D.M.op i = 9) (R : Ending → World → Prop)
    (ok : (twoV 9 x y).2 = 0 → ∀ w', DS D dn C Lf (wrap32 (twoV 9 x y).1 :: S) w' → R (.returned (.tuple #[.int .i64 ((i : Int) + 1), .int .i64 0])) w')
    (er : (twoV 9 x y).2 ≠ 0 → ∀ w', DS D dn C Lf S w' → R (.returned (.tuple #[.int .i64 0, .int .i64 (twoV 9 x y).2])) w') :
    Calls Tryz.prog 48 #[.pointer (some ⟨D.bm, 0, none⟩), .int .i64 (i : Int)] w R := by
  obtain ⟨sv, rv, hm, hs, hr, ha⟩ := h.ex
  have c0 := hm.c0
  have x1 := (hm.img hD).2
  have htb := hm.code hD
  obtain ⟨k0, k1, k2, k3, k4, k5⟩ := six_codeA htb hi
  have l0 := hm.row.lt
  have l1 := World.block_lt_of_cell? w _ x1
  have l2 := htb.lt
  have hn := hD.n
  have j0 : (0 : Int) ≤ (i : Int) := by omega
  have j1 : (i : Int) < (D.M.n : Int) := by omega
  rw [ho] at k1
  replace ok := hd ok
  replace er := hd er
  replace h := hd h
  clear hm hs hr ha htb
  generalize D.M.at_ i = vat at k0
  generalize D.inn i = vin at k5
  go_enter Tryz.func48, Tryz.ntmps48
  go_wp2_with (fail)
  have h5 := alloc_at (W := w) (o := Obj.cells #[.int .i64 (vat : Int), .int .i64 (9 : Int), .int .i64 (D.c i : Int), .int .i64 (D.N i), .int .i64 (D.To i), .int .i64 vin] 109) rfl
  have hW := h.out.below hD ((Below.refl w.heap.size w).alloc (Nat.le_refl _) (Obj.cells #[.int .i64 (vat : Int), .int .i64 (9 : Int), .int .i64 (D.c i : Int), .int .i64 (D.N i), .int .i64 (D.To i), .int .i64 vin] 109))
  generalize w.alloc (Obj.cells #[.int .i64 (vat : Int), .int .i64 (9 : Int), .int .i64 (D.c i : Int), .int .i64 (D.N i), .int .i64 (D.To i), .int .i64 vin] 109) = W1 at h5 hW ⊢
  generalize w.heap.size = g5 at h5 ⊢
  clear k0 k1 k2 k3 k4 k5 c0 x1 l0 l1 l2 h
  obtain ⟨s0, s1, s2, s3, s4, s5, sf⟩ := six h5
  have l5 := (Array.getElem?_eq_some_iff.1 h5).1
  replace hW := hd hW
  refine dpop_any hD (by first | exact hW.out | exact hW.out.drew hD | exact hW.out.drewN hD _) _ ?_
  intro w2 hw2 hk2
  have g2 := (hk2 _ _ _ _ h5 (by decide) (by decide)).trans h5
  clear s0 s1 s2 s3 s4 s5 sf l5
  have hyb := hW.out.hS y (by simp)
  have hxb := hW.out.hS x (by simp)
  unfold in32 at hyb hxb
  replace hw2 := hd hw2
  clear hk2 hW h5
  go_wp2_with (fail)
  refine dpop_any hD (by first | exact hw2.out | exact hw2.out.drew hD | exact hw2.out.drewN hD _) _ ?_
  intro w3 hw3 hk3
  have g3 := (hk3 _ _ _ _ g2 (by decide) (by decide)).trans g2
  obtain ⟨s0, s1, s2, s3, s4, s5, sf⟩ := six g3
  have l5 := (Array.getElem?_eq_some_iff.1 g3).1
  replace hw3 := hd hw3
  clear hk3 hw2 g2 g3
  go_wp2_with (fail)
  refine rtwo_any _ 9 x y hxb hyb (by omega) _ ?_
  generalize twoV 9 x y = tv at *
  by_cases he : tv.2 = 0
  · have t1 : (tv.2 != 0) = false := by simpa using he
    have ok1 := hd (ok.out he)
    clear ok er
    go_wp2_with (fail)
    refine dpush_any hD hw3.out h40 _ _ ?_
    intro w9 hw9 _
    replace hw9 := hd hw9
    go_wp2
    exact cl1 (ok1.out _ hw9.out) rfl
  · have t1 : (tv.2 != 0) = true := by simpa using he
    have er1 := hd (er.out he)
    clear ok er
    go_wp2
    exact cl1 (er1.out _ hw3.out) rfl
set_option maxRecDepth 100000 in
set_option maxHeartbeats 2000000 in
theorem rstep10 {D : Dk} (hD : DkOk D) {dn : Int} {C : Nat → Int} {Lf S : List Int} {x y : Int} {w : World} (h : DS D dn C Lf (y :: x :: S) w) (h40 : S.length ≤ 40) (i : Nat) (hi : i < D.M.n) (ho : D.M.op i = 10) (R : Ending → World → Prop)
    (ok : (twoV 10 x y).2 = 0 → ∀ w', DS D dn C Lf (wrap32 (twoV 10 x y).1 :: S) w' → R (.returned (.tuple #[.int .i64 ((i : Int) + 1), .int .i64 0])) w')
    (er : (twoV 10 x y).2 ≠ 0 → ∀ w', DS D dn C Lf S w' → R (.returned (.tuple #[.int .i64 0, .int .i64 (twoV 10 x y).2])) w') :
    Calls Tryz.prog 48 #[.pointer (some ⟨D.bm, 0, none⟩), .int .i64 (i : Int)] w R := by
  obtain ⟨sv, rv, hm, hs, hr, ha⟩ := h.ex
  have c0 := hm.c0
  have x1 := (hm.img hD).2
  have htb := hm.code hD
  obtain ⟨k0, k1, k2, k3, k4, k5⟩ := six_codeA htb hi
  have l0 := hm.row.lt
  have l1 := World.block_lt_of_cell? w _ x1
  have l2 := htb.lt
  have hn := hD.n
  have j0 : (0 : Int) ≤ (i : Int) := by omega
  have j1 : (i : Int) < (D.M.n : Int) := by omega
  rw [ho] at k1
  replace ok := hd ok
  replace er := hd er
  replace h := hd h
  clear hm hs hr ha htb
  generalize D.M.at_ i = vat at k0
  generalize D.inn i = vin at k5
  go_enter Tryz.func48, Tryz.ntmps48
  go_wp2_with (fail)
  have h5 := alloc_at (W := w) (o := Obj.cells #[.int .i64 (vat : Int), .int .i64 (10 : Int), .int .i64 (D.c i : Int), .int .i64 (D.N i), .int .i64 (D.To i), .int .i64 vin] 109) rfl
  have hW := h.out.below hD ((Below.refl w.heap.size w).alloc (Nat.le_refl _) (Obj.cells #[.int .i64 (vat : Int), .int .i64 (10 : Int), .int .i64 (D.c i : Int), .int .i64 (D.N i), .int .i64 (D.To i), .int .i64 vin] 109))
  generalize w.alloc (Obj.cells #[.int .i64 (vat : Int), .int .i64 (10 : Int), .int .i64 (D.c i : Int), .int .i64 (D.N i), .int .i64 (D.To i), .int .i64 vin] 109) = W1 at h5 hW ⊢
  generalize w.heap.size = g5 at h5 ⊢
  clear k0 k1 k2 k3 k4 k5 c0 x1 l0 l1 l2 h
  obtain ⟨s0, s1, s2, s3, s4, s5, sf⟩ := six h5
  have l5 := (Array.getElem?_eq_some_iff.1 h5).1
  replace hW := hd hW
  refine dpop_any hD (by first | exact hW.out | exact hW.out.drew hD | exact hW.out.drewN hD _) _ ?_
  intro w2 hw2 hk2
  have g2 := (hk2 _ _ _ _ h5 (by decide) (by decide)).trans h5
  clear s0 s1 s2 s3 s4 s5 sf l5
  have hyb := hW.out.hS y (by simp)
  have hxb := hW.out.hS x (by simp)
  unfold in32 at hyb hxb
  replace hw2 := hd hw2
  clear hk2 hW h5
  go_wp2_with (fail)
  refine dpop_any hD (by first | exact hw2.out | exact hw2.out.drew hD | exact hw2.out.drewN hD _) _ ?_
  intro w3 hw3 hk3
  have g3 := (hk3 _ _ _ _ g2 (by decide) (by decide)).trans g2
  obtain ⟨s0, s1, s2, s3, s4, s5, sf⟩ := six g3
  have l5 := (Array.getElem?_eq_some_iff.1 g3).1
  replace hw3 := hd hw3
  clear hk3 hw2 g2 g3
  go_wp2_with (fail)
  refine rtwo_any _ 10 x y hxb hyb (by omega) _ ?_
  generalize twoV 10 x y = tv at *
  by_cases he : tv.2 = 0
  · have t1 : (tv.2 != 0) = false := by simpa using he
    have ok1 := hd (ok.out he)
    clear ok er
    go_wp2_with (fail)
    refine dpush_any hD hw3.out h40 _ _ ?_
    intro w9 hw9 _
    replace hw9 := hd hw9
    go_wp2
    exact cl1 (ok1.out _ hw9.out) rfl
  · have t1 : (tv.2 != 0) = true := by simpa using he
    have er1 := hd (er.out he)
    clear ok er
    go_wp2
    exact cl1 (er1.out _ hw3.out) rfl
set_option maxRecDepth 100000 in
set_option maxHeartbeats 2000000 in
theorem rstep11 {D : Dk} (hD : DkOk D) {dn : Int} {C : Nat → Int} {Lf S : List Int} {x y : Int} {w : World} (h : DS D dn C Lf (y :: x :: S) w) (h40 : S.length ≤ 40) (i : Nat) (hi : i < D.M.n) (ho : D.M.op i = 11) (R : Ending → World → Prop)
    (ok : (twoV 11 x y).2 = 0 → ∀ w', DS D dn C Lf (wrap32 (twoV 11 x y).1 :: S) w' → R (.returned (.tuple #[.int .i64 ((i : Int) + 1), .int .i64 0])) w')
    (er : (twoV 11 x y).2 ≠ 0 → ∀ w', DS D dn C Lf S w' → R (.returned (.tuple #[.int .i64 0, .int .i64 (twoV 11 x y).2])) w') :
    Calls Tryz.prog 48 #[.pointer (some ⟨D.bm, 0, none⟩), .int .i64 (i : Int)] w R := by
  obtain ⟨sv, rv, hm, hs, hr, ha⟩ := h.ex
  have c0 := hm.c0
  have x1 := (hm.img hD).2
  have htb := hm.code hD
  obtain ⟨k0, k1, k2, k3, k4, k5⟩ := six_codeA htb hi
  have l0 := hm.row.lt
  have l1 := World.block_lt_of_cell? w _ x1
  have l2 := htb.lt
  have hn := hD.n
  have j0 : (0 : Int) ≤ (i : Int) := by omega
  have j1 : (i : Int) < (D.M.n : Int) := by omega
  rw [ho] at k1
  replace ok := hd ok
  replace er := hd er
  replace h := hd h
  clear hm hs hr ha htb
  generalize D.M.at_ i = vat at k0
  generalize D.inn i = vin at k5
  go_enter Tryz.func48, Tryz.ntmps48
  go_wp2_with (fail)
  have h5 := alloc_at (W := w) (o := Obj.cells #[.int .i64 (vat : Int), .int .i64 (11 : Int), .int .i64 (D.c i : Int), .int .i64 (D.N i), .int .i64 (D.To i), .int .i64 vin] 109) rfl
  have hW := h.out.below hD ((Below.refl w.heap.size w).alloc (Nat.le_refl _) (Obj.cells #[.int .i64 (vat : Int), .int .i64 (11 : Int), .int .i64 (D.c i : Int), .int .i64 (D.N i), .int .i64 (D.To i), .int .i64 vin] 109))
  generalize w.alloc (Obj.cells #[.int .i64 (vat : Int), .int .i64 (11 : Int), .int .i64 (D.c i : Int), .int .i64 (D.N i), .int .i64 (D.To i), .int .i64 vin] 109) = W1 at h5 hW ⊢
  generalize w.heap.size = g5 at h5 ⊢
  clear k0 k1 k2 k3 k4 k5 c0 x1 l0 l1 l2 h
  obtain ⟨s0, s1, s2, s3, s4, s5, sf⟩ := six h5
  have l5 := (Array.getElem?_eq_some_iff.1 h5).1
  replace hW := hd hW
  refine dpop_any hD (by first | exact hW.out | exact hW.out.drew hD | exact hW.out.drewN hD _) _ ?_
  intro w2 hw2 hk2
  have g2 := (hk2 _ _ _ _ h5 (by decide) (by decide)).trans h5
  clear s0 s1 s2 s3 s4 s5 sf l5
  have hyb := hW.out.hS y (by simp)
  have hxb := hW.out.hS x (by simp)
  unfold in32 at hyb hxb
  replace hw2 := hd hw2
  clear hk2 hW h5
  go_wp2_with (fail)
  refine dpop_any hD (by first | exact hw2.out | exact hw2.out.drew hD | exact hw2.out.drewN hD _) _ ?_
  intro w3 hw3 hk3
  have g3 := (hk3 _ _ _ _ g2 (by decide) (by decide)).trans g2
  obtain ⟨s0, s1, s2, s3, s4, s5, sf⟩ := six g3
  have l5 := (Array.getElem?_eq_some_iff.1 g3).1
  replace hw3 := hd hw3
  clear hk3 hw2 g2 g3
  go_wp2_with (fail)
  refine rtwo_any _ 11 x y hxb hyb (by omega) _ ?_
  generalize twoV 11 x y = tv at *
  by_cases he : tv.2 = 0
  · have t1 : (tv.2 != 0) = false := by simpa using he
    have ok1 := hd (ok.out he)
    clear ok er
    go_wp2_with (fail)
    refine dpush_any hD hw3.out h40 _ _ ?_
    intro w9 hw9 _
    replace hw9 := hd hw9
    go_wp2
    exact cl1 (ok1.out _ hw9.out) rfl
  · have t1 : (tv.2 != 0) = true := by simpa using he
    have er1 := hd (er.out he)
    clear ok er
    go_wp2
    exact cl1 (er1.out _ hw3.out) rfl
set_option maxRecDepth 100000 in
set_option maxHeartbeats 2000000 in
theorem rstep12 {D : Dk} (hD : DkOk D) {dn : Int} {C : Nat → Int} {Lf S : List Int} {x y : Int} {w : World} (h : DS D dn C Lf (y :: x :: S) w) (h40 : S.length ≤ 40) (i : Nat) (hi : i < D.M.n) (ho : D.M.op i = 12) (R : Ending → World → Prop)
    (ok : (twoV 12 x y).2 = 0 → ∀ w', DS D dn C Lf (wrap32 (twoV 12 x y).1 :: S) w' → R (.returned (.tuple #[.int .i64 ((i : Int) + 1), .int .i64 0])) w')
    (er : (twoV 12 x y).2 ≠ 0 → ∀ w', DS D dn C Lf S w' → R (.returned (.tuple #[.int .i64 0, .int .i64 (twoV 12 x y).2])) w') :
    Calls Tryz.prog 48 #[.pointer (some ⟨D.bm, 0, none⟩), .int .i64 (i : Int)] w R := by
  obtain ⟨sv, rv, hm, hs, hr, ha⟩ := h.ex
  have c0 := hm.c0
  have x1 := (hm.img hD).2
  have htb := hm.code hD
  obtain ⟨k0, k1, k2, k3, k4, k5⟩ := six_codeA htb hi
  have l0 := hm.row.lt
  have l1 := World.block_lt_of_cell? w _ x1
  have l2 := htb.lt
  have hn := hD.n
  have j0 : (0 : Int) ≤ (i : Int) := by omega
  have j1 : (i : Int) < (D.M.n : Int) := by omega
  rw [ho] at k1
  replace ok := hd ok
  replace er := hd er
  replace h := hd h
  clear hm hs hr ha htb
  generalize D.M.at_ i = vat at k0
  generalize D.inn i = vin at k5
  go_enter Tryz.func48, Tryz.ntmps48
  go_wp2_with (fail)
  have h5 := alloc_at (W := w) (o := Obj.cells #[.int .i64 (vat : Int), .int .i64 (12 : Int), .int .i64 (D.c i : Int), .int .i64 (D.N i), .int .i64 (D.To i), .int .i64 vin] 109) rfl
  have hW := h.out.below hD ((Below.refl w.heap.size w).alloc (Nat.le_refl _) (Obj.cells #[.int .i64 (vat : Int), .int .i64 (12 : Int), .int .i64 (D.c i : Int), .int .i64 (D.N i), .int .i64 (D.To i), .int .i64 vin] 109))
  generalize w.alloc (Obj.cells #[.int .i64 (vat : Int), .int .i64 (12 : Int), .int .i64 (D.c i : Int), .int .i64 (D.N i), .int .i64 (D.To i), .int .i64 vin] 109) = W1 at h5 hW ⊢
  generalize w.heap.size = g5 at h5 ⊢
  clear k0 k1 k2 k3 k4 k5 c0 x1 l0 l1 l2 h
  obtain ⟨s0, s1, s2, s3, s4, s5, sf⟩ := six h5
  have l5 := (Array.getElem?_eq_some_iff.1 h5).1
  replace hW := hd hW
  refine dpop_any hD (by first | exact hW.out | exact hW.out.drew hD | exact hW.out.drewN hD _) _ ?_
  intro w2 hw2 hk2
  have g2 := (hk2 _ _ _ _ h5 (by decide) (by decide)).trans h5
  clear s0 s1 s2 s3 s4 s5 sf l5
  have hyb := hW.out.hS y (by simp)
  have hxb := hW.out.hS x (by simp)
  unfold in32 at hyb hxb
  replace hw2 := hd hw2
  clear hk2 hW h5
  go_wp2_with (fail)
  refine dpop_any hD (by first | exact hw2.out | exact hw2.out.drew hD | exact hw2.out.drewN hD _) _ ?_
  intro w3 hw3 hk3
  have g3 := (hk3 _ _ _ _ g2 (by decide) (by decide)).trans g2
  obtain ⟨s0, s1, s2, s3, s4, s5, sf⟩ := six g3
  have l5 := (Array.getElem?_eq_some_iff.1 g3).1
  replace hw3 := hd hw3
  clear hk3 hw2 g2 g3
  go_wp2_with (fail)
  refine rtwo_any _ 12 x y hxb hyb (by omega) _ ?_
  generalize twoV 12 x y = tv at *
  by_cases he : tv.2 = 0
  · have t1 : (tv.2 != 0) = false := by simpa using he
    have ok1 := hd (ok.out he)
    clear ok er
    go_wp2_with (fail)
    refine dpush_any hD hw3.out h40 _ _ ?_
    intro w9 hw9 _
    replace hw9 := hd hw9
    go_wp2
    exact cl1 (ok1.out _ hw9.out) rfl
  · have t1 : (tv.2 != 0) = true := by simpa using he
    have er1 := hd (er.out he)
    clear ok er
    go_wp2
    exact cl1 (er1.out _ hw3.out) rfl
set_option maxRecDepth 100000 in
set_option maxHeartbeats 2000000 in
theorem rstep14 {D : Dk} (hD : DkOk D) {dn : Int} {C : Nat → Int} {Lf S : List Int} {x y : Int} {w : World} (h : DS D dn C Lf (y :: x :: S) w) (h40 : S.length ≤ 40) (i : Nat) (hi : i < D.M.n) (ho : D.M.op i = 14) (R : Ending → World → Prop)
    (ok : (twoV 14 x y).2 = 0 → ∀ w', DS D dn C Lf (wrap32 (twoV 14 x y).1 :: S) w' → R (.returned (.tuple #[.int .i64 ((i : Int) + 1), .int .i64 0])) w')
    (er : (twoV 14 x y).2 ≠ 0 → ∀ w', DS D dn C Lf S w' → R (.returned (.tuple #[.int .i64 0, .int .i64 (twoV 14 x y).2])) w') :
    Calls Tryz.prog 48 #[.pointer (some ⟨D.bm, 0, none⟩), .int .i64 (i : Int)] w R := by
  obtain ⟨sv, rv, hm, hs, hr, ha⟩ := h.ex
  have c0 := hm.c0
  have x1 := (hm.img hD).2
  have htb := hm.code hD
  obtain ⟨k0, k1, k2, k3, k4, k5⟩ := six_codeA htb hi
  have l0 := hm.row.lt
  have l1 := World.block_lt_of_cell? w _ x1
  have l2 := htb.lt
  have hn := hD.n
  have j0 : (0 : Int) ≤ (i : Int) := by omega
  have j1 : (i : Int) < (D.M.n : Int) := by omega
  rw [ho] at k1
  replace ok := hd ok
  replace er := hd er
  replace h := hd h
  clear hm hs hr ha htb
  generalize D.M.at_ i = vat at k0
  generalize D.inn i = vin at k5
  go_enter Tryz.func48, Tryz.ntmps48
  go_wp2_with (fail)
  have h5 := alloc_at (W := w) (o := Obj.cells #[.int .i64 (vat : Int), .int .i64 (14 : Int), .int .i64 (D.c i : Int), .int .i64 (D.N i), .int .i64 (D.To i), .int .i64 vin] 109) rfl
  have hW := h.out.below hD ((Below.refl w.heap.size w).alloc (Nat.le_refl _) (Obj.cells #[.int .i64 (vat : Int), .int .i64 (14 : Int), .int .i64 (D.c i : Int), .int .i64 (D.N i), .int .i64 (D.To i), .int .i64 vin] 109))
  generalize w.alloc (Obj.cells #[.int .i64 (vat : Int), .int .i64 (14 : Int), .int .i64 (D.c i : Int), .int .i64 (D.N i), .int .i64 (D.To i), .int .i64 vin] 109) = W1 at h5 hW ⊢
  generalize w.heap.size = g5 at h5 ⊢
  clear k0 k1 k2 k3 k4 k5 c0 x1 l0 l1 l2 h
  obtain ⟨s0, s1, s2, s3, s4, s5, sf⟩ := six h5
  have l5 := (Array.getElem?_eq_some_iff.1 h5).1
  replace hW := hd hW
  refine dpop_any hD (by first | exact hW.out | exact hW.out.drew hD | exact hW.out.drewN hD _) _ ?_
  intro w2 hw2 hk2
  have g2 := (hk2 _ _ _ _ h5 (by decide) (by decide)).trans h5
  clear s0 s1 s2 s3 s4 s5 sf l5
  have hyb := hW.out.hS y (by simp)
  have hxb := hW.out.hS x (by simp)
  unfold in32 at hyb hxb
  replace hw2 := hd hw2
  clear hk2 hW h5
  go_wp2_with (fail)
  refine dpop_any hD (by first | exact hw2.out | exact hw2.out.drew hD | exact hw2.out.drewN hD _) _ ?_
  intro w3 hw3 hk3
  have g3 := (hk3 _ _ _ _ g2 (by decide) (by decide)).trans g2
  obtain ⟨s0, s1, s2, s3, s4, s5, sf⟩ := six g3
  have l5 := (Array.getElem?_eq_some_iff.1 g3).1
  replace hw3 := hd hw3
  clear hk3 hw2 g2 g3
  go_wp2_with (fail)
  refine rtwo_any _ 14 x y hxb hyb (by omega) _ ?_
  generalize twoV 14 x y = tv at *
  by_cases he : tv.2 = 0
  · have t1 : (tv.2 != 0) = false := by simpa using he
    have ok1 := hd (ok.out he)
    clear ok er
    go_wp2_with (fail)
    refine dpush_any hD hw3.out h40 _ _ ?_
    intro w9 hw9 _
    replace hw9 := hd hw9
    go_wp2
    exact cl1 (ok1.out _ hw9.out) rfl
  · have t1 : (tv.2 != 0) = true := by simpa using he
    have er1 := hd (er.out he)
    clear ok er
    go_wp2
    exact cl1 (er1.out _ hw3.out) rfl
set_option maxRecDepth 100000 in
set_option maxHeartbeats 2000000 in
theorem rstep15 {D : Dk} (hD : DkOk D) {dn : Int} {C : Nat → Int} {Lf S : List Int} {x y : Int} {w : World} (h : DS D dn C Lf (y :: x :: S) w) (h40 : S.length ≤ 40) (i : Nat) (hi : i < D.M.n) (ho : D.M.op i = 15) (R : Ending → World → Prop)
    (ok : (twoV 15 x y).2 = 0 → ∀ w', DS D dn C Lf (wrap32 (twoV 15 x y).1 :: S) w' → R (.returned (.tuple #[.int .i64 ((i : Int) + 1), .int .i64 0])) w')
    (er : (twoV 15 x y).2 ≠ 0 → ∀ w', DS D dn C Lf S w' → R (.returned (.tuple #[.int .i64 0, .int .i64 (twoV 15 x y).2])) w') :
    Calls Tryz.prog 48 #[.pointer (some ⟨D.bm, 0, none⟩), .int .i64 (i : Int)] w R := by
  obtain ⟨sv, rv, hm, hs, hr, ha⟩ := h.ex
  have c0 := hm.c0
  have x1 := (hm.img hD).2
  have htb := hm.code hD
  obtain ⟨k0, k1, k2, k3, k4, k5⟩ := six_codeA htb hi
  have l0 := hm.row.lt
  have l1 := World.block_lt_of_cell? w _ x1
  have l2 := htb.lt
  have hn := hD.n
  have j0 : (0 : Int) ≤ (i : Int) := by omega
  have j1 : (i : Int) < (D.M.n : Int) := by omega
  rw [ho] at k1
  replace ok := hd ok
  replace er := hd er
  replace h := hd h
  clear hm hs hr ha htb
  generalize D.M.at_ i = vat at k0
  generalize D.inn i = vin at k5
  go_enter Tryz.func48, Tryz.ntmps48
  go_wp2_with (fail)
  have h5 := alloc_at (W := w) (o := Obj.cells #[.int .i64 (vat : Int), .int .i64 (15 : Int), .int .i64 (D.c i : Int), .int .i64 (D.N i), .int .i64 (D.To i), .int .i64 vin] 109) rfl
  have hW := h.out.below hD ((Below.refl w.heap.size w).alloc (Nat.le_refl _) (Obj.cells #[.int .i64 (vat : Int), .int .i64 (15 : Int), .int .i64 (D.c i : Int), .int .i64 (D.N i), .int .i64 (D.To i), .int .i64 vin] 109))
  generalize w.alloc (Obj.cells #[.int .i64 (vat : Int), .int .i64 (15 : Int), .int .i64 (D.c i : Int), .int .i64 (D.N i), .int .i64 (D.To i), .int .i64 vin] 109) = W1 at h5 hW ⊢
  generalize w.heap.size = g5 at h5 ⊢
  clear k0 k1 k2 k3 k4 k5 c0 x1 l0 l1 l2 h
  obtain ⟨s0, s1, s2, s3, s4, s5, sf⟩ := six h5
  have l5 := (Array.getElem?_eq_some_iff.1 h5).1
  replace hW := hd hW
  refine dpop_any hD (by first | exact hW.out | exact hW.out.drew hD | exact hW.out.drewN hD _) _ ?_
  intro w2 hw2 hk2
  have g2 := (hk2 _ _ _ _ h5 (by decide) (by decide)).trans h5
  clear s0 s1 s2 s3 s4 s5 sf l5
  have hyb := hW.out.hS y (by simp)
  have hxb := hW.out.hS x (by simp)
  unfold in32 at hyb hxb
  replace hw2 := hd hw2
  clear hk2 hW h5
  go_wp2_with (fail)
  refine dpop_any hD (by first | exact hw2.out | exact hw2.out.drew hD | exact hw2.out.drewN hD _) _ ?_
  intro w3 hw3 hk3
  have g3 := (hk3 _ _ _ _ g2 (by decide) (by decide)).trans g2
  obtain ⟨s0, s1, s2, s3, s4, s5, sf⟩ := six g3
  have l5 := (Array.getElem?_eq_some_iff.1 g3).1
  replace hw3 := hd hw3
  clear hk3 hw2 g2 g3
  go_wp2_with (fail)
  refine rtwo_any _ 15 x y hxb hyb (by omega) _ ?_
  generalize twoV 15 x y = tv at *
  by_cases he : tv.2 = 0
  · have t1 : (tv.2 != 0) = false := by simpa using he
    have ok1 := hd (ok.out he)
    clear ok er
    go_wp2_with (fail)
    refine dpush_any hD hw3.out h40 _ _ ?_
    intro w9 hw9 _
    replace hw9 := hd hw9
    go_wp2
    exact cl1 (ok1.out _ hw9.out) rfl
  · have t1 : (tv.2 != 0) = true := by simpa using he
    have er1 := hd (er.out he)
    clear ok er
    go_wp2
    exact cl1 (er1.out _ hw3.out) rfl

end Go.Proofs.YtidhiaaicmfabaaGreat
