/- The list of variables; Divided. -/
import Derived.Test.YtidhiaaicmfabaaGreatDoorKaA
import Derived.WalkKit
import Derived.WalkSpells
import Derived.WalkLawsBesides
import Derived.Deep.OwnRows
import Derived.BigQuiet
import Derived.Handy
import Derived.Deep.Light
import Derived.Deep.RegionHeld3
import Derived.Deep.RegionWith
import Derived.Test.YtidhiaaicmfabaaGreatDoorJzP
import Derived.Test.YtidhiaaicmfabaaGreatDoorCards
import Derived.Test.YtidhiaaicmfabaaGreatDoorTie
import Derived.ProofKit
import Derived.OpenShut
import Derived.LaidMore
import Derived.Lay
import Derived.SevenTiedAt
import Derived.Stop.Joined
import Derived.Lib.LaidU8
import Derived.Deep.Strs

/- Divided (seat .ZD alone). -/
namespace Go.Proofs.YtidhiaaicmfabaaGreatDoor
open Go.RowKit Go.Proofs Go.Deep

theorem Dead.belowZ {M : Md} {cv : Value} {C : Nat → Int} {dn e : Int} {w w' : World} (h : Dead M cv C dn e w) (hb : Below w.heap.size w w') : Dead M cv C dn e w' := by
  refine ⟨h.row.of_block (hb.block _ h.row.lt), ?_, h.hC, h.ne⟩
  rcases h.cel with ⟨bc, cap, e, ht⟩ | h
  · exact .inl ⟨bc, cap, e, ht.of_block (hb.block _ ht.lt)⟩
  · exact .inr h
theorem beqT (x : Int) : (x == x) = true := beq_self_eq_true x
set_option maxRecDepth 100000 in
set_option maxHeartbeats 4000000 in
theorem dividedK_any (w : World) (hops : ∀ i v, opC[i]? = some v → w.cell? ⟨4, i, none⟩ = some v) (a b : Int) (R : Ending → World → Prop) (fin : ∀ w', Below w.heap.size w w' → R (.returned (.bool true)) w') :
    Calls Tryz.prog 6 #[.int .i64 a, .int .i64 b] w R := by
  have h4 : 4 < w.heap.size := World.block_lt_of_cell? w ⟨4, 0, none⟩ (hops 0 _ rfl)
  have hx : in32 (wrap32 a) := w32_bd a
  replace fin := hd fin
  go_enter Tryz.func6, Tryz.ntmps6
  go_wp2_with (fail)
  refine copies_any _ _ ?_
  intro w1 hb1
  have hz1 := hb1.size
  have hops1 : ∀ i v, opC[i]? = some v → w1.cell? ⟨4, i, none⟩ = some v := fun i v hv => (hb1.cell (p := ⟨4, i, none⟩) h4).trans (hops i v hv)
  replace hb1 := hd hb1
  go_wp2_with (fail)
  refine dmachine _ hops1 _ ?_
  intro cap bs bx bc To' To H L w2 hb2 hbx hbs hbc hlive hkw
  have hB2 := hb1.out.trans (hb2.mono hz1)
  have hz2 := hB2.size
  have hbxl := hlive.row.lt
  have hbcl := hlive.cel.lt
  have tm : ((Value.pointer (some ⟨bx, 0, none⟩) : Value) = .pointer none) = False := by simp
  have hcase : ∃ y, in32 y ∧ y ≠ 0 ∧ ((wrap32 b == 0) = true ∧ y = 3 ∨ (wrap32 b == 0) = false ∧ y = wrap32 b) := by
    by_cases hb : wrap32 b = 0
    · exact ⟨3, by unfold in32; omega, by omega, .inl ⟨by simpa using hb, rfl⟩⟩
    · exact ⟨wrap32 b, w32_bd b, hb, .inr ⟨by simpa using hb, rfl⟩⟩
  obtain ⟨y, hyin, hy0, hcase⟩ := hcase
  obtain ⟨q, r, hq, hr, hqi, hri, ha1, ha2, ha3, ha4, ha5, ha6⟩ := d_arith hx hyin hy0
  have hlive2 := hlive.below ((Below.refl _ w2).alloc (Nat.le_refl _) (.cells #[.int .i64 (wrap32 a), .int .i64 y] 3))
  have hn2 : w2.heap.size ≠ bc := by omega
  replace hB2 := hd hB2
  replace hlive2 := hd hlive2
  replace hkw := hd hkw
  clear hlive hb2 hb1 hops hops1 tm
  have hpos : (0 < y ∧ y ≤ 2147483647) ∨ (y < 0 ∧ -2147483648 ≤ y) := by unfold in32 at hyin; omega
  have hxs : (wrap32 a < 0 ∧ r = 0) ∨ (wrap32 a < 0 ∧ r < 0) ∨ (0 ≤ wrap32 a ∧ 0 ≤ r) := by omega
  rcases hcase with ⟨t0, hy⟩ | ⟨t0, hy⟩
  all_goals
    go_wp2_with (first | (go_at_call 33; refine long_any _ _ _ ?_))
    rw [← hy]
    refine dtold w.heap.size _ hlive2.out hkw.out (by omega) (by omega) (by simp; omega) allocCells hn2 hx hyin hy0 hq hr _ ?_
    intro w3 go dn3 hb3 hl3 g0 g1 cp
    have hB3 : Below w.heap.size w w3 := (hB2.out.alloc hz2 _).trans hb3
    have hz3 := hB3.size
    have lgo := World.block_lt_of_cell? w3 ⟨go, 0, none⟩ g0
    have hne3 : w3.heap.size ≠ bc := by have := hl3.cel.lt; omega
    have hl3a := hl3.below ((Below.refl _ w3).alloc (Nat.le_refl _) (.cells #[.int .i64 (wrap32 a), .int .i64 0] 3))
    have hbxl3 := hl3.row.lt
    have hbcl3 := hl3.cel.lt
    replace hB3 := hd hB3
    replace hl3a := hd hl3a
    clear hlive2 hB2 hb3 hl3 t0 hy hq hr
    have tl : (wrap32 (q * y + r) != wrap32 a) = false := by rw [ha1]; simp
    have jn : IntKind.i64.wrap (-y) = -y := IntWalk.i64_in _ (by unfold in32 at hyin; omega)
    clear ha1 ha5 ha6
    generalize wrap32 a = X at *
    have hS : ∀ (R' : Ending → World → Prop), (∀ w4 cv dn4, Below w.heap.size w w4 → Dead (dMd cap bs bx To' 9) cv (dC (fun _ => 0) X y q r) dn4 4 w4 → R' (.returned (.int .i64 4)) w4) → Calls Tryz.prog 26 #[.pointer (some ⟨bx, 0, none⟩), .slice (some ⟨w3.heap.size, 0, none⟩) 2 2, .int .i64 0] (w3.alloc (.cells #[.int .i64 X, .int .i64 0] 3)) R' := fun R' hR' => by
      have hi3 : InpAt bc (w3.alloc (.cells #[.int .i64 X, .int .i64 0] 3)) (.slice (some ⟨w3.heap.size, 0, none⟩) 2 2) [X, 0] := inp2 allocCells hne3
      have h00 : in32 0 := by unfold in32; omega
      have hr0 := d_run0 cap bs bx To' 9 (w3.alloc (.cells #[.int .i64 X, .int .i64 0] 3)) 0 (layL (dMd cap bs bx To' 9).rl (dMd cap bs bx To' 9).kd (dMd cap bs bx To' 9).nC 0 [X, 0] (dC (fun _ => 0) X y q r)) (by rw [d_lay cap bs bx To' 9 hx h00]; simp [upd])
      refine scan_any _ (dMd cap bs bx To' 9) bc _ dn3 hl3a.out _ [X, 0] 0 hi3 hkw.out (by show (9 : Int) ≤ 200000; omega) _ ?_ ?_ ?_
      · intro hbad
        rcases hbad with hbad | hbad | hbad
        · rw [d_fits cap bs bx To' 9 hx h00] at hbad; cases hbad
        · omega
        · omega
      · intro _ _ w4 q4 dn4 hr4
        rw [hr4] at hr0
        cases hr0
      · intro _ _ w4 q4 dn4 e4 cv hr4 he4 hdead ht _ _
        rw [hr4] at hr0
        simp only at hr0
        subst hr0
        exact hR' w4 cv dn4 ((hB3.out.alloc hz3 _).trans (ht.below (by show w.heap.size ≤ bx; omega) (by omega) (by simp; omega) rfl)) hdead
    have hO : ∀ (W : World) (cv : Value) (dn4 : Int), Below w.heap.size w W → Dead (dMd cap bs bx To' 9) cv (dC (fun _ => 0) X y q r) dn4 4 W → ∀ (R' : Ending → World → Prop), (∀ w5 g5 cp5, Below w.heap.size w w5 → w5.cell? ⟨g5, 0, none⟩ = some (.int .i64 q) → w5.cell? ⟨g5, 1, none⟩ = some (.int .i64 r) → R' (.returned (.slice (some ⟨g5, 0, none⟩) 2 cp5)) w5) → Calls Tryz.prog 27 #[.pointer (some ⟨bx, 0, none⟩)] W R' := fun W cv dn4 hbW hdead R' hR' => by
      rcases hdead.cel with ⟨bc4, cap4, e4, ht4⟩ | ⟨hn, _⟩
      · have c0 := hdead.row.cell (i := 0) (by omega)
        rw [show machF (dMd cap bs bx To' 9) cv dn4 4 0 = cv from rfl, e4] at c0
        refine outputs_any _ bx bc4 _ cap4 (dMd cap bs bx To' 9).rl (dMd cap bs bx To' 9).kd (dC (fun _ => 0) X y q r) (by show bt dvB 6 ≤ 100; decide) hdead.hC c0 ht4 _ ?_
        intro v w5 hb5 hown
        rw [d_outs] at hown
        obtain ⟨g5, cp5, rfl, _, _, _, _, hgo⟩ := own_one hown (by simp)
        have g0 := hgo 0 (by simp)
        have g1 := hgo 1 (by simp)
        have e2 : dC (fun _ => 0) X y q r 2 = q := by simp [dC, upd]
        have e3 : dC (fun _ => 0) X y q r 3 = r := by simp [dC, upd]
        rw [show (i64L [dC (fun _ => 0) X y q r 3, dC (fun _ => 0) X y q r 2])[0]? = some (.int .i64 (dC (fun _ => 0) X y q r 2)) from rfl, e2] at g0
        rw [show (i64L [dC (fun _ => 0) X y q r 3, dC (fun _ => 0) X y q r 2])[1]? = some (.int .i64 (dC (fun _ => 0) X y q r 3)) from rfl, e3] at g1
        exact hR' w5 g5 cp5 (hbW.trans (hb5.mono hbW.size)) g0 g1
      · exact absurd hn (by show ¬ bt dvB 6 = 0; decide)
    replace hS := hd hS
    replace hO := hd hO
    clear hl3a hne3 hx hqi hri hkw hn2
    rcases hpos with ⟨hy1, hy2⟩ | ⟨hy1, hy2⟩
    · have ty : decide (0 < y) = true := by simpa using hy1
      have ty2 : decide (y < 0) = false := by simp; omega
      have u1 : decide (y ≤ r) = false := by simp; omega
      have u2 : decide (r ≤ -y) = false := by simp; omega
      rcases hxs with ⟨x1, x2⟩ | ⟨x1, x2⟩ | ⟨x1, x2⟩
      · have tx : decide (X < 0) = true := by simpa using x1
        have tr : decide (r < 0) = false := by simp; omega
        have tz : (r != 0) = false := by simp; omega
        clear x2
        go_wp2_with (first | (go_at_call 33; refine long_any _ _ _ ?_))
        refine hS.out _ ?_
        intro w4 cv dn4 hb4 hdead
        have hd5 := hdead.belowZ ((Below.refl _ w4).alloc (Nat.le_refl _) (.cells #[.int .i64 X, .int .i64 y] 3))
        have hb5 : Below w.heap.size w (w4.alloc (.cells #[.int .i64 X, .int .i64 y] 3)) := hb4.alloc hb4.size _
        replace hd5 := hd hd5
        replace hb5 := hd hb5
        clear hdead hb4
        go_wp2_with (fail)
        refine scan_dead _ (dMd cap bs bx To' 9) cv _ dn4 4 hd5.out _ 0 _ ?_
        go_wp2_with (fail)
        refine scan_dead _ (dMd cap bs bx To' 9) cv _ dn4 4 hd5.out _ (-1) _ ?_
        go_wp2_with (fail)
        refine hO.out _ cv dn4 hb5.out hd5.out _ ?_
        intro w6 g6 cp6 hb6 k0 k1
        have l6 := World.block_lt_of_cell? w6 ⟨g6, 0, none⟩ k0
        replace hb6 := hd hb6
        clear hd5 hb5
        go_wp2
        exact cl1 (fin.out _ hb6.out) rfl
      · have tx : decide (X < 0) = true := by simpa using x1
        have tr : decide (r < 0) = true := by simpa using x2
        have tz : (r != 0) = true := by simp; omega
        go_wp2_with (first | (go_at_call 33; refine long_any _ _ _ ?_))
        refine hS.out _ ?_
        intro w4 cv dn4 hb4 hdead
        have hd5 := hdead.belowZ ((Below.refl _ w4).alloc (Nat.le_refl _) (.cells #[.int .i64 X, .int .i64 y] 3))
        have hb5 : Below w.heap.size w (w4.alloc (.cells #[.int .i64 X, .int .i64 y] 3)) := hb4.alloc hb4.size _
        replace hd5 := hd hd5
        replace hb5 := hd hb5
        clear hdead hb4
        go_wp2_with (fail)
        refine scan_dead _ (dMd cap bs bx To' 9) cv _ dn4 4 hd5.out _ 0 _ ?_
        go_wp2_with (fail)
        refine scan_dead _ (dMd cap bs bx To' 9) cv _ dn4 4 hd5.out _ (-1) _ ?_
        go_wp2_with (fail)
        refine hO.out _ cv dn4 hb5.out hd5.out _ ?_
        intro w6 g6 cp6 hb6 k0 k1
        have l6 := World.block_lt_of_cell? w6 ⟨g6, 0, none⟩ k0
        replace hb6 := hd hb6
        clear hd5 hb5
        go_wp2
        exact cl1 (fin.out _ hb6.out) rfl
      · have tx : decide (X < 0) = false := by simp; omega
        have tr : decide (r < 0) = false := by simp; omega
        go_wp2_with (first | (go_at_call 33; refine long_any _ _ _ ?_))
        refine hS.out _ ?_
        intro w4 cv dn4 hb4 hdead
        have hd5 := hdead.belowZ ((Below.refl _ w4).alloc (Nat.le_refl _) (.cells #[.int .i64 X, .int .i64 y] 3))
        have hb5 : Below w.heap.size w (w4.alloc (.cells #[.int .i64 X, .int .i64 y] 3)) := hb4.alloc hb4.size _
        replace hd5 := hd hd5
        replace hb5 := hd hb5
        clear hdead hb4
        go_wp2_with (fail)
        refine scan_dead _ (dMd cap bs bx To' 9) cv _ dn4 4 hd5.out _ 0 _ ?_
        go_wp2_with (fail)
        refine scan_dead _ (dMd cap bs bx To' 9) cv _ dn4 4 hd5.out _ (-1) _ ?_
        go_wp2_with (fail)
        refine hO.out _ cv dn4 hb5.out hd5.out _ ?_
        intro w6 g6 cp6 hb6 k0 k1
        have l6 := World.block_lt_of_cell? w6 ⟨g6, 0, none⟩ k0
        replace hb6 := hd hb6
        clear hd5 hb5
        go_wp2
        exact cl1 (fin.out _ hb6.out) rfl
    · have ty : decide (0 < y) = false := by simp; omega
      have ty2 : decide (y < 0) = true := by simpa using hy1
      have u1 : decide (-y ≤ r) = false := by simp; omega
      have u2 : decide (r ≤ y) = false := by simp; omega
      rcases hxs with ⟨x1, x2⟩ | ⟨x1, x2⟩ | ⟨x1, x2⟩
      · have tx : decide (X < 0) = true := by simpa using x1
        have tr : decide (r < 0) = false := by simp; omega
        have tz : (r != 0) = false := by simp; omega
        clear x2
        go_wp2_with (first | (go_at_call 33; refine long_any _ _ _ ?_))
        refine hS.out _ ?_
        intro w4 cv dn4 hb4 hdead
        have hd5 := hdead.belowZ ((Below.refl _ w4).alloc (Nat.le_refl _) (.cells #[.int .i64 X, .int .i64 y] 3))
        have hb5 : Below w.heap.size w (w4.alloc (.cells #[.int .i64 X, .int .i64 y] 3)) := hb4.alloc hb4.size _
        replace hd5 := hd hd5
        replace hb5 := hd hb5
        clear hdead hb4
        go_wp2_with (fail)
        refine scan_dead _ (dMd cap bs bx To' 9) cv _ dn4 4 hd5.out _ 0 _ ?_
        go_wp2_with (fail)
        refine scan_dead _ (dMd cap bs bx To' 9) cv _ dn4 4 hd5.out _ (-1) _ ?_
        go_wp2_with (fail)
        refine hO.out _ cv dn4 hb5.out hd5.out _ ?_
        intro w6 g6 cp6 hb6 k0 k1
        have l6 := World.block_lt_of_cell? w6 ⟨g6, 0, none⟩ k0
        replace hb6 := hd hb6
        clear hd5 hb5
        go_wp2
        exact cl1 (fin.out _ hb6.out) rfl
      · have tx : decide (X < 0) = true := by simpa using x1
        have tr : decide (r < 0) = true := by simpa using x2
        have tz : (r != 0) = true := by simp; omega
        go_wp2_with (first | (go_at_call 33; refine long_any _ _ _ ?_))
        refine hS.out _ ?_
        intro w4 cv dn4 hb4 hdead
        have hd5 := hdead.belowZ ((Below.refl _ w4).alloc (Nat.le_refl _) (.cells #[.int .i64 X, .int .i64 y] 3))
        have hb5 : Below w.heap.size w (w4.alloc (.cells #[.int .i64 X, .int .i64 y] 3)) := hb4.alloc hb4.size _
        replace hd5 := hd hd5
        replace hb5 := hd hb5
        clear hdead hb4
        go_wp2_with (fail)
        refine scan_dead _ (dMd cap bs bx To' 9) cv _ dn4 4 hd5.out _ 0 _ ?_
        go_wp2_with (fail)
        refine scan_dead _ (dMd cap bs bx To' 9) cv _ dn4 4 hd5.out _ (-1) _ ?_
        go_wp2_with (fail)
        refine hO.out _ cv dn4 hb5.out hd5.out _ ?_
        intro w6 g6 cp6 hb6 k0 k1
        have l6 := World.block_lt_of_cell? w6 ⟨g6, 0, none⟩ k0
        replace hb6 := hd hb6
        clear hd5 hb5
        go_wp2
        exact cl1 (fin.out _ hb6.out) rfl
      · have tx : decide (X < 0) = false := by simp; omega
        have tr : decide (r < 0) = false := by simp; omega
        go_wp2_with (first | (go_at_call 33; refine long_any _ _ _ ?_))
        refine hS.out _ ?_
        intro w4 cv dn4 hb4 hdead
        have hd5 := hdead.belowZ ((Below.refl _ w4).alloc (Nat.le_refl _) (.cells #[.int .i64 X, .int .i64 y] 3))
        have hb5 : Below w.heap.size w (w4.alloc (.cells #[.int .i64 X, .int .i64 y] 3)) := hb4.alloc hb4.size _
        replace hd5 := hd hd5
        replace hb5 := hd hb5
        clear hdead hb4
        go_wp2_with (fail)
        refine scan_dead _ (dMd cap bs bx To' 9) cv _ dn4 4 hd5.out _ 0 _ ?_
        go_wp2_with (fail)
        refine scan_dead _ (dMd cap bs bx To' 9) cv _ dn4 4 hd5.out _ (-1) _ ?_
        go_wp2_with (fail)
        refine hO.out _ cv dn4 hb5.out hd5.out _ ?_
        intro w6 g6 cp6 hb6 k0 k1
        have l6 := World.block_lt_of_cell? w6 ⟨g6, 0, none⟩ k0
        replace hb6 := hd hb6
        clear hd5 hb5
        go_wp2
        exact cl1 (fin.out _ hb6.out) rfl

end Go.Proofs.YtidhiaaicmfabaaGreatDoor

/- Divided's row, lifted (seat .ZD alone). -/
namespace Go.Proofs.YtidhiaaicmfabaaGreatDoor
open Go.RowKit Go.Proofs Go.Deep

open Go.ChangeShapes Go.WideShapes Go.ChangeAt
theorem gOps : Tryz.prog.globalNamed "sluice/sluice.operators" = some 4 := by kernel_rfl
theorem gOpsT : (Tryz.prog.globals[4]?).map (·.type) = some 362 := by kernel_rfl
theorem cOp : Tryz.prog.cellsOf 349 = 3 := by kernel_rfl
theorem cU8 : Tryz.prog.cellsOf 5 = 1 := by kernel_rfl
theorem cFam : Tryz.prog.cellsOf 347 = 1 := by kernel_rfl
theorem cStr : Tryz.prog.cellsOf 9 = 1 := by kernel_rfl
def opD (j : Nat) : DataW Unit := .agg [.lit (.string (opS j).data.toList), .lit (.int .u8 (opF j)), .lit (.int .u8 (opI j))]
theorem laidOps : Rows.laid_sluice_sluice_operators = DataW.agg ((List.range 9).map opD) := by kernel_rfl
theorem ulOp : ∃ f0 f1 f2, Tryz.prog.underlying 349 = some (.struct #[f0, f1, f2]) ∧ f0.type = 9 ∧ f0.offset = 0 ∧ f1.type = 347 ∧ f1.offset = 1 ∧ f2.type = 5 ∧ f2.offset = 2 := ⟨_, _, _, Tryz.underlying349, rfl, rfl, rfl, rfl, rfl, rfl⟩
theorem opAt3 (i : Nat) (hi : i < 9) : opC[3 * i]? = some (.string (opS i)) ∧ opC[3 * i + 1]? = some (.int .u8 (opF i)) ∧ opC[3 * i + 2]? = some (.int .u8 (opI i)) := by
  have h2 : i = 0 ∨ i = 1 ∨ i = 2 ∨ i = 3 ∨ i = 4 ∨ i = 5 ∨ i = 6 ∨ i = 7 ∨ i = 8 := by omega
  rcases h2 with rfl | rfl | rfl | rfl | rfl | rfl | rfl | rfl | rfl <;> exact ⟨rfl, rfl, rfl⟩
theorem opC_len : opC.length = 27 := by kernel_rfl
theorem seg_at {l : List Value} {a b : Nat} {x : Value} (h : ((l.drop a).take 3 |>.drop b |>.take 1) = [x]) (hb : b < 3) : l[a + b]? = some x := by
  have h0 : (((l.drop a).take 3 |>.drop b |>.take 1))[0]? = some x := by rw [h]; rfl
  rw [List.getElem?_take_of_lt (by omega), List.getElem?_drop, List.getElem?_take_of_lt (by omega), List.getElem?_drop] at h0
  simpa using h0
set_option maxRecDepth 100000 in
/-- What the list of variables gives: the table of operators. -/
theorem ops_cells {l : List (String × DataW Unit)} {W : World} (h : laidMet Tryz.prog l W) (hm : ("sluice/sluice.operators", Rows.laid_sluice_sluice_operators) ∈ l) : ∀ i v, opC[i]? = some v → W.cell? ⟨4, i, none⟩ = some v := by
  obtain ⟨g, t, cs, fuel, p, h1, h2, h3, h4⟩ := Lib.laidMet.reads h hm
  obtain rfl := Option.some.inj (gOps.symm.trans h1)
  obtain rfl := Option.some.inj (gOpsT.symm.trans h2)
  obtain ⟨xs, m, _, ex, hcl, hl, hel⟩ := DataW.trod_array (by kernel_rfl : Tryz.prog.underlying 362 = some (.array 9 349)) h4
  have e3 : xs.map (·.1) = (List.range 9).map opD := by
    have := (Prod.mk.inj ex).1
    rw [laidOps] at this
    exact (DataW.agg.inj this).symm
  have hcell : ∀ j, j < 9 → cs.toList[3 * j]? = some (.string (opS j)) ∧ cs.toList[3 * j + 1]? = some (.int .u8 (opF j)) ∧ cs.toList[3 * j + 2]? = some (.int .u8 (opI j)) := fun j hj => by
    have hE := hel j hj
    rw [cOp, List.getElem?_eq_getElem (by omega)] at hE
    obtain ⟨f0, f1, f2, hu, t0, o0, t1, o1, t2, o2⟩ := ulOp
    obtain ⟨y0, y1, y2, n, hx, _, k0, k1, k2⟩ := trod_struct3 hu hE
    rw [t0, o0, cStr] at k0
    rw [t1, o1, cFam] at k1
    rw [t2, o2, cU8] at k2
    obtain ⟨s, s1, s2, _⟩ := DataW.trod_string Tryz.underlying9 k0
    obtain ⟨a, a1, a2, _⟩ := DataW.trod_int (by kernel_rfl : Tryz.prog.underlying 347 = some (.int .u8)) k1
    obtain ⟨b, b1, b2, _⟩ := DataW.trod_int Tryz.underlying5 k2
    have e4 : (xs[j]).1 = opD j := by
      have h5 : (xs.map (·.1))[j]? = ((List.range 9).map opD)[j]? := by rw [e3]
      rw [List.getElem?_map, List.getElem?_map, List.getElem?_eq_getElem (by omega), List.getElem?_range (by omega)] at h5
      simpa using h5
    rw [hx, s2, a2, b2] at e4
    unfold opD at e4
    have e5 := DataW.agg.inj e4
    simp only [List.cons.injEq, DataW.lit.injEq, Lit.string.injEq, Lit.int.injEq, true_and, and_true] at e5
    obtain ⟨p1, p2, p3⟩ := e5
    have hs : s = opS j := by
      cases hss : s with
      | mk d =>
        cases hso : opS j with
        | mk d2 =>
          rw [hss, hso] at p1
          congr 1
          exact Array.toList_inj.1 p1
    rw [Nat.mul_comm j 3] at s1 a1 b1
    refine ⟨?_, ?_, ?_⟩
    · have := seg_at s1 (by omega); rw [Nat.add_zero, hs] at this; exact this
    · have := seg_at a1 (by omega); rw [p2] at this; exact this
    · have := seg_at b1 (by omega); rw [p3] at this; exact this
  intro i v hv
  have hi : i < 27 := by rw [← opC_len]; exact (List.getElem?_eq_some_iff.1 hv).1
  rw [World.var?_cell h1 h3 i]
  obtain ⟨j, hj, hk⟩ : ∃ j, j < 9 ∧ (i = 3 * j ∨ i = 3 * j + 1 ∨ i = 3 * j + 2) := ⟨i / 3, by omega, by omega⟩
  have h5 := hcell j hj
  have h6 := opAt3 j hj
  have hcs : cs[i]? = cs.toList[i]? := (Array.getElem?_toList ..).symm
  rw [hcs]
  rcases hk with rfl | rfl | rfl
  · exact h5.1.trans (h6.1.symm.trans hv)
  · exact h5.2.1.trans (h6.2.1.symm.trans hv)
  · exact h5.2.2.trans (h6.2.2.symm.trans hv)
theorem own_knobD : ownKnob Tryz.prog.godebug = none := by kernel_rfl
set_option maxRecDepth 100000 in
theorem dv_lifted (os : Os) (started : os.Started) (H : Type) (enc : TypeId × Value → H) :
    ReturnsInHanded {} Tryz.checked os 6 .any (fun w args => (Rows.dividedSpec.pre enc Tryz.prog Tryz.f6 Rows.dividedRow.domain false w args ∧ laidMetH Tryz.prog Rows.dividedRow.laid w) ∧ sizedMet enc Tryz.prog Tryz.f6 (OpenSpec.ofChange Rows.dividedSpec) false w args)
      (Rows.dividedSpec.post enc Tryz.prog Tryz.f6 false true false false) := by
  refine returnsInHanded_of_change_and (C := Tryz.checked) (X := fun w _ => laidMetH Tryz.prog Rows.dividedRow.laid w) (fun _ _ _ hh h => h.of_heap hh) own_knobD started (by kernel_rfl) Tryz.func6
    (ChangeSpec.witness_shaped (enc := enc) (C := Tryz.checked) (os := os) (X := fun w _ => laidMetH Tryz.prog Rows.dividedRow.laid w) false (World.laidAll Tryz.prog os Rows.dividedRow.laid) #[.int .i64 0, .int .i64 0] 8 (World.laidAll_os _ _ _)
      (World.shaped_of_ZipB (by kernel_rfl) (by kernel_rfl)) (by kernel_rfl) (by kernel_rfl) (by kernel_rfl)
      (by rw [MakeChecks.laidMetH_plain _ _ _ (by kernel_rfl)]; exact laidMet_laidAll _ (by kernel_rfl) (by kernel_rfl))) ?_
  intro W base args ds gs before hval0 hW _ _ hL _
  have hval : ∀ (j : Nat) t v, Tryz.f6.params[j]? = some t → args[j]? = some v → Value.okWide Tryz.prog W .any base t v := hval0
  have hW' := hW
  obtain ⟨p, q, hA0, hV, rfl, _, _⟩ := hW
  have hA : DataW.TrodAll enc Tryz.prog W 0 (fun _ => true) true Tryz.f6.params.toList args.toList ds p := hA0
  rw [Tryz.params6] at hA hval
  obtain ⟨v0, v1, d0, d1, p0, p1, rfl, rfl, rfl, h0, h1⟩ := trodAll_two hA
  obtain ⟨rfl, rfl⟩ := trodVars_none hV
  obtain ⟨x, rfl, rfl, rfl, wx⟩ := open_int Tryz.underlying3 (hval 0 3 v0 rfl rfl) h0
  obtain ⟨y, rfl, rfl, rfl, wy⟩ := open_int Tryz.underlying3 (hval 1 3 v1 rfl rfl) h1
  rw [MakeChecks.laidMetH_plain _ _ _ (by kernel_rfl)] at hL
  have hops := ops_cells hL (.tail _ (.tail _ (.tail _ (.tail _ (.tail _ (.tail _ (.head _)))))))
  clear hA0 hval0
  simp only [List.append_nil] at hW'
  refine dividedK_any W hops x y _ fun W' hB => ?_
  exact ⟨_, rfl, _, _, _, [], [], [], hW', trodAll_mk1 (shut_bool Tryz.underlying4 _), trodAll_mk2 (shut_int Tryz.underlying3 wx) (shut_int Tryz.underlying3 wy), rfl, hB.frame _, fun h => by cases h⟩

end Go.Proofs.YtidhiaaicmfabaaGreatDoor
