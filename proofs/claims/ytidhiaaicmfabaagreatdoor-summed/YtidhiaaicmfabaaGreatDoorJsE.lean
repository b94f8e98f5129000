/- Summed, and its row lifted. -/
import Derived.Test.YtidhiaaicmfabaaGreatDoorKaA
import Derived.WalkKit
import Derived.WalkSpells
import Derived.WalkLawsBesides
import Derived.Deep.OwnRows
import Derived.BigQuiet
import Derived.Handy
import Derived.Deep.Light
import Derived.Deep.RegionHeld3
import Derived.Deep.RegionWith
import Derived.Test.YtidhiaaicmfabaaGreatDoorJsD
import Derived.Test.YtidhiaaicmfabaaGreatDoorJsA

/- Summed (seat .ZD alone). -/
namespace Go.Proofs.YtidhiaaicmfabaaGreatDoor
open Go.RowKit Go.Proofs Go.Deep

theorem Dead.belowS {M : Md} {cv : Value} {C : Nat → Int} {dn e : Int} {w w' : World} (h : Dead M cv C dn e w) (hb : Below w.heap.size w w') : Dead M cv C dn e w' := by
  refine ⟨h.row.of_block (hb.block _ h.row.lt), ?_, h.hC, h.ne⟩
  rcases h.cel with ⟨bc, cap, e, ht⟩ | h
  · exact .inl ⟨bc, cap, e, ht.of_block (hb.block _ ht.lt)⟩
  · exact .inr h
theorem suJoin (n : Nat) (a d : Int) : ((((((((((ba su1 ++ ba (litB n)) ++ ba su2) ++ ba (litB ((n : Int) - 1))) ++ ba su3) ++ ba (litB a)) ++ ba su4) ++ ba (litB d)) ++ ba su5) ++ ba (litB ((n : Int) - 1))) ++ ba su6) = suText n a d := by
  simp only [ba_app]
  unfold suText
  simp only [List.append_assoc]
set_option maxRecDepth 100000 in
set_option maxHeartbeats 4000000 in
theorem summedK_any (w : World) (hops : ∀ i v, opC[i]? = some v → w.cell? ⟨4, i, none⟩ = some v) (z0 z1 z2 z3 : Int) (h0 : -9223372036854775808 ≤ z0 ∧ z0 ≤ 9223372036854775807) (h1 : -9223372036854775808 ≤ z1 ∧ z1 ≤ 9223372036854775807) (h2 : -9223372036854775808 ≤ z2 ∧ z2 ≤ 9223372036854775807) (h3 : -9223372036854775808 ≤ z3 ∧ z3 ≤ 9223372036854775807)
    (R : Ending → World → Prop) (fin : ∀ w', Below w.heap.size w w' → R (.returned (.bool true)) w') :
    Calls Tryz.prog 7 #[.int .i64 z0, .int .i64 z1, .int .i64 z2, .int .i64 z3] w R := by
  have h4 : 4 < w.heap.size := World.block_lt_of_cell? w ⟨4, 0, none⟩ (hops 0 _ rfl)
  have p0 := pick_bd z0 16 (by omega)
  have p1 := pick_bd z1 2000 (by omega)
  have p2 := pick_bd z2 200 (by omega)
  obtain ⟨n, hnn⟩ : ∃ n : Nat, pickV z0 16 = (n : Int) - 1 := ⟨(1 + pickV z0 16).toNat, by omega⟩
  obtain ⟨a, haa⟩ : ∃ a : Int, pickV z1 2000 = a + 1000 := ⟨pickV z1 2000 - 1000, by omega⟩
  obtain ⟨d, hdd⟩ : ∃ d : Int, pickV z2 200 = d + 100 := ⟨pickV z2 200 - 100, by omega⟩
  have hn : 1 ≤ n ∧ n ≤ 16 := by omega
  have ha : -1000 ≤ a ∧ a ≤ 1000 := by omega
  have hd1 : -100 ≤ d ∧ d ≤ 100 := by omega
  have p3 := pick_bd z3 n (by omega)
  have p4 := pick_bd z3 1073741824 (by omega)
  have p5 := pick_bd z3 32768 (by omega)
  obtain ⟨f, hTx, hf0⟩ := suTx n hn a d ha hd1
  obtain ⟨fx, hXx, hx0⟩ := sxTx
  have hIm := suPr n a d hf0
  have hIx := sxImg hx0
  have hSz := (suLen n hn a d ha hd1).2
  have hSp := suSp n hn a d ha hd1
  have hJo := suJoin n a d
  have q1 := (litB_len n (by omega)).2
  have q2 := (litB_len ((n : Int) - 1) (by omega)).2
  have q3 := (litB_len a (by omega)).2
  have q4 := (litB_len d (by omega)).2
  have s1 : (ba (litB n)).size ≤ 6 := by rw [ba_size]; exact q1
  have s2 : (ba (litB ((n : Int) - 1))).size ≤ 6 := by rw [ba_size]; exact q2
  have s3 : (ba (litB a)).size ≤ 6 := by rw [ba_size]; exact q3
  have s4 : (ba (litB d)).size ≤ 6 := by rw [ba_size]; exact q4
  clear q1 q2 q3 q4
  have hM : ∀ (W : World), Below w.heap.size w W → ∀ (R' : Ending → World → Prop), (∀ cap bs bx bc To' w', Below W.heap.size W w' → W.heap.size ≤ bx → W.heap.size ≤ bs → W.heap.size ≤ bc → Live (cMd (suCs n) (suC n a d) cap bs bx To') bc (fun _ => 0) 0 w' → cKW (suCs n) (suC n a d) cap bs bx To' → R' (.returned (.pointer (some ⟨bx, 0, none⟩))) w') → Calls Tryz.prog 35 #[.string (suText n a d)] W R' := fun W hW R' hR' =>
    cmachine W (suCd n hn a d) (fun R2 h2 => compile_okL hTx (suText n a d) hSz hSp W (fun i v hv => (hW.cell (p := ⟨4, i, none⟩) h4).trans (hops i v hv)) R2 (by rw [hIm]; exact h2)) R' hR'
  have hX : ∀ (W : World), Below w.heap.size w W → ∀ (R' : Ending → World → Prop), (∀ cap bs bx bc To' w', Below W.heap.size W w' → W.heap.size ≤ bx → W.heap.size ≤ bs → W.heap.size ≤ bc → Live (cMd sxCs sxC cap bs bx To') bc (fun _ => 0) 0 w' → cKW sxCs sxC cap bs bx To' → R' (.returned (.pointer (some ⟨bx, 0, none⟩))) w') → Calls Tryz.prog 35 #[.string sxText] W R' := fun W hW R' hR' =>
    cmachine W sxCd (fun R2 h2 => compile_okL hXx sxText (by decide) sxSp W (fun i v hv => (hW.cell (p := ⟨4, i, none⟩) h4).trans (hops i v hv)) R2 (by rw [hIx]; exact h2)) R' hR'
  replace fin := hd fin
  replace hM := hd hM
  replace hX := hd hX
  replace hJo := hd hJo
  clear hTx hXx hSp hIm hIx hf0 hx0 hops
  go_enter Tryz.func7, Tryz.ntmps7
  go_wp2_with (fail)
  refine copies_any _ _ ?_
  intro w1 hb1
  have hz1 := hb1.size
  replace hb1 := hd hb1
  replace hnn := hd hnn
  replace haa := hd haa
  replace hdd := hd hdd
  have en : (1 : Int) + ((n : Int) - 1) = (n : Int) := by omega
  have ea : a + 1000 - 1000 = a := by omega
  have ed : d + 100 - 100 = d := by omega
  go_wp2_with (fail)
  refine pick_any _ _ _ h0 (by omega) _ ?_
  rw [hnn.out]
  go_wp2_with (fail)
  refine pick_any _ _ _ h1 (by omega) _ ?_
  rw [haa.out]
  go_wp2_with (fail)
  refine pick_any _ _ _ h2 (by omega) _ ?_
  rw [hdd.out]
  clear p0 p1 p2 hnn haa hdd
  go_wp2_with (fail)
  refine digits_any _ (n : Int) (by omega) _ ?_
  intro w2 b2
  have B2 := hd (hb1.out.trans (b2.mono hz1))
  clear b2
  go_wp2_with (fail)
  refine digits_any _ ((n : Int) - 1) (by omega) _ ?_
  intro w3 b3
  have B3 := hd (B2.out.trans (b3.mono B2.out.size))
  clear b3
  go_wp2_with (fail)
  refine digits_any _ a (by omega) _ ?_
  intro w4 b4
  have B4 := hd (B3.out.trans (b4.mono B3.out.size))
  clear b4
  go_wp2_with (fail)
  refine digits_any _ d (by omega) _ ?_
  intro w5 b5
  have B5 := hd (B4.out.trans (b5.mono B4.out.size))
  clear b5
  go_wp2_with (fail)
  refine digits_any _ ((n : Int) - 1) (by omega) _ ?_
  intro w6 b6
  have B6 := hd (B5.out.trans (b6.mono B5.out.size))
  clear b6 B2 B3 B4 B5
  generalize ba (litB (n : Int)) = S1 at *
  generalize ba (litB ((n : Int) - 1)) = S2 at *
  generalize ba (litB a) = S3 at *
  generalize ba (litB d) = S4 at *
  go_wp2_with (fail)
  refine str_callZ hJo.out ?_
  refine hM.out _ B6.out _ ?_
  intro cap bs bx bc To' w7 hb7 hbx hbs hbc hlive hkw
  have hB7 := B6.out.trans (hb7.mono B6.out.size)
  have hz6 := B6.out.size
  have hz7 := hB7.size
  have hbxl := hlive.row.lt
  have hbcl := hlive.cel.lt
  replace hB7 := hd hB7
  replace hlive := hd hlive
  replace hkw := hd hkw
  clear hb7 B6 hJo hM s1 s2 s3 s4
  go_wp2
  go_loopw [14, 15] (fun sv iv wr => ∃ m : Nat, m ≤ n ∧ iv = .int .i64 (m : Int) ∧ sv = .int .i64 (sumT a d m) ∧ wr = w7) (fun _ iv _ => n - (intOf iv).toNat)
  case atStart => exact ⟨0, by omega, rfl, rfl, rfl⟩
  case round =>
    obtain ⟨m, hm, rfl, rfl, rfl⟩ := hrel
    by_cases hlt : m < n
    · have tl : decide ((m : Int) < (n : Int)) = true := by simp; omega
      have mb := md_bd (m := m) (by omega) hd1
      have sb := sum_bd ha hd1 m (by omega)
      have j1 : IntKind.i64.wrap (sumT a d m + a) = sumT a d m + a := IntWalk.i64_in _ (by omega)
      have j2 : IntKind.i64.wrap ((m : Int) * d) = (m : Int) * d := IntWalk.i64_in _ (by omega)
      have j3 : IntKind.i64.wrap (sumT a d m + a + (m : Int) * d) = sumT a d m + a + (m : Int) * d := IntWalk.i64_in _ (by omega)
      have hs : sumT a d (m + 1) = sumT a d m + a + (m : Int) * d := by simp only [sumT]; omega
      replace hs := hd hs
      clear mb sb
      go_wp2
      exact ⟨⟨m + 1, by omega, by go_num, by rw [hs.out], by first | rfl | trivial⟩, by simp [intOf]; omega⟩
    · have tl : decide ((m : Int) < (n : Int)) = false := by simp; omega
      have em : m = n := by omega
      subst em
      have hlA := hlive.out.below ((Below.refl _ wr).alloc (Nat.le_refl _) (.cells #[.int .i64 (pickV z3 m)] 3))
      have hneA : wr.heap.size ≠ bc := by omega
      have hk3 : pickV z3 m < m := p3.2
      have mb : -1600 ≤ pickV z3 m * d ∧ pickV z3 m * d ≤ 1600 := by
        obtain ⟨q, hq⟩ : ∃ q : Nat, pickV z3 m = (q : Int) := ⟨(pickV z3 m).toNat, by omega⟩
        rw [hq]
        exact md_bd (by omega) hd1
      have sb := sum_bd ha hd1 m (by omega)
      have j1 : IntKind.i64.wrap (pickV z3 m * d) = pickV z3 m * d := IntWalk.i64_in _ (by omega)
      have j2 : IntKind.i64.wrap (a + pickV z3 m * d) = a + pickV z3 m * d := IntWalk.i64_in _ (by omega)
      have tE : (pickV z3 m : Int) = pickV z3 m := rfl
      replace hlA := hd hlA
      replace hlive := hd hlive
      have hcall := hd (fun R' => suTold (R := R') w.heap.size (wr.alloc (.cells #[.int .i64 (pickV z3 m)] 3)) hn ha hd1 hlA.out hkw.out (by omega) (by omega) (by simp; omega) (inp1 allocCells hneA) p3.1 hk3)
      generalize hk : pickV z3 m = k at *
      replace hk := hd hk
      go_wp2_with (fail)
      refine pick_any _ _ _ h3 (by omega) _ ?_
      rw [hk.out]
      go_wp2_with (fail)
      refine hcall.out _ ?_
      intro w8 go dn C' b8 l8 g0 g1 g2 cp
      have B8 : Below w.heap.size w w8 := (hB7.out.alloc hz7 (.cells #[.int .i64 k] 3)).trans b8
      have hz8 : w.heap.size ≤ w8.heap.size := B8.size
      have t0 : (sumT a d m != sumT a d m) = false := by simp
      have t1 : (a + k * d != a + k * d) = false := by simp
      have t2 : ((m : Int) - 1 != (m : Int) - 1) = false := by simp
      have hlB := l8.below ((Below.refl _ w8).alloc (Nat.le_refl _) (.cells #[.int .i64 ((m : Int) + pickV z3 1073741824)] 3))
      have hbcl8 := l8.cel.lt
      have hneB : w8.heap.size ≠ bc := by omega
      have j3 : IntKind.i64.wrap ((m : Int) + pickV z3 1073741824) = (m : Int) + pickV z3 1073741824 := IntWalk.i64_in _ (by omega)
      have j4 : wrap32 ((m : Int) + pickV z3 1073741824) = (m : Int) + pickV z3 1073741824 := w32_id (by unfold in32; omega)
      have hcal2 := hd (fun R' => suErr (R := R') w.heap.size (w8.alloc (.cells #[.int .i64 ((m : Int) + pickV z3 1073741824)] 3)) hn ha hd1 hlB hkw.out (by omega) (by omega) (by simp; omega) (inp1 allocCells hneB) (by omega) (by omega))
      have q4 : (0 : Int) < 1073741824 ∧ (1073741824 : Int) ≤ 9223372036854775807 := by omega
      replace B8 := hd B8
      replace j4 := hd j4
      clear hlA hcall b8 l8 hlB hlive hB7
      go_wp2_with (fail)
      refine pick_any _ _ _ h3 q4 _ ?_
      generalize pickV z3 1073741824 = k2 at *
      go_wp2_with (fail)
      refine long_any _ _ _ ?_
      rw [j4.out]
      go_wp2_with (fail)
      refine hcal2.out _ ?_
      intro w9 cv dn9 b9 d9
      have B9 : Below w.heap.size w w9 := (B8.out.alloc hz8 (.cells #[.int .i64 ((m : Int) + k2)] 3)).trans b9
      have hz9 : w.heap.size ≤ w9.heap.size := B9.size
      have d9' := d9.belowS ((Below.refl _ w9).alloc (Nat.le_refl _) (.cells #[.int .i64 0] 3))
      have B9' := B9.alloc hz9 (.cells #[.int .i64 0] 3)
      have hcal3 := hd (fun R' v d' fin' => scan_dead _ _ _ _ _ _ d9' v d' R' fin')
      replace B9' := hd B9'
      replace B9 := hd B9
      clear hcal2 B8 b9 d9 d9'
      go_wp2_with (fail)
      refine hcal3.out _ _ _ ?_
      go_wp2_with (fail)
      refine str_callZ (Y := sxText) (by kernel_rfl) ?_
      refine hX.out _ B9'.out _ ?_
      intro cap' bs' bx' bc' To2 wa hba hbxa hbsa hbca hlive2 hkw2
      have Ba : Below w.heap.size w wa := B9'.out.trans (hba.mono B9'.out.size)
      have hza : w.heap.size ≤ wa.heap.size := Ba.size
      have hz9' := B9'.out.size
      have hbcl := hlive2.cel.lt
      have hneC : wa.heap.size ≠ bc' := by omega
      have j5 : IntKind.i64.wrap (-1 - pickV z3 32768) = -1 - pickV z3 32768 := IntWalk.i64_in _ (by omega)
      have hlC := hlive2.below ((Below.refl _ wa).alloc (Nat.le_refl _) (.cells #[.int .i64 (-1 - pickV z3 32768)] 3))
      have hcal4 := hd (fun R' => sxErr (R := R') w.heap.size (wa.alloc (.cells #[.int .i64 (-1 - pickV z3 32768)] 3)) hlC hkw2 (by omega) (by omega) (by simp; omega) (inp1 allocCells hneC) (by omega) (by omega))
      have q5 : (0 : Int) < 32768 ∧ (32768 : Int) ≤ 9223372036854775807 := by omega
      replace Ba := hd Ba
      clear hcal3 B9 B9' hba hlive2 hlC hkw2 hX
      go_wp2_with (fail)
      refine pick_any _ _ _ h3 q5 _ ?_
      generalize pickV z3 32768 = k3 at *
      go_wp2_with (fail)
      refine hcal4.out _ ?_
      intro wb bb
      have Bb := hd ((Ba.out.alloc hza (.cells #[.int .i64 (-1 - k3)] 3)).trans bb)
      clear bb Ba
      go_wp2
      exact cl1 (fin.out _ Bb.out) rfl

end Go.Proofs.YtidhiaaicmfabaaGreatDoor

/- Summed's row, lifted (seat .ZD alone). -/
namespace Go.Proofs.YtidhiaaicmfabaaGreatDoor
open Go.RowKit Go.Proofs Go.Deep

open Go.ChangeShapes Go.WideShapes Go.ChangeAt
set_option maxRecDepth 100000 in
theorem sm_lifted (os : Os) (started : os.Started) (H : Type) (enc : TypeId × Value → H) :
    ReturnsInHanded {} Tryz.checked os 7 .any (fun w args => (Rows.summedSpec.pre enc Tryz.prog Tryz.f7 Rows.summedRow.domain false w args ∧ laidMetH Tryz.prog Rows.summedRow.laid w) ∧ sizedMet enc Tryz.prog Tryz.f7 (OpenSpec.ofChange Rows.summedSpec) false w args)
      (Rows.summedSpec.post enc Tryz.prog Tryz.f7 false true false false) := by
  refine returnsInHanded_of_change_and (C := Tryz.checked) (X := fun w _ => laidMetH Tryz.prog Rows.summedRow.laid w) (fun _ _ _ hh h => h.of_heap hh) own_knobD started (by kernel_rfl) Tryz.func7
    (ChangeSpec.witness_shaped (enc := enc) (C := Tryz.checked) (os := os) (X := fun w _ => laidMetH Tryz.prog Rows.summedRow.laid w) false (World.laidAll Tryz.prog os Rows.summedRow.laid) #[.int .i64 0, .int .i64 0, .int .i64 0, .int .i64 0] 8 (World.laidAll_os _ _ _)
      (World.shaped_of_ZipB (by kernel_rfl) (by kernel_rfl)) (by kernel_rfl) (by kernel_rfl) (by kernel_rfl)
      (by rw [MakeChecks.laidMetH_plain _ _ _ (by kernel_rfl)]; exact laidMet_laidAll _ (by kernel_rfl) (by kernel_rfl))) ?_
  intro W base args ds gs before hval0 hW _ _ hL _
  have hval : ∀ (j : Nat) t v, Tryz.f7.params[j]? = some t → args[j]? = some v → Value.okWide Tryz.prog W .any base t v := hval0
  have hW' := hW
  obtain ⟨p, q, hA0, hV, rfl, _, _⟩ := hW
  have hA : DataW.TrodAll enc Tryz.prog W 0 (fun _ => true) true Tryz.f7.params.toList args.toList ds p := hA0
  rw [Tryz.params7] at hA hval
  obtain ⟨v0, v1, v2, v3, d0, d1, d2, d3, p0, p1, p2, p3, rfl, rfl, rfl, h0, h1, h2, h3⟩ := trodAll_four hA
  obtain ⟨rfl, rfl⟩ := trodVars_none hV
  obtain ⟨z, rfl, rfl, rfl, wz⟩ := open_int Tryz.underlying3 (hval 0 3 v0 rfl rfl) h0
  obtain ⟨a, rfl, rfl, rfl, wa⟩ := open_int Tryz.underlying3 (hval 1 3 v1 rfl rfl) h1
  obtain ⟨b, rfl, rfl, rfl, wb⟩ := open_int Tryz.underlying3 (hval 2 3 v2 rfl rfl) h2
  obtain ⟨c, rfl, rfl, rfl, wc⟩ := open_int Tryz.underlying3 (hval 3 3 v3 rfl rfl) h3
  rw [MakeChecks.laidMetH_plain _ _ _ (by kernel_rfl)] at hL
  have hops := ops_cells hL (.tail _ (.tail _ (.tail _ (.tail _ (.tail _ (.tail _ (.head _)))))))
  clear hA0 hval0
  simp only [List.append_nil] at hW'
  refine summedK_any W hops z a b c (wf_i64 wz) (wf_i64 wa) (wf_i64 wb) (wf_i64 wc) _ fun W' hB => ?_
  exact ⟨_, rfl, _, _, _, [], [], [], hW', trodAll_mk1 (shut_bool Tryz.underlying4 _), trodAll_mk4 (shut_int Tryz.underlying3 wz) (shut_int Tryz.underlying3 wa) (shut_int Tryz.underlying3 wb) (shut_int Tryz.underlying3 wc), rfl, hB.frame _, fun h => by cases h⟩

end Go.Proofs.YtidhiaaicmfabaaGreatDoor
