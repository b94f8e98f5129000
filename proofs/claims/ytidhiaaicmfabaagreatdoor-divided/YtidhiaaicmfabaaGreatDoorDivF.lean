/- Divided's row, lifted (seat .ZD alone). -/
import Derived.Test.YtidhiaaicmfabaaGreatDoorMem
import Derived.Test.YtidhiaaicmfabaaGreatDoorSpec
import Derived.WalkKit
import Derived.WalkSpells
import Derived.WalkLawsBesides
import Derived.Deep.OwnRows
import Derived.BigQuiet
import Derived.Handy
import Derived.Deep.Light
import Derived.Deep.RegionHeld3
import Derived.Deep.RegionWith
import Derived.Test.YtidhiaaicmfabaaGreatDoorCards
import Derived.Test.YtidhiaaicmfabaaGreatDoorTie
import Derived.Test.YtidhiaaicmfabaaGreatDoorDivE
import Derived.ProofKit
import Derived.OpenShut
import Derived.LaidMore
import Derived.Lay
import Derived.SevenTiedAt
import Derived.Stop.Joined
import Derived.Lib.LaidU8
import Derived.Deep.Strs
namespace Go.Proofs.YtidhiaaicmfabaaGreatDoor
open Go.RowKit Go.Proofs Go.Deep

open Go.ChangeShapes Go.WideShapes Go.ChangeAt
theorem gOps : Tryz.prog.globalNamed "sluice/sluice.operators" = some 4 := by kernel_rfl
theorem gOpsT : (Tryz.prog.globals[4]?).map (·.type) = some 362 := by kernel_rfl
theorem cOp : Tryz.prog.cellsOf 349 = 3 := by kernel_rfl
theorem cU8 : Tryz.prog.cellsOf 5 = 1 := by kernel_rfl
theorem cFam : Tryz.prog.cellsOf 347 = 1 := by kernel_rfl
theorem cStr : Tryz.prog.cellsOf 9 = 1 := by kernel_rfl
def opD (j : Nat) : DataW Unit := .agg [.lit (.string (opS j).data.toList), .lit (.int .u8 (opF j)), .lit (.int .u8 (opI j))]
theorem laidOps : Rows.laid_sluice_sluice_operators = DataW.agg ((List.range 9).map opD) := by kernel_rfl
theorem ulOp : ∃ f0 f1 f2, Tryz.prog.underlying 349 = some (.struct #[f0, f1, f2]) ∧ f0.type = 9 ∧ f0.offset = 0 ∧ f1.type = 347 ∧ f1.offset = 1 ∧ f2.type = 5 ∧ f2.offset = 2 := ⟨_, _, _, Tryz.underlying349, rfl, rfl, rfl, rfl, rfl, rfl⟩
theorem opAt3 (i : Nat) (hi : i < 9) : opC[3 * i]? = some (.string (opS i)) ∧ opC[3 * i + 1]? = some (.int .u8 (opF i)) ∧ opC[3 * i + 2]? = some (.int .u8 (opI i)) := by
  have h2 : i = 0 ∨ i = 1 ∨ i = 2 ∨ i = 3 ∨ i = 4 ∨ i = 5 ∨ i = 6 ∨ i = 7 ∨ i = 8 := by omega
  rcases h2 with rfl | rfl | rfl | rfl | rfl | rfl | rfl | rfl | rfl <;> exact ⟨rfl, rfl, rfl⟩
theorem opC_len : opC.length = 27 := by kernel_rfl
theorem seg_at {l : List Value} {a b : Nat} {x : Value} (h : ((l.drop a).take 3 |>.drop b |>.take 1) = [x]) (hb : b < 3) : l[a + b]? = some x := by
  have h0 : (((l.drop a).take 3 |>.drop b |>.take 1))[0]? = some x := by rw [h]; rfl
  rw [List.getElem?_take_of_lt (by omega), List.getElem?_drop, List.getElem?_take_of_lt (by omega), List.getElem?_drop] at h0
  simpa using h0
set_option maxRecDepth 100000 in
/-- What the list of variables gives: the table of operators. -/
theorem ops_cells {l : List (String × DataW Unit)} {W : World} (h : laidMet Tryz.prog l W) (hm : ("sluice/sluice.operators", Rows.laid_sluice_sluice_operators) ∈ l) : ∀ i v, opC[i]? = some v → W.cell? ⟨4, i, none⟩ = some v := by
  obtain ⟨g, t, cs, fuel, p, h1, h2, h3, h4⟩ := Lib.laidMet.reads h hm
  obtain rfl := Option.some.inj (gOps.symm.trans h1)
  obtain rfl := Option.some.inj (gOpsT.symm.trans h2)
  obtain ⟨xs, m, _, ex, hcl, hl, hel⟩ := DataW.trod_array (by kernel_rfl : Tryz.prog.underlying 362 = some (.array 9 349)) h4
  have e3 : xs.map (·.1) = (List.range 9).map opD := by
    have := (Prod.mk.inj ex).1
    rw [laidOps] at this
    exact (DataW.agg.inj this).symm
  have hcell : ∀ j, j < 9 → cs.toList[3 * j]? = some (.string (opS j)) ∧ cs.toList[3 * j + 1]? = some (.int .u8 (opF j)) ∧ cs.toList[3 * j + 2]? = some (.int .u8 (opI j)) := fun j hj => by
    have hE := hel j hj
    rw [cOp, List.getElem?_eq_getElem (by omega)] at hE
    obtain ⟨f0, f1, f2, hu, t0, o0, t1, o1, t2, o2⟩ := ulOp
    obtain ⟨y0, y1, y2, n, hx, _, k0, k1, k2⟩ := trod_struct3 hu hE
    rw [t0, o0, cStr] at k0
    rw [t1, o1, cFam] at k1
    rw [t2, o2, cU8] at k2
    obtain ⟨s, s1, s2, _⟩ := DataW.trod_string Tryz.underlying9 k0
    obtain ⟨a, a1, a2, _⟩ := DataW.trod_int (by kernel_rfl : Tryz.prog.underlying 347 = some (.int .u8)) k1
    obtain ⟨b, b1, b2, _⟩ := DataW.trod_int Tryz.underlying5 k2
    have e4 : (xs[j]).1 = opD j := by
      have h5 : (xs.map (·.1))[j]? = ((List.range 9).map opD)[j]? := by rw [e3]
      rw [List.getElem?_map, List.getElem?_map, List.getElem?_eq_getElem (by omega), List.getElem?_range (by omega)] at h5
      simpa using h5
    rw [hx, s2, a2, b2] at e4
    unfold opD at e4
    have e5 := DataW.agg.inj e4
    simp only [List.cons.injEq, DataW.lit.injEq, Lit.string.injEq, Lit.int.injEq, true_and, and_true] at e5
    obtain ⟨p1, p2, p3⟩ := e5
    have hs : s = opS j := by
      cases hss : s with
      | mk d =>
        cases hso : opS j with
        | mk d2 =>
          rw [hss, hso] at p1
          congr 1
          exact Array.toList_inj.1 p1
    rw [Nat.mul_comm j 3] at s1 a1 b1
    refine ⟨?_, ?_, ?_⟩
    · have := seg_at s1 (by omega); rw [Nat.add_zero, hs] at this; exact this
    · have := seg_at a1 (by omega); rw [p2] at this; exact this
    · have := seg_at b1 (by omega); rw [p3] at this; exact this
  intro i v hv
  have hi : i < 27 := by rw [← opC_len]; exact (List.getElem?_eq_some_iff.1 hv).1
  rw [World.var?_cell h1 h3 i]
  obtain ⟨j, hj, hk⟩ : ∃ j, j < 9 ∧ (i = 3 * j ∨ i = 3 * j + 1 ∨ i = 3 * j + 2) := ⟨i / 3, by omega, by omega⟩
  have h5 := hcell j hj
  have h6 := opAt3 j hj
  have hcs : cs[i]? = cs.toList[i]? := (Array.getElem?_toList ..).symm
  rw [hcs]
  rcases hk with rfl | rfl | rfl
  · exact h5.1.trans (h6.1.symm.trans hv)
  · exact h5.2.1.trans (h6.2.1.symm.trans hv)
  · exact h5.2.2.trans (h6.2.2.symm.trans hv)
theorem own_knobD : ownKnob Tryz.prog.godebug = none := by kernel_rfl
set_option maxRecDepth 100000 in
theorem dv_lifted (os : Os) (started : os.Started) (H : Type) (enc : TypeId × Value → H) :
    ReturnsInHanded {} Tryz.checked os 6 .any (fun w args => (Rows.dividedSpec.pre enc Tryz.prog Tryz.f6 Rows.dividedRow.domain false w args ∧ laidMetH Tryz.prog Rows.dividedRow.laid w) ∧ sizedMet enc Tryz.prog Tryz.f6 (OpenSpec.ofChange Rows.dividedSpec) false w args)
      (Rows.dividedSpec.post enc Tryz.prog Tryz.f6 false true false false) := by
  refine returnsInHanded_of_change_and (C := Tryz.checked) (X := fun w _ => laidMetH Tryz.prog Rows.dividedRow.laid w) (fun _ _ _ hh h => h.of_heap hh) own_knobD started (by kernel_rfl) Tryz.func6
    (ChangeSpec.witness_shaped (enc := enc) (C := Tryz.checked) (os := os) (X := fun w _ => laidMetH Tryz.prog Rows.dividedRow.laid w) false (World.laidAll Tryz.prog os Rows.dividedRow.laid) #[.int .i64 0, .int .i64 0] 8 (World.laidAll_os _ _ _)
      (World.shaped_of_ZipB (by kernel_rfl) (by kernel_rfl)) (by kernel_rfl) (by kernel_rfl) (by kernel_rfl)
      (by rw [MakeChecks.laidMetH_plain _ _ _ (by kernel_rfl)]; exact laidMet_laidAll _ (by kernel_rfl) (by kernel_rfl))) ?_
  intro W base args ds gs before hval0 hW _ _ hL _
  have hval : ∀ (j : Nat) t v, Tryz.f6.params[j]? = some t → args[j]? = some v → Value.okWide Tryz.prog W .any base t v := hval0
  have hW' := hW
  obtain ⟨p, q, hA0, hV, rfl, _, _⟩ := hW
  have hA : DataW.TrodAll enc Tryz.prog W 0 (fun _ => true) true Tryz.f6.params.toList args.toList ds p := hA0
  rw [Tryz.params6] at hA hval
  obtain ⟨v0, v1, d0, d1, p0, p1, rfl, rfl, rfl, h0, h1⟩ := trodAll_two hA
  obtain ⟨rfl, rfl⟩ := trodVars_none hV
  obtain ⟨x, rfl, rfl, rfl, wx⟩ := open_int Tryz.underlying3 (hval 0 3 v0 rfl rfl) h0
  obtain ⟨y, rfl, rfl, rfl, wy⟩ := open_int Tryz.underlying3 (hval 1 3 v1 rfl rfl) h1
  rw [MakeChecks.laidMetH_plain _ _ _ (by kernel_rfl)] at hL
  have hops := ops_cells hL (.tail _ (.tail _ (.tail _ (.tail _ (.tail _ (.tail _ (.head _)))))))
  clear hA0 hval0
  simp only [List.append_nil] at hW'
  refine dividedK_any W hops x y _ fun W' hB => ?_
  exact ⟨_, rfl, _, _, _, [], [], [], hW', trodAll_mk1 (shut_bool Tryz.underlying4 _), trodAll_mk2 (shut_int Tryz.underlying3 wx) (shut_int Tryz.underlying3 wy), rfl, hB.frame _, fun h => by cases h⟩

end Go.Proofs.YtidhiaaicmfabaaGreatDoor
