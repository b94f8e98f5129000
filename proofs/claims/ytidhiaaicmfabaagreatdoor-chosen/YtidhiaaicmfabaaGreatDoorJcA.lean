/- Numbers as they are written, inputs, the list of variables. -/
import Derived.Test.YtidhiaaicmfabaaGreatDoorKaA
import Derived.WalkKit
import Derived.WalkSpells
import Derived.WalkLawsBesides
import Derived.Deep.OwnRows
import Derived.BigQuiet
import Derived.Handy
import Derived.Deep.Light
import Derived.Deep.RegionHeld3
import Derived.Deep.RegionWith
import Derived.Test.YtidhiaaicmfabaaGreatDoorJyR
import Derived.Test.YtidhiaaicmfabaaGreatDoorJyV
import Derived.Test.YtidhiaaicmfabaaGreatDoorJyP
import Derived.Test.YtidhiaaicmfabaaGreatDoorCards
import Derived.Test.YtidhiaaicmfabaaGreatDoorTie
import Derived.ProofKit
import Derived.OpenShut
import Derived.LaidMore
import Derived.Lay
import Derived.ChangeBears2
import Derived.ChangeSlices
import Derived.Carry
import Derived.SevenTiedAt
import Derived.Stop.Joined
import Derived.Lib.LaidU8
import Derived.Deep.Strs

/- The parts of a text, piece by piece (seat .ZD alone). -/
namespace Go.Proofs.YtidhiaaicmfabaaGreatDoor
open Go.RowKit Go.Proofs Go.Deep

/-- The text l begins with the parts q (n with its blanks); r is left. -/
def Lex (l : List UInt8) (q : List (List UInt8)) (r : List UInt8) (n : Nat) : Prop := ∀ k q', spL k r = some q' → spL (k + n) l = some (q ++ q')
theorem Lex.app {l m r : List UInt8} {q q' : List (List UInt8)} {n n' : Nat} (h1 : Lex l q m n) (h2 : Lex m q' r n') : Lex l (q ++ q') r (n' + n) := by
  intro k t ht
  have := h1 _ _ (h2 k t ht)
  rw [← Nat.add_assoc, List.append_assoc]
  exact this
theorem lex_spR {n : Nat} {l r : List UInt8} {q : List (List UInt8)} (h : spR n l [] = some (q, r)) : Lex l q r n := by
  intro k t ht
  obtain ⟨q', h1, h2⟩ := spR_spL n l [] q r k t h ht
  rw [h1, ← h2, List.nil_append]
theorem lex_num {l r : List UInt8} (hl : l ≠ []) (hd : ∀ c ∈ l, isDg c.toNat = true) (hr : ∀ c, r.head? = some c → isDg c.toNat = false) : Lex (l ++ r) [l] r 1 := fun k q h => spL_num l r hl hd hr k q h
/-- What may stand behind a word or a number. -/
def stops (r : List UInt8) : Prop := ∀ c, r.head? = some c → isWd c.toNat = false
theorem stops_dg {r : List UInt8} (h : stops r) : ∀ c, r.head? = some c → isDg c.toNat = false := fun c hc => by
  have := h c hc
  simp only [isWd, Bool.or_eq_false_iff] at this
  exact this.1.2
theorem lex_done {l : List UInt8} {q : List (List UInt8)} {n : Nat} (h : Lex l q [] n) (hn : n ≤ l.length) : spL l.length l = some q := by
  have := h (l.length - n) [] (spL_nil _)
  rw [List.append_nil, show l.length - n + n = l.length by omega] at this
  exact this
/-- A number as it is written. -/
def litB (n : Int) : List UInt8 := if n < 0 then 45 :: digs n.natAbs else digs n.natAbs
def litT (n : Int) : List (List UInt8) := if n < 0 then [[45], digs n.natAbs] else [digs n.natAbs]
def litN (n : Int) : Nat := if n < 0 then 2 else 1
theorem lit_tok (n : Int) : (litT n).map ba = litW n := by
  unfold litT litW
  by_cases h : n < 0
  · rw [if_pos h, if_pos h]; rfl
  · rw [if_neg h, if_neg h]; rfl
theorem digs_ne (n : Nat) : digs n ≠ [] := by
  obtain ⟨d, r, _, e⟩ := digs_head n
  rw [e]
  simp
theorem lex_lit (n : Int) {r : List UInt8} (hr : stops r) : Lex (litB n ++ r) (litT n) r (litN n) := by
  have h1 : Lex (digs n.natAbs ++ r) [digs n.natAbs] r 1 := lex_num (digs_ne _) (digs_dg _) (stops_dg hr)
  unfold litB litT litN
  by_cases h : n < 0
  · rw [if_pos h, if_pos h, if_pos h]
    have h2 : Lex (45 :: (digs n.natAbs ++ r)) [[45]] (digs n.natAbs ++ r) 1 := lex_spR (by kernel_rfl)
    exact h2.app h1
  · rw [if_neg h, if_neg h, if_neg h]
    exact h1
theorem litB_len (n : Int) (hn : -100000 < n ∧ n < 100000) : litN n ≤ (litB n).length ∧ (litB n).length ≤ 6 := by
  have h := digs_len 4 n.natAbs (by omega)
  have h0 : 0 < (digs n.natAbs).length := List.length_pos_iff.2 (digs_ne _)
  unfold litB litN
  by_cases h : n < 0
  · rw [if_pos h, if_pos h, List.length_cons]; omega
  · rw [if_neg h, if_neg h]; omega
end Go.Proofs.YtidhiaaicmfabaaGreatDoor

/- Short numbers, numbers as they are written (seat .ZD alone). -/
namespace Go.Proofs.YtidhiaaicmfabaaGreatDoor
open Go.RowKit Go.Proofs Go.Deep

set_option maxRecDepth 100000 in
theorem digits_any (w : World) (n : Int) (hn : -100000 < n ∧ n < 100000) (R : Ending → World → Prop) (fin : ∀ w', Below w.heap.size w w' → R (.returned (.string (ba (litB n)))) w') : Calls Tryz.prog 38 #[.int .i64 n] w R := by
  by_cases h : n < 0
  · have d0 : decide (n < 0) = true := by simpa using h
    have jn : IntKind.i64.wrap (-n) = -n := IntWalk.i64_in _ (by omega)
    have d1 : (n == -n) = false := by simp; omega
    have en : -n = ((n.natAbs : Nat) : Int) := by omega
    have hz : ba [45] ++ ba (digs n.natAbs) = ba (litB n) := by
      rw [ba_app]
      unfold litB
      rw [if_pos h]
      rfl
    have zd1 : (ba (digs n.natAbs)).size ≤ 5 := by rw [ba_size]; exact digs_len 4 _ (by omega)
    replace fin := hd fin
    replace hz := hd hz
    go_enter Tryz.func38, Tryz.ntmps38
    go_wp2_with (fail)
    try rw [en]
    refine digits_pos _ n.natAbs (by omega) _ ?_
    intro w1 hb1
    replace hb1 := hd hb1
    go_wp2
    exact cl1 (fin.out _ hb1.out) (by rw [← hz.out]; rfl)
  · have en : n = ((n.natAbs : Nat) : Int) := by omega
    have e2 : litB n = digs n.natAbs := by unfold litB; rw [if_neg h]
    rw [e2] at fin
    rw [en]
    exact digits_pos w n.natAbs (by omega) R fin

end Go.Proofs.YtidhiaaicmfabaaGreatDoor

/- Divided (seat .ZD alone). -/
namespace Go.Proofs.YtidhiaaicmfabaaGreatDoor
open Go.RowKit Go.Proofs Go.Deep

theorem Dead.belowZ {M : Md} {cv : Value} {C : Nat → Int} {dn e : Int} {w w' : World} (h : Dead M cv C dn e w) (hb : Below w.heap.size w w') : Dead M cv C dn e w' := by
  refine ⟨h.row.of_block (hb.block _ h.row.lt), ?_, h.hC, h.ne⟩
  rcases h.cel with ⟨bc, cap, e, ht⟩ | h
  · exact .inl ⟨bc, cap, e, ht.of_block (hb.block _ ht.lt)⟩
  · exact .inr h
end Go.Proofs.YtidhiaaicmfabaaGreatDoor

/- Slices of numbers and of BOOLs that read as data (seat .ZD alone). -/
namespace Go.Proofs.YtidhiaaicmfabaaGreatDoor
open Go.RowKit Go.Proofs Go.Deep

open Go.ChangeShapes Go.WideShapes Go.ChangeAt
theorem laidOutZ : laidOutB Tryz.prog = true := by kernel_rfl
theorem cellsInt : Tryz.prog.cellsOf 3 = 1 := by kernel_rfl
theorem wf_i64 {n : Int} (h : (Lit.int .i64 n).wf = true) : -9223372036854775808 ≤ n ∧ n ≤ 9223372036854775807 := by
  simp [Lit.wf, IntKind.min, IntKind.max, IntKind.signed, IntKind.bits] at h
  exact h
set_option maxRecDepth 100000 in
/-- A slice of numbers that reads as data, as the walk's list. -/
theorem inp_of_ints {H : Type} {enc : TypeId × Value → H} {W : World} {v : Value} {d : DataW H} {p : List MemPlace} {r : Reach} {b0 : Nat} (hv : Value.okWide Tryz.prog W r b0 38 v)
    (h : DataW.Trod enc Tryz.prog W 0 (fun _ => true) true 38 v d p) : ∃ l, InpAt W.heap.size W v l ∧ ∀ x ∈ l, -9223372036854775808 ≤ x ∧ x ≤ 9223372036854775807 := by
  obtain ⟨fuel, hf⟩ := h
  obtain ⟨a0, len, cap, rfl⟩ := okWide_slice Tryz.underlying38 hv
  rcases open_ints Tryz.underlying38 Tryz.underlying3 cellsInt hf with ⟨hcs, hx⟩ | ⟨a, len', cap', zs, hcs, _, hl, hm, hz, hx, hcell, hwz⟩
  · simp [Value.cells] at hcs
    obtain ⟨rfl, rfl, rfl⟩ := hcs
    exact ⟨[], ⟨none, 0, rfl, Nat.le_refl _, .inr rfl⟩, by simp⟩
  · simp [Value.cells] at hcs
    obtain ⟨rfl, rfl, rfl⟩ := hcs
    simp only [if_true] at hz
    refine ⟨zs.take len, ?_, fun x hx => wf_i64 (hwz x (List.mem_of_mem_take hx))⟩
    have hlen : (zs.take len).length = len := by simp; omega
    refine ⟨some a, cap, by rw [hlen], by rw [hlen]; exact hl, ?_⟩
    by_cases h0 : len = 0
    · exact .inr (by simp [h0])
    have c0 := hcell 0 (by omega)
    obtain ⟨g, o, spot⟩ := a
    have hspot : spot = none := by simpa [Addr.add] using World.cell?_spot c0
    subst hspot
    refine .inl ⟨g, o, rfl, ?_, ?_⟩
    · have := World.block_lt_of_cell? W _ c0
      rw [block_add] at this
      exact Nat.ne_of_lt this
    · intro j x hj
      have hjl : j < len := by
        have := (List.getElem?_eq_some_iff.1 hj).1
        omega
      have hc := hcell j (by omega)
      have hadd : (⟨g, o, none⟩ : Addr).add j = ⟨g, o + j, none⟩ := by unfold Addr.add; split <;> simp_all
      rw [hadd] at hc
      rw [hc]
      rw [List.getElem?_take_of_lt hjl] at hj
      rw [List.getD_eq_getElem?_getD, hj]
      rfl
end Go.Proofs.YtidhiaaicmfabaaGreatDoor

/- Divided's row, lifted (seat .ZD alone). -/
namespace Go.Proofs.YtidhiaaicmfabaaGreatDoor
open Go.RowKit Go.Proofs Go.Deep

open Go.ChangeShapes Go.WideShapes Go.ChangeAt
theorem gOps : Tryz.prog.globalNamed "sluice/sluice.operators" = some 4 := by kernel_rfl
theorem gOpsT : (Tryz.prog.globals[4]?).map (·.type) = some 362 := by kernel_rfl
theorem cOp : Tryz.prog.cellsOf 349 = 3 := by kernel_rfl
theorem cU8 : Tryz.prog.cellsOf 5 = 1 := by kernel_rfl
theorem cFam : Tryz.prog.cellsOf 347 = 1 := by kernel_rfl
theorem cStr : Tryz.prog.cellsOf 9 = 1 := by kernel_rfl
def opD (j : Nat) : DataW Unit := .agg [.lit (.string (opS j).data.toList), .lit (.int .u8 (opF j)), .lit (.int .u8 (opI j))]
theorem laidOps : Rows.laid_sluice_sluice_operators = DataW.agg ((List.range 9).map opD) := by kernel_rfl
theorem ulOp : ∃ f0 f1 f2, Tryz.prog.underlying 349 = some (.struct #[f0, f1, f2]) ∧ f0.type = 9 ∧ f0.offset = 0 ∧ f1.type = 347 ∧ f1.offset = 1 ∧ f2.type = 5 ∧ f2.offset = 2 := ⟨_, _, _, Tryz.underlying349, rfl, rfl, rfl, rfl, rfl, rfl⟩
theorem opAt3 (i : Nat) (hi : i < 9) : opC[3 * i]? = some (.string (opS i)) ∧ opC[3 * i + 1]? = some (.int .u8 (opF i)) ∧ opC[3 * i + 2]? = some (.int .u8 (opI i)) := by
  have h2 : i = 0 ∨ i = 1 ∨ i = 2 ∨ i = 3 ∨ i = 4 ∨ i = 5 ∨ i = 6 ∨ i = 7 ∨ i = 8 := by omega
  rcases h2 with rfl | rfl | rfl | rfl | rfl | rfl | rfl | rfl | rfl <;> exact ⟨rfl, rfl, rfl⟩
theorem opC_len : opC.length = 27 := by kernel_rfl
theorem seg_at {l : List Value} {a b : Nat} {x : Value} (h : ((l.drop a).take 3 |>.drop b |>.take 1) = [x]) (hb : b < 3) : l[a + b]? = some x := by
  have h0 : (((l.drop a).take 3 |>.drop b |>.take 1))[0]? = some x := by rw [h]; rfl
  rw [List.getElem?_take_of_lt (by omega), List.getElem?_drop, List.getElem?_take_of_lt (by omega), List.getElem?_drop] at h0
  simpa using h0
set_option maxRecDepth 100000 in
/-- What the list of variables gives: the table of operators. -/
theorem ops_cells {l : List (String × DataW Unit)} {W : World} (h : laidMet Tryz.prog l W) (hm : ("sluice/sluice.operators", Rows.laid_sluice_sluice_operators) ∈ l) : ∀ i v, opC[i]? = some v → W.cell? ⟨4, i, none⟩ = some v := by
  obtain ⟨g, t, cs, fuel, p, h1, h2, h3, h4⟩ := Lib.laidMet.reads h hm
  obtain rfl := Option.some.inj (gOps.symm.trans h1)
  obtain rfl := Option.some.inj (gOpsT.symm.trans h2)
  obtain ⟨xs, m, _, ex, hcl, hl, hel⟩ := DataW.trod_array (by kernel_rfl : Tryz.prog.underlying 362 = some (.array 9 349)) h4
  have e3 : xs.map (·.1) = (List.range 9).map opD := by
    have := (Prod.mk.inj ex).1
    rw [laidOps] at this
    exact (DataW.agg.inj this).symm
  have hcell : ∀ j, j < 9 → cs.toList[3 * j]? = some (.string (opS j)) ∧ cs.toList[3 * j + 1]? = some (.int .u8 (opF j)) ∧ cs.toList[3 * j + 2]? = some (.int .u8 (opI j)) := fun j hj => by
    have hE := hel j hj
    rw [cOp, List.getElem?_eq_getElem (by omega)] at hE
    obtain ⟨f0, f1, f2, hu, t0, o0, t1, o1, t2, o2⟩ := ulOp
    obtain ⟨y0, y1, y2, n, hx, _, k0, k1, k2⟩ := trod_struct3 hu hE
    rw [t0, o0, cStr] at k0
    rw [t1, o1, cFam] at k1
    rw [t2, o2, cU8] at k2
    obtain ⟨s, s1, s2, _⟩ := DataW.trod_string Tryz.underlying9 k0
    obtain ⟨a, a1, a2, _⟩ := DataW.trod_int (by kernel_rfl : Tryz.prog.underlying 347 = some (.int .u8)) k1
    obtain ⟨b, b1, b2, _⟩ := DataW.trod_int Tryz.underlying5 k2
    have e4 : (xs[j]).1 = opD j := by
      have h5 : (xs.map (·.1))[j]? = ((List.range 9).map opD)[j]? := by rw [e3]
      rw [List.getElem?_map, List.getElem?_map, List.getElem?_eq_getElem (by omega), List.getElem?_range (by omega)] at h5
      simpa using h5
    rw [hx, s2, a2, b2] at e4
    unfold opD at e4
    have e5 := DataW.agg.inj e4
    simp only [List.cons.injEq, DataW.lit.injEq, Lit.string.injEq, Lit.int.injEq, true_and, and_true] at e5
    obtain ⟨p1, p2, p3⟩ := e5
    have hs : s = opS j := by
      cases hss : s with
      | mk d =>
        cases hso : opS j with
        | mk d2 =>
          rw [hss, hso] at p1
          congr 1
          exact Array.toList_inj.1 p1
    rw [Nat.mul_comm j 3] at s1 a1 b1
    refine ⟨?_, ?_, ?_⟩
    · have := seg_at s1 (by omega); rw [Nat.add_zero, hs] at this; exact this
    · have := seg_at a1 (by omega); rw [p2] at this; exact this
    · have := seg_at b1 (by omega); rw [p3] at this; exact this
  intro i v hv
  have hi : i < 27 := by rw [← opC_len]; exact (List.getElem?_eq_some_iff.1 hv).1
  rw [World.var?_cell h1 h3 i]
  obtain ⟨j, hj, hk⟩ : ∃ j, j < 9 ∧ (i = 3 * j ∨ i = 3 * j + 1 ∨ i = 3 * j + 2) := ⟨i / 3, by omega, by omega⟩
  have h5 := hcell j hj
  have h6 := opAt3 j hj
  have hcs : cs[i]? = cs.toList[i]? := (Array.getElem?_toList ..).symm
  rw [hcs]
  rcases hk with rfl | rfl | rfl
  · exact h5.1.trans (h6.1.symm.trans hv)
  · exact h5.2.1.trans (h6.2.1.symm.trans hv)
  · exact h5.2.2.trans (h6.2.2.symm.trans hv)
theorem own_knobD : ownKnob Tryz.prog.godebug = none := by kernel_rfl
end Go.Proofs.YtidhiaaicmfabaaGreatDoor
