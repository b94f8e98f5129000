/- Timed; slices that read as data. -/
import Derived.Test.YtidhiaaicmfabaaGreatDoorKaA
import Derived.WalkKit
import Derived.WalkSpells
import Derived.WalkLawsBesides
import Derived.Deep.OwnRows
import Derived.BigQuiet
import Derived.Handy
import Derived.Deep.Light
import Derived.Deep.RegionHeld3
import Derived.Deep.RegionWith
import Derived.Test.YtidhiaaicmfabaaGreatDoorJzR
import Derived.Test.YtidhiaaicmfabaaGreatDoorJzS
import Derived.Test.YtidhiaaicmfabaaGreatDoorCards
import Derived.Test.YtidhiaaicmfabaaGreatDoorTie
import Derived.ProofKit
import Derived.OpenShut
import Derived.LaidMore
import Derived.Lay
import Derived.ChangeBears2
import Derived.ChangeSlices
import Derived.Carry

/- Timed (seat .ZD alone). -/
namespace Go.Proofs.YtidhiaaicmfabaaGreatDoor
open Go.RowKit Go.Proofs Go.Deep

/-- A slice of BOOLs as the walk has it. -/
def BlsAt (w : World) (v : Value) (l : List Bool) : Prop :=
  ∃ ao cap, v = .slice ao l.length cap ∧ l.length ≤ cap ∧ ((∃ g o, ao = some ⟨g, o, none⟩ ∧ ∀ j x, l[j]? = some x → w.cell? ⟨g, o + j, none⟩ = some (.bool x)) ∨ l = [])
theorem str_call {X Y : ByteArray} {f : Nat} {w : World} {R : Ending → World → Prop} (h : X = Y) (hc : Calls Tryz.prog f #[.string Y] w R) : Calls Tryz.prog f #[.string X] w R := h ▸ hc
theorem tmJoin (p : Nat) : (ba tmPre ++ ba (digs p)) ++ ba tmPost = tmText p := by
  rw [ba_app, ba_app, List.append_assoc]
  rfl
set_option maxRecDepth 100000 in
set_option maxHeartbeats 4000000 in
theorem timedK_any (w : World) (hops : ∀ i v, opC[i]? = some v → w.cell? ⟨4, i, none⟩ = some v) (vo vd : Value) (on : List Bool) (ds : List Int) (nb : Nat) (hon : BlsAt w vo on) (hds : InpAt nb w vd ds) (hdb : ∀ x ∈ ds, -9223372036854775808 ≤ x ∧ x ≤ 9223372036854775807) (pr : Int) (hpr : -9223372036854775808 ≤ pr ∧ pr ≤ 9223372036854775807)
    (R : Ending → World → Prop) (fin : ∀ w', Below w.heap.size w w' → R (.returned (.bool true)) w') :
    Calls Tryz.prog 8 #[vo, vd, .int .i64 pr] w R := by
  have h4 : 4 < w.heap.size := World.block_lt_of_cell? w ⟨4, 0, none⟩ (hops 0 _ rfl)
  obtain ⟨ao, cpo, rfl, hcpo, hcs⟩ := hon
  obtain ⟨ad, cpd, rfl, hcpd, hcd⟩ := hds
  have hpb := pick_bd pr 1000 (by omega)
  obtain ⟨p, hp⟩ : ∃ p : Nat, pickV pr 1000 = (p : Int) := ⟨(pickV pr 1000).toNat, by omega⟩
  have hp1 : p < 1000 := by omega
  replace fin := hd fin
  replace hcs := hd hcs
  replace hcd := hd hcd
  replace hdb := hd hdb
  go_enter Tryz.func8, Tryz.ntmps8
  go_wp2_with (fail)
  refine copies_any _ _ ?_
  intro w1 hb1
  have hz1 := hb1.size
  replace hb1 := hd hb1
  go_wp2_with (first | (go_at_call 37; refine pick_any _ _ _ hpr (by omega) _ ?_))
  refine digits_pos _ p (by omega) _ ?_
  intro w2 hb2
  have hB2 := hb1.out.trans (hb2.mono hz1)
  have hz2 := hB2.size
  have hops2 : ∀ i v, opC[i]? = some v → w2.cell? ⟨4, i, none⟩ = some v := fun i v hv => (hB2.cell (p := ⟨4, i, none⟩) h4).trans (hops i v hv)
  have zd1 : (ba (digs p)).size ≤ 3 := by rw [ba_size]; exact digs_len 2 p (by omega)
  replace hB2 := hd hB2
  clear hb1 hb2
  go_wp2_with (fail)
  refine str_call (tmJoin p) ?_
  refine tmachine _ p hp1 hops2 _ ?_
  intro cap bs bx bc To' To H L w3 hb3 hbx hbs hbc hlive hkw
  have hB3 := hB2.out.trans (hb3.mono hz2)
  have hz3 := hB3.size
  have hbxl := hlive.row.lt
  have hbcl := hlive.cel.lt
  have tm : ((Value.pointer (some ⟨bx, 0, none⟩) : Value) = .pointer none) = False := by simp
  replace hB3 := hd hB3
  replace hlive := hd hlive
  replace hkw := hd hkw
  clear hb3 hB2 hops2 tm
  go_wp2
  go_loopw [10, 11] (fun el i wr => ∃ (k : Nat) (E : Int) (C : Nat → Int) (dn : Int), k ≤ on.length ∧ k ≤ 30 ∧ i = .int .i64 k ∧ el = .int .i64 E ∧ 0 ≤ E ∧ E ≤ 300 * k ∧ C 1 = E ∧ Live (tMd p cap bs bx To' 5) bc C dn wr ∧ Below w.heap.size w wr) (fun _ i _ => 30 - (intOf i).toNat)
  case atStart => exact ⟨0, 0, _, 0, by omega, by omega, rfl, rfl, by omega, by omega, rfl, hlive.out, hB3.out⟩
  case round =>
    obtain ⟨k, E, C, dn, hk, hk30, rfl, rfl, hE0, hE1, hC1, hlv, hbel⟩ := hrel
    by_cases hlt : k < on.length ∧ k < 30
    · obtain ⟨hlt, hlt2⟩ := hlt
      obtain ⟨x, hx⟩ : ∃ x, on[k]? = some x := ⟨_, List.getElem?_eq_getElem hlt⟩
      obtain ⟨g, o, rfl, hc⟩ : ∃ g o, ao = some ⟨g, o, none⟩ ∧ w.cell? ⟨g, o + k, none⟩ = some (.bool x) := by
        rcases hcs.out with ⟨g, o, e, h⟩ | h
        · exact ⟨g, o, e, h k x hx⟩
        · subst h; simp at hlt
      have hgl : g < w.heap.size := World.block_lt_of_cell? w _ hc
      have hszr := hbel.size
      have cx := (hbel.cell (p := ⟨g, o + k, none⟩) hgl).trans hc
      have t1 : decide ((k : Int) < (on.length : Int)) = true := by simp; omega
      have t2 : decide ((k : Int) < 30) = true := by simp; omega
      have hglr : g < wr.heap.size := by omega
      have hlva := fun (n : Int) => hlv.below ((Below.refl _ wr).alloc (Nat.le_refl _) (.cells #[.int .i64 n] 3))
      have hne : wr.heap.size ≠ bc := by have := hlv.cel.lt; omega
      have hdel : ∃ d : Int, 0 ≤ d ∧ d < 300 ∧ ((decide ((k : Int) < (ds.length : Int)) = true ∧ ∃ y gd od, ad = some ⟨gd, od, none⟩ ∧ wr.cell? ⟨gd, od + k, none⟩ = some (.int .i64 y) ∧ gd < wr.heap.size ∧ (-9223372036854775808 ≤ y ∧ y ≤ 9223372036854775807) ∧ k < ds.length ∧ d = pickV y 300) ∨ (decide ((k : Int) < (ds.length : Int)) = false ∧ ¬ k < ds.length ∧ d = 0)) := by
        by_cases hkd : k < ds.length
        · obtain ⟨y, hy⟩ : ∃ y, ds[k]? = some y := ⟨_, List.getElem?_eq_getElem hkd⟩
          obtain ⟨gd, od, e, h⟩ : ∃ g o, ad = some ⟨g, o, none⟩ ∧ w.cell? ⟨g, o + k, none⟩ = some (.int .i64 y) := by
            rcases hcd.out with ⟨g, o, e, _, h⟩ | h
            · exact ⟨g, o, e, h k y hy⟩
            · subst h; simp at hkd
          have hgd : gd < w.heap.size := World.block_lt_of_cell? w _ h
          have hpk := pick_bd y 300 (by omega)
          exact ⟨pickV y 300, hpk.1, hpk.2, .inl ⟨by simp; omega, y, gd, od, e, (hbel.cell (p := ⟨gd, od + k, none⟩) hgd).trans h, by omega, hdb.out y (List.mem_of_getElem? hy), hkd, rfl⟩⟩
        · exact ⟨0, by omega, by omega, .inr ⟨by simp; omega, hkd, rfl⟩⟩
      obtain ⟨d, hd0, hd1, hdel⟩ := hdel
      replace hbel := hd hbel
      replace hlva := hd hlva
      have jE : IntKind.i64.wrap (E + d) = E + d := IntWalk.i64_in _ (by omega)
      have hx3 : x = false ∨ (x = true ∧ ((p : Int) ≤ E + d)) ∨ (x = true ∧ ¬ ((p : Int) ≤ E + d)) := by
        cases x
        · exact .inl rfl
        · by_cases hh : (p : Int) ≤ E + d
          · exact .inr (.inl ⟨rfl, hh⟩)
          · exact .inr (.inr ⟨rfl, hh⟩)
      clear hlv hc hx
      rcases hdel with ⟨td, y, gd, od, rfl, cy, hgd, hyb, hkd, rfl⟩ | ⟨td, hkd, rfl⟩
      · rcases hx3 with rfl | ⟨rfl, hpe⟩ | ⟨rfl, hpe⟩
        · go_wp2_with (first | (go_at_call 37; refine pick_any _ _ _ hyb (by omega) _ ?_))
          refine ttold w.heap.size _ hp1 (hlva.out 0) hkw.out (by omega) (by omega) (by simp; omega) (a := false) (d := pickV y 300) (el := E) (el' := 0) (q := 0) allocCells hne hC1 (by omega) (by omega) rfl rfl _ ?_
          intro w4 go dn4 C4 hb4 hc4 hl4 g0 cp
          have lgo := World.block_lt_of_cell? w4 ⟨go, 0, none⟩ g0
          have hB4 := hd ((hbel.out.alloc hszr _).trans hb4)
          replace hl4 := hd hl4
          clear hb4
          go_wp2
          exact ⟨⟨k + 1, 0, C4, dn4, by omega, by omega, by go_num, by first | rfl | simp, by omega, by omega, hc4, hl4.out, hB4.out⟩, by simp [intOf]; omega⟩
        · have tp : decide ((p : Int) ≤ E + pickV y 300) = true := by simpa using hpe
          go_wp2_with (first | (go_at_call 37; refine pick_any _ _ _ hyb (by omega) _ ?_))
          refine ttold w.heap.size _ hp1 (hlva.out 1) hkw.out (by omega) (by omega) (by simp; omega) (a := true) (d := pickV y 300) (el := E) (el' := E + pickV y 300) (q := 1) allocCells hne hC1 (by omega) (by omega) rfl (by rw [tp]; rfl) _ ?_
          intro w4 go dn4 C4 hb4 hc4 hl4 g0 cp
          have lgo := World.block_lt_of_cell? w4 ⟨go, 0, none⟩ g0
          have hB4 := hd ((hbel.out.alloc hszr _).trans hb4)
          replace hl4 := hd hl4
          clear hb4
          go_wp2
          exact ⟨⟨k + 1, E + pickV y 300, C4, dn4, by omega, by omega, by go_num, by first | rfl | simp, by omega, by omega, hc4, hl4.out, hB4.out⟩, by simp [intOf]; omega⟩
        · have tp : decide ((p : Int) ≤ E + pickV y 300) = false := by simpa using hpe
          go_wp2_with (first | (go_at_call 37; refine pick_any _ _ _ hyb (by omega) _ ?_))
          refine ttold w.heap.size _ hp1 (hlva.out 1) hkw.out (by omega) (by omega) (by simp; omega) (a := true) (d := pickV y 300) (el := E) (el' := E + pickV y 300) (q := 0) allocCells hne hC1 (by omega) (by omega) rfl (by rw [tp]; rfl) _ ?_
          intro w4 go dn4 C4 hb4 hc4 hl4 g0 cp
          have lgo := World.block_lt_of_cell? w4 ⟨go, 0, none⟩ g0
          have hB4 := hd ((hbel.out.alloc hszr _).trans hb4)
          replace hl4 := hd hl4
          clear hb4
          go_wp2
          exact ⟨⟨k + 1, E + pickV y 300, C4, dn4, by omega, by omega, by go_num, by first | rfl | simp, by omega, by omega, hc4, hl4.out, hB4.out⟩, by simp [intOf]; omega⟩
      · have jE0 : IntKind.i64.wrap (E + 0) = E + 0 := jE
        rcases hx3 with rfl | ⟨rfl, hpe⟩ | ⟨rfl, hpe⟩
        · go_wp2_with (fail)
          refine ttold w.heap.size _ hp1 (hlva.out 0) hkw.out (by omega) (by omega) (by simp; omega) (a := false) (d := 0) (el := E) (el' := 0) (q := 0) allocCells hne hC1 (by omega) (by omega) rfl rfl _ ?_
          intro w4 go dn4 C4 hb4 hc4 hl4 g0 cp
          have lgo := World.block_lt_of_cell? w4 ⟨go, 0, none⟩ g0
          have hB4 := hd ((hbel.out.alloc hszr _).trans hb4)
          replace hl4 := hd hl4
          clear hb4
          go_wp2
          exact ⟨⟨k + 1, 0, C4, dn4, by omega, by omega, by go_num, by first | rfl | simp, by omega, by omega, hc4, hl4.out, hB4.out⟩, by simp [intOf]; omega⟩
        · have tp : decide ((p : Int) ≤ E + 0) = true := by simpa using hpe
          go_wp2_with (fail)
          refine ttold w.heap.size _ hp1 (hlva.out 1) hkw.out (by omega) (by omega) (by simp; omega) (a := true) (d := 0) (el := E) (el' := E + 0) (q := 1) allocCells hne hC1 (by omega) (by omega) rfl (by rw [tp]; rfl) _ ?_
          intro w4 go dn4 C4 hb4 hc4 hl4 g0 cp
          have lgo := World.block_lt_of_cell? w4 ⟨go, 0, none⟩ g0
          have hB4 := hd ((hbel.out.alloc hszr _).trans hb4)
          replace hl4 := hd hl4
          clear hb4
          go_wp2
          exact ⟨⟨k + 1, E + 0, C4, dn4, by omega, by omega, by go_num, by first | rfl | simp, by omega, by omega, hc4, hl4.out, hB4.out⟩, by simp [intOf]; omega⟩
        · have tp : decide ((p : Int) ≤ E + 0) = false := by simpa using hpe
          go_wp2_with (fail)
          refine ttold w.heap.size _ hp1 (hlva.out 1) hkw.out (by omega) (by omega) (by simp; omega) (a := true) (d := 0) (el := E) (el' := E + 0) (q := 0) allocCells hne hC1 (by omega) (by omega) rfl (by rw [tp]; rfl) _ ?_
          intro w4 go dn4 C4 hb4 hc4 hl4 g0 cp
          have lgo := World.block_lt_of_cell? w4 ⟨go, 0, none⟩ g0
          have hB4 := hd ((hbel.out.alloc hszr _).trans hb4)
          replace hl4 := hd hl4
          clear hb4
          go_wp2
          exact ⟨⟨k + 1, E + 0, C4, dn4, by omega, by omega, by go_num, by first | rfl | simp, by omega, by omega, hc4, hl4.out, hB4.out⟩, by simp [intOf]; omega⟩
    · replace hbel := hd hbel
      clear hlv
      by_cases h1 : k < on.length
      · have t1 : decide ((k : Int) < (on.length : Int)) = true := by simp; omega
        have t2 : decide ((k : Int) < 30) = false := by simp; omega
        have h2 : ¬ (k : Int) < 30 := by omega
        have h3 : ¬ k < 30 := by omega
        go_wp2
        exact cl1 (fin.out _ hbel.out) rfl
      · have t1 : decide ((k : Int) < (on.length : Int)) = false := by simp; omega
        go_wp2
        exact cl1 (fin.out _ hbel.out) rfl

end Go.Proofs.YtidhiaaicmfabaaGreatDoor

/- Slices of numbers and of BOOLs that read as data (seat .ZD alone). -/
namespace Go.Proofs.YtidhiaaicmfabaaGreatDoor
open Go.RowKit Go.Proofs Go.Deep

open Go.ChangeShapes Go.WideShapes Go.ChangeAt
theorem laidOutZ : laidOutB Tryz.prog = true := by kernel_rfl
theorem cellsInt : Tryz.prog.cellsOf 3 = 1 := by kernel_rfl
theorem cellsBool : Tryz.prog.cellsOf 4 = 1 := by kernel_rfl
theorem wf_i64 {n : Int} (h : (Lit.int .i64 n).wf = true) : -9223372036854775808 ≤ n ∧ n ≤ 9223372036854775807 := by
  simp [Lit.wf, IntKind.min, IntKind.max, IntKind.signed, IntKind.bits] at h
  exact h
set_option maxRecDepth 100000 in
/-- A slice of numbers that reads as data, as the walk's list. -/
theorem inp_of_ints {H : Type} {enc : TypeId × Value → H} {W : World} {v : Value} {d : DataW H} {p : List MemPlace} {r : Reach} {b0 : Nat} (hv : Value.okWide Tryz.prog W r b0 38 v)
    (h : DataW.Trod enc Tryz.prog W 0 (fun _ => true) true 38 v d p) : ∃ l, InpAt W.heap.size W v l ∧ ∀ x ∈ l, -9223372036854775808 ≤ x ∧ x ≤ 9223372036854775807 := by
  obtain ⟨fuel, hf⟩ := h
  obtain ⟨a0, len, cap, rfl⟩ := okWide_slice Tryz.underlying38 hv
  rcases open_ints Tryz.underlying38 Tryz.underlying3 cellsInt hf with ⟨hcs, hx⟩ | ⟨a, len', cap', zs, hcs, _, hl, hm, hz, hx, hcell, hwz⟩
  · simp [Value.cells] at hcs
    obtain ⟨rfl, rfl, rfl⟩ := hcs
    exact ⟨[], ⟨none, 0, rfl, Nat.le_refl _, .inr rfl⟩, by simp⟩
  · simp [Value.cells] at hcs
    obtain ⟨rfl, rfl, rfl⟩ := hcs
    simp only [if_true] at hz
    refine ⟨zs.take len, ?_, fun x hx => wf_i64 (hwz x (List.mem_of_mem_take hx))⟩
    have hlen : (zs.take len).length = len := by simp; omega
    refine ⟨some a, cap, by rw [hlen], by rw [hlen]; exact hl, ?_⟩
    by_cases h0 : len = 0
    · exact .inr (by simp [h0])
    have c0 := hcell 0 (by omega)
    obtain ⟨g, o, spot⟩ := a
    have hspot : spot = none := by simpa [Addr.add] using World.cell?_spot c0
    subst hspot
    refine .inl ⟨g, o, rfl, ?_, ?_⟩
    · have := World.block_lt_of_cell? W _ c0
      rw [block_add] at this
      exact Nat.ne_of_lt this
    · intro j x hj
      have hjl : j < len := by
        have := (List.getElem?_eq_some_iff.1 hj).1
        omega
      have hc := hcell j (by omega)
      have hadd : (⟨g, o, none⟩ : Addr).add j = ⟨g, o + j, none⟩ := by unfold Addr.add; split <;> simp_all
      rw [hadd] at hc
      rw [hc]
      rw [List.getElem?_take_of_lt hjl] at hj
      rw [List.getD_eq_getElem?_getD, hj]
      rfl
def blOf {H : Type} (y : DataW H × List MemPlace) : Bool := match y.1 with | .lit (.bool b) => b | _ => false
set_option maxRecDepth 100000 in
/-- A slice of BOOLs that reads as data, as the walk's list. -/
theorem bls_of_bools {H : Type} {enc : TypeId × Value → H} {W : World} {v : Value} {d : DataW H} {p : List MemPlace} {r : Reach} {b0 : Nat} (hv : Value.okWide Tryz.prog W r b0 78 v)
    (h : DataW.Trod enc Tryz.prog W 0 (fun _ => true) true 78 v d p) : ∃ l, BlsAt W v l := by
  obtain ⟨fuel, hf⟩ := h
  obtain ⟨a0, len, cap, rfl⟩ := okWide_slice Tryz.underlying78 hv
  rcases DataW.trod_slice Tryz.underlying78 hf with ⟨hcs, hx⟩ | ⟨a, len', cap', elems, rest, n, _, hcs, _, hb, hl, hm, hlen, hel, _, _⟩
  · simp [Value.cells] at hcs
    obtain ⟨rfl, rfl, rfl⟩ := hcs
    exact ⟨[], ⟨none, 0, rfl, Nat.le_refl _, .inr rfl⟩⟩
  · simp [Value.cells] at hcs
    obtain ⟨rfl, rfl, rfl⟩ := hcs
    have each : ∀ i y, i < len → elems[i]? = some y → W.cell? (a.add i) = some (.bool (blOf y)) := by
      intro i y hi hy
      have hb' := hel i hi
      rw [hy, cellsBool, Nat.mul_one, Option.bind_eq_some_iff] at hb'
      obtain ⟨cs', hcs, hy'⟩ := hb'
      obtain ⟨m, rfl, rfl⟩ := DataW.trod_bool Tryz.underlying4 hy'
      exact cell_of_cells?_one hcs
    have hle : (elems.map blOf).length = len := by simp [hlen]
    refine ⟨elems.map blOf, some a, cap, by rw [hle], by rw [hle]; exact hl, ?_⟩
    by_cases h0 : len = 0
    · exact .inr (by have : elems = [] := List.eq_nil_of_length_eq_zero (by omega); rw [this]; rfl)
    obtain ⟨y0, hy0⟩ : ∃ y, elems[0]? = some y := ⟨_, List.getElem?_eq_getElem (by omega)⟩
    have c0 := each 0 y0 (by omega) hy0
    obtain ⟨g, o, spot⟩ := a
    have hspot : spot = none := by simpa [Addr.add] using World.cell?_spot c0
    subst hspot
    refine .inl ⟨g, o, rfl, ?_⟩
    intro j x hj
    rw [List.getElem?_map] at hj
    obtain ⟨y, hy, rfl⟩ := Option.map_eq_some_iff.1 hj
    have hjl : j < len := by
      have := (List.getElem?_eq_some_iff.1 hy).1
      omega
    have hc := each j y hjl hy
    have hadd : (⟨g, o, none⟩ : Addr).add j = ⟨g, o + j, none⟩ := by unfold Addr.add; split <;> simp_all
    rw [hadd] at hc
    exact hc

end Go.Proofs.YtidhiaaicmfabaaGreatDoor
