/- Compile at a right text. -/
import Derived.Test.YtidhiaaicmfabaaGreatDoorKaA
import Derived.WalkKit
import Derived.WalkSpells
import Derived.WalkLawsBesides
import Derived.Deep.OwnRows
import Derived.BigQuiet
import Derived.Handy
import Derived.Deep.Light
import Derived.Deep.RegionHeld3
import Derived.Deep.RegionWith
import Derived.Test.YtidhiaaicmfabaaGreatDoorJyU
import Derived.Test.YtidhiaaicmfabaaGreatDoorJyN
import Derived.Test.YtidhiaaicmfabaaGreatDoorJyV
import Derived.Test.YtidhiaaicmfabaaGreatDoorJcB
import Derived.Test.YtidhiaaicmfabaaGreatDoorJyO
import Derived.Test.YtidhiaaicmfabaaGreatDoorJyQ
import Derived.WalkSmall
import Derived.Test.YtidhiaaicmfabaaGreatDoorJcC

/- FOR is checked (seat .ZD alone). -/
namespace Go.Proofs.YtidhiaaicmfabaaGreatDoor
open Go.RowKit Go.Proofs Go.Deep

/-- The checker's memory, its row of FORs turned. -/
theorem Env.turn {bc bm : Nat} {fst : Nat → Int} {vs : List Vd} {bs : List Nat} {lv lv' : Value} {ls ls' : List ByteArray} {w w' : World} (h : Env bc bm fst vs bs lv ls w) (hk : ∀ b, b < w.heap.size → b ≠ bc → lv.ownBlock ≠ some b → w'.heap[b]? = w.heap[b]?) (hck : w'.rowIs bc 149 3 (ckF bm lv')) (hl : w'.ownsRow 0 9 1 lv' ls'.length (strV ls')) : Env bc bm fst vs bs lv' ls' w' := by
  refine ⟨hck, ?_, h.vars.keep (fun b cur _ hc => hk b (Array.getElem?_eq_some_iff.1 hc).1 (h.not_ck hc (by decide)) (h.not_own hc (by decide))), hl, h.names⟩
  obtain ⟨D, ⟨es, c, h1, h2⟩, h3⟩ := h.nm
  refine h.nm.keep (hk bm h.nm.lt (fun e => ?_) (fun e => ?_))
  · subst e
    obtain ⟨cur, h4, _⟩ := h.ck
    rw [h1] at h4
    cases h4
  · obtain ⟨cur, h4⟩ := h.own_str e
    rw [h1] at h4
    cases h4
theorem Kc.any {bc lo hi lo' hi' : Nat} {u u' : Value} {w w' : World} (h : Kc bc lo hi u u' w w') (hn : hi ≤ lo) : Kc bc lo' hi' u u' w w' := ⟨h.os, h.tape, h.output, h.size, fun b hb a1 a2 _ => h.block b hb a1 a2 (fun _ _ => by omega), h.own⟩
end Go.Proofs.YtidhiaaicmfabaaGreatDoor

/- Compile at a right text with FORs (seat .ZD alone). -/
namespace Go.Proofs.YtidhiaaicmfabaaGreatDoor
open Go.RowKit Go.Proofs Go.Deep

set_option maxRecDepth 100000 in
set_option maxHeartbeats 4000000 in
theorem typed_okL {lo bm : Nat} {w : World} {vs : List Vd} {bs : List Nat} {us : List ByteArray} {body : Sl} {xs : List Value} {vv uv bv : Value} (h : PgIn lo w vs bs us body xs vv uv bv) (hnm : NmAt w bm vs.length (findB vs bs)) (hlow : ∀ v ∈ vs, LowName v.name) (hwv : ∀ v ∈ vs, wtV v = true) (hck : AllCkL vs [] body) (hvl : vs.length ≤ 1000000) (hbl : body.len ≤ 1000000) (hlo : lo ≤ w.heap.size)
    (R : Ending → World → Prop) (fin : ∀ w', Kf lo w.heap.size w w' → SlIn (kE vs) bv.ownBlock body lo w.heap.size w' xs → R (.returned (.bool true)) w') :
    Calls Tryz.prog 43 #[.agg #[vv, uv, bv], .map (some bm)] w R := by
  obtain ⟨vo, vc, rfl, hvc, hvo⟩ := own_form h.vown
  obtain ⟨uo, uc, rfl⟩ := own_slS h.used
  obtain ⟨bo, bc, rfl⟩ := own_slS h.bown
  replace fin := hd fin
  replace hvo := hd hvo
  obtain ⟨W0, hW0⟩ : ∃ W0, W0 = (w.alloc (Obj.cells #[.slice vo vs.length vc, .slice uo us.length uc, .slice bo body.len bc] 87)).alloc (Obj.cells #[.map (some bm), .slice none 0 0, .bool false] 149) := ⟨_, rfl⟩
  have hbel : Below w.heap.size w W0 := by rw [hW0]; exact ((Below.refl _ w).alloc (Nat.le_refl _) _).alloc (by simp) _
  have hbx : W0.heap[w.heap.size]? = some (.cells #[.slice vo vs.length vc, .slice uo us.length uc, .slice bo body.len bc] 87) := by rw [hW0]; exact (Below.heap_alloc _ _ _ (by simp)).trans allocCells
  have hck0 : W0.heap[w.heap.size + 1]? = some (.cells #[.map (some bm), .slice none 0 0, .bool false] 149) := by
    rw [hW0]
    have := allocCells (w := w.alloc (Obj.cells #[.slice vo vs.length vc, .slice uo us.length uc, .slice bo body.len bc] 87)) (cur := #[.map (some bm), .slice none 0 0, .bool false]) (T := 149) (fz := (0, 0))
    simpa using this
  replace hW0 := hd hW0
  go_enter Tryz.func43, Tryz.ntmps43
  go_wp2
  go_loopw [7, 13] (fun _ iv wr => ∃ i : Nat, i ≤ vs.length ∧ iv = .int .i64 (i : Int) ∧ wr = W0) (fun _ iv _ => vs.length - (intOf iv).toNat)
  case atStart => exact ⟨0, Nat.zero_le _, rfl, by rw [hW0.out]⟩
  case round =>
    obtain ⟨i, hi, rfl, rfl⟩ := hrel
    by_cases hlt : i < vs.length
    · have td : decide ((i : Int) < (vs.length : Int)) = true := by simp; omega
      obtain ⟨v, hv⟩ : ∃ v, vs[i]? = some v := ⟨_, List.getElem?_eq_getElem hlt⟩
      obtain ⟨b, hb⟩ : ∃ b, bs[i]? = some b := ⟨_, List.getElem?_eq_getElem (by rw [h.vars.len]; exact hlt)⟩
      obtain ⟨g, rfl, hgl, hgs, hg⟩ := hvo.out (by omega)
      obtain ⟨hblo, hbr⟩ := h.vars.row i v b hv hb
      have hblt := hbr.lt
      have hwt := hwv v (List.mem_of_getElem? hv)
      simp only [wtV, Bool.and_eq_true, Bool.or_eq_true, decide_eq_true_eq] at hwt
      obtain ⟨⟨hw1, hw2⟩, hw3⟩ := hwt
      have c1 : wr.cell? ⟨g, i, none⟩ = some (.pointer (some ⟨b, 0, none⟩)) := (hbel.cell (p := ⟨g, i, none⟩) hgs).trans (hg i _ (by unfold ptzV; rw [List.getElem?_map, hb]; rfl))
      have c2 : wr.cell? ⟨b, 2, none⟩ = some (.int .u8 (v.kind : Int)) := (hbel.cell (p := ⟨b, 2, none⟩) hblt).trans (hbr.cell (i := 2) (by omega))
      have c3 : wr.cell? ⟨b, 1, none⟩ = some (.int .u8 (v.role : Int)) := (hbel.cell (p := ⟨b, 1, none⟩) hblt).trans (hbr.cell (i := 1) (by omega))
      have c4 : wr.cell? ⟨b, 4, none⟩ = some (.int .i64 v.len) := (hbel.cell (p := ⟨b, 4, none⟩) hblt).trans (hbr.cell (i := 4) (by omega))
      have j0 : (0 : Int) ≤ (i : Int) ∧ (i : Int) < (vs.length : Int) := by omega
      have t1 : decide (1 ≤ v.len) = true := by simpa using hw2
      have t2 : decide (v.len ≤ 16) = true := by simpa using hw3
      have hcase : ((v.kind : Int) != 3) = true ∨ (((v.kind : Int) != 3) = false ∧ ((v.role : Int) == 2) = true) := by
        by_cases e : v.kind = 3
        · right
          refine ⟨by simp; omega, ?_⟩
          rcases hw1 with h | h
          · exact absurd e h
          · simp; omega
        · left; simp; omega
      clear hg hbr hv hb
      rcases hcase with t3 | ⟨t3, t4⟩
      all_goals
        go_wp2_with (first | (go_at_call 69; refine want_ok _ _ _ ?_))
        exact ⟨⟨i + 1, by omega, by go_num, by first | rfl | trivial⟩, by simp [intOf]; omega⟩
    · have td : decide ((i : Int) < (vs.length : Int)) = false := by simp; omega
      have u2 : wr.cell? ⟨w.heap.size, 2, none⟩ = some (.slice bo body.len bc) := cellOf (i := 2) hbx rfl
      have henv : Env (w.heap.size + 1) bm (fun _ => 0) vs bs (.slice none 0 0) [] wr := by
        refine ⟨rowOf hck0 rfl (fun i hi => ?_), hnm.keep (hbel.block _ hnm.lt), (h.vars.low (Nat.zero_le _)).keep (fun b _ _ hc => hbel.block b (Array.getElem?_eq_some_iff.1 hc).1), World.ownsRow_nil _ _ _ _, hlow⟩
        have : i = 0 ∨ i = 1 ∨ i = 2 := by omega
        rcases this with rfl | rfl | rfl <;> rfl
      have hbown : wr.ownsRow lo 240 1 (.slice bo body.len bc) body.len xs := own_keep h.bown (fun j _ _ hj => hbel.block j hj)
      have hbody : SlIn (fun _ => 0) (Value.slice bo body.len bc).ownBlock body lo w.heap.size wr xs := h.body.keep (fun b _ _ _ _ h2 _ _ => hbel.block b h2)
      replace hbx := hd hbx
      replace hck0 := hd hck0
      go_wp2_with (fail)
      refine checks_okL hck hbl henv hbown hbody hlo (by omega) _ ?_
      intro w1 lv1 env1 k1 hx1
      have cw : w1.cell? ⟨w.heap.size + 1, 2, none⟩ = some (.bool false) := env1.ck.cell (i := 2) (by omega)
      have hK : Kf lo w.heap.size w w1 := ⟨k1.os.trans hbel.os, k1.tape.trans hbel.tape, k1.output.trans hbel.output, Nat.le_trans hbel.size k1.size, fun b hb hp => (k1.block b (Nat.lt_of_lt_of_le hb hbel.size) (by omega) (by simp [Value.ownBlock]) (fun cur hc => hp cur ((hbel.block b hb).symm.trans hc))).trans (hbel.block b hb)⟩
      replace hK := hd hK
      replace hx1 := hd hx1
      clear k1 henv hbown hbody env1
      go_wp2
      exact cl1 (fin.out _ hK.out hx1.out) rfl
set_option maxRecDepth 100000 in
set_option maxHeartbeats 4000000 in
theorem image_plainL {lo bm : Nat} {w : World} {vs : List Vd} {bs : List Nat} {body : Sl} {xs : List Value} {vo uo bo : Option Addr} {vc n2 c2 bcp : Nat} {f : Nat → List Int} (h : PgK lo w.heap.size w vs bs body xs (.slice vo vs.length vc) (.slice bo body.len bcp)) (hnm : NmAt w bm vs.length (findB vs bs)) (hlow : ∀ v ∈ vs, LowName v.name) (hwv : ∀ v ∈ vs, wtV v = true ∧ v.role < 3 ∧ v.kind ≤ 3) (hvl : 0 < vs.length ∧ lenV vs ≤ 60) (hbl : body.len ≤ 1000000)
    (hw : AllWL vs ((cellsB vs).length : Int) body f false) (hcode : (f 0).length ≤ 60000) (hin : ∀ n ∈ f 0, 0 ≤ n ∧ n ≤ 255)
    (R : Ending → World → Prop) (fin : ∀ w', Vf lo w w' → R (.returned (.string ⟨(mkB ++ u8L (imgI (cellsB vs) (f 0 ++ [0]))).toArray⟩)) w') :
    Calls Tryz.prog 46 #[.agg #[.slice vo vs.length vc, .slice uo n2 c2, .slice bo body.len bcp], .map (some bm)] w R := by
  have hbel0 : Below w.heap.size w (w.alloc (Obj.cells #[.slice vo vs.length vc, .slice uo n2 c2, .slice bo body.len bcp] 87)) := (Below.refl _ w).alloc (Nat.le_refl _) _
  have hvown := own_keep h.vown (fun j _ _ hj => hbel0.block j hj)
  have hvars := h.vars.keep (fun b _ _ hc => hbel0.block b (Array.getElem?_eq_some_iff.1 hc).1)
  replace fin := hd fin
  have hcl := cellsB_len vs (fun v hv => (hwv v hv).1)
  have hlv := lenV_bound vs (fun v hv => (hwv v hv).1)
  go_enter Tryz.func46, Tryz.ntmps46
  go_wp2_with (fail)
  refine layCells_ok hvown hvars hwv (by omega) _ ?_
  intro w1 cv hvf1 hvars1 hcells1
  have hz1 := hvf1.size
  rw [World.size_alloc] at hz1
  have hbx1 : w1.heap[w.heap.size]? = some (.cells #[.slice vo vs.length vc, .slice uo n2 c2, .slice bo body.len bcp] 87) := (hvf1.tag allocCells (by decide)).trans allocCells
  have hvfA : Vf lo w w1 := (Vf.of_below hbel0).trans hvf1
  have hnm1 : NmAt w1 bm vs.length (findB vs bs) := hvfA.nm hnm
  have hbo1 : w1.ownsRow lo 240 1 (.slice bo body.len bcp) body.len xs := own_tag h.bown (fun b cur hc => hvfA.tag hc (by decide))
  have hbd1 : SlIn (kE vs) (Value.slice bo body.len bcp).ownBlock body lo w.heap.size w1 xs := h.body.keep2 (fun b cur T _ hT' _ _ _ hc => hvfA.tag hc hT')
  obtain ⟨co, cc, rfl, hcc, hco⟩ := own_form hcells1
  have j1 : IntKind.u8.wrap ((cellsB vs).length : Int) = ((cellsB vs).length : Int) := u8wrap (by omega) (by omega)
  have u2 : w1.cell? ⟨w.heap.size, 2, none⟩ = some (.slice bo body.len bcp) := cellOf hbx1 rfl
  have hcpos : 0 < (cellsB vs).length := by
    have h1 : ∀ (l : List Vd), (∀ v ∈ l, wtV v = true) → (l.length : Int) ≤ lenV l := by
      intro l
      induction l with
      | nil => intro _; simp [lenV]
      | cons v t ih =>
        intro h
        have h1 := ih (fun u hu => h u (List.mem_cons_of_mem _ hu))
        have h2 := h v (List.mem_cons_self ..)
        simp only [wtV, Bool.and_eq_true, decide_eq_true_eq] at h2
        simp only [lenV, List.length_cons]
        omega
    have := h1 vs (fun v hv => (hwv v hv).1)
    omega
  have hclen : (cellsB vs).length ≤ 60 := by omega
  obtain ⟨cg, rfl, hcg1, hcg2, hcg3⟩ := hco hcpos
  have hbin : ∀ n ∈ cellsB vs, 0 ≤ n ∧ n ≤ 255 := by
    have : ∀ (l : List Vd), (∀ v ∈ l, v.role < 3 ∧ v.kind ≤ 3) → ∀ n ∈ cellsB l, 0 ≤ n ∧ n ≤ 255 := by
      intro l
      induction l with
      | nil => intro _ n hn; simp [cellsB] at hn
      | cons v t ih =>
        intro hl n hn
        simp only [cellsB, List.mem_append] at hn
        rcases hn with hn | hn
        · have := List.eq_of_mem_replicate hn
          subst this
          have := hl v (List.mem_cons_self ..)
          unfold cellB
          split <;> omega
        · exact ih (fun u hu => hl u (List.mem_cons_of_mem _ hu)) n hn
    exact this vs (fun v hv => (hwv v hv).2)
  clear hcl hlv hvl
  generalize cellsB vs = CS at *
  have hlz : w.heap.size < w1.heap.size := by omega
  have hW0 : Wr (w1.heap.size + 1) w1.heap.size bm (fstV vs) vs bs (CS.length : Int) false (.slice none 0 0) [] (w1.alloc (Obj.cells #[.map (some bm), .slice none 0 0, .int .u8 (CS.length : Int), .bool false] 155)) := by
    refine ⟨rowOf allocCells rfl (fun i hi => ?_), World.ownsRow_nil _ _ _ _, Nat.lt_succ_self _, by simp, hnm1.keep (Below.heap_alloc _ _ _ hnm1.lt), (hvars1.low (Nat.zero_le _)).keep (fun b _ _ hc => Below.heap_alloc _ _ _ (Array.getElem?_eq_some_iff.1 hc).1), hlow, Nat.zero_le _⟩
    have : i = 0 ∨ i = 1 ∨ i = 2 ∨ i = 3 := by omega
    rcases this with rfl | rfl | rfl | rfl <;> rfl
  have hboW := own_keep (w' := w1.alloc (Obj.cells #[.map (some bm), .slice none 0 0, .int .u8 (CS.length : Int), .bool false] 155)) hbo1 (fun j _ _ hj => Below.heap_alloc _ _ _ hj)
  have hbdW := hbd1.keep (w' := w1.alloc (Obj.cells #[.map (some bm), .slice none 0 0, .int .u8 (CS.length : Int), .bool false] 155)) (fun b _ _ _ _ h2 _ _ => Below.heap_alloc _ _ _ (by omega))
  replace hcells1 := hd hcells1
  replace hcg3 := hd hcg3
  replace hbx1 := hd hbx1
  replace hvfA := hd hvfA
  clear hvf1 hvars1 hnm1 hbo1 hbd1 hvown hvars hbel0
  go_wp2_with (fail)
  refine writes_okL hw hbl hW0 hboW hbdW (by omega) (by simp only [List.nil_append, List.length_nil]; omega) _ ?_
  intro w2 cv2 h2 hf2
  simp only [List.nil_append, List.length_nil, Bool.or_false] at h2
  have hz2 := hf2.size
  rw [World.size_alloc] at hz2
  have hcgW : ∀ j u, (u8V CS)[j]? = some u → w2.cell? ⟨cg, j, none⟩ = some u := fun j u hu => by
    rw [World.cell?_of_block (w := w1.alloc (Obj.cells #[.map (some bm), .slice none 0 0, .int .u8 (CS.length : Int), .bool false] 155)) (a := ⟨cg, j, none⟩) (hf2.block cg (by simp; omega) (by omega) (by simp [Value.ownBlock]))]
    exact cellZ (hcg3.out j u hu) _
  have hvfB : Vf lo w w2 := hvfA.out.trans ⟨hf2.os, hf2.tape, hf2.output, by omega, fun b hb _ => (hf2.block b (by simp; omega) (by omega) (by simp [Value.ownBlock])).trans (Below.heap_alloc _ _ _ hb)⟩
  generalize hF : f 0 = F at *
  generalize hbw : w1.heap.size = bw at *
  replace hF := hd hF
  replace hbw := hd hbw
  clear hf2 hW0 hboW hbdW hw u2
  go_wp2_with (fail)
  have hgg : (w2.alloc (Obj.cells #[.int .u8 0] 5)).heap[w2.heap.size]? = some (.cells (u8V [0]).toArray 5) := allocCells
  refine put_ok (h2.alloc _) [0] w2.heap.size 1 1 rfl hgg (by simp only [List.length_cons, List.length_nil]; omega) _ ?_
  intro w3 cv3 h3 hf3
  have hz3 := hf3.size
  rw [World.size_alloc] at hz3
  have hcg4 : ∀ j u, (u8V CS)[j]? = some u → w3.cell? ⟨cg, j, none⟩ = some u := fun j u hu => by
    rw [World.cell?_of_block (w := w2.alloc (Obj.cells #[.int .u8 0] 5)) (a := ⟨cg, j, none⟩) (hf3.block cg (by simp; omega) (by omega) (fun e => by have := (h2.own.lt cg e).1; omega))]
    exact cellZ (hcgW j u hu) _
  have hvfC : Vf lo w w3 := hvfB.more hf3.os hf3.tape hf3.output (by omega) (fun b hb => (hf3.block b (by simp; omega) (by omega) (fun e => by have := (h2.own.lt b e).1; omega)).trans (Below.heap_alloc _ _ _ (by omega)))
  clear hf3 h2 hcgW hvfB hgg
  have k3 : w3.cell? ⟨bw, 3, none⟩ = some (.bool false) := h3.row.cell (i := 3) (by omega)
  have k1 : w3.cell? ⟨bw, 1, none⟩ = some cv3 := h3.row.cell (i := 1) (by omega)
  have lbw : bw < w3.heap.size := h3.row.lt
  obtain ⟨ko, kc, rfl, hkc, hko⟩ := own_form h3.own
  obtain ⟨kg, rfl, hkg1, hkg2, hkg3⟩ := hko (by simp)
  have hflen : (F ++ [0]).length = F.length + 1 := by simp
  replace h3 := hd h3
  replace hkg3 := hd hkg3
  replace hcg4 := hd hcg4
  replace hvfC := hd hvfC
  have hCode : ∃ CD, CD = F ++ [0] := ⟨_, rfl⟩
  obtain ⟨CD, hCD⟩ := hCode
  rw [← hCD] at hkc hflen k1 hkg3 h3
  replace hCD := hd hCD
  have hcd1 : CD.length < 65536 := by omega
  clear hflen
  go_wp2_with (fail)
  refine bStr w3.heap.size w3.heap.size [] ⟨#[83, 76, 85, 73, 67, 69]⟩ _ (bNew w3) (by decide) (by simp) _ ?_
  intro w4 h4 hb4
  rw [List.nil_append, strCells_mark] at h4
  have hb4' : Below w3.heap.size w3 w4 := ((Below.refl _ w3).alloc (Nat.le_refl _) _).trans hb4
  have hz4 := hb4'.size
  have m4 : (Lib.byteCells mkB).length = 6 := by decide
  replace hb4' := hd hb4'
  clear hb4
  go_wp2_with (fail)
  refine bByte _ _ _ _ _ h4 (by rw [m4]; decide) hz4 _ ?_
  intro w5 h5 hb5
  have hb5' : Below w3.heap.size w3 w5 := hb4'.out.trans hb5
  have hz5 := hb5'.size
  clear hb5 h4 hb4'
  have hcg5 : ∀ j u, (u8V CS)[j]? = some u → w5.cell? ⟨cg, j, none⟩ = some u := fun j u hu => (hb5'.cell (p := ⟨cg, j, none⟩) (show cg < w3.heap.size by omega)).trans (hcg4.out j u hu)
  replace hb5' := hd hb5'
  go_wp2_with (fail)
  refine bWrite _ _ _ _ h5 cg CS.length cc CS rfl hcg5 (by rw [List.length_append, m4]; simp; omega) hz5 _ ?_
  intro w6 h6 hb6
  have hb6' : Below w3.heap.size w3 w6 := hb5'.out.trans hb6
  have hz6 := hb6'.size
  have k16 : w6.cell? ⟨bw, 1, none⟩ = some (.slice (some ⟨kg, 0, none⟩) CD.length kc) := (hb6'.cell (p := ⟨bw, 1, none⟩) lbw).trans k1
  clear hb6 h5 hb5' hcg5
  replace hb6' := hd hb6'
  go_wp2_with (fail)
  refine twoBytes_ok _ CD.length hcd1 _ ?_
  have hb7' : Below w3.heap.size w3 (w6.alloc (Obj.cells (u8V (two CD.length)).toArray 5)) := hb6'.out.alloc hz6 _
  have h7 : Lib.BuilderAt 160 5 w3.heap.size w3.heap.size (.pointer (some ⟨w3.heap.size, 0, none⟩)) (Lib.byteCells mkB ++ [.int .u8 (CS.length : Int)] ++ u8V CS) (w6.alloc (Obj.cells (u8V (two CD.length)).toArray 5)) := by
    obtain ⟨p1, v, p2, p3, p4⟩ := h6
    exact ⟨p1, v, (Below.heap_alloc _ _ _ (Array.getElem?_eq_some_iff.1 p2).1).trans p2, p3.alloc _, p4⟩
  have hnews : ∀ j u, (u8V (two CD.length))[j]? = some u → (w6.alloc (Obj.cells (u8V (two CD.length)).toArray 5)).cell? ⟨w6.heap.size, j, none⟩ = some u := fun j u hu => cellOf allocCells (by simpa using hu)
  have k17 : (w6.alloc (Obj.cells (u8V (two CD.length)).toArray 5)).cell? ⟨bw, 1, none⟩ = some (.slice (some ⟨kg, 0, none⟩) CD.length kc) := cellZ k16 _
  have m7 : (Lib.byteCells mkB ++ [Value.int .u8 (CS.length : Int)] ++ u8V CS).length = 7 + CS.length := by
    rw [List.length_append, List.length_append, m4]; unfold u8V; simp
  generalize hW7 : w6.alloc (Obj.cells (u8V (two CD.length)).toArray 5) = w7 at *
  replace hb7' := hd hb7'
  replace hW7 := hd hW7
  have hz7 := hb7'.out.size
  clear h6 k16 hb6'
  go_wp2_with (fail)
  refine bWrite _ _ _ _ h7 w6.heap.size 2 2 (two CD.length) rfl hnews (by rw [m7]; omega) hz7 _ ?_
  intro w8 h8 hb8
  have hb8' : Below w3.heap.size w3 w8 := hb7'.out.trans hb8
  have hz8 := hb8'.size
  have k18 : w8.cell? ⟨bw, 1, none⟩ = some (.slice (some ⟨kg, 0, none⟩) CD.length kc) := (hb8'.cell (p := ⟨bw, 1, none⟩) lbw).trans k1
  have hkg8 : ∀ j u, (u8V CD)[j]? = some u → w8.cell? ⟨kg, j, none⟩ = some u := fun j u hu => (hb8'.cell (p := ⟨kg, j, none⟩) (show kg < w3.heap.size by omega)).trans (hkg3.out j u hu)
  replace hb8' := hd hb8'
  clear hb8 h7 hnews k17 hb7' hW7
  go_wp2_with (fail)
  refine bWrite _ _ _ _ h8 kg CD.length kc CD rfl hkg8 (by rw [List.length_append, m7]; unfold u8V two; simp; omega) hz8 _ ?_
  intro w9 h9 hb9
  have hb9' : Below w3.heap.size w3 w9 := hb8'.out.trans hb9
  have hz9 := hb9'.size
  clear hb9 h8 hkg8 k18 hb8'
  have hbytes : Lib.byteCells mkB ++ [Value.int .u8 (CS.length : Int)] ++ u8V CS ++ u8V (two CD.length) ++ u8V CD = Lib.byteCells (mkB ++ u8L (imgI CS CD)) := by
    have e1 : u8V (imgI CS CD) = Lib.byteCells (u8L (imgI CS CD)) := u8L_cells (fun n hn => by
      unfold imgI at hn
      simp only [List.mem_cons, List.mem_append] at hn
      rcases hn with rfl | hn | hn | hn
      · omega
      · exact hbin n hn
      · unfold two at hn
        simp only [List.mem_cons, List.not_mem_nil, or_false] at hn
        omega
      · rw [hCD.out] at hn
        simp only [List.mem_append, List.mem_cons, List.not_mem_nil, or_false] at hn
        rcases hn with hn | hn
        · exact hin n hn
        · omega)
    have e2 : Lib.byteCells (mkB ++ u8L (imgI CS CD)) = Lib.byteCells mkB ++ Lib.byteCells (u8L (imgI CS CD)) := by unfold Lib.byteCells; rw [List.map_append]
    rw [e2, ← e1]
    unfold imgI u8V
    simp only [List.map_cons, List.map_append, List.append_assoc, List.cons_append, List.nil_append]
  rw [hbytes] at h9
  replace hb9' := hd hb9'
  go_wp2_with (fail)
  refine bString _ _ _ _ h9 hz9 _ ?_
  intro w10 hb10
  have hvf := hd (hvfC.out.more (w3 := w10) (hb9'.out.trans hb10).os (hb9'.out.trans hb10).tape (hb9'.out.trans hb10).output (hb9'.out.trans hb10).size (fun b hb => (hb9'.out.trans hb10).block b (by omega)))
  clear hb10 h9
  go_wp2
  have e := hCD.out
  have e2 := hF.out
  refine cl1 (fin.out _ hvf.out) ?_
  rw [e]
  rfl
/-- A right text without CASE. -/
structure TxL (vs : List Vd) (body : Sl) (f : Nat → List Int) : Prop where
  vr : ∀ v ∈ vs, v.role < 3 ∧ VarOk v
  rd : AllOk body
  dep : depL body ≤ 10
  low : ∀ v ∈ vs, LowName v.name
  dis : (vs.map (·.name)).Nodup
  us : ∀ u ∈ namesL body, ∃ v ∈ vs, u = v.name
  wv : ∀ v ∈ vs, wtV v = true ∧ v.role < 3 ∧ v.kind ≤ 3
  ck : AllCkL vs [] body
  co : AllCo (kE vs) body
  cost : costL body ≤ 3999
  wr : AllWL vs ((cellsB vs).length : Int) body f false
  ln : 0 < vs.length ∧ vs.length ≤ 1000 ∧ lenV vs ≤ 60
  bl : body.len ≤ 1000 ∧ (namesL body).length ≤ 1000
  cd : (f 0).length ≤ 60000
  ci : ∀ n ∈ f 0, 0 ≤ n ∧ n ≤ 255
set_option maxRecDepth 100000 in
set_option maxHeartbeats 4000000 in
theorem compile_okL {vs : List Vd} {body : Sl} {f : Nat → List Int} (T : TxL vs body f) (s : ByteArray) (hs : s.size ≤ 700) (hsp : spF s.size s = some (toksP vs body)) (w : World) (hops : ∀ i v, opC[i]? = some v → w.cell? ⟨4, i, none⟩ = some v)
    (R : Ending → World → Prop) (fin : ∀ w', Below w.heap.size w w' → R (.returned (.tuple #[.string (imgS vs f), .int .i64 0])) w') :
    Calls Tryz.prog 12 #[.string s] w R := by
  replace fin := hd fin
  have h1000 := T.ln.2.1
  have hb1000 := T.bl.1
  have hu1000 := T.bl.2
  go_enter Tryz.func12, Tryz.ntmps12
  go_wp2_with (fail)
  refine read_ok T.vr T.rd T.dep s hs hsp _ hops _ ?_
  intro w1 bs xs vv uv bv hb1 hp1
  obtain ⟨vo, vc, rfl⟩ := own_slS hp1.vown
  obtain ⟨uo, uc, rfl⟩ := own_slS hp1.used
  obtain ⟨bo, bc, rfl⟩ := own_slS hp1.bown
  have hz1 := hb1.size
  obtain ⟨W1, hW1⟩ : ∃ W1, W1 = w1.alloc (Obj.cells #[.slice vo vs.length vc, .slice uo (namesL body).length uc, .slice bo body.len bc] 87) := ⟨_, rfl⟩
  have hbW : Below w1.heap.size w1 W1 := by rw [hW1]; exact (Below.refl _ w1).alloc (Nat.le_refl _) _
  have hbx : W1.heap[w1.heap.size]? = some (.cells #[.slice vo vs.length vc, .slice uo (namesL body).length uc, .slice bo body.len bc] 87) := by rw [hW1]; exact allocCells
  have hpW := hp1.keep hbW
  have hzW := hbW.size
  have hzWs : w1.heap.size < W1.heap.size := (Array.getElem?_eq_some_iff.1 hbx).1
  replace hb1 := hd hb1
  clear hp1
  generalize hbp : w1.heap.size = bp at *
  replace hbp := hd hbp
  have hrd : ∀ X : World, X.heap[bp]? = some (.cells #[.slice vo vs.length vc, .slice uo (namesL body).length uc, .slice bo body.len bc] 87) → X.cell? ⟨bp, 0, none⟩ = some (.slice vo vs.length vc) ∧ X.cell? ⟨bp, 1, none⟩ = some (.slice uo (namesL body).length uc) ∧ X.cell? ⟨bp, 2, none⟩ = some (.slice bo body.len bc) := fun X hX => ⟨cellOf hX rfl, cellOf hX rfl, cellOf hX rfl⟩
  replace hrd := hd hrd
  go_wp2_with (fail)
  rw [hbp.out, ← hW1]
  refine declared_ok hpW T.low T.dis T.us (by omega) (by omega) _ ?_
  intro w2 bm hb2 hbm hnm2
  have hbx2 := (hb2.block bp hzWs).trans hbx
  have hp2 := hpW.keep hb2
  have hz2 := hb2.size
  have hBel2 : Below w.heap.size w w2 := hb1.out.trans ((hbW.mono (by omega)).trans (hb2.mono (by omega)))
  obtain ⟨q0, q1, q2⟩ := hrd.out w2 hbx2
  replace hBel2 := hd hBel2
  clear hb1 hb2 hpW hbx hW1 hbW
  go_wp2_with (fail)
  refine typed_okL hp2 hnm2 T.low (fun v hv => (T.wv v hv).1) T.ck (by omega) (by omega) (by omega) _ ?_
  intro w3 k3 hbody3
  have hbx3 := (k3.tag hbx2 (by decide)).trans hbx2
  have hvown3 := k3.own hp2.vown (by decide)
  have hbown3 := k3.own hp2.bown (by decide)
  have hvars3 := k3.vars hp2.vars
  have hnm3 := k3.nm hnm2
  have hz3 := k3.size
  have hBel3 : Below w.heap.size w w3 := hBel2.out.trans (k3.below (by omega))
  obtain ⟨r0, r1, r2⟩ := hrd.out w3 hbx3
  replace hBel3 := hd hBel3
  clear k3 hp2 hnm2 hBel2 hbx2 q0 q1 q2
  go_wp2_with (fail)
  refine cells_ok hvown3 hvars3 (fun v hv => (T.wv v hv).1) (by omega) _ ?_
  intro w4 b4
  have hz4 := b4.size
  have hbx4 := (b4.block bp (by omega)).trans hbx3
  have hvown4 := own_keep hvown3 (fun j _ _ hj => b4.block j hj)
  have hbown4 := own_keep hbown3 (fun j _ _ hj => b4.block j hj)
  have hvars4 := hvars3.keep (fun b _ _ hc => b4.block b (Array.getElem?_eq_some_iff.1 hc).1)
  have hnm4 := hnm3.keep (b4.block _ hnm3.lt)
  have hbody4 := hbody3.below b4 (by omega)
  have hBel4 : Below w.heap.size w w4 := hBel3.out.trans (b4.mono (by omega))
  have t6 : decide (60 < lenV vs) = false := by have := T.ln.2.2; simp; omega
  obtain ⟨s0, s1, s2⟩ := hrd.out w4 hbx4
  replace hBel4 := hd hBel4
  clear b4 hvown3 hbown3 hvars3 hnm3 hbody3 hbx3 hBel3 r0 r1 r2
  go_wp2_with (fail)
  refine pcost_ok T.co (by omega) T.cost hbown4 hbody4 (by omega) _ ?_
  intro w5 b5
  have hz5 := b5.size
  have hbx5 := (b5.block bp (by omega)).trans hbx4
  have hvown5 := own_keep hvown4 (fun j _ _ hj => b5.block j hj)
  have hbown5 := own_keep hbown4 (fun j _ _ hj => b5.block j hj)
  have hvars5 := hvars4.keep (fun b _ _ hc => b5.block b (Array.getElem?_eq_some_iff.1 hc).1)
  have hnm5 := hnm4.keep (b5.block _ hnm4.lt)
  have hbody5 := hbody4.below b5 (by omega)
  have hBel5 : Below w.heap.size w w5 := hBel4.out.trans (b5.mono (by omega))
  have t7 : decide (4000 < 1 + costL body) = false := by have := T.cost; simp; omega
  have hpk : PgK w.heap.size w5.heap.size w5 vs bs body xs (.slice vo vs.length vc) (.slice bo body.len bc) := ⟨hvown5, hvars5, hbown5, hbody5.wide (Nat.le_refl _) (by omega)⟩
  obtain ⟨p0, p1, p2⟩ := hrd.out w5 hbx5
  replace hBel5 := hd hBel5
  clear b5 hvown4 hbown4 hvars4 hnm4 hbody4 hbx4 hBel4 s0 s1 s2 hvown5 hbown5 hvars5 hbody5
  go_wp2_with (fail)
  refine image_plainL hpk hnm5 T.low T.wv ⟨T.ln.1, T.ln.2.2⟩ (by omega) T.wr T.cd T.ci _ ?_
  intro w6 v6
  have hBel6 := hd (hBel5.out.trans (v6.below (by omega)))
  clear v6 hpk hnm5 hBel5
  go_wp2
  exact cl1 (fin.out _ hBel6.out) rfl

end Go.Proofs.YtidhiaaicmfabaaGreatDoor

/- Compile at a right text with a CASE (seat .ZD alone). -/
namespace Go.Proofs.YtidhiaaicmfabaaGreatDoor
open Go.RowKit Go.Proofs Go.Deep

set_option maxRecDepth 100000 in
set_option maxHeartbeats 4000000 in
theorem image_kept {lo bm : Nat} {w : World} {vs : List Vd} {bs : List Nat} {body : Sl} {xs : List Value} {vo uo bo : Option Addr} {vc n2 c2 bcp : Nat} {f : Nat → List Int} (h : PgK lo w.heap.size w vs bs body xs (.slice vo vs.length vc) (.slice bo body.len bcp)) (hnm : NmAt w bm vs.length (findB vs bs)) (hlow : ∀ v ∈ vs, LowName v.name) (hwv : ∀ v ∈ vs, wtV v = true ∧ v.role < 3 ∧ v.kind ≤ 3) (hvl : 0 < vs.length ∧ lenV vs ≤ 60) (hbl : body.len ≤ 1000000)
    (hw : AllWL vs ((cellsB vs).length : Int) body f true) (hcode : (f 0).length ≤ 60000) (hin : ∀ n ∈ f 0, 0 ≤ n ∧ n ≤ 255)
    (R : Ending → World → Prop) (fin : ∀ w', Vf lo w w' → R (.returned (.string ⟨(mkB ++ u8L (imgI (cellsB vs ++ [8]) (f 0 ++ [0]))).toArray⟩)) w') :
    Calls Tryz.prog 46 #[.agg #[.slice vo vs.length vc, .slice uo n2 c2, .slice bo body.len bcp], .map (some bm)] w R := by
  have hbel0 : Below w.heap.size w (w.alloc (Obj.cells #[.slice vo vs.length vc, .slice uo n2 c2, .slice bo body.len bcp] 87)) := (Below.refl _ w).alloc (Nat.le_refl _) _
  have hvown := own_keep h.vown (fun j _ _ hj => hbel0.block j hj)
  have hvars := h.vars.keep (fun b _ _ hc => hbel0.block b (Array.getElem?_eq_some_iff.1 hc).1)
  replace fin := hd fin
  have hcl := cellsB_len vs (fun v hv => (hwv v hv).1)
  have hlv := lenV_bound vs (fun v hv => (hwv v hv).1)
  go_enter Tryz.func46, Tryz.ntmps46
  go_wp2_with (fail)
  refine layCells_ok hvown hvars hwv (by omega) _ ?_
  intro w1 cv hvf1 hvars1 hcells1
  have hz1 := hvf1.size
  rw [World.size_alloc] at hz1
  have hbx1 : w1.heap[w.heap.size]? = some (.cells #[.slice vo vs.length vc, .slice uo n2 c2, .slice bo body.len bcp] 87) := (hvf1.tag allocCells (by decide)).trans allocCells
  have hvfA : Vf lo w w1 := (Vf.of_below hbel0).trans hvf1
  have hnm1 : NmAt w1 bm vs.length (findB vs bs) := hvfA.nm hnm
  have hbo1 : w1.ownsRow lo 240 1 (.slice bo body.len bcp) body.len xs := own_tag h.bown (fun b cur hc => hvfA.tag hc (by decide))
  have hbd1 : SlIn (kE vs) (Value.slice bo body.len bcp).ownBlock body lo w.heap.size w1 xs := h.body.keep2 (fun b cur T _ hT' _ _ _ hc => hvfA.tag hc hT')
  obtain ⟨co, cc, rfl, hcc, hco⟩ := own_form hcells1
  have j1 : IntKind.u8.wrap ((cellsB vs).length : Int) = ((cellsB vs).length : Int) := u8wrap (by omega) (by omega)
  have u2 : w1.cell? ⟨w.heap.size, 2, none⟩ = some (.slice bo body.len bcp) := cellOf hbx1 rfl
  have hcpos : 0 < (cellsB vs).length := by
    have h1 : ∀ (l : List Vd), (∀ v ∈ l, wtV v = true) → (l.length : Int) ≤ lenV l := by
      intro l
      induction l with
      | nil => intro _; simp [lenV]
      | cons v t ih =>
        intro h
        have h1 := ih (fun u hu => h u (List.mem_cons_of_mem _ hu))
        have h2 := h v (List.mem_cons_self ..)
        simp only [wtV, Bool.and_eq_true, decide_eq_true_eq] at h2
        simp only [lenV, List.length_cons]
        omega
    have := h1 vs (fun v hv => (hwv v hv).1)
    omega
  have hclen : (cellsB vs).length ≤ 60 := by omega
  obtain ⟨cg, rfl, hcg1, hcg2, hcg3⟩ := hco hcpos
  have hbin : ∀ n ∈ cellsB vs, 0 ≤ n ∧ n ≤ 255 := by
    have : ∀ (l : List Vd), (∀ v ∈ l, v.role < 3 ∧ v.kind ≤ 3) → ∀ n ∈ cellsB l, 0 ≤ n ∧ n ≤ 255 := by
      intro l
      induction l with
      | nil => intro _ n hn; simp [cellsB] at hn
      | cons v t ih =>
        intro hl n hn
        simp only [cellsB, List.mem_append] at hn
        rcases hn with hn | hn
        · have := List.eq_of_mem_replicate hn
          subst this
          have := hl v (List.mem_cons_self ..)
          unfold cellB
          split <;> omega
        · exact ih (fun u hu => hl u (List.mem_cons_of_mem _ hu)) n hn
    exact this vs (fun v hv => (hwv v hv).2)
  clear hcl hlv hvl
  generalize cellsB vs = CS at *
  have hlz : w.heap.size < w1.heap.size := by omega
  have hW0 : Wr (w1.heap.size + 1) w1.heap.size bm (fstV vs) vs bs (CS.length : Int) false (.slice none 0 0) [] (w1.alloc (Obj.cells #[.map (some bm), .slice none 0 0, .int .u8 (CS.length : Int), .bool false] 155)) := by
    refine ⟨rowOf allocCells rfl (fun i hi => ?_), World.ownsRow_nil _ _ _ _, Nat.lt_succ_self _, by simp, hnm1.keep (Below.heap_alloc _ _ _ hnm1.lt), (hvars1.low (Nat.zero_le _)).keep (fun b _ _ hc => Below.heap_alloc _ _ _ (Array.getElem?_eq_some_iff.1 hc).1), hlow, Nat.zero_le _⟩
    have : i = 0 ∨ i = 1 ∨ i = 2 ∨ i = 3 := by omega
    rcases this with rfl | rfl | rfl | rfl <;> rfl
  have hboW := own_keep (w' := w1.alloc (Obj.cells #[.map (some bm), .slice none 0 0, .int .u8 (CS.length : Int), .bool false] 155)) hbo1 (fun j _ _ hj => Below.heap_alloc _ _ _ hj)
  have hbdW := hbd1.keep (w' := w1.alloc (Obj.cells #[.map (some bm), .slice none 0 0, .int .u8 (CS.length : Int), .bool false] 155)) (fun b _ _ _ _ h2 _ _ => Below.heap_alloc _ _ _ (by omega))
  replace hcells1 := hd hcells1
  replace hcg3 := hd hcg3
  replace hbx1 := hd hbx1
  replace hvfA := hd hvfA
  clear hvf1 hvars1 hnm1 hbo1 hbd1 hvown hvars hbel0
  go_wp2_with (fail)
  refine writes_okL hw hbl hW0 hboW hbdW (by omega) (by simp only [List.nil_append, List.length_nil]; omega) _ ?_
  intro w2 cv2 h2 hf2
  simp only [List.nil_append, List.length_nil, Bool.or_true] at h2
  have hz2 := hf2.size
  rw [World.size_alloc] at hz2
  have hcr2 := own_keep (w' := w2) (hcells1.out.alloc (Obj.cells #[.map (some bm), .slice none 0 0, .int .u8 (CS.length : Int), .bool false] 155)) (fun j hj _ hjs => hf2.block j hjs (by
    simp only [Value.ownBlock, Option.some.injEq] at hj
    omega) (by simp [Value.ownBlock]))
  have hcgW : ∀ j u, (u8V CS)[j]? = some u → w2.cell? ⟨cg, j, none⟩ = some u := fun j u hu => by
    rw [World.cell?_of_block (w := w1.alloc (Obj.cells #[.map (some bm), .slice none 0 0, .int .u8 (CS.length : Int), .bool false] 155)) (a := ⟨cg, j, none⟩) (hf2.block cg (by simp; omega) (by omega) (by simp [Value.ownBlock]))]
    exact cellZ (hcg3.out j u hu) _
  have hvfB : Vf lo w w2 := hvfA.out.trans ⟨hf2.os, hf2.tape, hf2.output, by omega, fun b hb _ => (hf2.block b (by simp; omega) (by omega) (by simp [Value.ownBlock])).trans (Below.heap_alloc _ _ _ hb)⟩
  generalize hF : f 0 = F at *
  generalize hbw : w1.heap.size = bw at *
  replace hF := hd hF
  replace hbw := hd hbw
  clear hf2 hW0 hboW hbdW hw u2
  go_wp2_with (fail)
  have hgg : (w2.alloc (Obj.cells #[.int .u8 0] 5)).heap[w2.heap.size]? = some (.cells (u8V [0]).toArray 5) := allocCells
  refine put_ok (h2.alloc _) [0] w2.heap.size 1 1 rfl hgg (by simp only [List.length_cons, List.length_nil]; omega) _ ?_
  intro w3 cv3 h3 hf3
  have hz3 := hf3.size
  rw [World.size_alloc] at hz3
  have hcr3 := own_keep (w' := w3) (hcr2.alloc (Obj.cells #[.int .u8 0] 5)) (fun j hj _ hjs => hf3.block j hjs (by
    simp only [Value.ownBlock, Option.some.injEq] at hj
    omega) (fun e => by
    simp only [Value.ownBlock, Option.some.injEq] at hj
    have := (h2.own.lt j e).1
    omega))
  have hcg4 : ∀ j u, (u8V CS)[j]? = some u → w3.cell? ⟨cg, j, none⟩ = some u := fun j u hu => by
    rw [World.cell?_of_block (w := w2.alloc (Obj.cells #[.int .u8 0] 5)) (a := ⟨cg, j, none⟩) (hf3.block cg (by simp; omega) (by omega) (fun e => by have := (h2.own.lt cg e).1; omega))]
    exact cellZ (hcgW j u hu) _
  have hvfC : Vf lo w w3 := hvfB.more hf3.os hf3.tape hf3.output (by omega) (fun b hb => (hf3.block b (by simp; omega) (by omega) (fun e => by have := (h2.own.lt b e).1; omega)).trans (Below.heap_alloc _ _ _ (by omega)))
  clear hf3 h2 hcgW hvfB hgg
  have k3 : w3.cell? ⟨bw, 3, none⟩ = some (.bool true) := h3.row.cell (i := 3) (by omega)
  have k1 : w3.cell? ⟨bw, 1, none⟩ = some cv3 := h3.row.cell (i := 1) (by omega)
  have lbw : bw < w3.heap.size := h3.row.lt
  obtain ⟨ko, kc, rfl, hkc, hko⟩ := own_form h3.own
  obtain ⟨kg, rfl, hkg1, hkg2, hkg3⟩ := hko (by simp)
  have hflen : (F ++ [0]).length = F.length + 1 := by simp
  replace h3 := hd h3
  replace hkg3 := hd hkg3
  replace hcg4 := hd hcg4
  replace hvfC := hd hvfC
  have hCode : ∃ CD, CD = F ++ [0] := ⟨_, rfl⟩
  obtain ⟨CD, hCD⟩ := hCode
  rw [← hCD] at hkc hflen k1 hkg3 h3
  replace hCD := hd hCD
  have hcd1 : CD.length < 65536 := by omega
  clear hflen
  simp only [World.size_alloc] at hcr3
  replace hcr3 := hd hcr3
  go_wp2_with (first | (go_at_call 75; refine cellByte_ok _ 2 2 (by omega) (by omega) _ ?_) | (at_builtin; refine wpList_appZ _ rfl _ _ 133 rfl (w.heap.size + 1) 5 _ 1 1 ulBytes infoU8 rfl (by decide) _ CS.length (u8V CS) rfl (by exact hcr3.out.alloc _) ⟨w3.heap.size, 0, none⟩ 1 1 (u8V [8]) rfl rfl (by exact news_atZ (newZ (by simp))) (oneU8 [8]) (by unfold maxLen; omega) (by omega) (by simp; omega) ?_; intro vz wz hownz hgrz hlz2; obtain ⟨aoz, cpz, rfl⟩ := own_slS hownz; replace hownz := hd hownz; replace hgrz := hd hgrz; replace hlz2 := hd hlz2))
  have hkz : ∀ b, b < w3.heap.size → b ≠ cg → wz.heap[b]? = w3.heap[b]? := fun b hb hne => (hgrz.out.block b (by simp; omega) (fun e => hne (by have e2 : some b = some cg := e; injection e2))).trans (Below.heap_alloc _ _ _ hb)
  have hcg1' : w.heap.size + 1 ≤ cg := by simpa using hcg1
  have hzz : w3.heap.size + 1 ≤ wz.heap.size := by have := hgrz.out.size; simp at this; omega
  obtain ⟨CZ, hCZ⟩ : ∃ CZ, CZ = CS ++ [8] := ⟨_, rfl⟩
  have hCZl : CS.length + 1 = CZ.length := by rw [hCZ]; simp
  have huz : u8V CS ++ u8V [8] = u8V CZ := by rw [hCZ]; unfold u8V; rw [List.map_append]
  rw [huz, hCZl] at hownz
  rw [hCZl]
  have hbinz : ∀ n ∈ CZ, 0 ≤ n ∧ n ≤ 255 := fun n hn => by
    rw [hCZ, List.mem_append] at hn
    rcases hn with hn | hn
    · exact hbin n hn
    · simp only [List.mem_cons, List.not_mem_nil, or_false] at hn
      omega
  obtain ⟨coz, ccz, hez, hccz, hcoz⟩ := own_form hownz.out
  injection hez with hez1 _ hez2
  subst hez1 hez2
  obtain ⟨cz, rfl, hcz1, hcz2, hcz3⟩ := hcoz (by omega)
  have hczz := hd hcz3
  have k1z : wz.cell? ⟨bw, 1, none⟩ = some (.slice (some ⟨kg, 0, none⟩) CD.length kc) := by
    rw [World.cell?_of_block (w := w3) (a := ⟨bw, 1, none⟩) (hkz bw lbw (by omega))]
    exact k1
  have lbwz : bw < wz.heap.size := by omega
  have hkgz : ∀ j u, (u8V CD)[j]? = some u → wz.cell? ⟨kg, j, none⟩ = some u := fun j u hu => by
    rw [World.cell?_of_block (w := w3) (a := ⟨kg, j, none⟩) (hkz kg (by omega) (by omega))]
    exact hkg3.out j u hu
  replace hkgz := hd hkgz
  have hvfZ : Vf lo w wz := hvfC.out.more hgrz.out.os hgrz.out.tape hgrz.out.output (by omega) (fun b hb => hkz b (by omega) (by omega))
  replace hvfZ := hd hvfZ
  have j1z : IntKind.u8.wrap (CZ.length : Int) = (CZ.length : Int) := u8wrap (by omega) (by omega)
  have hczl : CZ.length ≤ 61 := by omega
  replace hCZ := hd hCZ
  clear hkz huz hbin hcz3 hcoz hcr3 hownz hgrz hlz2 k1 k3 hkg3 hcg4 hvfC h3 hcells1 hcg3 j1
  refine bStr wz.heap.size wz.heap.size [] ⟨#[83, 76, 85, 73, 67, 69]⟩ _ (bNew wz) (by decide) (by simp) _ ?_
  intro w4 h4 hb4
  rw [List.nil_append, strCells_mark] at h4
  have hb4' : Below wz.heap.size wz w4 := ((Below.refl _ wz).alloc (Nat.le_refl _) _).trans hb4
  have hz4 := hb4'.size
  have m4 : (Lib.byteCells mkB).length = 6 := by decide
  replace hb4' := hd hb4'
  clear hb4
  go_wp2_with (fail)
  refine bByte _ _ _ _ _ h4 (by rw [m4]; decide) hz4 _ ?_
  intro w5 h5 hb5
  have hb5' : Below wz.heap.size wz w5 := hb4'.out.trans hb5
  have hz5 := hb5'.size
  clear hb5 h4 hb4'
  have hcg5 : ∀ j u, (u8V CZ)[j]? = some u → w5.cell? ⟨cz, j, none⟩ = some u := fun j u hu => (hb5'.cell (p := ⟨cz, j, none⟩) (show cz < wz.heap.size by omega)).trans (hczz.out j u hu)
  replace hb5' := hd hb5'
  go_wp2_with (fail)
  refine bWrite _ _ _ _ h5 cz CZ.length cpz CZ rfl hcg5 (by rw [List.length_append, m4]; simp; omega) hz5 _ ?_
  intro w6 h6 hb6
  have hb6' : Below wz.heap.size wz w6 := hb5'.out.trans hb6
  have hz6 := hb6'.size
  have k16 : w6.cell? ⟨bw, 1, none⟩ = some (.slice (some ⟨kg, 0, none⟩) CD.length kc) := (hb6'.cell (p := ⟨bw, 1, none⟩) lbwz).trans k1z
  clear hb6 h5 hb5' hcg5
  replace hb6' := hd hb6'
  go_wp2_with (fail)
  refine twoBytes_ok _ CD.length hcd1 _ ?_
  have hb7' : Below wz.heap.size wz (w6.alloc (Obj.cells (u8V (two CD.length)).toArray 5)) := hb6'.out.alloc hz6 _
  have h7 : Lib.BuilderAt 160 5 wz.heap.size wz.heap.size (.pointer (some ⟨wz.heap.size, 0, none⟩)) (Lib.byteCells mkB ++ [.int .u8 (CZ.length : Int)] ++ u8V CZ) (w6.alloc (Obj.cells (u8V (two CD.length)).toArray 5)) := by
    obtain ⟨p1, v, p2, p3, p4⟩ := h6
    exact ⟨p1, v, (Below.heap_alloc _ _ _ (Array.getElem?_eq_some_iff.1 p2).1).trans p2, p3.alloc _, p4⟩
  have hnews : ∀ j u, (u8V (two CD.length))[j]? = some u → (w6.alloc (Obj.cells (u8V (two CD.length)).toArray 5)).cell? ⟨w6.heap.size, j, none⟩ = some u := fun j u hu => cellOf allocCells (by simpa using hu)
  have k17 : (w6.alloc (Obj.cells (u8V (two CD.length)).toArray 5)).cell? ⟨bw, 1, none⟩ = some (.slice (some ⟨kg, 0, none⟩) CD.length kc) := cellZ k16 _
  have m7 : (Lib.byteCells mkB ++ [Value.int .u8 (CZ.length : Int)] ++ u8V CZ).length = 7 + CZ.length := by
    rw [List.length_append, List.length_append, m4]; unfold u8V; simp
  generalize hW7 : w6.alloc (Obj.cells (u8V (two CD.length)).toArray 5) = w7 at *
  replace hb7' := hd hb7'
  replace hW7 := hd hW7
  have hz7 := hb7'.out.size
  clear h6 k16 hb6'
  go_wp2_with (fail)
  refine bWrite _ _ _ _ h7 w6.heap.size 2 2 (two CD.length) rfl hnews (by rw [m7]; omega) hz7 _ ?_
  intro w8 h8 hb8
  have hb8' : Below wz.heap.size wz w8 := hb7'.out.trans hb8
  have hz8 := hb8'.size
  have k18 : w8.cell? ⟨bw, 1, none⟩ = some (.slice (some ⟨kg, 0, none⟩) CD.length kc) := (hb8'.cell (p := ⟨bw, 1, none⟩) lbwz).trans k1z
  have hkg8 : ∀ j u, (u8V CD)[j]? = some u → w8.cell? ⟨kg, j, none⟩ = some u := fun j u hu => (hb8'.cell (p := ⟨kg, j, none⟩) (show kg < wz.heap.size by omega)).trans (hkgz.out j u hu)
  replace hb8' := hd hb8'
  clear hb8 h7 hnews k17 hb7' hW7
  go_wp2_with (fail)
  refine bWrite _ _ _ _ h8 kg CD.length kc CD rfl hkg8 (by rw [List.length_append, m7]; unfold u8V two; simp; omega) hz8 _ ?_
  intro w9 h9 hb9
  have hb9' : Below wz.heap.size wz w9 := hb8'.out.trans hb9
  have hz9 := hb9'.size
  clear hb9 h8 hkg8 k18 hb8'
  have hbytes : Lib.byteCells mkB ++ [Value.int .u8 (CZ.length : Int)] ++ u8V CZ ++ u8V (two CD.length) ++ u8V CD = Lib.byteCells (mkB ++ u8L (imgI CZ CD)) := by
    have e1 : u8V (imgI CZ CD) = Lib.byteCells (u8L (imgI CZ CD)) := u8L_cells (fun n hn => by
      unfold imgI at hn
      simp only [List.mem_cons, List.mem_append] at hn
      rcases hn with rfl | hn | hn | hn
      · omega
      · exact hbinz n hn
      · unfold two at hn
        simp only [List.mem_cons, List.not_mem_nil, or_false] at hn
        omega
      · rw [hCD.out] at hn
        simp only [List.mem_append, List.mem_cons, List.not_mem_nil, or_false] at hn
        rcases hn with hn | hn
        · exact hin n hn
        · omega)
    have e2 : Lib.byteCells (mkB ++ u8L (imgI CZ CD)) = Lib.byteCells mkB ++ Lib.byteCells (u8L (imgI CZ CD)) := by unfold Lib.byteCells; rw [List.map_append]
    rw [e2, ← e1]
    unfold imgI u8V
    simp only [List.map_cons, List.map_append, List.append_assoc, List.cons_append, List.nil_append]
  rw [hbytes] at h9
  replace hb9' := hd hb9'
  go_wp2_with (fail)
  refine bString _ _ _ _ h9 hz9 _ ?_
  intro w10 hb10
  have hvf := hd (hvfZ.out.more (w3 := w10) (hb9'.out.trans hb10).os (hb9'.out.trans hb10).tape (hb9'.out.trans hb10).output (hb9'.out.trans hb10).size (fun b hb => (hb9'.out.trans hb10).block b (by omega)))
  clear hb10 h9
  go_wp2
  have e := hCD.out
  have e2 := hF.out
  have e3 := hCZ.out
  refine cl1 (fin.out _ hvf.out) ?_
  rw [e, e3]
  rfl/-- The image of a text with a CASE. -/
def imgK (vs : List Vd) (f : Nat → List Int) : ByteArray := ⟨(mkB ++ u8L (imgI (cellsB vs ++ [8]) (f 0 ++ [0]))).toArray⟩
/-- What a right text with a CASE is. -/
structure TxK (vs : List Vd) (body : Sl) (f : Nat → List Int) : Prop where
  vr : ∀ v ∈ vs, v.role < 3 ∧ VarOk v
  rd : AllOk body
  dep : depL body ≤ 10
  low : ∀ v ∈ vs, LowName v.name
  dis : (vs.map (·.name)).Nodup
  us : ∀ u ∈ namesL body, ∃ v ∈ vs, u = v.name
  wv : ∀ v ∈ vs, wtV v = true ∧ v.role < 3 ∧ v.kind ≤ 3
  ck : AllCkL vs [] body
  co : AllCo (kE vs) body
  cost : costL body ≤ 3999
  wr : AllWL vs ((cellsB vs).length : Int) body f true
  ln : 0 < vs.length ∧ vs.length ≤ 1000 ∧ lenV vs ≤ 60
  bl : body.len ≤ 1000 ∧ (namesL body).length ≤ 1000
  cd : (f 0).length ≤ 60000
  ci : ∀ n ∈ f 0, 0 ≤ n ∧ n ≤ 255
set_option maxRecDepth 100000 in
set_option maxHeartbeats 4000000 in
theorem compile_okK {vs : List Vd} {body : Sl} {f : Nat → List Int} (T : TxK vs body f) (s : ByteArray) (hs : s.size ≤ 700) (hsp : spF s.size s = some (toksP vs body)) (w : World) (hops : ∀ i v, opC[i]? = some v → w.cell? ⟨4, i, none⟩ = some v)
    (R : Ending → World → Prop) (fin : ∀ w', Below w.heap.size w w' → R (.returned (.tuple #[.string (imgK vs f), .int .i64 0])) w') :
    Calls Tryz.prog 12 #[.string s] w R := by
  replace fin := hd fin
  have h1000 := T.ln.2.1
  have hb1000 := T.bl.1
  have hu1000 := T.bl.2
  go_enter Tryz.func12, Tryz.ntmps12
  go_wp2_with (fail)
  refine read_ok T.vr T.rd T.dep s hs hsp _ hops _ ?_
  intro w1 bs xs vv uv bv hb1 hp1
  obtain ⟨vo, vc, rfl⟩ := own_slS hp1.vown
  obtain ⟨uo, uc, rfl⟩ := own_slS hp1.used
  obtain ⟨bo, bc, rfl⟩ := own_slS hp1.bown
  have hz1 := hb1.size
  obtain ⟨W1, hW1⟩ : ∃ W1, W1 = w1.alloc (Obj.cells #[.slice vo vs.length vc, .slice uo (namesL body).length uc, .slice bo body.len bc] 87) := ⟨_, rfl⟩
  have hbW : Below w1.heap.size w1 W1 := by rw [hW1]; exact (Below.refl _ w1).alloc (Nat.le_refl _) _
  have hbx : W1.heap[w1.heap.size]? = some (.cells #[.slice vo vs.length vc, .slice uo (namesL body).length uc, .slice bo body.len bc] 87) := by rw [hW1]; exact allocCells
  have hpW := hp1.keep hbW
  have hzW := hbW.size
  have hzWs : w1.heap.size < W1.heap.size := (Array.getElem?_eq_some_iff.1 hbx).1
  replace hb1 := hd hb1
  clear hp1
  generalize hbp : w1.heap.size = bp at *
  replace hbp := hd hbp
  have hrd : ∀ X : World, X.heap[bp]? = some (.cells #[.slice vo vs.length vc, .slice uo (namesL body).length uc, .slice bo body.len bc] 87) → X.cell? ⟨bp, 0, none⟩ = some (.slice vo vs.length vc) ∧ X.cell? ⟨bp, 1, none⟩ = some (.slice uo (namesL body).length uc) ∧ X.cell? ⟨bp, 2, none⟩ = some (.slice bo body.len bc) := fun X hX => ⟨cellOf hX rfl, cellOf hX rfl, cellOf hX rfl⟩
  replace hrd := hd hrd
  go_wp2_with (fail)
  rw [hbp.out, ← hW1]
  refine declared_ok hpW T.low T.dis T.us (by omega) (by omega) _ ?_
  intro w2 bm hb2 hbm hnm2
  have hbx2 := (hb2.block bp hzWs).trans hbx
  have hp2 := hpW.keep hb2
  have hz2 := hb2.size
  have hBel2 : Below w.heap.size w w2 := hb1.out.trans ((hbW.mono (by omega)).trans (hb2.mono (by omega)))
  obtain ⟨q0, q1, q2⟩ := hrd.out w2 hbx2
  replace hBel2 := hd hBel2
  clear hb1 hb2 hpW hbx hW1 hbW
  go_wp2_with (fail)
  refine typed_okL hp2 hnm2 T.low (fun v hv => (T.wv v hv).1) T.ck (by omega) (by omega) (by omega) _ ?_
  intro w3 k3 hbody3
  have hbx3 := (k3.tag hbx2 (by decide)).trans hbx2
  have hvown3 := k3.own hp2.vown (by decide)
  have hbown3 := k3.own hp2.bown (by decide)
  have hvars3 := k3.vars hp2.vars
  have hnm3 := k3.nm hnm2
  have hz3 := k3.size
  have hBel3 : Below w.heap.size w w3 := hBel2.out.trans (k3.below (by omega))
  obtain ⟨r0, r1, r2⟩ := hrd.out w3 hbx3
  replace hBel3 := hd hBel3
  clear k3 hp2 hnm2 hBel2 hbx2 q0 q1 q2
  go_wp2_with (fail)
  refine cells_ok hvown3 hvars3 (fun v hv => (T.wv v hv).1) (by omega) _ ?_
  intro w4 b4
  have hz4 := b4.size
  have hbx4 := (b4.block bp (by omega)).trans hbx3
  have hvown4 := own_keep hvown3 (fun j _ _ hj => b4.block j hj)
  have hbown4 := own_keep hbown3 (fun j _ _ hj => b4.block j hj)
  have hvars4 := hvars3.keep (fun b _ _ hc => b4.block b (Array.getElem?_eq_some_iff.1 hc).1)
  have hnm4 := hnm3.keep (b4.block _ hnm3.lt)
  have hbody4 := hbody3.below b4 (by omega)
  have hBel4 : Below w.heap.size w w4 := hBel3.out.trans (b4.mono (by omega))
  have t6 : decide (60 < lenV vs) = false := by have := T.ln.2.2; simp; omega
  obtain ⟨s0, s1, s2⟩ := hrd.out w4 hbx4
  replace hBel4 := hd hBel4
  clear b4 hvown3 hbown3 hvars3 hnm3 hbody3 hbx3 hBel3 r0 r1 r2
  go_wp2_with (fail)
  refine pcost_ok T.co (by omega) T.cost hbown4 hbody4 (by omega) _ ?_
  intro w5 b5
  have hz5 := b5.size
  have hbx5 := (b5.block bp (by omega)).trans hbx4
  have hvown5 := own_keep hvown4 (fun j _ _ hj => b5.block j hj)
  have hbown5 := own_keep hbown4 (fun j _ _ hj => b5.block j hj)
  have hvars5 := hvars4.keep (fun b _ _ hc => b5.block b (Array.getElem?_eq_some_iff.1 hc).1)
  have hnm5 := hnm4.keep (b5.block _ hnm4.lt)
  have hbody5 := hbody4.below b5 (by omega)
  have hBel5 : Below w.heap.size w w5 := hBel4.out.trans (b5.mono (by omega))
  have t7 : decide (4000 < 1 + costL body) = false := by have := T.cost; simp; omega
  have hpk : PgK w.heap.size w5.heap.size w5 vs bs body xs (.slice vo vs.length vc) (.slice bo body.len bc) := ⟨hvown5, hvars5, hbown5, hbody5.wide (Nat.le_refl _) (by omega)⟩
  obtain ⟨p0, p1, p2⟩ := hrd.out w5 hbx5
  replace hBel5 := hd hBel5
  clear b5 hvown4 hbown4 hvars4 hnm4 hbody4 hbx4 hBel4 s0 s1 s2 hvown5 hbown5 hvars5 hbody5
  go_wp2_with (fail)
  refine image_kept hpk hnm5 T.low T.wv ⟨T.ln.1, T.ln.2.2⟩ (by omega) T.wr T.cd T.ci _ ?_
  intro w6 v6
  have hBel6 := hd (hBel5.out.trans (v6.below (by omega)))
  clear v6 hpk hnm5 hBel5
  go_wp2
  exact cl1 (fin.out _ hBel6.out) rfl


end Go.Proofs.YtidhiaaicmfabaaGreatDoor
