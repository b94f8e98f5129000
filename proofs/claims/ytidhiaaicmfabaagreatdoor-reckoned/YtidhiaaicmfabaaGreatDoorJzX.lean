/- Reckoned, and its row lifted. -/
import Derived.Test.YtidhiaaicmfabaaGreatDoorKaA
import Derived.WalkKit
import Derived.WalkSpells
import Derived.WalkLawsBesides
import Derived.Deep.OwnRows
import Derived.BigQuiet
import Derived.Handy
import Derived.Deep.Light
import Derived.Deep.RegionHeld3
import Derived.Deep.RegionWith
import Derived.Test.YtidhiaaicmfabaaGreatDoorJzW
import Derived.Test.YtidhiaaicmfabaaGreatDoorJzD2
import Derived.Test.YtidhiaaicmfabaaGreatDoorJzT
import Derived.Test.YtidhiaaicmfabaaGreatDoorJzS

/- Reckoned (seat .ZD alone). -/
namespace Go.Proofs.YtidhiaaicmfabaaGreatDoor
open Go.RowKit Go.Proofs Go.Deep

theorem str_callZ {X Y : ByteArray} {f : Nat} {w : World} {R : Ending → World → Prop} (h : X = Y) (hc : Calls Tryz.prog f #[.string Y] w R) : Calls Tryz.prog f #[.string X] w R := h ▸ hc
theorem inp3 {bc g : Nat} {w : World} {x y z : Int} (hg : w.heap[g]? = some (.cells #[.int .i64 x, .int .i64 y, .int .i64 z] 3)) (hne : g ≠ bc) : InpAt bc w (.slice (some ⟨g, 0, none⟩) 3 3) [x, y, z] := by
  refine ⟨_, 3, rfl, by simp, .inl ⟨g, 0, rfl, hne, fun j u hz => ?_⟩⟩
  have hj : j = 0 ∨ j = 1 ∨ j = 2 := by
    have := (List.getElem?_eq_some_iff.1 hz).1
    simp at this
    omega
  rcases hj with rfl | rfl | rfl
  · simp at hz; subst hz; exact cellOf hg rfl
  · simp at hz; subst hz; exact cellOf hg rfl
  · simp at hz; subst hz; exact cellOf hg rfl
theorem rkJoin (k : Nat) (e : Ex) : ((((ba rkPre ++ ba (kT k)) ++ ba rkMid) ++ ba (strE e)) ++ ba rkPost) = rkText k e := by
  rw [ba_app, ba_app, ba_app, ba_app]
  unfold rkText
  simp only [List.append_assoc]
set_option maxRecDepth 100000 in
theorem rkTold (Bs : Nat) (w : World) {k : Nat} (hk : k = 1 ∨ k = 2) {e : Ex} (he : rkE e) (ok : CdOk (rkCs k) (rkC k e)) {cap bs bx bc : Nat} {To' : Nat → Int} {C0 : Nat → Int} {dn : Int} (h : Live (cMd (rkCs k) (rkC k e) cap bs bx To') bc C0 dn w) (hkw : cKW (rkCs k) (rkC k e) cap bs bx To') (hB1 : Bs ≤ bx) (hB2 : Bs ≤ bc) (hB3 : Bs ≤ w.heap.size)
    {v : Value} {A B C V : Int} (hv : InpAt bc w v [A, B, C]) (hA : -32768 ≤ A ∧ A ≤ 32767) (hB : -32768 ≤ B ∧ B ≤ 32767) (hC : in32 C) (hV : valT A B C e = V) (hvl : layK k V = V) (R : Ending → World → Prop)
    (fin : ∀ w' go, Below Bs w w' → w'.cell? ⟨go, 0, none⟩ = some (.int .i64 V) → ∀ cp, R (.returned (.tuple #[.slice (some ⟨go, 0, none⟩) 1 cp, .bool true])) w') :
    Calls Tryz.prog 36 #[.pointer (some ⟨bx, 0, none⟩), v, .int .i64 0] w R := by
  obtain ⟨b0, b1, b2, b3⟩ := rkBt k hk (prW (rkC k e)).flatten (by rw [prW_sz]; have := ok.sz; omega)
  have r0 : (cMd (rkCs k) (rkC k e) cap bs bx To').rl 0 = 0 := by show bt _ (7 + 0) / 3 = 0; rw [b0]
  have r1 : (cMd (rkCs k) (rkC k e) cap bs bx To').rl 1 = 0 := by show bt _ (7 + 1) / 3 = 0; rw [b1]
  have r2 : (cMd (rkCs k) (rkC k e) cap bs bx To').rl 2 = 0 := by show bt _ (7 + 2) / 3 = 0; rw [b2]
  have r3 : (cMd (rkCs k) (rkC k e) cap bs bx To').rl 3 = 1 := by show bt _ (7 + 3) / 3 = 1; rw [b3]; omega
  have k0 : (cMd (rkCs k) (rkC k e) cap bs bx To').kd 0 = 1 := by show bt _ (7 + 0) % 3 = 1; rw [b0]
  have k1 : (cMd (rkCs k) (rkC k e) cap bs bx To').kd 1 = 1 := by show bt _ (7 + 1) % 3 = 1; rw [b1]
  have k2 : (cMd (rkCs k) (rkC k e) cap bs bx To').kd 2 = 2 := by show bt _ (7 + 2) % 3 = 2; rw [b2]
  have k3 : (cMd (rkCs k) (rkC k e) cap bs bx To').kd 3 = k := by show bt _ (7 + 3) % 3 = k; rw [b3]; omega
  obtain ⟨f1, f2⟩ := rk_fits r0 r1 r2 r3 k0 k1 k2 hA hB hC C0
  have hex := rk_ex k e he (cMd (rkCs k) (rkC k e) cap bs bx To').kd 0 (C := upd (upd (upd C0 0 A) 1 B) 2 C) (a := A) (b := B) (c := C) (by simp [upd]) (by simp [upd]) (by simp [upd])
  rw [k3, hV, hvl] at hex
  have ho : outsL (cMd (rkCs k) (rkC k e) cap bs bx To').rl (upd (upd (upd (upd C0 0 A) 1 B) 2 C) 3 V) (rkCs k).length = [V] := by
    show outsL _ _ 4 = _
    simp [outsL, r0, r1, r2, r3, upd]
  refine ctold Bs w ok h hkw hB1 hB2 hB3 (l := [A, B, C]) hv f1 (by omega) (C' := upd (upd (upd (upd C0 0 A) 1 B) 2 C) 3 V) (S' := []) (by show exC _ 0 _ (layL _ _ 4 0 _ _) [] = _; rw [f2]; exact hex) (by rw [ho]; simp) R ?_
  intro w' go dn' hb hl hg cp
  have hg0 := hg 0 (.int .i64 V) (by rw [ho]; rfl)
  have := fin w' go hb hg0 cp
  rw [ho]
  exact this
set_option maxRecDepth 100000 in
set_option maxHeartbeats 4000000 in
theorem reckonedK_any (w : World) (hops : ∀ i v, opC[i]? = some v → w.cell? ⟨4, i, none⟩ = some v) (vr : Value) (raw : List Int) (nb : Nat) (hin : InpAt nb w vr raw) (hraw : ∀ x ∈ raw, -9223372036854775808 ≤ x ∧ x ≤ 9223372036854775807) (a b c : Int)
    (R : Ending → World → Prop) (fin : ∀ w', Below w.heap.size w w' → R (.returned (.bool true)) w') :
    Calls Tryz.prog 5 #[vr, .int .i64 a, .int .i64 b, .int .i64 c] w R := by
  have h4 : 4 < w.heap.size := World.block_lt_of_cell? w ⟨4, 0, none⟩ (hops 0 _ rfl)
  have hA := i16_bd a
  have hB := i16_bd b
  have hC := w32_bd c
  obtain ⟨t1, t2, t3, t4, t5, t6, _, _⟩ := term_rk raw 4 0
  have hsz4 : szT 4 = 171 := rfl
  have hnd4 : ndT 4 = 31 := rfl
  rw [hsz4] at t2
  rw [hnd4] at t5 t6
  have hct := fun W v cp nb' => term_any raw hraw (IntKind.i16.wrap a) (IntKind.i16.wrap b) (wrap32 c) hA hB hC 4 0 W v cp nb'
  have hkind := (kE_rk 1 _ t1).2.1
  have hval := val_bd hA hB hC _ t1
  obtain ⟨e, he⟩ : ∃ e, e = termT raw 4 0 := ⟨_, rfl⟩
  rw [← he] at t1 t2 t3 t4 t5 t6 hct hkind hval
  obtain ⟨ao, cp, rfl, hcp, hcs⟩ := hin
  have hin2 : InpAt nb w (.slice ao raw.length cp) raw := ⟨ao, cp, rfl, hcp, hcs⟩
  generalize gA : IntKind.i16.wrap a = A at *
  generalize gB : IntKind.i16.wrap b = B at *
  generalize gC : wrap32 c = C at *
  have zs : (ba (strE e.1)).size ≤ 171 := by rw [ba_size]; exact t2
  have t500 : decide ((500 : Int) < ((ba (strE e.1)).size : Int)) = false := by simp; omega
  have n500 : ¬ 500 < (ba (strE e.1)).size := by omega
  have hkq : ∃ k : Nat, (k = 1 ∨ k = 2) ∧ kE (rkV 1) e.1 = (k : Int) := by
    rcases hkind with h | h
    · exact ⟨1, .inl rfl, h⟩
    · exact ⟨2, .inr rfl, h⟩
  obtain ⟨k, hk, hke⟩ := hkq
  have hTx := rkTx k hk e.1 t1 hke t3 t5 t6
  have hSp := rkSp k hk e.1 t1
  have hSz : (rkText k e.1).size ≤ 700 := by
    unfold rkText
    rw [ba_size]
    have := (rkLen k hk e.1 t1).2
    omega
  have hOk := rkCd k hk e.1 t1 t3 t5
  have hIm := rkImg k hk e.1
  have hJo := rkJoin k e.1
  have hvl : layK k (valT A B C e.1) = valT A B C e.1 := rk_lay hk hval.1 (fun h => hval.2 (by rw [hke, h]; rfl))
  have hEx := fun kd d (Cf : Nat → Int) h0 h1 h2 => rk_ex k e.1 t1 kd d (C := Cf) (a := A) (b := B) (c := C) h0 h1 h2
  have hBt := rkBt k hk (prW (rkC k e.1)).flatten (by rw [prW_sz]; have := hOk.sz; omega)
  generalize hV : valT A B C e.1 = V at *
  generalize hS : ba (strE e.1) = S at *
  have i500 : (S.size : Int) ≤ 500 := by omega
  rw [hke] at hct
  clear t2 t3 t4 t5 t6 hkind hval hke
  replace fin := hd fin
  replace hct := hd hct
  replace hTx := hd hTx
  replace hSp := hd hSp
  replace hOk := hd hOk
  replace hIm := hd hIm
  replace hJo := hd hJo
  replace hEx := hd hEx
  replace hBt := hd hBt
  replace hin2 := hd hin2
  replace hcs := hd hcs
  go_enter Tryz.func5, Tryz.ntmps5
  go_wp2_with (fail)
  refine copies_any _ _ ?_
  intro w1 hb1
  have hz1 := hb1.size
  have hnew : (w1.alloc (.cells #[.int .i64 A, .int .i64 B, .int .i64 C] 68)).heap[w1.heap.size]? = some (.cells #[.int .i64 A, .int .i64 B, .int .i64 C] 68) := allocCells
  have hB2 := hb1.alloc hz1 (.cells #[.int .i64 A, .int .i64 B, .int .i64 C] 68)
  have hz2 := hB2.size
  replace hb1 := hd hb1
  go_wp2_with (first | (go_at_call 32; refine short_any _ _ _ ?_; first | rw [gA] | rw [gB]) | (go_at_call 33; refine long_any _ _ _ ?_; rw [gC]))
  refine hct.out _ ao cp nb (hin2.out.below hB2) (by omega) (by decide) _ ?_
  intro w3 hb3
  have hB3 := hB2.trans (hb3.mono hz2)
  have hz3 := hB3.size
  have hnew3 := (hb3.block w1.heap.size (by simp)).trans hnew
  have hops3 : ∀ i v, opC[i]? = some v → w3.cell? ⟨4, i, none⟩ = some v := fun i v hv => (hB3.cell (p := ⟨4, i, none⟩) h4).trans (hops i v hv)
  have hl3 : w1.heap.size < w3.heap.size := (Array.getElem?_eq_some_iff.1 hnew3).1
  have hM : ∀ (R' : Ending → World → Prop), (∀ cap bs bx bc To' w', Below w3.heap.size w3 w' → w3.heap.size ≤ bx → w3.heap.size ≤ bs → w3.heap.size ≤ bc → Live (cMd (rkCs k) (rkC k e.1) cap bs bx To') bc (fun _ => 0) 0 w' → cKW (rkCs k) (rkC k e.1) cap bs bx To' → R' (.returned (.pointer (some ⟨bx, 0, none⟩))) w') → Calls Tryz.prog 35 #[.string (rkText k e.1)] w3 R' := fun R' hR' =>
    cmachine w3 hOk.out (fun R2 h2 => compile_ok hTx.out (rkText k e.1) hSz hSp.out w3 hops3 R2 (by rw [hIm.out]; exact h2)) R' hR'
  replace hM := hd hM
  replace hB3 := hd hB3
  replace hnew3 := hd hnew3
  clear hb3 hB2 hnew hops3
  rcases hk with rfl | rfl
  all_goals
    go_wp2_with (fail)
    refine str_callZ hJo.out ?_
    refine hM.out _ ?_
    intro cap bs bx bc To' w4 hb4 hbx hbs hbc hlive hkw
    have hB4 := hB3.out.trans (hb4.mono hz3)
    have hz4 := hB4.size
    have hnew4 := (hb4.block w1.heap.size hl3).trans hnew3.out
    have q0 := cellOf (i := 0) hnew4 rfl
    have q1 := cellOf (i := 1) hnew4 rfl
    have q2 := cellOf (i := 2) hnew4 rfl
    have hl4 : w1.heap.size < w4.heap.size := by have := hb4.size; omega
    have hbxl := hlive.row.lt
    have hbcl := hlive.cel.lt
    have hne4 : w4.heap.size ≠ bc := by omega
    have hlive2 := hlive.below ((Below.refl _ w4).alloc (Nat.le_refl _) (.cells #[.int .i64 A, .int .i64 B, .int .i64 C] 3))
    replace hB4 := hd hB4
    replace hlive2 := hd hlive2
    replace hkw := hd hkw
    replace hnew4 := hd hnew4
    clear hb4 hlive
    go_wp2_with (fail)
    refine rkTold w.heap.size _ (by first | exact .inl rfl | exact .inr rfl) t1 hOk.out hlive2.out hkw.out (by omega) (by omega) (by simp; omega) (inp3 allocCells hne4) hA hB hC hV hvl _ ?_
    intro w5 go hb5 g0 cp5
    have hB5 := hd ((hB4.out.alloc hz4 _).trans hb5)
    have lgo := World.block_lt_of_cell? w5 ⟨go, 0, none⟩ g0
    clear hb5
    have tv : (V == V) = true := beq_self_eq_true V
    go_wp2
    exact cl1 (fin.out _ hB5.out) (by first | rfl | simp)

end Go.Proofs.YtidhiaaicmfabaaGreatDoor

/- Reckoned's row, lifted (seat .ZD alone). -/
namespace Go.Proofs.YtidhiaaicmfabaaGreatDoor
open Go.RowKit Go.Proofs Go.Deep

open Go.ChangeShapes Go.WideShapes Go.ChangeAt
set_option maxRecDepth 100000 in
theorem rk_lifted (os : Os) (started : os.Started) (H : Type) (enc : TypeId × Value → H) :
    ReturnsInHanded {} Tryz.checked os 5 .any (fun w args => (Rows.reckonedSpec.pre enc Tryz.prog Tryz.f5 Rows.reckonedRow.domain false w args ∧ laidMetH Tryz.prog Rows.reckonedRow.laid w) ∧ sizedMet enc Tryz.prog Tryz.f5 (OpenSpec.ofChange Rows.reckonedSpec) false w args)
      (Rows.reckonedSpec.post enc Tryz.prog Tryz.f5 false true false false) := by
  refine returnsInHanded_of_change_and (C := Tryz.checked) (X := fun w _ => laidMetH Tryz.prog Rows.reckonedRow.laid w) (fun _ _ _ hh h => h.of_heap hh) own_knobD started (by kernel_rfl) Tryz.func5
    (ChangeSpec.witness_shaped (enc := enc) (C := Tryz.checked) (os := os) (X := fun w _ => laidMetH Tryz.prog Rows.reckonedRow.laid w) false (World.laidAll Tryz.prog os Rows.reckonedRow.laid) #[.slice none 0 0, .int .i64 0, .int .i64 0, .int .i64 0] 8 (World.laidAll_os _ _ _)
      (World.shaped_of_ZipB (by kernel_rfl) (by kernel_rfl)) (by kernel_rfl) (by kernel_rfl) (by kernel_rfl)
      (by rw [MakeChecks.laidMetH_plain _ _ _ (by kernel_rfl)]; exact laidMet_laidAll _ (by kernel_rfl) (by kernel_rfl))) ?_
  intro W base args ds gs before hval0 hW _ _ hL _
  have hval : ∀ (j : Nat) t v, Tryz.f5.params[j]? = some t → args[j]? = some v → Value.okWide Tryz.prog W .any base t v := hval0
  have hW' := hW
  obtain ⟨p, q, hA0, hV, rfl, _, _⟩ := hW
  have hA : DataW.TrodAll enc Tryz.prog W 0 (fun _ => true) true Tryz.f5.params.toList args.toList ds p := hA0
  rw [Tryz.params5] at hA hval
  obtain ⟨v0, v1, v2, v3, d0, d1, d2, d3, p0, p1, p2, p3, rfl, rfl, rfl, h0, h1, h2, h3⟩ := trodAll_four hA
  obtain ⟨rfl, rfl⟩ := trodVars_none hV
  obtain ⟨a, rfl, rfl, rfl, wa⟩ := open_int Tryz.underlying3 (hval 1 3 v1 rfl rfl) h1
  obtain ⟨b, rfl, rfl, rfl, wb⟩ := open_int Tryz.underlying3 (hval 2 3 v2 rfl rfl) h2
  obtain ⟨c, rfl, rfl, rfl, wc⟩ := open_int Tryz.underlying3 (hval 3 3 v3 rfl rfl) h3
  obtain ⟨l, hin, hl⟩ := inp_of_ints (hval 0 38 v0 rfl rfl) h0
  rw [MakeChecks.laidMetH_plain _ _ _ (by kernel_rfl)] at hL
  have hops := ops_cells hL (.tail _ (.tail _ (.tail _ (.tail _ (.tail _ (.tail _ (.head _)))))))
  clear hA0 hval0
  simp only [List.append_nil] at hW'
  have hlt : ∀ x ∈ p0, x.block < W.heap.size := fun x hx => by simpa using hW'.lt x hx
  refine reckonedK_any W hops v0 l W.heap.size hin hl a b c _ fun W' hB => ?_
  have hA3 := trodAll_mk4 (Below.trod laidOutZ (by kernel_rfl) (of_decide_eq_true (by kernel_rfl)) h0 hB hlt) (shut_int Tryz.underlying3 wa) (shut_int Tryz.underlying3 wb) (shut_int Tryz.underlying3 wc)
  simp only [List.append_nil] at hA3
  exact ⟨_, rfl, _, _, _, [], p0, [], hW', trodAll_mk1 (shut_bool Tryz.underlying4 _), hA3, rfl, hB.frame _, fun h => by cases h⟩

end Go.Proofs.YtidhiaaicmfabaaGreatDoor
