/- Elements of arrays; all expressions. -/
import Derived.Test.YtidhiaaicmfabaaGreatDoorKaA
import Derived.WalkKit
import Derived.WalkSpells
import Derived.WalkLawsBesides
import Derived.Deep.OwnRows
import Derived.BigQuiet
import Derived.Handy
import Derived.Deep.Light
import Derived.Deep.RegionHeld3
import Derived.Deep.RegionWith
import Derived.Test.YtidhiaaicmfabaaGreatDoorJyQ
import Derived.Test.YtidhiaaicmfabaaGreatDoorJyI
import Derived.Test.YtidhiaaicmfabaaGreatDoorJyO

/- An element of an array: its kind, its cost, its code (seat .ZD alone). -/
namespace Go.Proofs.YtidhiaaicmfabaaGreatDoor
open Go.RowKit Go.Proofs Go.Deep

set_option maxRecDepth 100000 in
set_option maxHeartbeats 2000000 in
theorem kind_idxP {vs : List Vd} {i : Ex} (hi : KindOk vs i) {bc bm lo hi' ti : Nat} {fst : Nat → Int} {bs : List Nat} {lv ui : Value} {ls : List ByteArray} {w : World} (h : Env bc bm fst vs bs lv ls w) {s : ByteArray} {v : Vd} (hv : lookV vs s = some v) (ha : v.arr = true) (hk : isNum (kE vs i) = true) (hx : ExIn (fun _ => 0) i lo hi' w (.iface ti ui)) (R : Ending → World → Prop)
    (fin : ∀ w', Kf lo hi' w w' → ExIn (kE vs) i lo hi' w' (.iface ti ui) → R (.returned (.int .u8 (v.kind : Int))) w') : Calls Tryz.prog 308 #[.agg #[.string s, .iface ti ui], .pointer (some ⟨bc, 0, none⟩)] w R := by
  obtain ⟨j, b, h1, h2, h3⟩ := look_find vs bs s v h.vars.len hv
  obtain ⟨_, hrow⟩ := h.vars.row j v b h1 h2
  obtain ⟨hm, hnm⟩ := lookV_mem vs s v hv
  have hsz : s.size ≤ maxLen := by rw [← hnm]; have := (h.names v hm).le; unfold maxLen; omega
  have c0 : w.cell? ⟨bc, 0, none⟩ = some (.map (some bm)) := h.ck.cell (i := 0) (by omega)
  have lb := h.ck.lt
  have b3 : w.cell? ⟨b, 3, none⟩ = some (.bool true) := by have := hrow.cell (i := 3) (by omega); rw [show vdF v (fst j) 3 = .bool v.arr from rfl, ha] at this; exact this
  have lbb := hrow.lt
  have ml := meth_kind hx
  have ml1 := ml.m
  have ml2 := ml.c
  have hlk : ∀ n, (Instr.lookup 90 (.map (some bm)) (.string s) false).run Tryz.prog ((w.alloc (Obj.cells #[.string s, .iface ti ui] 305)).drewN n) = .ok (.pointer (some ⟨b, 0, none⟩)) ((w.alloc (Obj.cells #[.string s, .iface ti ui] 305)).drewN n) := fun n => by
    have hnm2 : NmAt ((w.alloc (Obj.cells #[.string s, .iface ti ui] 305)).drewN n) bm vs.length (findB vs bs) := h.nm.keep (Below.heap_alloc _ _ _ h.nm.lt)
    have hl := hnm2.look s hsz
    rw [h3] at hl
    exact hl
  have b0 : ∀ n, Below w.heap.size w ((w.alloc (Obj.cells #[.string s, .iface ti ui] 305)).drewN n) := fun n => below_drewN ((Below.refl w.heap.size w).alloc (Nat.le_refl _) _) n
  have hA := hd (fun n => h.kf (lo := 0) (hi := 0) (Kf.of_below (b0 n)))
  have hxA := hd (fun n => hx.kf (lo := 0) (hi := 0) (Kf.of_below (b0 n)) (.inl (Nat.zero_le _)))
  replace b0 := hd b0
  have cL := hd (fun (W : World) => @hi bc bm lo hi' ti fst bs lv ui ls W)
  replace fin := hd fin
  replace h := hd h
  replace hx := hd hx
  replace hrow := hd hrow
  replace h1 := hd h1
  replace h2 := hd h2
  clear h3 hm hnm hv ml hi
  generalize kfn i = FL at *
  go_enter Tryz.func308, Tryz.ntmps308
  go_wp2_with (fail)
  go_quiet (fail)
  go_wp2_with (fail)
  go_quiet (first | (go_at_call 69; exact want_ok _ _ _ ⟨rfl, _, rfl⟩))
  go_wp2_with (fail)
  refine cL.out _ (hA.out _) (hxA.out _) _ ?_
  intro w1 k1 hx1
  have hA1 := (hA.out _).kf k1
  obtain ⟨_, hrow1⟩ := hA1.vars.row j v b h1.out h2.out
  have b2 : w1.cell? ⟨b, 2, none⟩ = some (.int .u8 (v.kind : Int)) := hrow1.cell (i := 2) (by omega)
  have lbb1 := hrow1.lt
  have hK := hd ((Kf.of_below (lo := lo) (hi := hi') (b0.out _)).trans k1)
  replace hx1 := hd hx1
  replace hrow1 := hd hrow1
  clear k1 hA1 hA hxA b0 hrow
  go_wp2_with (first | (go_at_call 299; refine isNumber_any _ _ _ ?_; rw [hk]) | (go_at_call 69; refine want_ok _ _ _ ?_))
  exact cl1 (fin.out _ hK.out hx1.out) rfl
theorem kind_idx {vs : List Vd} {s : ByteArray} {i : Ex} (hi : KindOk vs i) (hw : wtE vs (.idx s i) = true) : KindOk vs (.idx s i) := by
  intro bc bm lo hi' t fst bs lv u ls w h hx R fin
  obtain ⟨vi, hv, hxi⟩ := hx
  injection hv with e1 e2
  subst e1 e2
  obtain ⟨ti, ui, rfl⟩ := hxi.iface
  simp only [wtE, Bool.and_eq_true] at hw
  obtain ⟨⟨hw1, hw2⟩, hw3⟩ := hw
  cases hvv : lookV vs s with
  | none => rw [hvv] at hw1; cases hw1
  | some v =>
    rw [hvv] at hw1
    have hk : kE vs (.idx s i) = (v.kind : Int) := by simp only [kE, hvv]
    rw [hk] at fin
    exact kind_idxP hi h hvv (by simpa using hw1) hw3 hxi R (fun w' k1 hx1 => fin w' k1 ⟨_, rfl, hx1⟩)
set_option maxRecDepth 100000 in
theorem place_costx {kk : Ex → Int} {i : Ex} (hl : CostOk kk i) {lo hi ti : Nat} {ui : Value} {w : World} (s : ByteArray) (hx : ExIn kk i lo hi w (.iface ti ui)) (hh : hi ≤ w.heap.size) (hc : 1 + cE i ≤ 100000) (R : Ending → World → Prop) (fin : ∀ w', Below w.heap.size w w' → R (.returned (.int .i64 (1 + cE i))) w') :
    Calls Tryz.prog 307 #[.agg #[.string s, .iface ti ui]] w R := by
  have ml := meth_cost hx
  have ml1 := ml.m
  have ml2 := ml.c
  have pl := cE_pos i
  have cL := hd (fun (W : World) => @hl lo hi ti ui W)
  replace fin := hd fin
  replace hx := hd hx
  clear hl ml
  generalize cE i = kl at *
  generalize cfn i = FL at *
  have hL1 : kl ≤ 100000 := by omega
  have j1 : IntKind.i64.wrap (1 + kl) = 1 + kl := IntWalk.i64_in _ (by omega)
  go_enter Tryz.func307, Tryz.ntmps307
  go_wp2_with (fail)
  have b0 := hd ((Below.refl w.heap.size w).alloc (Nat.le_refl _) (Obj.cells #[.string s, .iface ti ui] 305))
  refine cL.out _ (hx.out.below b0.out hh) (Nat.le_trans hh b0.out.size) hL1 _ ?_
  intro w1 b1
  have hB := hd (b0.out.trans (b1.mono b0.out.size))
  clear b1
  go_wp2
  exact cl1 (fin.out _ hB.out) rfl
theorem cost_idx {kk : Ex → Int} {s : ByteArray} {i : Ex} (hl : CostOk kk i) : CostOk kk (.idx s i) := by
  intro lo hi t u w hx hh hc R fin
  obtain ⟨vi, hv, hxi⟩ := hx
  injection hv with e1 e2
  subst e1 e2
  obtain ⟨ti, ui, rfl⟩ := hxi.iface
  exact place_costx hl s hxi hh hc R fin
set_option maxRecDepth 100000 in
set_option maxHeartbeats 2000000 in
theorem write_idx {vs : List Vd} {s : ByteArray} {i : Ex} {v : Vd} (hv : lookV vs s = some v) (hlen : 0 ≤ v.len ∧ v.len ≤ 255) (hl : WriteOk vs i) : WriteOk vs (.idx s i) := by
  intro B bw bm lo hi t bs sp kp cv u code w h hx hc R fin
  obtain ⟨vi, hvi, hxi⟩ := hx
  injection hvi with e1 e2
  subst e1 e2
  obtain ⟨ti, ui, rfl⟩ := hxi.iface
  have ml := meth_write hxi
  have ml1 := ml.m
  have ml2 := ml.c
  obtain ⟨j, b, h1, h2, h3, h4⟩ := look_first vs bs s v 0 h.vars.len hv
  obtain ⟨hm, hnm⟩ := lookV_mem vs s v hv
  have hsz : s.size ≤ maxLen := by rw [← hnm]; have := (h.names v hm).le; unfold maxLen; omega
  have c0 : w.cell? ⟨bw, 0, none⟩ = some (.map (some bm)) := h.row.cell (i := 0) (by omega)
  have lb := h.row.lt
  have hlk : ∀ n, (Instr.lookup 90 (.map (some bm)) (.string s) false).run Tryz.prog ((w.alloc (Obj.cells #[.string s, .iface ti ui] 305)).drewN n) = .ok (.pointer (some ⟨b, 0, none⟩)) ((w.alloc (Obj.cells #[.string s, .iface ti ui] 305)).drewN n) := fun n => by
    have hnm2 : NmAt ((w.alloc (Obj.cells #[.string s, .iface ti ui] 305)).drewN n) bm vs.length (findB vs bs) := h.nm.keep (Below.heap_alloc _ _ _ h.nm.lt)
    have hl := hnm2.look s hsz
    rw [h3] at hl
    exact hl
  have elen : lenOf vs s = v.len := by unfold lenOf; rw [hv]
  simp only [codeE, elen] at fin hc
  simp only [wfn]
  have cL := hd (fun (W : World) => @hl B bw bm lo hi ti bs sp kp cv ui code W)
  have b0 : ∀ n, Below w.heap.size w ((w.alloc (Obj.cells #[.string s, .iface ti ui] 305)).drewN n) := fun n => below_drewN ((Below.refl w.heap.size w).alloc (Nat.le_refl _) _) n
  have hA := hd (fun n => h.below (b0 n))
  have hxA := hd (fun n => hxi.keep (w' := (w.alloc (Obj.cells #[.string s, .iface ti ui] 305)).drewN n) (fun b cur _ _ hc => (b0 n).block b (Array.getElem?_eq_some_iff.1 hc).1))
  replace b0 := hd b0
  replace fin := hd fin
  replace h := hd h
  replace hxi := hd hxi
  replace h1 := hd h1
  replace h2 := hd h2
  replace h4 := hd h4
  clear h3 hm hnm hv ml hl
  simp only [List.length_append, List.length_cons, List.length_nil] at hc
  generalize wfn i = FL at *
  go_enter Tryz.func309, Tryz.ntmps309
  go_wp2_with (fail)
  go_quiet (fail)
  go_wp2_with (fail)
  refine cL.out _ (hA.out _) (hxA.out _) (by omega) _ ?_
  intro w1 cv1 g1 hf1
  have hF1 := hd (Fu.pre (b0.out _) hf1)
  obtain ⟨_, hrow⟩ := g1.vars.row j v b h1.out h2.out
  have b5 : w1.cell? ⟨b, 5, none⟩ = some (.int .u8 (firstV vs 0 s)) := by
    have := hrow.cell (i := 5) (by omega)
    rw [show vdF v (fstV vs j) 5 = .int .u8 (fstV vs j) from rfl] at this
    rw [this, show fstV vs j = firstV vs 0 s from by unfold fstV; rw [← h4.out]; omega]
  have b4 : w1.cell? ⟨b, 4, none⟩ = some (.int .i64 v.len) := hrow.cell (i := 4) (by omega)
  have lbb := hrow.lt
  have jl : IntKind.u8.wrap v.len = v.len := by
    unfold IntKind.wrap
    simp only [IntKind.signed, IntKind.bits]
    simp
    omega
  generalize firstV vs 0 s = fv at *
  generalize v.len = ln at *
  replace hrow := hd hrow
  clear hf1 hA hxA b0 hlk
  have hW := hd ((g1.below (below_drewN (Below.refl _ w1) 1)).alloc (Obj.cells #[.int .u8 4, .int .u8 fv, .int .u8 ln] 5))
  have hgg : (w1.drew.alloc (Obj.cells #[.int .u8 4, .int .u8 fv, .int .u8 ln] 5)).heap[w1.heap.size]? = some (.cells (u8V [4, fv, ln]).toArray 5) := allocCells (w := w1.drew) (cur := #[.int .u8 4, .int .u8 fv, .int .u8 ln]) (T := 5) (fz := (0, 0))
  replace hgg := hd hgg
  replace g1 := hd g1
  go_wp2_with (fail)
  go_region_with (go_at_call 74; refine put_ok hW.out [4, fv, ln] w1.heap.size 3 3 rfl hgg.out (by simp only [List.length_append, List.length_cons, List.length_nil]; omega) _ ?_; intro w3 cv3 h3 hf3; replace h3 := hd h3; replace hf3 := hd hf3)
  all_goals
    have hF3 := hd (hF1.out.trans (Fu.pre ((below_drewN (Below.refl w1.heap.size w1) 1).trans (((Below.refl _ _).alloc (Nat.le_refl _) _).mono (Nat.le_refl _))) hf3.out))
    go_end0
    refine fin.out _ _ ?_ hF3.out
    have := h3.out
    simp only [List.append_assoc] at this ⊢
    exact this

end Go.Proofs.YtidhiaaicmfabaaGreatDoor

/- All expressions: read, checked, costed, written (seat .ZD alone). -/
namespace Go.Proofs.YtidhiaaicmfabaaGreatDoor
open Go.RowKit Go.Proofs Go.Deep

theorem kind_all (vs : List Vd) : ∀ e : Ex, wtE vs e = true → KindOk vs e
  | .lit _, h => kind_lit h
  | .tru _, _ => kind_tru
  | .plc _, h => kindOk_plc h
  | .idx s i, h => by
    have hi : wtE vs i = true := by simp only [wtE, Bool.and_eq_true] at h; exact h.1.2
    exact kind_idx (kind_all vs i hi) h
  | .bin o l r, h => by
    have hi : wtE vs l = true ∧ wtE vs r = true := by simp only [wtE, Bool.and_eq_true] at h; exact ⟨h.1.1.1, h.1.1.2⟩
    exact kind_bin (kind_all vs l hi.1) (kind_all vs r hi.2) h
  | .neg e, h => by
    have hi : wtE vs e = true := by simp only [wtE, Bool.and_eq_true] at h; exact h.1
    exact kind_neg (kind_all vs e hi) h
  | .sho e, h => by
    have hi : wtE vs e = true := by simp only [wtE, Bool.and_eq_true] at h; exact h.1
    exact kind_sho (kind_all vs e hi) h
  | .dly t a s, h => by
    have hi : wtE vs a = true ∧ wtE vs s = true := by simp only [wtE, Bool.and_eq_true] at h; exact ⟨h.1.1.1.2, h.1.2⟩
    exact kind_dly (kind_all vs a hi.1) (kind_all vs s hi.2) h
theorem cost_all (kk : Ex → Int) : ∀ e : Ex, CostOk kk e
  | .lit _ => cost_lit
  | .tru _ => cost_tru
  | .plc _ => cost_plc
  | .idx _ i => cost_idx (cost_all kk i)
  | .bin _ l r => cost_bin (cost_all kk l) (cost_all kk r)
  | .neg e => cost_neg (cost_all kk e)
  | .sho e => cost_sho (cost_all kk e)
  | .dly _ a s => cost_dly (cost_all kk a) (cost_all kk s)
theorem write_all (vs : List Vd) (hv : ∀ v ∈ vs, 0 ≤ v.len ∧ v.len ≤ 255) : ∀ e : Ex, wtE vs e = true → WriteOk vs e
  | .lit _, _ => write_lit
  | .tru _, _ => write_tru
  | .plc s, h => by
    cases hl : lookV vs s with
    | none => simp only [wtE, hl] at h; cases h
    | some v => exact write_plc hl
  | .idx s i, h => by
    simp only [wtE, Bool.and_eq_true] at h
    cases hl : lookV vs s with
    | none => rw [hl] at h; cases h.1.1
    | some v => exact write_idx hl (hv v (lookV_mem _ _ _ hl).1) (write_all vs hv i h.1.2)
  | .bin o l r, h => by
    simp only [wtE, Bool.and_eq_true] at h
    exact write_bin (write_all vs hv l h.1.1.1) (write_all vs hv r h.1.1.2)
  | .neg e, h => by
    simp only [wtE, Bool.and_eq_true] at h
    exact write_neg (write_all vs hv e h.1)
  | .sho e, h => by
    simp only [wtE, Bool.and_eq_true] at h
    exact write_sho (write_all vs hv e h.1)
  | .dly t a s, h => by
    simp only [wtE, Bool.and_eq_true] at h
    cases hl : lookV vs t with
    | none => rw [hl] at h; cases h.1.1.1.1
    | some v => exact write_dly hl (write_all vs hv a h.1.1.1.2) (write_all vs hv s h.1.2)

end Go.Proofs.YtidhiaaicmfabaaGreatDoor
