/- Elements of arrays; all expressions. -/
import Derived.Test.YtidhiaaicmfabaaGreatDoorKaA
import Derived.WalkKit
import Derived.WalkSpells
import Derived.WalkLawsBesides
import Derived.Deep.OwnRows
import Derived.BigQuiet
import Derived.Handy
import Derived.Deep.Light
import Derived.Deep.RegionHeld3
import Derived.Deep.RegionWith
import Derived.Test.YtidhiaaicmfabaaGreatDoorJzQ
import Derived.Test.YtidhiaaicmfabaaGreatDoorJzI
import Derived.Test.YtidhiaaicmfabaaGreatDoorJzO

/- Places with an index are read (seat .ZD alone). -/
namespace Go.Proofs.YtidhiaaicmfabaaGreatDoor
open Go.RowKit Go.Proofs Go.Deep

set_option maxRecDepth 100000 in
set_option maxHeartbeats 2000000 in
theorem place_idx {i : Ex} (hi : ExprOk i) {w : World} {B bp : Nat} {pv : Value} {L : List ByteArray} {k : Nat} {d : Int} {us : List ByteArray} {uv : Value} (h : Ps B bp pv L k d us uv w) (hn : LowName (nextS L k)) (ht : TokAt L (k + 1) (wLB :: (toks i ++ [wRB]))) (hd0 : 0 ≤ d) (hd1 : d + (depE i + 1) ≤ 10) (R : Ending → World → Prop)
    (fin : ∀ w' t u uv', Ps B bp pv L (k + 1 + 1 + (toks i).length + 1) d (us ++ [nextS L k] ++ namesE i) uv' w' → Fu bp uv uv' w w' → ExIn (fun _ => 0) i w.heap.size w'.heap.size w' (.iface t u) → R (.returned (.agg #[.string (nextS L k), .iface t u])) w') : Calls Tryz.prog 232 #[.pointer (some ⟨bp, 0, none⟩)] w R := by
  have hne : bp ≠ w.heap.size := by have := h.pa.row.lt; omega
  have hB0 := h.le
  have n1 : ((nextS L (k + 1 + 1 + (toks i).length)).toList == wLB.toList) = false := by rw [ht.tail.right.head]; kernel_rfl
  replace fin := hd fin
  go_enter Tryz.func232, Tryz.ntmps232
  go_wp2_with (fail)
  refine use_yes (h.alloc _) hn _ ?_
  intro w1 uv1 h1 hf1
  have hb1 := (h.alloc _).apart allocCells (by decide) hne hf1
  have hf2 := hd (((Fu.of_below (bp := bp) (u := uv) ((Below.refl _ w).alloc (Nat.le_refl _) _)).trans hf1))
  have hn1 : bp ≠ w1.heap.size := by have := h1.pa.row.lt; omega
  have hl1 : w.heap.size < w1.heap.size := by have := hf1.size; simp at this; omega
  have hw0 := h.pa.row.lt
  clear hf1 h
  go_wp2_with (fail)
  refine pAcc (s := wLB) (h1.alloc _) ht.head (by decide) _ ?_
  intro w2 h2 hf3
  have hb2 := (h1.alloc (Obj.cells #[Value.string (nextS L k), Value.nilIface] 305)).apart ((Below.heap_alloc _ _ _ hl1).trans hb1) (by decide) hne hf3
  have hb3 := (h1.alloc _).apart allocCells (by decide) hn1 hf3
  have hs2 := hf3.size
  rw [World.size_alloc] at hs2
  have hf4 := hd (hf2.out.trans (((Fu.of_below ((Below.refl _ w1).alloc (Nat.le_refl _) _)).trans hf3)))
  have hB1 := h1.le
  clear hb1 hf3 hf2
  generalize hz1 : w1.heap.size = z1 at *
  replace hz1 := hd hz1
  replace hb2 := hd hb2
  replace hb3 := hd hb3
  go_wp2_with (fail)
  refine deeper_ok hi h2 (by exact ht.tail.left) n1 hd0 hd1 _ ?_
  intro w5 vi uv5 h5 g5 hx5
  obtain ⟨ti, ui, rfl⟩ := hx5.iface
  have hb5 := hd (h2.apart hb2.out (by decide) hne g5)
  have hb6 := h2.apart hb3.out (by decide) hn1 g5
  have hz5 := g5.size
  have a1 := cellOf (i := 1) hb6 rfl
  have f1 := frozOf (i := 1) hb6
  have hb7 := hd (heapSet (i := 1) hb6 (.iface ti ui))
  have h6 := hd (h5.setNew hb6 (by decide) (by omega) 1 (.iface ti ui))
  have hx6 := hd (hx5.keep (w' := w5.setCell ⟨z1, 1, none⟩ (.iface ti ui)) (fun c cur hc _ _ => (Below.heap_setCell _ _ _ _ (show c ≠ z1 by omega))))
  have hf6 := hd ((hf4.out.trans g5).setNew (show w.heap.size ≤ z1 by omega) 1 (.iface ti ui))
  have hb8 := hd ((Below.heap_setCell w5 ⟨z1, 1, none⟩ (.iface ti ui) w.heap.size (show w.heap.size ≠ z1 by omega)).trans hb5.out)
  clear hx5 g5 hb6 hf4 hb5
  replace h5 := hd h5
  go_wp2_with (fail)
  refine pExp (s := wRB) h6.out (by exact ht.tail.right.head) (by decide) _ ?_
  intro w7 h7 g7
  have hbA := h6.out.apart hb7.out (by decide) hn1 g7
  have hbB := h6.out.apart hb8.out (by decide) hne g7
  have hx7 := g7.exIn h6.out hx6.out (by omega)
  have hz7 := g7.size
  rw [World.size_setCell] at hz7
  have hf7 := hd (hf6.out.trans g7)
  have e0 := cellOf (i := 0) hbA rfl
  have e1 := cellOf (i := 1) hbA rfl
  have a0 := cellOf (i := 0) hbB rfl
  have a1' := cellOf (i := 1) hbB rfl
  have fa := frozOf (i := 0) hbB
  have fb := frozOf (i := 1) hbB
  clear g7 hf6 hb7 hx6 a1 f1 hb8 h6 h5
  replace h7 := hd h7
  replace hx7 := hd hx7
  generalize hz : w.heap.size = z at *
  replace hz := hd hz
  clear hn ht n1
  generalize nextS L k = s at *
  replace hbA := hd hbA
  replace hbB := hd hbB
  go_wp2
  have r0 : ((w7.setCell ⟨z, 0, none⟩ (Value.string s)).setCell ⟨z, 1, none⟩ (.iface ti ui)).cell? ⟨z, 0, none⟩ = some (.string s) := by
    rw [World.cell?_setCell_other _ _ _ _ (by simp)]; exact World.cell?_setCell_same _ _ _ a0
  have r1 : ((w7.setCell ⟨z, 0, none⟩ (Value.string s)).setCell ⟨z, 1, none⟩ (.iface ti ui)).cell? ⟨z, 1, none⟩ = some (.iface ti ui) := World.cell?_setCell_same _ _ _ (by rw [World.cell?_setCell_other _ _ _ _ (by simp)]; exact a1')
  refine bodyPost_ret (v := .agg #[.string s, .iface ti ui]) (by simp [results, Tryz.results232, go_sem, r0, r1]) rfl ?_
  have hps := (h7.out.setNew hbB.out (by decide) hB0 0 (.string s)).setNew (heapSet hbB.out _) (by decide) hB0 1 (.iface ti ui)
  have hsz : ((w7.setCell ⟨z, 0, none⟩ (Value.string s)).setCell ⟨z, 1, none⟩ (.iface ti ui)).heap.size = w7.heap.size := by rw [World.size_setCell, World.size_setCell]
  refine fin.out _ ti ui uv5 hps ((hf7.out.setNew (Nat.le_of_eq hz.out) 0 _).setNew (Nat.le_of_eq hz.out) 1 _) ?_
  rw [hsz]
  exact (hx7.out.keep (fun c cur hc _ _ => by rw [Below.heap_setCell _ _ _ _ (show c ≠ z by omega), Below.heap_setCell _ _ _ _ (show c ≠ z by omega)])).wide (by omega) hz7
set_option maxRecDepth 100000 in
set_option maxHeartbeats 2000000 in
theorem expr_idx {s : ByteArray} {i : Ex} (hn : LowName s) (hi : ExprOk i) : ExprOk (.idx s i) := by
  intro w B bp pv L k d us uv h ht hfo hd0 hd1 R fin
  simp only [toks, List.length_cons, List.length_append, List.length_nil, Nat.zero_add, namesE, depE] at ht hfo fin hd1
  have hs := ht.head
  have hlo := low_first hn
  have t1 : (s.toList == [45]) = false := head_ne hn.pos (by show bt s 0 ≠ 45; omega)
  have t2 : isDg (bt s 0) = false := by simp [isDg]; omega
  replace fin := hd fin
  go_enter Tryz.func233, Tryz.ntmps233
  go_wp2_with (fail)
  refine pNext h _ ?_
  intro w1 h1 hf1
  rw [hs]
  go_wp2_with (fail)
  refine isNumber_no _ s (.inr t2) _ ?_
  go_wp2_with (fail)
  refine isName_yes _ s hn.pos hn.le hn.first hn.low _ ?_
  go_wp2_with (fail)
  refine place_idx hi h1 (by rw [hs]; exact hn) ht.tail hd0 hd1 _ ?_
  intro w2 ti ui uv2 h2 hf2 hx2
  rw [hs] at h2 ⊢
  have hf3 := hd (hf1.trans hf2)
  have hx3 := hd (hx2.wide hf1.size (Nat.le_refl _))
  rw [List.append_assoc, show k + 1 + 1 + (toks i).length + 1 = k + ((toks i).length + 1 + 1 + 1) by omega] at h2
  replace h2 := hd h2
  clear hf1 hf2 hx2
  go_wp2
  exact cl1 (fin.out _ (.iface 305 (.agg #[.string s, .iface ti ui])) uv2 h2.out hf3.out ⟨_, rfl, hx3.out⟩) rfl
set_option maxRecDepth 100000 in
set_option maxHeartbeats 2000000 in
theorem setting_idx {s : ByteArray} {i e : Ex} (hn : LowName s) (hi : ExprOk i) (he : ExprOk e) {w : World} {B bp : Nat} {pv : Value} {L : List ByteArray} {k : Nat} {d : Int} {us : List ByteArray} {uv : Value} (h : Ps B bp pv L k d us uv w) (ht : TokAt L k (s :: wLB :: (toks i ++ wRB :: wAS :: toks e))) (hfo : ((nextS L (k + 1 + 1 + (toks i).length + 1 + 1 + (toks e).length)).toList == wLB.toList) = false) (hd0 : 0 ≤ d) (hd1 : d + (depE i + 1) ≤ 10) (hd2 : d + depE e ≤ 10)
    (R : Ending → World → Prop) (fin : ∀ w' v uv', Ps B bp pv L (k + 1 + 1 + (toks i).length + 1 + 1 + (toks e).length) d (us ++ (s :: (namesE i ++ namesE e))) uv' w' → Fu bp uv uv' w w' → StIn (fun _ => 0) (.setx s i e) w.heap.size w'.heap.size w' v → R (.returned v) w') :
    Calls Tryz.prog 224 #[.pointer (some ⟨bp, 0, none⟩)] w R := by
  have hs := ht.head
  have hti : TokAt L (k + 1) (wLB :: (toks i ++ [wRB])) := by
    have := ht.tail
    rw [show wLB :: (toks i ++ wRB :: wAS :: toks e) = (wLB :: (toks i ++ [wRB])) ++ (wAS :: toks e) by simp] at this
    exact this.left
  have hte : TokAt L (k + 1 + 1 + (toks i).length + 1) (wAS :: toks e) := ht.tail.tail.right.tail
  have hs2 := hte.head
  replace fin := hd fin
  go_enter Tryz.func224, Tryz.ntmps224
  go_wp2_with (fail)
  refine place_idx hi h (by rw [hs]; exact hn) hti hd0 hd1 _ ?_
  intro w1 ti ui uv1 h1 hf1 hx1
  rw [hs] at h1 ⊢
  have hn1 : bp ≠ w1.heap.size := by have := h1.pa.row.lt; omega
  have hfA := hd hf1
  have hz1 := hf1.size
  have hbw := h.pa.row.lt
  clear hf1
  go_wp2_with (fail)
  refine pExp (s := wAS) (h1.alloc _) hs2 (by decide) _ ?_
  intro w2 h2 hf2
  have hb2 := (h1.alloc _).apart allocCells (by decide) hn1 hf2
  have hx2 := hf2.exIn (h1.alloc _) (hx1.keep (fun b _ _ h2 _ => ((Below.refl w1.heap.size w1).alloc (Nat.le_refl _) _).block b h2)) (by omega)
  have hfB := hd (hfA.out.trans ((Fu.of_below ((Below.refl _ w1).alloc (Nat.le_refl _) _)).trans hf2))
  have hz2 := hf2.size
  rw [World.size_alloc] at hz2
  have a0 := cellOf (i := 0) hb2 rfl
  have a1 := cellOf (i := 1) hb2 rfl
  clear hf2 hfA h1 h hx1
  generalize hz : w1.heap.size = z at *
  replace hz := hd hz
  go_wp2_with (fail)
  have h2' := hd h2
  have hb2' := hd hb2
  replace hx2 := hd hx2
  clear h2 hb2
  go_region_with (go_at_call 233; refine he (by exact h2'.out.drew) hte.tail hfo hd0 hd2 _ ?_; intro w5 v uv5 h5 hf5 hx5; have hb5 := h2'.out.drew.apart hb2'.out (by decide) hn1 hf5; have hi5 := hd (hf5.exIn h2'.out.drew (hx2.out.keep (w' := w2.drew) (fun _ _ _ _ _ => rfl)) (by omega)); have b0 := cellOf (i := 0) hb5 rfl; have b1 := cellOf (i := 1) hb5 rfl; obtain ⟨t, u, rfl⟩ := hx5.iface; replace h5 := hd h5; replace hf5 := hd hf5; replace hx5 := hd hx5; replace hb5 := hd hb5)
  all_goals
    have hfC := hd (hfB.out.trans ((Fu.of_below (below_drewN (Below.refl _ w2) 1)).trans hf5.out))
    have hx6 := hd (hx5.out.wide (show w2.heap.size ≤ w2.drew.heap.size from Nat.le_refl _) (Nat.le_refl _))
    have h6 := h5.out
    have hz5 := hf5.out.size
    replace hz5 : w2.heap.size ≤ _ := hz5
    rw [List.append_assoc, List.append_assoc, List.singleton_append] at h6
    replace h6 := hd h6
    clear h5 hf5 hx5
    go_wp2
    go_ret
    exact cl1 (fin.out _ (.iface 309 (.agg #[.string s, .iface ti ui, .iface t u])) uv5 h6.out hfC.out ⟨_, _, w2.heap.size, rfl, by omega, hz5, hi5.out.wide (Nat.le_refl _) (by omega), hx6.out⟩) rfl
set_option maxRecDepth 100000 in
set_option maxHeartbeats 2000000 in
theorem stmt_setx {s : ByteArray} {i e : Ex} (hn : LowName s) (hi : ExprOk i) (he : ExprOk e) : StmtOk (.setx s i e) := by
  intro w B bp pv L k d us uv h ht hfo hd0 hd1 R fin
  have d1 := depE_nonneg i
  have d2 := depE_nonneg e
  simp only [toksS, depS, List.length_cons, List.length_append, namesS] at ht hfo hd1 fin
  rw [show k + ((toks i).length + ((toks e).length + 1 + 1) + 1 + 1) = k + 1 + 1 + (toks i).length + 1 + 1 + (toks e).length by omega] at hfo fin
  have hs := ht.head
  replace fin := hd fin
  go_enter Tryz.func200, Tryz.ntmps200
  go_wp2_with (fail)
  refine pNext h _ ?_
  intro w1 h1 hf1
  rw [hs]
  go_wp2_with (fail)
  refine isName_yes _ s hn.pos hn.le hn.first hn.low _ ?_
  go_wp2_with (fail)
  refine setting_idx hn hi he h1 ht hfo hd0 (by omega) (by omega) _ ?_
  intro w2 v uv2 h2 hf2 hx2
  have hfA := hd (hf1.trans hf2)
  obtain ⟨vi, ve, m, rfl, m1, m2, hx3, hx4⟩ := hx2
  have hz1 := hf1.size
  replace hx3 := hd (hx3.wide hz1 (Nat.le_refl _))
  replace hx4 := hd hx4
  replace h2 := hd h2
  clear hf1 hf2
  go_wp2
  exact cl1 (fin.out _ _ uv2 h2.out hfA.out ⟨vi, ve, m, rfl, by omega, m2, hx3.out, hx4.out⟩) rfl

end Go.Proofs.YtidhiaaicmfabaaGreatDoor

/- An element of an array: its kind, its cost, its code (seat .ZD alone). -/
namespace Go.Proofs.YtidhiaaicmfabaaGreatDoor
open Go.RowKit Go.Proofs Go.Deep

set_option maxRecDepth 100000 in
set_option maxHeartbeats 2000000 in
theorem kind_idxP {vs : List Vd} {i : Ex} (hi : KindOk vs i) {bc bm lo hi' ti : Nat} {fst : Nat → Int} {bs : List Nat} {lv ui : Value} {ls : List ByteArray} {w : World} (h : Env bc bm fst vs bs lv ls w) {s : ByteArray} {v : Vd} (hv : lookV vs s = some v) (ha : v.arr = true) (hk : isNum (kE vs i) = true) (hx : ExIn (fun _ => 0) i lo hi' w (.iface ti ui)) (R : Ending → World → Prop)
    (fin : ∀ w', Kf lo hi' w w' → ExIn (kE vs) i lo hi' w' (.iface ti ui) → R (.returned (.int .u8 (v.kind : Int))) w') : Calls Tryz.prog 308 #[.agg #[.string s, .iface ti ui], .pointer (some ⟨bc, 0, none⟩)] w R := by
  obtain ⟨j, b, h1, h2, h3⟩ := look_find vs bs s v h.vars.len hv
  obtain ⟨_, hrow⟩ := h.vars.row j v b h1 h2
  obtain ⟨hm, hnm⟩ := lookV_mem vs s v hv
  have hsz : s.size ≤ maxLen := by rw [← hnm]; have := (h.names v hm).le; unfold maxLen; omega
  have c0 : w.cell? ⟨bc, 0, none⟩ = some (.map (some bm)) := h.ck.cell (i := 0) (by omega)
  have lb := h.ck.lt
  have b3 : w.cell? ⟨b, 3, none⟩ = some (.bool true) := by have := hrow.cell (i := 3) (by omega); rw [show vdF v (fst j) 3 = .bool v.arr from rfl, ha] at this; exact this
  have lbb := hrow.lt
  have ml := meth_kind hx
  have ml1 := ml.m
  have ml2 := ml.c
  have hlk : ∀ n, (Instr.lookup 90 (.map (some bm)) (.string s) false).run Tryz.prog ((w.alloc (Obj.cells #[.string s, .iface ti ui] 305)).drewN n) = .ok (.pointer (some ⟨b, 0, none⟩)) ((w.alloc (Obj.cells #[.string s, .iface ti ui] 305)).drewN n) := fun n => by
    have hnm2 : NmAt ((w.alloc (Obj.cells #[.string s, .iface ti ui] 305)).drewN n) bm vs.length (findB vs bs) := h.nm.keep (Below.heap_alloc _ _ _ h.nm.lt)
    have hl := hnm2.look s hsz
    rw [h3] at hl
    exact hl
  have b0 : ∀ n, Below w.heap.size w ((w.alloc (Obj.cells #[.string s, .iface ti ui] 305)).drewN n) := fun n => below_drewN ((Below.refl w.heap.size w).alloc (Nat.le_refl _) _) n
  have hA := hd (fun n => h.kf (lo := 0) (hi := 0) (Kf.of_below (b0 n)))
  have hxA := hd (fun n => hx.kf (lo := 0) (hi := 0) (Kf.of_below (b0 n)) (.inl (Nat.zero_le _)))
  replace b0 := hd b0
  have cL := hd (fun (W : World) => @hi bc bm lo hi' ti fst bs lv ui ls W)
  replace fin := hd fin
  replace h := hd h
  replace hx := hd hx
  replace hrow := hd hrow
  replace h1 := hd h1
  replace h2 := hd h2
  clear h3 hm hnm hv ml hi
  generalize kfn i = FL at *
  go_enter Tryz.func308, Tryz.ntmps308
  go_wp2_with (fail)
  go_quiet (fail)
  go_wp2_with (fail)
  go_quiet (first | (go_at_call 69; exact want_ok _ _ _ ⟨rfl, _, rfl⟩))
  go_wp2_with (fail)
  refine cL.out _ (hA.out _) (hxA.out _) _ ?_
  intro w1 k1 hx1
  have hA1 := (hA.out _).kf k1
  obtain ⟨_, hrow1⟩ := hA1.vars.row j v b h1.out h2.out
  have b2 : w1.cell? ⟨b, 2, none⟩ = some (.int .u8 (v.kind : Int)) := hrow1.cell (i := 2) (by omega)
  have lbb1 := hrow1.lt
  have hK := hd ((Kf.of_below (lo := lo) (hi := hi') (b0.out _)).trans k1)
  replace hx1 := hd hx1
  replace hrow1 := hd hrow1
  clear k1 hA1 hA hxA b0 hrow
  go_wp2_with (first | (go_at_call 299; refine isNumber_any _ _ _ ?_; rw [hk]) | (go_at_call 69; refine want_ok _ _ _ ?_))
  exact cl1 (fin.out _ hK.out hx1.out) rfl
theorem kind_idx {vs : List Vd} {s : ByteArray} {i : Ex} (hi : KindOk vs i) (hw : wtE vs (.idx s i) = true) : KindOk vs (.idx s i) := by
  intro bc bm lo hi' t fst bs lv u ls w h hx R fin
  obtain ⟨vi, hv, hxi⟩ := hx
  injection hv with e1 e2
  subst e1 e2
  obtain ⟨ti, ui, rfl⟩ := hxi.iface
  simp only [wtE, Bool.and_eq_true] at hw
  obtain ⟨⟨hw1, hw2⟩, hw3⟩ := hw
  cases hvv : lookV vs s with
  | none => rw [hvv] at hw1; cases hw1
  | some v =>
    rw [hvv] at hw1
    have hk : kE vs (.idx s i) = (v.kind : Int) := by simp only [kE, hvv]
    rw [hk] at fin
    exact kind_idxP hi h hvv (by simpa using hw1) hw3 hxi R (fun w' k1 hx1 => fin w' k1 ⟨_, rfl, hx1⟩)
set_option maxRecDepth 100000 in
theorem place_costx {kk : Ex → Int} {i : Ex} (hl : CostOk kk i) {lo hi ti : Nat} {ui : Value} {w : World} (s : ByteArray) (hx : ExIn kk i lo hi w (.iface ti ui)) (hh : hi ≤ w.heap.size) (hc : 1 + cE i ≤ 100000) (R : Ending → World → Prop) (fin : ∀ w', Below w.heap.size w w' → R (.returned (.int .i64 (1 + cE i))) w') :
    Calls Tryz.prog 307 #[.agg #[.string s, .iface ti ui]] w R := by
  have ml := meth_cost hx
  have ml1 := ml.m
  have ml2 := ml.c
  have pl := cE_pos i
  have cL := hd (fun (W : World) => @hl lo hi ti ui W)
  replace fin := hd fin
  replace hx := hd hx
  clear hl ml
  generalize cE i = kl at *
  generalize cfn i = FL at *
  have hL1 : kl ≤ 100000 := by omega
  have j1 : IntKind.i64.wrap (1 + kl) = 1 + kl := IntWalk.i64_in _ (by omega)
  go_enter Tryz.func307, Tryz.ntmps307
  go_wp2_with (fail)
  have b0 := hd ((Below.refl w.heap.size w).alloc (Nat.le_refl _) (Obj.cells #[.string s, .iface ti ui] 305))
  refine cL.out _ (hx.out.below b0.out hh) (Nat.le_trans hh b0.out.size) hL1 _ ?_
  intro w1 b1
  have hB := hd (b0.out.trans (b1.mono b0.out.size))
  clear b1
  go_wp2
  exact cl1 (fin.out _ hB.out) rfl
theorem cost_idx {kk : Ex → Int} {s : ByteArray} {i : Ex} (hl : CostOk kk i) : CostOk kk (.idx s i) := by
  intro lo hi t u w hx hh hc R fin
  obtain ⟨vi, hv, hxi⟩ := hx
  injection hv with e1 e2
  subst e1 e2
  obtain ⟨ti, ui, rfl⟩ := hxi.iface
  exact place_costx hl s hxi hh hc R fin
set_option maxRecDepth 100000 in
set_option maxHeartbeats 2000000 in
theorem write_idx {vs : List Vd} {s : ByteArray} {i : Ex} {v : Vd} (hv : lookV vs s = some v) (hlen : 0 ≤ v.len ∧ v.len ≤ 255) (hl : WriteOk vs i) : WriteOk vs (.idx s i) := by
  intro B bw bm lo hi t bs sp kp cv u code w h hx hc R fin
  obtain ⟨vi, hvi, hxi⟩ := hx
  injection hvi with e1 e2
  subst e1 e2
  obtain ⟨ti, ui, rfl⟩ := hxi.iface
  have ml := meth_write hxi
  have ml1 := ml.m
  have ml2 := ml.c
  obtain ⟨j, b, h1, h2, h3, h4⟩ := look_first vs bs s v 0 h.vars.len hv
  obtain ⟨hm, hnm⟩ := lookV_mem vs s v hv
  have hsz : s.size ≤ maxLen := by rw [← hnm]; have := (h.names v hm).le; unfold maxLen; omega
  have c0 : w.cell? ⟨bw, 0, none⟩ = some (.map (some bm)) := h.row.cell (i := 0) (by omega)
  have lb := h.row.lt
  have hlk : ∀ n, (Instr.lookup 90 (.map (some bm)) (.string s) false).run Tryz.prog ((w.alloc (Obj.cells #[.string s, .iface ti ui] 305)).drewN n) = .ok (.pointer (some ⟨b, 0, none⟩)) ((w.alloc (Obj.cells #[.string s, .iface ti ui] 305)).drewN n) := fun n => by
    have hnm2 : NmAt ((w.alloc (Obj.cells #[.string s, .iface ti ui] 305)).drewN n) bm vs.length (findB vs bs) := h.nm.keep (Below.heap_alloc _ _ _ h.nm.lt)
    have hl := hnm2.look s hsz
    rw [h3] at hl
    exact hl
  have elen : lenOf vs s = v.len := by unfold lenOf; rw [hv]
  simp only [codeE, elen] at fin hc
  simp only [wfn]
  have cL := hd (fun (W : World) => @hl B bw bm lo hi ti bs sp kp cv ui code W)
  have b0 : ∀ n, Below w.heap.size w ((w.alloc (Obj.cells #[.string s, .iface ti ui] 305)).drewN n) := fun n => below_drewN ((Below.refl w.heap.size w).alloc (Nat.le_refl _) _) n
  have hA := hd (fun n => h.below (b0 n))
  have hxA := hd (fun n => hxi.keep (w' := (w.alloc (Obj.cells #[.string s, .iface ti ui] 305)).drewN n) (fun b cur _ _ hc => (b0 n).block b (Array.getElem?_eq_some_iff.1 hc).1))
  replace b0 := hd b0
  replace fin := hd fin
  replace h := hd h
  replace hxi := hd hxi
  replace h1 := hd h1
  replace h2 := hd h2
  replace h4 := hd h4
  clear h3 hm hnm hv ml hl
  simp only [List.length_append, List.length_cons, List.length_nil] at hc
  generalize wfn i = FL at *
  go_enter Tryz.func309, Tryz.ntmps309
  go_wp2_with (fail)
  go_quiet (fail)
  go_wp2_with (fail)
  refine cL.out _ (hA.out _) (hxA.out _) (by omega) _ ?_
  intro w1 cv1 g1 hf1
  have hF1 := hd (Fu.pre (b0.out _) hf1)
  obtain ⟨_, hrow⟩ := g1.vars.row j v b h1.out h2.out
  have b5 : w1.cell? ⟨b, 5, none⟩ = some (.int .u8 (firstV vs 0 s)) := by
    have := hrow.cell (i := 5) (by omega)
    rw [show vdF v (fstV vs j) 5 = .int .u8 (fstV vs j) from rfl] at this
    rw [this, show fstV vs j = firstV vs 0 s from by unfold fstV; rw [← h4.out]; omega]
  have b4 : w1.cell? ⟨b, 4, none⟩ = some (.int .i64 v.len) := hrow.cell (i := 4) (by omega)
  have lbb := hrow.lt
  have jl : IntKind.u8.wrap v.len = v.len := by
    unfold IntKind.wrap
    simp only [IntKind.signed, IntKind.bits]
    simp
    omega
  generalize firstV vs 0 s = fv at *
  generalize v.len = ln at *
  replace hrow := hd hrow
  clear hf1 hA hxA b0 hlk
  have hW := hd ((g1.below (below_drewN (Below.refl _ w1) 1)).alloc (Obj.cells #[.int .u8 4, .int .u8 fv, .int .u8 ln] 5))
  have hgg : (w1.drew.alloc (Obj.cells #[.int .u8 4, .int .u8 fv, .int .u8 ln] 5)).heap[w1.heap.size]? = some (.cells (u8V [4, fv, ln]).toArray 5) := allocCells (w := w1.drew) (cur := #[.int .u8 4, .int .u8 fv, .int .u8 ln]) (T := 5) (fz := (0, 0))
  replace hgg := hd hgg
  replace g1 := hd g1
  go_wp2_with (fail)
  go_region_with (go_at_call 74; refine put_ok hW.out [4, fv, ln] w1.heap.size 3 3 rfl hgg.out (by simp only [List.length_append, List.length_cons, List.length_nil]; omega) _ ?_; intro w3 cv3 h3 hf3; replace h3 := hd h3; replace hf3 := hd hf3)
  all_goals
    have hF3 := hd (hF1.out.trans (Fu.pre ((below_drewN (Below.refl w1.heap.size w1) 1).trans (((Below.refl _ _).alloc (Nat.le_refl _) _).mono (Nat.le_refl _))) hf3.out))
    go_end0
    refine fin.out _ _ ?_ hF3.out
    have := h3.out
    simp only [List.append_assoc] at this ⊢
    exact this

end Go.Proofs.YtidhiaaicmfabaaGreatDoor

/- All expressions: read, checked, costed, written (seat .ZD alone). -/
namespace Go.Proofs.YtidhiaaicmfabaaGreatDoor
open Go.RowKit Go.Proofs Go.Deep

/-- An expression that can be read. -/
def rdE : Ex → Prop
  | .lit n => -9223372036854775808 ≤ n ∧ n ≤ 9223372036854775807
  | .tru _ => True
  | .plc s => LowName s
  | .idx s i => LowName s ∧ rdE i
  | .bin o l r => o < 9 ∧ rdE l ∧ rdE r
  | .neg e => rdE e
  | .sho e => rdE e
  | .dly t a s => LowName t ∧ rdE a ∧ rdE s
theorem expr_all : ∀ e : Ex, rdE e → ExprOk e
  | .lit _, h => expr_lit h
  | .tru _, _ => expr_tru
  | .plc _, h => expr_plc h
  | .idx _ i, h => expr_idx h.1 (expr_all i h.2)
  | .bin _ l r, h => expr_bin h.1 (expr_all l h.2.1) (expr_all r h.2.2)
  | .neg e, h => expr_neg (expr_all e h)
  | .sho e, h => expr_sho (expr_all e h)
  | .dly _ a s, h => expr_dly h.1 (expr_all a h.2.1) (expr_all s h.2.2)
theorem kind_all (vs : List Vd) : ∀ e : Ex, wtE vs e = true → KindOk vs e
  | .lit _, h => kind_lit h
  | .tru _, _ => kind_tru
  | .plc _, h => kindOk_plc h
  | .idx s i, h => by
    have hi : wtE vs i = true := by simp only [wtE, Bool.and_eq_true] at h; exact h.1.2
    exact kind_idx (kind_all vs i hi) h
  | .bin o l r, h => by
    have hi : wtE vs l = true ∧ wtE vs r = true := by simp only [wtE, Bool.and_eq_true] at h; exact ⟨h.1.1.1, h.1.1.2⟩
    exact kind_bin (kind_all vs l hi.1) (kind_all vs r hi.2) h
  | .neg e, h => by
    have hi : wtE vs e = true := by simp only [wtE, Bool.and_eq_true] at h; exact h.1
    exact kind_neg (kind_all vs e hi) h
  | .sho e, h => by
    have hi : wtE vs e = true := by simp only [wtE, Bool.and_eq_true] at h; exact h.1
    exact kind_sho (kind_all vs e hi) h
  | .dly t a s, h => by
    have hi : wtE vs a = true ∧ wtE vs s = true := by simp only [wtE, Bool.and_eq_true] at h; exact ⟨h.1.1.1.2, h.1.2⟩
    exact kind_dly (kind_all vs a hi.1) (kind_all vs s hi.2) h
theorem cost_all (kk : Ex → Int) : ∀ e : Ex, CostOk kk e
  | .lit _ => cost_lit
  | .tru _ => cost_tru
  | .plc _ => cost_plc
  | .idx _ i => cost_idx (cost_all kk i)
  | .bin _ l r => cost_bin (cost_all kk l) (cost_all kk r)
  | .neg e => cost_neg (cost_all kk e)
  | .sho e => cost_sho (cost_all kk e)
  | .dly _ a s => cost_dly (cost_all kk a) (cost_all kk s)
theorem write_all (vs : List Vd) (hv : ∀ v ∈ vs, 0 ≤ v.len ∧ v.len ≤ 255) : ∀ e : Ex, wtE vs e = true → WriteOk vs e
  | .lit _, _ => write_lit
  | .tru _, _ => write_tru
  | .plc s, h => by
    cases hl : lookV vs s with
    | none => simp only [wtE, hl] at h; cases h
    | some v => exact write_plc hl
  | .idx s i, h => by
    simp only [wtE, Bool.and_eq_true] at h
    cases hl : lookV vs s with
    | none => rw [hl] at h; cases h.1.1
    | some v => exact write_idx hl (hv v (lookV_mem _ _ _ hl).1) (write_all vs hv i h.1.2)
  | .bin o l r, h => by
    simp only [wtE, Bool.and_eq_true] at h
    exact write_bin (write_all vs hv l h.1.1.1) (write_all vs hv r h.1.1.2)
  | .neg e, h => by
    simp only [wtE, Bool.and_eq_true] at h
    exact write_neg (write_all vs hv e h.1)
  | .sho e, h => by
    simp only [wtE, Bool.and_eq_true] at h
    exact write_sho (write_all vs hv e h.1)
  | .dly t a s, h => by
    simp only [wtE, Bool.and_eq_true] at h
    cases hl : lookV vs t with
    | none => rw [hl] at h; cases h.1.1.1.1
    | some v => exact write_dly hl (write_all vs hv a h.1.1.1.2) (write_all vs hv s h.1.2)

end Go.Proofs.YtidhiaaicmfabaaGreatDoor
