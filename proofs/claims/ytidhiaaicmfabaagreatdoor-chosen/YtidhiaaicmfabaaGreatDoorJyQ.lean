/- Literals, truths, NOT, SHORT, TON, timers and arrays. -/
import Derived.Test.YtidhiaaicmfabaaGreatDoorKaA
import Derived.WalkKit
import Derived.WalkSpells
import Derived.WalkLawsBesides
import Derived.Deep.OwnRows
import Derived.BigQuiet
import Derived.Handy
import Derived.Deep.Light
import Derived.Deep.RegionHeld3
import Derived.Deep.RegionWith
import Derived.Test.YtidhiaaicmfabaaGreatDoorJyM
import Derived.Test.YtidhiaaicmfabaaGreatDoorJyL
import Derived.Test.YtidhiaaicmfabaaGreatDoorJyN
import Derived.Shelf.Strconv.ParseIntPublic10
import Derived.Test.YtidhiaaicmfabaaGreatDoorProg
import Derived.Test.YtidhiaaicmfabaaGreatDoorJyH
import Derived.Test.YtidhiaaicmfabaaGreatDoorJyI
import Derived.Defers

/- What literals, truths, NOT, SHORT and TON cost (seat .ZD alone). -/
namespace Go.Proofs.YtidhiaaicmfabaaGreatDoor
open Go.RowKit Go.Proofs Go.Deep

set_option maxRecDepth 100000 in
theorem cost_lit {kk : Ex → Int} {n : Int} : CostOk kk (.lit n) := by
  intro lo hi t u w hx hh hc R fin
  injection hx with e1 e2
  subst e1 e2
  simp only [cfn]
  simp only [cE] at fin
  replace fin := hd fin
  go_enter Tryz.func331, Tryz.ntmps331
  go_wp2
  exact cl1 (fin.out _ ((Below.refl _ w).alloc (Nat.le_refl _) _)) rfl
set_option maxRecDepth 100000 in
theorem cost_tru {kk : Ex → Int} {n : Bool} : CostOk kk (.tru n) := by
  intro lo hi t u w hx hh hc R fin
  injection hx with e1 e2
  subst e1 e2
  simp only [cfn]
  simp only [cE] at fin
  replace fin := hd fin
  go_enter Tryz.func334, Tryz.ntmps334
  go_wp2
  exact cl1 (fin.out _ ((Below.refl _ w).alloc (Nat.le_refl _) _)) rfl
set_option maxRecDepth 100000 in
theorem cost_neg {kk : Ex → Int} {e : Ex} (hl : CostOk kk e) : CostOk kk (.neg e) := by
  intro lo hi t u w hx hh hc R fin
  obtain ⟨ve, hv, hxl⟩ := hx
  injection hv with e1 e2
  subst e1 e2
  obtain ⟨tl, ul, rfl⟩ := hxl.iface
  have ml := meth_cost hxl
  have ml1 := ml.m
  have ml2 := ml.c
  simp only [cfn]
  simp only [cE] at fin hc
  have pl := cE_pos e
  have cL := hd (fun (W : World) => @hl lo hi tl ul W)
  replace fin := hd fin
  replace hxl := hd hxl
  clear hl ml
  generalize cE e = kl at *
  generalize cfn e = FL at *
  have hL1 : kl ≤ 100000 := by omega
  have j1 : IntKind.i64.wrap (1 + kl) = 1 + kl := IntWalk.i64_in _ (by omega)
  go_enter Tryz.func337, Tryz.ntmps337
  go_wp2_with (fail)
  have b0 := hd ((Below.refl w.heap.size w).alloc (Nat.le_refl _) (Obj.cells #[.iface tl ul] 335))
  refine cL.out _ (hxl.out.below b0.out hh) (Nat.le_trans hh b0.out.size) hL1 _ ?_
  intro w1 b1
  have hB := hd (b0.out.trans (b1.mono b0.out.size))
  clear b1
  go_wp2
  exact cl1 (fin.out _ hB.out) rfl
set_option maxRecDepth 100000 in
theorem cost_sho {kk : Ex → Int} {e : Ex} (hl : CostOk kk e) : CostOk kk (.sho e) := by
  intro lo hi t u w hx hh hc R fin
  obtain ⟨ve, hv, hxl⟩ := hx
  injection hv with e1 e2
  subst e1 e2
  obtain ⟨tl, ul, rfl⟩ := hxl.iface
  have ml := meth_cost hxl
  have ml1 := ml.m
  have ml2 := ml.c
  simp only [cfn]
  simp only [cE] at fin hc
  have pl := cE_pos e
  have cL := hd (fun (W : World) => @hl lo hi tl ul W)
  replace fin := hd fin
  replace hxl := hd hxl
  clear hl ml
  generalize cE e = kl at *
  generalize cfn e = FL at *
  have hL1 : kl ≤ 100000 := by omega
  have j1 : IntKind.i64.wrap (1 + kl) = 1 + kl := IntWalk.i64_in _ (by omega)
  go_enter Tryz.func340, Tryz.ntmps340
  go_wp2_with (fail)
  have b0 := hd ((Below.refl w.heap.size w).alloc (Nat.le_refl _) (Obj.cells #[.iface tl ul] 336))
  refine cL.out _ (hxl.out.below b0.out hh) (Nat.le_trans hh b0.out.size) hL1 _ ?_
  intro w1 b1
  have hB := hd (b0.out.trans (b1.mono b0.out.size))
  clear b1
  go_wp2
  exact cl1 (fin.out _ hB.out) rfl
set_option maxRecDepth 100000 in
theorem cost_dly {kk : Ex → Int} {s : ByteArray} {l r : Ex} (hl : CostOk kk l) (hr : CostOk kk r) : CostOk kk (.dly s l r) := by
  intro lo hi t u w hx hh hc R fin
  obtain ⟨vl, vr, m, hv, hlo, hhi, hxl, hxr⟩ := hx
  injection hv with e1 e2
  subst e1 e2
  obtain ⟨tl, ul, rfl⟩ := hxl.iface
  obtain ⟨tr, ur, rfl⟩ := hxr.iface
  have ml := meth_cost hxl
  have mr := meth_cost hxr
  have ml1 := ml.m
  have ml2 := ml.c
  have mr1 := mr.m
  have mr2 := mr.c
  simp only [cfn]
  simp only [cE] at fin hc
  have pl := cE_pos l
  have pr := cE_pos r
  have cL := hd (fun (W : World) => @hl lo m tl ul W)
  have cR := hd (fun (W : World) => @hr m hi tr ur W)
  replace fin := hd fin
  replace hxl := hd hxl
  replace hxr := hd hxr
  clear hl hr ml mr
  generalize cE l = kl at *
  generalize cE r = kr at *
  generalize cfn l = FL at *
  generalize cfn r = FR at *
  have hL1 : kl ≤ 100000 := by omega
  have hR1 : kr ≤ 100000 := by omega
  have hm : m ≤ w.heap.size := Nat.le_trans hhi hh
  have j1 : IntKind.i64.wrap (1 + kl) = 1 + kl := IntWalk.i64_in _ (by omega)
  have j2 : IntKind.i64.wrap (1 + kl + kr) = 1 + kl + kr := IntWalk.i64_in _ (by omega)
  go_enter Tryz.func346, Tryz.ntmps346
  go_wp2_with (fail)
  have b0 := hd ((Below.refl w.heap.size w).alloc (Nat.le_refl _) (Obj.cells #[.string s, .iface tl ul, .iface tr ur] 354))
  have q1 : (w.alloc (Obj.cells #[.string s, .iface tl ul, .iface tr ur] 354)).cell? ⟨w.heap.size, 1, none⟩ = some (.iface tl ul) := cellOf allocCells rfl
  have q2 : (w.alloc (Obj.cells #[.string s, .iface tl ul, .iface tr ur] 354)).cell? ⟨w.heap.size, 2, none⟩ = some (.iface tr ur) := cellOf allocCells rfl
  have hbw : w.heap.size < (w.alloc (Obj.cells #[.string s, .iface tl ul, .iface tr ur] 354)).heap.size := by simp
  have hxl0 := hd (hxl.out.below b0.out hm)
  have hxr0 := hd (hxr.out.below b0.out hh)
  have hm0 : m ≤ (w.alloc (Obj.cells #[.string s, .iface tl ul, .iface tr ur] 354)).heap.size := Nat.le_trans hm b0.out.size
  have hh0 : hi ≤ (w.alloc (Obj.cells #[.string s, .iface tl ul, .iface tr ur] 354)).heap.size := Nat.le_trans hh b0.out.size
  generalize w.alloc (Obj.cells #[.string s, .iface tl ul, .iface tr ur] 354) = W0 at *
  generalize w.heap.size = b at *
  go_region_held3 (fun w' => w'.cell? ⟨b, 1, none⟩ = some (.iface tl ul) ∧ w'.cell? ⟨b, 2, none⟩ = some (.iface tr ur)) (first | exact ⟨(b1.out.cell (p := ⟨b, 1, none⟩) hbw).trans q1, (b1.out.cell (p := ⟨b, 2, none⟩) hbw).trans q2⟩ | exact ⟨(b2.out.cell (p := ⟨b, 1, none⟩) (Nat.lt_of_lt_of_le hbw b1.out.size)).trans ((b1.out.cell (p := ⟨b, 1, none⟩) hbw).trans q1), (b2.out.cell (p := ⟨b, 2, none⟩) (Nat.lt_of_lt_of_le hbw b1.out.size)).trans ((b1.out.cell (p := ⟨b, 2, none⟩) hbw).trans q2)⟩ | go_keep)
    (first
      | (refine cL.out _ (by exact hxl0.out.drew) (by exact hm0) hL1 _ ?_; intro w1 b1; replace b1 := hd b1)
      | (refine cR.out _ (by exact hxr0.out.drew.below b1.out hh0) (by exact Nat.le_trans hh0 b1.out.size) hR1 _ ?_; intro w2 b2; replace b2 := hd b2))
  have hB := hd (show Below b w w2 from b0.out.trans ((below_drewN (Below.refl _ W0) 1 |>.trans (b1.out.trans (b2.out.mono b1.out.size))).mono (Nat.le_of_lt hbw)))
  go_wp2
  first | exact cl1 (fin.out _ hB.out) rfl | (go_ret; exact cl1 (fin.out _ hB.out) rfl)

end Go.Proofs.YtidhiaaicmfabaaGreatDoor

/- Kinds of literals, truths, NOT, SHORT and TON (seat .ZD alone). -/
namespace Go.Proofs.YtidhiaaicmfabaaGreatDoor
open Go.RowKit Go.Proofs Go.Deep

/-- Whether a number is one of a kind. -/
def inI (n : Int) : Bool := decide (-32768 ≤ n) && decide (n ≤ 32767)
def inD (n : Int) : Bool := decide (-2147483648 ≤ n) && decide (n ≤ 2147483647)
theorem wrapI (n : Int) : (wrap64 (IntKind.i16.wrap n) == n) = inI n := by
  have e : IntKind.i16.wrap n = if n % 65536 ≥ 32768 then n % 65536 - 65536 else n % 65536 := by
    simp [IntKind.wrap, IntKind.signed, IntKind.bits]
  have h : wrap64 (IntKind.i16.wrap n) = IntKind.i16.wrap n := by
    rw [e]
    unfold wrap64
    split <;> omega
  rw [h, e, Bool.eq_iff_iff]
  simp only [inI, beq_iff_eq, Bool.and_eq_true, decide_eq_true_eq]
  split <;> omega
theorem wrapD (n : Int) : (wrap64 (wrap32 n) == n) = inD n := by
  rw [Bool.eq_iff_iff]
  simp only [inD, beq_iff_eq, Bool.and_eq_true, decide_eq_true_eq]
  unfold wrap64 wrap32
  omega
set_option maxRecDepth 100000 in
theorem holds_int (w : World) (n : Int) (R : Ending → World → Prop) (fin : R (.returned (.bool (inI n))) w) : Calls Tryz.prog 322 #[.int .u8 1, .int .i64 n] w R := by
  replace fin := hd fin
  have hw := hd (wrapI n)
  go_enter Tryz.func322, Tryz.ntmps322
  go_wp2
  refine cl1 fin.out ?_
  show Value.bool _ = Value.bool _
  rw [← hw.out]
set_option maxRecDepth 100000 in
theorem holds_dint (w : World) (n : Int) (hD : inD n = true) (R : Ending → World → Prop) (fin : R (.returned (.bool true)) w) : Calls Tryz.prog 322 #[.int .u8 2, .int .i64 n] w R := by
  replace fin := hd fin
  have hw := hd ((wrapD n).trans hD)
  clear hD
  go_enter Tryz.func322, Tryz.ntmps322
  go_wp2
  refine cl1 fin.out ?_
  show Value.bool _ = Value.bool _
  rw [← hw.out]
set_option maxRecDepth 100000 in
theorem kind_lit {vs : List Vd} {n : Int} (hw : wtE vs (.lit n) = true) : KindOk vs (.lit n) := by
  intro bc bm lo hi t fst bs lv u ls w h hx R fin
  injection hx with e1 e2
  subst e1 e2
  have hD : inD n = true := hw
  have hk : kE vs (.lit n) = if inI n = true then 1 else 2 := by
    simp only [kE, inI, Bool.and_eq_true, decide_eq_true_eq]
  rw [hk] at fin
  simp only [kfn]
  have b0 := hd ((Below.refl w.heap.size w).alloc (Nat.le_refl _) (Obj.cells #[.int .i64 n] 331))
  have fin2 := hd (fun W hb => fin W (Kf.of_below hb) rfl)
  clear fin h
  by_cases hi : inI n = true
  · rw [if_pos hi] at fin2
    go_enter Tryz.func332, Tryz.ntmps332
    go_wp2_with (first | (go_at_call 322; refine holds_int _ _ _ ?_; rw [hi]))
    exact cl1 (fin2.out _ b0.out) rfl
  · rw [if_neg hi] at fin2
    have hi' : inI n = false := by simpa using hi
    go_enter Tryz.func332, Tryz.ntmps332
    go_wp2_with (fail)
    refine holds_int _ _ _ ?_
    rw [hi']
    go_wp2_with (fail)
    refine holds_dint _ _ hD _ ?_
    go_wp2_with (first | (go_at_call 69; refine want_ok _ _ _ ?_))
    exact cl1 (fin2.out _ b0.out) rfl
set_option maxRecDepth 100000 in
theorem kind_tru {vs : List Vd} {n : Bool} : KindOk vs (.tru n) := by
  intro bc bm lo hi t fst bs lv u ls w h hx R fin
  injection hx with e1 e2
  subst e1 e2
  simp only [kfn]
  simp only [kE] at fin
  have fin2 := hd (fun W hb => fin W (Kf.of_below hb) rfl)
  clear fin h
  go_enter Tryz.func335, Tryz.ntmps335
  go_wp2
  exact cl1 (fin2.out _ ((Below.refl _ w).alloc (Nat.le_refl _) _)) rfl
set_option maxRecDepth 100000 in
set_option maxHeartbeats 2000000 in
theorem kind_neg {vs : List Vd} {e : Ex} (hl : KindOk vs e) (hw : wtE vs (.neg e) = true) : KindOk vs (.neg e) := by
  intro bc bm lo hi t fst bs lv u ls w h hx R fin
  obtain ⟨ve, hv, hxl⟩ := hx
  injection hv with e1 e2
  subst e1 e2
  obtain ⟨tl, ul, rfl⟩ := hxl.iface
  have ml := meth_kind hxl
  have ml1 := ml.m
  have ml2 := ml.c
  simp only [wtE, Bool.and_eq_true, beq_iff_eq] at hw
  have hk := hw.2
  simp only [kfn]
  have hend : ∀ W, Kf lo hi w W → ExIn (kE vs) e lo hi W (.iface tl ul) → R (.returned (.int .u8 0)) W := fun W h1 h2 => fin W h1 ⟨_, rfl, h2⟩
  replace hend := hd hend
  have cL := hd (fun (W : World) => @hl bc bm lo hi tl fst bs lv ul ls W)
  rw [hk] at cL
  clear fin hl ml hw hk
  generalize kfn e = FL at *
  have b0 := hd ((Below.refl w.heap.size w).alloc (Nat.le_refl _) (Obj.cells #[.iface tl ul] 335))
  have hA := hd (h.kf (lo := 0) (hi := 0) (Kf.of_below b0.out))
  have hxA := hd (hxl.kf (lo := 0) (hi := 0) (Kf.of_below b0.out) (.inl (Nat.zero_le _)))
  replace h := hd h
  replace hxl := hd hxl
  go_enter Tryz.func338, Tryz.ntmps338
  go_wp2_with (fail)
  generalize w.alloc (Obj.cells #[.iface tl ul] 335) = Z at *
  refine cL.out _ hA.out hxA.out _ ?_
  intro w1 k1 hx1
  have hK := hd ((Kf.of_below (lo := lo) (hi := hi) b0.out).trans k1)
  replace hx1 := hd hx1
  clear k1
  go_wp2_with (first | (go_at_call 69; refine want_ok _ _ _ ?_))
  exact cl1 (hend.out _ hK.out hx1.out) rfl
set_option maxRecDepth 100000 in
set_option maxHeartbeats 2000000 in
theorem kind_sho {vs : List Vd} {e : Ex} (hl : KindOk vs e) (hw : wtE vs (.sho e) = true) : KindOk vs (.sho e) := by
  intro bc bm lo hi t fst bs lv u ls w h hx R fin
  obtain ⟨ve, hv, hxl⟩ := hx
  injection hv with e1 e2
  subst e1 e2
  obtain ⟨tl, ul, rfl⟩ := hxl.iface
  have ml := meth_kind hxl
  have ml1 := ml.m
  have ml2 := ml.c
  simp only [wtE, Bool.and_eq_true] at hw
  have hk := hw.2
  simp only [kfn]
  have hend : ∀ W, Kf lo hi w W → ExIn (kE vs) e lo hi W (.iface tl ul) → R (.returned (.int .u8 1)) W := fun W h1 h2 => fin W h1 ⟨_, rfl, h2⟩
  replace hend := hd hend
  have cL := hd (fun (W : World) => @hl bc bm lo hi tl fst bs lv ul ls W)
  clear fin hl ml hw
  generalize kE vs e = kk at *
  generalize kfn e = FL at *
  have b0 := hd ((Below.refl w.heap.size w).alloc (Nat.le_refl _) (Obj.cells #[.iface tl ul] 336))
  have hA := hd (h.kf (lo := 0) (hi := 0) (Kf.of_below b0.out))
  have hxA := hd (hxl.kf (lo := 0) (hi := 0) (Kf.of_below b0.out) (.inl (Nat.zero_le _)))
  replace h := hd h
  replace hxl := hd hxl
  go_enter Tryz.func341, Tryz.ntmps341
  go_wp2_with (fail)
  generalize w.alloc (Obj.cells #[.iface tl ul] 336) = Z at *
  refine cL.out _ hA.out hxA.out _ ?_
  intro w1 k1 hx1
  have hK := hd ((Kf.of_below (lo := lo) (hi := hi) b0.out).trans k1)
  replace hx1 := hd hx1
  clear k1
  go_wp2_with (first | (go_at_call 299; refine isNumber_any _ _ _ ?_; rw [hk]) | (go_at_call 69; refine want_ok _ _ _ ?_))
  exact cl1 (hend.out _ hK.out hx1.out) rfl
set_option maxRecDepth 100000 in
set_option maxHeartbeats 4000000 in
theorem kind_dly {vs : List Vd} {s : ByteArray} {l r : Ex} (hl : KindOk vs l) (hr : KindOk vs r) (hw : wtE vs (.dly s l r) = true) : KindOk vs (.dly s l r) := by
  intro bc bm lo hi t fst bs lv u ls w h hx R fin
  obtain ⟨vl, vr, m, hv, hlo, hhi, hxl, hxr⟩ := hx
  injection hv with e1 e2
  subst e1 e2
  obtain ⟨tl, ul, rfl⟩ := hxl.iface
  obtain ⟨tr, ur, rfl⟩ := hxr.iface
  have ml := meth_kind hxl
  have mr := meth_kind hxr
  have ml1 := ml.m
  have ml2 := ml.c
  have mr1 := mr.m
  have mr2 := mr.c
  simp only [wtE, Bool.and_eq_true, beq_iff_eq] at hw
  obtain ⟨⟨⟨⟨hw1, hw2⟩, hw3⟩, hw4⟩, hw5⟩ := hw
  cases hvv : lookV vs s with
  | none => rw [hvv] at hw1; cases hw1
  | some v =>
  rw [hvv] at hw1
  have hvk : v.kind = 3 := by simpa using hw1
  obtain ⟨i, b, h1, h2, h3⟩ := look_find vs bs s v h.vars.len hvv
  obtain ⟨_, hrow⟩ := h.vars.row i v b h1 h2
  obtain ⟨hm, hnm⟩ := lookV_mem vs s v hvv
  have hsz : s.size ≤ maxLen := by rw [← hnm]; have := (h.names v hm).le; unfold maxLen; omega
  have k0 : w.cell? ⟨bc, 0, none⟩ = some (.map (some bm)) := h.ck.cell (i := 0) (by omega)
  have lb := h.ck.lt
  have b2 : w.cell? ⟨b, 2, none⟩ = some (.int .u8 3) := by have := hrow.cell (i := 2) (by omega); rw [show vdF v (fst i) 2 = .int .u8 (v.kind : Int) from rfl, hvk] at this; exact this
  have lbb := hrow.lt
  have hlk : ∀ n, (Instr.lookup 90 (.map (some bm)) (.string s) false).run Tryz.prog ((w.alloc (Obj.cells #[.string s, .iface tl ul, .iface tr ur] 354)).drewN n) = .ok (.pointer (some ⟨b, 0, none⟩)) ((w.alloc (Obj.cells #[.string s, .iface tl ul, .iface tr ur] 354)).drewN n) := fun n => by
    have hnm2 : NmAt ((w.alloc (Obj.cells #[.string s, .iface tl ul, .iface tr ur] 354)).drewN n) bm vs.length (findB vs bs) := h.nm.keep (Below.heap_alloc _ _ _ h.nm.lt)
    have hl := hnm2.look s hsz
    rw [h3] at hl
    exact hl
  simp only [kfn]
  have hend : ∀ W, Kf lo hi w W → ExIn (kE vs) l lo m W (.iface tl ul) → ExIn (kE vs) r m hi W (.iface tr ur) → R (.returned (.int .u8 0)) W := fun W h1 h2 h3 => fin W h1 ⟨_, _, m, rfl, hlo, hhi, h2, h3⟩
  replace hend := hd hend
  have cL := hd (fun (W : World) => @hl bc bm lo m tl fst bs lv ul ls W)
  have cR := hd (fun (W : World) => @hr bc bm m hi tr fst bs lv ur ls W)
  rw [hw3] at cL
  clear hl hr ml mr hw1 hw2 hw3 hw4 fin h1 h2 h3 hm hnm hvv
  generalize kE vs r = kr at *
  generalize kfn l = FL at *
  generalize kfn r = FR at *
  have b0 := hd ((Below.refl w.heap.size w).alloc (Nat.le_refl _) (Obj.cells #[.string s, .iface tl ul, .iface tr ur] 354))
  replace h := hd h
  replace hxl := hd hxl
  replace hxr := hd hxr
  replace hrow := hd hrow
  have hnewb : (w.alloc (Obj.cells #[.string s, .iface tl ul, .iface tr ur] 354)).heap[w.heap.size]? = some (.cells #[.string s, .iface tl ul, .iface tr ur] 354) := allocCells
  replace hnewb := hd hnewb
  go_enter Tryz.func347, Tryz.ntmps347
  go_wp2_with (fail)
  go_quiet (first | (go_at_call 69; exact want_ok _ _ _ ⟨rfl, _, rfl⟩))
  go_wp2_with (fail)
  have hb1 := hd (below_drewN b0.out nq)
  have hA := hd (h.out.kf (lo := 0) (hi := 0) (Kf.of_below hb1.out))
  have hxA := hd (hxl.out.kf (lo := 0) (hi := 0) (Kf.of_below hb1.out) (.inl (Nat.zero_le _)))
  have hxB := hd (hxr.out.kf (lo := 0) (hi := 0) (Kf.of_below hb1.out) (.inl (Nat.zero_le _)))
  have hnb : ((w.alloc (Obj.cells #[.string s, .iface tl ul, .iface tr ur] 354)).drewN nq).heap[w.heap.size]? = some (.cells #[.string s, .iface tl ul, .iface tr ur] 354) := hnewb.out
  replace hnb := hd hnb
  clear hlk k0 b2
  generalize (w.alloc (Obj.cells #[.string s, .iface tl ul, .iface tr ur] 354)).drewN nq = Z at *
  refine cL.out _ hA.out hxA.out _ ?_
  intro w1 k1 hx1
  have hnb1 := (k1.tag hnb.out (by decide)).trans hnb.out
  have q2 : w1.cell? ⟨w.heap.size, 2, none⟩ = some (.iface tr ur) := cellOf (i := 2) hnb1 rfl
  have hA1 := hd (hA.out.kf k1)
  have hxB1 := hd (hxB.out.kf k1 (.inl (Nat.le_refl _)))
  have hK1 := hd ((Kf.of_below (lo := lo) (hi := m) hb1.out).trans k1)
  replace hx1 := hd hx1
  clear k1 hnb1
  go_wp2_with (first | (go_at_call 69; refine want_ok _ _ _ ?_))
  refine cR.out _ hA1.out hxB1.out _ ?_
  intro w2 k2 hx2
  have hxA2 := hd (hx1.out.kf k2 (.inr (Nat.le_refl _)))
  have hK2 := hd ((hK1.out.wide (Nat.le_refl _) hhi).trans (k2.wide hlo (Nat.le_refl _)))
  replace hx2 := hd hx2
  clear k2 q2
  go_wp2_with (first | (go_at_call 299; refine isNumber_any _ _ _ ?_; rw [hw5]) | (go_at_call 69; refine want_ok _ _ _ ?_))
  exact cl1 (hend.out _ hK2.out hxA2.out hx2.out) rfl

end Go.Proofs.YtidhiaaicmfabaaGreatDoor

/- The code of literals, truths, NOT, SHORT and TON (seat .ZD alone). -/
namespace Go.Proofs.YtidhiaaicmfabaaGreatDoor
open Go.RowKit Go.Proofs Go.Deep

set_option maxRecDepth 100000 in
set_option maxHeartbeats 2000000 in
theorem number_ok {vs : List Vd} {B bw bm : Nat} {bs : List Nat} {sp : Int} {kp : Bool} {cv : Value} {code : List Int} {w : World} (h : Wr B bw bm (fstV vs) vs bs sp kp cv code w) (n : Int) (hc : code.length + 5 ≤ 1000000)
    (R : Ending → World → Prop) (fin : ∀ w' cv', Wr B bw bm (fstV vs) vs bs sp kp cv' (code ++ numB n) w' → Fu bw cv cv' w w' → R (.returned (.tuple #[])) w') : Calls Tryz.prog 324 #[.pointer (some ⟨bw, 0, none⟩), .int .i64 n] w R := by
  replace fin := hd fin
  replace h := hd h
  go_enter Tryz.func324, Tryz.ntmps324
  go_wp2_with (fail)
  refine put_ok (h.out.alloc _) (numB n) w.heap.size 5 5 rfl allocCells hc _ ?_
  intro w3 cv3 h3 hf3
  have hF3 := hd (Fu.pre ((Below.refl _ w).alloc (Nat.le_refl _) _) hf3)
  replace h3 := hd h3
  clear hf3
  go_wp2
  go_end0
  exact fin.out _ _ h3.out hF3.out
set_option maxRecDepth 100000 in
theorem write_lit {vs : List Vd} {n : Int} : WriteOk vs (.lit n) := by
  intro B bw bm lo hi t bs sp kp cv u code w h hx hc R fin
  injection hx with e1 e2
  subst e1 e2
  simp only [codeE] at fin hc
  simp only [wfn]
  have hc5 : code.length + 5 ≤ 1000000 := hc
  replace fin := hd fin
  replace h := hd h
  clear hc
  go_enter Tryz.func333, Tryz.ntmps333
  go_wp2_with (fail)
  refine number_ok (h.out.alloc _) n hc5 _ ?_
  intro w3 cv3 h3 hf3
  have hF3 := hd (Fu.pre ((Below.refl _ w).alloc (Nat.le_refl _) _) hf3)
  replace h3 := hd h3
  clear hf3
  go_wp2
  go_end0
  exact fin.out _ _ h3.out hF3.out
set_option maxRecDepth 100000 in
theorem write_tru {vs : List Vd} {n : Bool} : WriteOk vs (.tru n) := by
  intro B bw bm lo hi t bs sp kp cv u code w h hx hc R fin
  injection hx with e1 e2
  subst e1 e2
  simp only [codeE] at fin hc
  simp only [wfn]
  have hc5 : code.length + 5 ≤ 1000000 := hc
  replace fin := hd fin
  replace h := hd h
  clear hc
  cases n
  all_goals
    go_enter Tryz.func336, Tryz.ntmps336
    go_wp2_with (fail)
    refine number_ok (h.out.alloc _) _ hc5 _ ?_
    intro w3 cv3 h3 hf3
    have hF3 := hd (Fu.pre ((Below.refl _ w).alloc (Nat.le_refl _) _) hf3)
    replace h3 := hd h3
    clear hf3
    go_wp2
    go_end0
    exact fin.out _ _ h3.out hF3.out
set_option maxRecDepth 100000 in
set_option maxHeartbeats 2000000 in
theorem write_neg {vs : List Vd} {e : Ex} (hl : WriteOk vs e) : WriteOk vs (.neg e) := by
  intro B bw bm lo hi t bs sp kp cv u code w h hx hc R fin
  obtain ⟨vl, hv, hxl⟩ := hx
  injection hv with e1 e2
  subst e1 e2
  obtain ⟨tl, ul, rfl⟩ := hxl.iface
  have ml := meth_write hxl
  have ml1 := ml.m
  have ml2 := ml.c
  simp only [codeE] at fin hc
  simp only [wfn]
  have cL := hd (fun (W : World) => @hl B bw bm lo hi tl bs sp kp cv ul code W)
  replace fin := hd fin
  clear hl ml
  simp only [List.length_append, List.length_cons, List.length_nil] at hc
  generalize wfn e = FL at *
  have b0 := hd ((Below.refl w.heap.size w).alloc (Nat.le_refl _) (Obj.cells #[.iface tl ul] 335))
  have hA := hd (h.below b0.out)
  have hxA := hd (hxl.keep (w' := w.alloc (Obj.cells #[.iface tl ul] 335)) (fun b cur _ _ hc => b0.out.block b (Array.getElem?_eq_some_iff.1 hc).1))
  replace h := hd h
  replace hxl := hd hxl
  go_enter Tryz.func339, Tryz.ntmps339
  go_wp2_with (fail)
  refine cL.out _ hA.out hxA.out (by omega) _ ?_
  intro w1 cv1 h1 hf1
  have hF1 := hd (Fu.pre b0.out hf1)
  clear hf1
  go_wp2_with (fail)
  have hgg : (w1.alloc (Obj.cells #[.int .u8 13] 5)).heap[w1.heap.size]? = some (.cells (u8V [13]).toArray 5) := allocCells
  refine put_ok (h1.alloc _) [13] w1.heap.size 1 1 rfl hgg (by simp only [List.length_append, List.length_cons, List.length_nil]; omega) _ ?_
  intro w3 cv3 h3 hf3
  have hF3 := hd (hF1.out.trans (Fu.pre ((Below.refl _ w1).alloc (Nat.le_refl _) _) hf3))
  replace h3 := hd h3
  clear hf3 hgg
  go_wp2
  go_end0
  refine fin.out _ _ ?_ hF3.out
  have := h3.out
  simp only [List.append_assoc] at this ⊢
  exact this
set_option maxRecDepth 100000 in
set_option maxHeartbeats 2000000 in
theorem write_sho {vs : List Vd} {e : Ex} (hl : WriteOk vs e) : WriteOk vs (.sho e) := by
  intro B bw bm lo hi t bs sp kp cv u code w h hx hc R fin
  obtain ⟨vl, hv, hxl⟩ := hx
  injection hv with e1 e2
  subst e1 e2
  obtain ⟨tl, ul, rfl⟩ := hxl.iface
  have ml := meth_write hxl
  have ml1 := ml.m
  have ml2 := ml.c
  simp only [codeE] at fin hc
  simp only [wfn]
  have cL := hd (fun (W : World) => @hl B bw bm lo hi tl bs sp kp cv ul code W)
  replace fin := hd fin
  clear hl ml
  simp only [List.length_append, List.length_cons, List.length_nil] at hc
  generalize wfn e = FL at *
  have b0 := hd ((Below.refl w.heap.size w).alloc (Nat.le_refl _) (Obj.cells #[.iface tl ul] 336))
  have hA := hd (h.below b0.out)
  have hxA := hd (hxl.keep (w' := w.alloc (Obj.cells #[.iface tl ul] 336)) (fun b cur _ _ hc => b0.out.block b (Array.getElem?_eq_some_iff.1 hc).1))
  replace h := hd h
  replace hxl := hd hxl
  go_enter Tryz.func342, Tryz.ntmps342
  go_wp2_with (fail)
  refine cL.out _ hA.out hxA.out (by omega) _ ?_
  intro w1 cv1 h1 hf1
  have hF1 := hd (Fu.pre b0.out hf1)
  clear hf1
  go_wp2_with (fail)
  have hgg : (w1.alloc (Obj.cells #[.int .u8 16] 5)).heap[w1.heap.size]? = some (.cells (u8V [16]).toArray 5) := allocCells
  refine put_ok (h1.alloc _) [16] w1.heap.size 1 1 rfl hgg (by simp only [List.length_append, List.length_cons, List.length_nil]; omega) _ ?_
  intro w3 cv3 h3 hf3
  have hF3 := hd (hF1.out.trans (Fu.pre ((Below.refl _ w1).alloc (Nat.le_refl _) _) hf3))
  replace h3 := hd h3
  clear hf3 hgg
  go_wp2
  go_end0
  refine fin.out _ _ ?_ hF3.out
  have := h3.out
  simp only [List.append_assoc] at this ⊢
  exact this
set_option maxRecDepth 100000 in
set_option maxHeartbeats 4000000 in
theorem write_dly {vs : List Vd} {s : ByteArray} {l r : Ex} {v : Vd} (hvv : lookV vs s = some v) (hl : WriteOk vs l) (hr : WriteOk vs r) : WriteOk vs (.dly s l r) := by
  intro B bw bm lo hi t bs sp kp cv u code w h hx hc R fin
  obtain ⟨vl, vr, m, hv, hlo, hhi, hxl, hxr⟩ := hx
  injection hv with e1 e2
  subst e1 e2
  obtain ⟨tl, ul, rfl⟩ := hxl.iface
  obtain ⟨tr, ur, rfl⟩ := hxr.iface
  have ml := meth_write hxl
  have mr := meth_write hxr
  have ml1 := ml.m
  have ml2 := ml.c
  have mr1 := mr.m
  have mr2 := mr.c
  obtain ⟨i, b, h1, h2, h3, h4⟩ := look_first vs bs s v 0 h.vars.len hvv
  obtain ⟨hm, hnm⟩ := lookV_mem vs s v hvv
  have hsz : s.size ≤ maxLen := by rw [← hnm]; have := (h.names v hm).le; unfold maxLen; omega
  simp only [codeE] at fin hc
  simp only [wfn]
  have cL := hd (fun (W : World) => @hl B bw bm lo m tl bs sp kp cv ul code W)
  have cR := hd (fun (CV : Value) (W : World) => @hr B bw bm m hi tr bs sp kp CV ur (code ++ codeE vs l) W)
  replace fin := hd fin
  clear hl hr ml mr hm hnm hvv
  simp only [List.length_append, List.length_cons, List.length_nil] at hc
  generalize wfn l = FL at *
  generalize wfn r = FR at *
  have b0 := hd ((Below.refl w.heap.size w).alloc (Nat.le_refl _) (Obj.cells #[.string s, .iface tl ul, .iface tr ur] 354))
  have hA := hd (h.below b0.out)
  have hxA := hd (hxl.keep (w' := w.alloc (Obj.cells #[.string s, .iface tl ul, .iface tr ur] 354)) (fun b cur _ _ hc => b0.out.block b (Array.getElem?_eq_some_iff.1 hc).1))
  have hxB := hd (hxr.keep (w' := w.alloc (Obj.cells #[.string s, .iface tl ul, .iface tr ur] 354)) (fun b cur _ _ hc => b0.out.block b (Array.getElem?_eq_some_iff.1 hc).1))
  have hnb : (w.alloc (Obj.cells #[.string s, .iface tl ul, .iface tr ur] 354)).heap[w.heap.size]? = some (.cells #[.string s, .iface tl ul, .iface tr ur] 354) := allocCells
  replace hnb := hd hnb
  replace h := hd h
  replace hxl := hd hxl
  replace hxr := hd hxr
  replace h1 := hd h1
  replace h2 := hd h2
  replace h3 := hd h3
  replace h4 := hd h4
  go_enter Tryz.func348, Tryz.ntmps348
  go_wp2_with (fail)
  generalize w.alloc (Obj.cells #[.string s, .iface tl ul, .iface tr ur] 354) = Z at *
  refine cL.out _ hA.out hxA.out (by omega) _ ?_
  intro w1 cv1 g1 hf1
  have hnb1 := hd (hA.out.tag hf1 hnb.out (by decide) (by decide))
  have hxB1 := hd (hA.out.exIn hf1 hxB.out)
  have hF1 := hd (Fu.pre b0.out hf1)
  have q2 : w1.cell? ⟨w.heap.size, 2, none⟩ = some (.iface tr ur) := cellOf (i := 2) hnb1.out rfl
  replace g1 := hd g1
  clear hf1
  go_wp2_with (fail)
  refine cR.out _ _ g1.out hxB1.out (by rw [List.length_append]; omega) _ ?_
  intro w2 cv2 g2 hf2
  have hnb2 := hd (g1.out.tag hf2 hnb1.out (by decide) (by decide))
  have hF2 := hd (hF1.out.trans hf2)
  clear hf2 q2
  have q0 : w2.cell? ⟨w.heap.size, 0, none⟩ = some (.string s) := cellOf (i := 0) hnb2.out rfl
  have lz : w.heap.size < w2.heap.size := (Array.getElem?_eq_some_iff.1 hnb2.out).1
  obtain ⟨_, hrow⟩ := g2.vars.row i v b h1.out h2.out
  have c0 : w2.cell? ⟨bw, 0, none⟩ = some (.map (some bm)) := g2.row.cell (i := 0) (by omega)
  have lb := g2.row.lt
  have b5 : w2.cell? ⟨b, 5, none⟩ = some (.int .u8 (firstV vs 0 s)) := by
    have := hrow.cell (i := 5) (by omega)
    rw [show vdF v (fstV vs i) 5 = .int .u8 (fstV vs i) from rfl] at this
    rw [this, show fstV vs i = firstV vs 0 s from by unfold fstV; rw [← h4.out]; omega]
  have lbb := hrow.lt
  have hlk : ∀ n, (Instr.lookup 90 (.map (some bm)) (.string s) false).run Tryz.prog (w2.drewN n) = .ok (.pointer (some ⟨b, 0, none⟩)) (w2.drewN n) := fun n => by
    have hnm2 : NmAt (w2.drewN n) bm vs.length (findB vs bs) := g2.nm
    have hl := hnm2.look s hsz
    rw [h3.out] at hl
    exact hl
  have hlk1 : (Instr.lookup 90 (.map (some bm)) (.string s) false).run Tryz.prog w2.drew = .ok (.pointer (some ⟨b, 0, none⟩)) w2.drew := hlk 1
  generalize firstV vs 0 s = fv at *
  replace hrow := hd hrow
  generalize hzz : w.heap.size = z at *
  replace hzz := hd hzz
  go_wp2_with (fail)
  have hW := hd ((g2.below (below_drewN (Below.refl _ w2) 1)).alloc (Obj.cells #[.int .u8 21, .int .u8 fv] 5))
  have hgg : (w2.drew.alloc (Obj.cells #[.int .u8 21, .int .u8 fv] 5)).heap[w2.heap.size]? = some (.cells (u8V [21, fv]).toArray 5) := allocCells (w := w2.drew) (cur := #[.int .u8 21, .int .u8 fv]) (T := 5) (fz := (0, 0))
  replace hgg := hd hgg
  have hcc : (code ++ codeE vs l ++ codeE vs r).length + 2 ≤ 1000000 := by simp only [List.length_append]; omega
  have hbE : w2.heap[b]? = (w2.drew.alloc (Obj.cells #[.int .u8 21, .int .u8 fv] 5)).heap[b]? := (Below.heap_alloc w2.drew _ _ lbb).symm
  obtain ⟨curb, hcb, hcs, hcf⟩ := hrow.out
  have hzz2 : (w2.drew.alloc (Obj.cells #[.int .u8 21, .int .u8 fv] 5)).heap[z]? = some (.cells #[.string s, .iface tl ul, .iface tr ur] 354) := (Below.heap_alloc w2.drew _ _ lz).trans hnb2.out
  have hS : ∀ (w3 : World) (cv3 : Value) (cc : List Int), Wr B bw bm (fstV vs) vs bs sp kp cv3 cc w3 → Fu bw cv2 cv3 (w2.drew.alloc (Obj.cells #[.int .u8 21, .int .u8 fv] 5)) w3 → w3.cell? ⟨bw, 0, none⟩ = some (.map (some bm)) ∧ w3.cell? ⟨z, 0, none⟩ = some (.string s) ∧ w3.cell? ⟨b, 5, none⟩ = some (.int .u8 fv) := fun w3 cv3 cc hh hf => by
    refine ⟨hh.row.cell (i := 0) (by omega), cellOf (i := 0) (hW.out.tag hf hzz2 (by decide) (by decide)) rfl, ?_⟩
    have e1 := (hW.out.tag hf (hbE.symm.trans hcb) (by decide) (by decide)).trans hcb.symm
    rw [World.cell?_of_block (w := w2) (a := ⟨b, 5, none⟩) e1]
    exact b5
  replace hS := hd hS
  clear hbE hcb hcs hcf hzz2
  go_region_held3 (fun w' => w'.cell? ⟨bw, 0, none⟩ = some (.map (some bm)) ∧ w'.cell? ⟨z, 0, none⟩ = some (.string s) ∧ w'.cell? ⟨b, 5, none⟩ = some (.int .u8 fv)) (first | exact hS.out _ _ _ h3z.out hf3.out | go_keep)
    (first
      | (go_at_call 74; refine put_ok (by exact hW.out) [21, fv] w2.heap.size 2 2 rfl (by exact hgg.out) hcc _ ?_; intro w3 cv3 h3z hf3; replace h3z := hd h3z; replace hf3 := hd hf3))
  have hF3 := hd (hF2.out.trans ((Fu.pre (below_drewN (Below.refl _ w2) 1)) (Fu.pre ((Below.refl _ w2.drew).alloc (Nat.le_refl _) _) hf3.out)))
  go_wp2
  go_end0
  refine fin.out _ _ ?_ hF3.out
  have := h3z.out
  simp only [List.append_assoc] at this ⊢
  exact this

end Go.Proofs.YtidhiaaicmfabaaGreatDoor

/- strconv.ParseInt at base 10, laid at this program (what the shelf's command prints in its plain mode; seat .ZD alone). -/
namespace Go.Proofs
open Go.Shelf
def Tryz.laysC174_ren : Go.Shelf.Ren := ⟨fun | 174 => 222 | 247 => 230 | 245 => 231 | 287 => 243 | 279 => 244 | 280 => 245 | 281 => 246 | 282 => 247 | 321 => 257 | 322 => 258 | 316 => 259 | 171 => 261 | 205 => 260 | 243 => 267 | 246 => 271 | 283 => 272 | 284 => 273 | 285 => 274 | 286 => 275 | 129 => 277 | 317 => 276 | 318 => 278 | 319 => 279 | 320 => 280 | 337 => 281 | 338 => 282 | n => n, fun | 9 => 9 | 3 => 3 | 2 => 2 | 75 => 162 | 85 => 296 | 4 => 4 | 167 => 323 | 5 => 5 | 53 => 324 | 175 => 325 | 46 => 245 | 168 => 327 | 37 => 133 | 0 => 0 | 210 => 344 | 21 => 21 | 127 => 246 | 145 => 361 | 143 => 359 | 171 => 375 | 173 => 378 | 212 => 380 | 51 => 299 | 20 => 20 | 213 => 381 | 232 => 384 | 233 => 385 | 80 => 168 | n => n, fun | 15 => 1 | 16 => 2 | 17 => 7 | 18 => 8 | 19 => 9 | n => n⟩
theorem Tryz.laysC174 : Go.Proofs.LaysC.n174 Tryz.prog Tryz.laysC174_ren := {
  mixed := by kernel_rfl
  f129 := Tryz.func277.trans (congrArg some (by kernel_rfl))
  f171 := Tryz.func261.trans (congrArg some (by kernel_rfl))
  f174 := Tryz.func222.trans (congrArg some (by kernel_rfl))
  f205 := Tryz.func260.trans (congrArg some (by kernel_rfl))
  f243 := Tryz.func267.trans (congrArg some (by kernel_rfl))
  f245 := Tryz.func231.trans (congrArg some (by kernel_rfl))
  f246 := Tryz.func271.trans (congrArg some (by kernel_rfl))
  f247 := Tryz.func230.trans (congrArg some (by kernel_rfl))
  f279 := Tryz.func244.trans (congrArg some (by kernel_rfl))
  f280 := Tryz.func245.trans (congrArg some (by kernel_rfl))
  f281 := Tryz.func246.trans (congrArg some (by kernel_rfl))
  f282 := Tryz.func247.trans (congrArg some (by kernel_rfl))
  f283 := Tryz.func272.trans (congrArg some (by kernel_rfl))
  f284 := Tryz.func273.trans (congrArg some (by kernel_rfl))
  f285 := Tryz.func274.trans (congrArg some (by kernel_rfl))
  f286 := Tryz.func275.trans (congrArg some (by kernel_rfl))
  f287 := Tryz.func243.trans (congrArg some (by kernel_rfl))
  f316 := Tryz.func259.trans (congrArg some (by kernel_rfl))
  f317 := Tryz.func276.trans (congrArg some (by kernel_rfl))
  f318 := Tryz.func278.trans (congrArg some (by kernel_rfl))
  f319 := Tryz.func279.trans (congrArg some (by kernel_rfl))
  f320 := Tryz.func280.trans (congrArg some (by kernel_rfl))
  f321 := Tryz.func257.trans (congrArg some (by kernel_rfl))
  f322 := Tryz.func258.trans (congrArg some (by kernel_rfl))
  f337 := Tryz.func281.trans (congrArg some (by kernel_rfl))
  f338 := Tryz.func282.trans (congrArg some (by kernel_rfl))
  t0 := Tryz.underlying0
  a0 := Tryz.isAgg0
  z0 := Tryz.sizeOf0
  v0 := Tryz.zeroValue0
  t2 := Tryz.underlying2
  a2 := Tryz.isAgg2
  z2 := Tryz.sizeOf2
  v2 := Tryz.zeroValue2
  t3 := Tryz.underlying3
  a3 := Tryz.isAgg3
  z3 := Tryz.sizeOf3
  v3 := Tryz.zeroValue3
  t4 := Tryz.underlying4
  a4 := Tryz.isAgg4
  z4 := Tryz.sizeOf4
  v4 := Tryz.zeroValue4
  t5 := Tryz.underlying5
  a5 := Tryz.isAgg5
  z5 := Tryz.sizeOf5
  v5 := Tryz.zeroValue5
  t9 := Tryz.underlying9
  a9 := Tryz.isAgg9
  z9 := Tryz.sizeOf9
  v9 := Tryz.zeroValue9
  t20 := Tryz.underlying20
  a20 := Tryz.isAgg20
  z20 := Tryz.sizeOf20
  v20 := Tryz.zeroValue20
  t21 := Tryz.underlying21
  a21 := Tryz.isAgg21
  z21 := Tryz.sizeOf21
  v21 := Tryz.zeroValue21
  t37 := Tryz.underlying133
  a37 := Tryz.isAgg133
  z37 := Tryz.sizeOf133
  v37 := Tryz.zeroValue133
  t46 := Tryz.underlying245
  a46 := Tryz.isAgg245
  z46 := Tryz.sizeOf245
  v46 := Tryz.zeroValue245
  t51 := Tryz.underlying299
  a51 := Tryz.isAgg299
  z51 := Tryz.sizeOf299
  v51 := Tryz.zeroValue299
  t53 := Tryz.underlying324
  a53 := Tryz.isAgg324
  z53 := Tryz.sizeOf324
  v53 := Tryz.zeroValue324
  t75 := Tryz.underlying162
  a75 := Tryz.isAgg162
  z75 := Tryz.sizeOf162
  v75 := Tryz.zeroValue162
  t85 := Tryz.underlying296
  a85 := Tryz.isAgg296
  z85 := Tryz.sizeOf296
  v85 := Tryz.zeroValue296
  t127 := Tryz.underlying246
  a127 := Tryz.isAgg246
  z127 := Tryz.sizeOf246
  v127 := Tryz.zeroValue246
  t143 := Tryz.underlying359
  a143 := Tryz.isAgg359
  z143 := Tryz.sizeOf359
  v143 := Tryz.zeroValue359
  t145 := Tryz.underlying361
  a145 := Tryz.isAgg361
  z145 := Tryz.sizeOf361
  v145 := Tryz.zeroValue361
  t167 := Tryz.underlying323
  a167 := Tryz.isAgg323
  z167 := Tryz.sizeOf323
  v167 := Tryz.zeroValue323
  t168 := Tryz.underlying327
  a168 := Tryz.isAgg327
  z168 := Tryz.sizeOf327
  v168 := Tryz.zeroValue327
  t171 := Tryz.underlying375
  a171 := Tryz.isAgg375
  z171 := Tryz.sizeOf375
  v171 := Tryz.zeroValue375
  t173 := Tryz.underlying378
  a173 := Tryz.isAgg378
  z173 := Tryz.sizeOf378
  v173 := Tryz.zeroValue378
  t175 := Tryz.underlying325
  a175 := Tryz.isAgg325
  z175 := Tryz.sizeOf325
  v175 := Tryz.zeroValue325
  t210 := Tryz.underlying344
  a210 := Tryz.isAgg344
  z210 := Tryz.sizeOf344
  v210 := Tryz.zeroValue344
  t212 := Tryz.underlying380
  a212 := Tryz.isAgg380
  z212 := Tryz.sizeOf380
  v212 := Tryz.zeroValue380
  t213 := Tryz.underlying381
  a213 := Tryz.isAgg381
  z213 := Tryz.sizeOf381
  t232 := Tryz.underlying384
  a232 := Tryz.isAgg384
  z232 := Tryz.sizeOf384
  v232 := Tryz.zeroValue384
  t233 := Tryz.underlying385
  a233 := Tryz.isAgg385
  z233 := Tryz.sizeOf385
  v233 := Tryz.zeroValue385
  g15 := by kernel_rfl
  g16 := by kernel_rfl
  g17 := by kernel_rfl
  g18 := by kernel_rfl
  g19 := by kernel_rfl
  t80 := Tryz.underlying168
  a80 := Tryz.isAgg168
  z80 := Tryz.sizeOf168
  v80 := Tryz.zeroValue168
  i0 := by kernel_rfl
  i2 := by kernel_rfl
  i3 := by kernel_rfl
  i4 := by kernel_rfl
  i5 := by kernel_rfl
  i9 := by kernel_rfl
  i20 := by kernel_rfl
  i21 := by kernel_rfl
  i37 := by kernel_rfl
  i46 := by kernel_rfl
  i51 := by kernel_rfl
  i53 := by kernel_rfl
  i75 := by kernel_rfl
  i80 := by kernel_rfl
  i85 := by kernel_rfl
  i127 := by kernel_rfl
  i143 := by kernel_rfl
  i145 := by kernel_rfl
  i167 := by kernel_rfl
  i168 := by kernel_rfl
  i171 := by kernel_rfl
  i173 := by kernel_rfl
  i175 := by kernel_rfl
  i210 := by kernel_rfl
  i212 := by kernel_rfl
  i232 := by kernel_rfl
  i233 := by kernel_rfl
  m15 := by kernel_rfl
  m16 := by kernel_rfl
  m17 := by kernel_rfl
  m18 := by kernel_rfl
  m19 := by kernel_rfl
  c0 := by kernel_rfl
  c2 := by kernel_rfl
  c3 := by kernel_rfl
  c4 := by kernel_rfl
  c5 := by kernel_rfl
  c9 := by kernel_rfl
  c20 := by kernel_rfl
  c21 := by kernel_rfl
  c37 := by kernel_rfl
  c46 := by kernel_rfl
  c51 := by kernel_rfl
  c53 := by kernel_rfl
  c75 := by kernel_rfl
  c80 := by kernel_rfl
  c85 := by kernel_rfl
  c127 := by kernel_rfl
  c143 := by kernel_rfl
  c145 := by kernel_rfl
  c167 := by kernel_rfl
  c168 := by kernel_rfl
  c171 := by kernel_rfl
  c173 := by kernel_rfl
  c175 := by kernel_rfl
  c210 := by kernel_rfl
  c212 := by kernel_rfl
  c213 := by kernel_rfl
  c232 := by kernel_rfl
  c233 := by kernel_rfl }
open Go.RowKit in
/-- strconv.ParseInt(s, 10, 64), AT EVERY STRING THAT SPELLS AN int64 ('Lib.parseIntB 64 s.data.toList = .ok v'): v, AND NO ERROR. (LAID: no walk: one application.) -/
theorem Tryz.strconv_ParseInt_10_at64_ok (s : ByteArray) (hmax : s.size ≤ 9223372036854775806) (v : Int) (h : Lib.parseIntB 64 s.data.toList = .ok v) (w : World) :
    Calls Tryz.prog 222 #[.string s, .int .i64 10, .int .i64 64] w fun e w' => e = .returned (.tuple #[.int .i64 v, .nilIface]) ∧ (w' = w ∨ ∃ t, w' = Lib.bytesWorld w 5 t) := Any.strconv_ParseInt_10_at64_ok Tryz.laysC174 s hmax v h w
end Go.Proofs

/- Numbers of a text are read (seat .ZD alone). -/
namespace Go.Proofs.YtidhiaaicmfabaaGreatDoor
open Go.RowKit Go.Proofs Go.Deep

theorem digit_nat {d : Nat} (h : d < 10) : (UInt8.ofNat (48 + d)).toNat = 48 + d := by
  rw [UInt8.toNat_ofNat']
  omega
theorem parse_digs (M : Nat) (hM : M ≤ 18446744073709551615) (n : Nat) : ∀ r, n ≤ M → Lib.parseUintM M 0 (digs n ++ r) = Lib.parseUintM M n r := by
  induction n using Nat.strongRecOn with
  | ind n ih =>
    intro r hn
    rw [digs]
    by_cases h : n < 10
    · rw [dif_pos h, List.singleton_append, Lib.parseUintM, digit_nat h, if_pos (by omega), if_neg (by omega), if_neg (by omega)]
      congr 1
      omega
    · rw [dif_neg h, List.append_assoc, ih (n / 10) (by omega) _ (by omega), List.singleton_append, Lib.parseUintM, digit_nat (Nat.mod_lt _ (by omega)), if_pos (by omega), if_neg (by omega), if_neg (by omega)]
      congr 1
      omega
theorem digs_head (n : Nat) : ∃ d r, d < 10 ∧ digs n = UInt8.ofNat (48 + d) :: r := by
  induction n using Nat.strongRecOn with
  | ind n ih =>
    rw [digs]
    by_cases h : n < 10
    · rw [dif_pos h]; exact ⟨n, [], h, rfl⟩
    · rw [dif_neg h]
      obtain ⟨d, r, h1, h2⟩ := ih (n / 10) (by omega)
      rw [h2]
      exact ⟨d, _, h1, rfl⟩
theorem parse_num (n : Nat) (h : n ≤ 9223372036854775807) : Lib.parseIntB 64 (digs n) = .ok (n : Int) := by
  have hp := parse_digs (2 ^ 64 - 1) (by decide) n [] (by have : 2 ^ 64 - 1 = 18446744073709551615 := by decide
                                                          omega)
  rw [List.append_nil] at hp
  obtain ⟨d, r, h1, h2⟩ := digs_head n
  rw [h2] at hp ⊢
  unfold Lib.parseIntB
  simp only
  rw [digit_nat h1, if_neg (by omega)]
  unfold Lib.parseUintB
  rw [if_neg (by simp), hp, Lib.parseUintM]
  simp only
  have p63 : 2 ^ (64 - 1) = 9223372036854775808 := by decide
  rw [p63, if_neg (by omega), if_neg (by omega), if_neg (by omega)]
theorem parse_neg (n : Nat) (h : n ≤ 9223372036854775808) : Lib.parseIntB 64 (45 :: digs n) = .ok (-(n : Int)) := by
  have hp := parse_digs (2 ^ 64 - 1) (by decide) n [] (by have : 2 ^ 64 - 1 = 18446744073709551615 := by decide
                                                          omega)
  rw [List.append_nil] at hp
  obtain ⟨d, r, h1, h2⟩ := digs_head n
  unfold Lib.parseIntB
  simp only
  have e45 : (45 : UInt8).toNat = 45 := rfl
  rw [e45, if_pos (by omega)]
  unfold Lib.parseUintB
  rw [if_neg (by rw [h2]; simp), hp, Lib.parseUintM]
  simp only
  have p63 : 2 ^ (64 - 1) = 9223372036854775808 := by decide
  rw [p63, if_neg (by simp), if_neg (by omega), if_pos trivial]
theorem fnv_number : ∀ (args : Array Value) (w : World), (callFunc 223 args).run Tryz.prog w = .ok (.enter 223 args) w := fun _ _ => by kernel_rfl
theorem numW_size (n : Nat) : (numW n).size = (digs n).length := by unfold numW; simp [ByteArray.size]
theorem numW_list (n : Nat) : (numW n).data.toList = digs n := by unfold numW; simp
theorem numW_first (n : Nat) : (numW n).size ≠ 0 ∧ isDg (bt (numW n) 0) = true := by
  obtain ⟨d, r, h1, h2⟩ := digs_head n
  have hs : (numW n).size ≠ 0 := by rw [numW_size, h2]; simp
  refine ⟨hs, ?_⟩
  have hb := bt_of (numW n) 0 (by omega)
  have h3 : (numW n).data[0]? = some (UInt8.ofNat (48 + d)) := by rw [← Array.getElem?_toList, numW_list, h2]; rfl
  obtain ⟨_, h4⟩ := Array.getElem?_eq_some_iff.1 h3
  have h5 : bt (numW n) 0 = 48 + d := by
    rw [← hb]
    show ((numW n).data[0]).toNat = _
    rw [h4, digit_nat h1]
  rw [h5]
  simp [isDg]
  omega
theorem digs_len : ∀ (k n : Nat), n < 10 ^ (k + 1) → (digs n).length ≤ k + 1
  | 0, n, h => by
    rw [digs, dif_pos (by simpa using h)]
    simp
  | k + 1, n, h => by
    rw [digs]
    by_cases h1 : n < 10
    · rw [dif_pos h1]; simp
    · rw [dif_neg h1]
      have := digs_len k (n / 10) (by rw [Nat.pow_succ] at h; omega)
      simp only [List.length_append, List.length_cons, List.length_nil]
      omega
theorem numW_le {n : Nat} (h : n ≤ 9223372036854775808) : (numW n).size ≤ 20 := by
  rw [numW_size]
  exact digs_len 19 n (by have : 10 ^ (19 + 1) = 100000000000000000000 := by decide
                          omega)
set_option maxRecDepth 100000 in
theorem number_yes (w : World) {bp : Nat} {pv : Value} {L : List ByteArray} {k : Nat} {d : Int} {uv : Value} {bad : Bool} (h : Pa bp pv L k d uv bad w) (hk : k < L.length) (z1 : (nextS L k).size ≠ 0) (z2 : isDg (bt (nextS L k) 0) = true) (R : Ending → World → Prop)
    (fin : ∀ w', Pa bp pv L (k + 1) d uv bad w' → Only bp w w' → R (.returned (.string (nextS L k))) w') : Calls Tryz.prog 220 #[.pointer (some ⟨bp, 0, none⟩), .func (.func 223) #[] #[]] w R := by
  have hsm := h.sm
  have hcf := fnv_number
  replace fin := hd fin
  go_enter Tryz.func220, Tryz.ntmps220
  go_wp2_with (fail)
  refine next_any _ h _ ?_
  intro w1 h1 hb1
  have c1 : w1.cell? ⟨bp, 1, none⟩ = some (.int .i64 (k : Int)) := h1.row.cell (i := 1) (by omega)
  have f1 := h1.row.frozen 1
  have lb := h1.row.lt
  have h2 := hd (h1.setAt (k' := k + 1) (by omega))
  have j1 : IntKind.i64.wrap ((k : Int) + 1) = (k : Int) + 1 := IntWalk.i64_in _ (by omega)
  replace h1 := hd h1
  replace hb1 := hd hb1
  generalize nextS L k = s at *
  go_wp2_with (fail)
  refine isNumber_yes _ s z1 z2 _ ?_
  go_wp2
  exact cl1 (fin.out _ h2.out ((Only.of_below hb1.out).setCell (a := ⟨bp, 1, none⟩) (.inl rfl) _)) rfl
theorem pNum {w : World} {B bp : Nat} {pv : Value} {L : List ByteArray} {k : Nat} {d : Int} {us : List ByteArray} {uv : Value} (h : Ps B bp pv L k d us uv w) (n : Nat) (hk : k < L.length) (hs : nextS L k = numW n) (R : Ending → World → Prop) (fin : ∀ w', Ps B bp pv L (k + 1) d us uv w' → Fu bp uv uv w w' → R (.returned (.string (numW n))) w') :
    Calls Tryz.prog 220 #[.pointer (some ⟨bp, 0, none⟩), .func (.func 223) #[] #[]] w R :=
  number_yes _ h.pa hk (by rw [hs]; exact (numW_first n).1) (by rw [hs]; exact (numW_first n).2) _ (fun w' h1 ho => by rw [hs]; exact fin w' (h.only h1 ho (by omega)) (Fu.of_only ho))
theorem below_bytes {w w' : World} (h : w' = w ∨ ∃ t, w' = Lib.bytesWorld w 5 t) : Below w.heap.size w w' := by
  rcases h with rfl | ⟨t, rfl⟩
  · exact Below.refl _ _
  · exact ⟨rfl, rfl, rfl, by rw [Lib.bytesWorld_size]; omega, fun j hj => Lib.bytesWorld_at_old w 5 t j hj⟩
theorem cat_list (a b : ByteArray) : (a ++ b).data.toList = a.data.toList ++ b.data.toList := by rw [ByteArray.data_append]; simp
set_option maxRecDepth 100000 in
theorem number0 {w : World} {B bp : Nat} {pv : Value} {L : List ByteArray} {k : Nat} {d : Int} {us : List ByteArray} {uv : Value} (h : Ps B bp pv L k d us uv w) (n : Nat) (hn : n ≤ 9223372036854775807) (hs : nextS L k = numW n) (hk : k < L.length) (R : Ending → World → Prop)
    (fin : ∀ w', Ps B bp pv L (k + 1) d us uv w' → Fu bp uv uv w w' → R (.returned (.int .i64 n)) w') : Calls Tryz.prog 198 #[.pointer (some ⟨bp, 0, none⟩), .string ⟨#[]⟩] w R := by
  have hle := numW_le (n := n) (by omega)
  replace fin := hd fin
  go_enter Tryz.func198, Tryz.ntmps198
  go_wp2_with (fail)
  refine pNum h n hk hs _ ?_
  intro w1 h1 hf1
  replace h1 := hd h1
  replace hf1 := hd hf1
  go_wp2_with (fail)
  have hp : Lib.parseIntB 64 ((⟨#[]⟩ : ByteArray) ++ numW n).data.toList = .ok ((n : Int)) := by
    rw [cat_list, numW_list]
    exact parse_num n hn
  have hz : ((⟨#[]⟩ : ByteArray) ++ numW n).size ≤ 9223372036854775806 := by
    rw [ByteArray.size_append]
    have : (⟨#[]⟩ : ByteArray).size ≤ 1 := by decide
    omega
  refine (Tryz.strconv_ParseInt_10_at64_ok _ hz _ hp w1).mono ?_
  rintro e w2 ⟨rfl, hw2⟩
  have hb2 := hd (below_bytes hw2)
  clear hw2 hp hz
  go_wp2
  exact cl1 (fin.out _ (h1.out.only (h1.out.pa.below hb2.out) (Only.of_below hb2.out) (by omega)) (hf1.out.trans (Fu.of_below hb2.out))) rfl
set_option maxRecDepth 100000 in
theorem numberN {w : World} {B bp : Nat} {pv : Value} {L : List ByteArray} {k : Nat} {d : Int} {us : List ByteArray} {uv : Value} (h : Ps B bp pv L k d us uv w) (n : Nat) (hn : n ≤ 9223372036854775808) (hs : nextS L k = numW n) (hk : k < L.length) (R : Ending → World → Prop)
    (fin : ∀ w', Ps B bp pv L (k + 1) d us uv w' → Fu bp uv uv w w' → R (.returned (.int .i64 (-(n : Int)))) w') : Calls Tryz.prog 198 #[.pointer (some ⟨bp, 0, none⟩), .string ⟨#[45]⟩] w R := by
  have hle := numW_le (n := n) (by omega)
  replace fin := hd fin
  go_enter Tryz.func198, Tryz.ntmps198
  go_wp2_with (fail)
  refine pNum h n hk hs _ ?_
  intro w1 h1 hf1
  replace h1 := hd h1
  replace hf1 := hd hf1
  go_wp2_with (fail)
  have hp : Lib.parseIntB 64 ((⟨#[45]⟩ : ByteArray) ++ numW n).data.toList = .ok (-(n : Int)) := by
    rw [cat_list, numW_list]
    exact parse_neg n hn
  have hz : ((⟨#[45]⟩ : ByteArray) ++ numW n).size ≤ 9223372036854775806 := by
    rw [ByteArray.size_append]
    have : (⟨#[45]⟩ : ByteArray).size ≤ 1 := by decide
    omega
  refine (Tryz.strconv_ParseInt_10_at64_ok _ hz _ hp w1).mono ?_
  rintro e w2 ⟨rfl, hw2⟩
  have hb2 := hd (below_bytes hw2)
  clear hw2 hp hz
  go_wp2
  exact cl1 (fin.out _ (h1.out.only (h1.out.pa.below hb2.out) (Only.of_below hb2.out) (by omega)) (hf1.out.trans (Fu.of_below hb2.out))) rfl

end Go.Proofs.YtidhiaaicmfabaaGreatDoor

/- Literals are read (seat .ZD alone). -/
namespace Go.Proofs.YtidhiaaicmfabaaGreatDoor
open Go.RowKit Go.Proofs Go.Deep

theorem nextS_lt {L : List ByteArray} {k : Nat} {s : ByteArray} (h : nextS L k = s) (h0 : s.size ≠ 0) : k < L.length := by
  by_cases h1 : k < L.length
  · exact h1
  · rw [nextS_end h1] at h
    subst h
    exact absurd rfl h0
theorem numW_not (n : Nat) {c : UInt8} {l : List UInt8} (hc : c.toNat < 48) : ((numW n).toList == (c :: l)) = false := by
  obtain ⟨z1, z2⟩ := numW_first n
  refine head_ne (by omega) (fun e => ?_)
  rw [e] at z2
  simp [isDg] at z2
  omega
set_option maxRecDepth 100000 in
theorem literal_ok {w : World} {B bp : Nat} {pv : Value} {L : List ByteArray} {k : Nat} {d : Int} {us : List ByteArray} {uv : Value} (h : Ps B bp pv L k d us uv w) (n : Int) (hn : -9223372036854775808 ≤ n ∧ n ≤ 9223372036854775807) (ht : TokAt L k (litW n)) (R : Ending → World → Prop)
    (fin : ∀ w', Ps B bp pv L (k + (litW n).length) d us uv w' → Fu bp uv uv w w' → R (.returned (.int .i64 n)) w') : Calls Tryz.prog 239 #[.pointer (some ⟨bp, 0, none⟩)] w R := by
  unfold litW at ht fin
  by_cases h0 : n < 0
  · rw [if_pos h0] at ht fin
    have hs := ht.head
    have hs2 := ht.tail.head
    have hk2 := nextS_lt hs2 (numW_first _).1
    have e : -(n.natAbs : Int) = n := by omega
    have hb : n.natAbs ≤ 9223372036854775808 := by omega
    replace fin := hd fin
    replace e := hd e
    go_enter Tryz.func239, Tryz.ntmps239
    go_wp2_with (fail)
    refine pAcc (s := wMI) h hs (by decide) _ ?_
    intro w1 h1 hf1
    replace hf1 := hd hf1
    go_wp2_with (fail)
    refine numberN h1 n.natAbs hb hs2 hk2 _ ?_
    intro w2 h2 hf2
    rw [e.out]
    have hf3 := hd (hf1.out.trans hf2)
    replace h2 := hd h2
    clear hf2 hf1
    go_wp2
    exact cl1 (fin.out _ h2.out hf3.out) rfl
  · rw [if_neg h0] at ht fin
    have hs := ht.head
    have hk2 := nextS_lt hs (numW_first _).1
    have e : (n.natAbs : Int) = n := by omega
    have hb : n.natAbs ≤ 9223372036854775807 := by omega
    replace fin := hd fin
    replace e := hd e
    go_enter Tryz.func239, Tryz.ntmps239
    go_wp2_with (fail)
    refine pNot (s := wMI) h (by rw [hs, show wMI.toList = [45] from by kernel_rfl]; exact numW_not (c := 45) (l := []) _ (by decide)) _ ?_
    intro w1 h1 hf1
    replace hf1 := hd hf1
    go_wp2_with (fail)
    refine number0 h1 n.natAbs hb hs hk2 _ ?_
    intro w2 h2 hf2
    rw [e.out]
    have hf3 := hd (hf1.out.trans hf2)
    replace h2 := hd h2
    clear hf2 hf1
    go_wp2
    exact cl1 (fin.out _ h2.out hf3.out) rfl
set_option maxRecDepth 100000 in
theorem expr_lit {n : Int} (hn : -9223372036854775808 ≤ n ∧ n ≤ 9223372036854775807) : ExprOk (.lit n) := by
  intro w B bp pv L k d us uv h ht hfo hd0 hd1 R fin
  simp only [toks, namesE, List.append_nil] at ht hfo fin
  replace fin := hd fin
  by_cases h0 : n < 0
  · have hs : nextS L k = wMI := by
      have h2 := ht
      unfold litW at h2
      rw [if_pos h0] at h2
      exact h2.head
    have t1 : (wMI.toList == [45]) = true := by kernel_rfl
    go_enter Tryz.func233, Tryz.ntmps233
    go_wp2_with (fail)
    refine pNext h _ ?_
    intro w1 h1 hf1
    rw [hs]
    go_wp2_with (fail)
    refine literal_ok h1 n hn ht _ ?_
    intro w2 h2 hf2
    have hf3 := hd (hf1.trans hf2)
    replace h2 := hd h2
    clear hf1 hf2
    go_wp2
    exact cl1 (fin.out _ (.iface 331 (.agg #[.int .i64 n])) uv h2.out hf3.out rfl) rfl
  · have hs : nextS L k = numW n.natAbs := by
      have h2 := ht
      unfold litW at h2
      rw [if_neg h0] at h2
      exact h2.head
    have t1 : ((numW n.natAbs).toList == [45]) = false := numW_not (c := 45) (l := []) _ (by decide)
    obtain ⟨z1, z2⟩ := numW_first n.natAbs
    go_enter Tryz.func233, Tryz.ntmps233
    go_wp2_with (fail)
    refine pNext h _ ?_
    intro w1 h1 hf1
    rw [hs]
    go_wp2_with (fail)
    refine isNumber_yes _ _ z1 z2 _ ?_
    go_wp2_with (fail)
    refine literal_ok h1 n hn ht _ ?_
    intro w2 h2 hf2
    have hf3 := hd (hf1.trans hf2)
    replace h2 := hd h2
    clear hf1 hf2
    go_wp2
    exact cl1 (fin.out _ (.iface 331 (.agg #[.int .i64 n])) uv h2.out hf3.out rfl) rfl

end Go.Proofs.YtidhiaaicmfabaaGreatDoor

/- TRUE, FALSE, NOT and SHORT are read (seat .ZD alone). -/
namespace Go.Proofs.YtidhiaaicmfabaaGreatDoor
open Go.RowKit Go.Proofs Go.Deep

theorem Ps.bel {B bp : Nat} {pv : Value} {L : List ByteArray} {k : Nat} {d : Int} {us : List ByteArray} {uv : Value} {w w' : World} (h : Ps B bp pv L k d us uv w) (hb : Below w.heap.size w w') : Ps B bp pv L k d us uv w' := h.only (h.pa.below hb) (Only.of_below hb) (by omega)
end Go.Proofs.YtidhiaaicmfabaaGreatDoor
