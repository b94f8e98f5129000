/- Kinds of expressions. -/
import Derived.Test.YtidhiaaicmfabaaGreatDoorKaA
import Derived.WalkKit
import Derived.WalkSpells
import Derived.WalkLawsBesides
import Derived.Deep.OwnRows
import Derived.BigQuiet
import Derived.Handy
import Derived.Deep.Light
import Derived.Deep.RegionHeld3
import Derived.Deep.RegionWith
import Derived.Test.YtidhiaaicmfabaaGreatDoorJyJ

/- The checker; the kind of a name (seat .ZD alone). -/
namespace Go.Proofs.YtidhiaaicmfabaaGreatDoor
open Go.RowKit Go.Proofs Go.Deep

/-- What a name stands for. -/
def lookV : List Vd → ByteArray → Option Vd
  | [], _ => none
  | v :: vs, s => if s = v.name then some v else lookV vs s
theorem look_find : ∀ (vs : List Vd) (bs : List Nat) (s : ByteArray) (v : Vd), bs.length = vs.length → lookV vs s = some v → ∃ (i b : Nat), vs[i]? = some v ∧ bs[i]? = some b ∧ findB vs bs s = some b
  | [], _, _, _, _, h => by simp [lookV] at h
  | _ :: _, [], _, _, h, _ => by simp at h
  | u :: vs, b :: bs, s, v, h, hl => by
    simp only [lookV] at hl
    simp only [findB]
    by_cases e : s = u.name
    · rw [if_pos e] at hl
      injection hl with hl
      subst hl
      exact ⟨0, b, rfl, rfl, if_pos e⟩
    · rw [if_neg e] at hl
      obtain ⟨i, c, h1, h2, h3⟩ := look_find vs bs s v (by simpa using h) hl
      exact ⟨i + 1, c, by simpa using h1, by simpa using h2, by rw [if_neg e]; exact h3⟩
/-- What is left alone but for pairs in the blocks from lo to hi. -/
structure Kf (lo hi : Nat) (w w' : World) : Prop where
  os : w'.os = w.os
  tape : w'.tape = w.tape
  output : w'.output = w.output
  size : w.heap.size ≤ w'.heap.size
  block : ∀ b, b < w.heap.size → (∀ cur, w.heap[b]? = some (.cells cur 351 (0, 0)) → b < lo ∨ hi ≤ b) → w'.heap[b]? = w.heap[b]?
section
variable {lo hi : Nat} {w w' w'' : World}
theorem Kf.refl (lo hi : Nat) (w : World) : Kf lo hi w w := ⟨rfl, rfl, rfl, Nat.le_refl _, fun _ _ _ => rfl⟩
theorem Kf.trans (h : Kf lo hi w w') (k : Kf lo hi w' w'') : Kf lo hi w w'' :=
  ⟨k.os.trans h.os, k.tape.trans h.tape, k.output.trans h.output, Nat.le_trans h.size k.size, fun b hb hp => by
    have h1 := h.block b hb hp
    exact (k.block b (Nat.lt_of_lt_of_le hb h.size) (fun cur hc => hp cur (h1.symm.trans hc))).trans h1⟩
theorem Kf.of_below (h : Below w.heap.size w w') : Kf lo hi w w' := ⟨h.os, h.tape, h.output, h.size, fun b hb _ => h.block b hb⟩
theorem Kf.wide {lo' hi' : Nat} (h : Kf lo hi w w') (h1 : lo' ≤ lo) (h2 : hi ≤ hi') : Kf lo' hi' w w' := ⟨h.os, h.tape, h.output, h.size, fun b hb hp => h.block b hb (fun cur hc => by have := hp cur hc; omega)⟩
theorem Kf.tag (h : Kf lo hi w w') {b T : Nat} {cur : Array Value} {fz : Nat × Nat} (hb : w.heap[b]? = some (.cells cur T fz)) (hT : T ≠ 351) : w'.heap[b]? = w.heap[b]? :=
  h.block b (Array.getElem?_eq_some_iff.1 hb).1 (fun c hc => by
    rw [hb] at hc
    injection hc with e
    injection e with _ e2
    exact absurd e2 hT)
theorem Kf.row (h : Kf lo hi w w') {b T n : Nat} {f : Nat → Value} (hr : w.rowIs b T n f) (hT : T ≠ 351) : w'.rowIs b T n f := by
  obtain ⟨c, hc, r⟩ := hr
  exact ⟨c, (h.tag hc hT).trans hc, r⟩
theorem Kf.own (h : Kf lo hi w w') {base T sz n : Nat} {v : Value} {xs : List Value} (hr : w.ownsRow base T sz v n xs) (hT : T ≠ 351) : w'.ownsRow base T sz v n xs := own_tag hr (fun _ _ hc => h.tag hc hT)
theorem Kf.nm (h : Kf lo hi w w') {bm n : Nat} {f : ByteArray → Option Nat} (hr : NmAt w bm n f) : NmAt w' bm n f := by
  refine hr.keep (h.block bm hr.lt (fun cur hc => ?_))
  obtain ⟨D, ⟨es, c, h1, _⟩, _⟩ := hr
  rw [h1] at hc
  cases hc
theorem Kf.vars (h : Kf lo hi w w') {fst : Nat → Int} {l : Nat} {vs : List Vd} {bs : List Nat} (hr : VarsIn fst l w vs bs) : VarsIn fst l w' vs bs := hr.keep (fun _ _ _ hc => h.tag hc (by decide))
end
def ckF (bm : Nat) (lv : Value) (i : Nat) : Value := if i = 0 then .map (some bm) else if i = 1 then lv else .bool false
/-- The checker with all that it looks at. -/
structure Env (bc bm : Nat) (fst : Nat → Int) (vs : List Vd) (bs : List Nat) (lv : Value) (ls : List ByteArray) (w : World) : Prop where
  ck : w.rowIs bc 149 3 (ckF bm lv)
  nm : NmAt w bm vs.length (findB vs bs)
  vars : VarsIn fst 0 w vs bs
  loops : w.ownsRow 0 9 1 lv ls.length (strV ls)
  names : ∀ v ∈ vs, LowName v.name
theorem Env.kf {bc bm lo hi : Nat} {fst : Nat → Int} {vs : List Vd} {bs : List Nat} {lv : Value} {ls : List ByteArray} {w w' : World} (h : Env bc bm fst vs bs lv ls w) (k : Kf lo hi w w') : Env bc bm fst vs bs lv ls w' :=
  ⟨k.row h.ck (by decide), k.nm h.nm, k.vars h.vars, k.own h.loops (by decide), h.names⟩
theorem want_ok (w : World) (bc : Nat) (R : Ending → World → Prop) (fin : R (.returned (.tuple #[])) w) : Calls Tryz.prog 69 #[.pointer (some ⟨bc, 0, none⟩), .bool true] w R := by
  replace fin := hd fin
  go_enter Tryz.func69, Tryz.ntmps69
  go_wp2
  go_end0
  exact fin.out
theorem lookV_mem : ∀ (vs : List Vd) (s : ByteArray) (v : Vd), lookV vs s = some v → v ∈ vs ∧ v.name = s
  | [], _, _, h => by simp [lookV] at h
  | u :: vs, s, v, h => by
    simp only [lookV] at h
    by_cases e : s = u.name
    · rw [if_pos e] at h
      injection h with h
      subst h
      exact ⟨List.mem_cons_self .., e.symm⟩
    · rw [if_neg e] at h
      exact ⟨List.mem_cons_of_mem _ (lookV_mem vs s v h).1, (lookV_mem vs s v h).2⟩
set_option maxRecDepth 100000 in
set_option maxHeartbeats 2000000 in
theorem kind_plc {bc bm : Nat} {fst : Nat → Int} {vs : List Vd} {bs : List Nat} {lv : Value} {ls : List ByteArray} {w : World} (h : Env bc bm fst vs bs lv ls w) {s : ByteArray} {v : Vd} (hv : lookV vs s = some v) (ha : v.arr = false) (R : Ending → World → Prop)
    (fin : ∀ w', Below w.heap.size w w' → R (.returned (.int .u8 (v.kind : Int))) w') : Calls Tryz.prog 308 #[.agg #[.string s, .nilIface], .pointer (some ⟨bc, 0, none⟩)] w R := by
  obtain ⟨i, b, h1, h2, h3⟩ := look_find vs bs s v h.vars.len hv
  obtain ⟨_, hrow⟩ := h.vars.row i v b h1 h2
  obtain ⟨hm, hnm⟩ := lookV_mem vs s v hv
  have hsz : s.size ≤ maxLen := by rw [← hnm]; have := (h.names v hm).le; unfold maxLen; omega
  have c0 : w.cell? ⟨bc, 0, none⟩ = some (.map (some bm)) := h.ck.cell (i := 0) (by omega)
  have lb := h.ck.lt
  have b3 : w.cell? ⟨b, 3, none⟩ = some (.bool false) := by have := hrow.cell (i := 3) (by omega); rw [show vdF v (fst i) 3 = .bool v.arr from rfl, ha] at this; exact this
  have b2 : w.cell? ⟨b, 2, none⟩ = some (.int .u8 (v.kind : Int)) := hrow.cell (i := 2) (by omega)
  have lbb := hrow.lt
  have hl : ∀ n, (Instr.lookup 90 (.map (some bm)) (.string s) false).run Tryz.prog ((w.alloc (Obj.cells #[.string s, .nilIface] 305)).drewN n) = .ok (.pointer (some ⟨b, 0, none⟩)) ((w.alloc (Obj.cells #[.string s, .nilIface] 305)).drewN n) := fun n => by
    have hnm2 : NmAt ((w.alloc (Obj.cells #[.string s, .nilIface] 305)).drewN n) bm vs.length (findB vs bs) := h.nm.keep (Below.heap_alloc _ _ _ h.nm.lt)
    have hl := hnm2.look s hsz
    rw [h3] at hl
    exact hl
  replace fin := hd fin
  replace h := hd h
  replace hrow := hd hrow
  clear h1 h2 h3 hm hnm hv
  go_enter Tryz.func308, Tryz.ntmps308
  go_wp2_with (fail)
  go_quiet (fail)
  go_wp2_with (fail)
  go_quiet (first | (go_at_call 69; exact want_ok _ _ _ ⟨rfl, _, rfl⟩))
  go_wp2
  exact cl1 (fin.out _ (below_drewN ((Below.refl _ w).alloc (Nat.le_refl _) _) _)) rfl

end Go.Proofs.YtidhiaaicmfabaaGreatDoor

/- Kinds of expressions (seat .ZD alone). -/
namespace Go.Proofs.YtidhiaaicmfabaaGreatDoor
open Go.RowKit Go.Proofs Go.Deep

/-- The kind of an expression. -/
def kE (vs : List Vd) : Ex → Int
  | .lit n => if -32768 ≤ n ∧ n ≤ 32767 then 1 else 2
  | .tru _ => 0
  | .plc s => match lookV vs s with | some v => (v.kind : Int) | none => 0
  | .idx s _ => match lookV vs s with | some v => (v.kind : Int) | none => 0
  | .bin o l r => if opF o = 0 then max (kE vs l) (kE vs r) else 0
  | .neg _ => 0
  | .sho _ => 1
  | .dly _ _ _ => 0
def isNum (k : Int) : Bool := k == 1 || k == 2
/-- Whether an expression is right. -/
def wtE (vs : List Vd) : Ex → Bool
  | .lit n => decide (-2147483648 ≤ n) && decide (n ≤ 2147483647)
  | .tru _ => true
  | .plc s => match lookV vs s with | some v => !v.arr | none => false
  | .idx s i => (match lookV vs s with | some v => v.arr | none => false) && wtE vs i && isNum (kE vs i)
  | .bin o l r => wtE vs l && wtE vs r && decide (o < 9) && (if opF o = 0 ∨ opF o = 2 then isNum (kE vs l) && isNum (kE vs r) else if opF o = 1 then (isNum (kE vs l) && isNum (kE vs r)) || (kE vs l == 0 && kE vs r == 0) else kE vs l == 0 && kE vs r == 0)
  | .neg e => wtE vs e && kE vs e == 0
  | .sho e => wtE vs e && isNum (kE vs e)
  | .dly t a s => (match lookV vs t with | some v => v.kind == 3 | none => false) && wtE vs a && kE vs a == 0 && wtE vs s && isNum (kE vs s)
def kfn : Ex → Nat
  | .lit _ => 332
  | .tru _ => 335
  | .plc _ => 308
  | .idx _ _ => 308
  | .bin _ _ _ => 344
  | .neg _ => 338
  | .sho _ => 341
  | .dly _ _ _ => 347
/-- Which function a method is. -/
structure Meth (name : String) (t : Nat) (u : Value) (F : Nat) : Prop where
  m : ∀ w, (method 505 t u name).run Tryz.prog w = .ok (F, u) w
  c : ∀ args w, (callFunc F args).run Tryz.prog w = .ok (.enter F args) w
theorem meth_kind {kk : Ex → Int} {e : Ex} {lo hi t : Nat} {w : World} {u : Value} (h : ExIn kk e lo hi w (.iface t u)) : Meth "sluice/sluice.kindIn" t u (kfn e) := by
  cases e with
  | lit n => injection h with h1 h2; subst h1; exact ⟨fun _ => by kernel_rfl, fun _ _ => by kernel_rfl⟩
  | tru n => injection h with h1 h2; subst h1; exact ⟨fun _ => by kernel_rfl, fun _ _ => by kernel_rfl⟩
  | plc n => injection h with h1 h2; subst h1; exact ⟨fun _ => by kernel_rfl, fun _ _ => by kernel_rfl⟩
  | idx s i => obtain ⟨_, h, _⟩ := h; injection h with h1 h2; subst h1; exact ⟨fun _ => by kernel_rfl, fun _ _ => by kernel_rfl⟩
  | bin o l r => obtain ⟨_, _, _, h, _⟩ := h; injection h with h1 h2; subst h1; exact ⟨fun _ => by kernel_rfl, fun _ _ => by kernel_rfl⟩
  | neg e => obtain ⟨_, h, _⟩ := h; injection h with h1 h2; subst h1; exact ⟨fun _ => by kernel_rfl, fun _ _ => by kernel_rfl⟩
  | sho e => obtain ⟨_, h, _⟩ := h; injection h with h1 h2; subst h1; exact ⟨fun _ => by kernel_rfl, fun _ _ => by kernel_rfl⟩
  | dly a b c => obtain ⟨_, _, _, h, _⟩ := h; injection h with h1 h2; subst h1; exact ⟨fun _ => by kernel_rfl, fun _ _ => by kernel_rfl⟩
theorem ExIn.kf {kk : Ex → Int} {e : Ex} {lo hi lo2 hi2 : Nat} {w w' : World} {v : Value} (h : ExIn kk e lo2 hi2 w v) (k : Kf lo hi w w') (hd : hi ≤ lo2 ∨ hi2 ≤ lo) : ExIn kk e lo2 hi2 w' v :=
  h.keep (fun b cur h1 h2 hc => k.block b (Array.getElem?_eq_some_iff.1 hc).1 (fun _ _ => by omega))
/-- The checker finds the kind of an expression. -/
def KindOk (vs : List Vd) (e : Ex) : Prop := ∀ {bc bm lo hi t : Nat} {fst : Nat → Int} {bs : List Nat} {lv u : Value} {ls : List ByteArray} {w : World}, Env bc bm fst vs bs lv ls w → ExIn (fun _ => 0) e lo hi w (.iface t u) →
    ∀ (R : Ending → World → Prop), (∀ w', Kf lo hi w w' → ExIn (kE vs) e lo hi w' (.iface t u) → R (.returned (.int .u8 (kE vs e))) w') → Calls Tryz.prog (kfn e) #[u, .pointer (some ⟨bc, 0, none⟩)] w R
theorem kindOk_plc {vs : List Vd} {s : ByteArray} (hw : wtE vs (.plc s) = true) : KindOk vs (.plc s) := by
  intro bc bm lo hi t fst bs lv u ls w h hx R fin
  simp only [wtE] at hw
  cases hv : lookV vs s with
  | none => rw [hv] at hw; cases hw
  | some v =>
    rw [hv] at hw
    have hk : kE vs (.plc s) = (v.kind : Int) := by simp only [kE, hv]
    rw [hk] at fin
    injection hx with e1 e2
    subst e1 e2
    exact kind_plc h hv (by simpa using hw) R (fun w' hb => fin w' (Kf.of_below hb) rfl)
theorem isNumber_any (w : World) (k : Int) (R : Ending → World → Prop) (fin : R (.returned (.bool (isNum k))) w) : Calls Tryz.prog 299 #[.int .u8 k] w R := by
  unfold isNum at fin
  replace fin := hd fin
  by_cases h : k = 1
  · subst h
    go_enter Tryz.func299, Tryz.ntmps299
    go_wp2
    exact cl1 fin.out rfl
  · have t1 : (k == 1) = false := by simpa using h
    go_enter Tryz.func299, Tryz.ntmps299
    go_wp2
    exact cl1 fin.out (by rw [t1]; rfl)

end Go.Proofs.YtidhiaaicmfabaaGreatDoor

/- The kind of a pair (seat .ZD alone). -/
namespace Go.Proofs.YtidhiaaicmfabaaGreatDoor
open Go.RowKit Go.Proofs Go.Deep

theorem Kf.drew {lo hi : Nat} {w w' : World} (h : Kf lo hi w.drew w') : Kf lo hi w w' := ⟨h.os, h.tape, h.output, h.size, h.block⟩
theorem Env.drew {bc bm : Nat} {fst : Nat → Int} {vs : List Vd} {bs : List Nat} {lv : Value} {ls : List ByteArray} {w : World} (h : Env bc bm fst vs bs lv ls w) : Env bc bm fst vs bs lv ls w.drew := h.kf (lo := 0) (hi := 0) (Kf.of_below (below_drewN (Below.refl _ w) 1))
theorem Kf.at {lo hi : Nat} {w w' : World} (k : Kf lo hi w w') {b : Nat} (hb : b < lo ∨ hi ≤ b) {i : Nat} {v : Value} (h : w.cell? ⟨b, i, none⟩ = some v) : w'.cell? ⟨b, i, none⟩ = some v := by
  have hlt : b < w.heap.size := World.block_lt_of_cell? w ⟨b, i, none⟩ h
  rw [World.cell?_of_block (w := w) (a := ⟨b, i, none⟩) (k.block b hlt (fun _ _ => hb))]
  exact h
theorem Kf.set {lo hi : Nat} {w w' : World} (h : Kf lo hi w w') {b : Nat} {cur : Array Value} (hb : w.heap[b]? = some (.cells cur 351 (0, 0))) (h1 : lo ≤ b) (h2 : b < hi) (i : Nat) (v : Value) : Kf lo hi w (w'.setCell ⟨b, i, none⟩ v) :=
  ⟨h.os, h.tape, h.output, by rw [World.size_setCell]; exact h.size, fun c hc hp => by
    by_cases e : c = b
    · subst e
      have := hp cur hb
      omega
    · exact (Below.heap_setCell _ _ _ _ e).trans (h.block c hc hp)⟩
theorem wt_bin {vs : List Vd} {o : Nat} {l r : Ex} (h : wtE vs (.bin o l r) = true) : wtE vs l = true ∧ wtE vs r = true ∧ o < 9 ∧ (((opF o = 0 ∨ opF o = 1 ∨ opF o = 2) ∧ isNum (kE vs l) = true ∧ isNum (kE vs r) = true) ∨ ((opF o = 1 ∨ opF o = 3) ∧ kE vs l = 0 ∧ kE vs r = 0)) := by
  simp only [wtE, Bool.and_eq_true, decide_eq_true_eq] at h
  obtain ⟨⟨⟨h1, h2⟩, h3⟩, h4⟩ := h
  refine ⟨h1, h2, h3, ?_⟩
  have hf : opF o = 0 ∨ opF o = 1 ∨ opF o = 2 ∨ opF o = 3 := by unfold opF; split <;> simp
  rcases hf with e | e | e | e
  · rw [if_pos (.inl e)] at h4
    simp only [Bool.and_eq_true] at h4
    exact .inl ⟨.inl e, h4⟩
  · rw [if_neg (by omega), if_pos e] at h4
    simp only [Bool.or_eq_true, Bool.and_eq_true, beq_iff_eq] at h4
    rcases h4 with h4 | h4
    · exact .inl ⟨.inr (.inl e), h4⟩
    · exact .inr ⟨.inl e, h4⟩
  · rw [if_pos (.inr e)] at h4
    simp only [Bool.and_eq_true] at h4
    exact .inl ⟨.inr (.inr e), h4⟩
  · rw [if_neg (by omega), if_neg (by omega)] at h4
    simp only [Bool.and_eq_true, beq_iff_eq] at h4
    exact .inr ⟨.inr e, h4⟩
theorem kE_bin {vs : List Vd} {o : Nat} {l r : Ex} : kE vs (.bin o l r) = if opF o = 0 then max (kE vs l) (kE vs r) else 0 := rfl
theorem ExIn.drew {kk : Ex → Int} {e : Ex} {lo hi : Nat} {w : World} {v : Value} (h : ExIn kk e lo hi w v) : ExIn kk e lo hi w.drew v := h.keep (fun _ _ _ _ _ => rfl)
set_option maxRecDepth 100000 in
set_option maxHeartbeats 4000000 in
theorem kind_bin {vs : List Vd} {o : Nat} {l r : Ex} (hl : KindOk vs l) (hr : KindOk vs r) (hw : wtE vs (.bin o l r) = true) : KindOk vs (.bin o l r) := by
  intro bc bm lo hi t fst bs lv u ls w h hx R fin
  obtain ⟨b, vl, vr, hv, hlo, hhi, hrow, hxl, hxr⟩ := hx
  injection hv with e1 e2
  subst e1 e2
  obtain ⟨tl, ul, rfl⟩ := hxl.iface
  obtain ⟨tr, ur, rfl⟩ := hxr.iface
  have ml := meth_kind hxl
  have mr := meth_kind hxr
  have ml1 := ml.m
  have ml2 := ml.c
  have mr1 := mr.m
  have mr2 := mr.c
  have q0 : w.cell? ⟨b, 0, none⟩ = some (.iface tl ul) := hrow.cell (i := 0) (by omega)
  have q1 : w.cell? ⟨b, 1, none⟩ = some (.iface tr ur) := hrow.cell (i := 1) (by omega)
  simp only [kfn]
  replace fin := hd fin
  replace h := hd h
  replace hxl := hd hxl
  replace hxr := hd hxr
  replace hrow := hd hrow
  have costL := hd (fun (W : World) => @hl bc bm lo b tl fst bs lv ul ls W)
  have cR := hd (fun (W : World) => @hr bc bm (b + 1) hi tr fst bs lv ur ls W)
  clear hl hr ml mr
  generalize hkl : kE vs l = kl at *
  generalize hkr : kE vs r = kr at *
  generalize kfn l = FL at *
  generalize kfn r = FR at *
  go_enter Tryz.func344, Tryz.ntmps344
  go_wp2_with (fail)
  go_region_held3 (fun w' => w'.cell? ⟨b, 0, none⟩ = some (.iface tl ul) ∧ w'.cell? ⟨b, 1, none⟩ = some (.iface tr ur)) (first | exact ⟨k1.out.at (.inr (Nat.le_refl _)) q0, k1.out.at (.inr (Nat.le_refl _)) q1⟩ | exact ⟨k2.out.at (.inl (Nat.lt_succ_self _)) (k1.out.at (.inr (Nat.le_refl _)) q0), k2.out.at (.inl (Nat.lt_succ_self _)) (k1.out.at (.inr (Nat.le_refl _)) q1)⟩ | go_keep)
    (first
      | (refine costL.out _ (by first | exact h.out.drew | exact h.out) (by first | exact hxl.out.drew | exact hxl.out) _ ?_; intro w1 k1 hx1; replace k1 := hd k1; replace hx1 := hd hx1)
      | (refine cR.out _ (by first | exact h.out.drew.kf k1.out | exact h.out.kf k1.out) (by first | exact hxr.out.drew.kf k1.out (.inl (Nat.le_succ _)) | exact hxr.out.kf k1.out (.inl (Nat.le_succ _))) _ ?_; intro w2 k2 hx2; replace k2 := hd k2; replace hx2 := hd hx2))
  obtain ⟨cur, hcur⟩ : ∃ cur, w.heap[b]? = some (.cells cur 351 (0, 0)) := by
    obtain ⟨c, hc, _⟩ := hrow.out
    exact ⟨c, hc⟩
  have hbw : b < w.heap.size := (Array.getElem?_eq_some_iff.1 hcur).1
  have eb1 : w1.heap[b]? = w.heap[b]? := k1.out.block b hbw (fun _ _ => .inr (Nat.le_refl _))
  have hs1 : w.heap.size ≤ w1.heap.size := k1.out.size
  have eb2 : w2.heap[b]? = w.heap[b]? := (k2.out.block b (by omega) (fun _ _ => .inl (Nat.lt_succ_self _))).trans eb1
  have hrow2 := hrow.out.of_block eb2
  have hxl2 := hx1.out.kf k2.out (.inr (Nat.le_succ _))
  have hK : Kf lo hi w w2 := (k1.out.drew.wide (Nat.le_refl _) (by omega)).trans (k2.out.wide (by omega) (Nat.le_refl _))
  have p3 : w2.cell? ⟨b, 3, none⟩ = some (.int .u8 (opF o : Int)) := hrow2.cell (i := 3) (by omega)
  have p5 : w2.cell? ⟨b, 5, none⟩ = some (.int .u8 0) := hrow2.cell (i := 5) (by omega)
  have f5 := hrow2.frozen 5
  have hlt := hrow2.lt
  obtain ⟨_, _, ho, hcase⟩ := wt_bin hw
  rw [hkl, hkr] at hcase
  have hend : ∀ kd : Int, kd = kE vs (.bin o l r) → ∀ W, Kf lo hi w W → W.rowIs b 351 6 (prF (.iface tl ul) (.iface tr ur) o kd) → (∀ c, c ≠ b → W.heap[c]? = w2.heap[c]?) → R (.returned (.int .u8 kd)) W := fun kd hkd W hKW hrW hoth => by
    subst hkd
    exact fin.out W hKW ⟨b, _, _, rfl, hlo, hhi, hrW, hxl2.keep (fun c _ _ h2 _ => hoth c (by omega)), hx2.out.keep (fun c _ h1 _ _ => hoth c (by omega))⟩
  rw [kE_bin, hkl, hkr] at hend
  replace hend := hd hend
  replace hrow2 := hd hrow2
  replace hK := hd hK
  clear hx1 hx2 k1 k2 eb1 eb2 hrow hxl hxr costL cR fin ml1 ml2 mr1 mr2 q0 q1 hw hxl2 h
  have hset : ∀ (kd0 kd : Int), (w2.setCell ⟨b, 5, none⟩ (.int .u8 kd0)).rowIs b 351 6 (prF (.iface tl ul) (.iface tr ur) o kd0) := fun kd0 kd => (hrow2.out.set 5 _).congr (fun i hi => by
    have : i = 0 ∨ i = 1 ∨ i = 2 ∨ i = 3 ∨ i = 4 ∨ i = 5 := by omega
    rcases this with rfl | rfl | rfl | rfl | rfl | rfl <;> rfl)
  have hset2 : ∀ (kd0 kd : Int), ((w2.setCell ⟨b, 5, none⟩ (.int .u8 kd0)).setCell ⟨b, 5, none⟩ (.int .u8 kd)).rowIs b 351 6 (prF (.iface tl ul) (.iface tr ur) o kd) := fun kd0 kd => ((hset kd0 kd).set 5 _).congr (fun i hi => by
    have : i = 0 ∨ i = 1 ∨ i = 2 ∨ i = 3 ∨ i = 4 ∨ i = 5 := by omega
    rcases this with rfl | rfl | rfl | rfl | rfl | rfl <;> rfl)
  have hfin2 : ∀ (kd0 kd : Int), kd = (if opF o = 0 then max kl kr else 0) → R (.returned (.int .u8 kd)) ((w2.setCell ⟨b, 5, none⟩ (.int .u8 kd0)).setCell ⟨b, 5, none⟩ (.int .u8 kd)) := fun kd0 kd hkd => hend.out kd hkd _ ((hK.out.set hcur hlo hhi 5 _).set hcur hlo hhi 5 _) (hset2 kd0 kd) (fun c hc => (Below.heap_setCell _ _ _ _ hc).trans (Below.heap_setCell _ _ _ _ hc))
  have hfin1 : ∀ (kd : Int), kd = (if opF o = 0 then max kl kr else 0) → R (.returned (.int .u8 kd)) (w2.setCell ⟨b, 5, none⟩ (.int .u8 kd)) := fun kd hkd => hend.out kd hkd _ (hK.out.set hcur hlo hhi 5 _) (hset kd kd) (fun c hc => (Below.heap_setCell _ _ _ _ hc))
  replace hfin1 := hd hfin1
  replace hfin2 := hd hfin2
  clear hset hset2 hend hrow2 hK hcur
  rcases hcase with ⟨hf, nl, nr⟩ | ⟨hf, rfl, rfl⟩
  · have z1 : (kl == 0) = false := by
      simp only [isNum, Bool.or_eq_true, beq_iff_eq] at nl
      exact beq_eq_false_iff_ne.2 (by omega)
    rcases hf with e | e | e
    all_goals
      rw [e] at p3 hfin1 hfin2
      go_wp2_with (first | (go_at_call 299; refine isNumber_any _ _ _ ?_; (first | rw [nl] | rw [nr])) | (go_at_call 69; refine want_ok _ _ _ ?_))
      first | exact cl1 (hfin2.out _ _ (by simp)) rfl | exact cl1 (hfin1.out _ (by simp)) rfl | trace_state
  · have n0 : isNum 0 = false := by decide
    rcases hf with e | e
    all_goals
      rw [e] at p3 hfin1 hfin2
      go_wp2_with (first | (go_at_call 299; refine isNumber_any _ _ _ ?_; rw [n0]) | (go_at_call 69; refine want_ok _ _ _ ?_))
      first | exact cl1 (hfin2.out _ _ (by simp)) rfl | exact cl1 (hfin1.out _ (by simp)) rfl | trace_state

end Go.Proofs.YtidhiaaicmfabaaGreatDoor
