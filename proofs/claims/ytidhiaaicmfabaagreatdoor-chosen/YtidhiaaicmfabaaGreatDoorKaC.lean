/- Readers of an image. -/
import Derived.Test.YtidhiaaicmfabaaGreatDoorKaA
import Derived.Test.YtidhiaaicmfabaaGreatDoorKaB
import Derived.WalkKit
import Derived.WalkSpells
import Derived.WalkLawsBesides
import Derived.Deep.OwnRows
import Derived.BigQuiet
import Derived.Handy
import Derived.Deep.Light
import Derived.Deep.RegionHeld3
import Derived.Deep.RegionWith
import Derived.Laws.BitsLemmas
import Derived.Laws.Rows
import Derived.Laws.ResultCell
import Derived.Deep.MidRow
import Derived.Laws.MakeOwn

/- Contracts of small functions of the machine: the readers of numbers and operands, multiply, Bound. -/
namespace Go.Proofs.YtidhiaaicmfabaaGreatDoor
open Go.RowKit Go.Proofs Go.Deep

theorem wr_u32 (n : Int) (h₀ : 0 ≤ n) (h₁ : n < 2 ^ 32) : IntKind.u32.wrap n = n := by rw [IntKind.wrap_u32]; omega
theorem wr_i64 (n : Int) (h₀ : 0 ≤ n) (h₁ : n < 2 ^ 63) : IntKind.i64.wrap n = n := by rw [IntKind.wrap_i64]; omega
theorem or16 (a b : Nat) (ha : a ≤ 255) (hb : b ≤ 255) : bits .or .i64 ((a : Int) * 256) b = ((256 * a + b : Nat) : Int) := by
  rw [bits_join .i64 63 (by decide) wr_i64 8 (a * 256) b (by omega) (by omega) (by omega) (by omega) (by omega) (by omega)]
  omega
theorem or32 (a b c d : Nat) (ha : a ≤ 255) (hb : b ≤ 255) (hc : c ≤ 255) (hd : d ≤ 255) :
    bits .or .u32 (bits .or .u32 (bits .or .u32 ((a : Int) * 16777216) ((b : Int) * 65536)) ((c : Int) * 256)) (d : Int) = ((256 * (256 * (256 * a + b) + c) + d : Nat) : Int) := by
  rw [bits_join .u32 32 (by decide) wr_u32 24 (a * 16777216) (b * 65536) (by omega) (by omega) (by omega) (by omega) (by omega) (by omega)]
  rw [bits_join .u32 32 (by decide) wr_u32 16 (a * 16777216 + b * 65536) (c * 256) (by omega) (by omega) (by omega) (by omega) (by omega) (by omega)]
  rw [bits_join .u32 32 (by decide) wr_u32 8 (a * 16777216 + b * 65536 + c * 256) d (by omega) (by omega) (by omega) (by omega) (by omega) (by omega)]
  omega
theorem s32_wrap (s : ByteArray) (a : Nat) : wrap64 (wrap32 (b32 s a : Nat)) = s32 s a := by
  have := b32_le s a
  unfold s32
  simp only [wrap64, wrap32]
  split <;> omega

set_option maxHeartbeats 400000 in
theorem readU16_any (w : World) (s : ByteArray) (h2 : 2 ≤ s.size) (hs : s.size ≤ maxLen) (R : Ending → World → Prop)
    (fin : ∀ k, R (.returned (.int .i64 (b16 s 0 : Nat))) (w.drewN k)) :
    Calls Tryz.prog 102 #[.string s] w R := by
  unfold maxLen at hs
  have hb0 := bt_of s 0 (by omega)
  have hb1 := bt_of s 1 (by omega)
  have g0 := bt_le s 0
  have g1 := bt_le s 1
  have i0 : (0 : Int) < (s.size : Int) := by omega
  have i1 : (1 : Int) < (s.size : Int) := by omega
  replace fin := hd fin
  go_enter Tryz.func102, Tryz.ntmps102
  go_wp2
  go_quiet (fail)
  go_wp2
  exact cl1 (fin.out _) (by rw [or16 _ _ g0 g1]; rfl)

set_option maxHeartbeats 400000 in
theorem readI32_any (w : World) (s : ByteArray) (h2 : 4 ≤ s.size) (hs : s.size ≤ maxLen) (R : Ending → World → Prop)
    (fin : ∀ k, R (.returned (.int .i64 (s32 s 0))) (w.drewN k)) :
    Calls Tryz.prog 208 #[.string s] w R := by
  unfold maxLen at hs
  have hb0 := bt_of s 0 (by omega)
  have hb1 := bt_of s 1 (by omega)
  have hb2 := bt_of s 2 (by omega)
  have hb3 := bt_of s 3 (by omega)
  have g0 := bt_le s 0
  have g1 := bt_le s 1
  have g2 := bt_le s 2
  have g3 := bt_le s 3
  have i0 : (0 : Int) < (s.size : Int) := by omega
  have i1 : (1 : Int) < (s.size : Int) := by omega
  have i2 : (2 : Int) < (s.size : Int) := by omega
  have i3 : (3 : Int) < (s.size : Int) := by omega
  replace fin := hd fin
  go_enter Tryz.func208, Tryz.ntmps208
  go_wp2
  go_quiet (fail)
  go_wp2
  rw [or32 _ _ _ _ g0 g1 g2 g3]
  have e := s32_wrap s 0
  unfold b32 at e
  simp only [Nat.zero_add] at e
  rw [e]
  exact cl1 (fin.out _) rfl
def stV6 (op : Nat) (at_ arg cnt lp to_ : Int) : Array Value := #[.int .u8 (op : Int), .int .i64 at_, .int .i64 arg, .int .i64 cnt, .int .i64 lp, .int .i64 to_]
def rdArg (o : Nat) (s : ByteArray) : Int := if o = 1 then s32 s 0 else if o = 2 ∨ o = 3 then bt s 0 else if o = 4 ∨ o = 5 then b16 s 0 else 0
def rdCnt (o : Nat) (s : ByteArray) : Int := if o = 3 then bt s 1 else 0
def osz0 (o : Nat) : Nat := if o = 1 then 4 else if o = 2 then 1 else if o = 3 ∨ o = 4 ∨ o = 5 then 2 else 0
theorem blk6 {W : World} {g T : Nat} {a0 a1 a2 a3 a4 a5 v0 v1 v2 v3 v4 v5 : Value} (h : W.heap[g]? = some (.cells #[a0, a1, a2, a3, a4, a5] T (0, 0))) :
    ((((((W.setCell ⟨g, 0, none⟩ v0).setCell ⟨g, 1, none⟩ v1).setCell ⟨g, 2, none⟩ v2).setCell ⟨g, 3, none⟩ v3).setCell ⟨g, 4, none⟩ v4).setCell ⟨g, 5, none⟩ v5).heap[g]? = some (.cells #[v0, v1, v2, v3, v4, v5] T (0, 0)) := by
  simp [World.setCell, Array.getElem?_modify, h]
theorem infoStep : (Tryz.prog.info? 254).map (·.size) = some 6 := by kernel_rfl
theorem rowStep : (Tryz.prog.underlying 254).map TypeDesc.isRow = some true := by kernel_rfl
theorem range_of_block {w : World} {g T : Nat} {cs : Array Value} (hg : w.heap[g]? = some (.cells cs T (0, 0))) : w.rangeAt g 0 cs.toList := by
  intro j v hv
  rw [Nat.zero_add, cell_of_row w g j cs T (0, 0) hg]
  simpa using hv
/-- A result that lies in a cell of its own: a whole struct or array. -/
theorem ret_row {fn : Func} {R : Ending → World → Prop} {a : Act} {w : World} {p : Tmp} {ty n : Nat} (h : fn.results = #[.cell p ty]) (hrow : (Tryz.prog.underlying ty).map TypeDesc.isRow = some true) (hi : (Tryz.prog.info? ty).map (·.size) = some n)
    (g T : Nat) (cs : Array Value) (hn : cs.size = n) (hp : a.tmps.getD p undef = .pointer (some ⟨g, 0, none⟩)) (hg : w.heap[g]? = some (.cells cs T (0, 0))) (hd : a.defers = []) (hR : R (.returned (.agg cs)) w) : bodyPost Tryz.prog fn R .ret a w := by
  obtain ⟨d, h1, h2⟩ := Option.map_eq_some_iff.1 hrow
  have hl := run_loadVar_mid w g 0 ty cs.toList d (range_of_block hg) h1 h2 (by rw [hi, ← hn]; simp)
  refine bodyPost_ret ?_ hd hR
  have hp' : a.tmps[p]?.getD undef = .pointer (some ⟨g, 0, none⟩) := by simpa using hp
  simp [results, h, hp', asAddr, hl]
theorem drew_new (w : World) (o : Obj) (k : Nat) : ((w.alloc o).drewN k).heap[w.heap.size]? = some o := heap_alloc_new w o
set_option maxHeartbeats 1000000 in
theorem readOperand_any (w : World) (o : Nat) (s : ByteArray) (ho : o ≤ 5) (hsz : s.size = osz0 o) (R : Ending → World → Prop)
    (fin : ∀ w', Below w.heap.size w w' → R (.returned (.agg #[.int .u8 0, .int .i64 0, .int .i64 (rdArg o s), .int .i64 (rdCnt o s), .int .i64 0, .int .i64 0])) w') :
    Calls Tryz.prog 149 #[.int .u8 (o : Int), .string s] w R := by
  have hc : o = 0 ∨ o = 1 ∨ o = 2 ∨ o = 3 ∨ (o = 4 ∨ o = 5) := by omega
  rcases hc with rfl | rfl | rfl | rfl | h45
  · replace fin := hd fin
    go_enter Tryz.func149, Tryz.ntmps149
    go_wp2
    refine ret_row rfl rowStep infoStep w.heap.size 254 _ rfl rfl (heap_alloc_new _ _) rfl ?_
    refine cl1 (fin.out _ ?_) rfl
    exact (by repeat (first | with_reducible exact Below.refl _ _ | with_reducible refine below_drewN ?_ _ | with_reducible refine Below.drew ?_ | with_reducible refine Below.alloc ?_ (by simp) _ | with_reducible refine Below.setCell ?_ (by simp) _))
  · have hs4 : s.size = 4 := hsz
    rw [show rdArg 1 s = s32 s 0 by simp [rdArg], show rdCnt 1 s = 0 by simp [rdCnt]] at fin
    replace fin := hd fin
    go_enter Tryz.func149, Tryz.ntmps149
    go_wp2_with (fail)
    refine readI32_any _ _ (by omega) (by unfold maxLen; omega) _ ?_
    intro k
    go_wp2
    refine ret_row rfl rowStep infoStep w.heap.size 254 _ rfl rfl (blk6 (drew_new w _ k)) rfl ?_
    refine cl1 (fin.out _ ?_) rfl
    exact (by repeat (first | with_reducible exact Below.refl _ _ | with_reducible refine below_drewN ?_ _ | with_reducible refine Below.drew ?_ | with_reducible refine Below.alloc ?_ (by simp) _ | with_reducible refine Below.setCell ?_ (by simp) _))
  · have hs4 : s.size = 1 := hsz
    have hb0 := bt_of s 0 (by omega)
    have g0 := bt_le s 0
    have i0 : (0 : Int) < (s.size : Int) := by omega
    rw [show rdArg 2 s = bt s 0 by simp [rdArg], show rdCnt 2 s = 0 by simp [rdCnt]] at fin
    replace fin := hd fin
    go_enter Tryz.func149, Tryz.ntmps149
    go_wp2
    refine ret_row rfl rowStep infoStep w.heap.size 254 _ rfl rfl (heap_alloc_new _ _) rfl ?_
    refine cl1 (fin.out _ ?_) rfl
    exact (by repeat (first | with_reducible exact Below.refl _ _ | with_reducible refine below_drewN ?_ _ | with_reducible refine Below.drew ?_ | with_reducible refine Below.alloc ?_ (by simp) _ | with_reducible refine Below.setCell ?_ (by simp) _))
  · have hs4 : s.size = 2 := hsz
    have hb0 := bt_of s 0 (by omega)
    have g0 := bt_le s 0
    have hb1 := bt_of s 1 (by omega)
    have g1 := bt_le s 1
    have i0 : (0 : Int) < (s.size : Int) := by omega
    have i1 : (1 : Int) < (s.size : Int) := by omega
    rw [show rdArg 3 s = bt s 0 by simp [rdArg], show rdCnt 3 s = bt s 1 by simp [rdCnt]] at fin
    replace fin := hd fin
    go_enter Tryz.func149, Tryz.ntmps149
    go_wp2
    go_region
    go_wp2
    all_goals
      refine ret_row rfl rowStep infoStep w.heap.size 254 _ rfl rfl (heap_alloc_new _ _) rfl ?_
      refine cl1 (fin.out _ ?_) rfl
      exact (by repeat (first | with_reducible exact Below.refl _ _ | with_reducible refine below_drewN ?_ _ | with_reducible refine Below.drew ?_ | with_reducible refine Below.alloc ?_ (by simp) _ | with_reducible refine Below.setCell ?_ (by simp) _))
  · have hs4 : s.size = 2 := by rcases h45 with rfl | rfl <;> exact hsz
    rcases h45 with rfl | rfl
    all_goals
      rw [show rdArg _ s = (b16 s 0 : Nat) by simp [rdArg], show rdCnt _ s = 0 by simp [rdCnt]] at fin
      replace fin := hd fin
      go_enter Tryz.func149, Tryz.ntmps149
      go_wp2_with (fail)
      refine readU16_any _ _ (by omega) (by unfold maxLen; omega) _ ?_
      intro k
      go_wp2
      refine ret_row rfl rowStep infoStep w.heap.size 254 _ rfl rfl (blk6 (drew_new w _ k)) rfl ?_
      refine cl1 (fin.out _ ?_) rfl
      exact (by repeat (first | with_reducible exact Below.refl _ _ | with_reducible refine below_drewN ?_ _ | with_reducible refine Below.drew ?_ | with_reducible refine Below.alloc ?_ (by simp) _ | with_reducible refine Below.setCell ?_ (by simp) _))

set_option maxHeartbeats 400000 in
theorem operandSize_any (w : World) (o : Nat) (ho : o ≤ 5) (R : Ending → World → Prop) (fin : R (.returned (.int .i64 (osz0 o : Nat))) w) :
    Calls Tryz.prog 148 #[.int .u8 (o : Int)] w R := by
  replace fin := hd fin
  have hc : o = 0 ∨ o = 1 ∨ o = 2 ∨ o = 3 ∨ o = 4 ∨ o = 5 := by omega
  rcases hc with rfl | rfl | rfl | rfl | rfl | rfl
  all_goals
    go_enter Tryz.func148, Tryz.ntmps148
    go_wp2
    exact cl1 fin.out rfl

set_option maxHeartbeats 400000 in
theorem multiply_any (w : World) (a b : Int) (ha : 1 ≤ a ∧ a ≤ 65535) (hb : 0 ≤ b ∧ b ≤ 300000) (R : Ending → World → Prop)
    (fin : ∀ r, r = min (a * b) 200001 → R (.returned (.int .i64 r)) w) :
    Calls Tryz.prog 217 #[.int .i64 a, .int .i64 b] w R := by
  replace fin := hd fin
  have hm : 0 ≤ a * b := Int.mul_nonneg (by omega) (by omega)
  have hm2 : a * b ≤ 65535 * 300000 := by
    have h1 : a * b ≤ 65535 * b := Int.mul_le_mul_of_nonneg_right ha.2 hb.1
    omega
  have a0 : (a == 0) = false := by simp; omega
  by_cases hq : 200001 / a < b
  · have d : decide (200001 / a < b) = true := by simpa using hq
    have hge : 200001 < a * b := by
      have h2 : 200001 / a + 1 ≤ b := by omega
      have h3 := Int.lt_ediv_add_one_mul_self 200001 (show 0 < a by omega)
      have h4 : (200001 / a + 1) * a ≤ b * a := Int.mul_le_mul_of_nonneg_right h2 (by omega)
      have h5 : b * a = a * b := Int.mul_comm _ _
      omega
    replace hq := hd hq
    go_enter Tryz.func217, Tryz.ntmps217
    go_wp2
    exact cl1 (fin.out _ (by omega)) rfl
  · have d : decide (200001 / a < b) = false := by simpa using hq
    have hle : a * b ≤ 200001 := by
      have h2 : b ≤ 200001 / a := by omega
      have h3 : b * a ≤ (200001 / a) * a := Int.mul_le_mul_of_nonneg_right h2 (by omega)
      have h4 := Int.ediv_mul_le 200001 (show a ≠ 0 by omega)
      have h5 : b * a = a * b := Int.mul_comm _ _
      omega
    replace hq := hd hq
    go_enter Tryz.func217, Tryz.ntmps217
    go_wp2
    exact cl1 (fin.out _ (by omega)) rfl

theorem num_call (w : World) (a : Int) (R : Ending → World → Prop) (fin : R (.returned (.int .i64 a)) w) :
    Calls Tryz.prog 14 #[.int .i64 a] w R := by
  replace fin := hd fin
  go_enter Tryz.func14, Tryz.ntmps14
  go_wp2
  exact cl1 fin.out rfl
theorem bound_any (w : World) (b : Nat) (x : Int) (hx : w.cell? ⟨b, 2, none⟩ = some (.int .i64 x)) (R : Ending → World → Prop) (fin : R (.returned (.int .i64 x)) w) :
    Calls Tryz.prog 65 #[.pointer (some ⟨b, 0, none⟩)] w R := by
  replace fin := hd fin
  go_enter Tryz.func65, Tryz.ntmps65
  go_wp2
  exact cl1 fin.out rfl
theorem isEnd_any (w : World) (op : Nat) (b c d e f : Int) (R : Ending → World → Prop) (fin : ∀ w', Below w.heap.size w w' → R (.returned (.bool (decide (op = 0)))) w') :
    Calls Tryz.prog 152 #[.agg #[.int .u8 (op : Int), .int .i64 b, .int .i64 c, .int .i64 d, .int .i64 e, .int .i64 f]] w R := by
  replace fin := hd fin
  by_cases h : op = 0
  · have t : ((op : Int) == 0) = true := by simp [h]
    go_enter Tryz.func152, Tryz.ntmps152
    go_wp2
    exact cl1 (fin.out _ (by repeat (first | exact Below.refl _ _ | refine below_drewN ?_ _ | refine Below.drew ?_ | refine Below.alloc ?_ (by simp) _ | refine Below.setCell ?_ (by simp) _))) (by simp [h])
  · have t : ((op : Int) == 0) = false := by simp; omega
    go_enter Tryz.func152, Tryz.ntmps152
    go_wp2
    exact cl1 (fin.out _ (by repeat (first | exact Below.refl _ _ | refine below_drewN ?_ _ | refine Below.drew ?_ | refine Below.alloc ?_ (by simp) _ | refine Below.setCell ?_ (by simp) _))) (by simp [h])

end Go.Proofs.YtidhiaaicmfabaaGreatDoor

/- The contract of the machine's table of instructions. -/
namespace Go.Proofs.YtidhiaaicmfabaaGreatDoor
open Go.RowKit Go.Proofs Go.Deep

theorem bel_step {B : Nat} {w1 wc w' : World} (h : Below B w1 wc) (hB : B ≤ w1.heap.size) (hx : Below wc.heap.size wc w') : Below B w1 w' := h.trans (hx.mono (Nat.le_trans hB h.size))
structure Halt (p : Prop) : Prop where
  go : p
theorem stopAt {P : Program} {ops : Array Oper} {Q : Exit → Act → World → Prop} {rest : List Oper} {o : Oper} {a : Act} {w : World} (k : Nat) (_h : o.dst = some k) (h : Halt (wpList P ops Q (o :: rest) a w)) : wpList P ops Q (o :: rest) a w := h.go
theorem reckoned_any (w : World) (f : Fn) (R : Ending → World → Prop) (fin : ∀ p w', Below w.heap.size w w' → R (.returned (.func (.func 214) #[] p)) w') :
    Calls Tryz.prog 162 #[.func f #[] #[]] w R := by
  replace fin := hd fin
  go_enter Tryz.func162, Tryz.ntmps162
  go_wp2
  exact cl1 (fin.out _ _ (by repeat (first | with_reducible exact Below.refl _ _ | with_reducible refine below_drewN ?_ _ | with_reducible refine Below.drew ?_ | with_reducible refine Below.alloc ?_ (by simp) _ | with_reducible refine Below.setCell ?_ (by simp) _))) rfl
theorem divided_any (w : World) (f : Fn) (R : Ending → World → Prop) (fin : ∀ p w', Below w.heap.size w w' → R (.returned (.func (.func 215) #[] p)) w') :
    Calls Tryz.prog 166 #[.func f #[] #[]] w R := by
  replace fin := hd fin
  go_enter Tryz.func166, Tryz.ntmps166
  go_wp2
  exact cl1 (fin.out _ _ (by repeat (first | with_reducible exact Below.refl _ _ | with_reducible refine below_drewN ?_ _ | with_reducible refine Below.drew ?_ | with_reducible refine Below.alloc ?_ (by simp) _ | with_reducible refine Below.setCell ?_ (by simp) _))) rfl
theorem run_build_row (nm : ByteArray) (o : Int) (p q : Int) (g : Fn) (cp : Array Value) (w : World) : (Instr.build 211 #[(0, .string nm), (1, .int .u8 o), (2, .int .i64 p), (3, .int .i64 q), (4, .func g #[] cp)]).run Tryz.prog w = .ok (.agg #[.string nm, .int .u8 o, .int .i64 p, .int .i64 q, .func g #[] cp]) w := by
  simp [go_sem]
def IsRow (v : Value) (nm : ByteArray) (o p q : Int) (f : Value) : Prop := v = .agg #[.string nm, .int .u8 o, .int .i64 p, .int .i64 q, f]
theorem wpList_row {ops : Array Oper} {rest : List Oper} {o : Oper} {a : Act} {w : World} {Q : Exit → Act → World → Prop} (hgd : o.guard = none) (nm : ByteArray) (x p q : Int) (y : Operand) (g : Fn) (cp : Array Value)
    (ho : o.op = .build 211 #[(0, .const (.string nm)), (1, .const (.int .u8 x)), (2, .const (.int .i64 p)), (3, .const (.int .i64 q)), (4, y)]) (hy : a.eval y = .func g #[] cp)
    (h : ∀ r, Hid (IsRow r nm x p q (.func g #[] cp)) → wpList Tryz.prog ops Q rest (a.put o.dst r) w) : wpList Tryz.prog ops Q (o :: rest) a w := by
  refine wpList_plain hgd fun _ hK => ?_
  have h1 := run_build_row nm x p q g cp w
  have h2 : (#[(0, Operand.const (.string nm)), (1, .const (.int .u8 x)), (2, .const (.int .i64 p)), (3, .const (.int .i64 q)), (4, y)] : Array (Nat × Operand)).map (fun (i, x) => (i, a.eval x)) = #[(0, .string nm), (1, .int .u8 x), (2, .int .i64 p), (3, .int .i64 q), (4, .func g #[] cp)] := by
    rw [← hy]; simp [Act.eval]
  unfold Oper.wp execOp
  simp only [ho, h2, Sem.run_bind, h1, Result.andThen_ok, Sem.run_pure]
  exact hK _ _ (h _ rfl)

def tabC (fv : Nat → Value) : Array Value :=
  #[Value.string ⟨#[69, 78, 68]⟩, .int .u8 0, .int .i64 0, .int .i64 0, fv 0,
    Value.string ⟨#[78, 85, 77]⟩, .int .u8 1, .int .i64 0, .int .i64 1, fv 1,
    Value.string ⟨#[71, 69, 84]⟩, .int .u8 2, .int .i64 0, .int .i64 1, fv 2,
    Value.string ⟨#[83, 69, 84]⟩, .int .u8 2, .int .i64 1, .int .i64 0, fv 3,
    Value.string ⟨#[71, 69, 84, 88]⟩, .int .u8 3, .int .i64 1, .int .i64 1, fv 4,
    Value.string ⟨#[83, 69, 84, 88]⟩, .int .u8 3, .int .i64 2, .int .i64 0, fv 5,
    Value.string ⟨#[65, 68, 68]⟩, .int .u8 0, .int .i64 2, .int .i64 1, fv 6,
    Value.string ⟨#[83, 85, 66]⟩, .int .u8 0, .int .i64 2, .int .i64 1, fv 7,
    Value.string ⟨#[77, 85, 76]⟩, .int .u8 0, .int .i64 2, .int .i64 1, fv 8,
    Value.string ⟨#[68, 73, 86]⟩, .int .u8 0, .int .i64 2, .int .i64 1, fv 9,
    Value.string ⟨#[77, 79, 68]⟩, .int .u8 0, .int .i64 2, .int .i64 1, fv 10,
    Value.string ⟨#[69, 81]⟩, .int .u8 0, .int .i64 2, .int .i64 1, fv 11,
    Value.string ⟨#[76, 84]⟩, .int .u8 0, .int .i64 2, .int .i64 1, fv 12,
    Value.string ⟨#[78, 79, 84]⟩, .int .u8 0, .int .i64 1, .int .i64 1, fv 13,
    Value.string ⟨#[65, 78, 68]⟩, .int .u8 0, .int .i64 2, .int .i64 1, fv 14,
    Value.string ⟨#[79, 82]⟩, .int .u8 0, .int .i64 2, .int .i64 1, fv 15,
    Value.string ⟨#[83, 72, 79, 82, 84]⟩, .int .u8 0, .int .i64 1, .int .i64 1, fv 16,
    Value.string ⟨#[74, 85, 77, 80]⟩, .int .u8 4, .int .i64 0, .int .i64 0, fv 17,
    Value.string ⟨#[85, 78, 76, 69, 83, 83]⟩, .int .u8 4, .int .i64 1, .int .i64 0, fv 18,
    Value.string ⟨#[70, 79, 82]⟩, .int .u8 5, .int .i64 0, .int .i64 0, fv 19,
    Value.string ⟨#[78, 69, 88, 84]⟩, .int .u8 0, .int .i64 0, .int .i64 0, fv 20,
    Value.string ⟨#[84, 73, 77, 69, 82]⟩, .int .u8 2, .int .i64 2, .int .i64 1, fv 21]
def opnd (op : Nat) : Nat := if op = 1 then 1 else if op = 2 ∨ op = 3 ∨ op = 21 then 2 else if op = 4 ∨ op = 5 then 3 else if op = 17 ∨ op = 18 then 4 else if op = 19 then 5 else 0

theorem run_build_tab (g0 g1 g2 g3 g4 g5 g6 g7 g8 g9 g10 g11 g12 g13 g14 g15 g16 g17 g18 g19 g20 g21 : Fn) (c0 c1 c2 c3 c4 c5 c6 c7 c8 c9 c10 c11 c12 c13 c14 c15 c16 c17 c18 c19 c20 c21 : Array Value) (w : World) : (Instr.build 212 #[(0, .agg #[Value.string ⟨#[69, 78, 68]⟩, .int .u8 0, .int .i64 0, .int .i64 0, .func g0 #[] c0]),
      (1, .agg #[Value.string ⟨#[78, 85, 77]⟩, .int .u8 1, .int .i64 0, .int .i64 1, .func g1 #[] c1]),
      (2, .agg #[Value.string ⟨#[71, 69, 84]⟩, .int .u8 2, .int .i64 0, .int .i64 1, .func g2 #[] c2]),
      (3, .agg #[Value.string ⟨#[83, 69, 84]⟩, .int .u8 2, .int .i64 1, .int .i64 0, .func g3 #[] c3]),
      (4, .agg #[Value.string ⟨#[71, 69, 84, 88]⟩, .int .u8 3, .int .i64 1, .int .i64 1, .func g4 #[] c4]),
      (5, .agg #[Value.string ⟨#[83, 69, 84, 88]⟩, .int .u8 3, .int .i64 2, .int .i64 0, .func g5 #[] c5]),
      (6, .agg #[Value.string ⟨#[65, 68, 68]⟩, .int .u8 0, .int .i64 2, .int .i64 1, .func g6 #[] c6]),
      (7, .agg #[Value.string ⟨#[83, 85, 66]⟩, .int .u8 0, .int .i64 2, .int .i64 1, .func g7 #[] c7]),
      (8, .agg #[Value.string ⟨#[77, 85, 76]⟩, .int .u8 0, .int .i64 2, .int .i64 1, .func g8 #[] c8]),
      (9, .agg #[Value.string ⟨#[68, 73, 86]⟩, .int .u8 0, .int .i64 2, .int .i64 1, .func g9 #[] c9]),
      (10, .agg #[Value.string ⟨#[77, 79, 68]⟩, .int .u8 0, .int .i64 2, .int .i64 1, .func g10 #[] c10]),
      (11, .agg #[Value.string ⟨#[69, 81]⟩, .int .u8 0, .int .i64 2, .int .i64 1, .func g11 #[] c11]),
      (12, .agg #[Value.string ⟨#[76, 84]⟩, .int .u8 0, .int .i64 2, .int .i64 1, .func g12 #[] c12]),
      (13, .agg #[Value.string ⟨#[78, 79, 84]⟩, .int .u8 0, .int .i64 1, .int .i64 1, .func g13 #[] c13]),
      (14, .agg #[Value.string ⟨#[65, 78, 68]⟩, .int .u8 0, .int .i64 2, .int .i64 1, .func g14 #[] c14]),
      (15, .agg #[Value.string ⟨#[79, 82]⟩, .int .u8 0, .int .i64 2, .int .i64 1, .func g15 #[] c15]),
      (16, .agg #[Value.string ⟨#[83, 72, 79, 82, 84]⟩, .int .u8 0, .int .i64 1, .int .i64 1, .func g16 #[] c16]),
      (17, .agg #[Value.string ⟨#[74, 85, 77, 80]⟩, .int .u8 4, .int .i64 0, .int .i64 0, .func g17 #[] c17]),
      (18, .agg #[Value.string ⟨#[85, 78, 76, 69, 83, 83]⟩, .int .u8 4, .int .i64 1, .int .i64 0, .func g18 #[] c18]),
      (19, .agg #[Value.string ⟨#[70, 79, 82]⟩, .int .u8 5, .int .i64 0, .int .i64 0, .func g19 #[] c19]),
      (20, .agg #[Value.string ⟨#[78, 69, 88, 84]⟩, .int .u8 0, .int .i64 0, .int .i64 0, .func g20 #[] c20]),
      (21, .agg #[Value.string ⟨#[84, 73, 77, 69, 82]⟩, .int .u8 2, .int .i64 2, .int .i64 1, .func g21 #[] c21])]).run Tryz.prog w = .ok (.agg (tabC (fun i => [Value.func g0 #[] c0, Value.func g1 #[] c1, Value.func g2 #[] c2, Value.func g3 #[] c3, Value.func g4 #[] c4, Value.func g5 #[] c5, Value.func g6 #[] c6, Value.func g7 #[] c7, Value.func g8 #[] c8, Value.func g9 #[] c9, Value.func g10 #[] c10, Value.func g11 #[] c11, Value.func g12 #[] c12, Value.func g13 #[] c13, Value.func g14 #[] c14, Value.func g15 #[] c15, Value.func g16 #[] c16, Value.func g17 #[] c17, Value.func g18 #[] c18, Value.func g19 #[] c19, Value.func g20 #[] c20, Value.func g21 #[] c21].getD i undef))) w := by
  kernel_rfl
theorem wpList_build {P : Program} {ops : Array Oper} {rest : List Oper} {o : Oper} {a : Act} {w : World} {Q : Exit → Act → World → Prop} (hgd : o.guard = none) (t : TypeId) (parts : Array (Nat × Operand))
    (ho : o.op = .build t parts) (vs : Array (Nat × Value)) (hvs : parts.map (fun (i, x) => (i, a.eval x)) = vs) (v : Value) (hrun : (Instr.build t vs).run P w = .ok v w)
    (h : wpList P ops Q rest (a.put o.dst v) w) : wpList P ops Q (o :: rest) a w := by
  refine wpList_plain hgd fun _ hK => ?_
  unfold Oper.wp execOp
  simp only [ho, hvs, Sem.run_bind, hrun, Result.andThen_ok, Sem.run_pure]
  exact hK _ _ h
def TabOk (cs : Array Value) : Prop := cs.size = 110 ∧ cs.all (·.oneCell') = true ∧ ∃ (nm : Nat → ByteArray) (fv : Nat → Value), ∀ op, op < 22 →
  cs[op * 5]? = some (.string (nm op)) ∧ cs[op * 5 + 1]? = some (.int .u8 (opnd op : Nat)) ∧ cs[op * 5 + 2]? = some (.int .i64 (popsOf op : Nat)) ∧ cs[op * 5 + 3]? = some (.int .i64 (pushesOf op : Nat)) ∧ cs[op * 5 + 4]? = some (fv op) ∧ ∃ g c, fv op = .func g #[] c
theorem tabC_ok (fv : Nat → Value) (hf : ∀ i, i < 22 → ∃ g c, fv i = .func g #[] c) : TabOk (tabC fv) := by
  have h : ∀ i, i < 22 → (fv i).oneCell' = true := fun i hi => by obtain ⟨g, c, e⟩ := hf i hi; rw [e]; rfl
  refine ⟨rfl, ?_, fun i => ([⟨#[69, 78, 68]⟩, ⟨#[78, 85, 77]⟩, ⟨#[71, 69, 84]⟩, ⟨#[83, 69, 84]⟩, ⟨#[71, 69, 84, 88]⟩, ⟨#[83, 69, 84, 88]⟩, ⟨#[65, 68, 68]⟩, ⟨#[83, 85, 66]⟩, ⟨#[77, 85, 76]⟩, ⟨#[68, 73, 86]⟩, ⟨#[77, 79, 68]⟩, ⟨#[69, 81]⟩, ⟨#[76, 84]⟩, ⟨#[78, 79, 84]⟩, ⟨#[65, 78, 68]⟩, ⟨#[79, 82]⟩, ⟨#[83, 72, 79, 82, 84]⟩, ⟨#[74, 85, 77, 80]⟩, ⟨#[85, 78, 76, 69, 83, 83]⟩, ⟨#[70, 79, 82]⟩, ⟨#[78, 69, 88, 84]⟩, ⟨#[84, 73, 77, 69, 82]⟩] : List ByteArray).getD i ⟨#[]⟩, fv, fun op hop => ?_⟩
  · have e1 : ∀ s, (Value.string s).oneCell' = true := fun _ => rfl
    have e2 : ∀ k x, (Value.int k x).oneCell' = true := fun _ _ => rfl
    simp [tabC, e1, e2, h]
  · have hc : op = 0 ∨ op = 1 ∨ op = 2 ∨ op = 3 ∨ op = 4 ∨ op = 5 ∨ op = 6 ∨ op = 7 ∨ op = 8 ∨ op = 9 ∨ op = 10 ∨ op = 11 ∨ op = 12 ∨ op = 13 ∨ op = 14 ∨ op = 15 ∨ op = 16 ∨ op = 17 ∨ op = 18 ∨ op = 19 ∨ op = 20 ∨ op = 21 := by omega
    rcases hc with rfl | rfl | rfl | rfl | rfl | rfl | rfl | rfl | rfl | rfl | rfl | rfl | rfl | rfl | rfl | rfl | rfl | rfl | rfl | rfl | rfl | rfl <;> exact ⟨rfl, rfl, rfl, rfl, rfl, hf _ (by omega)⟩
theorem there_of_block {w : World} {g T n : Nat} {cs : Array Value} (hg : w.heap[g]? = some (.cells cs T (0, 0))) (hn : cs.size = n) : w.there g 0 n := by
  intro j hj
  rw [Nat.zero_add, cell_of_row w g j cs T (0, 0) hg]
  exact ⟨by simp; omega, by simp [World.frozen?, hg]⟩
theorem fv_fn {l : List Value} (h : ∀ v ∈ l, ∃ g c, v = .func g #[] c) (i : Nat) (hi : i < l.length) : ∃ g c, l.getD i undef = .func g #[] c := by
  rw [List.getD_eq_getElem?_getD, List.getElem?_eq_getElem hi]
  exact h _ (List.getElem_mem hi)
theorem wpList_tab {ops : Array Oper} {rest : List Oper} {o : Oper} {a : Act} {w : World} {Q : Exit → Act → World → Prop} (hgd : o.guard = none) (parts : Array (Nat × Operand))
    (ho : o.op = .build 212 parts) (g0 g1 g2 g3 g4 g5 g6 g7 g8 g9 g10 g11 g12 g13 g14 g15 g16 g17 g18 g19 g20 g21 : Fn) (c0 c1 c2 c3 c4 c5 c6 c7 c8 c9 c10 c11 c12 c13 c14 c15 c16 c17 c18 c19 c20 c21 : Array Value) (hvs : parts.map (fun (i, x) => (i, a.eval x)) = #[(0, .agg #[Value.string ⟨#[69, 78, 68]⟩, .int .u8 0, .int .i64 0, .int .i64 0, .func g0 #[] c0]),
      (1, .agg #[Value.string ⟨#[78, 85, 77]⟩, .int .u8 1, .int .i64 0, .int .i64 1, .func g1 #[] c1]),
      (2, .agg #[Value.string ⟨#[71, 69, 84]⟩, .int .u8 2, .int .i64 0, .int .i64 1, .func g2 #[] c2]),
      (3, .agg #[Value.string ⟨#[83, 69, 84]⟩, .int .u8 2, .int .i64 1, .int .i64 0, .func g3 #[] c3]),
      (4, .agg #[Value.string ⟨#[71, 69, 84, 88]⟩, .int .u8 3, .int .i64 1, .int .i64 1, .func g4 #[] c4]),
      (5, .agg #[Value.string ⟨#[83, 69, 84, 88]⟩, .int .u8 3, .int .i64 2, .int .i64 0, .func g5 #[] c5]),
      (6, .agg #[Value.string ⟨#[65, 68, 68]⟩, .int .u8 0, .int .i64 2, .int .i64 1, .func g6 #[] c6]),
      (7, .agg #[Value.string ⟨#[83, 85, 66]⟩, .int .u8 0, .int .i64 2, .int .i64 1, .func g7 #[] c7]),
      (8, .agg #[Value.string ⟨#[77, 85, 76]⟩, .int .u8 0, .int .i64 2, .int .i64 1, .func g8 #[] c8]),
      (9, .agg #[Value.string ⟨#[68, 73, 86]⟩, .int .u8 0, .int .i64 2, .int .i64 1, .func g9 #[] c9]),
      (10, .agg #[Value.string ⟨#[77, 79, 68]⟩, .int .u8 0, .int .i64 2, .int .i64 1, .func g10 #[] c10]),
      (11, .agg #[Value.string ⟨#[69, 81]⟩, .int .u8 0, .int .i64 2, .int .i64 1, .func g11 #[] c11]),
      (12, .agg #[Value.string ⟨#[76, 84]⟩, .int .u8 0, .int .i64 2, .int .i64 1, .func g12 #[] c12]),
      (13, .agg #[Value.string ⟨#[78, 79, 84]⟩, .int .u8 0, .int .i64 1, .int .i64 1, .func g13 #[] c13]),
      (14, .agg #[Value.string ⟨#[65, 78, 68]⟩, .int .u8 0, .int .i64 2, .int .i64 1, .func g14 #[] c14]),
      (15, .agg #[Value.string ⟨#[79, 82]⟩, .int .u8 0, .int .i64 2, .int .i64 1, .func g15 #[] c15]),
      (16, .agg #[Value.string ⟨#[83, 72, 79, 82, 84]⟩, .int .u8 0, .int .i64 1, .int .i64 1, .func g16 #[] c16]),
      (17, .agg #[Value.string ⟨#[74, 85, 77, 80]⟩, .int .u8 4, .int .i64 0, .int .i64 0, .func g17 #[] c17]),
      (18, .agg #[Value.string ⟨#[85, 78, 76, 69, 83, 83]⟩, .int .u8 4, .int .i64 1, .int .i64 0, .func g18 #[] c18]),
      (19, .agg #[Value.string ⟨#[70, 79, 82]⟩, .int .u8 5, .int .i64 0, .int .i64 0, .func g19 #[] c19]),
      (20, .agg #[Value.string ⟨#[78, 69, 88, 84]⟩, .int .u8 0, .int .i64 0, .int .i64 0, .func g20 #[] c20]),
      (21, .agg #[Value.string ⟨#[84, 73, 77, 69, 82]⟩, .int .u8 2, .int .i64 2, .int .i64 1, .func g21 #[] c21])])
    (h : ∀ fv : Nat → Value, (∀ i, i < 22 → ∃ g c, fv i = .func g #[] c) → wpList Tryz.prog ops Q rest (a.put o.dst (.agg (tabC fv))) w) : wpList Tryz.prog ops Q (o :: rest) a w :=
  wpList_build hgd 212 parts ho _ hvs _ (run_build_tab g0 g1 g2 g3 g4 g5 g6 g7 g8 g9 g10 g11 g12 g13 g14 g15 g16 g17 g18 g19 g20 g21 c0 c1 c2 c3 c4 c5 c6 c7 c8 c9 c10 c11 c12 c13 c14 c15 c16 c17 c18 c19 c20 c21 w) (h _ (fun i hi => fv_fn (l := [Value.func g0 #[] c0, Value.func g1 #[] c1, Value.func g2 #[] c2, Value.func g3 #[] c3, Value.func g4 #[] c4, Value.func g5 #[] c5, Value.func g6 #[] c6, Value.func g7 #[] c7, Value.func g8 #[] c8, Value.func g9 #[] c9, Value.func g10 #[] c10, Value.func g11 #[] c11, Value.func g12 #[] c12, Value.func g13 #[] c13, Value.func g14 #[] c14, Value.func g15 #[] c15, Value.func g16 #[] c16, Value.func g17 #[] c17, Value.func g18 #[] c18, Value.func g19 #[] c19, Value.func g20 #[] c20, Value.func g21 #[] c21]) (by intro v hv; simp only [List.mem_cons, List.not_mem_nil, or_false] at hv; rcases hv with rfl | rfl | rfl | rfl | rfl | rfl | rfl | rfl | rfl | rfl | rfl | rfl | rfl | rfl | rfl | rfl | rfl | rfl | rfl | rfl | rfl | rfl <;> exact ⟨_, _, rfl⟩) i hi))
theorem below_setCells {B b : Nat} {w : World} (hb : B ≤ b) : ∀ (vs : List Value) (o : Nat) (wx : World), Below B w wx → Below B w (wx.setCells b o vs)
  | [], _, _, h => h
  | v :: r, o, wx, h => by
    rw [World.setCells]
    exact below_setCells hb r (o + 1) _ (h.setCell hb v)
/-- A result that lies in a cell of its own, by its range. -/
theorem ret_range {fn : Func} {R : Ending → World → Prop} {a : Act} {w : World} {p : Tmp} {ty n : Nat} (h : fn.results = #[.cell p ty]) (hrow : (Tryz.prog.underlying ty).map TypeDesc.isRow = some true) (hi : (Tryz.prog.info? ty).map (·.size) = some n)
    (g : Nat) (cs : Array Value) (hn : cs.size = n) (hp : a.tmps.getD p undef = .pointer (some ⟨g, 0, none⟩)) (hg : w.rangeAt g 0 cs.toList) (hd : a.defers = []) (hR : R (.returned (.agg cs)) w) : bodyPost Tryz.prog fn R .ret a w := by
  obtain ⟨d, h1, h2⟩ := Option.map_eq_some_iff.1 hrow
  have hl := run_loadVar_mid w g 0 ty cs.toList d hg h1 h2 (by rw [hi, ← hn]; simp)
  refine bodyPost_ret ?_ hd hR
  have hp' : a.tmps[p]?.getD undef = .pointer (some ⟨g, 0, none⟩) := by simpa using hp
  simp [results, h, hp', asAddr, hl]
theorem rowTab : (Tryz.prog.underlying 212).map TypeDesc.isRow = some true := by kernel_rfl
theorem infoTab : (Tryz.prog.info? 212).map (·.size) = some 110 := by kernel_rfl
set_option maxRecDepth 100000 in
set_option maxHeartbeats 4000000 in
theorem table_fv (w : World) (R : Ending → World → Prop) (fin : ∀ fv w', (∀ i, i < 22 → ∃ g c, fv i = .func g #[] c) → Below w.heap.size w w' → R (.returned (.agg (tabC fv))) w') :
    Calls Tryz.prog 108 #[] w R := by
  replace fin := hd fin
  have hbel : Hid (Below (w.heap.size + 1) (w.alloc (Obj.cells Tryz.zeroCells212 212)) (w.alloc (Obj.cells Tryz.zeroCells212 212))) := hd (Below.refl _ _)
  go_enter Tryz.func108, Tryz.ntmps108
  go_wp2_with (first | (go_at_call 162; refine reckoned_any _ _ _ ?_; intro p wx hx; replace hbel := hd (bel_step hbel.out (by simp) hx); clear hx) | (go_at_call 166; refine divided_any _ _ _ ?_; intro p wx hx; replace hbel := hd (bel_step hbel.out (by simp) hx); clear hx) | (refine stopAt 34 rfl ?_) | (refine wpList_row rfl _ _ _ _ _ _ _ rfl rfl ?_; intro r hr))
  refine ⟨?_⟩
  replace hbel := hbel.out
  have hfresh : wx.heap[w.heap.size]? = some (.cells Tryz.zeroCells212 212 (0, 0)) := by rw [hbel.block _ (by omega)]; exact heap_alloc_new _ _
  have hbel2 : Below w.heap.size w wx := (Below.alloc (Below.refl _ _) (Nat.le_refl _) _).trans (hbel.mono (by omega))
  clear hbel
  simp only [IsRow, Hid] at *
  subst_vars
  refine wpList_tab rfl _ rfl _ _ _ _ _ _ _ _ _ _ _ _ _ _ _ _ _ _ _ _ _ _ _ _ _ _ _ _ _ _ _ _ _ _ _ _ _ _ _ _ _ _ _ _ (by simp [Act.eval]; repeat' (first | apply And.intro | rfl)) ?_
  intro fv hfv
  refine wpList_store_mid rfl 212 _ _ rfl w.heap.size 0 (tabC fv) rfl rfl (there_of_block hfresh (by rfl)) infoTab (tabC_ok fv hfv).2.1 ?_
  have hnew : (wx.setCells w.heap.size 0 (tabC fv).toList).rangeAt w.heap.size 0 (tabC fv).toList := World.rangeAt_setCells_same wx w.heap.size 0 _ (there_of_block hfresh (by rfl))
  have hbel3 : Below w.heap.size w (wx.setCells w.heap.size 0 (tabC fv).toList) := below_setCells (Nat.le_refl _) _ _ _ hbel2
  generalize wx.setCells w.heap.size 0 (tabC fv).toList = wy at *
  generalize hcs : tabC fv = cs at *
  replace fin := hd fin
  replace hnew := hd hnew
  replace hbel3 := hd hbel3
  replace hfv := hd hfv
  replace hcs := hd hcs
  clear hfresh hbel2
  go_wp2
  refine ret_range rfl rowTab infoTab w.heap.size cs (by rw [← hcs.out]; rfl) rfl hnew.out rfl ?_
  have := fin.out fv wy hfv.out hbel3.out
  rw [hcs.out] at this
  exact this
theorem table_any (w : World) (R : Ending → World → Prop) (fin : ∀ cs w', TabOk cs → Below w.heap.size w w' → R (.returned (.agg cs)) w') :
    Calls Tryz.prog 108 #[] w R := table_fv w R (fun fv w' hfv hb => fin _ w' (tabC_ok fv hfv) hb)

end Go.Proofs.YtidhiaaicmfabaaGreatDoor

/- The contracts of readCells and readCode. -/
namespace Go.Proofs.YtidhiaaicmfabaaGreatDoor
open Go.RowKit Go.Proofs Go.Deep

theorem infoVCell : (Tryz.prog.info? 129).map (fun i => (i.zero, i.size, i.bytes)) = some (some (.agg #[.int .u8 0, .int .u8 0, .int .i32 0]), 3, 8) := by kernel_rfl
theorem ulVCells : Tryz.prog.underlying 112 = some (.slice 129) := by kernel_rfl
theorem run_make_tab (t e : TypeId) (z : Value) (size bytes : Nat) (ht : Tryz.prog.underlying t = some (.slice e)) (hinfo : (Tryz.prog.info? e).map (fun i => (i.zero, i.size, i.bytes)) = some (some z, size, bytes))
    (n : Nat) (hbytes : bytes * n ≤ 281474976710656) (h63 : n ≤ 9223372036854775807) (w : World) :
    (Instr.makeSlice t (.int .i64 (n : Int)) (.int .i64 (n : Int))).run Tryz.prog w = .ok (.slice (some ⟨w.heap.size, 0, none⟩) n n) (w.alloc (.cells (madeCells z.cells (n * size)) e)) := by
  obtain ⟨i, hi, hzz⟩ := Option.map_eq_some_iff.1 hinfo
  simp only [Prod.mk.injEq] at hzz
  obtain ⟨hz, hs, hb⟩ := hzz
  have hb' : (i.bytes : Int) * (n : Int) ≤ 281474976710656 := by
    rw [hb]
    have h : ((bytes * n : Nat) : Int) ≤ 281474976710656 := by omega
    rwa [Int.natCast_mul] at h
  have hr := run_make (P := Tryz.prog) w t e i z ht hi hz .i64 .i64 n n (by omega) (Int.le_refl _) hb' (by omega)
  simp only [Int.toNat_natCast, hs] at hr
  exact hr
theorem made_tab (w : World) (T n : Nat) (z0 z1 z2 : Value) : Tab (w.alloc (.cells (madeCells #[z0, z1, z2] (n * 3)) T)) w.heap.size T 3 n n (fun _ f => if f = 0 then z0 else if f = 1 then z1 else z2) := by
  refine ⟨_, heap_alloc_new _ _, by simp [madeCells], Nat.le_refl _, fun i hi f hf => ?_⟩
  have h1 : i * 3 + f < n * 3 := by omega
  have h2 : (i * 3 + f) % 3 = f := by omega
  simp only [madeCells, Array.getElem?_map, Array.getElem?_range, h1, if_true, Option.map_some, List.size_toArray, List.length_cons, List.length_nil, Nat.zero_add, Nat.reduceAdd, h2]
  have hc : f = 0 ∨ f = 1 ∨ f = 2 := by omega
  rcases hc with rfl | rfl | rfl <;> rfl
def cellA (rl kd : Nat → Nat) (i f : Nat) : Value := if f = 0 then .int .u8 (rl i : Int) else if f = 1 then .int .u8 (kd i : Int) else .int .i32 0
theorem cellA_0 (rl kd : Nat → Nat) (i : Nat) : cellA rl kd i 0 = .int .u8 (rl i : Int) := rfl
theorem cellA_1 (rl kd : Nat → Nat) (i : Nat) : cellA rl kd i 1 = .int .u8 (kd i : Int) := rfl
theorem cellA_2 (rl kd : Nat → Nat) (i : Nat) : cellA rl kd i 2 = .int .i32 0 := rfl
theorem Tab.set3 {w : World} {b T n cap : Nat} {A : Nat → Nat → Value} (h : Tab w b T 3 n cap A) (i : Nat) (v0 v1 v2 : Value) :
    Tab (((w.setCell ⟨b, i * 3, none⟩ v0).setCell ⟨b, i * 3 + 1, none⟩ v1).setCell ⟨b, i * 3 + 2, none⟩ v2) b T 3 n cap (fun j g => if j = i then (if g = 0 then v0 else if g = 1 then v1 else v2) else A j g) := by
  refine (((h.set i 0 (by omega) v0).set i 1 (by omega) v1).set i 2 (by omega) v2).congr fun j _ g hg => ?_
  by_cases e : j = i
  · have hc : g = 0 ∨ g = 1 ∨ g = 2 := by omega
    rcases hc with rfl | rfl | rfl <;> simp [e]
  · simp [e]

set_option maxRecDepth 100000 in
set_option maxHeartbeats 1000000 in
theorem readCells_any (w : World) (s : ByteArray) (hs : s.size ≤ 100) (R : Ending → World → Prop)
    (no : (∃ i, i < s.size ∧ 8 < bt s i) → ∀ w', Below w.heap.size w w' → R (.returned (.tuple #[.slice none 0 0, .bool false])) w')
    (yes : (∀ i, i < s.size → bt s i ≤ 8) → ∀ w', Below w.heap.size w w' → Tab w' w.heap.size 129 3 s.size s.size (cellA (fun i => bt s i / 3) (fun i => bt s i % 3)) → R (.returned (.tuple #[.slice (some ⟨w.heap.size, 0, none⟩) s.size s.size, .bool true])) w') :
    Calls Tryz.prog 101 #[.string s] w R := by
  replace yes := hd yes
  replace no := hd no
  have hmk := run_make_tab 112 129 _ _ _ ulVCells infoVCell s.size (by omega) (by omega)
  go_enter Tryz.func101, Tryz.ntmps101
  go_wp2
  go_loopw [12] (fun i wr => ∃ k : Nat, k ≤ s.size ∧ i = .int .i64 k ∧ Below w.heap.size w wr ∧ (∀ j, j < k → bt s j ≤ 8) ∧
      Tab wr w.heap.size 129 3 s.size s.size (fun i f => if i < k then cellA (fun i => bt s i / 3) (fun i => bt s i % 3) i f else if f = 0 then .int .u8 0 else if f = 1 then .int .u8 0 else .int .i32 0)) (fun i _ => s.size - (intOf i).toNat)
  case atStart => exact ⟨0, by omega, rfl, (by repeat (first | with_reducible exact Below.refl _ _ | with_reducible refine below_drewN ?_ _ | with_reducible refine Below.drew ?_ | with_reducible refine Below.alloc ?_ (by simp) _ | with_reducible refine Below.setCell ?_ (by simp) _)), by omega, (made_tab w 129 s.size _ _ _).congr (fun i _ f _ => by simp)⟩
  case round =>
    obtain ⟨k, hk, rfl, hbel, hall, htab⟩ := hrel
    replace hbel := hd hbel
    replace hall := hd hall
    by_cases hlt : k < s.size
    · have hb := bt_of s k hlt
      have hle := bt_le s k
      have c0 := htab.cell0 hlt (by omega)
      have c1 := htab.cell hlt (f := 1) (by omega)
      have c2 := htab.cell hlt (f := 2) (by omega)
      simp only [Nat.lt_irrefl, if_false, if_true, Nat.reduceEqDiff] at c0 c1 c2
      have fz := fun o => htab.frozen o
      replace htab := hd htab
      by_cases h8 : bt s k ≤ 8
      · have d8 : decide ((9 : Int) ≤ (bt s k : Int)) = false := by simp; omega
        go_wp2
        refine ⟨⟨k + 1, by omega, by go_num, ((hbel.out.setCell (Nat.le_refl _) _).setCell (Nat.le_refl _) _).setCell (Nat.le_refl _) _, ?_, (htab.out.set3 k _ _ _).congr (fun j _ f hf => ?_)⟩, by simp [intOf]; omega⟩
        · intro j hj
          by_cases e : j = k
          · subst e; exact h8
          · exact hall.out j (by omega)
        · by_cases e : j = k
          · subst e
            have hc : f = 0 ∨ f = 1 ∨ f = 2 := by omega
            rcases hc with rfl | rfl | rfl <;> simp [cellA]
          · have e2 : (j < k + 1) ↔ (j < k) := by omega
            simp [e, e2]
      · have d8 : decide ((9 : Int) ≤ (bt s k : Int)) = true := by simp; omega
        go_wp2
        exact cl1 (no.out ⟨k, hlt, by omega⟩ _ hbel.out) rfl
    · have hkn : k = s.size := by omega
      subst hkn
      go_wp2
      exact cl1 (yes.out hall.out _ hbel.out (htab.congr (fun i hi f _ => if_pos hi))) rfl

def vArg (s : ByteArray) (a : Nat) : Int := if bt s a = 1 then s32 s (a + 1) else if bt s a = 2 ∨ bt s a = 3 ∨ bt s a = 21 ∨ bt s a = 4 ∨ bt s a = 5 then (bt s (a + 1) : Int) else if bt s a = 17 ∨ bt s a = 18 ∨ bt s a = 19 then (b16 s (a + 1) : Int) else 0
def vCnt (s : ByteArray) (a : Nat) : Int := if bt s a = 4 ∨ bt s a = 5 then (bt s (a + 2) : Int) else 0
def stC (s : ByteArray) (a : Nat) : List Value := [.int .u8 (bt s a : Int), .int .i64 a, .int .i64 (vArg s a), .int .i64 (vCnt s a), .int .i64 0, .int .i64 0]
theorem bt_extract (s : ByteArray) (b e i : Nat) (h : b + i < e) (he : e ≤ s.size) : bt (s.extract b e) i = bt s (b + i) := by
  unfold bt
  have h1 : i < (s.extract b e).size := by rw [ByteArray.size_extract]; omega
  have h2 : b + i < s.size := by omega
  rw [dif_pos h1, dif_pos h2]
  congr 1
  simp [ByteArray.getElem_eq_getElem_data, ByteArray.data_extract]
theorem osz_opnd (op : Nat) (h : op < 22) : osz op = 1 + osz0 (opnd op) := by
  have hc : op = 0 ∨ op = 1 ∨ op = 2 ∨ op = 3 ∨ op = 4 ∨ op = 5 ∨ op = 6 ∨ op = 7 ∨ op = 8 ∨ op = 9 ∨ op = 10 ∨ op = 11 ∨ op = 12 ∨ op = 13 ∨ op = 14 ∨ op = 15 ∨ op = 16 ∨ op = 17 ∨ op = 18 ∨ op = 19 ∨ op = 20 ∨ op = 21 := by omega
  rcases hc with rfl | rfl | rfl | rfl | rfl | rfl | rfl | rfl | rfl | rfl | rfl | rfl | rfl | rfl | rfl | rfl | rfl | rfl | rfl | rfl | rfl | rfl <;> rfl
theorem osz_big (op : Nat) (h : 22 ≤ op) : osz op = 0 := by unfold osz; (repeat' split) <;> omega
theorem opnd_le (op : Nat) : opnd op ≤ 5 := by unfold opnd; (repeat' split) <;> omega
theorem osz0_le (o : Nat) : osz0 o ≤ 4 := by unfold osz0; (repeat' split) <;> omega
theorem rd_arg (s : ByteArray) (a : Nat) (h : bt s a < 22) (hf : a + osz (bt s a) ≤ s.size) : rdArg (opnd (bt s a)) (s.extract (a + 1) (a + 1 + osz0 (opnd (bt s a)))) = vArg s a ∧ rdCnt (opnd (bt s a)) (s.extract (a + 1) (a + 1 + osz0 (opnd (bt s a)))) = vCnt s a := by
  rw [osz_opnd _ h] at hf
  generalize hop : bt s a = op at *
  have hx : ∀ i, i < osz0 (opnd op) → bt (s.extract (a + 1) (a + 1 + osz0 (opnd op))) i = bt s (a + 1 + i) := fun i hi => bt_extract s _ _ i (by omega) (by omega)
  unfold vArg vCnt
  rw [hop]
  have hc : op = 0 ∨ op = 1 ∨ op = 2 ∨ op = 3 ∨ op = 4 ∨ op = 5 ∨ op = 6 ∨ op = 7 ∨ op = 8 ∨ op = 9 ∨ op = 10 ∨ op = 11 ∨ op = 12 ∨ op = 13 ∨ op = 14 ∨ op = 15 ∨ op = 16 ∨ op = 17 ∨ op = 18 ∨ op = 19 ∨ op = 20 ∨ op = 21 := by omega
  rcases hc with rfl | rfl | rfl | rfl | rfl | rfl | rfl | rfl | rfl | rfl | rfl | rfl | rfl | rfl | rfl | rfl | rfl | rfl | rfl | rfl | rfl | rfl
  all_goals simp only [opnd, osz0, reduceIte, Nat.reduceEqDiff, or_false, or_true, or_self] at hx ⊢
  all_goals simp [rdArg, rdCnt, s32, b32, b16, hx, Nat.add_assoc]
theorem size_setCells (b : Nat) : ∀ (vs : List Value) (o : Nat) (w : World), (w.setCells b o vs).heap.size = w.heap.size
  | [], _, _ => rfl
  | v :: r, o, w => by rw [World.setCells, size_setCells b r (o + 1), World.size_setCell]
theorem own_below {w w' : World} {base e size : Nat} {v : Value} {n : Nat} {xs : List Value} (h : w.ownsRow base e size v n xs) (hb : Below w.heap.size w w') : w'.ownsRow base e size v n xs :=
  h.kept (row := none) ⟨hb.os, hb.tape, hb.output, hb.size, fun i hi _ => hb.block i hi⟩ (by cases v.ownBlock <;> simp)
theorem own_sl {w : World} {base e size : Nat} {v : Value} {n : Nat} {xs : List Value} (h : w.ownsRow base e size v n xs) : ∃ ao cap, v = .slice ao n cap := by
  rcases h.2 with ⟨rfl, rfl⟩ | ⟨g, cap, cur, rfl, _⟩
  · exact ⟨none, 0, rfl⟩
  · exact ⟨_, cap, rfl⟩
theorem own_base {w : World} {base base' e size : Nat} {v : Value} {n : Nat} {xs : List Value} (h : w.ownsRow base e size v n xs) (hb : base' ≤ base) : w.ownsRow base' e size v n xs := by
  refine ⟨h.1, ?_⟩
  rcases h.2 with h2 | ⟨g, cap, cur, h3, h4, h5⟩
  · exact .inl h2
  · exact .inr ⟨g, cap, cur, h3, Nat.le_trans hb h4, h5⟩
theorem fresh6 {W w2 : World} {T : Nat} {v0 v1 v2 v3 v4 v5 : Value} (hb : Below (W.alloc (.cells #[v0, v1, v2, v3, v4, v5] T)).drew.heap.size (W.alloc (.cells #[v0, v1, v2, v3, v4, v5] T)).drew w2) : w2.heap[W.heap.size]? = some (.cells #[v0, v1, v2, v3, v4, v5] T (0, 0)) := (hb.block _ (by simp)).trans (heap_alloc_new W _)
theorem six {w : World} {g T : Nat} {v0 v1 v2 v3 v4 v5 : Value} (h : w.heap[g]? = some (.cells #[v0, v1, v2, v3, v4, v5] T (0, 0))) :
    w.cell? ⟨g, 0, none⟩ = some v0 ∧ w.cell? ⟨g, 1, none⟩ = some v1 ∧ w.cell? ⟨g, 2, none⟩ = some v2 ∧ w.cell? ⟨g, 3, none⟩ = some v3 ∧ w.cell? ⟨g, 4, none⟩ = some v4 ∧ w.cell? ⟨g, 5, none⟩ = some v5 ∧ ∀ j, w.frozen? ⟨g, j, none⟩ = false := by
  refine ⟨?_, ?_, ?_, ?_, ?_, ?_, fun j => by simp [World.frozen?, h]⟩ <;> rw [cell_of_row w g _ _ T (0, 0) h] <;> rfl
theorem six_then {C : Prop} {w : World} {g T : Nat} {v0 v1 v2 v3 v4 v5 : Value} (h : w.heap[g]? = some (.cells #[v0, v1, v2, v3, v4, v5] T (0, 0)))
    (k : w.cell? ⟨g, 0, none⟩ = some v0 → w.cell? ⟨g, 1, none⟩ = some v1 → w.cell? ⟨g, 2, none⟩ = some v2 → w.cell? ⟨g, 3, none⟩ = some v3 → w.cell? ⟨g, 4, none⟩ = some v4 → w.cell? ⟨g, 5, none⟩ = some v5 → (∀ j, w.frozen? ⟨g, j, none⟩ = false) → Hid (w.heap[g]? = some (.cells #[v0, v1, v2, v3, v4, v5] T (0, 0))) → C) : C := by
  obtain ⟨q0, q1, q2, q3, q4, q5, qf⟩ := six h
  exact k q0 q1 q2 q3 q4 q5 qf h
theorem readOperand_var (w : World) (o : Nat) (s : ByteArray) (ho : o ≤ 5) (hsz : s.size = osz0 o) (R : Ending → World → Prop)
    (fin : ∀ (A C : Int) w', Hid (A = rdArg o s) → Hid (C = rdCnt o s) → Below w.heap.size w w' → R (.returned (.agg #[.int .u8 0, .int .i64 0, .int .i64 A, .int .i64 C, .int .i64 0, .int .i64 0])) w') :
    Calls Tryz.prog 149 #[.int .u8 (o : Int), .string s] w R := readOperand_any w o s ho hsz R (fun w' h => fin _ _ w' rfl rfl h)
theorem own_nextV {w1 : World} {base T : Nat} {v1 : Value} {s : ByteArray} {l : List Nat} {a : Nat} {news : List Value}
    (h : w1.ownsRow base T 6 v1 (l.length + 1) (l.flatMap (stC s) ++ news)) (e : news = stC s a) : w1.ownsRow base T 6 v1 (l ++ [a]).length ((l ++ [a]).flatMap (stC s)) := by
  subst e; simpa using h
theorem infoStep3 : (Tryz.prog.info? 254).map (fun i => (i.zero, i.size, i.bytes)) = some (some (.agg #[.int .u8 0, .int .i64 0, .int .i64 0, .int .i64 0, .int .i64 0, .int .i64 0]), 6, 48) := by kernel_rfl
theorem ulSteps : Tryz.prog.underlying 113 = some (.slice 254) := by kernel_rfl
theorem oneC6V (s : ByteArray) (a : Nat) : ∀ u ∈ stC s a, u.oneCell' = true := by
  intro u hu; simp only [stC, List.mem_cons, List.not_mem_nil, or_false] at hu; rcases hu with rfl | rfl | rfl | rfl | rfl | rfl <;> rfl
set_option maxRecDepth 100000 in
set_option maxHeartbeats 4000000 in
theorem readCode_any (w : World) (s : ByteArray) (hs : s.size ≤ 8000) (R : Ending → World → Prop)
    (no : posF s (s.size + 1) 0 = none → ∀ w', Below w.heap.size w w' → R (.returned (.tuple #[.slice none 0 0, .bool false])) w')
    (yes : ∀ l, posF s (s.size + 1) 0 = some l → ∀ v w', Below w.heap.size w w' → w'.ownsRow w.heap.size 254 6 v l.length (l.flatMap (stC s)) → R (.returned (.tuple #[v, .bool true])) w') :
    Calls Tryz.prog 103 #[.string s] w R := by
  replace yes := hd yes
  replace no := hd no
  go_enter Tryz.func103, Tryz.ntmps103
  go_wp2_with (fail)
  refine table_any _ _ ?_
  intro cs w1 htab hbel1
  obtain ⟨hn, hone, nm, fv, hrow⟩ := htab
  have hthere : (w1.alloc (Obj.cells Tryz.zeroCells212 212)).there w1.heap.size 0 cs.size := there_of_block (heap_alloc_new _ _) (by rw [hn]; rfl)
  have hinfo : (Tryz.prog.info? 212).map (·.size) = some cs.size := by rw [hn]; exact infoTab
  have hrange := World.rangeAt_setCells_same _ w1.heap.size 0 cs.toList (by simpa using hthere)
  have hbel0 : Below w.heap.size w ((w1.alloc (Obj.cells Tryz.zeroCells212 212)).setCells w1.heap.size 0 cs.toList) := below_setCells hbel1.size _ _ _ (hbel1.alloc hbel1.size _)
  have hsz0 : ((w1.alloc (Obj.cells Tryz.zeroCells212 212)).setCells w1.heap.size 0 cs.toList).heap.size = w1.heap.size + 1 := by
    rw [size_setCells]; simp
  have hop : ∀ op, op < 22 → ((w1.alloc (Obj.cells Tryz.zeroCells212 212)).setCells w1.heap.size 0 cs.toList).cell? ⟨w1.heap.size, op * 5 + 1, none⟩ = some (.int .u8 (opnd op : Nat)) := fun op h => by
    have := hrange (op * 5 + 1) _ (by rw [Array.getElem?_toList]; exact (hrow op h).2.1)
    simpa using this
  have hle1 := hbel1.size
  replace hop := hd hop
  replace hrange := hd hrange
  replace hbel0 := hd hbel0
  replace hsz0 := hd hsz0
  replace hrow := hd hrow
  replace hbel1 := hd hbel1
  replace hthere := hd hthere
  replace hinfo := hd hinfo
  replace hone := hd hone
  go_wp2_with (refine wpList_store_mid rfl 212 _ _ rfl w1.heap.size 0 cs rfl rfl hthere.out hinfo.out hone.out ?_; generalize ((w1.alloc (Obj.cells Tryz.zeroCells212 212)).setCells w1.heap.size 0 cs.toList) = W0 at *)
  clear hthere hinfo hone hrange hrow hbel1
  generalize hb4 : w1.heap.size = b4 at *
  clear hb4
  go_loopw [5, 6] (fun out i wr => ∃ (l : List Nat) (a : Nat), a ≤ s.size ∧ l.length ≤ a ∧ i = .int .i64 a ∧ wr.ownsRow (b4 + 1) 254 6 out l.length (l.flatMap (stC s)) ∧ Below (b4 + 1) W0 wr ∧
      posF s (s.size + 1) 0 = (posF s (s.size + 1 - l.length) a).map (l ++ ·)) (fun _ i _ => s.size - (intOf i).toNat)
  case atStart => exact ⟨[], 0, by omega, by simp, rfl, World.ownsRow_nil _ _ _ _, Below.refl _ _, by simp⟩
  case round =>
    obtain ⟨l, a, ha, hla, rfl, hown, hbel, hpos⟩ := hrel
    have hbs : b4 + 1 ≤ wr.heap.size := by have := hbel.size; have := hsz0.out; omega
    have hml : l.length + 1 ≤ maxLen := by unfold maxLen; omega
    have hml2 : (l.length + 1) * 48 ≤ 140737488355328 := by omega
    have hbw : Hid (Below w.heap.size w wr) := hd (hbel0.out.trans (hbel.mono (by omega)))
    by_cases hlt : a < s.size
    · have hb0 := bt_of s a hlt
      have hle := bt_le s a
      replace hown := hd hown
      replace hpos := hd hpos
      by_cases h22 : 22 ≤ bt s a
      · have d22 : decide ((22 : Int) ≤ (bt s a : Int)) = true := by simp; omega
        replace hbel := hd hbel
        go_wp2
        exact cl1 (no.out (posF_bad s _ a l hpos.out (by omega) hlt (.inl (osz_big _ h22))) _ hbw.out) rfl
      · have d22 : decide ((22 : Int) ≤ (bt s a : Int)) = false := by simp; omega
        have i22 : (bt s a : Int) < 22 := by omega
        have c1 : wr.cell? ⟨b4, bt s a * 5 + 1, none⟩ = some (.int .u8 (opnd (bt s a) : Nat)) := by rw [hbel.cell (by simp)]; exact hop.out _ (by omega)
        have hos := osz_opnd (bt s a) (by omega)
        have ho5 := opnd_le (bt s a)
        have ho4 := osz0_le (opnd (bt s a))
        replace hbel := hd hbel
        by_cases hfit : a + osz (bt s a) ≤ s.size
        · have dfit : decide ((s.size : Int) < (a : Int) + 1 + (osz0 (opnd (bt s a)) : Int)) = false := by simp; omega
          have hrd := rd_arg s a (by omega) hfit
          have j1 : 0 ≤ (a : Int) + 1 ∧ (a : Int) + 1 ≤ (a : Int) + 1 + (osz0 (opnd (bt s a)) : Int) := by omega
          have j2 : (a : Int) + 1 + (osz0 (opnd (bt s a)) : Int) ≤ (s.size : Int) := by omega
          replace hrd := hd hrd
          have hb4lt : b4 < wr.heap.size := by omega
          replace hos := hd hos
          go_wp2_with (first | (go_at_call 148; refine operandSize_any _ _ ho5 _ ?_))
          go_region_with (go_at_call 149; refine readOperand_var _ _ _ ho5 (by rw [ByteArray.size_extract]; omega) _ ?_; intro A C w2 hA hC hb2; have hbr := hd (bel_step (show Below wr.heap.size wr _ from (by repeat (first | with_reducible exact Below.refl _ _ | with_reducible refine below_drewN ?_ _ | with_reducible refine Below.drew ?_ | with_reducible refine Below.alloc ?_ (by simp) _ | with_reducible refine Below.setCell ?_ (by simp) _))) (Nat.le_refl _) hb2); have hsz2 := hd hbr.out.size; first | (refine six_then (fresh6 hb2) ?_; intro q0 q1 q2 q3 q4 q5 qf qh) | skip; replace hb2 := hd hb2)
          · have hblk := heap_alloc_new w2 (Obj.cells #[Value.int .u8 0, .int .i64 0, .int .i64 A, .int .i64 C, .int .i64 0, .int .i64 0] 254)
            have hbW := hbr.out.alloc hsz2.out (Obj.cells #[Value.int .u8 0, .int .i64 0, .int .i64 A, .int .i64 C, .int .i64 0, .int .i64 0] 254)
            have hg3 := hsz2.out
            generalize w2.alloc (Obj.cells #[Value.int .u8 0, .int .i64 0, .int .i64 A, .int .i64 C, .int .i64 0, .int .i64 0] 254) = W3 at hblk hbW ⊢
            generalize w2.heap.size = g3 at hblk hg3 ⊢
            obtain ⟨c30, c31, c32, c33, c34, c35, f3⟩ := six hblk
            replace hblk := hd hblk
            replace hbW := hd hbW
            replace hg3 := hd hg3
            have hv := hd (show [Value.int .u8 (bt s a : Int), .int .i64 (a : Int), .int .i64 A, .int .i64 C, .int .i64 0, .int .i64 0] = stC s a by
              have e : ((a : Int) + 1 + (osz0 (opnd (bt s a)) : Int)).toNat = a + 1 + osz0 (opnd (bt s a)) := by omega
              have h1 := hA.out
              have h2 := hC.out
              rw [e, hrd.out.1] at h1
              rw [e, hrd.out.2] at h2
              rw [h1, h2]; rfl)
            go_wp2_with (first | (at_builtin; refine wpList_app _ rfl _ _ 113 rfl (b4 + 1) 254 _ 6 48 ulSteps infoStep3 rfl (by decide) _ _ _ rfl (by exact own_below hown.out (Below.alloc (Below.setCell (Below.setCell hbW.out hg3.out _) hg3.out _) (by simp only [World.size_setCell]; exact hbW.out.size) _)) _ 1 1 _ rfl (alloc_at (by simp)) rfl (by intro u hu; rw [hv.out] at hu; revert hu; exact oneC6V s a u) hml hml2 (by simp only [World.size_alloc, World.size_setCell]; have := hbW.out.size; omega) ?_; intro v1 w4 hown1 hgr1; replace hown1 := hd hown1; replace hgr1 := hd hgr1))
            have h0 : osz (bt s a) ≠ 0 := by have := hos.out; omega
            refine ⟨⟨l ++ [a], a + osz (bt s a), hfit, by simp; omega, ?_, own_nextV hown1.out hv.out, ?_, posF_next s _ a _ l hpos.out (by omega) hlt rfl h0 hfit⟩, ?_⟩
            · rw [hos.out]; congr 1; omega
            · exact (hbel.out.trans ((Below.alloc (Below.setCell (Below.setCell hbW.out hg3.out _) hg3.out _) (by simp only [World.size_setCell]; exact hbW.out.size) _).mono hbs)).grown hgr1.out (by simp only [World.size_alloc, World.size_setCell]; have := hbW.out.size; omega) (fun k hk => (hown.out.lt k hk).1)
            · simp only [intOf]; omega
          all_goals
            have hblk : ((((((w2.setCell ⟨wr.heap.size, 0, none⟩ (.int .u8 0)).setCell ⟨wr.heap.size, 1, none⟩ (.int .i64 0)).setCell ⟨wr.heap.size, 2, none⟩ (.int .i64 A)).setCell ⟨wr.heap.size, 3, none⟩ (.int .i64 C)).setCell ⟨wr.heap.size, 4, none⟩ (.int .i64 0)).setCell ⟨wr.heap.size, 5, none⟩ (.int .i64 0)).heap[wr.heap.size]? = some (.cells #[Value.int .u8 0, .int .i64 0, .int .i64 A, .int .i64 C, .int .i64 0, .int .i64 0] 254 (0, 0)) := blk6 qh.out
            have hbW : Below wr.heap.size wr ((((((w2.setCell ⟨wr.heap.size, 0, none⟩ (.int .u8 0)).setCell ⟨wr.heap.size, 1, none⟩ (.int .i64 0)).setCell ⟨wr.heap.size, 2, none⟩ (.int .i64 A)).setCell ⟨wr.heap.size, 3, none⟩ (.int .i64 C)).setCell ⟨wr.heap.size, 4, none⟩ (.int .i64 0)).setCell ⟨wr.heap.size, 5, none⟩ (.int .i64 0)) := (((((hbr.out.setCell (Nat.le_refl _) _).setCell (Nat.le_refl _) _).setCell (Nat.le_refl _) _).setCell (Nat.le_refl _) _).setCell (Nat.le_refl _) _).setCell (Nat.le_refl _) _
            clear q0 q1 q2 q3 q4 q5 qf qh
            generalize ((((((w2.setCell ⟨wr.heap.size, 0, none⟩ (.int .u8 0)).setCell ⟨wr.heap.size, 1, none⟩ (.int .i64 0)).setCell ⟨wr.heap.size, 2, none⟩ (.int .i64 A)).setCell ⟨wr.heap.size, 3, none⟩ (.int .i64 C)).setCell ⟨wr.heap.size, 4, none⟩ (.int .i64 0)).setCell ⟨wr.heap.size, 5, none⟩ (.int .i64 0)) = W3 at hblk hbW ⊢
            obtain ⟨g3, hg3e⟩ : ∃ g3, wr.heap.size = g3 := ⟨_, rfl⟩
            rw [hg3e] at hblk ⊢
            have hg3 : wr.heap.size ≤ g3 := Nat.le_of_eq hg3e
            clear hg3e
            obtain ⟨c30, c31, c32, c33, c34, c35, f3⟩ := six hblk
            replace hblk := hd hblk
            replace hbW := hd hbW
            replace hg3 := hd hg3
            have hv := hd (show [Value.int .u8 (bt s a : Int), .int .i64 (a : Int), .int .i64 A, .int .i64 C, .int .i64 0, .int .i64 0] = stC s a by
              have e : ((a : Int) + 1 + (osz0 (opnd (bt s a)) : Int)).toNat = a + 1 + osz0 (opnd (bt s a)) := by omega
              have h1 := hA.out
              have h2 := hC.out
              rw [e, hrd.out.1] at h1
              rw [e, hrd.out.2] at h2
              rw [h1, h2]; rfl)
            go_wp2_with (first | (at_builtin; refine wpList_app _ rfl _ _ 113 rfl (b4 + 1) 254 _ 6 48 ulSteps infoStep3 rfl (by decide) _ _ _ rfl (by exact own_below hown.out (Below.alloc (Below.setCell (Below.setCell hbW.out hg3.out _) hg3.out _) (by simp only [World.size_setCell]; exact hbW.out.size) _)) _ 1 1 _ rfl (alloc_at (by simp)) rfl (by intro u hu; rw [hv.out] at hu; revert hu; exact oneC6V s a u) hml hml2 (by simp only [World.size_alloc, World.size_setCell]; have := hbW.out.size; omega) ?_; intro v1 w4 hown1 hgr1; replace hown1 := hd hown1; replace hgr1 := hd hgr1))
            have h0 : osz (bt s a) ≠ 0 := by have := hos.out; omega
            refine ⟨⟨l ++ [a], a + osz (bt s a), hfit, by simp; omega, ?_, own_nextV hown1.out hv.out, ?_, posF_next s _ a _ l hpos.out (by omega) hlt rfl h0 hfit⟩, ?_⟩
            · rw [hos.out]; congr 1; omega
            · exact (hbel.out.trans ((Below.alloc (Below.setCell (Below.setCell hbW.out hg3.out _) hg3.out _) (by simp only [World.size_setCell]; exact hbW.out.size) _).mono hbs)).grown hgr1.out (by simp only [World.size_alloc, World.size_setCell]; have := hbW.out.size; omega) (fun k hk => (hown.out.lt k hk).1)
            · simp only [intOf]; omega
        · have dfit : decide ((s.size : Int) < (a : Int) + 1 + (osz0 (opnd (bt s a)) : Int)) = true := by simp; omega
          go_wp2_with (first | (go_at_call 148; refine operandSize_any _ _ ho5 _ ?_))
          exact cl1 (no.out (posF_bad s _ a l hpos.out (by omega) hlt (.inr (by omega))) _ hbw.out) rfl
    · replace hbel := hd hbel
      replace hpos := hd hpos
      obtain ⟨ao, cap, rfl⟩ := own_sl hown
      replace hown := hd hown
      go_wp2
      exact cl1 (yes.out l (posF_end s _ a l hpos.out (by omega) hlt) _ _ hbw.out (own_base hown.out (by omega))) rfl

end Go.Proofs.YtidhiaaicmfabaaGreatDoor

/- The contracts of the rules on operands. -/
namespace Go.Proofs.YtidhiaaicmfabaaGreatDoor
open Go.RowKit Go.Proofs Go.Deep

def AlikeOk (rl kd : Nat → Nat) (nC c n : Nat) : Prop := 1 ≤ n ∧ c + n ≤ nC ∧ ∀ i, i < n → rl (c + i) = rl c ∧ kd (c + i) = kd c
set_option maxRecDepth 100000 in
set_option maxHeartbeats 1000000 in
theorem alike_any (w : World) (bc capc nC : Nat) (rl kd : Nat → Nat) (sa : Option Addr) (sn sc : Nat) (c n : Nat) (hn : n ≤ 255) (hc : c ≤ 255) (hC : nC ≤ 100)
    (ht : Tab w bc 129 3 nC capc (cellA rl kd)) (R : Ending → World → Prop)
    (fin : ∀ (b : Bool) w', (b = true ↔ AlikeOk rl kd nC c n) → Below w.heap.size w w' → R (.returned (.bool b)) w') :
    Calls Tryz.prog 209 #[.agg #[.slice (some ⟨bc, 0, none⟩) nC capc, .slice sa sn sc], .int .i64 (c : Int), .int .i64 (n : Int)] w R := by
  replace fin := hd fin
  have hcap := ht.le
  have hbc := ht.lt
  by_cases h1 : 1 ≤ n
  · have d1 : decide ((n:Int) < 1) = false := by simp; omega
    by_cases h2 : c + n ≤ nC
    · have d2 : decide ((nC:Int) < (c:Int) + n) = false := by simp; omega
      have j1 : 0 ≤ (c : Int) ∧ (c : Int) ≤ (c : Int) + (n : Int) := by omega
      have j2 : (c : Int) + (n : Int) ≤ (capc : Int) := by omega
      have j3 : ((c : Int) + (n : Int)).toNat - c = n := by omega
      have cr := ht.cell0 (show c < nC by omega) (by omega)
      have ck := ht.cell (show c < nC by omega) (f := 1) (by omega)
      rw [cellA_0] at cr
      rw [cellA_1] at ck
      have jc : (c : Int) < (nC : Int) := by omega
      replace ht := hd ht
      go_enter Tryz.func209, Tryz.ntmps209
      go_wp2
      go_loopw [28] (fun i wr => ∃ k : Nat, k ≤ n ∧ i = .int .i64 k ∧ Below (w.heap.size + 1) (w.alloc (Obj.cells #[.slice (some ⟨bc, 0, none⟩) nC capc, .slice sa sn sc] 115)) wr ∧ (∀ j, j < k → rl (c + j) = rl c ∧ kd (c + j) = kd c)) (fun i _ => n - (intOf i).toNat)
      case atStart => exact ⟨0, by omega, rfl, Below.refl _ _, by omega⟩
      case round =>
        obtain ⟨k, hk, rfl, hbel, hall⟩ := hrel
        have hbw : Below w.heap.size w wr := (Below.alloc (Below.refl _ _) (Nat.le_refl _) _).trans (hbel.mono (by omega))
        have cb : wr.cell? ⟨w.heap.size, 0, none⟩ = some (.slice (some ⟨bc, 0, none⟩) nC capc) := by rw [hbel.cell (by simp)]; simp
        have cr' : wr.cell? ⟨bc, c * 3, none⟩ = some (.int .u8 (rl c : Int)) := by rw [hbw.cell hbc]; exact cr
        have ck' : wr.cell? ⟨bc, c * 3 + 1, none⟩ = some (.int .u8 (kd c : Int)) := by rw [hbw.cell hbc]; exact ck
        have hlt1 : w.heap.size < wr.heap.size := by have := hbel.size; simp at this; omega
        have hlt2 : bc < wr.heap.size := by omega
        replace hall := hd hall
        by_cases hlt : k < n
        · have e3 : c * 3 + k * 3 = (c + k) * 3 := by omega
          have x0 : wr.cell? ⟨bc, c * 3 + k * 3, none⟩ = some (.int .u8 (rl (c + k) : Int)) := by rw [hbw.cell hbc, e3]; exact ht.out.cell0 (by omega) (by omega)
          have x1 : wr.cell? ⟨bc, c * 3 + k * 3 + 1, none⟩ = some (.int .u8 (kd (c + k) : Int)) := by rw [hbw.cell hbc, e3]; exact ht.out.cell (f := 1) (by omega) (by omega)
          have x2 : wr.cell? ⟨bc, c * 3 + k * 3 + 2, none⟩ = some (.int .i32 0) := by rw [hbw.cell hbc, e3]; exact ht.out.cell (f := 2) (by omega) (by omega)
          replace hbel := hd hbel
          replace hbw := hd hbw
          clear e3
          by_cases hr : rl (c + k) = rl c
          · have tr : ((rl (c + k) : Int) != (rl c : Int)) = false := by simp [hr]
            by_cases hkk : kd (c + k) = kd c
            · have tk : ((kd (c + k) : Int) != (kd c : Int)) = false := by simp [hkk]
              replace hr := hd hr
              replace hkk := hd hkk
              go_wp2
              go_quiet (fail)
              go_wp2
              refine ⟨⟨k + 1, by omega, by go_num, below_drewN (hbel.out.alloc (by omega) _) _, fun j hj => ?_⟩, by simp [intOf]; omega⟩
              by_cases e : j = k
              · subst e; exact ⟨hr.out, hkk.out⟩
              · exact hall.out j (by omega)
            · have tk : ((kd (c + k) : Int) != (kd c : Int)) = true := by simp; omega
              replace hr := hd hr
              go_wp2
              go_quiet (fail)
              go_wp2
              refine cl1 (fin.out false _ ?_ (below_drewN (hbw.out.alloc (by omega) _) _)) rfl
              simp only [Bool.false_eq_true, false_iff]
              intro h
              exact hkk (h.2.2 k hlt).2
          · have tr : ((rl (c + k) : Int) != (rl c : Int)) = true := by simp; omega
            go_wp2
            go_quiet (fail)
            go_wp2
            refine cl1 (fin.out false _ ?_ (below_drewN (hbw.out.alloc (by omega) _) _)) rfl
            simp only [Bool.false_eq_true, false_iff]
            intro h
            exact hr (h.2.2 k hlt).1
        · have hkn : k = n := by omega
          subst hkn
          replace hbel := hd hbel
          replace hbw := hd hbw
          go_wp2
          exact cl1 (fin.out true _ (by simp; exact ⟨h1, h2, hall.out⟩) hbw.out) rfl
    · have d2 : decide ((nC:Int) < (c:Int) + n) = true := by simp; omega
      replace ht := hd ht
      go_enter Tryz.func209, Tryz.ntmps209
      go_wp2
      exact cl1 (fin.out false _ (by simp [AlikeOk]; omega) (by repeat (first | with_reducible exact Below.refl _ _ | with_reducible refine below_drewN ?_ _ | with_reducible refine Below.drew ?_ | with_reducible refine Below.alloc ?_ (by simp) _ | with_reducible refine Below.setCell ?_ (by simp) _))) rfl
  · have d1 : decide ((n:Int) < 1) = true := by simp; omega
    replace ht := hd ht
    go_enter Tryz.func209, Tryz.ntmps209
    go_wp2
    exact cl1 (fin.out false _ (by simp [AlikeOk]; omega) (by repeat (first | with_reducible exact Below.refl _ _ | with_reducible refine below_drewN ?_ _ | with_reducible refine Below.drew ?_ | with_reducible refine Below.alloc ?_ (by simp) _ | with_reducible refine Below.setCell ?_ (by simp) _))) rfl
theorem settable_any (w : World) (bc capc nC : Nat) (rl kd : Nat → Nat) (sa : Option Addr) (sn sc : Nat) (c : Nat) (hc : c < nC) (_hC : nC ≤ 100)
    (ht : Tab w bc 129 3 nC capc (cellA rl kd)) (R : Ending → World → Prop)
    (fin : ∀ (b : Bool) w', (b = true ↔ rl c ≠ 0) → Below w.heap.size w w' → R (.returned (.bool b)) w') :
    Calls Tryz.prog 210 #[.agg #[.slice (some ⟨bc, 0, none⟩) nC capc, .slice sa sn sc], .int .i64 (c : Int)] w R := by
  replace fin := hd fin
  have hbc := ht.lt
  have cr := ht.cell0 (show c < nC by omega) (by omega)
  rw [cellA_0] at cr
  have jc : (c : Int) < (nC : Int) := by omega
  replace ht := hd ht
  go_enter Tryz.func210, Tryz.ntmps210
  go_wp2
  exact cl1 (fin.out _ _ (by simp) (by repeat (first | with_reducible exact Below.refl _ _ | with_reducible refine below_drewN ?_ _ | with_reducible refine Below.drew ?_ | with_reducible refine Below.alloc ?_ (by simp) _ | with_reducible refine Below.setCell ?_ (by simp) _))) rfl
theorem keepsTime_any (w : World) (bc capc nC : Nat) (rl kd : Nat → Nat) (sa : Option Addr) (sn sc : Nat) (c : Nat) (hc : c < nC) (_hC : nC ≤ 100)
    (ht : Tab w bc 129 3 nC capc (cellA rl kd)) (R : Ending → World → Prop)
    (fin : ∀ (b : Bool) w', (b = true ↔ (rl c = 2 ∧ kd c = 2)) → Below w.heap.size w w' → R (.returned (.bool b)) w') :
    Calls Tryz.prog 211 #[.agg #[.slice (some ⟨bc, 0, none⟩) nC capc, .slice sa sn sc], .int .i64 (c : Int)] w R := by
  replace fin := hd fin
  have hbc := ht.lt
  have cr := ht.cell0 (show c < nC by omega) (by omega)
  have ck := ht.cell (show c < nC by omega) (f := 1) (by omega)
  rw [cellA_0] at cr
  rw [cellA_1] at ck
  have jc : (c : Int) < (nC : Int) := by omega
  replace ht := hd ht
  by_cases h2 : rl c = 2
  · have t2 : ((rl c : Int) == 2) = true := by simp [h2]
    go_enter Tryz.func211, Tryz.ntmps211
    go_wp2
    exact cl1 (fin.out ((kd c : Int) == 2) _ (by simp [h2]; omega) (by repeat (first | with_reducible exact Below.refl _ _ | with_reducible refine below_drewN ?_ _ | with_reducible refine Below.drew ?_ | with_reducible refine Below.alloc ?_ (by simp) _ | with_reducible refine Below.setCell ?_ (by simp) _))) rfl
  · have t2 : ((rl c : Int) == 2) = false := by simp; omega
    go_enter Tryz.func211, Tryz.ntmps211
    go_wp2
    exact cl1 (fin.out false _ (by simp [h2]) (by repeat (first | with_reducible exact Below.refl _ _ | with_reducible refine below_drewN ?_ _ | with_reducible refine Below.drew ?_ | with_reducible refine Below.alloc ?_ (by simp) _ | with_reducible refine Below.setCell ?_ (by simp) _))) rfl

theorem box_0 (w : World) (a b : Value) (T : Nat) (o : Obj) : ((w.alloc (.cells #[a, b] T)).alloc o).cell? ⟨w.heap.size, 0, none⟩ = some a :=
  (World.cell?_alloc_lt _ _ _ (by simp)).trans ((cell_of_row _ _ 0 _ T (0, 0) (heap_alloc_new w _)).trans rfl)
theorem box_1 (w : World) (a b : Value) (T : Nat) (o : Obj) : ((w.alloc (.cells #[a, b] T)).alloc o).cell? ⟨w.heap.size, 1, none⟩ = some b :=
  (World.cell?_alloc_lt _ _ _ (by simp)).trans ((cell_of_row _ _ 1 _ T (0, 0) (heap_alloc_new w _)).trans rfl)
def OpOk (rl kd : Nat → Nat) (nC op : Nat) (arg cnt : Int) : Prop :=
  ((op = 2 ∨ op = 3 ∨ op = 21) → AlikeOk rl kd nC arg.toNat 1) ∧ ((op = 4 ∨ op = 5) → AlikeOk rl kd nC arg.toNat cnt.toNat) ∧ ((op = 3 ∨ op = 5) → rl arg.toNat ≠ 0) ∧ (op = 21 → rl arg.toNat = 2 ∧ kd arg.toNat = 2) ∧ (op = 19 → 1 ≤ arg)
set_option maxRecDepth 100000 in
set_option maxHeartbeats 2000000 in
theorem operandRight_any (w : World) (bc capc nC : Nat) (rl kd : Nat → Nat) (sa : Option Addr) (sn sc : Nat) (op : Nat) (at_ arg cnt lp to_ : Int) (hC : nC ≤ 100)
    (hb : (op = 2 ∨ op = 3 ∨ op = 21 ∨ op = 4 ∨ op = 5) → 0 ≤ arg ∧ arg ≤ 255) (hb2 : (op = 4 ∨ op = 5) → 0 ≤ cnt ∧ cnt ≤ 255)
    (ht : Tab w bc 129 3 nC capc (cellA rl kd)) (R : Ending → World → Prop)
    (fin : ∀ (b : Bool) w', (b = true ↔ OpOk rl kd nC op arg cnt) → Below w.heap.size w w' → R (.returned (.bool b)) w') :
    Calls Tryz.prog 150 #[.agg #[.slice (some ⟨bc, 0, none⟩) nC capc, .slice sa sn sc], .agg #[.int .u8 (op : Int), .int .i64 at_, .int .i64 arg, .int .i64 cnt, .int .i64 lp, .int .i64 to_]] w R := by
  replace fin := hd fin
  have hbc := ht.lt
  have htA : ∀ o1 o2, Tab ((w.alloc o1).alloc o2) bc 129 3 nC capc (cellA rl kd) := fun o1 o2 => (ht.alloc o1).alloc o2
  replace htA := hd htA
  replace ht := hd ht
  replace hb := hd hb
  replace hb2 := hd hb2
  by_cases h2 : op = 2
  · subst h2
    obtain ⟨ca, hca, hle⟩ : ∃ ca : Nat, arg = (ca : Int) ∧ ca ≤ 255 := ⟨arg.toNat, by have := hb.out (.inl rfl); omega, by have := hb.out (.inl rfl); omega⟩
    subst hca
    go_enter Tryz.func150, Tryz.ntmps150
    go_wp2_with (fail)
    refine alike_any _ bc capc nC rl kd sa sn sc ca 1 (by omega) hle hC (htA.out _ _) _ ?_
    intro b w2 hbb hbel2
    replace hbb := hd hbb
    replace hbel2 := hd hbel2
    go_wp2
    refine cl1 (fin.out b _ ?_ (bel_step (show Below w.heap.size w _ from (by repeat (first | with_reducible exact Below.refl _ _ | with_reducible refine below_drewN ?_ _ | with_reducible refine Below.drew ?_ | with_reducible refine Below.alloc ?_ (by simp) _ | with_reducible refine Below.setCell ?_ (by simp) _))) (Nat.le_refl _) hbel2.out)) rfl
    rw [hbb.out]; simp [OpOk]
  by_cases h3 : op = 3
  · subst h3
    obtain ⟨ca, hca, hle⟩ : ∃ ca : Nat, arg = (ca : Int) ∧ ca ≤ 255 := ⟨arg.toNat, by have := hb.out (by simp); omega, by have := hb.out (by simp); omega⟩
    subst hca
    go_enter Tryz.func150, Tryz.ntmps150
    go_wp2_with (fail)
    refine alike_any _ bc capc nC rl kd sa sn sc ca 1 (by omega) hle hC (htA.out _ _) _ ?_
    intro b w2 hbb hbel2
    have htab2 := htA.out (.cells #[.slice (some ⟨bc, 0, none⟩) nC capc, .slice sa sn sc] 115) (.cells #[.int .u8 3, .int .i64 at_, .int .i64 ca, .int .i64 cnt, .int .i64 lp, .int .i64 to_] 254) |>.of_block (hbel2.block bc (by simp; omega))
    have cb : w2.cell? ⟨w.heap.size, 0, none⟩ = some (.slice (some ⟨bc, 0, none⟩) nC capc) := (hbel2.cell (by simp; omega)).trans (box_0 ..)
    have cb1 : w2.cell? ⟨w.heap.size, 1, none⟩ = some (.slice sa sn sc) := (hbel2.cell (by simp; omega)).trans (box_1 ..)
    have cs2 : w2.cell? ⟨w.heap.size + 1, 2, none⟩ = some (.int .i64 ca) := by rw [hbel2.cell (by simp)]; simp
    have hbw := hd (bel_step (show Below w.heap.size w _ from (by repeat (first | with_reducible exact Below.refl _ _ | with_reducible refine below_drewN ?_ _ | with_reducible refine Below.drew ?_ | with_reducible refine Below.alloc ?_ (by simp) _ | with_reducible refine Below.setCell ?_ (by simp) _))) (Nat.le_refl _) hbel2)
    replace hbel2 := hd hbel2
    replace htab2 := hd htab2
    cases b with
    | false =>
      have hno : ¬ AlikeOk rl kd nC ca 1 := fun h => by have := hbb.2 h; cases this
      replace hno := hd hno
      clear hbb
      go_wp2
      refine cl1 (fin.out false _ ?_ hbw.out) rfl
      simp only [Bool.false_eq_true, false_iff]
      intro h
      exact hno.out (by simpa using h.1 (by simp))
    | true =>
      have hyes := hbb.1 rfl
      have hlt : ca < nC := by have := hyes.1; have := hyes.2.1; omega
      replace hyes := hd hyes
      clear hbb
      go_wp2_with (fail)
      refine settable_any _ bc capc nC rl kd sa sn sc ca hlt hC htab2.out _ ?_
      intro b3 w3 hb3 hbel3
      replace hb3 := hd hb3
      replace hbel3 := hd hbel3
      go_wp2
      refine cl1 (fin.out b3 _ ?_ (bel_step hbw.out (Nat.le_refl _) hbel3.out)) rfl
      rw [hb3.out]
      have := hyes.out
      simp [OpOk, this]
  by_cases h4 : op = 4
  · subst h4
    obtain ⟨ca, hca, hle⟩ : ∃ ca : Nat, arg = (ca : Int) ∧ ca ≤ 255 := ⟨arg.toNat, by have := hb.out (by simp); omega, by have := hb.out (by simp); omega⟩
    subst hca
    obtain ⟨cn, hcn, hle2⟩ : ∃ cn : Nat, cnt = (cn : Int) ∧ cn ≤ 255 := ⟨cnt.toNat, by have := hb2.out (by simp); omega, by have := hb2.out (by simp); omega⟩
    subst hcn
    go_enter Tryz.func150, Tryz.ntmps150
    go_wp2_with (fail)
    refine alike_any _ bc capc nC rl kd sa sn sc ca cn hle2 hle hC (htA.out _ _) _ ?_
    intro b w2 hbb hbel2
    replace hbb := hd hbb
    replace hbel2 := hd hbel2
    go_wp2
    refine cl1 (fin.out b _ ?_ (bel_step (show Below w.heap.size w _ from (by repeat (first | with_reducible exact Below.refl _ _ | with_reducible refine below_drewN ?_ _ | with_reducible refine Below.drew ?_ | with_reducible refine Below.alloc ?_ (by simp) _ | with_reducible refine Below.setCell ?_ (by simp) _))) (Nat.le_refl _) hbel2.out)) rfl
    rw [hbb.out]; simp [OpOk]
  by_cases h5 : op = 5
  · subst h5
    obtain ⟨ca, hca, hle⟩ : ∃ ca : Nat, arg = (ca : Int) ∧ ca ≤ 255 := ⟨arg.toNat, by have := hb.out (by simp); omega, by have := hb.out (by simp); omega⟩
    subst hca
    obtain ⟨cn, hcn, hle2⟩ : ∃ cn : Nat, cnt = (cn : Int) ∧ cn ≤ 255 := ⟨cnt.toNat, by have := hb2.out (by simp); omega, by have := hb2.out (by simp); omega⟩
    subst hcn
    go_enter Tryz.func150, Tryz.ntmps150
    go_wp2_with (fail)
    refine alike_any _ bc capc nC rl kd sa sn sc ca cn hle2 hle hC (htA.out _ _) _ ?_
    intro b w2 hbb hbel2
    have htab2 := htA.out (.cells #[.slice (some ⟨bc, 0, none⟩) nC capc, .slice sa sn sc] 115) (.cells #[.int .u8 5, .int .i64 at_, .int .i64 ca, .int .i64 cn, .int .i64 lp, .int .i64 to_] 254) |>.of_block (hbel2.block bc (by simp; omega))
    have cb : w2.cell? ⟨w.heap.size, 0, none⟩ = some (.slice (some ⟨bc, 0, none⟩) nC capc) := (hbel2.cell (by simp; omega)).trans (box_0 ..)
    have cb1 : w2.cell? ⟨w.heap.size, 1, none⟩ = some (.slice sa sn sc) := (hbel2.cell (by simp; omega)).trans (box_1 ..)
    have cs2 : w2.cell? ⟨w.heap.size + 1, 2, none⟩ = some (.int .i64 ca) := by rw [hbel2.cell (by simp)]; simp
    have hbw := hd (bel_step (show Below w.heap.size w _ from (by repeat (first | with_reducible exact Below.refl _ _ | with_reducible refine below_drewN ?_ _ | with_reducible refine Below.drew ?_ | with_reducible refine Below.alloc ?_ (by simp) _ | with_reducible refine Below.setCell ?_ (by simp) _))) (Nat.le_refl _) hbel2)
    replace hbel2 := hd hbel2
    replace htab2 := hd htab2
    cases b with
    | false =>
      have hno : ¬ AlikeOk rl kd nC ca cn := fun h => by have := hbb.2 h; cases this
      replace hno := hd hno
      clear hbb
      go_wp2
      refine cl1 (fin.out false _ ?_ hbw.out) rfl
      simp only [Bool.false_eq_true, false_iff]
      intro h
      exact hno.out (by simpa using h.2.1 (by simp))
    | true =>
      have hyes := hbb.1 rfl
      have hlt : ca < nC := by have := hyes.1; have := hyes.2.1; omega
      replace hyes := hd hyes
      clear hbb
      go_wp2_with (fail)
      refine settable_any _ bc capc nC rl kd sa sn sc ca hlt hC htab2.out _ ?_
      intro b3 w3 hb3 hbel3
      replace hb3 := hd hb3
      replace hbel3 := hd hbel3
      go_wp2
      refine cl1 (fin.out b3 _ ?_ (bel_step hbw.out (Nat.le_refl _) hbel3.out)) rfl
      rw [hb3.out]
      have := hyes.out
      simp [OpOk, this]
  by_cases h21 : op = 21
  · subst h21
    obtain ⟨ca, hca, hle⟩ : ∃ ca : Nat, arg = (ca : Int) ∧ ca ≤ 255 := ⟨arg.toNat, by have := hb.out (by simp); omega, by have := hb.out (by simp); omega⟩
    subst hca
    go_enter Tryz.func150, Tryz.ntmps150
    go_wp2_with (fail)
    refine alike_any _ bc capc nC rl kd sa sn sc ca 1 (by omega) hle hC (htA.out _ _) _ ?_
    intro b w2 hbb hbel2
    have htab2 := htA.out (.cells #[.slice (some ⟨bc, 0, none⟩) nC capc, .slice sa sn sc] 115) (.cells #[.int .u8 21, .int .i64 at_, .int .i64 ca, .int .i64 cnt, .int .i64 lp, .int .i64 to_] 254) |>.of_block (hbel2.block bc (by simp; omega))
    have cb : w2.cell? ⟨w.heap.size, 0, none⟩ = some (.slice (some ⟨bc, 0, none⟩) nC capc) := (hbel2.cell (by simp; omega)).trans (box_0 ..)
    have cb1 : w2.cell? ⟨w.heap.size, 1, none⟩ = some (.slice sa sn sc) := (hbel2.cell (by simp; omega)).trans (box_1 ..)
    have cs2 : w2.cell? ⟨w.heap.size + 1, 2, none⟩ = some (.int .i64 ca) := by rw [hbel2.cell (by simp)]; simp
    have hbw := hd (bel_step (show Below w.heap.size w _ from (by repeat (first | with_reducible exact Below.refl _ _ | with_reducible refine below_drewN ?_ _ | with_reducible refine Below.drew ?_ | with_reducible refine Below.alloc ?_ (by simp) _ | with_reducible refine Below.setCell ?_ (by simp) _))) (Nat.le_refl _) hbel2)
    replace hbel2 := hd hbel2
    replace htab2 := hd htab2
    cases b with
    | false =>
      have hno : ¬ AlikeOk rl kd nC ca 1 := fun h => by have := hbb.2 h; cases this
      replace hno := hd hno
      clear hbb
      go_wp2
      refine cl1 (fin.out false _ ?_ hbw.out) rfl
      simp only [Bool.false_eq_true, false_iff]
      intro h
      exact hno.out (by simpa using h.1 (by simp))
    | true =>
      have hyes := hbb.1 rfl
      have hlt : ca < nC := by have := hyes.1; have := hyes.2.1; omega
      replace hyes := hd hyes
      clear hbb
      go_wp2_with (fail)
      refine keepsTime_any _ bc capc nC rl kd sa sn sc ca hlt hC htab2.out _ ?_
      intro b3 w3 hb3 hbel3
      replace hb3 := hd hb3
      replace hbel3 := hd hbel3
      go_wp2
      refine cl1 (fin.out b3 _ ?_ (bel_step hbw.out (Nat.le_refl _) hbel3.out)) rfl
      rw [hb3.out]
      have := hyes.out
      simp [OpOk, this]
  have t2 : ((op : Int) == 2) = false := by simp; omega
  have t3 : ((op : Int) == 3) = false := by simp; omega
  have t4 : ((op : Int) == 4) = false := by simp; omega
  have t5 : ((op : Int) == 5) = false := by simp; omega
  have t21 : ((op : Int) == 21) = false := by simp; omega
  by_cases h19 : op = 19
  · subst h19
    go_enter Tryz.func150, Tryz.ntmps150
    go_wp2
    refine cl1 (fin.out (decide (1 ≤ arg)) _ ?_ (by repeat (first | with_reducible exact Below.refl _ _ | with_reducible refine below_drewN ?_ _ | with_reducible refine Below.drew ?_ | with_reducible refine Below.alloc ?_ (by simp) _ | with_reducible refine Below.setCell ?_ (by simp) _))) rfl
    simp [OpOk]
  · have t19 : ((op : Int) == 19) = false := by simp; omega
    go_enter Tryz.func150, Tryz.ntmps150
    go_wp2
    refine cl1 (fin.out true _ ?_ (by repeat (first | with_reducible exact Below.refl _ _ | with_reducible refine below_drewN ?_ _ | with_reducible refine Below.drew ?_ | with_reducible refine Below.alloc ?_ (by simp) _ | with_reducible refine Below.setCell ?_ (by simp) _))) rfl
    simp [OpOk, h2, h3, h4, h5, h21, h19]

theorem Tab.below {w w' : World} {b T sz n cap : Nat} {A : Nat → Nat → Value} (h : Tab w b T sz n cap A) (hb : Below w.heap.size w w') : Tab w' b T sz n cap A := h.of_block (hb.block b h.lt)
def stepA (op at_ : Nat → Nat) (arg cnt lp to_ : Nat → Int) (i f : Nat) : Value :=
  if f = 0 then .int .u8 (op i : Int) else if f = 1 then .int .i64 (at_ i : Int) else if f = 2 then .int .i64 (arg i) else if f = 3 then .int .i64 (cnt i) else if f = 4 then .int .i64 (lp i) else .int .i64 (to_ i)
section
variable {op at_ : Nat → Nat} {arg cnt lp to_ : Nat → Int} {i : Nat}
theorem stepA_0 : stepA op at_ arg cnt lp to_ i 0 = .int .u8 (op i : Int) := rfl
theorem stepA_1 : stepA op at_ arg cnt lp to_ i 1 = .int .i64 (at_ i : Int) := rfl
theorem stepA_2 : stepA op at_ arg cnt lp to_ i 2 = .int .i64 (arg i) := rfl
theorem stepA_3 : stepA op at_ arg cnt lp to_ i 3 = .int .i64 (cnt i) := rfl
theorem stepA_4 : stepA op at_ arg cnt lp to_ i 4 = .int .i64 (lp i) := rfl
theorem stepA_5 : stepA op at_ arg cnt lp to_ i 5 = .int .i64 (to_ i) := rfl
end
/-- The six cells of a step. -/
theorem Tab.six {w : World} {b T n cap : Nat} {op at_ : Nat → Nat} {arg cnt lp to_ : Nat → Int} (h : Tab w b T 6 n cap (stepA op at_ arg cnt lp to_)) {i : Nat} (hi : i < n) :
    w.cell? ⟨b, i * 6, none⟩ = some (.int .u8 (op i : Int)) ∧ w.cell? ⟨b, i * 6 + 1, none⟩ = some (.int .i64 (at_ i : Int)) ∧ w.cell? ⟨b, i * 6 + 2, none⟩ = some (.int .i64 (arg i)) ∧
    w.cell? ⟨b, i * 6 + 3, none⟩ = some (.int .i64 (cnt i)) ∧ w.cell? ⟨b, i * 6 + 4, none⟩ = some (.int .i64 (lp i)) ∧ w.cell? ⟨b, i * 6 + 5, none⟩ = some (.int .i64 (to_ i)) :=
  ⟨h.cell0 hi (by omega), h.cell hi (f := 1) (by omega), h.cell hi (f := 2) (by omega), h.cell hi (f := 3) (by omega), h.cell hi (f := 4) (by omega), h.cell hi (f := 5) (by omega)⟩
set_option maxRecDepth 100000 in
set_option maxHeartbeats 2000000 in
theorem operandsRight_any (w : World) (bc capc nC bs n cap : Nat) (rl kd : Nat → Nat) (sa : Option Addr) (op at_ : Nat → Nat) (arg cnt lp to_ : Nat → Int) (hC : nC ≤ 100) (hn : n ≤ 8000)
    (hb : ∀ i, i < n → (op i = 2 ∨ op i = 3 ∨ op i = 21 ∨ op i = 4 ∨ op i = 5) → 0 ≤ arg i ∧ arg i ≤ 255) (hb2 : ∀ i, i < n → (op i = 4 ∨ op i = 5) → 0 ≤ cnt i ∧ cnt i ≤ 255)
    (ht : Tab w bc 129 3 nC capc (cellA rl kd)) (hsa : 0 < n → sa = some ⟨bs, 0, none⟩ ∧ Tab w bs 254 6 n cap (stepA op at_ arg cnt lp to_)) (R : Ending → World → Prop)
    (fin : ∀ (b : Bool) w', (b = true ↔ ∀ i, i < n → OpOk rl kd nC (op i) (arg i) (cnt i)) → Below w.heap.size w w' → R (.returned (.bool b)) w') :
    Calls Tryz.prog 104 #[.agg #[.slice (some ⟨bc, 0, none⟩) nC capc, .slice sa n cap]] w R := by
  replace fin := hd fin
  have hbc := ht.lt
  replace ht := hd ht
  replace hb := hd hb
  replace hb2 := hd hb2
  replace hsa := hd hsa
  go_enter Tryz.func104, Tryz.ntmps104
  go_wp2
  go_loopw [8] (fun i wr => ∃ k : Nat, k ≤ n ∧ i = .int .i64 k ∧ Below (w.heap.size + 1) (w.alloc (Obj.cells #[.slice (some ⟨bc, 0, none⟩) nC capc, .slice sa n cap] 115)) wr ∧ (∀ j, j < k → OpOk rl kd nC (op j) (arg j) (cnt j))) (fun i _ => n - (intOf i).toNat)
  case atStart => exact ⟨0, by omega, rfl, Below.refl _ _, by omega⟩
  case round =>
    obtain ⟨k, hk, rfl, hbel, hall⟩ := hrel
    have hbw : Below w.heap.size w wr := (Below.alloc (Below.refl _ _) (Nat.le_refl _) _).trans (hbel.mono (by omega))
    have cb : wr.cell? ⟨w.heap.size, 0, none⟩ = some (.slice (some ⟨bc, 0, none⟩) nC capc) := by rw [hbel.cell (by simp)]; simp
    have cb1 : wr.cell? ⟨w.heap.size, 1, none⟩ = some (.slice sa n cap) := by rw [hbel.cell (by simp)]; simp
    have hlt1 : w.heap.size < wr.heap.size := by have := hbel.size; simp at this; omega
    replace hall := hd hall
    by_cases hlt : k < n
    · obtain ⟨hsa1, hts⟩ := hsa.out (by omega)
      subst hsa1
      obtain ⟨x0, x1, x2, x3, x4, x5⟩ := (hts.below hbw).six hlt
      have htc := hd (fun o => (ht.out.below hbw).alloc o)
      replace hbel := hd hbel
      replace hbw := hd hbw
      replace hts := hd hts
      go_wp2_with (fail)
      refine operandRight_any _ bc capc nC rl kd _ n cap (op k) _ (arg k) (cnt k) _ _ hC (hb.out k hlt) (hb2.out k hlt) (htc.out _) _ ?_
      intro b w2 hbb hbel2
      replace hbel2 := hd hbel2
      cases b with
      | false =>
        have hno := hd (show ¬ OpOk rl kd nC (op k) (arg k) (cnt k) from fun h => by have := hbb.2 h; cases this)
        clear hbb
        go_wp2
        refine cl1 (fin.out false _ ?_ (bel_step (hbw.out.alloc (by omega) _) (Nat.le_trans (Nat.le_refl _) (Nat.le_refl _)) hbel2.out)) rfl
        simp only [Bool.false_eq_true, false_iff]
        intro h
        exact hno.out (h k hlt)
      | true =>
        have hyes := hd (hbb.1 rfl)
        clear hbb
        go_wp2
        refine ⟨⟨k + 1, by omega, by go_num, hbel.out.trans (((Below.alloc (Below.refl _ _) (by omega) _).trans (hbel2.out.mono (by simp; omega)))), fun j hj => ?_⟩, by simp [intOf]; omega⟩
        by_cases e : j = k
        · subst e; exact hyes.out
        · exact hall.out j (by omega)
    · have hkn : k = n := by omega
      subst hkn
      replace hbel := hd hbel
      replace hbw := hd hbw
      go_wp2
      exact cl1 (fin.out true _ (by simp; exact hall.out) hbw.out) rfl

end Go.Proofs.YtidhiaaicmfabaaGreatDoor
