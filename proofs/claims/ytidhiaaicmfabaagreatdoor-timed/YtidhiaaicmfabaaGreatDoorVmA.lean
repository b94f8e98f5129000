/- Contracts of small functions of the machine: the readers of numbers and operands, multiply, Bound. -/
import Derived.Test.YtidhiaaicmfabaaGreatDoorMem
import Derived.Test.YtidhiaaicmfabaaGreatDoorSpec
import Derived.Test.YtidhiaaicmfabaaGreatDoorRefA
import Derived.Test.YtidhiaaicmfabaaGreatDoorRefC
import Derived.Test.YtidhiaaicmfabaaGreatDoorSpec2
import Derived.WalkKit
import Derived.WalkSpells
import Derived.WalkLawsBesides
import Derived.Deep.OwnRows
import Derived.BigQuiet
import Derived.Handy
import Derived.Deep.Light
import Derived.Deep.RegionHeld3
import Derived.Deep.RegionWith
import Derived.Laws.BitsLemmas
import Derived.Laws.Rows
import Derived.Laws.ResultCell
import Derived.Deep.MidRow
namespace Go.Proofs.YtidhiaaicmfabaaGreatDoor
open Go.RowKit Go.Proofs Go.Deep

theorem wr_u32 (n : Int) (h₀ : 0 ≤ n) (h₁ : n < 2 ^ 32) : IntKind.u32.wrap n = n := by rw [IntKind.wrap_u32]; omega
theorem wr_i64 (n : Int) (h₀ : 0 ≤ n) (h₁ : n < 2 ^ 63) : IntKind.i64.wrap n = n := by rw [IntKind.wrap_i64]; omega
theorem or16 (a b : Nat) (ha : a ≤ 255) (hb : b ≤ 255) : bits .or .i64 ((a : Int) * 256) b = ((256 * a + b : Nat) : Int) := by
  rw [bits_join .i64 63 (by decide) wr_i64 8 (a * 256) b (by omega) (by omega) (by omega) (by omega) (by omega) (by omega)]
  omega
theorem or32 (a b c d : Nat) (ha : a ≤ 255) (hb : b ≤ 255) (hc : c ≤ 255) (hd : d ≤ 255) :
    bits .or .u32 (bits .or .u32 (bits .or .u32 ((a : Int) * 16777216) ((b : Int) * 65536)) ((c : Int) * 256)) (d : Int) = ((256 * (256 * (256 * a + b) + c) + d : Nat) : Int) := by
  rw [bits_join .u32 32 (by decide) wr_u32 24 (a * 16777216) (b * 65536) (by omega) (by omega) (by omega) (by omega) (by omega) (by omega)]
  rw [bits_join .u32 32 (by decide) wr_u32 16 (a * 16777216 + b * 65536) (c * 256) (by omega) (by omega) (by omega) (by omega) (by omega) (by omega)]
  rw [bits_join .u32 32 (by decide) wr_u32 8 (a * 16777216 + b * 65536 + c * 256) d (by omega) (by omega) (by omega) (by omega) (by omega) (by omega)]
  omega
theorem s32_wrap (s : ByteArray) (a : Nat) : wrap64 (wrap32 (b32 s a : Nat)) = s32 s a := by
  have := b32_le s a
  unfold s32
  simp only [wrap64, wrap32]
  split <;> omega

set_option maxHeartbeats 400000 in
theorem readU16_any (w : World) (s : ByteArray) (h2 : 2 ≤ s.size) (hs : s.size ≤ maxLen) (R : Ending → World → Prop)
    (fin : ∀ k, R (.returned (.int .i64 (b16 s 0 : Nat))) (w.drewN k)) :
    Calls Tryz.prog 102 #[.string s] w R := by
  unfold maxLen at hs
  have hb0 := bt_of s 0 (by omega)
  have hb1 := bt_of s 1 (by omega)
  have g0 := bt_le s 0
  have g1 := bt_le s 1
  have i0 : (0 : Int) < (s.size : Int) := by omega
  have i1 : (1 : Int) < (s.size : Int) := by omega
  replace fin := hd fin
  go_enter Tryz.func102, Tryz.ntmps102
  go_wp2
  go_quiet (fail)
  go_wp2
  exact cl1 (fin.out _) (by rw [or16 _ _ g0 g1]; rfl)

set_option maxHeartbeats 400000 in
theorem readI32_any (w : World) (s : ByteArray) (h2 : 4 ≤ s.size) (hs : s.size ≤ maxLen) (R : Ending → World → Prop)
    (fin : ∀ k, R (.returned (.int .i64 (s32 s 0))) (w.drewN k)) :
    Calls Tryz.prog 208 #[.string s] w R := by
  unfold maxLen at hs
  have hb0 := bt_of s 0 (by omega)
  have hb1 := bt_of s 1 (by omega)
  have hb2 := bt_of s 2 (by omega)
  have hb3 := bt_of s 3 (by omega)
  have g0 := bt_le s 0
  have g1 := bt_le s 1
  have g2 := bt_le s 2
  have g3 := bt_le s 3
  have i0 : (0 : Int) < (s.size : Int) := by omega
  have i1 : (1 : Int) < (s.size : Int) := by omega
  have i2 : (2 : Int) < (s.size : Int) := by omega
  have i3 : (3 : Int) < (s.size : Int) := by omega
  replace fin := hd fin
  go_enter Tryz.func208, Tryz.ntmps208
  go_wp2
  go_quiet (fail)
  go_wp2
  rw [or32 _ _ _ _ g0 g1 g2 g3]
  have e := s32_wrap s 0
  unfold b32 at e
  simp only [Nat.zero_add] at e
  rw [e]
  exact cl1 (fin.out _) rfl
def stV6 (op : Nat) (at_ arg cnt lp to_ : Int) : Array Value := #[.int .u8 (op : Int), .int .i64 at_, .int .i64 arg, .int .i64 cnt, .int .i64 lp, .int .i64 to_]
def rdArg (o : Nat) (s : ByteArray) : Int := if o = 1 then s32 s 0 else if o = 2 ∨ o = 3 then bt s 0 else if o = 4 ∨ o = 5 then b16 s 0 else 0
def rdCnt (o : Nat) (s : ByteArray) : Int := if o = 3 then bt s 1 else 0
def osz0 (o : Nat) : Nat := if o = 1 then 4 else if o = 2 then 1 else if o = 3 ∨ o = 4 ∨ o = 5 then 2 else 0
theorem blk6 {W : World} {g T : Nat} {a0 a1 a2 a3 a4 a5 v0 v1 v2 v3 v4 v5 : Value} (h : W.heap[g]? = some (.cells #[a0, a1, a2, a3, a4, a5] T (0, 0))) :
    ((((((W.setCell ⟨g, 0, none⟩ v0).setCell ⟨g, 1, none⟩ v1).setCell ⟨g, 2, none⟩ v2).setCell ⟨g, 3, none⟩ v3).setCell ⟨g, 4, none⟩ v4).setCell ⟨g, 5, none⟩ v5).heap[g]? = some (.cells #[v0, v1, v2, v3, v4, v5] T (0, 0)) := by
  simp [World.setCell, Array.getElem?_modify, h]
theorem infoStep : (Tryz.prog.info? 254).map (·.size) = some 6 := by kernel_rfl
theorem rowStep : (Tryz.prog.underlying 254).map TypeDesc.isRow = some true := by kernel_rfl
theorem range_of_block {w : World} {g T : Nat} {cs : Array Value} (hg : w.heap[g]? = some (.cells cs T (0, 0))) : w.rangeAt g 0 cs.toList := by
  intro j v hv
  rw [Nat.zero_add, cell_of_row w g j cs T (0, 0) hg]
  simpa using hv
/-- A result that lies in a cell of its own: a whole struct or array. -/
theorem ret_row {fn : Func} {R : Ending → World → Prop} {a : Act} {w : World} {p : Tmp} {ty n : Nat} (h : fn.results = #[.cell p ty]) (hrow : (Tryz.prog.underlying ty).map TypeDesc.isRow = some true) (hi : (Tryz.prog.info? ty).map (·.size) = some n)
    (g T : Nat) (cs : Array Value) (hn : cs.size = n) (hp : a.tmps.getD p undef = .pointer (some ⟨g, 0, none⟩)) (hg : w.heap[g]? = some (.cells cs T (0, 0))) (hd : a.defers = []) (hR : R (.returned (.agg cs)) w) : bodyPost Tryz.prog fn R .ret a w := by
  obtain ⟨d, h1, h2⟩ := Option.map_eq_some_iff.1 hrow
  have hl := run_loadVar_mid w g 0 ty cs.toList d (range_of_block hg) h1 h2 (by rw [hi, ← hn]; simp)
  refine bodyPost_ret ?_ hd hR
  have hp' : a.tmps[p]?.getD undef = .pointer (some ⟨g, 0, none⟩) := by simpa using hp
  simp [results, h, hp', asAddr, hl]
theorem drew_new (w : World) (o : Obj) (k : Nat) : ((w.alloc o).drewN k).heap[w.heap.size]? = some o := heap_alloc_new w o
set_option maxHeartbeats 1000000 in
theorem readOperand_any (w : World) (o : Nat) (s : ByteArray) (ho : o ≤ 5) (hsz : s.size = osz0 o) (R : Ending → World → Prop)
    (fin : ∀ w', Below w.heap.size w w' → R (.returned (.agg #[.int .u8 0, .int .i64 0, .int .i64 (rdArg o s), .int .i64 (rdCnt o s), .int .i64 0, .int .i64 0])) w') :
    Calls Tryz.prog 149 #[.int .u8 (o : Int), .string s] w R := by
  have hc : o = 0 ∨ o = 1 ∨ o = 2 ∨ o = 3 ∨ (o = 4 ∨ o = 5) := by omega
  rcases hc with rfl | rfl | rfl | rfl | h45
  · replace fin := hd fin
    go_enter Tryz.func149, Tryz.ntmps149
    go_wp2
    refine ret_row rfl rowStep infoStep w.heap.size 254 _ rfl rfl (heap_alloc_new _ _) rfl ?_
    refine cl1 (fin.out _ ?_) rfl
    exact (by repeat (first | with_reducible exact Below.refl _ _ | with_reducible refine below_drewN ?_ _ | with_reducible refine Below.drew ?_ | with_reducible refine Below.alloc ?_ (by simp) _ | with_reducible refine Below.setCell ?_ (by simp) _))
  · have hs4 : s.size = 4 := hsz
    rw [show rdArg 1 s = s32 s 0 by simp [rdArg], show rdCnt 1 s = 0 by simp [rdCnt]] at fin
    replace fin := hd fin
    go_enter Tryz.func149, Tryz.ntmps149
    go_wp2_with (fail)
    refine readI32_any _ _ (by omega) (by unfold maxLen; omega) _ ?_
    intro k
    go_wp2
    refine ret_row rfl rowStep infoStep w.heap.size 254 _ rfl rfl (blk6 (drew_new w _ k)) rfl ?_
    refine cl1 (fin.out _ ?_) rfl
    exact (by repeat (first | with_reducible exact Below.refl _ _ | with_reducible refine below_drewN ?_ _ | with_reducible refine Below.drew ?_ | with_reducible refine Below.alloc ?_ (by simp) _ | with_reducible refine Below.setCell ?_ (by simp) _))
  · have hs4 : s.size = 1 := hsz
    have hb0 := bt_of s 0 (by omega)
    have g0 := bt_le s 0
    have i0 : (0 : Int) < (s.size : Int) := by omega
    rw [show rdArg 2 s = bt s 0 by simp [rdArg], show rdCnt 2 s = 0 by simp [rdCnt]] at fin
    replace fin := hd fin
    go_enter Tryz.func149, Tryz.ntmps149
    go_wp2
    refine ret_row rfl rowStep infoStep w.heap.size 254 _ rfl rfl (heap_alloc_new _ _) rfl ?_
    refine cl1 (fin.out _ ?_) rfl
    exact (by repeat (first | with_reducible exact Below.refl _ _ | with_reducible refine below_drewN ?_ _ | with_reducible refine Below.drew ?_ | with_reducible refine Below.alloc ?_ (by simp) _ | with_reducible refine Below.setCell ?_ (by simp) _))
  · have hs4 : s.size = 2 := hsz
    have hb0 := bt_of s 0 (by omega)
    have g0 := bt_le s 0
    have hb1 := bt_of s 1 (by omega)
    have g1 := bt_le s 1
    have i0 : (0 : Int) < (s.size : Int) := by omega
    have i1 : (1 : Int) < (s.size : Int) := by omega
    rw [show rdArg 3 s = bt s 0 by simp [rdArg], show rdCnt 3 s = bt s 1 by simp [rdCnt]] at fin
    replace fin := hd fin
    go_enter Tryz.func149, Tryz.ntmps149
    go_wp2
    go_region
    go_wp2
    all_goals
      refine ret_row rfl rowStep infoStep w.heap.size 254 _ rfl rfl (heap_alloc_new _ _) rfl ?_
      refine cl1 (fin.out _ ?_) rfl
      exact (by repeat (first | with_reducible exact Below.refl _ _ | with_reducible refine below_drewN ?_ _ | with_reducible refine Below.drew ?_ | with_reducible refine Below.alloc ?_ (by simp) _ | with_reducible refine Below.setCell ?_ (by simp) _))
  · have hs4 : s.size = 2 := by rcases h45 with rfl | rfl <;> exact hsz
    rcases h45 with rfl | rfl
    all_goals
      rw [show rdArg _ s = (b16 s 0 : Nat) by simp [rdArg], show rdCnt _ s = 0 by simp [rdCnt]] at fin
      replace fin := hd fin
      go_enter Tryz.func149, Tryz.ntmps149
      go_wp2_with (fail)
      refine readU16_any _ _ (by omega) (by unfold maxLen; omega) _ ?_
      intro k
      go_wp2
      refine ret_row rfl rowStep infoStep w.heap.size 254 _ rfl rfl (blk6 (drew_new w _ k)) rfl ?_
      refine cl1 (fin.out _ ?_) rfl
      exact (by repeat (first | with_reducible exact Below.refl _ _ | with_reducible refine below_drewN ?_ _ | with_reducible refine Below.drew ?_ | with_reducible refine Below.alloc ?_ (by simp) _ | with_reducible refine Below.setCell ?_ (by simp) _))

set_option maxHeartbeats 400000 in
theorem operandSize_any (w : World) (o : Nat) (ho : o ≤ 5) (R : Ending → World → Prop) (fin : R (.returned (.int .i64 (osz0 o : Nat))) w) :
    Calls Tryz.prog 148 #[.int .u8 (o : Int)] w R := by
  replace fin := hd fin
  have hc : o = 0 ∨ o = 1 ∨ o = 2 ∨ o = 3 ∨ o = 4 ∨ o = 5 := by omega
  rcases hc with rfl | rfl | rfl | rfl | rfl | rfl
  all_goals
    go_enter Tryz.func148, Tryz.ntmps148
    go_wp2
    exact cl1 fin.out rfl

set_option maxHeartbeats 400000 in
theorem multiply_any (w : World) (a b : Int) (ha : 1 ≤ a ∧ a ≤ 65535) (hb : 0 ≤ b ∧ b ≤ 300000) (R : Ending → World → Prop)
    (fin : ∀ r, r = min (a * b) 200001 → R (.returned (.int .i64 r)) w) :
    Calls Tryz.prog 217 #[.int .i64 a, .int .i64 b] w R := by
  replace fin := hd fin
  have hm : 0 ≤ a * b := Int.mul_nonneg (by omega) (by omega)
  have hm2 : a * b ≤ 65535 * 300000 := by
    have h1 : a * b ≤ 65535 * b := Int.mul_le_mul_of_nonneg_right ha.2 hb.1
    omega
  have a0 : (a == 0) = false := by simp; omega
  by_cases hq : 200001 / a < b
  · have d : decide (200001 / a < b) = true := by simpa using hq
    have hge : 200001 < a * b := by
      have h2 : 200001 / a + 1 ≤ b := by omega
      have h3 := Int.lt_ediv_add_one_mul_self 200001 (show 0 < a by omega)
      have h4 : (200001 / a + 1) * a ≤ b * a := Int.mul_le_mul_of_nonneg_right h2 (by omega)
      have h5 : b * a = a * b := Int.mul_comm _ _
      omega
    replace hq := hd hq
    go_enter Tryz.func217, Tryz.ntmps217
    go_wp2
    exact cl1 (fin.out _ (by omega)) rfl
  · have d : decide (200001 / a < b) = false := by simpa using hq
    have hle : a * b ≤ 200001 := by
      have h2 : b ≤ 200001 / a := by omega
      have h3 : b * a ≤ (200001 / a) * a := Int.mul_le_mul_of_nonneg_right h2 (by omega)
      have h4 := Int.ediv_mul_le 200001 (show a ≠ 0 by omega)
      have h5 : b * a = a * b := Int.mul_comm _ _
      omega
    replace hq := hd hq
    go_enter Tryz.func217, Tryz.ntmps217
    go_wp2
    exact cl1 (fin.out _ (by omega)) rfl

theorem num_call (w : World) (a : Int) (R : Ending → World → Prop) (fin : R (.returned (.int .i64 a)) w) :
    Calls Tryz.prog 14 #[.int .i64 a] w R := by
  replace fin := hd fin
  go_enter Tryz.func14, Tryz.ntmps14
  go_wp2
  exact cl1 fin.out rfl
theorem bound_any (w : World) (b : Nat) (x : Int) (hx : w.cell? ⟨b, 2, none⟩ = some (.int .i64 x)) (R : Ending → World → Prop) (fin : R (.returned (.int .i64 x)) w) :
    Calls Tryz.prog 65 #[.pointer (some ⟨b, 0, none⟩)] w R := by
  replace fin := hd fin
  go_enter Tryz.func65, Tryz.ntmps65
  go_wp2
  exact cl1 fin.out rfl
theorem isEnd_any (w : World) (op : Nat) (b c d e f : Int) (R : Ending → World → Prop) (fin : ∀ w', Below w.heap.size w w' → R (.returned (.bool (decide (op = 0)))) w') :
    Calls Tryz.prog 152 #[.agg #[.int .u8 (op : Int), .int .i64 b, .int .i64 c, .int .i64 d, .int .i64 e, .int .i64 f]] w R := by
  replace fin := hd fin
  by_cases h : op = 0
  · have t : ((op : Int) == 0) = true := by simp [h]
    go_enter Tryz.func152, Tryz.ntmps152
    go_wp2
    exact cl1 (fin.out _ (by repeat (first | exact Below.refl _ _ | refine below_drewN ?_ _ | refine Below.drew ?_ | refine Below.alloc ?_ (by simp) _ | refine Below.setCell ?_ (by simp) _))) (by simp [h])
  · have t : ((op : Int) == 0) = false := by simp; omega
    go_enter Tryz.func152, Tryz.ntmps152
    go_wp2
    exact cl1 (fin.out _ (by repeat (first | exact Below.refl _ _ | refine below_drewN ?_ _ | refine Below.drew ?_ | refine Below.alloc ?_ (by simp) _ | refine Below.setCell ?_ (by simp) _))) (by simp [h])

end Go.Proofs.YtidhiaaicmfabaaGreatDoor
