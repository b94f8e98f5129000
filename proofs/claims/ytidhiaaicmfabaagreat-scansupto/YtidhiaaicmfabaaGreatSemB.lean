/- The machine's small functions: numbers laid into kinds, and what instructions reckon. -/
import Derived.Test.YtidhiaaicmfabaaGreatMem
import Derived.Test.YtidhiaaicmfabaaGreatSpec
import Derived.Test.YtidhiaaicmfabaaGreatRefA
import Derived.Test.YtidhiaaicmfabaaGreatRefC
import Derived.Test.YtidhiaaicmfabaaGreatSpec2
import Derived.WalkKit
import Derived.WalkSpells
import Derived.WalkLawsBesides
import Derived.Deep.OwnRows
import Derived.BigQuiet
import Derived.Handy
import Derived.Deep.Light
import Derived.Deep.RegionHeld3
import Derived.Deep.RegionWith
import Derived.Test.YtidhiaaicmfabaaGreatSemA
namespace Go.Proofs.YtidhiaaicmfabaaGreat
open Go.RowKit Go.Proofs Go.Deep

theorem truth_any (w : World) (b : Bool) (R : Ending → World → Prop) (fin : R (.returned (.int .i32 (tr b))) w) : Calls Tryz.prog 77 #[.bool b] w R := by
  replace fin := hd fin
  cases b
  · go_enter Tryz.func77, Tryz.ntmps77
    go_wp2
    exact cl1 fin.out rfl
  · go_enter Tryz.func77, Tryz.ntmps77
    go_wp2
    exact cl1 fin.out rfl
theorem laid_any (w : World) (n : Int) (k : Nat) (R : Ending → World → Prop) (fin : R (.returned (.int .i32 (layK k n))) w) : Calls Tryz.prog 83 #[.int .i64 n, .int .u8 (k : Int)] w R := by
  by_cases h0 : k = 0
  · subst h0
    replace fin := hd fin
    go_enter Tryz.func83, Tryz.ntmps83
    go_wp2_with (first | (go_at_call 77; refine truth_any _ _ _ ?_))
    exact cl1 fin.out (by simp [layK])
  · have t0 : ((k : Int) == 0) = false := by simp; omega
    by_cases h1 : k = 1
    · have t1 : ((k : Int) == 1) = true := by simp [h1]
      have e : layK k n = IntKind.i16.wrap n := by unfold layK; rw [if_neg h0, if_pos h1]
      rw [e] at fin
      replace fin := hd fin
      go_enter Tryz.func83, Tryz.ntmps83
      go_wp2
      exact cl1 fin.out (by show Value.int _ _ = Value.int _ _; rw [w32_16])
    · have t1 : ((k : Int) == 1) = false := by simp; omega
      have e : layK k n = wrap32 n := by unfold layK; rw [if_neg h0, if_neg h1]
      rw [e] at fin
      replace fin := hd fin
      go_enter Tryz.func83, Tryz.ntmps83
      go_wp2
      exact cl1 fin.out rfl
theorem t1_any (w : World) (a b : Int) (R : Ending → World → Prop) (fin : R (.returned (.int .i32 (wrap32 (a + b)))) w) : Calls Tryz.prog 70 #[.int .i32 a, .int .i32 b] w R := by
  replace fin := hd fin
  go_enter Tryz.func70, Tryz.ntmps70
  go_wp2
  exact cl1 fin.out rfl
theorem cf_t1 (args : Array Value) (w : World) : (callFunc 70 args).run Tryz.prog w = .ok (.enter 70 args) w := by kernel_rfl
theorem t2_any (w : World) (a b : Int) (R : Ending → World → Prop) (fin : R (.returned (.int .i32 (wrap32 (a - b)))) w) : Calls Tryz.prog 71 #[.int .i32 a, .int .i32 b] w R := by
  replace fin := hd fin
  go_enter Tryz.func71, Tryz.ntmps71
  go_wp2
  exact cl1 fin.out rfl
theorem cf_t2 (args : Array Value) (w : World) : (callFunc 71 args).run Tryz.prog w = .ok (.enter 71 args) w := by kernel_rfl
theorem t3_any (w : World) (a b : Int) (R : Ending → World → Prop) (fin : R (.returned (.int .i32 (wrap32 (a * b)))) w) : Calls Tryz.prog 72 #[.int .i32 a, .int .i32 b] w R := by
  replace fin := hd fin
  go_enter Tryz.func72, Tryz.ntmps72
  go_wp2
  exact cl1 fin.out rfl
theorem cf_t3 (args : Array Value) (w : World) : (callFunc 72 args).run Tryz.prog w = .ok (.enter 72 args) w := by kernel_rfl
theorem t4_any (w : World) (a b : Int) (hb : b ≠ 0) (R : Ending → World → Prop) (fin : R (.returned (.int .i32 (wrap32 (a.tdiv b)))) w) : Calls Tryz.prog 74 #[.int .i32 a, .int .i32 b] w R := by
  replace fin := hd fin
  go_enter Tryz.func74, Tryz.ntmps74
  go_wp2
  exact cl1 fin.out rfl
theorem cf_t4 (args : Array Value) (w : World) : (callFunc 74 args).run Tryz.prog w = .ok (.enter 74 args) w := by kernel_rfl
theorem t5_any (w : World) (a b : Int) (hb : b ≠ 0) (R : Ending → World → Prop) (fin : R (.returned (.int .i32 (a.tmod b))) w) : Calls Tryz.prog 75 #[.int .i32 a, .int .i32 b] w R := by
  replace fin := hd fin
  go_enter Tryz.func75, Tryz.ntmps75
  go_wp2
  exact cl1 fin.out rfl
theorem cf_t5 (args : Array Value) (w : World) : (callFunc 75 args).run Tryz.prog w = .ok (.enter 75 args) w := by kernel_rfl
theorem t6_any (w : World) (a b : Int) (R : Ending → World → Prop) (fin : R (.returned (.int .i32 (tr (a == b)))) w) : Calls Tryz.prog 76 #[.int .i32 a, .int .i32 b] w R := by
  replace fin := hd fin
  go_enter Tryz.func76, Tryz.ntmps76
  go_wp2_with (first | (go_at_call 77; refine truth_any _ _ _ ?_))
  exact cl1 fin.out rfl
theorem cf_t6 (args : Array Value) (w : World) : (callFunc 76 args).run Tryz.prog w = .ok (.enter 76 args) w := by kernel_rfl
theorem t7_any (w : World) (a b : Int) (R : Ending → World → Prop) (fin : R (.returned (.int .i32 (tr (decide (a < b))))) w) : Calls Tryz.prog 78 #[.int .i32 a, .int .i32 b] w R := by
  replace fin := hd fin
  go_enter Tryz.func78, Tryz.ntmps78
  go_wp2_with (first | (go_at_call 77; refine truth_any _ _ _ ?_))
  exact cl1 fin.out rfl
theorem cf_t7 (args : Array Value) (w : World) : (callFunc 78 args).run Tryz.prog w = .ok (.enter 78 args) w := by kernel_rfl
theorem t8_any (w : World) (a b : Int) (R : Ending → World → Prop) (fin : R (.returned (.int .i32 (tr (a == 0)))) w) : Calls Tryz.prog 79 #[.int .i32 a, .int .i32 b] w R := by
  replace fin := hd fin
  go_enter Tryz.func79, Tryz.ntmps79
  go_wp2_with (first | (go_at_call 77; refine truth_any _ _ _ ?_))
  exact cl1 fin.out rfl
theorem cf_t8 (args : Array Value) (w : World) : (callFunc 79 args).run Tryz.prog w = .ok (.enter 79 args) w := by kernel_rfl
theorem t9_any (w : World) (a b : Int) (R : Ending → World → Prop) (fin : R (.returned (.int .i32 (tr (a != 0 && b != 0)))) w) : Calls Tryz.prog 80 #[.int .i32 a, .int .i32 b] w R := by
  replace fin := hd fin
  by_cases h : a = 0
  · subst h
    go_enter Tryz.func80, Tryz.ntmps80
    go_wp2_with (first | (go_at_call 77; refine truth_any _ _ _ ?_))
    exact cl1 fin.out (by first | rfl | (show Value.int _ _ = Value.int _ _; simp [ha]))
  · have ha : (a != 0) = true := by simpa using h
    go_enter Tryz.func80, Tryz.ntmps80
    go_wp2_with (first | (go_at_call 77; refine truth_any _ _ _ ?_))
    exact cl1 fin.out (by first | rfl | (show Value.int _ _ = Value.int _ _; simp [ha]))
theorem cf_t9 (args : Array Value) (w : World) : (callFunc 80 args).run Tryz.prog w = .ok (.enter 80 args) w := by kernel_rfl
theorem t10_any (w : World) (a b : Int) (R : Ending → World → Prop) (fin : R (.returned (.int .i32 (tr (a != 0 || b != 0)))) w) : Calls Tryz.prog 81 #[.int .i32 a, .int .i32 b] w R := by
  replace fin := hd fin
  by_cases h : a = 0
  · subst h
    go_enter Tryz.func81, Tryz.ntmps81
    go_wp2_with (first | (go_at_call 77; refine truth_any _ _ _ ?_))
    exact cl1 fin.out (by first | rfl | (show Value.int _ _ = Value.int _ _; simp [ha]))
  · have ha : (a != 0) = true := by simpa using h
    go_enter Tryz.func81, Tryz.ntmps81
    go_wp2_with (first | (go_at_call 77; refine truth_any _ _ _ ?_))
    exact cl1 fin.out (by first | rfl | (show Value.int _ _ = Value.int _ _; simp [ha]))
theorem cf_t10 (args : Array Value) (w : World) : (callFunc 81 args).run Tryz.prog w = .ok (.enter 81 args) w := by kernel_rfl
theorem t11_any (w : World) (a b : Int) (ha : in32 a) (R : Ending → World → Prop) (fin : R (.returned (.int .i32 (IntKind.i16.wrap a))) w) : Calls Tryz.prog 82 #[.int .i32 a, .int .i32 b] w R := by
  replace fin := hd fin
  have hw : wrap64 a = a := IntWalk.wrap64_in _ (by unfold in32 at ha; omega)
  have e : layK 1 a = IntKind.i16.wrap a := rfl
  go_enter Tryz.func82, Tryz.ntmps82
  go_wp2_with (first | (go_at_call 83; refine laid_any _ _ 1 _ ?_))
  exact cl1 fin.out rfl
theorem cf_t11 (args : Array Value) (w : World) : (callFunc 82 args).run Tryz.prog w = .ok (.enter 82 args) w := by kernel_rfl
theorem reckoned_at (w : World) (f : Fn) (R : Ending → World → Prop) (fin : ∀ g w', Below w.heap.size w w' → w.heap.size ≤ g → w'.cell? ⟨g, 0, none⟩ = some (.func f #[] #[]) → R (.returned (.func (.func 110) #[] #[.pointer (some ⟨g, 0, none⟩)])) w') :
    Calls Tryz.prog 69 #[.func f #[] #[]] w R := by
  replace fin := hd fin
  go_enter Tryz.func69, Tryz.ntmps69
  go_wp2
  exact cl1 (fin.out w.heap.size _ (by repeat (first | with_reducible exact Below.refl _ _ | with_reducible refine below_drewN ?_ _ | with_reducible refine Below.drew ?_ | with_reducible refine Below.alloc ?_ (by simp) _ | with_reducible refine Below.setCell ?_ (by simp) _)) (Nat.le_refl _) ((cell_of_row _ _ 0 _ _ (0, 0) (heap_alloc_new w _)).trans rfl)) rfl
theorem divided_at (w : World) (f : Fn) (R : Ending → World → Prop) (fin : ∀ g w', Below w.heap.size w w' → w.heap.size ≤ g → w'.cell? ⟨g, 0, none⟩ = some (.func f #[] #[]) → R (.returned (.func (.func 111) #[] #[.pointer (some ⟨g, 0, none⟩)])) w') :
    Calls Tryz.prog 73 #[.func f #[] #[]] w R := by
  replace fin := hd fin
  go_enter Tryz.func73, Tryz.ntmps73
  go_wp2
  exact cl1 (fin.out w.heap.size _ (by repeat (first | with_reducible exact Below.refl _ _ | with_reducible refine below_drewN ?_ _ | with_reducible refine Below.drew ?_ | with_reducible refine Below.alloc ?_ (by simp) _ | with_reducible refine Below.setCell ?_ (by simp) _)) (Nat.le_refl _) ((cell_of_row _ _ 0 _ _ (0, 0) (heap_alloc_new w _)).trans rfl)) rfl
set_option maxRecDepth 100000 in
theorem rk_any (w : World) (br g : Nat) (v0 v1 v2 v3 v4 v5 : Value) (a b : Int) (F : Nat) (hg : w.cell? ⟨g, 0, none⟩ = some (.func (.func F) #[] #[])) (x : Int) (hcf : ∀ args w, (callFunc F args).run Tryz.prog w = .ok (.enter F args) w)
    (hF : ∀ w R, R (.returned (.int .i32 x)) w → Calls Tryz.prog F #[.int .i32 a, .int .i32 b] w R)
    (R : Ending → World → Prop) (fin : ∀ w', Below w.heap.size w w' → R (.returned (.tuple #[.int .i32 x, .int .i64 0])) w') :
    Calls Tryz.prog 110 #[.pointer (some ⟨br, 0, none⟩), .agg #[v0, v1, v2, v3, v4, v5], .int .i32 a, .int .i32 b, .pointer (some ⟨g, 0, none⟩)] w R := by
  have hgl := World.block_lt_of_cell? w _ hg
  replace fin := hd fin
  replace hF := hd hF
  go_enter Tryz.func110, Tryz.ntmps110
  go_wp2_with (fail)
  refine hF.out _ _ ?_
  go_wp2
  exact cl1 (fin.out _ (by repeat (first | with_reducible exact Below.refl _ _ | with_reducible refine below_drewN ?_ _ | with_reducible refine Below.drew ?_ | with_reducible refine Below.alloc ?_ (by simp) _ | with_reducible refine Below.setCell ?_ (by simp) _))) rfl
set_option maxRecDepth 100000 in
theorem dv_any (w : World) (br g : Nat) (v0 v1 v2 v3 v4 v5 : Value) (a b : Int) (F : Nat) (hg : w.cell? ⟨g, 0, none⟩ = some (.func (.func F) #[] #[])) (x : Int) (hcf : ∀ args w, (callFunc F args).run Tryz.prog w = .ok (.enter F args) w)
    (hF : b ≠ 0 → ∀ w R, R (.returned (.int .i32 x)) w → Calls Tryz.prog F #[.int .i32 a, .int .i32 b] w R)
    (R : Ending → World → Prop) (fin : ∀ w', Below w.heap.size w w' → R (.returned (.tuple #[.int .i32 (if b = 0 then 0 else x), .int .i64 (if b = 0 then 4 else 0)])) w') :
    Calls Tryz.prog 111 #[.pointer (some ⟨br, 0, none⟩), .agg #[v0, v1, v2, v3, v4, v5], .int .i32 a, .int .i32 b, .pointer (some ⟨g, 0, none⟩)] w R := by
  have hgl := World.block_lt_of_cell? w _ hg
  by_cases h0 : b = 0
  · rw [if_pos h0, if_pos h0] at fin
    subst h0
    replace fin := hd fin
    go_enter Tryz.func111, Tryz.ntmps111
    go_wp2
    exact cl1 (fin.out _ (by repeat (first | with_reducible exact Below.refl _ _ | with_reducible refine below_drewN ?_ _ | with_reducible refine Below.drew ?_ | with_reducible refine Below.alloc ?_ (by simp) _ | with_reducible refine Below.setCell ?_ (by simp) _))) rfl
  · rw [if_neg h0, if_neg h0] at fin
    have t0 : (b == 0) = false := by simpa using h0
    replace fin := hd fin
    replace hF := hd (hF h0)
    go_enter Tryz.func111, Tryz.ntmps111
    go_wp2_with (fail)
    refine hF.out _ _ ?_
    go_wp2
    exact cl1 (fin.out _ (by repeat (first | with_reducible exact Below.refl _ _ | with_reducible refine below_drewN ?_ _ | with_reducible refine Below.drew ?_ | with_reducible refine Below.alloc ?_ (by simp) _ | with_reducible refine Below.setCell ?_ (by simp) _))) rfl
theorem lay_any (w : World) (bc c k : Nat) (n v : Int) (hk : w.cell? ⟨bc, c * 3 + 1, none⟩ = some (.int .u8 (k : Int))) (hv : w.cell? ⟨bc, c * 3 + 2, none⟩ = some (.int .i32 v)) (hf : w.frozen? ⟨bc, c * 3 + 2, none⟩ = false)
    (R : Ending → World → Prop) (fin : R (.returned (.tuple #[])) (w.setCell ⟨bc, c * 3 + 2, none⟩ (.int .i32 (layK k n)))) :
    Calls Tryz.prog 101 #[.pointer (some ⟨bc, c * 3, none⟩), .int .i64 n] w R := by
  replace fin := hd fin
  go_enter Tryz.func101, Tryz.ntmps101
  go_wp2_with (first | (go_at_call 83; refine laid_any _ _ _ _ ?_))
  go_end0
  exact fin.out
theorem hasIndex_any (w : World) (v0 v1 v2 v4 v5 : Value) (cnt a : Int) (ha : in32 a) (R : Ending → World → Prop) (fin : ∀ w', Below w.heap.size w w' → R (.returned (.bool (decide (0 ≤ a ∧ a < cnt)))) w') :
    Calls Tryz.prog 109 #[.agg #[v0, v1, v2, .int .i64 cnt, v4, v5], .int .i32 a] w R := by
  have hw : wrap64 a = a := IntWalk.wrap64_in _ (by unfold in32 at ha; omega)
  replace fin := hd fin
  by_cases h0 : 0 ≤ a
  · have d0 : decide (0 ≤ a) = true := by simpa using h0
    go_enter Tryz.func109, Tryz.ntmps109
    go_wp2
    exact cl1 (fin.out _ (by repeat (first | with_reducible exact Below.refl _ _ | with_reducible refine below_drewN ?_ _ | with_reducible refine Below.drew ?_ | with_reducible refine Below.alloc ?_ (by simp) _ | with_reducible refine Below.setCell ?_ (by simp) _))) (by show Value.bool _ = Value.bool _; simp [h0])
  · have d0 : decide (0 ≤ a) = false := by simpa using h0
    go_enter Tryz.func109, Tryz.ntmps109
    go_wp2
    exact cl1 (fin.out _ (by repeat (first | with_reducible exact Below.refl _ _ | with_reducible refine below_drewN ?_ _ | with_reducible refine Below.drew ?_ | with_reducible refine Below.alloc ?_ (by simp) _ | with_reducible refine Below.setCell ?_ (by simp) _))) (by show Value.bool _ = Value.bool _; simp; omega)

end Go.Proofs.YtidhiaaicmfabaaGreat
