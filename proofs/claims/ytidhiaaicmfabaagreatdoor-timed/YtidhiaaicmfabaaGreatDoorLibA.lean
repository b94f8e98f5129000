/- Contracts of small functions of Go's library and of the program: CutPrefix at the mark, Compare, add. -/
import Derived.Test.YtidhiaaicmfabaaGreatDoorMem
import Derived.Test.YtidhiaaicmfabaaGreatDoorSpec
import Derived.Test.YtidhiaaicmfabaaGreatDoorRefA
import Derived.Test.YtidhiaaicmfabaaGreatDoorRefC
import Derived.Test.YtidhiaaicmfabaaGreatDoorSpec2
import Derived.WalkKit
import Derived.WalkSpells
import Derived.WalkLawsBesides
import Derived.Deep.OwnRows
import Derived.BigQuiet
import Derived.Handy
import Derived.Deep.Light
import Derived.Deep.RegionHeld3
import Derived.Deep.RegionWith
namespace Go.Proofs.YtidhiaaicmfabaaGreatDoor
open Go.RowKit Go.Proofs Go.Deep

/-- The image opens with the six bytes of the mark. -/
def Marked (s : ByteArray) : Prop := 6 ≤ s.size ∧ (s.extract 0 6).toList = [83, 76, 85, 73, 67, 69]
set_option maxHeartbeats 400000 in
theorem hasPrefix_mark (w : World) (s : ByteArray) (hs : s.size ≤ maxLen) (R : Ending → World → Prop)
    (fin : ∀ b : Bool, (b = true ↔ Marked s) → R (.returned (.bool b)) w) :
    Calls Tryz.prog 207 #[.string s, .string ⟨#[83, 76, 85, 73, 67, 69]⟩] w R := by
  unfold maxLen at hs
  replace fin := hd fin
  by_cases h6 : 6 ≤ s.size
  · have d6 : decide ((6 : Int) ≤ (s.size : Int)) = true := by simp; omega
    have i6 : (6 : Int) ≤ (s.size : Int) := by omega
    go_enter Tryz.func207, Tryz.ntmps207
    go_wp2
    exact cl1 (fin.out _ (by simp [Marked, h6])) rfl
  · have d6 : decide ((6 : Int) ≤ (s.size : Int)) = false := by simp; omega
    have i6 : ¬ (6 : Int) ≤ (s.size : Int) := by omega
    go_enter Tryz.func207, Tryz.ntmps207
    go_wp2
    exact cl1 (fin.out false (by simp [Marked, h6])) rfl

set_option maxHeartbeats 400000 in
theorem cutPrefix_lite (w : World) (s : ByteArray) (hs : s.size ≤ maxLen) (R : Ending → World → Prop)
    (no : ¬ Marked s → R (.returned (.tuple #[.string s, .bool false])) w)
    (yes : Marked s → R (.returned (.tuple #[.string (s.extract 6 s.size), .bool true])) w) :
    Calls Tryz.prog 147 #[.string s, .string ⟨#[83, 76, 85, 73, 67, 69]⟩] w R := by
  have hs' := hs
  unfold maxLen at hs'
  replace no := hd no
  replace yes := hd yes
  go_enter Tryz.func147, Tryz.ntmps147
  go_wp2_with (fail)
  refine hasPrefix_mark _ _ hs _ ?_
  intro b hb
  cases b with
  | false =>
    have h := hd (show ¬ Marked s from fun h => by have := hb.2 h; cases this)
    clear hb
    go_wp2
    exact cl1 (no.out h.out) rfl
  | true =>
    have h := hd (hb.1 rfl)
    have h6 := h.out.1
    have i6 : (6 : Int) ≤ (s.size : Int) := by omega
    clear hb
    go_wp2
    exact cl1 (yes.out h.out) rfl

set_option maxHeartbeats 400000 in
theorem cutPrefix_mark (w : World) (s : ByteArray) (hs : s.size ≤ maxLen) (R : Ending → World → Prop)
    (no : ¬ Marked s → R (.returned (.tuple #[.string s, .bool false])) w)
    (yes : Marked s → R (.returned (.tuple #[.string (s.extract 6 s.size), .bool true])) w) :
    Calls Tryz.prog 100 #[.string s, .string ⟨#[83, 76, 85, 73, 67, 69]⟩] w R := by
  replace no := hd no
  replace yes := hd yes
  go_enter Tryz.func100, Tryz.ntmps100
  go_wp2_with (fail)
  refine cutPrefix_lite _ _ hs _ ?_ ?_
  · intro h
    replace h := hd h
    go_wp2
    exact cl1 (no.out h.out) rfl
  · intro h
    replace h := hd h
    go_wp2
    exact cl1 (yes.out h.out) rfl

set_option maxHeartbeats 400000 in
theorem add_any (w : World) (a b : Int) (ha : 0 ≤ a ∧ a ≤ 300000) (hb : 0 ≤ b ∧ b ≤ 300000) (R : Ending → World → Prop)
    (fin : ∀ r, r = min (a + b) 200001 → R (.returned (.int .i64 r)) w) :
    Calls Tryz.prog 183 #[.int .i64 a, .int .i64 b] w R := by
  replace fin := hd fin
  go_enter Tryz.func183, Tryz.ntmps183
  go_wp2
  all_goals exact cl1 (fin.out _ (by omega)) rfl

set_option maxHeartbeats 400000 in
theorem compare_any (w : World) (a b : Int) (R : Ending → World → Prop)
    (fin : ∀ r : Int, (r < 0 ↔ a < b) → (r = 0 ↔ a = b) → R (.returned (.int .i64 r)) w) :
    Calls Tryz.prog 155 #[.int .i64 a, .int .i64 b] w R := by
  replace fin := hd fin
  go_enter Tryz.func155, Tryz.ntmps155
  go_wp2
  all_goals exact cl1 (fin.out _ (by omega) (by omega)) rfl

end Go.Proofs.YtidhiaaicmfabaaGreatDoor
