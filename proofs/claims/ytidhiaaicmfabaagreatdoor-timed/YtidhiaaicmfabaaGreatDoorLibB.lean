/- The methods of the heap of instructions: which they are, Less, Swap. -/
import Derived.Test.YtidhiaaicmfabaaGreatDoorMem
import Derived.Test.YtidhiaaicmfabaaGreatDoorSpec
import Derived.Test.YtidhiaaicmfabaaGreatDoorRefA
import Derived.Test.YtidhiaaicmfabaaGreatDoorRefC
import Derived.Test.YtidhiaaicmfabaaGreatDoorSpec2
import Derived.WalkKit
import Derived.WalkSpells
import Derived.WalkLawsBesides
import Derived.Deep.OwnRows
import Derived.BigQuiet
import Derived.Handy
import Derived.Deep.Light
import Derived.Deep.RegionHeld3
import Derived.Deep.RegionWith
namespace Go.Proofs.YtidhiaaicmfabaaGreatDoor
open Go.RowKit Go.Proofs Go.Deep

theorem wrapnil (ts : Array TypeId) (t : TypeId) (p : Addr) (s1 s2 : String) (w : World) : (Builtin.ssaWrapNilChk_ ts t #[.pointer (some p), strVal s1, strVal s2]).run Tryz.prog w = .ok (.pointer (some p)) w := rfl
theorem rowLess : (Array.find? (fun x => x.name == "Less") Tryz.t220.methods).map (fun m => (m.path, m.func)) = some (#[], some (302, false)) := by kernel_rfl
theorem rowSwap : (Array.find? (fun x => x.name == "Swap") Tryz.t220.methods).map (fun m => (m.path, m.func)) = some (#[], some (303, false)) := by kernel_rfl
theorem rowLen : (Array.find? (fun x => x.name == "Len") Tryz.t220.methods).map (fun m => (m.path, m.func)) = some (#[], some (110, false)) := by kernel_rfl
theorem rowPop : (Array.find? (fun x => x.name == "Pop") Tryz.t220.methods).map (fun m => (m.path, m.func)) = some (#[], some (304, true)) := by kernel_rfl
theorem rowPush : (Array.find? (fun x => x.name == "Push") Tryz.t220.methods).map (fun m => (m.path, m.func)) = some (#[], some (305, true)) := by kernel_rfl
theorem meth_less (k : Nat) (p : Addr) (a : Option Addr) (n c : Nat) (w : World) (h : w.cell? p = some (.slice a n c)) :
    (method (k + 1) 220 (.pointer (some p)) "Less").run Tryz.prog w = .ok (302, .slice a n c) w := by
  obtain ⟨m, hm, hmm⟩ := Option.map_eq_some_iff.1 rowLess
  simp only [Prod.mk.injEq] at hmm
  unfold method
  simp [go_sem, hm, hmm.1, hmm.2, follow, receiverAt, Place.get, wrapnil, h]
theorem meth_swap (k : Nat) (p : Addr) (a : Option Addr) (n c : Nat) (w : World) (h : w.cell? p = some (.slice a n c)) :
    (method (k + 1) 220 (.pointer (some p)) "Swap").run Tryz.prog w = .ok (303, .slice a n c) w := by
  obtain ⟨m, hm, hmm⟩ := Option.map_eq_some_iff.1 rowSwap
  simp only [Prod.mk.injEq] at hmm
  unfold method
  simp [go_sem, hm, hmm.1, hmm.2, follow, receiverAt, Place.get, wrapnil, h]
theorem meth_len (k : Nat) (p : Addr) (a : Option Addr) (n c : Nat) (w : World) (h : w.cell? p = some (.slice a n c)) :
    (method (k + 1) 220 (.pointer (some p)) "Len").run Tryz.prog w = .ok (110, .slice a n c) w := by
  obtain ⟨m, hm, hmm⟩ := Option.map_eq_some_iff.1 rowLen
  simp only [Prod.mk.injEq] at hmm
  unfold method
  simp [go_sem, hm, hmm.1, hmm.2, follow, receiverAt, Place.get, wrapnil, h]
theorem meth_pop (k : Nat) (p : Addr) (w : World) : (method (k + 1) 220 (.pointer (some p)) "Pop").run Tryz.prog w = .ok (304, .pointer (some p)) w := by
  obtain ⟨m, hm, hmm⟩ := Option.map_eq_some_iff.1 rowPop
  simp only [Prod.mk.injEq] at hmm
  unfold method
  simp [go_sem, hm, hmm.1, hmm.2, follow, receiverAt, Place.get]
theorem meth_push (k : Nat) (p : Addr) (w : World) : (method (k + 1) 220 (.pointer (some p)) "Push").run Tryz.prog w = .ok (305, .pointer (some p)) w := by
  obtain ⟨m, hm, hmm⟩ := Option.map_eq_some_iff.1 rowPush
  simp only [Prod.mk.injEq] at hmm
  unfold method
  simp [go_sem, hm, hmm.1, hmm.2, follow, receiverAt, Place.get]

set_option maxHeartbeats 400000 in
theorem less_any (w : World) (g n cap i j : Nat) (A : Nat → Int) (hi : i < n) (hj : j < n) (_hn : n ≤ 10000) (hA : ∀ k, k < n → w.cell? ⟨g, k, none⟩ = some (.int .i64 (A k)))
    (R : Ending → World → Prop) (fin : ∀ m, R (.returned (.bool (decide (A i < A j)))) (w.drewN m)) :
    Calls Tryz.prog 302 #[.slice (some ⟨g, 0, none⟩) n cap, .int .i64 (i : Int), .int .i64 (j : Int)] w R := by
  have ci := hA i hi
  have cj := hA j hj
  have i1 : (i : Int) < (n : Int) := by omega
  have j1 : (j : Int) < (n : Int) := by omega
  replace fin := hd fin
  replace hA := hd hA
  go_enter Tryz.func302, Tryz.ntmps302
  go_wp2
  go_quiet (fail)
  go_wp2
  exact cl1 (fin.out _) rfl

set_option maxHeartbeats 400000 in
theorem swap_any (w : World) (g n cap i j : Nat) (A : Nat → Int) (hi : i < n) (hj : j < n) (_hn : n ≤ 10000) (hA : ∀ k, k < n → w.cell? ⟨g, k, none⟩ = some (.int .i64 (A k))) (hf : ∀ k, w.frozen? ⟨g, k, none⟩ = false)
    (R : Ending → World → Prop) (fin : R (.returned (.tuple #[])) ((w.setCell ⟨g, i, none⟩ (.int .i64 (A j))).setCell ⟨g, j, none⟩ (.int .i64 (A i))).drew) :
    Calls Tryz.prog 303 #[.slice (some ⟨g, 0, none⟩) n cap, .int .i64 (i : Int), .int .i64 (j : Int)] w R := by
  have ci := hA i hi
  have cj := hA j hj
  have i1 : (i : Int) < (n : Int) := by omega
  have j1 : (j : Int) < (n : Int) := by omega
  have fi := hf i
  have fj := hf j
  replace fin := hd fin
  replace hA := hd hA
  go_enter Tryz.func303, Tryz.ntmps303
  by_cases hij : i = j
  · subst hij
    have c2 : ∀ v, (w.setCell ⟨g, i, none⟩ v).cell? ⟨g, i, none⟩ = some v := fun v => World.cell?_setCell_same _ _ _ ci
    go_wp2
    go_region
    all_goals go_wp2
    all_goals go_end0
    all_goals exact fin.out
  · have hji : ¬ j = i := fun h => hij h.symm
    go_wp2
    go_region
    all_goals go_wp2
    all_goals go_end0
    all_goals exact fin.out


end Go.Proofs.YtidhiaaicmfabaaGreatDoor
