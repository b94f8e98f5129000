/- The contract of the heap of instructions' own Push. -/
import Derived.Test.YtidhiaaicmfabaaGreatDoorMem
import Derived.Test.YtidhiaaicmfabaaGreatDoorSpec
import Derived.Test.YtidhiaaicmfabaaGreatDoorRefA
import Derived.Test.YtidhiaaicmfabaaGreatDoorRefC
import Derived.Test.YtidhiaaicmfabaaGreatDoorSpec2
import Derived.Test.YtidhiaaicmfabaaGreatDoorLibB
import Derived.Test.YtidhiaaicmfabaaGreatDoorLibC
import Derived.Test.YtidhiaaicmfabaaGreatDoorLibD
import Derived.Test.YtidhiaaicmfabaaGreatDoorLibE
import Derived.WalkKit
import Derived.WalkSpells
import Derived.WalkLawsBesides
import Derived.Deep.OwnRows
import Derived.BigQuiet
import Derived.Handy
import Derived.Deep.Light
import Derived.Deep.RegionHeldLaw
import Derived.Deep.RegionLaw
import Derived.Deep.AppendLies
import Derived.Deep.RegionHeld3
import Derived.Deep.RegionWith
namespace Go.Proofs.YtidhiaaicmfabaaGreatDoor
open Go.RowKit Go.Proofs Go.Deep

theorem ulFirsts : Tryz.prog.underlying 215 = some (.slice 3) := by kernel_rfl
theorem lt_alloc_drew {w : World} {o : Obj} {pb : Nat} (h : pb < w.heap.size) : pb < (w.alloc o).drew.heap.size := by
  have : (w.alloc o).drew.heap.size = w.heap.size + 1 := by simp
  omega
theorem assertInt (x : Int) (w : World) : (Instr.typeAssert (.iface 3 (.int .i64 x)) 20 3 false).run Tryz.prog w = .ok (.int .i64 x) w := by kernel_rfl
set_option maxRecDepth 100000 in
set_option maxHeartbeats 1000000 in
theorem fpush_any (w : World) (pb po base : Nat) (v : Value) (n : Nat) (xs : List Value) (x : Int) (hn : n ≤ 9000) (hpb : pb < base) (hbase : base ≤ w.heap.size) (hp : w.cell? ⟨pb, po, none⟩ = some v) (hf : w.frozen? ⟨pb, po, none⟩ = false)
    (hown : w.ownsRow base 3 1 v n xs) (R : Ending → World → Prop)
    (fin : ∀ g cap w1, w1.ownsRow base 3 1 (.slice (some ⟨g, 0, none⟩) (n + 1) cap) (n + 1) (xs ++ [.int .i64 x]) → (w.alloc (.cells #[.int .i64 x] 3)).drew.grownBy w1 v.ownBlock → R (.returned (.tuple #[])) (w1.setCell ⟨pb, po, none⟩ (.slice (some ⟨g, 0, none⟩) (n + 1) cap))) :
    Calls Tryz.prog 305 #[.pointer (some ⟨pb, po, none⟩), .iface 3 (.int .i64 x)] w R := by
  obtain ⟨i, hi, hz0, hz1, hz2⟩ := info_parts infoInt
  obtain ⟨ao, capo, hv, hcapo, _⟩ := own_form hown
  subst hv
  have hpw : pb < w.heap.size := by omega
  have hob : ∀ k, (Value.slice ao n capo).ownBlock = some k → base ≤ k := fun k hk => (hown.lt k hk).1
  replace hob := hd hob
  replace hown := hd hown
  replace fin := hd fin
  replace hi := hd hi
  replace hz0 := hd hz0
  replace hz1 := hd hz1
  replace hz2 := hd hz2
  have hta := assertInt
  have hS0 : ∀ o, (w.alloc o).drew.cell? ⟨pb, po, none⟩ = some (.slice ao n capo) := fun o => (World.cell?_alloc_lt w o ⟨pb, po, none⟩ hpw).trans hp
  have hS00 : ∀ o, (w.alloc o).drew.frozen? ⟨pb, po, none⟩ = false := fun o => (World.frozen?_of_block (w := w) (w' := (w.alloc o).drew) (a := ⟨pb, po, none⟩) (Below.heap_alloc w o pb hpw)).trans hf
  replace hS0 := hd hS0
  replace hS00 := hd hS00
  go_enter Tryz.func305, Tryz.ntmps305
  go_wp2
  go_region_law (refine step_append_lies _ rfl _ _ 215 rfl base 3 i (.int .i64 0) 1 8 ulFirsts hi.out hz0.out hz1.out hz2.out rfl (by decide) _ n xs rfl (by first | exact hown.out.alloc _ | exact own_drew (hown.out.alloc _)) ⟨w.heap.size, 0, none⟩ 1 1 [.int .i64 x] rfl rfl (by exact cell_one_new _ _ _) (oneC1 _) (by decide) (by unfold maxLen; omega) (by omega) (by simp; omega) _ rfl ?_; intro g cap w1 hown1 hgr1 hat hlt; have hS1 : w1.cell? ⟨pb, po, none⟩ = some (.slice ao n capo) := (World.cell?_of_block (a := ⟨pb, po, none⟩) (hgr1.block pb (lt_alloc_drew hpw) (fun e => by have := hob.out pb e.symm; omega))).trans (hS0.out _); have hS2 : w1.frozen? ⟨pb, po, none⟩ = false := (World.frozen?_of_block (a := ⟨pb, po, none⟩) (hgr1.block pb (lt_alloc_drew hpw) (fun e => by have := hob.out pb e.symm; omega))).trans (hS00.out _); replace hown1 := hd hown1; replace hgr1 := hd hgr1)
  all_goals go_wp2
  all_goals go_end0
  all_goals exact fin.out _ _ _ hown1.out hgr1.out

end Go.Proofs.YtidhiaaicmfabaaGreatDoor
