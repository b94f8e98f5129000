/- The contracts of Len and Pop of the heap of instructions, and of container/heap's Pop. -/
import Derived.Test.YtidhiaaicmfabaaGreatDoorMem
import Derived.Test.YtidhiaaicmfabaaGreatDoorSpec
import Derived.Test.YtidhiaaicmfabaaGreatDoorRefA
import Derived.Test.YtidhiaaicmfabaaGreatDoorRefC
import Derived.Test.YtidhiaaicmfabaaGreatDoorSpec2
import Derived.Test.YtidhiaaicmfabaaGreatDoorLibB
import Derived.Test.YtidhiaaicmfabaaGreatDoorLibC
import Derived.Test.YtidhiaaicmfabaaGreatDoorLibD
import Derived.WalkKit
import Derived.WalkSpells
import Derived.WalkLawsBesides
import Derived.Deep.OwnRows
import Derived.BigQuiet
import Derived.Handy
import Derived.Deep.Light
import Derived.Deep.RegionHeld3
import Derived.Deep.RegionWith
namespace Go.Proofs.YtidhiaaicmfabaaGreatDoor
open Go.RowKit Go.Proofs Go.Deep

set_option maxHeartbeats 400000 in
theorem fpop_any (w : World) (pb po : Nat) (g N cap : Nat) (A : Nat → Int) (hN0 : 0 < N) (hN : N ≤ 10000) (hcap : N ≤ cap) (_hpg : pb ≠ g) (hp : w.cell? ⟨pb, po, none⟩ = some (.slice (some ⟨g, 0, none⟩) N cap)) (hf : w.frozen? ⟨pb, po, none⟩ = false) (hA : Rw w g cap N A)
    (R : Ending → World → Prop) (fin : R (.returned (.iface 3 (.int .i64 (A (N - 1))))) (w.setCell ⟨pb, po, none⟩ (.slice (some ⟨g, 0, none⟩) (N - 1) cap))) :
    Calls Tryz.prog 304 #[.pointer (some ⟨pb, po, none⟩)] w R := by
  obtain ⟨M, rfl⟩ : ∃ M, N = M + 1 := ⟨N - 1, by omega⟩
  have cl := hA.1 M (by omega)
  have e : M + 1 - 1 = M := by omega
  rw [e] at fin
  clear e
  replace fin := hd fin
  replace hA := hd hA
  go_enter Tryz.func304, Tryz.ntmps304
  go_wp2
  exact cl1 fin.out rfl
set_option maxHeartbeats 400000 in
theorem len_any (w : World) (a : Option Addr) (n c : Nat) (R : Ending → World → Prop) (fin : R (.returned (.int .i64 n)) w) :
    Calls Tryz.prog 110 #[.slice a n c] w R := by
  replace fin := hd fin
  go_enter Tryz.func110, Tryz.ntmps110
  go_wp2
  exact cl1 fin.out rfl

theorem HDn.of_swap {A : Nat → Int} {M : Nat} (h : Heap A (M + 1)) : HDn (swapF A 0 M) M 0 := by
  constructor
  · intro c h0 hc hne
    have h1 := h c h0 (by omega)
    have q1 : c ≠ M := by omega
    have q2 : (c - 1) / 2 ≠ M := by omega
    have q3 : c ≠ 0 := by omega
    unfold swapF; simp only [q1, q2, q3, hne, if_false]; exact h1
  · intro c _ _ _ h0; omega

set_option maxRecDepth 100000 in
set_option maxHeartbeats 1000000 in
theorem hpop_any (w : World) (pb po : Nat) (g N cap : Nat) (A : Nat → Int) (hN0 : 0 < N) (hN : N ≤ 10000) (hcap : N ≤ cap) (hpg : pb ≠ g) (hp : w.cell? ⟨pb, po, none⟩ = some (.slice (some ⟨g, 0, none⟩) N cap)) (hf : w.frozen? ⟨pb, po, none⟩ = false) (hA : Rw w g cap N A) (hh : Heap A N)
    (R : Ending → World → Prop)
    (fin : ∀ A' w1, Only g w w1 → Rw w1 g cap N A' → Heap A' (N - 1) → Same (swapF A 0 (N - 1)) A' (N - 1) → R (.returned (.iface 3 (.int .i64 (A 0)))) (w1.setCell ⟨pb, po, none⟩ (.slice (some ⟨g, 0, none⟩) (N - 1) cap))) :
    Calls Tryz.prog 112 #[.iface 220 (.pointer (some ⟨pb, po, none⟩))] w R := by
  obtain ⟨M, rfl⟩ : ∃ M, N = M + 1 := ⟨N - 1, by omega⟩
  have e : M + 1 - 1 = M := by omega
  rw [e] at fin
  clear e
  have hpb : pb < w.heap.size := World.block_lt_of_cell? w _ hp
  replace fin := hd fin
  replace hh := hd hh
  have hml := meth_len 504 ⟨pb, po, none⟩ _ _ _ w hp
  have hms := meth_swap 504 ⟨pb, po, none⟩ _ _ _ w hp
  have hmp := meth_pop 504 ⟨pb, po, none⟩
  go_enter Tryz.func112, Tryz.ntmps112
  go_wp2_with (fail)
  refine len_any _ _ _ _ _ ?_
  go_wp2_with (fail)
  refine swapI _ g (M + 1) cap 0 M _ _ A (by simp) (by omega) (by omega) (by omega) hN hA.1 hA.2.1 _ ?_
  have hR1 : Rw ((w.setCell ⟨g, 0, none⟩ (.int .i64 (A M))).setCell ⟨g, M, none⟩ (.int .i64 (A 0))).drew g cap (M + 1) (swapF A 0 M) := Rw.swap hA (by omega) (by omega)
  have hO1 : Only g w ((w.setCell ⟨g, 0, none⟩ (.int .i64 (A M))).setCell ⟨g, M, none⟩ (.int .i64 (A 0))).drew := (((Only.refl g w).setCell (a := ⟨g, 0, none⟩) (.inl rfl) _).setCell (a := ⟨g, M, none⟩) (.inl rfl) _).drew
  generalize ((w.setCell ⟨g, 0, none⟩ (.int .i64 (A M))).setCell ⟨g, M, none⟩ (.int .i64 (A 0))).drew = w2 at *
  have hp2 : w2.cell? ⟨pb, po, none⟩ = some (.slice (some ⟨g, 0, none⟩) (M + 1) cap) := by rw [hO1.cell hpb hpg]; exact hp
  replace hR1 := hd hR1
  replace hO1 := hd hO1
  replace hA := hd hA
  go_wp2_with (fail)
  refine down_any _ ⟨pb, po, none⟩ g (M + 1) M cap 0 (swapF A 0 M) (by omega) (by omega) hN hpg hp2 hR1.out (HDn.of_swap hh.out) _ ?_
  intro bb A' w3 hO3 hR3 hH3 hS3 hT3
  have hp3 : w3.cell? ⟨pb, po, none⟩ = some (.slice (some ⟨g, 0, none⟩) (M + 1) cap) := by rw [hO3.cell (Nat.lt_of_lt_of_le hpb hO1.out.size) hpg]; exact hp2
  have hf3 : w3.frozen? ⟨pb, po, none⟩ = false := by rw [hO3.frozen (Nat.lt_of_lt_of_le hpb hO1.out.size) hpg, hO1.out.frozen hpb hpg]; exact hf
  have hlast : A' M = A 0 := by rw [hT3 M (Nat.le_refl _)]; simp [swapF]
  replace hlast := hd hlast
  replace hR3 := hd hR3
  replace hO3 := hd hO3
  replace hH3 := hd hH3
  replace hS3 := hd hS3
  replace hT3 := hd hT3
  go_wp2_with (fail)
  refine fpop_any _ pb po g (M + 1) cap A' (by omega) hN hcap hpg hp3 hf3 hR3.out _ ?_
  rw [show M + 1 - 1 = M by omega, hlast.out]
  go_wp2
  exact cl1 (fin.out A' w3 (hO1.out.trans hO3.out) hR3.out hH3.out hS3.out) rfl

end Go.Proofs.YtidhiaaicmfabaaGreatDoor
