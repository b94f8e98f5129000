/- The document's first example: loaded answers true. -/
import Derived.Test.YtidhiaaicmfabaaGreatMem
import Derived.Test.YtidhiaaicmfabaaGreatSpec
import Derived.Test.YtidhiaaicmfabaaGreatRefA
import Derived.Test.YtidhiaaicmfabaaGreatRefC
import Derived.Test.YtidhiaaicmfabaaGreatSpec2
import Derived.WalkKit
import Derived.WalkSpells
import Derived.WalkLawsBesides
import Derived.Deep.OwnRows
import Derived.BigQuiet
import Derived.Handy
import Derived.Deep.Light
import Derived.Deep.RegionHeld3
import Derived.Deep.RegionWith
import Derived.Test.YtidhiaaicmfabaaGreatSpec5
import Derived.Test.YtidhiaaicmfabaaGreatVmM
namespace Go.Proofs.YtidhiaaicmfabaaGreat
open Go.RowKit Go.Proofs Go.Deep

def simpleB : ByteArray := ⟨#[83, 76, 85, 73, 67, 69, 2, 1, 4, 0, 5, 2, 0, 3, 1, 0]⟩
def longerB : ByteArray := ⟨#[83, 76, 85, 73, 67, 69, 2, 1, 4, 0, 5, 2, 0, 3, 1, 0, 0]⟩
theorem longer_not (bd : Int) : ¬ imgOk longerB bd := by
  rintro ⟨_, _, h, _⟩
  have h1 : longerB.size = 17 := rfl
  have h2 : bt longerB 6 = 2 := by kernel_rfl
  have h3 : b16 longerB (7 + 2) = 5 := by kernel_rfl
  have := h.1
  rw [h1, h2, h3] at this
  omega
theorem simple_ok : imgOk simpleB 3 := by
  have h1 : simpleB.size = 16 := rfl
  have h2 : bt simpleB 6 = 2 := by kernel_rfl
  have h3 : b16 simpleB (7 + 2) = 5 := by kernel_rfl
  have hc : codeOf simpleB = ⟨#[2, 0, 3, 1, 0]⟩ := by kernel_rfl
  refine ⟨⟨by omega, ?_, by omega, by omega⟩, ?_, ⟨by rw [h1, h2, h3], by rw [h2, h3]; omega⟩, [0, 2, 4], by kernel_rfl, by simp, ?_, by kernel_rfl, ?_, by kernel_rfl⟩
  · rw [ByteArray.toList_eq]; kernel_rfl
  · intro i hi
    rw [h2] at hi
    have : i = 0 ∨ i = 1 := by omega
    rcases this with rfl | rfl
    · have : bt simpleB (7 + 0) = 1 := by kernel_rfl
      omega
    · have : bt simpleB (7 + 1) = 4 := by kernel_rfl
      omega
  · intro i hi
    have : i = 0 ∨ i = 1 ∨ i = 2 := by simp at hi; omega
    rcases this with rfl | rfl | rfl
    · have e1 : opL (codeOf simpleB) [0, 2, 4] 0 = 2 := by kernel_rfl
      have e2 : cL (codeOf simpleB) [0, 2, 4] 0 = 0 := by kernel_rfl
      have e3 : nL (codeOf simpleB) [0, 2, 4] 0 = 1 := by kernel_rfl
      rw [e1, e2, e3, h2]
      refine ⟨fun _ => ⟨by decide, by decide, fun i hi => ?_, fun h => by omega, fun h => by omega⟩, fun h => by omega⟩
      have : i = 0 := by simp at hi; omega
      subst this; exact ⟨rfl, rfl⟩
    · have e1 : opL (codeOf simpleB) [0, 2, 4] 1 = 3 := by kernel_rfl
      have e2 : cL (codeOf simpleB) [0, 2, 4] 1 = 1 := by kernel_rfl
      have e3 : nL (codeOf simpleB) [0, 2, 4] 1 = 1 := by kernel_rfl
      have e4 : rlOf simpleB 1 = 1 := by kernel_rfl
      rw [e1, e2, e3, h2]
      refine ⟨fun _ => ⟨by decide, by decide, fun i hi => ?_, fun h => by rw [e4]; decide, fun h => by omega⟩, fun h => by omega⟩
      have : i = 0 := by simp at hi; omega
      subst this; exact ⟨rfl, rfl⟩
    · have e1 : opL (codeOf simpleB) [0, 2, 4] 2 = 0 := by kernel_rfl
      rw [e1]
      exact ⟨fun h => by omega, fun h => by omega⟩
  · intro i hi hj
    have : i = 0 ∨ i = 1 ∨ i = 2 := by simp at hi; omega
    rcases this with rfl | rfl | rfl
    · have : opL (codeOf simpleB) [0, 2, 4] 0 = 2 := by kernel_rfl
      rw [this] at hj; rcases hj with h | h <;> omega
    · have : opL (codeOf simpleB) [0, 2, 4] 1 = 3 := by kernel_rfl
      rw [this] at hj; rcases hj with h | h <;> omega
    · have : opL (codeOf simpleB) [0, 2, 4] 2 = 0 := by kernel_rfl
      rw [this] at hj; rcases hj with h | h <;> omega

theorem img_unique {s : ByteArray} {b b' : Int} (h : imgOk s b) (h' : imgOk s b') : b = b' := by
  obtain ⟨_, _, _, ps, h1, _, _, _, _, h2⟩ := h
  obtain ⟨_, _, _, ps', h1', _, _, _, _, h2'⟩ := h'
  rw [h1] at h1'
  injection h1' with e
  subst e
  rw [h2] at h2'
  injection h2'
set_option maxHeartbeats 1000000 in
theorem loaded_any (w : World) (R : Ending → World → Prop) (fin : ∀ w', Below w.heap.size w w' → R (.returned (.bool true)) w') :
    Calls Tryz.prog 10 #[] w R := by
  replace fin := hd fin
  go_enter Tryz.func10, Tryz.ntmps10
  go_wp2_with (fail)
  refine load_any _ simpleB (by unfold maxLen; decide) _ ?_ ?_ ?_
  · intro h; exact absurd simple_ok (h 3)
  · intro bd h hl
    have := img_unique simple_ok h
    omega
  · intro bd h _ w1 bx hb1 hbx hcx
    have e := img_unique simple_ok h
    subst e
    have hlt : bx < w1.heap.size := World.block_lt_of_cell? w1 _ hcx
    replace hb1 := hd hb1
    replace h := hd h
    go_wp2_with (fail)
    refine load_any _ longerB (by unfold maxLen; decide) _ ?_ ?_ ?_
    · intro _ w2 hb2
      have hc2 : w2.cell? ⟨bx, 2, none⟩ = some (.int .i64 3) := (hb2.cell (p := ⟨bx, 2, none⟩) hlt).trans hcx
      have hbw := hd (bel_step hb1.out (Nat.le_refl _) hb2)
      replace hb2 := hd hb2
      go_wp2_with (fail)
      refine bound_any _ bx 3 hc2 _ ?_
      go_wp2
      exact cl1 (fin.out _ hbw.out) rfl
    · intro bd h2; exact absurd h2 (longer_not bd)
    · intro bd h2; exact absurd h2 (longer_not bd)

end Go.Proofs.YtidhiaaicmfabaaGreat
