/- The text of Divided and its machine. -/
import Derived.Test.YtidhiaaicmfabaaGreatDoorKaA
import Derived.WalkKit
import Derived.WalkSpells
import Derived.WalkLawsBesides
import Derived.Deep.OwnRows
import Derived.BigQuiet
import Derived.Handy
import Derived.Deep.Light
import Derived.Deep.RegionHeld3
import Derived.Deep.RegionWith
import Derived.Test.YtidhiaaicmfabaaGreatDoorJzF
import Derived.Test.YtidhiaaicmfabaaGreatDoorJzO

/- The image of Divided's text is right (seat .ZD alone). -/
namespace Go.Proofs.YtidhiaaicmfabaaGreatDoor
open Go.RowKit Go.Proofs Go.Deep


/-- The image of the text of Divided. -/
def dvB : ByteArray := ⟨#[83, 76, 85, 73, 67, 69, 4, 2, 2, 5, 5, 0, 15, 2, 0, 2, 1, 9, 3, 2, 2, 0, 2, 1, 10, 3, 3, 0]⟩
def dvP : List Nat := [0, 2, 4, 5, 7, 9, 11, 12, 14]
theorem dv_pos : posF (codeOf dvB) ((codeOf dvB).size + 1) 0 = some dvP := by kernel_rfl
theorem dv_ok : imgOk dvB 9 := by
  have h1 : dvB.size = 28 := rfl
  have h2 : bt dvB 6 = 4 := by kernel_rfl
  have h3 : b16 dvB (7 + 4) = 15 := by kernel_rfl
  refine ⟨⟨by omega, ?_, by omega, by omega⟩, ?_, ⟨by rw [h1, h2, h3], by rw [h2, h3]; omega⟩, dvP, dv_pos, by simp [dvP], ?_, by kernel_rfl, ?_, by kernel_rfl⟩
  · rw [ByteArray.toList_eq]; kernel_rfl
  · intro i hi
    rw [h2] at hi
    have h7 : bt dvB (7 + 0) = 2 := by kernel_rfl
    have h8 : bt dvB (7 + 1) = 2 := by kernel_rfl
    have h9 : bt dvB (7 + 2) = 5 := by kernel_rfl
    have h10 : bt dvB (7 + 3) = 5 := by kernel_rfl
    have : i = 0 ∨ i = 1 ∨ i = 2 ∨ i = 3 := by omega
    rcases this with rfl | rfl | rfl | rfl <;> omega
  · intro i hi
    have o0 : opL (codeOf dvB) dvP 0 = 2 := by kernel_rfl
    have o1 : opL (codeOf dvB) dvP 1 = 2 := by kernel_rfl
    have o2 : opL (codeOf dvB) dvP 2 = 9 := by kernel_rfl
    have o3 : opL (codeOf dvB) dvP 3 = 3 := by kernel_rfl
    have o4 : opL (codeOf dvB) dvP 4 = 2 := by kernel_rfl
    have o5 : opL (codeOf dvB) dvP 5 = 2 := by kernel_rfl
    have o6 : opL (codeOf dvB) dvP 6 = 10 := by kernel_rfl
    have o7 : opL (codeOf dvB) dvP 7 = 3 := by kernel_rfl
    have o8 : opL (codeOf dvB) dvP 8 = 0 := by kernel_rfl
    have c0 : cL (codeOf dvB) dvP 0 = 0 := by kernel_rfl
    have c1 : cL (codeOf dvB) dvP 1 = 1 := by kernel_rfl
    have c3 : cL (codeOf dvB) dvP 3 = 2 := by kernel_rfl
    have c4 : cL (codeOf dvB) dvP 4 = 0 := by kernel_rfl
    have c5 : cL (codeOf dvB) dvP 5 = 1 := by kernel_rfl
    have c7 : cL (codeOf dvB) dvP 7 = 3 := by kernel_rfl
    have n0 : nL (codeOf dvB) dvP 0 = 1 := by kernel_rfl
    have n1 : nL (codeOf dvB) dvP 1 = 1 := by kernel_rfl
    have n3 : nL (codeOf dvB) dvP 3 = 1 := by kernel_rfl
    have n4 : nL (codeOf dvB) dvP 4 = 1 := by kernel_rfl
    have n5 : nL (codeOf dvB) dvP 5 = 1 := by kernel_rfl
    have n7 : nL (codeOf dvB) dvP 7 = 1 := by kernel_rfl
    have r2 : rlOf dvB 2 = 1 := by kernel_rfl
    have r3 : rlOf dvB 3 = 1 := by kernel_rfl
    have : i = 0 ∨ i = 1 ∨ i = 2 ∨ i = 3 ∨ i = 4 ∨ i = 5 ∨ i = 6 ∨ i = 7 ∨ i = 8 := by simp [dvP] at hi; omega
    rcases this with rfl | rfl | rfl | rfl | rfl | rfl | rfl | rfl | rfl
    · rw [o0, c0, n0, h2]
      refine ⟨fun _ => ⟨by decide, by decide, fun i hi => ?_, fun h => by omega, fun h => by omega⟩, fun h => by omega⟩
      have : i = 0 := by simp at hi; omega
      subst this; exact ⟨rfl, rfl⟩
    · rw [o1, c1, n1, h2]
      refine ⟨fun _ => ⟨by decide, by decide, fun i hi => ?_, fun h => by omega, fun h => by omega⟩, fun h => by omega⟩
      have : i = 0 := by simp at hi; omega
      subst this; exact ⟨rfl, rfl⟩
    · rw [o2]; exact ⟨fun h => by omega, fun h => by omega⟩
    · rw [o3, c3, n3, h2]
      refine ⟨fun _ => ⟨by decide, by decide, fun i hi => ?_, fun h => by rw [r2]; decide, fun h => by omega⟩, fun h => by omega⟩
      have : i = 0 := by simp at hi; omega
      subst this; exact ⟨rfl, rfl⟩
    · rw [o4, c4, n4, h2]
      refine ⟨fun _ => ⟨by decide, by decide, fun i hi => ?_, fun h => by omega, fun h => by omega⟩, fun h => by omega⟩
      have : i = 0 := by simp at hi; omega
      subst this; exact ⟨rfl, rfl⟩
    · rw [o5, c5, n5, h2]
      refine ⟨fun _ => ⟨by decide, by decide, fun i hi => ?_, fun h => by omega, fun h => by omega⟩, fun h => by omega⟩
      have : i = 0 := by simp at hi; omega
      subst this; exact ⟨rfl, rfl⟩
    · rw [o6]; exact ⟨fun h => by omega, fun h => by omega⟩
    · rw [o7, c7, n7, h2]
      refine ⟨fun _ => ⟨by decide, by decide, fun i hi => ?_, fun h => by rw [r3]; decide, fun h => by omega⟩, fun h => by omega⟩
      have : i = 0 := by simp at hi; omega
      subst this; exact ⟨rfl, rfl⟩
    · rw [o8]; exact ⟨fun h => by omega, fun h => by omega⟩
  · intro i hi hj
    have o0 : opL (codeOf dvB) dvP 0 = 2 := by kernel_rfl
    have o1 : opL (codeOf dvB) dvP 1 = 2 := by kernel_rfl
    have o2 : opL (codeOf dvB) dvP 2 = 9 := by kernel_rfl
    have o3 : opL (codeOf dvB) dvP 3 = 3 := by kernel_rfl
    have o4 : opL (codeOf dvB) dvP 4 = 2 := by kernel_rfl
    have o5 : opL (codeOf dvB) dvP 5 = 2 := by kernel_rfl
    have o6 : opL (codeOf dvB) dvP 6 = 10 := by kernel_rfl
    have o7 : opL (codeOf dvB) dvP 7 = 3 := by kernel_rfl
    have o8 : opL (codeOf dvB) dvP 8 = 0 := by kernel_rfl
    have : i = 0 ∨ i = 1 ∨ i = 2 ∨ i = 3 ∨ i = 4 ∨ i = 5 ∨ i = 6 ∨ i = 7 ∨ i = 8 := by simp [dvP] at hi; omega
    rcases this with rfl | rfl | rfl | rfl | rfl | rfl | rfl | rfl | rfl
    · rw [o0] at hj; rcases hj with h | h <;> omega
    · rw [o1] at hj; rcases hj with h | h <;> omega
    · rw [o2] at hj; rcases hj with h | h <;> omega
    · rw [o3] at hj; rcases hj with h | h <;> omega
    · rw [o4] at hj; rcases hj with h | h <;> omega
    · rw [o5] at hj; rcases hj with h | h <;> omega
    · rw [o6] at hj; rcases hj with h | h <;> omega
    · rw [o7] at hj; rcases hj with h | h <;> omega
    · rw [o8] at hj; rcases hj with h | h <;> omega
def dMd (cap bs bx : Nat) (To' : Nat → Int) (bd : Int) : Md := mdFull (opL (codeOf dvB) dvP) (atL dvP) (argL (codeOf dvB) dvP) (cntL (codeOf dvB) dvP) (fun i => bt dvB (7 + i) / 3) (fun i => bt dvB (7 + i) % 3) (bt dvB 6) dvP.length cap bs bx To' bd
theorem d_outs (cap bs bx : Nat) (To' : Nat → Int) (bd : Int) (C : Nat → Int) : outsL (dMd cap bs bx To' bd).rl C (dMd cap bs bx To' bd).nC = [C 3, C 2] := by kernel_rfl

end Go.Proofs.YtidhiaaicmfabaaGreatDoor

/- A run of Divided's machine (seat .ZD alone). -/
namespace Go.Proofs.YtidhiaaicmfabaaGreatDoor
open Go.RowKit Go.Proofs Go.Deep

section
variable {K : Rc}
theorem st_get {i c : Nat} {C : Nat → Int} {Lf : List Int} {S : List Int} (h : K.op i = 2) (ha : K.arg i = (c : Int)) : stepK K ⟨C, Lf, (i : Int), false⟩ S = (⟨C, Lf, ((i + 1 : Nat) : Int), false⟩, C c :: S, 0) := by
  unfold stepK doesK doesV pushS
  simp [h, popsOf, pushesOf, ha]
theorem st_setZ {i c : Nat} {C : Nat → Int} {Lf : List Int} {x : Int} {S : List Int} (h : K.op i = 3) (ha : K.arg i = (c : Int)) : stepK K ⟨C, Lf, (i : Int), false⟩ (x :: S) = (⟨upd C c (layK (K.kd c) x), Lf, ((i + 1 : Nat) : Int), false⟩, S, 0) := by
  unfold stepK doesK doesV pushS
  simp [h, popsOf, pushesOf, popA, ha]
theorem st_div {i : Nat} {C : Nat → Int} {Lf : List Int} {a b : Int} {S : List Int} (h : K.op i = 9) (hb : b ≠ 0) : stepK K ⟨C, Lf, (i : Int), false⟩ (b :: a :: S) = (⟨C, Lf, ((i + 1 : Nat) : Int), false⟩, wrap32 (a.tdiv b) :: S, 0) := by
  unfold stepK doesK doesV pushS
  simp [h, popsOf, pushesOf, popA, popB, hb]
theorem st_div0 {i : Nat} {C : Nat → Int} {Lf : List Int} {a : Int} {S : List Int} (h : K.op i = 9) : (stepK K ⟨C, Lf, (i : Int), false⟩ (0 :: a :: S)).2.2 = 4 := by
  unfold stepK doesK doesV pushS
  simp [h, popsOf, popB]
theorem st_mod {i : Nat} {C : Nat → Int} {Lf : List Int} {a b : Int} {S : List Int} (h : K.op i = 10) (hb : b ≠ 0) : stepK K ⟨C, Lf, (i : Int), false⟩ (b :: a :: S) = (⟨C, Lf, ((i + 1 : Nat) : Int), false⟩, a.tmod b :: S, 0) := by
  unfold stepK doesK doesV pushS
  simp [h, popsOf, pushesOf, popA, popB, hb]
theorem st_endZ {i : Nat} {C : Nat → Int} {Lf : List Int} {S : List Int} (h : K.op i = 0) : stepK K ⟨C, Lf, (i : Int), false⟩ S = (⟨C, Lf, ((i + 1 : Nat) : Int), true⟩, S, 0) := by
  unfold stepK doesK doesV pushS
  simp [h, popsOf, pushesOf]
theorem run_stepZ {f : Nat} {q q' : Sc} {S S' : List Int} {dn : Int} (ho : q.ov = false) (h : stepK K q S = (q', S', 0)) : runK K (f + 1) q S dn = runK K f q' S' (dn + 1) := by
  simp only [runK]
  rw [h]
  simp [ho]
theorem run_errZ {f : Nat} {q : Sc} {S : List Int} {dn e : Int} (ho : q.ov = false) (h : (stepK K q S).2.2 = e) (he : e ≠ 0) : (runK K (f + 1) q S dn).2.2 = e := by
  simp only [runK]
  rw [h]
  simp [ho, he]
theorem run_overZ {f : Nat} {q : Sc} {S : List Int} {dn : Int} (ho : q.ov = true) : runK K (f + 1) q S dn = (q, dn, 0) := by
  simp only [runK]
  simp [ho]
end
theorem d_run (cap bs bx : Nat) (To' : Nat → Int) (bd : Int) (w : World) (d : Int) (C : Nat → Int) (h : C 1 ≠ 0) :
    runM (dMd cap bs bx To' bd) w d C = (⟨upd (upd C 2 (layK 2 (wrap32 ((C 0).tdiv (C 1))))) 3 (layK 2 ((C 0).tmod (C 1))), [], 9, true⟩, 9, 0) := by
  unfold runM
  obtain ⟨K, hK⟩ : ∃ K, K = mkK (dMd cap bs bx To' bd) w 0 0 0 nmT (fun _ => undef) d := ⟨_, rfl⟩
  rw [← hK]
  have o0 : K.op 0 = 2 := by rw [hK]; kernel_rfl
  have o1 : K.op 1 = 2 := by rw [hK]; kernel_rfl
  have o2 : K.op 2 = 9 := by rw [hK]; kernel_rfl
  have o3 : K.op 3 = 3 := by rw [hK]; kernel_rfl
  have o4 : K.op 4 = 2 := by rw [hK]; kernel_rfl
  have o5 : K.op 5 = 2 := by rw [hK]; kernel_rfl
  have o6 : K.op 6 = 10 := by rw [hK]; kernel_rfl
  have o7 : K.op 7 = 3 := by rw [hK]; kernel_rfl
  have o8 : K.op 8 = 0 := by rw [hK]; kernel_rfl
  have a0 : K.arg 0 = ((0 : Nat) : Int) := by rw [hK]; kernel_rfl
  have a1 : K.arg 1 = ((1 : Nat) : Int) := by rw [hK]; kernel_rfl
  have a3 : K.arg 3 = ((2 : Nat) : Int) := by rw [hK]; kernel_rfl
  have a4 : K.arg 4 = ((0 : Nat) : Int) := by rw [hK]; kernel_rfl
  have a5 : K.arg 5 = ((1 : Nat) : Int) := by rw [hK]; kernel_rfl
  have a7 : K.arg 7 = ((3 : Nat) : Int) := by rw [hK]; kernel_rfl
  have k2 : K.kd 2 = 2 := by rw [hK]; kernel_rfl
  have k3 : K.kd 3 = 2 := by rw [hK]; kernel_rfl
  clear hK
  have u0 : ∀ x, upd C 2 x 0 = C 0 := fun x => by simp [upd]
  have u1 : ∀ x, upd C 2 x 1 = C 1 := fun x => by simp [upd]
  have s0 := run_stepZ (K := K) (f := 299999) (q := ⟨C, [], ((0 : Nat) : Int), false⟩) (S := []) (dn := 0) rfl (st_get o0 a0)
  have s1 := run_stepZ (K := K) (f := 299998) (q := ⟨C, [], ((0 + 1 : Nat) : Int), false⟩) (S := [C 0]) (dn := 0 + 1) rfl (st_get o1 a1)
  have s2 := run_stepZ (K := K) (f := 299997) (q := ⟨C, [], ((1 + 1 : Nat) : Int), false⟩) (S := [C 1, C 0]) (dn := 0 + 1 + 1) rfl (st_div o2 h)
  have s3 := run_stepZ (K := K) (f := 299996) (q := ⟨C, [], ((2 + 1 : Nat) : Int), false⟩) (S := [wrap32 ((C 0).tdiv (C 1))]) (dn := 0 + 1 + 1 + 1) rfl (st_setZ o3 a3)
  have s4 := run_stepZ (K := K) (f := 299995) (q := ⟨upd C 2 (layK (K.kd 2) (wrap32 ((C 0).tdiv (C 1)))), [], ((3 + 1 : Nat) : Int), false⟩) (S := []) (dn := 0 + 1 + 1 + 1 + 1) rfl (st_get o4 a4)
  have s5 := run_stepZ (K := K) (f := 299994) (q := ⟨upd C 2 (layK (K.kd 2) (wrap32 ((C 0).tdiv (C 1)))), [], ((4 + 1 : Nat) : Int), false⟩) (S := [C 0]) (dn := 0 + 1 + 1 + 1 + 1 + 1) rfl (st_get o5 a5)
  have s6 := run_stepZ (K := K) (f := 299993) (q := ⟨upd C 2 (layK (K.kd 2) (wrap32 ((C 0).tdiv (C 1)))), [], ((5 + 1 : Nat) : Int), false⟩) (S := [C 1, C 0]) (dn := 0 + 1 + 1 + 1 + 1 + 1 + 1) rfl (st_mod o6 h)
  have s7 := run_stepZ (K := K) (f := 299992) (q := ⟨upd C 2 (layK (K.kd 2) (wrap32 ((C 0).tdiv (C 1)))), [], ((6 + 1 : Nat) : Int), false⟩) (S := [(C 0).tmod (C 1)]) (dn := 0 + 1 + 1 + 1 + 1 + 1 + 1 + 1) rfl (st_setZ o7 a7)
  have s8 := run_stepZ (K := K) (f := 299991) (q := ⟨upd (upd C 2 (layK (K.kd 2) (wrap32 ((C 0).tdiv (C 1))))) 3 (layK (K.kd 3) ((C 0).tmod (C 1))), [], ((7 + 1 : Nat) : Int), false⟩) (S := []) (dn := 0 + 1 + 1 + 1 + 1 + 1 + 1 + 1 + 1) rfl (st_endZ o8)
  rw [u0] at s4
  rw [u1] at s5
  rw [show (300000 : Nat) = 299999 + 1 from rfl, show (0 : Int) = ((0 : Nat) : Int) from rfl]
  refine s0.trans (s1.trans (s2.trans (s3.trans (s4.trans (s5.trans (s6.trans (s7.trans (s8.trans ?_))))))))
  rw [run_overZ rfl, k2, k3]
  rfl
theorem d_run0 (cap bs bx : Nat) (To' : Nat → Int) (bd : Int) (w : World) (d : Int) (C : Nat → Int) (h : C 1 = 0) : (runM (dMd cap bs bx To' bd) w d C).2.2 = 4 := by
  unfold runM
  obtain ⟨K, hK⟩ : ∃ K, K = mkK (dMd cap bs bx To' bd) w 0 0 0 nmT (fun _ => undef) d := ⟨_, rfl⟩
  rw [← hK]
  have o0 : K.op 0 = 2 := by rw [hK]; kernel_rfl
  have o1 : K.op 1 = 2 := by rw [hK]; kernel_rfl
  have o2 : K.op 2 = 9 := by rw [hK]; kernel_rfl
  have a0 : K.arg 0 = ((0 : Nat) : Int) := by rw [hK]; kernel_rfl
  have a1 : K.arg 1 = ((1 : Nat) : Int) := by rw [hK]; kernel_rfl
  clear hK
  have s0 := run_stepZ (K := K) (f := 299999) (q := ⟨C, [], ((0 : Nat) : Int), false⟩) (S := []) (dn := 0) rfl (st_get o0 a0)
  have s1 := run_stepZ (K := K) (f := 299998) (q := ⟨C, [], ((0 + 1 : Nat) : Int), false⟩) (S := [C 0]) (dn := 0 + 1) rfl (st_get o1 a1)
  rw [h] at s1
  rw [show (300000 : Nat) = 299999 + 1 from rfl, show (0 : Int) = ((0 : Nat) : Int) from rfl, show runK K (299999 + 1) ⟨C, [], ((0 : Nat) : Int), false⟩ [] ((0 : Nat) : Int) = _ from s0.trans s1]
  exact run_errZ (K := K) rfl (st_div0 o2) (by decide)
theorem w32_id {x : Int} (h : in32 x) : wrap32 x = x := by unfold in32 at h; unfold wrap32; omega
theorem d_fits (cap bs bx : Nat) (To' : Nat → Int) (bd : Int) {x y : Int} (hx : in32 x) (hy : in32 y) : fitsL (dMd cap bs bx To' bd).rl (dMd cap bs bx To' bd).kd (dMd cap bs bx To' bd).nC 0 [x, y] = true := by
  have e : fitsL (dMd cap bs bx To' bd).rl (dMd cap bs bx To' bd).kd (dMd cap bs bx To' bd).nC 0 [x, y] = (layK 2 x == x && (layK 2 y == y && true)) := by kernel_rfl
  rw [e]
  have l2 : ∀ z, layK 2 z = wrap32 z := fun z => rfl
  rw [l2, l2, w32_id hx, w32_id hy]
  simp
theorem d_lay (cap bs bx : Nat) (To' : Nat → Int) (bd : Int) {x y : Int} (hx : in32 x) (hy : in32 y) (C : Nat → Int) : layL (dMd cap bs bx To' bd).rl (dMd cap bs bx To' bd).kd (dMd cap bs bx To' bd).nC 0 [x, y] C = upd (upd C 0 x) 1 y := by
  have e : layL (dMd cap bs bx To' bd).rl (dMd cap bs bx To' bd).kd (dMd cap bs bx To' bd).nC 0 [x, y] C = upd (upd C 0 (layK 2 x)) 1 (layK 2 y) := by kernel_rfl
  rw [e]
  have l2 : ∀ z, layK 2 z = wrap32 z := fun z => rfl
  rw [l2, l2, w32_id hx, w32_id hy]
theorem tdiv_in {x y : Int} (hx : in32 x) (hy : in32 y) (h0 : y ≠ 0) (hn : ¬ (x = -2147483648 ∧ y = -1)) : in32 (x.tdiv y) := by
  unfold in32 at *
  have h1 : (x.tdiv y).natAbs = x.natAbs / y.natAbs := Int.natAbs_tdiv x y
  by_cases e1 : y = 1
  · subst e1; rw [Int.tdiv_one]; exact hx
  · by_cases e2 : y = -1
    · subst e2
      have : x.tdiv (-1) = -x := by rw [Int.tdiv_neg, Int.tdiv_one]
      rw [this]
      omega
    · have h2 : x.natAbs / y.natAbs ≤ x.natAbs / 2 := Nat.div_le_div_left (by omega) (by omega)
      omega
theorem tmod_facts {x y : Int} (h0 : y ≠ 0) : (x.tmod y).natAbs < y.natAbs ∧ (0 ≤ x → 0 ≤ x.tmod y) ∧ (x ≤ 0 → x.tmod y ≤ 0) := by
  refine ⟨?_, fun h => Int.tmod_nonneg _ h, fun h => ?_⟩
  · rw [Int.natAbs_tmod]
    exact Nat.mod_lt _ (by omega)
  · have h1 : (-x).tmod y = -(x.tmod y) := Int.neg_tmod ..
    have h2 := Int.tmod_nonneg (a := -x) y (by omega)
    omega
/-- What the quotient and the rest of a scan are to each other. -/
theorem d_arith {x y : Int} (hx : in32 x) (hy : in32 y) (h0 : y ≠ 0) : ∃ q r : Int, layK 2 (wrap32 (x.tdiv y)) = q ∧ layK 2 (x.tmod y) = r ∧ in32 q ∧ in32 r ∧ wrap32 (q * y + r) = x ∧ IntKind.i64.wrap (q * y) = q * y ∧ IntKind.i64.wrap (q * y + r) = q * y + r ∧ r.natAbs < y.natAbs ∧ (0 ≤ x → 0 ≤ r) ∧ (x ≤ 0 → r ≤ 0) := by
  have l2 : ∀ z, layK 2 z = wrap32 z := fun z => rfl
  have hm := tmod_facts (x := x) h0
  have hmin : in32 (x.tmod y) := by unfold in32 at *; omega
  by_cases hn : x = -2147483648 ∧ y = -1
  · obtain ⟨rfl, rfl⟩ := hn
    refine ⟨-2147483648, 0, by kernel_rfl, by kernel_rfl, by unfold in32; omega, by unfold in32; omega, by kernel_rfl, by kernel_rfl, by kernel_rfl, by decide, fun _ => by omega, fun _ => by omega⟩
  · have ht := tdiv_in hx hy h0 hn
    have he := Int.tdiv_mul_add_tmod x y
    refine ⟨x.tdiv y, x.tmod y, by rw [l2, w32_id ht, w32_id ht], by rw [l2, w32_id hmin], ht, hmin, by rw [he, w32_id hx], ?_, ?_, hm.1, hm.2.1, hm.2.2⟩
    · unfold in32 at hmin hx
      exact IntWalk.i64_in _ (by omega)
    · rw [he]
      unfold in32 at hx
      exact IntWalk.i64_in _ (by omega)

end Go.Proofs.YtidhiaaicmfabaaGreatDoor

/- Divided's text is a right text (seat .ZD alone). -/
namespace Go.Proofs.YtidhiaaicmfabaaGreatDoor
open Go.RowKit Go.Proofs Go.Deep

def nmA : ByteArray := ⟨#[97]⟩
def nmB : ByteArray := ⟨#[98]⟩
def nmQ : ByteArray := ⟨#[113]⟩
def nmR : ByteArray := ⟨#[114]⟩
theorem low1 (c : UInt8) (h1 : 97 ≤ c.toNat) (h2 : c.toNat ≤ 122) : LowName ⟨#[c]⟩ := by
  have e : bt ⟨#[c]⟩ 0 = c.toNat := rfl
  refine ⟨by show 0 < 1; omega, by show 1 ≤ 12; omega, ?_, fun i hi => ?_⟩
  · rw [e]
    simp only [isLt, Bool.or_eq_true, Bool.and_eq_true, decide_eq_true_eq]
    omega
  · have hi1 : i < 1 := hi
    have : i = 0 := by omega
    subst this
    rw [e]
    omega
theorem lowA : LowName nmA := low1 97 (by decide) (by decide)
theorem lowB : LowName nmB := low1 98 (by decide) (by decide)
theorem lowQ : LowName nmQ := low1 113 (by decide) (by decide)
theorem lowR : LowName nmR := low1 114 (by decide) (by decide)
def dvV : List Vd := [⟨nmA, 0, 2, false, 1⟩, ⟨nmB, 0, 2, false, 1⟩, ⟨nmQ, 1, 2, false, 1⟩, ⟨nmR, 1, 2, false, 1⟩]
def exQ : Ex := .bin 3 (.plc nmA) (.plc nmB)
def exR : Ex := .bin 4 (.plc nmA) (.plc nmB)
def dvS : Sl := .cons (.set nmQ exQ) (.cons (.set nmR exR) .nil)
def dvF : Nat → List Int := fun a => (fun _ => codeE dvV exQ ++ [3, firstV dvV 0 nmQ]) a ++ (fun a => (fun _ => codeE dvV exR ++ [3, firstV dvV 0 nmR]) a ++ (fun _ => []) (a + ((fun _ => codeE dvV exR ++ [3, firstV dvV 0 nmR]) a).length)) (a + ((fun _ => codeE dvV exQ ++ [3, firstV dvV 0 nmQ]) a).length)
theorem dvF0 : dvF 0 = [2, 0, 2, 1, 9, 3, 2, 2, 0, 2, 1, 10, 3, 3] := by kernel_rfl
theorem rdA : ExprOk (.plc nmA) := expr_plc lowA
theorem rdB : ExprOk (.plc nmB) := expr_plc lowB
theorem lkA : lookV dvV nmA = some ⟨nmA, 0, 2, false, 1⟩ := by kernel_rfl
theorem lkB : lookV dvV nmB = some ⟨nmB, 0, 2, false, 1⟩ := by kernel_rfl
theorem lkQ : lookV dvV nmQ = some ⟨nmQ, 1, 2, false, 1⟩ := by kernel_rfl
theorem lkR : lookV dvV nmR = some ⟨nmR, 1, 2, false, 1⟩ := by kernel_rfl
theorem dvMem {P : Vd → Prop} (h0 : P ⟨nmA, 0, 2, false, 1⟩) (h1 : P ⟨nmB, 0, 2, false, 1⟩) (h2 : P ⟨nmQ, 1, 2, false, 1⟩) (h3 : P ⟨nmR, 1, 2, false, 1⟩) : ∀ v ∈ dvV, P v := by
  intro v hv
  unfold dvV at hv
  simp only [List.mem_cons, List.not_mem_nil, or_false] at hv
  rcases hv with rfl | rfl | rfl | rfl <;> assumption
theorem dvTx : Tx dvV dvS dvF := by
  have kA : KindOk dvV (.plc nmA) := kindOk_plc (by kernel_rfl)
  have kB : KindOk dvV (.plc nmB) := kindOk_plc (by kernel_rfl)
  refine { vr := dvMem ⟨by decide, var_plain lowA (by decide) rfl rfl⟩ ⟨by decide, var_plain lowB (by decide) rfl rfl⟩ ⟨by decide, var_plain lowQ (by decide) rfl rfl⟩ ⟨by decide, var_plain lowR (by decide) rfl rfl⟩, rd := ?_, dep := ?_, low := dvMem lowA lowB lowQ lowR, dis := ?_, us := ?_, wv := dvMem (by decide) (by decide) (by decide) (by decide), ck := ?_, co := ?_, cost := ?_, wr := ?_, ln := ?_, bl := ?_, cd := ?_, ci := ?_ }
  · exact ⟨stmt_set lowQ (expr_bin (by decide) rdA rdB), stmt_set lowR (expr_bin (by decide) rdA rdB), trivial⟩
  · exact (by decide : depL dvS ≤ 10)
  · have hne : nmA ≠ nmB ∧ nmA ≠ nmQ ∧ nmA ≠ nmR ∧ nmB ≠ nmQ ∧ nmB ≠ nmR ∧ nmQ ≠ nmR := by decide
    simp only [dvV, List.map_cons, List.map_nil, List.nodup_cons, List.mem_cons, List.not_mem_nil, or_false, not_or, not_false_eq_true, List.nodup_nil, and_true]
    exact ⟨⟨hne.1, hne.2.1, hne.2.2.1⟩, ⟨hne.2.2.2.1, hne.2.2.2.2.1⟩, hne.2.2.2.2.2⟩
  · intro u hu
    have hu2 : u ∈ [nmQ, nmA, nmB, nmR, nmA, nmB] := hu
    simp only [List.mem_cons, List.not_mem_nil, or_false] at hu2
    rcases hu2 with rfl | rfl | rfl | rfl | rfl | rfl
    · exact ⟨_, (lookV_mem _ _ _ lkQ).1, rfl⟩
    · exact ⟨_, (lookV_mem _ _ _ lkA).1, rfl⟩
    · exact ⟨_, (lookV_mem _ _ _ lkB).1, rfl⟩
    · exact ⟨_, (lookV_mem _ _ _ lkR).1, rfl⟩
    · exact ⟨_, (lookV_mem _ _ _ lkA).1, rfl⟩
    · exact ⟨_, (lookV_mem _ _ _ lkB).1, rfl⟩
  · exact ⟨check_set (kind_bin kA kB (by kernel_rfl)) (by kernel_rfl) (by decide), check_set (kind_bin kA kB (by kernel_rfl)) (by kernel_rfl) (by decide), trivial⟩
  · exact ⟨scost_set (cost_bin cost_plc cost_plc), by decide, scost_set (cost_bin cost_plc cost_plc), by decide, trivial⟩
  · exact (by decide : costL dvS ≤ 3999)
  · have w1 : WriteOk dvV exQ := write_bin (write_plc lkA) (write_plc lkB)
    have w2 : WriteOk dvV exR := write_bin (write_plc lkA) (write_plc lkB)
    have s1 : SWriteOk dvV ((cellsB dvV).length : Int) (.set nmQ exQ) (fun _ => codeE dvV exQ ++ [3, firstV dvV 0 nmQ]) false := swrite_set w1 lkQ
    have s2 : SWriteOk dvV ((cellsB dvV).length : Int) (.set nmR exR) (fun _ => codeE dvV exR ++ [3, firstV dvV 0 nmR]) false := swrite_set w2 lkR
    have t2 := @AllW.cons dvV ((cellsB dvV).length : Int) (.set nmR exR) .nil (fun _ => codeE dvV exR ++ [3, firstV dvV 0 nmR]) (fun _ => []) false false (@s2) .nil
    have t1 := @AllW.cons dvV ((cellsB dvV).length : Int) (.set nmQ exQ) _ (fun _ => codeE dvV exQ ++ [3, firstV dvV 0 nmQ]) _ false _ (@s1) t2
    exact t1
  · exact ⟨by decide, by decide, by decide⟩
  · exact ⟨by decide, by decide⟩
  · rw [dvF0]; decide
  · rw [dvF0]; decide
theorem dvImg : imgS dvV dvF = dvB := by
  unfold imgS
  rw [dvF0]
  kernel_rfl
def dvText : ByteArray := ⟨([73, 78, 32, 97, 58, 32, 68, 73, 78, 84, 59, 32, 73, 78, 32, 98, 58, 32, 68, 73, 78, 84, 59, 32, 79, 85, 84, 32, 113, 58, 32, 68, 73, 78, 84, 59, 32, 79, 85, 84, 32, 114, 58, 32, 68, 73, 78, 84, 59, 32, 66, 69, 71, 73, 78, 32, 113, 32, 58, 61, 32, 40, 97, 32, 47, 32, 98, 41, 59, 32, 114, 32, 58, 61, 32, 40, 97, 32, 77, 79, 68, 32, 98, 41, 59, 32, 69, 78, 68] : List UInt8).toArray⟩
theorem dvSize : dvText.size ≤ 700 := by decide
theorem dvSp : spF dvText.size dvText = some (toksP dvV dvS) := by kernel_rfl

end Go.Proofs.YtidhiaaicmfabaaGreatDoor

/- Divided's machine; its first scan (seat .ZD alone). -/
namespace Go.Proofs.YtidhiaaicmfabaaGreatDoor
open Go.RowKit Go.Proofs Go.Deep

theorem long_any (w : World) (n : Int) (R : Ending → World → Prop) (fin : R (.returned (.int .i64 (wrap32 n))) w) : Calls Tryz.prog 33 #[.int .i64 n] w R := by
  have j1 : wrap64 (wrap32 n) = wrap32 n := by have := w32_bd n; unfold in32 at this; unfold wrap64; omega
  replace fin := hd fin
  go_enter Tryz.func33, Tryz.ntmps33
  go_wp2
  exact cl1 fin.out (by rw [j1]; rfl)
set_option maxRecDepth 100000 in
set_option maxHeartbeats 2000000 in
/-- The machine of Divided's text. -/
theorem dmachine (w : World) (hops : ∀ i v, opC[i]? = some v → w.cell? ⟨4, i, none⟩ = some v) (R : Ending → World → Prop)
    (fin : ∀ cap bs bx bc To' To H L w', Below w.heap.size w w' → w.heap.size ≤ bx → w.heap.size ≤ bs → w.heap.size ≤ bc → Live (dMd cap bs bx To' 9) bc (fun _ => 0) 0 w' → (∀ w0 br bc base nm fv d, KW (mkK (dMd cap bs bx To' 9) w0 br bc base nm fv d) To (dMd cap bs bx To' 9).bd H L) → R (.returned (.pointer (some ⟨bx, 0, none⟩))) w') :
    Calls Tryz.prog 35 #[.string dvText] w R := by
  replace fin := hd fin
  generalize hT : dvText = T at *
  go_enter Tryz.func35, Tryz.ntmps35
  go_wp2_with (fail)
  refine compile_ok dvTx T (by rw [← hT]; exact dvSize) (by rw [← hT]; exact dvSp) _ hops _ ?_
  intro w1 hb1
  rw [dvImg]
  generalize hB : dvB = B at *
  have hz1 := hb1.size
  replace hb1 := hd hb1
  go_wp2_with (fail)
  rw [← hB]
  refine load_full _ dvB (by unfold maxLen; decide) _ ?_ ?_ ?_
  · intro h; exact absurd dv_ok (h 9)
  · intro bd h hl
    have := img_unique dv_ok h
    omega
  · intro bd l h hle hl cap bs bx bc To' H L w2 hb2 hbx hbs hbc hlive hkw
    have e := img_unique dv_ok h
    subst e
    rw [dv_pos] at hl
    injection hl with hl
    subst hl
    replace hlive : Live (dMd cap bs bx To' 9) bc (fun _ => 0) 0 w2 := hlive
    replace hkw : ∀ w0 br bc base nm fv d, KW (mkK (dMd cap bs bx To' 9) w0 br bc base nm fv d) _ (dMd cap bs bx To' 9).bd H L := hkw
    have hB2 := hd (hb1.out.trans (hb2.mono hz1))
    replace hlive := hd hlive
    replace hkw := hd hkw
    clear h hb2
    go_wp2
    exact cl1 (fin.out cap bs bx bc To' _ H L w2 hB2.out (by omega) (by omega) (by omega) hlive.out hkw.out) rfl
theorem inp2 {bc g : Nat} {w : World} {x y : Int} (hg : w.heap[g]? = some (.cells #[.int .i64 x, .int .i64 y] 3)) (hne : g ≠ bc) : InpAt bc w (.slice (some ⟨g, 0, none⟩) 2 2) [x, y] := by
  refine ⟨_, 2, rfl, by simp, .inl ⟨g, 0, rfl, hne, fun j z hz => ?_⟩⟩
  have hj : j = 0 ∨ j = 1 := by
    have := (List.getElem?_eq_some_iff.1 hz).1
    simp at this
    omega
  rcases hj with rfl | rfl
  · simp at hz; subst hz; exact cellOf hg rfl
  · simp at hz; subst hz; exact cellOf hg rfl
/-- The cells behind a scan that was OK. -/
def dC (C : Nat → Int) (x y q r : Int) : Nat → Int := upd (upd (upd (upd C 0 x) 1 y) 2 q) 3 r
set_option maxRecDepth 100000 in
set_option maxHeartbeats 2000000 in
theorem dtold (B : Nat) (w : World) {cap bs bx bc : Nat} {To' : Nat → Int} {To : Nat → Nat} {H L : Nat → Int} {C : Nat → Int} {dn : Int} (h : Live (dMd cap bs bx To' 9) bc C dn w) (hkw : ∀ w0 br bc base nm fv d, KW (mkK (dMd cap bs bx To' 9) w0 br bc base nm fv d) To (dMd cap bs bx To' 9).bd H L) (hB1 : B ≤ bx) (hB2 : B ≤ bc) (hB3 : B ≤ w.heap.size)
    {g : Nat} {x y q r : Int} (hg : w.heap[g]? = some (.cells #[.int .i64 x, .int .i64 y] 3)) (hne : g ≠ bc) (hx : in32 x) (hy : in32 y) (h0 : y ≠ 0) (hq : layK 2 (wrap32 (x.tdiv y)) = q) (hr : layK 2 (x.tmod y) = r) (R : Ending → World → Prop)
    (fin : ∀ w' go dn', Below B w w' → Live (dMd cap bs bx To' 9) bc (dC C x y q r) dn' w' → w'.cell? ⟨go, 0, none⟩ = some (.int .i64 q) → w'.cell? ⟨go, 1, none⟩ = some (.int .i64 r) → ∀ cp, R (.returned (.tuple #[.slice (some ⟨go, 0, none⟩) 2 cp, .bool true])) w') :
    Calls Tryz.prog 36 #[.pointer (some ⟨bx, 0, none⟩), .slice (some ⟨g, 0, none⟩) 2 2, .int .i64 0] w R := by
  replace fin := hd fin
  have hi := inp2 (y := y) hg hne
  have hrun : runM (dMd cap bs bx To' 9) w 0 (layL (dMd cap bs bx To' 9).rl (dMd cap bs bx To' 9).kd (dMd cap bs bx To' 9).nC 0 [x, y] C) = (⟨dC C x y q r, [], 9, true⟩, 9, 0) := by
    rw [d_lay cap bs bx To' 9 hx hy C, d_run cap bs bx To' 9 w 0 _ (by simp [upd]; exact h0)]
    have e0 : upd (upd C 0 x) 1 y 0 = x := by simp [upd]
    have e1 : upd (upd C 0 x) 1 y 1 = y := by simp [upd]
    rw [e0, e1, hq, hr]
    rfl
  go_enter Tryz.func36, Tryz.ntmps36
  go_wp2_with (fail)
  refine scan_any _ (dMd cap bs bx To' 9) bc C dn h _ [x, y] 0 hi hkw (by show (9 : Int) ≤ 200000; omega) _ ?_ ?_ ?_
  · intro hbad
    rcases hbad with hbad | hbad | hbad
    · rw [d_fits cap bs bx To' 9 hx hy] at hbad; cases hbad
    · omega
    · omega
  · intro _ _ w2 q' dn2 hr2 hl2 ht _ _
    rw [hrun] at hr2
    simp only [Prod.mk.injEq] at hr2
    obtain ⟨rfl, rfl, _⟩ := hr2
    have hbw2 : Below B w w2 := ht.below hB1 hB2 hB3 rfl
    have c0 := hl2.row.cell (i := 0) (by omega)
    have hlen := hl2.cel
    have hC2 := hl2.hC
    replace hbw2 := hd hbw2
    replace hl2 := hd hl2
    clear ht hi hrun
    go_wp2_with (fail)
    refine outputs_any _ bx bc _ _ (dMd cap bs bx To' 9).rl (dMd cap bs bx To' 9).kd (dC C x y q r) hl2.out.nC hC2 c0 hlen _ ?_
    intro v w3 hb3 hown
    rw [d_outs] at hown
    obtain ⟨go, cp, rfl, _, _, _, _, hgo⟩ := own_one hown (by simp)
    have g0 := hgo 0 (by simp)
    have g1 := hgo 1 (by simp)
    have e2 : dC C x y q r 2 = q := by simp [dC, upd]
    have e3 : dC C x y q r 3 = r := by simp [dC, upd]
    rw [show (i64L [dC C x y q r 3, dC C x y q r 2])[0]? = some (.int .i64 (dC C x y q r 2)) from rfl, e2] at g0
    rw [show (i64L [dC C x y q r 3, dC C x y q r 2])[1]? = some (.int .i64 (dC C x y q r 3)) from rfl, e3] at g1
    have hB3' := hd (hbw2.out.trans (hb3.mono (Nat.le_trans hB3 hbw2.out.size)))
    have hl3 := hd (hl2.out.below hb3)
    clear hown hgo hb3 hlen c0
    replace g0 := hd g0
    replace g1 := hd g1
    go_wp2
    exact cl1 (fin.out w3 go 9 hB3'.out hl3.out g0.out g1.out cp) rfl
  · intro _ _ w2 q' dn2 e cv hr2 he
    rw [hrun] at hr2
    simp only [Prod.mk.injEq] at hr2
    exact absurd hr2.2.2.symm he

end Go.Proofs.YtidhiaaicmfabaaGreatDoor
