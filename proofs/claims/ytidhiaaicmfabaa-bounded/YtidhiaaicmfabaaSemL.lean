/- The inputs are laid into their cells. -/
import Derived.Test.YtidhiaaicmfabaaMem
import Derived.Test.YtidhiaaicmfabaaSpec
import Derived.Test.YtidhiaaicmfabaaRefA
import Derived.Test.YtidhiaaicmfabaaRefC
import Derived.Test.YtidhiaaicmfabaaSpec2
import Derived.WalkKit
import Derived.WalkSpells
import Derived.WalkLawsBesides
import Derived.Deep.OwnRows
import Derived.BigQuiet
import Derived.Handy
import Derived.Deep.Light
import Derived.Deep.RegionHeld3
import Derived.Deep.RegionWith
import Derived.Test.YtidhiaaicmfabaaSemK
namespace Go.Proofs.Ytidhiaaicmfabaa
open Go.RowKit Go.Proofs Go.Deep

/-- The cells when the inputs are laid. -/
def layL (rl kd : Nat → Nat) : Nat → Nat → List Int → (Nat → Int) → (Nat → Int)
  | 0, _, _, C => C
  | k + 1, i, l, C => if rl i = 0 then (match l with | [] => C | x :: r => layL rl kd k (i + 1) r (upd C i (layK (kd i) x))) else layL rl kd k (i + 1) l C
theorem lay_skip {rl kd : Nat → Nat} {n k : Nat} {l : List Int} {C : Nat → Int} (hk : k < n) (h : rl k ≠ 0) : layL rl kd (n - k) k l C = layL rl kd (n - (k + 1)) (k + 1) l C := by
  obtain ⟨f, hf⟩ : ∃ f, n - k = f + 1 := ⟨n - k - 1, by omega⟩
  rw [hf, show n - (k + 1) = f by omega]
  simp only [layL]; rw [if_neg h]
theorem lay_cons {rl kd : Nat → Nat} {n k : Nat} {x : Int} {l : List Int} {C : Nat → Int} (hk : k < n) (h : rl k = 0) : layL rl kd (n - k) k (x :: l) C = layL rl kd (n - (k + 1)) (k + 1) l (upd C k (layK (kd k) x)) := by
  obtain ⟨f, hf⟩ : ∃ f, n - k = f + 1 := ⟨n - k - 1, by omega⟩
  rw [hf, show n - (k + 1) = f by omega]
  simp only [layL]; rw [if_pos h]
theorem lay_end {rl kd : Nat → Nat} {n k : Nat} {l : List Int} {C : Nat → Int} (hk : ¬ k < n) : layL rl kd (n - k) k l C = C := by
  rw [show n - k = 0 by omega]; rfl
theorem layL_in {rl kd : Nat → Nat} : ∀ (k i : Nat) (l : List Int) (C : Nat → Int), (∀ j, in32 (C j)) → ∀ j, in32 (layL rl kd k i l C j)
  | 0, _, _, _, h, j => h j
  | k + 1, i, l, C, h, j => by
    simp only [layL]
    split
    · split
      · exact h j
      · refine layL_in k _ _ _ (fun j' => ?_) j
        unfold upd; split
        · exact layK_in _ _
        · exact h j'
    · exact layL_in k _ _ _ h j
theorem Tab.setV {w : World} {b n cap : Nat} {rl kd : Nat → Nat} {C : Nat → Int} (h : Tab w b 93 3 n cap (cellV rl kd C)) (c : Nat) (x : Int) : Tab (w.setCell ⟨b, c * 3 + 2, none⟩ (.int .i32 x)) b 93 3 n cap (cellV rl kd (upd C c x)) :=
  (h.set c 2 (by omega) _).congr (fun j _ g hg => by
    have hcg : g = 0 ∨ g = 1 ∨ g = 2 := by omega
    rcases hcg with rfl | rfl | rfl
    · simp [cellV]
    · simp [cellV]
    · by_cases e : j = c <;> simp [cellV, upd, e])
theorem InpAt.set {nb : Nat} {w : World} {v : Value} {l : List Int} (h : InpAt nb w v l) (o : Nat) (u : Value) : InpAt nb (w.setCell ⟨nb, o, none⟩ u) v l := by
  obtain ⟨ao, cap, h1, h2, h3⟩ := h
  refine ⟨ao, cap, h1, h2, ?_⟩
  rcases h3 with ⟨g, o', e, hne, hc⟩ | h3
  · exact .inl ⟨g, o', e, hne, fun j x hx => by rw [World.cell?_setCell_other _ _ _ _ (by intro e; injection e with e; exact hne e.symm)]; exact hc j x hx⟩
  · exact .inr h3
set_option maxRecDepth 100000 in
set_option maxHeartbeats 1000000 in
theorem layInputs_any (w : World) (bx bc nC cap : Nat) (rl kd : Nat → Nat) (C : Nat → Int) (v : Value) (l : List Int) (hne : bx ≠ bc) (hC : nC ≤ 100) (hx : w.cell? ⟨bx, 0, none⟩ = some (.slice (some ⟨bc, 0, none⟩) nC cap)) (ht : Tab w bc 93 3 nC cap (cellV rl kd C)) (hv : InpAt bc w v l)
    (hfit : fitsL rl kd nC 0 l = true) (R : Ending → World → Prop) (fin : ∀ w', Only bc w w' → Tab w' bc 93 3 nC cap (cellV rl kd (layL rl kd nC 0 l C)) → R (.returned (.tuple #[])) w') :
    Calls Try.prog 46 #[.pointer (some ⟨bx, 0, none⟩), v] w R := by
  have hX : ∃ X, layL rl kd nC 0 l C = X := ⟨_, rfl⟩
  obtain ⟨X, hX⟩ := hX
  rw [hX] at fin
  replace hX := hd hX
  replace fin := hd fin
  replace hv := hd hv
  replace ht := hd ht
  replace hfit := hd hfit
  have hbx := World.block_lt_of_cell? w _ hx
  have hbc := ht.out.lt
  go_enter Try.func46, Try.ntmps46
  go_wp2
  go_loopw [1, 10] (fun iv i wr => ∃ (k : Nat) (r : List Int) (C1 : Nat → Int), k ≤ nC ∧ i = .int .i64 k ∧ InpAt bc wr iv r ∧ Only bc w wr ∧ Tab wr bc 93 3 nC cap (cellV rl kd C1) ∧ fitsL rl kd (nC - k) k r = true ∧ X = layL rl kd (nC - k) k r C1) (fun _ i _ => nC - (intOf i).toNat)
  case atStart => exact ⟨0, l, C, by omega, rfl, hv.out, Only.refl _ _, ht.out, hfit.out, hX.out.symm⟩
  case round =>
    obtain ⟨k, r, C1, hk, rfl, hiv, honly, htr, hft, hx1⟩ := hrel
    obtain ⟨ao, cp, rfl, hcp, hcs⟩ := id hiv
    have hxr : wr.cell? ⟨bx, 0, none⟩ = some (.slice (some ⟨bc, 0, none⟩) nC cap) := by rw [honly.cell hbx hne]; exact hx
    replace hx1 := hd hx1
    replace hft := hd hft
    replace hiv := hd hiv
    by_cases hlt : k < nC
    · have k0 := htr.cell0 hlt (by omega)
      have k1 := htr.cell hlt (f := 1) (by omega)
      have k2 := htr.cell hlt (f := 2) (by omega)
      have kf := htr.frozen (k * 3 + 2)
      rw [cellV_0] at k0
      rw [cellV_1] at k1
      rw [cellV_2] at k2
      have hbr := htr.lt
      replace honly := hd honly
      replace htr := hd htr
      by_cases h0 : rl k = 0
      · have t0 : ((rl k : Int) == 0) = true := by simp [h0]
        cases r with
        | nil =>
          have := hft.out
          rw [fits_nil hlt h0] at this
          cases this
        | cons x r =>
          have hf1 := hd (show fitsL rl kd (nC - (k + 1)) (k + 1) r = true by have := hft.out; rw [fits_cons hlt h0] at this; simp at this; exact this.2)
          have hfz := hd (hx1.out.trans (lay_cons hlt h0))
          clear hx1 hft
          replace h0 := hd h0
          obtain ⟨g, o, rfl, hgne, hcq⟩ : ∃ g o, ao = some ⟨g, o, none⟩ ∧ g ≠ bc ∧ ∀ j y, (x :: r)[j]? = some y → wr.cell? ⟨g, o + j, none⟩ = some (.int .i64 y) := by
            rcases hcs with h | h
            · exact h
            · cases h
          have cx := hcq 0 x rfl
          rw [Nat.add_zero] at cx
          have hgl := World.block_lt_of_cell? wr _ cx
          have hnx := hd (InpAt.tail (nb := bc) (w2 := wr) hgne hcq (by simpa using hcp) (Below.refl _ _))
          have jl : (1 : Int) ≤ (r.length : Int) + 1 := by omega
          have jl2 : (0 : Int) < (r.length : Int) + 1 := by omega
          have jc : r.length + 1 ≤ cp := by simpa using hcp
          clear hcs hcq hcp
          go_wp2_with (fail)
          go_region_with (go_at_call 87; refine lay_any _ _ k (kd k) _ (C1 k) (by exact k1) (by exact k2) (by exact kf) _ ?_)
          all_goals
            go_wp2
            exact ⟨⟨k + 1, r, _, by omega, by go_num, InpAt.below (hnx.out.set _ _) (by first | exact Below.refl _ _ | exact (Below.refl _ _).drew), by first | exact honly.out.setCell (a := ⟨bc, k * 3 + 2, none⟩) (.inl rfl) _ | exact (honly.out.setCell (a := ⟨bc, k * 3 + 2, none⟩) (.inl rfl) _).drew, htr.out.setV k _, hf1.out, hfz.out⟩, by simp [intOf]; omega⟩
      · have t0 : ((rl k : Int) == 0) = false := by simp; omega
        have hf1 := hd (show fitsL rl kd (nC - (k + 1)) (k + 1) r = true by rw [← fits_skip hlt h0]; exact hft.out)
        have hfz := hd (hx1.out.trans (lay_skip hlt h0))
        clear hx1
        go_wp2
        exact ⟨⟨k + 1, r, C1, by omega, by go_num, hiv.out, honly.out, htr.out, hf1.out, hfz.out⟩, by simp [intOf]; omega⟩
    · have hfz := hd (hx1.out.trans (lay_end hlt))
      clear hx1
      replace honly := hd honly
      replace htr := hd htr
      go_wp2
      go_end0
      exact fin.out _ honly.out (by rw [hfz.out]; exact htr.out)

end Go.Proofs.Ytidhiaaicmfabaa
