/- Scan, Outputs and Steps of the program. -/
import Derived.Test.YtidhiaaicmfabaaGreatMem
import Derived.Test.YtidhiaaicmfabaaGreatSpec
import Derived.Test.YtidhiaaicmfabaaGreatRefA
import Derived.Test.YtidhiaaicmfabaaGreatRefC
import Derived.Test.YtidhiaaicmfabaaGreatSpec2
import Derived.WalkKit
import Derived.WalkSpells
import Derived.WalkLawsBesides
import Derived.Deep.OwnRows
import Derived.BigQuiet
import Derived.Handy
import Derived.Deep.Light
import Derived.Deep.RegionHeld3
import Derived.Deep.RegionWith
import Derived.Test.YtidhiaaicmfabaaGreatSemJ
import Derived.Defers
import Derived.Recover
import Derived.Test.YtidhiaaicmfabaaGreatSemH
import Derived.Test.YtidhiaaicmfabaaGreatVmJ
import Derived.Test.YtidhiaaicmfabaaGreatVmM

/- Are the inputs fit? -/
namespace Go.Proofs.YtidhiaaicmfabaaGreat
open Go.RowKit Go.Proofs Go.Deep

theorem holds_any (w : World) (rl kd : Nat) (v n : Int) (R : Ending → World → Prop) (fin : ∀ w', Below w.heap.size w w' → R (.returned (.bool (layK kd n == n))) w') :
    Calls Tryz.prog 49 #[.agg #[.int .u8 (rl : Int), .int .u8 (kd : Int), .int .i32 v], .int .i64 n] w R := by
  have hw : wrap64 (layK kd n) = layK kd n := IntWalk.wrap64_in _ (by have := layK_in kd n; unfold in32 at this; omega)
  replace fin := hd fin
  go_enter Tryz.func49, Tryz.ntmps49
  go_wp2_with (first | (go_at_call 83; refine laid_any _ _ _ _ ?_))
  exact cl1 (fin.out _ (by repeat (first | with_reducible exact Below.refl _ _ | with_reducible refine below_drewN ?_ _ | with_reducible refine Below.drew ?_ | with_reducible refine Below.alloc ?_ (by simp) _ | with_reducible refine Below.setCell ?_ (by simp) _))) rfl
/-- A list of numbers, as a slice. -/
def InpAt (nb : Nat) (w : World) (v : Value) (l : List Int) : Prop :=
  ∃ ao cap, v = .slice ao l.length cap ∧ l.length ≤ cap ∧ ((∃ g o, ao = some ⟨g, o, none⟩ ∧ g ≠ nb ∧ ∀ j x, l[j]? = some x → w.cell? ⟨g, o + j, none⟩ = some (.int .i64 x)) ∨ l = [])
theorem InpAt.below {nb : Nat} {w w' : World} {v : Value} {l : List Int} (h : InpAt nb w v l) (hb : Below w.heap.size w w') : InpAt nb w' v l := by
  obtain ⟨ao, cap, h1, h2, h3⟩ := h
  refine ⟨ao, cap, h1, h2, ?_⟩
  rcases h3 with ⟨g, o, e, hne, hc⟩ | h3
  · exact .inl ⟨g, o, e, hne, fun j x hx => (hb.cell (p := ⟨g, o + j, none⟩) (World.block_lt_of_cell? w _ (hc j x hx))).trans (hc j x hx)⟩
  · exact .inr h3
theorem InpAt.tail {nb : Nat} {w w2 : World} {g o cp : Nat} {x : Int} {r : List Int} (hne : g ≠ nb) (h : ∀ j y, (x :: r)[j]? = some y → w.cell? ⟨g, o + j, none⟩ = some (.int .i64 y)) (hc : r.length + 1 ≤ cp) (hb : Below w.heap.size w w2) :
    InpAt nb w2 (.slice (if cp = 1 then some ⟨g, o, none⟩ else some ⟨g, o + 1, none⟩) r.length (cp - 1)) r := by
  by_cases e : cp = 1
  · have : r = [] := by cases r with
      | nil => rfl
      | cons y t => simp at hc; omega
    subst this
    exact ⟨_, _, rfl, by simp, .inl ⟨g, o, by rw [if_pos e], hne, fun j y hy => by simp at hy⟩⟩
  · refine InpAt.below (nb := nb) (w := w) ⟨_, _, rfl, by omega, .inl ⟨g, o + 1, by rw [if_neg e], hne, fun j y hy => ?_⟩⟩ hb
    have := h (j + 1) y (by simpa using hy)
    rw [show o + 1 + j = o + (j + 1) by omega]; exact this
/-- Are there as many inputs as input cells, each of its kind? -/
def fitsL (rl kd : Nat → Nat) : Nat → Nat → List Int → Bool
  | 0, _, l => l.isEmpty
  | k + 1, i, l => if rl i = 0 then (match l with | [] => false | x :: r => layK (kd i) x == x && fitsL rl kd k (i + 1) r) else fitsL rl kd k (i + 1) l
theorem fits_skip {rl kd : Nat → Nat} {n k : Nat} {l : List Int} (hk : k < n) (h : rl k ≠ 0) : fitsL rl kd (n - k) k l = fitsL rl kd (n - (k + 1)) (k + 1) l := by
  obtain ⟨f, hf⟩ : ∃ f, n - k = f + 1 := ⟨n - k - 1, by omega⟩
  rw [hf, show n - (k + 1) = f by omega]
  simp only [fitsL]; rw [if_neg h]
theorem fits_nil {rl kd : Nat → Nat} {n k : Nat} (hk : k < n) (h : rl k = 0) : fitsL rl kd (n - k) k [] = false := by
  obtain ⟨f, hf⟩ : ∃ f, n - k = f + 1 := ⟨n - k - 1, by omega⟩
  rw [hf]
  simp only [fitsL]; rw [if_pos h]
theorem fits_cons {rl kd : Nat → Nat} {n k : Nat} {x : Int} {l : List Int} (hk : k < n) (h : rl k = 0) : fitsL rl kd (n - k) k (x :: l) = (layK (kd k) x == x && fitsL rl kd (n - (k + 1)) (k + 1) l) := by
  obtain ⟨f, hf⟩ : ∃ f, n - k = f + 1 := ⟨n - k - 1, by omega⟩
  rw [hf, show n - (k + 1) = f by omega]
  simp only [fitsL]; rw [if_pos h]
theorem fits_end {rl kd : Nat → Nat} {n k : Nat} {l : List Int} (hk : ¬ k < n) : fitsL rl kd (n - k) k l = l.isEmpty := by
  rw [show n - k = 0 by omega]; rfl
set_option maxRecDepth 100000 in
set_option maxHeartbeats 1000000 in
theorem takes_any (w : World) (bx bc nC cap : Nat) (rl kd : Nat → Nat) (C : Nat → Int) (v : Value) (l : List Int) (hC : nC ≤ 100) (hx : w.cell? ⟨bx, 0, none⟩ = some (.slice (some ⟨bc, 0, none⟩) nC cap)) (ht : Tab w bc 79 3 nC cap (cellV rl kd C)) (hv : InpAt bc w v l)
    (R : Ending → World → Prop) (fin : ∀ w', Below w.heap.size w w' → R (.returned (.bool (fitsL rl kd nC 0 l))) w') :
    Calls Tryz.prog 27 #[.pointer (some ⟨bx, 0, none⟩), v] w R := by
  have hX : ∃ X, fitsL rl kd nC 0 l = X := ⟨_, rfl⟩
  obtain ⟨X, hX⟩ := hX
  rw [hX] at fin
  replace hX := hd hX
  replace fin := hd fin
  replace hv := hd hv
  replace ht := hd ht
  have hbc := ht.out.lt
  go_enter Tryz.func27, Tryz.ntmps27
  go_wp2
  go_loopw [1, 12] (fun iv i wr => ∃ (k : Nat) (r : List Int), k ≤ nC ∧ i = .int .i64 k ∧ InpAt bc wr iv r ∧ r.length ≤ l.length ∧ Below w.heap.size w wr ∧ X = fitsL rl kd (nC - k) k r) (fun _ i _ => nC - (intOf i).toNat)
  case atStart => exact ⟨0, l, by omega, rfl, hv.out, Nat.le_refl _, Below.refl _ _, hX.out.symm⟩
  case round =>
    obtain ⟨k, r, hk, rfl, hiv, hrl, hbel, hx1⟩ := hrel
    obtain ⟨ao, cp, rfl, hcp, hcs⟩ := id hiv
    replace hx1 := hd hx1
    replace hiv := hd hiv
    by_cases hlt : k < nC
    · have htr := ht.out.of_block (w' := wr) (hbel.block bc hbc)
      have k0 := htr.cell0 hlt (by omega)
      have k1 := htr.cell hlt (f := 1) (by omega)
      have k2 := htr.cell hlt (f := 2) (by omega)
      rw [cellV_0] at k0
      rw [cellV_1] at k1
      rw [cellV_2] at k2
      have hbr := htr.lt
      have hbelA := hd (fun o : Obj => Below.alloc (Below.refl wr.heap.size wr) (Nat.le_refl _) o)
      replace hbel := hd hbel
      clear htr
      by_cases h0 : rl k = 0
      · have t0 : ((rl k : Int) != 0) = false := by simp [h0]
        cases r with
        | nil =>
          have hfz := hd (hx1.out.trans (fits_nil hlt h0))
          clear hx1
          go_wp2_with (fail)
          go_region
          all_goals
            go_wp2
            exact cl1 (fin.out _ ((hbel.out.trans ((hbelA.out _).mono hbel.out.size)).drew)) (by rw [hfz.out]; rfl)
        | cons x r =>
          have hfz := hd (hx1.out.trans (fits_cons hlt h0))
          clear hx1
          replace h0 := hd h0
          obtain ⟨g, o, rfl, hgne, hcq⟩ : ∃ g o, ao = some ⟨g, o, none⟩ ∧ g ≠ bc ∧ ∀ j y, (x :: r)[j]? = some y → wr.cell? ⟨g, o + j, none⟩ = some (.int .i64 y) := by
            rcases hcs with h | h
            · exact h
            · cases h
          have cx := hcq 0 x rfl
          rw [Nat.add_zero] at cx
          have hgl := World.block_lt_of_cell? wr _ cx
          have hnx := hd (show ∀ (w2 : World), Below wr.heap.size wr w2 → InpAt bc w2 (.slice (if cp = 1 then some ⟨g, o, none⟩ else some ⟨g, o + 1, none⟩) r.length (cp - 1)) r from fun w2 hb2 => InpAt.tail hgne hcq (by simpa using hcp) hb2)
          have jl : (1 : Int) ≤ (r.length : Int) + 1 := by omega
          have jc : r.length + 1 ≤ cp := by simpa using hcp
          have tl0 : (((r.length : Int) + 1) == 0) = false := by simp; omega
          simp only [List.length_cons] at hrl
          clear hcs hcq hcp
          by_cases hfit : layK (kd k) x = x
          · have tl : (layK (kd k) x == x) = true := by simpa using hfit
            replace hfit := hd hfit
            go_wp2_with (fail)
            go_region_with (go_at_call 49; refine holds_any _ _ _ _ _ _ ?_; intro w2 hb2)
            all_goals
              have hb3 := hd (show Below wr.heap.size wr w2 from (hbelA.out _).drew.trans (hb2.mono (show wr.heap.size ≤ _ by simp)))
              clear hb2
              go_wp2
              exact ⟨⟨k + 1, r, by omega, by go_num, hnx.out _ hb3.out, by omega, hbel.out.trans (hb3.out.mono hbel.out.size), by rw [hfz.out, tl]; rfl⟩, by simp [intOf]; omega⟩
          · have tl : (layK (kd k) x == x) = false := by simpa using hfit
            replace hfit := hd hfit
            go_wp2_with (fail)
            go_region_with (go_at_call 49; refine holds_any _ _ _ _ _ _ ?_; intro w2 hb2)
            all_goals
              have hb3 := hd (show Below wr.heap.size wr w2 from (hbelA.out _).drew.trans (hb2.mono (show wr.heap.size ≤ _ by simp)))
              clear hb2
              go_wp2
              exact cl1 (fin.out _ (hbel.out.trans (hb3.out.mono hbel.out.size))) (by rw [hfz.out, tl]; rfl)
      · have t0 : ((rl k : Int) != 0) = true := by simp; omega
        have hfz := hd (hx1.out.trans (fits_skip hlt h0))
        clear hx1
        go_wp2
        go_roundw
        case measure => simp [intOf]; omega
        case rel => exact ⟨k + 1, r, by omega, by go_num, hiv.out.below (hbelA.out _), hrl, hbel.out.trans ((hbelA.out _).mono hbel.out.size), hfz.out⟩
    · have hfz := hd (hx1.out.trans (fits_end hlt))
      clear hx1
      go_wp2
      exact cl1 (fin.out _ hbel) (by rw [hfz.out]; show Value.bool _ = Value.bool _; cases r <;> simp; try omega)

end Go.Proofs.YtidhiaaicmfabaaGreat

/- The inputs are laid into their cells. -/
namespace Go.Proofs.YtidhiaaicmfabaaGreat
open Go.RowKit Go.Proofs Go.Deep

/-- The cells when the inputs are laid. -/
def layL (rl kd : Nat → Nat) : Nat → Nat → List Int → (Nat → Int) → (Nat → Int)
  | 0, _, _, C => C
  | k + 1, i, l, C => if rl i = 0 then (match l with | [] => C | x :: r => layL rl kd k (i + 1) r (upd C i (layK (kd i) x))) else layL rl kd k (i + 1) l C
theorem lay_skip {rl kd : Nat → Nat} {n k : Nat} {l : List Int} {C : Nat → Int} (hk : k < n) (h : rl k ≠ 0) : layL rl kd (n - k) k l C = layL rl kd (n - (k + 1)) (k + 1) l C := by
  obtain ⟨f, hf⟩ : ∃ f, n - k = f + 1 := ⟨n - k - 1, by omega⟩
  rw [hf, show n - (k + 1) = f by omega]
  simp only [layL]; rw [if_neg h]
theorem lay_cons {rl kd : Nat → Nat} {n k : Nat} {x : Int} {l : List Int} {C : Nat → Int} (hk : k < n) (h : rl k = 0) : layL rl kd (n - k) k (x :: l) C = layL rl kd (n - (k + 1)) (k + 1) l (upd C k (layK (kd k) x)) := by
  obtain ⟨f, hf⟩ : ∃ f, n - k = f + 1 := ⟨n - k - 1, by omega⟩
  rw [hf, show n - (k + 1) = f by omega]
  simp only [layL]; rw [if_pos h]
theorem lay_end {rl kd : Nat → Nat} {n k : Nat} {l : List Int} {C : Nat → Int} (hk : ¬ k < n) : layL rl kd (n - k) k l C = C := by
  rw [show n - k = 0 by omega]; rfl
theorem layL_in {rl kd : Nat → Nat} : ∀ (k i : Nat) (l : List Int) (C : Nat → Int), (∀ j, in32 (C j)) → ∀ j, in32 (layL rl kd k i l C j)
  | 0, _, _, _, h, j => h j
  | k + 1, i, l, C, h, j => by
    simp only [layL]
    split
    · split
      · exact h j
      · refine layL_in k _ _ _ (fun j' => ?_) j
        unfold upd; split
        · exact layK_in _ _
        · exact h j'
    · exact layL_in k _ _ _ h j
theorem Tab.setV {w : World} {b n cap : Nat} {rl kd : Nat → Nat} {C : Nat → Int} (h : Tab w b 79 3 n cap (cellV rl kd C)) (c : Nat) (x : Int) : Tab (w.setCell ⟨b, c * 3 + 2, none⟩ (.int .i32 x)) b 79 3 n cap (cellV rl kd (upd C c x)) :=
  (h.set c 2 (by omega) _).congr (fun j _ g hg => by
    have hcg : g = 0 ∨ g = 1 ∨ g = 2 := by omega
    rcases hcg with rfl | rfl | rfl
    · simp [cellV]
    · simp [cellV]
    · by_cases e : j = c <;> simp [cellV, upd, e])
theorem InpAt.set {nb : Nat} {w : World} {v : Value} {l : List Int} (h : InpAt nb w v l) (o : Nat) (u : Value) : InpAt nb (w.setCell ⟨nb, o, none⟩ u) v l := by
  obtain ⟨ao, cap, h1, h2, h3⟩ := h
  refine ⟨ao, cap, h1, h2, ?_⟩
  rcases h3 with ⟨g, o', e, hne, hc⟩ | h3
  · exact .inl ⟨g, o', e, hne, fun j x hx => by rw [World.cell?_setCell_other _ _ _ _ (by intro e; injection e with e; exact hne e.symm)]; exact hc j x hx⟩
  · exact .inr h3
set_option maxRecDepth 100000 in
set_option maxHeartbeats 1000000 in
theorem layInputs_any (w : World) (bx bc nC cap : Nat) (rl kd : Nat → Nat) (C : Nat → Int) (v : Value) (l : List Int) (hne : bx ≠ bc) (hC : nC ≤ 100) (hx : w.cell? ⟨bx, 0, none⟩ = some (.slice (some ⟨bc, 0, none⟩) nC cap)) (ht : Tab w bc 79 3 nC cap (cellV rl kd C)) (hv : InpAt bc w v l)
    (hfit : fitsL rl kd nC 0 l = true) (R : Ending → World → Prop) (fin : ∀ w', Only bc w w' → Tab w' bc 79 3 nC cap (cellV rl kd (layL rl kd nC 0 l C)) → R (.returned (.tuple #[])) w') :
    Calls Tryz.prog 52 #[.pointer (some ⟨bx, 0, none⟩), v] w R := by
  have hX : ∃ X, layL rl kd nC 0 l C = X := ⟨_, rfl⟩
  obtain ⟨X, hX⟩ := hX
  rw [hX] at fin
  replace hX := hd hX
  replace fin := hd fin
  replace hv := hd hv
  replace ht := hd ht
  replace hfit := hd hfit
  have hbx := World.block_lt_of_cell? w _ hx
  have hbc := ht.out.lt
  go_enter Tryz.func52, Tryz.ntmps52
  go_wp2
  go_loopw [1, 10] (fun iv i wr => ∃ (k : Nat) (r : List Int) (C1 : Nat → Int), k ≤ nC ∧ i = .int .i64 k ∧ InpAt bc wr iv r ∧ Only bc w wr ∧ Tab wr bc 79 3 nC cap (cellV rl kd C1) ∧ fitsL rl kd (nC - k) k r = true ∧ X = layL rl kd (nC - k) k r C1) (fun _ i _ => nC - (intOf i).toNat)
  case atStart => exact ⟨0, l, C, by omega, rfl, hv.out, Only.refl _ _, ht.out, hfit.out, hX.out.symm⟩
  case round =>
    obtain ⟨k, r, C1, hk, rfl, hiv, honly, htr, hft, hx1⟩ := hrel
    obtain ⟨ao, cp, rfl, hcp, hcs⟩ := id hiv
    have hxr : wr.cell? ⟨bx, 0, none⟩ = some (.slice (some ⟨bc, 0, none⟩) nC cap) := by rw [honly.cell hbx hne]; exact hx
    replace hx1 := hd hx1
    replace hft := hd hft
    replace hiv := hd hiv
    by_cases hlt : k < nC
    · have k0 := htr.cell0 hlt (by omega)
      have k1 := htr.cell hlt (f := 1) (by omega)
      have k2 := htr.cell hlt (f := 2) (by omega)
      have kf := htr.frozen (k * 3 + 2)
      rw [cellV_0] at k0
      rw [cellV_1] at k1
      rw [cellV_2] at k2
      have hbr := htr.lt
      replace honly := hd honly
      replace htr := hd htr
      by_cases h0 : rl k = 0
      · have t0 : ((rl k : Int) == 0) = true := by simp [h0]
        cases r with
        | nil =>
          have := hft.out
          rw [fits_nil hlt h0] at this
          cases this
        | cons x r =>
          have hf1 := hd (show fitsL rl kd (nC - (k + 1)) (k + 1) r = true by have := hft.out; rw [fits_cons hlt h0] at this; simp at this; exact this.2)
          have hfz := hd (hx1.out.trans (lay_cons hlt h0))
          clear hx1 hft
          replace h0 := hd h0
          obtain ⟨g, o, rfl, hgne, hcq⟩ : ∃ g o, ao = some ⟨g, o, none⟩ ∧ g ≠ bc ∧ ∀ j y, (x :: r)[j]? = some y → wr.cell? ⟨g, o + j, none⟩ = some (.int .i64 y) := by
            rcases hcs with h | h
            · exact h
            · cases h
          have cx := hcq 0 x rfl
          rw [Nat.add_zero] at cx
          have hgl := World.block_lt_of_cell? wr _ cx
          have hnx := hd (InpAt.tail (nb := bc) (w2 := wr) hgne hcq (by simpa using hcp) (Below.refl _ _))
          have jl : (1 : Int) ≤ (r.length : Int) + 1 := by omega
          have jl2 : (0 : Int) < (r.length : Int) + 1 := by omega
          have jc : r.length + 1 ≤ cp := by simpa using hcp
          clear hcs hcq hcp
          go_wp2_with (fail)
          go_region_with (go_at_call 101; refine lay_any _ _ k (kd k) _ (C1 k) (by exact k1) (by exact k2) (by exact kf) _ ?_)
          all_goals
            go_wp2
            exact ⟨⟨k + 1, r, _, by omega, by go_num, InpAt.below (hnx.out.set _ _) (by first | exact Below.refl _ _ | exact (Below.refl _ _).drew), by first | exact honly.out.setCell (a := ⟨bc, k * 3 + 2, none⟩) (.inl rfl) _ | exact (honly.out.setCell (a := ⟨bc, k * 3 + 2, none⟩) (.inl rfl) _).drew, htr.out.setV k _, hf1.out, hfz.out⟩, by simp [intOf]; omega⟩
      · have t0 : ((rl k : Int) == 0) = false := by simp; omega
        have hf1 := hd (show fitsL rl kd (nC - (k + 1)) (k + 1) r = true by rw [← fits_skip hlt h0]; exact hft.out)
        have hfz := hd (hx1.out.trans (lay_skip hlt h0))
        clear hx1
        go_wp2
        exact ⟨⟨k + 1, r, C1, by omega, by go_num, hiv.out, honly.out, htr.out, hf1.out, hfz.out⟩, by simp [intOf]; omega⟩
    · have hfz := hd (hx1.out.trans (lay_end hlt))
      clear hx1
      replace honly := hd honly
      replace htr := hd htr
      go_wp2
      go_end0
      exact fin.out _ honly.out (by rw [hfz.out]; exact htr.out)

end Go.Proofs.YtidhiaaicmfabaaGreat

/- A scan's beginning and end: what is kept, and what the deferred function leaves. -/
namespace Go.Proofs.YtidhiaaicmfabaaGreat
open Go.RowKit Go.Proofs Go.Deep

theorem tab_list {w : World} {b n : Nat} {rl kd : Nat → Nat} {C : Nat → Int} (h : Tab w b 79 3 n n (cellV rl kd C)) : ∃ news : List Value, w.heap[b]? = some (.cells news.toArray 79) ∧ news.length = n * 3 ∧ (∀ u ∈ news, u.oneCell' = true) ∧ ∀ i, i < n → ∀ f, f < 3 → news[i * 3 + f]? = some (cellV rl kd C i f) := by
  obtain ⟨cur, h1, h2, h3, h4⟩ := h
  refine ⟨cur.toList, by simpa using h1, by simpa using h2, fun u hu => ?_, fun i hi f hf => by simpa using h4 i hi f hf⟩
  obtain ⟨j, hj, e⟩ := List.getElem_of_mem hu
  have hjn : j < n * 3 := by simp at hj; omega
  have := h4 (j / 3) (by omega) (j % 3) (by omega)
  rw [show j / 3 * 3 + j % 3 = j by omega] at this
  have e2 : cur.toList[j]? = some u := by rw [List.getElem?_eq_getElem hj, e]
  rw [Array.getElem?_toList, this] at e2
  injection e2 with e2
  subst e2
  unfold cellV
  split
  · rfl
  · split <;> rfl
set_option maxRecDepth 100000 in
theorem clone_any (w : World) (bc nC : Nat) (rl kd : Nat → Nat) (C : Nat → Int) (hC : nC ≤ 100) (ht : Tab w bc 79 3 nC nC (cellV rl kd C)) (R : Ending → World → Prop)
    (fin : ∀ v news w', Below w.heap.size w w' → w'.ownsRow w.heap.size 79 3 v nC news → (∀ i, i < nC → ∀ f, f < 3 → news[i * 3 + f]? = some (cellV rl kd C i f)) → R (.returned v) w') :
    Calls Tryz.prog 50 #[.slice (some ⟨bc, 0, none⟩) nC nC] w R := by
  obtain ⟨news, hg, hl, h1, hcs⟩ := tab_list ht
  have hbc := ht.lt
  have hown0 : Hid ((w.alloc (.cells #[] 79)).ownsRow w.heap.size 79 3 (.slice (some ⟨w.heap.size, 0, none⟩) 0 0) 0 []) := hd (World.ownsRow_made w #[] 0 (Nat.le_refl _) (by unfold maxLen; omega) rfl)
  have hnil : ∀ w : World, (binOp BinOp.eql 49 (.slice (some ⟨bc, 0, none⟩) nC nC) (.slice none 0 0)).run Tryz.prog w = .ok (.bool false) w := fun w => Lib.run_eql_slice_nil w 49 79 _ _ _ _ _ ulVCells
  replace fin := hd fin
  replace hg := hd hg
  replace h1 := hd h1
  replace hcs := hd hcs
  clear ht
  go_enter Tryz.func50, Tryz.ntmps50
  go_wp2_with (first | (at_builtin; refine wpList_app _ rfl _ _ 49 rfl w.heap.size 79 _ 3 8 ulVCells infoVCell rfl (by decide) _ 0 [] rfl (by exact hown0.out) bc nC nC news rfl (by exact (Below.heap_alloc w _ bc hbc).trans hg.out) (by exact hl) h1.out (by unfold maxLen; omega) (by omega) (by simp) ?_; intro v1 w1 hown1 hgr1; replace hown1 := hd hown1; replace hgr1 := hd hgr1))
  have hb : Below w.heap.size w w1 := ⟨hgr1.out.os, hgr1.out.tape, hgr1.out.output, Nat.le_trans (by simp) hgr1.out.size, fun k hk => (hgr1.out.block k (by rw [World.size_alloc]; omega) (show some k ≠ some w.heap.size by intro e; injection e; omega)).trans (Below.heap_alloc w _ k hk)⟩
  exact cl1 (fin.out v1 news w1 hb (by have := hown1.out; simpa using this) hcs.out) rfl
/-- What the deferred function of a scan leaves: how many steps were done; at an error the cells as they were, and the error. -/
theorem left_ok (w : World) (br bx b3 b6 b7 : Nat) (dn d0 : Int) (u : FrameMode) (h1 : w.cell? ⟨br, 116, none⟩ = some (.int .i64 dn)) (h2 : w.cell? ⟨b3, 0, none⟩ = some (.pointer (some ⟨bx, 0, none⟩))) (h3 : w.cell? ⟨b6, 0, none⟩ = some (.int .i64 0))
    (h4 : w.cell? ⟨bx, 3, none⟩ = some (.int .i64 d0)) (f4 : w.frozen? ⟨bx, 3, none⟩ = false) :
    CallsD Tryz.prog 51 #[.pointer (some ⟨br, 0, none⟩), .pointer (some ⟨b3, 0, none⟩), .pointer (some ⟨b6, 0, none⟩), .pointer (some ⟨b7, 0, none⟩)] u w fun ed u' w' => u' = u ∧ (ed = .returned (.tuple #[]) ∧ w' = w.setCell ⟨bx, 3, none⟩ (.int .i64 dn)) := by
  go_enter_d Tryz.func51, Tryz.ntmps51
  go_wp2
  go_end0
  exact ⟨rfl, rfl⟩
theorem left_err (w : World) (br bx b3 b6 b7 : Nat) (dn d0 e f0 : Int) (av cv : Value) (u : FrameMode) (h1 : w.cell? ⟨br, 116, none⟩ = some (.int .i64 dn)) (h2 : w.cell? ⟨b3, 0, none⟩ = some (.pointer (some ⟨bx, 0, none⟩))) (h3 : w.cell? ⟨b6, 0, none⟩ = some (.int .i64 e)) (he : e ≠ 0)
    (h4 : w.cell? ⟨bx, 3, none⟩ = some (.int .i64 d0)) (h5 : w.cell? ⟨bx, 0, none⟩ = some cv) (h6 : w.cell? ⟨bx, 4, none⟩ = some (.int .i64 f0)) (h7 : w.cell? ⟨b7, 0, none⟩ = some av) (ha : ∃ ao n cap, av = .slice ao n cap) (f4 : ∀ j, w.frozen? ⟨bx, j, none⟩ = false) :
    CallsD Tryz.prog 51 #[.pointer (some ⟨br, 0, none⟩), .pointer (some ⟨b3, 0, none⟩), .pointer (some ⟨b6, 0, none⟩), .pointer (some ⟨b7, 0, none⟩)] u w fun ed u' w' => u' = u ∧ (ed = .returned (.tuple #[]) ∧ w' = ((w.setCell ⟨bx, 3, none⟩ (.int .i64 dn)).setCell ⟨bx, 0, none⟩ av).setCell ⟨bx, 4, none⟩ (.int .i64 e)) := by
  obtain ⟨ao, n, cap, rfl⟩ := ha
  have te : (e != 0) = true := by simpa using he
  have g3 := f4 3
  have g0 := f4 0
  have g4 := f4 4
  clear f4
  go_enter_d Tryz.func51, Tryz.ntmps51
  go_wp2
  go_end0
  exact ⟨rfl, rfl⟩

end Go.Proofs.YtidhiaaicmfabaaGreat

/- What a scan stands on. -/
namespace Go.Proofs.YtidhiaaicmfabaaGreat
open Go.RowKit Go.Proofs Go.Deep

theorem infoRun : (Tryz.prog.info? 115).map (·.size) = some 118 := by kernel_rfl
def runC (X Y : Value) (d : Int) (fv : Nat → Value) : Array Value := tabC fv ++ #[X, Y, .int .i64 d, .slice none 0 0, .slice none 0 0, .int .i64 0, .int .i64 0, .bool false]
theorem run_build_run (a : Option Addr) (n c : Nat) (a' : Option Addr) (n' c' : Nat) (d : Int) (fv : Nat → Value) (w : World) : (Instr.build 115 #[(0, .agg (tabC fv)), (1, .slice a n c), (2, .slice a' n' c'), (3, .int .i64 d)]).run Tryz.prog w = .ok (.agg (runC (.slice a n c) (.slice a' n' c') d fv)) w := by
  kernel_rfl
theorem runC_size (X Y : Value) (d : Int) (fv : Nat → Value) : (runC X Y d fv).size = 118 := by kernel_rfl
theorem zeroRun_size : (Tryz.zeroCells115).size = 118 := by kernel_rfl
theorem runC_one (a : Option Addr) (n c : Nat) (a' : Option Addr) (n' c' : Nat) (d : Int) (fv : Nat → Value) (hf : ∀ i, i < 22 → ∃ g c, fv i = .func g #[] c) : (runC (.slice a n c) (.slice a' n' c') d fv).all (·.oneCell') = true := by
  have h := (tabC_ok fv hf).2.1
  unfold runC
  simp only [Array.all_append, h]
  have e1 : ∀ a n c, (Value.slice a n c).oneCell' = true := fun _ _ _ => rfl
  have e2 : ∀ k x, (Value.int k x).oneCell' = true := fun _ _ => rfl
  have e3 : ∀ x, (Value.bool x).oneCell' = true := fun _ => rfl
  simp [e1, e2, e3]
theorem wp_normal {P : Program} {c : Code} {Q : Exit → Act → World → Prop} {a : Act} {w : World} (h : c.wp P (fun e a' w' => e = .normal ∧ Q .normal a' w') a w) : c.wp P Q a w := wp_mono h (fun _ _ _ hq => hq.1 ▸ hq.2)
theorem stepH {P : Program} {md : Region.Mode} {ops : Array Oper} {Q : Exit → Act → World → Prop} {S : World → Prop} {fuel : Nat} {listed : Array Bool} {a : Act} {w : World} {i : Nat} {o : Oper} (ho : ops[i]? = some o)
    (h : ∀ K' : Act → World → Prop, (∀ a w, S w → wpAnyH P md ops Q S fuel (listed.setIfInBounds i true) a w → K' a w) → if Region.wanted o (yielded ops a.tmps) = true then Oper.wp P o a w K' Q else K' (a.put o.dst undef) w) :
    wpOp P ops Q i (fun a' w' => S w' ∧ wpAnyH P md ops Q S fuel (listed.setIfInBounds i true) a' w') a w := wpOp_step ho (fun K' hK => h K' (fun a w hs hw => hK a w ⟨hs, hw⟩))
def nmT (o : Nat) : ByteArray := [⟨#[69, 78, 68]⟩, ⟨#[78, 85, 77]⟩, ⟨#[71, 69, 84]⟩, ⟨#[83, 69, 84]⟩, ⟨#[71, 69, 84, 88]⟩, ⟨#[83, 69, 84, 88]⟩, ⟨#[65, 68, 68]⟩, ⟨#[83, 85, 66]⟩, ⟨#[77, 85, 76]⟩, ⟨#[68, 73, 86]⟩, ⟨#[77, 79, 68]⟩, ⟨#[69, 81]⟩, ⟨#[76, 84]⟩, ⟨#[78, 79, 84]⟩, ⟨#[65, 78, 68]⟩, ⟨#[79, 82]⟩, ⟨#[83, 72, 79, 82, 84]⟩, ⟨#[74, 85, 77, 80]⟩, ⟨#[85, 78, 76, 69, 83, 83]⟩, ⟨#[70, 79, 82]⟩, ⟨#[78, 69, 88, 84]⟩, (⟨#[84, 73, 77, 69, 82]⟩ : ByteArray)].getD o ⟨#[]⟩
theorem tab_rowF (fv : Nat → Value) : tabC fv = ((List.range 110).map (rowF nmT fv)).toArray := by kernel_rfl
theorem setCells_row {b T : Nat} : ∀ (vs : List Value) (o : Nat) (w : World) (c : Array Value), w.heap[b]? = some (.cells c T (0, 0)) → ∃ c', (w.setCells b o vs).heap[b]? = some (.cells c' T (0, 0)) ∧ c'.size = c.size
  | [], _, _, c, h => ⟨c, h, rfl⟩
  | v :: r, o, w, c, h => by
    rw [World.setCells]
    have h1 : (w.setCell ⟨b, o, none⟩ v).heap[b]? = some (.cells (c.setIfInBounds o v) T (0, 0)) := by simp [World.setCell, Array.getElem?_modify, h]
    obtain ⟨c', h2, h3⟩ := setCells_row r (o + 1) _ _ h1
    exact ⟨c', h2, by rw [h3]; simp⟩
theorem runC_at (X Y : Value) (d : Int) (fv : Nat → Value) (K : Rc) (hnm : K.nm = nmT) (hfv : K.fv = fv) (hd : K.delta = d) (hX : X = .slice (some ⟨K.bs, 0, none⟩) K.n K.cap) (hY : Y = .slice (some ⟨K.bc, 0, none⟩) K.nC K.nC) (i : Nat) (hi : i < 118) :
    (runC X Y d fv)[i]? = some (runF K (.slice none 0 0) (.slice none 0 0) 0 0 false i) := by
  unfold runC runF
  subst hX hY hd hfv
  by_cases h : i < 110
  · rw [if_pos h, Array.getElem?_append_left (by rw [tab_size]; exact h), tab_rowF, hnm]
    simp [h]
  · rw [if_neg h, Array.getElem?_append_right (by rw [tab_size]; omega), tab_size]
    have hc : i = 110 ∨ i = 111 ∨ i = 112 ∨ i = 113 ∨ i = 114 ∨ i = 115 ∨ i = 116 ∨ i = 117 := by omega
    rcases hc with rfl | rfl | rfl | rfl | rfl | rfl | rfl | rfl <;> rfl
theorem run_row {X : World} (K : Rc) (hnm : K.nm = nmT) (hz : X.heap[K.br]? = some (.cells Tryz.zeroCells115 115 (0, 0))) :
    (X.setCells K.br 0 (runC (.slice (some ⟨K.bs, 0, none⟩) K.n K.cap) (.slice (some ⟨K.bc, 0, none⟩) K.nC K.nC) K.delta K.fv).toList).rowIs K.br 115 118 (runF K (.slice none 0 0) (.slice none 0 0) 0 0 false) := by
  obtain ⟨c', h1, h2⟩ := setCells_row (runC (.slice (some ⟨K.bs, 0, none⟩) K.n K.cap) (.slice (some ⟨K.bc, 0, none⟩) K.nC K.nC) K.delta K.fv).toList 0 X _ hz
  refine ⟨c', h1, by rw [h2, zeroRun_size], fun i hi => ?_⟩
  have hnew := World.rangeAt_setCells_same X K.br 0 (runC (.slice (some ⟨K.bs, 0, none⟩) K.n K.cap) (.slice (some ⟨K.bc, 0, none⟩) K.nC K.nC) K.delta K.fv).toList (there_of_block hz (by rw [zeroRun_size]; simp [runC_size]))
  have h3 := runC_at _ _ _ _ K hnm rfl rfl rfl rfl i hi
  have h4 := hnew i _ (by rw [Array.getElem?_toList]; exact h3)
  rw [Nat.zero_add, cell_of_row _ _ i c' _ (0, 0) h1] at h4
  exact h4
/-- A scan's variable, made beside the table. -/
structure PreR (W : World) (br : Nat) (fv : Nat → Value) (X : World) : Prop where
  bel : Below W.heap.size W X
  zero : X.heap[br]? = some (.cells Tryz.zeroCells115 115 (0, 0))
  le : W.heap.size ≤ br
  fv : ∃ lo Y, FvAt lo Y fv ∧ W.heap.size ≤ lo ∧ ∀ k, lo ≤ k → k < Y.heap.size → X.heap[k]? = Y.heap[k]? ∧ k ≠ br ∧ k < X.heap.size
/-- A machine's data. -/
structure Md where
  n : Nat
  cap : Nat
  nC : Nat
  bs : Nat
  bx : Nat
  op : Nat → Nat
  at_ : Nat → Nat
  arg : Nat → Int
  cnt : Nat → Int
  lp : Nat → Int
  to_ : Nat → Int
  rl : Nat → Nat
  kd : Nat → Nat
  bd : Int
def machF (M : Md) (cv : Value) (dn fl : Int) (j : Nat) : Value := if j = 0 then cv else if j = 1 then .slice (some ⟨M.bs, 0, none⟩) M.n M.cap else if j = 2 then .int .i64 M.bd else if j = 3 then .int .i64 dn else .int .i64 fl
/-- A machine in memory that no error has ended. -/
structure Live (M : Md) (bc : Nat) (C : Nat → Int) (dn : Int) (w : World) : Prop where
  row : w.rowIs M.bx 58 5 (machF M (.slice (some ⟨bc, 0, none⟩) M.nC M.nC) dn 0)
  cel : Tab w bc 79 3 M.nC M.nC (cellV M.rl M.kd C)
  steps : Tab w M.bs 121 6 M.n M.cap (stepA M.op M.at_ M.arg M.cnt M.lp M.to_)
  hC : ∀ j, in32 (C j)
  n : M.n ≤ 8000
  nC : M.nC ≤ 100
def mkK (M : Md) (w0 : World) (br bc base : Nat) (nm : Nat → ByteArray) (fv : Nat → Value) (d : Int) : Rc := ⟨w0, br, M.bs, bc, base, M.n, M.cap, M.nC, M.op, M.at_, M.arg, M.cnt, M.lp, M.to_, M.rl, M.kd, nm, fv, d⟩
/-- A machine that an error has ended: its outputs are those of the last scan that was OK. -/
structure Dead (M : Md) (cv : Value) (C : Nat → Int) (dn e : Int) (w : World) : Prop where
  row : w.rowIs M.bx 58 5 (machF M cv dn e)
  cel : (∃ bc cap, cv = .slice (some ⟨bc, 0, none⟩) M.nC cap ∧ Tab w bc 79 3 M.nC cap (cellV M.rl M.kd C)) ∨ (M.nC = 0 ∧ ∃ ao cap, cv = .slice ao 0 cap)
  hC : ∀ j, in32 (C j)
  ne : e ≠ 0
def runM (M : Md) (w : World) (d : Int) (C : Nat → Int) : Sc × Int × Int := runK (mkK M w 0 0 0 nmT (fun _ => undef) d) 300000 ⟨C, [], 0, false⟩ [] 0
theorem runK_M (M : Md) (w0 w1 : World) (br br' bc bc' base base' : Nat) (nm nm' : Nat → ByteArray) (fv fv' : Nat → Value) (d : Int) : ∀ (f : Nat) (q : Sc) (S : List Int) (dn : Int), runK (mkK M w0 br bc base nm fv d) f q S dn = runK (mkK M w1 br' bc' base' nm' fv' d) f q S dn
  | 0, _, _, _ => rfl
  | f + 1, q, S, dn => by
    have e : stepK (mkK M w0 br bc base nm fv d) q S = stepK (mkK M w1 br' bc' base' nm' fv' d) q S := rfl
    simp only [runK]
    rw [e, runK_M M w0 w1 br br' bc bc' base base' nm nm' fv fv' d f]
theorem tab_ne {w : World} {b b' T T' z z' n n' c c' : Nat} {A A' : Nat → Nat → Value} (h : Tab w b T z n c A) (h' : Tab w b' T' z' n' c' A') (hT : T ≠ T') : b ≠ b' := by
  rintro rfl
  obtain ⟨cur, h1, _⟩ := h
  obtain ⟨cur', h2, _⟩ := h'
  rw [h1] at h2
  injection h2 with h2
  injection h2 with _ h3
  exact hT h3
theorem row_ne {w : World} {b b' T T' z' n n' c' : Nat} {f : Nat → Value} {A' : Nat → Nat → Value} (h : w.rowIs b T n f) (h' : Tab w b' T' z' n' c' A') (hT : T ≠ T') : b ≠ b' := by
  rintro rfl
  obtain ⟨cur, h1, _⟩ := h
  obtain ⟨cur', h2, _⟩ := h'
  rw [h1] at h2
  injection h2 with h2
  injection h2 with _ h3
  exact hT h3
theorem Live.below {M : Md} {bc : Nat} {C : Nat → Int} {dn : Int} {w w' : World} (h : Live M bc C dn w) (hb : Below w.heap.size w w') : Live M bc C dn w' :=
  ⟨h.row.of_block (hb.block _ h.row.lt), h.cel.of_block (hb.block _ h.cel.lt), h.steps.of_block (hb.block _ h.steps.lt), h.hC, h.n, h.nC⟩
/-- All that a scan stands on, when its variable is made. -/
theorem start_ok {M : Md} {bc : Nat} {C : Nat → Int} {dn0 : Int} {W X : World} {br : Nat} {fv : Nat → Value} {d : Int} (h : Live M bc C dn0 W) (hp : PreR W br fv X) (hd : 0 ≤ d ∧ d ≤ 1000000) :
    ∃ K : Rc, K = mkK M (X.setCells br 0 (runC (.slice (some ⟨M.bs, 0, none⟩) M.n M.cap) (.slice (some ⟨bc, 0, none⟩) M.nC M.nC) d fv).toList) br bc X.heap.size nmT fv d ∧
      RcOk K ∧ FvOk K ∧ RS K 0 ⟨C, [], 0, false⟩ [] (X.setCells br 0 (runC (.slice (some ⟨M.bs, 0, none⟩) M.n M.cap) (.slice (some ⟨bc, 0, none⟩) M.nC M.nC) d fv).toList) := by
  refine ⟨_, rfl, ?_⟩
  have hbr : br < X.heap.size := (Array.getElem?_eq_some_iff.1 hp.zero).1
  have hsz := hp.bel.size
  have hle := hp.le
  have lb := h.cel.lt
  have ls := h.steps.lt
  have hB : Below W.heap.size W (X.setCells br 0 (runC (.slice (some ⟨M.bs, 0, none⟩) M.n M.cap) (.slice (some ⟨bc, 0, none⟩) M.nC M.nC) d fv).toList) := below_setCells hp.le _ _ _ hp.bel
  have hL := h.below hB
  have hne := tab_ne h.steps h.cel (by decide)
  have hrow := run_row (mkK M (X.setCells br 0 (runC (.slice (some ⟨M.bs, 0, none⟩) M.n M.cap) (.slice (some ⟨bc, 0, none⟩) M.nC M.nC) d fv).toList) br bc X.heap.size nmT fv d) rfl hp.zero
  have hK : RcOk (mkK M (X.setCells br 0 (runC (.slice (some ⟨M.bs, 0, none⟩) M.n M.cap) (.slice (some ⟨bc, 0, none⟩) M.nC M.nC) d fv).toList) br bc X.heap.size nmT fv d) :=
    ⟨hbr, show M.bs < X.heap.size by omega, show bc < X.heap.size by omega, show br ≠ M.bs by omega, show br ≠ bc by omega, hne, show X.heap.size ≤ (X.setCells br 0 _).heap.size by rw [sizeSetCells]; exact Nat.le_refl _, h.n, h.nC, hd, hL.steps⟩
  obtain ⟨lo, Y, hat, hlo, hap⟩ := hp.fv
  refine ⟨hK, fv_ok hK hat (fun k hk hk2 => ?_), ⟨⟨.slice none 0 0, .slice none 0 0, ⟨⟨rfl, rfl, rfl, hK.size, fun _ _ _ _ => rfl⟩, hrow, hL.cel⟩, World.ownsRow_nil _ _ _ _, World.ownsRow_nil _ _ _ _⟩, h.hC, fun x hx => by cases hx⟩⟩
  obtain ⟨a1, a2, a3⟩ := hap k hk hk2
  exact ⟨(heap_setCells a2 _ _ _).trans a1, a3, a2, show k ≠ bc by omega⟩

end Go.Proofs.YtidhiaaicmfabaaGreat

/- A scan, once its inputs are fit: runOnce. -/
namespace Go.Proofs.YtidhiaaicmfabaaGreat
open Go.RowKit Go.Proofs Go.Deep

theorem own_only1 {w w' : World} {base e size b : Nat} {v : Value} {n : Nat} {xs : List Value} (h : w.ownsRow base e size v n xs) (ho : Only b w w') (hb : b < base) : w'.ownsRow base e size v n xs := by
  refine h.kept (row := some b) ⟨ho.os, ho.tape, ho.output, ho.size, fun k hk hne => ho.block k hk (fun e => hne (by rw [e]))⟩ ?_
  by_cases hx : v.ownBlock = some b
  · have := (h.lt b hx).1; omega
  · exact .inr hx
theorem RS.laid {K : Rc} (hK : RcOk K) {C C' : Nat → Int} {w w' : World} (h : RS K 0 ⟨C, [], 0, false⟩ [] w) (ho : Only K.bc w w') (ht : Tab w' K.bc 79 3 K.nC K.nC (cellV K.rl K.kd C')) (hC : ∀ j, in32 (C' j)) : RS K 0 ⟨C', [], 0, false⟩ [] w' := by
  obtain ⟨sv, rv, hm, hs, hr⟩ := h.ex
  have hsz := hm.fr.size
  exact ⟨⟨sv, rv, ⟨⟨ho.os.trans hm.fr.os, ho.tape.trans hm.fr.tape, ho.output.trans hm.fr.output, Nat.le_trans hsz ho.size, fun k hk h1 h2 => (ho.block k (by omega) h2).trans (hm.fr.block k hk h1 h2)⟩, hm.run.of_block (ho.block _ hm.run.lt hK.rc), ht⟩, own_only1 hs ho hK.bc, own_only1 hr ho hK.bc⟩, hC, fun x hx => by cases hx⟩
theorem frz_new {w : World} {b T : Nat} {c : Array Value} (h : w.heap[b]? = some (.cells c T)) (j : Nat) : w.frozen? ⟨b, j, none⟩ = false := by simp [World.frozen?, h]
theorem Twain.setB {b c base : Nat} {w w' : World} (h : Twain b c base w w') (o : Nat) (v : Value) : Twain b c base w (w'.setCell ⟨b, o, none⟩ v) :=
  ⟨h.os, h.tape, h.output, by rw [World.size_setCell]; exact h.size, fun k hk h1 h2 => by rw [Below.heap_setCell _ _ _ _ h1]; exact h.block k hk h1 h2⟩
def MidR (W : World) (M : Md) (v : Value) (d : Int) (g3 g7 bc : Nat) (ao : Option Addr) (acap : Nat) (e : Exit) (a : Act) (w' : World) : Prop :=
  e = .normal ∧ ∃ br fv X V, PreR W br fv X ∧ a = ⟨#[.pointer (some ⟨M.bx, 0, none⟩), v, .int .i64 d, .pointer (some ⟨g3, 0, none⟩), undef, undef, .pointer (some ⟨g3 + 1, 0, none⟩), .pointer (some ⟨g7, 0, none⟩), .pointer (some ⟨br, 0, none⟩), .pointer (some ⟨M.bx, 0, none⟩), .pointer (some ⟨M.bx, 0, none⟩), .pointer (some ⟨M.bx, 0, none⟩), .slice (some ⟨bc, 0, none⟩) M.nC M.nC, .slice ao M.nC acap, .agg (tabC fv), .pointer (some ⟨M.bx, 0, none⟩), .pointer (some ⟨M.bx, 0, none⟩), .pointer (some ⟨M.bx, 1, none⟩), .slice (some ⟨M.bs, 0, none⟩) M.n M.cap, .pointer (some ⟨M.bx, 0, none⟩), .pointer (some ⟨M.bx, 0, none⟩), .pointer (some ⟨M.bx, 0, none⟩), .slice (some ⟨bc, 0, none⟩) M.nC M.nC, .int .i64 d, V, undef, undef, undef, undef, undef], []⟩ ∧
    w' = X.setCells br 0 (runC (.slice (some ⟨M.bs, 0, none⟩) M.n M.cap) (.slice (some ⟨bc, 0, none⟩) M.nC M.nC) d fv).toList
set_option maxRecDepth 100000 in
set_option maxHeartbeats 4000000 in
theorem runOnce_full (w : World) (M : Md) (bc : Nat) (C : Nat → Int) (dn0 : Int) (h : Live M bc C dn0 w) (v : Value) (l : List Int) (d : Int) (hv : InpAt bc w v l) (hfit : fitsL M.rl M.kd M.nC 0 l = true) (hd1 : 0 ≤ d ∧ d ≤ 1000000) {To : Nat → Nat} {H L : Nat → Int} (hkw : ∀ w0 br bc base nm fv d, KW (mkK M w0 br bc base nm fv d) To M.bd H L) (hbd : M.bd ≤ 200000) (R : Ending → World → Prop)
    (ok : ∀ w' q' dn, runM M w d (layL M.rl M.kd M.nC 0 l C) = (q', dn, 0) → Live M bc q'.C dn w' → Twain M.bx bc w.heap.size w w' → 1 ≤ dn → dn ≤ M.bd → R (.returned (.int .i64 0)) w')
    (err : ∀ w' q' dn e cv, runM M w d (layL M.rl M.kd M.nC 0 l C) = (q', dn, e) → e ≠ 0 → Dead M cv C dn e w' → (∀ b k c, cv = .slice (some ⟨b, 0, none⟩) k c → w.heap.size ≤ b) → Twain M.bx bc w.heap.size w w' → 1 ≤ dn → dn ≤ M.bd → R (.returned (.int .i64 e)) w') :
    Calls Tryz.prog 28 #[.pointer (some ⟨M.bx, 0, none⟩), v, .int .i64 d] w R := by
  have hmf : ∀ (fn : Fn) (first cap : Array Value) (w : World), (Instr.makeFunc fn first cap).run Tryz.prog w = .ok (.func fn first cap) w := fun _ _ _ _ => rfl
  have c0 := h.row.cell (i := 0) (by omega)
  have c1 := h.row.cell (i := 1) (by omega)
  rw [show machF M (.slice (some ⟨bc, 0, none⟩) M.nC M.nC) dn0 0 0 = .slice (some ⟨bc, 0, none⟩) M.nC M.nC from rfl] at c0
  rw [show machF M (.slice (some ⟨bc, 0, none⟩) M.nC M.nC) dn0 0 1 = .slice (some ⟨M.bs, 0, none⟩) M.n M.cap from rfl] at c1
  have hlx := h.row.lt
  have hlc := h.cel.lt
  have hnC := h.nC
  replace ok := hd ok
  replace err := hd err
  replace hkw := hd hkw
  replace h := hd h
  replace hv := hd hv
  replace hfit := hd hfit
  go_enter_defers Tryz.func28, Tryz.ntmps28
  go_wp2_with (fail)
  refine clone_any _ bc M.nC M.rl M.kd C hnC ((h.out.cel.alloc _).alloc _) _ ?_
  intro av news w1 hb1 hown hnews
  obtain ⟨ao, acap, rfl⟩ := own_sl hown
  replace hb1 := hd hb1
  replace hown := hd hown
  replace hnews := hd hnews
  go_wp2_with (fail)
  have hbw : Below w.heap.size w w1 := (((Below.refl _ _).alloc (Nat.le_refl _) _).alloc (by simp) _).trans (hb1.out.mono (by simp; omega))
  have s3 : w1.cell? ⟨w.heap.size, 0, none⟩ = some (.pointer (some ⟨M.bx, 0, none⟩)) := (hb1.out.cell (p := ⟨w.heap.size, 0, none⟩) (by simp; omega)).trans ((cell_of_row _ _ 0 _ _ (0, 0) (first_new w _ _)).trans rfl)
  have s6 : w1.cell? ⟨w.heap.size + 1, 0, none⟩ = some (.int .i64 0) := (hb1.out.cell (p := ⟨w.heap.size + 1, 0, none⟩) (by simp)).trans ((cell_of_row _ _ 0 _ _ (0, 0) (second_new w _ _)).trans rfl)
  have s6f : w1.frozen? ⟨w.heap.size + 1, 0, none⟩ = false := (hb1.out.frozen (p := ⟨w.heap.size + 1, 0, none⟩) (by simp)).trans (frz_new (second_new w _ _) 0)
  have hbW : Below w.heap.size w (w1.alloc (Obj.cells #[Value.slice ao M.nC acap] 49)) := hbw.alloc hbw.size _
  have s7 := heap_alloc_new w1 (Obj.cells #[Value.slice ao M.nC acap] 49)
  have hown2 : w1.ownsRow (w.heap.size + 2) 79 3 (.slice ao M.nC acap) M.nC news := by have := hown.out; simpa using this
  have hownW := hown2.alloc (Obj.cells #[Value.slice ao M.nC acap] 49)
  have g67 : w.heap.size + 1 < w1.heap.size := by have := hb1.out.size; simp at this; omega
  replace s3 := cell_al s3 (Obj.cells #[Value.slice ao M.nC acap] 49)
  replace s6f := frozen_al s6f (by have := hb1.out.size; simp at this; omega) (Obj.cells #[Value.slice ao M.nC acap] 49)
  replace s6 := cell_al s6 (Obj.cells #[Value.slice ao M.nC acap] 49)
  generalize w1.alloc (Obj.cells #[Value.slice ao M.nC acap] 49) = W at *
  replace s7 : W.cell? ⟨w1.heap.size, 0, none⟩ = some (.slice ao M.nC acap) := (cell_of_row _ _ 0 _ _ (0, 0) s7).trans rfl
  have x0 := (hbW.cell (p := ⟨M.bx, 0, none⟩) hlx).trans c0
  have x1 := (hbW.cell (p := ⟨M.bx, 1, none⟩) hlx).trans c1
  have l3 := World.block_lt_of_cell? W _ s3
  have l6 := World.block_lt_of_cell? W _ s6
  have l7 := World.block_lt_of_cell? W _ s7
  have lxW := World.block_lt_of_cell? W _ x0
  have hx3 : M.bx < w.heap.size := hlx
  generalize hg7 : w1.heap.size = g7 at *
  generalize hg3 : w.heap.size = g3 at *
  clear hb1 hown hbw hown2
  refine wp_mono (Q := MidR W M v d g3 g7 bc ao acap) ?_ ?_
  · refine wp_region_held (S := fun w' => Below W.heap.size W w') (by kernel_rfl) ?_
    change wpAnyH _ _ _ _ _ _ _ _ (World.drew _)
    have hS0 : Below W.heap.size W W.drew := (Below.refl _ _).drew
    refine wpAnyH_take (i := 1) (v := .pointer (some ⟨M.bx, 0, none⟩)) rfl (by kernel_rfl) (by kernel_rfl) (by kernel_rfl) (fun _ _ _ h => by cases h.1) (Or.inl ⟨by rfl, fun w' hS => ?_⟩) hS0 ?_
    · have q := hS.cell (p := ⟨g3, 0, none⟩) l3
      rw [s3] at q
      go_simp
    refine wpAnyH_take (i := 2) (v := .pointer (some ⟨M.bx, 0, none⟩)) rfl (by kernel_rfl) (by kernel_rfl) (by kernel_rfl) (fun _ _ _ h => by cases h.1) (Or.inl ⟨by rfl, fun w' hS => ?_⟩) hS0 ?_
    · go_simp
    refine wpAnyH_take (i := 3) (v := .pointer (some ⟨M.bx, 1, none⟩)) rfl (by kernel_rfl) (by kernel_rfl) (by kernel_rfl) (fun _ _ _ h => by cases h.1) (Or.inl ⟨by rfl, fun w' hS => ?_⟩) hS0 ?_
    · go_simp
    refine wpAnyH_take (i := 4) (v := .slice (some ⟨M.bs, 0, none⟩) M.n M.cap) rfl (by kernel_rfl) (by kernel_rfl) (by kernel_rfl) (fun _ _ _ h => by cases h.1) (Or.inl ⟨by rfl, fun w' hS => ?_⟩) hS0 ?_
    · have q := hS.cell (p := ⟨M.bx, 1, none⟩) lxW
      rw [x1] at q
      go_simp
    refine wpAnyH_take (i := 5) (v := .pointer (some ⟨M.bx, 0, none⟩)) rfl (by kernel_rfl) (by kernel_rfl) (by kernel_rfl) (fun _ _ _ h => by cases h.1) (Or.inl ⟨by rfl, fun w' hS => ?_⟩) hS0 ?_
    · have q := hS.cell (p := ⟨g3, 0, none⟩) l3
      rw [s3] at q
      go_simp
    refine wpAnyH_take (i := 6) (v := .pointer (some ⟨M.bx, 0, none⟩)) rfl (by kernel_rfl) (by kernel_rfl) (by kernel_rfl) (fun _ _ _ h => by cases h.1) (Or.inl ⟨by rfl, fun w' hS => ?_⟩) hS0 ?_
    · go_simp
    refine wpAnyH_take (i := 7) (v := .pointer (some ⟨M.bx, 0, none⟩)) rfl (by kernel_rfl) (by kernel_rfl) (by kernel_rfl) (fun _ _ _ h => by cases h.1) (Or.inl ⟨by rfl, fun w' hS => ?_⟩) hS0 ?_
    · go_simp
    refine wpAnyH_take (i := 8) (v := .slice (some ⟨bc, 0, none⟩) M.nC M.nC) rfl (by kernel_rfl) (by kernel_rfl) (by kernel_rfl) (fun _ _ _ h => by cases h.1) (Or.inl ⟨by rfl, fun w' hS => ?_⟩) hS0 ?_
    · have q := hS.cell (p := ⟨M.bx, 0, none⟩) lxW
      rw [x0] at q
      go_simp
    refine wpAnyH_take (i := 9) (v := .int .i64 d) rfl (by kernel_rfl) (by kernel_rfl) (by kernel_rfl) (fun _ _ _ h => by cases h.1) (Or.inl ⟨by rfl, fun w' hS => ?_⟩) hS0 ?_
    · go_simp
    refine wpAnyH_all (rs := [0, 11]) (by kernel_rfl) (by simp) ?_
    intro i hi
    simp only [List.mem_cons, List.not_mem_nil, or_false] at hi
    rcases hi with rfl | rfl
    · refine stepH rfl (fun K hK => ?_)
      go_simp
      refine table_at _ _ ?_
      intro fv w2 hfv hb2
      have hS2 : Below W.heap.size W w2 := drew_below hb2
      have hfn := hd hfv.fn
      refine hK _ _ hS2 ?_
      clear hK K
      refine wpAnyH_take (i := 10) (v := .agg (runC (.slice (some ⟨M.bs, 0, none⟩) M.n M.cap) (.slice (some ⟨bc, 0, none⟩) M.nC M.nC) d fv)) rfl (by kernel_rfl) (by kernel_rfl) (by kernel_rfl) (fun _ _ _ h => by cases h.1) (Or.inl ⟨by rfl, fun w' _ => exec_build rfl (by simp [Act.eval]) (run_build_run _ _ _ _ _ _ d fv) w'⟩) hS2 ?_
      generalize hV : Value.agg (runC (.slice (some ⟨M.bs, 0, none⟩) M.n M.cap) (.slice (some ⟨bc, 0, none⟩) M.nC M.nC) d fv) = V
      refine wpAnyH_all (rs := [11]) (by kernel_rfl) (by simp) ?_
      intro i hi
      simp only [List.mem_cons, List.not_mem_nil, or_false] at hi
      subst hi
      refine stepH rfl (fun K hK => ?_)
      go_simp
      refine hK _ _ (hS2.alloc hS2.size _) ?_
      clear hK K
      have hpre : PreR W w2.heap.size fv (w2.alloc (.cells Tryz.zeroCells115 115)) := ⟨hS2.alloc hS2.size _, heap_alloc_new _ _, hS2.size, W.heap.size, w2, hfv, Nat.le_refl _, fun k hk hk2 => ⟨Below.heap_alloc _ _ _ hk2, by omega, by rw [World.size_alloc]; omega⟩⟩
      refine wpAnyH_all (rs := [12]) (by kernel_rfl) (by simp) ?_
      intro i hi
      simp only [List.mem_cons, List.not_mem_nil, or_false] at hi
      subst hi
      refine stepH rfl (fun K hK => ?_)
      rw [if_pos (by rfl)]
      refine wp_store_mid 115 _ _ rfl (w2.heap.size) 0 (runC (.slice (some ⟨M.bs, 0, none⟩) M.n M.cap) (.slice (some ⟨bc, 0, none⟩) M.nC M.nC) d fv) rfl hV.symm (by rw [runC_size]; exact there_of_block hpre.zero zeroRun_size) (by rw [runC_size]; exact infoRun) (runC_one _ _ _ _ _ _ d fv hfn.out) ?_
      refine hK _ _ (below_setCells hpre.le _ _ _ hpre.bel) ?_
      clear hK K
      refine wpAnyH_done (by kernel_rfl) ?_ _
      refine ⟨rfl, ?_⟩
      exact ⟨_, fv, _, V, hpre, rfl, rfl⟩
    · refine stepH rfl (fun K hK => ?_)
      go_simp
      refine hK _ _ (hS0.alloc (Nat.le_refl _) _) ?_
      clear hK K
      refine wpAnyH_all (rs := [0]) (by kernel_rfl) (by simp) ?_
      intro i hi
      simp only [List.mem_cons, List.not_mem_nil, or_false] at hi
      subst hi
      refine stepH rfl (fun K hK => ?_)
      go_simp
      refine table_at _ _ ?_
      intro fv w2 hfv hb2
      have hS2 : Below W.heap.size W w2 := (hS0.alloc (Nat.le_refl _) _).trans (hb2.mono (by simp))
      have hfn := hd hfv.fn
      refine hK _ _ hS2 ?_
      clear hK K
      refine wpAnyH_take (i := 10) (v := .agg (runC (.slice (some ⟨M.bs, 0, none⟩) M.n M.cap) (.slice (some ⟨bc, 0, none⟩) M.nC M.nC) d fv)) rfl (by kernel_rfl) (by kernel_rfl) (by kernel_rfl) (fun _ _ _ h => by cases h.1) (Or.inl ⟨by rfl, fun w' _ => exec_build rfl (by simp [Act.eval]) (run_build_run _ _ _ _ _ _ d fv) w'⟩) hS2 ?_
      generalize hV : Value.agg (runC (.slice (some ⟨M.bs, 0, none⟩) M.n M.cap) (.slice (some ⟨bc, 0, none⟩) M.nC M.nC) d fv) = V
      have hpre : PreR W W.heap.size fv w2 := ⟨hS2, (hb2.block W.heap.size (by simp)).trans (heap_alloc_new W.drew _), Nat.le_refl _, W.heap.size + 1, w2, by have := hfv; simpa using this, by omega, fun k hk hk2 => ⟨rfl, by omega, hk2⟩⟩
      refine wpAnyH_all (rs := [12]) (by kernel_rfl) (by simp) ?_
      intro i hi
      simp only [List.mem_cons, List.not_mem_nil, or_false] at hi
      subst hi
      refine stepH rfl (fun K hK => ?_)
      rw [if_pos (by rfl)]
      refine wp_store_mid 115 _ _ rfl (W.heap.size) 0 (runC (.slice (some ⟨M.bs, 0, none⟩) M.n M.cap) (.slice (some ⟨bc, 0, none⟩) M.nC M.nC) d fv) rfl hV.symm (by rw [runC_size]; exact there_of_block hpre.zero zeroRun_size) (by rw [runC_size]; exact infoRun) (runC_one _ _ _ _ _ _ d fv hfn.out) ?_
      refine hK _ _ (below_setCells hpre.le _ _ _ hpre.bel) ?_
      clear hK K
      refine wpAnyH_done (by kernel_rfl) ?_ _
      refine ⟨rfl, ?_⟩
      exact ⟨_, fv, _, V, hpre, rfl, rfl⟩
  · intro e0 a0 w0 hmid
    obtain ⟨e1, br, fv, X, V, hpre, ea, ew⟩ := hmid
    subst e1
    rw [ea, ew]
    clear ea ew
    have hbW' : Below w.heap.size w W := by rw [hg3]; exact hbW
    have hLW := h.out.below hbW'
    obtain ⟨K, hKe, hK, hF, hrs⟩ := start_ok hLW hpre hd1
    have hB2 : Below W.heap.size W (X.setCells br 0 (runC (.slice (some ⟨M.bs, 0, none⟩) M.n M.cap) (.slice (some ⟨bc, 0, none⟩) M.nC M.nC) d fv).toList) := below_setCells hpre.le _ _ _ hpre.bel
    have hsz2 : X.heap.size = (X.setCells br 0 (runC (.slice (some ⟨M.bs, 0, none⟩) M.n M.cap) (.slice (some ⟨bc, 0, none⟩) M.nC M.nC) d fv).toList).heap.size := by rw [sizeSetCells]
    have hle := hpre.le
    have hXs := hpre.bel.size
    generalize X.setCells br 0 (runC (.slice (some ⟨M.bs, 0, none⟩) M.n M.cap) (.slice (some ⟨bc, 0, none⟩) M.nC M.nC) d fv).toList = W2 at hKe hB2 hrs hsz2 ⊢
    clear hpre
    generalize Value.agg (tabC fv) = V14
    have t3 := (hB2.cell (p := ⟨g3, 0, none⟩) l3).trans s3
    have t6 := (hB2.cell (p := ⟨g3 + 1, 0, none⟩) l6).trans s6
    have t6f := (hB2.frozen (p := ⟨g3 + 1, 0, none⟩) l6).trans s6f
    have t7 := (hB2.cell (p := ⟨g7, 0, none⟩) l7).trans s7
    have z0 := (hB2.cell (p := ⟨M.bx, 0, none⟩) lxW).trans x0
    have hL2 := hLW.below hB2
    have hv2 := (hv.out.below hbW').below hB2
    have hnec := row_ne hL2.row hL2.cel (by decide)
    have hbsz := hB2.size
    clear x0 x1 s3 s6 s7 s6f
    replace hL2 := hd hL2
    replace hv2 := hd hv2
    replace hrs := hd hrs
    go_wp2_with (fail)
    refine layInputs_any _ M.bx bc M.nC M.nC M.rl M.kd C v l hnec hnC z0 hL2.out.cel hv2.out hfit.out _ ?_
    intro w3 ho3 ht3
    subst hKe
    have hrs3 := hrs.out.laid hK (C' := layL M.rl M.kd M.nC 0 l C) ho3 ht3 (layL_in _ _ _ _ hL2.out.hC)
    have hkk := hkw.out W2 br bc X.heap.size nmT fv d
    have hst := hkk.w.start
    have hgi : GI (mkK M W2 br bc X.heap.size nmT fv d) M.bd H L ⟨layL M.rl M.kd M.nC 0 l C, [], 0, false⟩ [] 0 := ⟨fun _ => ⟨0, [], rfl, hst.1, rfl, by rw [hkk.w.k.h0]; rfl, by rw [hst.2]; omega⟩, (fun h => (by cases h)), by omega⟩
    clear ho3 ht3
    replace hrs3 := hd hrs3
    replace hgi := hd hgi
    replace hkk := hd hkk
    go_wp2_with (fail)
    refine toEnd_any hK hF hkk.out hbd hrs3.out hgi.out _ ?_
    intro w4 q' S' dn e hrs4 hrun hd1' hd2
    obtain ⟨sv4, rv4, hm4, _, _⟩ := hrs4.ex
    have fr4 := hm4.fr
    have y116 := hm4.c116
    have hbr4 : br < w4.heap.size := hm4.run.lt
    have hlc' : bc < g3 := hlc
    have y3 := (World.cell?_of_block (a := ⟨g3, 0, none⟩) (fr4.block g3 (show g3 < X.heap.size by omega) (show g3 ≠ br by omega) (show g3 ≠ bc by omega))).trans t3
    have y6 := (World.cell?_of_block (a := ⟨g3 + 1, 0, none⟩) (fr4.block (g3 + 1) (show g3 + 1 < X.heap.size by omega) (show g3 + 1 ≠ br by omega) (show g3 + 1 ≠ bc by omega))).trans t6
    have y7 := (World.cell?_of_block (a := ⟨g7, 0, none⟩) (fr4.block g7 (show g7 < X.heap.size by omega) (show g7 ≠ br by omega) (show g7 ≠ bc by omega))).trans t7
    have yx := fr4.block M.bx (show M.bx < X.heap.size by omega) (show M.bx ≠ br by omega) hnec
    have hrow4 := hL2.out.row.of_block yx
    have m0 := hrow4.cell (i := 0) (by omega)
    have m3 := hrow4.cell (i := 3) (by omega)
    have m4 := hrow4.cell (i := 4) (by omega)
    have mf := hrow4.frozen
    have f6 := (World.frozen?_of_block (a := ⟨g3 + 1, 0, none⟩) (fr4.block (g3 + 1) (show g3 + 1 < X.heap.size by omega) (show g3 + 1 ≠ br by omega) (show g3 + 1 ≠ bc by omega))).trans t6f
    replace hrs4 := hd hrs4
    replace hrow4 := hd hrow4
    replace fr4 := hd fr4
    replace hrun := hd hrun
    clear hm4
    go_wp2
    have o : ∀ {a : Addr} {u : Value}, w4.cell? a = some u → a.block ≠ g3 + 1 → (w4.setCell ⟨g3 + 1, 0, none⟩ (.int .i64 e)).cell? a = some u := fun {a u} ha hne => by rw [World.cell?_setCell_other _ _ _ _ (by intro ee; apply hne; rw [← ee])]; exact ha
    have q6 := World.cell?_setCell_same w4 ⟨g3 + 1, 0, none⟩ (.int .i64 e) y6
    have q116 := o y116 (show br ≠ g3 + 1 by omega)
    have q3 := o y3 (show g3 ≠ g3 + 1 by omega)
    have q7 := o y7 (show g7 ≠ g3 + 1 by omega)
    have n0 := o m0 (show M.bx ≠ g3 + 1 by omega)
    have n3 := o m3 (show M.bx ≠ g3 + 1 by omega)
    have n4 := o m4 (show M.bx ≠ g3 + 1 by omega)
    have hrow5 := hrow4.out.setOther (a := ⟨g3 + 1, 0, none⟩) (show M.bx ≠ g3 + 1 by omega) (.int .i64 e)
    have hrunM := hd (show runM M w d (layL M.rl M.kd M.nC 0 l C) = (q', dn, e) by unfold runM; rw [runK_M M w W2 0 br 0 bc 0 X.heap.size nmT nmT _ fv d]; exact hrun.out)
    obtain ⟨sv5, rv5, hm5, _, _⟩ := hrs4.out.ex
    have hcel5 := hd (hm5.cel.setOther (a := ⟨g3 + 1, 0, none⟩) (show bc ≠ g3 + 1 by omega) (.int .i64 e))
    have hst4 := hm5.steps hK
    have hnes := row_ne hL2.out.row hL2.out.steps (by decide)
    have hlts : M.bs < g3 := by rw [← hg3]; exact h.out.steps.lt
    have hsteps5 := hd (hst4.setOther (a := ⟨g3 + 1, 0, none⟩) (show M.bs ≠ g3 + 1 by omega) (.int .i64 e))
    have hT5 := hd (show Twain M.bx bc g3 w (w4.setCell ⟨g3 + 1, 0, none⟩ (.int .i64 e)) from ⟨(fr4.out.os.trans hB2.os).trans hbW.os, (fr4.out.tape.trans hB2.tape).trans hbW.tape, (fr4.out.output.trans hB2.output).trans hbW.output, by rw [World.size_setCell]; have := fr4.out.size; exact Nat.le_trans (show g3 ≤ X.heap.size by omega) this, fun k hk h1 h2 => by
      rw [Below.heap_setCell _ _ _ _ (show k ≠ g3 + 1 by omega)]
      exact ((fr4.out.block k (show k < X.heap.size by omega) (show k ≠ br by omega) h2).trans (hB2.block k (by omega))).trans (hbW.block k hk)⟩)
    clear hm5 hst4
    refine leaves_cons (f := 51) (args := #[.pointer (some ⟨br, 0, none⟩), .pointer (some ⟨g3, 0, none⟩), .pointer (some ⟨g3 + 1, 0, none⟩), .pointer (some ⟨g7, 0, none⟩)]) (by simp) (by simp [go_sem]) ?_
    by_cases he : e = 0
    · subst he
      refine (left_ok _ br M.bx g3 (g3 + 1) g7 dn dn0 _ q116 q3 q6 n3 (hrow5.frozen 3)).mono ?_
      rintro ed u' w6 ⟨rfl, rfl, rfl⟩
      have r6 : ((w4.setCell ⟨g3 + 1, 0, none⟩ (.int .i64 0)).setCell ⟨M.bx, 3, none⟩ (.int .i64 dn)).cell? ⟨g3 + 1, 0, none⟩ = some (.int .i64 0) := by rw [World.cell?_setCell_other _ _ _ _ (by intro ee; injection ee; omega)]; exact q6
      simp [Leaves, settle, results, Tryz.results28, go_sem, r6]
      refine ok.out _ q' dn hrunM.out ⟨(hrow5.set 3 _).congr (fun i hi => ?_), (hcel5.out.setOther (a := ⟨M.bx, 3, none⟩) (Ne.symm hnec) _), (hsteps5.out.setOther (a := ⟨M.bx, 3, none⟩) (Ne.symm hnes) _), hrs4.out.hC, hL2.out.n, hL2.out.nC⟩ (hT5.out.setB _ _) hd1' hd2
      have hc : i = 0 ∨ i = 1 ∨ i = 2 ∨ i = 3 ∨ i = 4 := by omega
      rcases hc with rfl | rfl | rfl | rfl | rfl <;> rfl
    · refine (left_err _ br M.bx g3 (g3 + 1) g7 dn dn0 e 0 (.slice ao M.nC acap) (.slice (some ⟨bc, 0, none⟩) M.nC M.nC) _ q116 q3 q6 he n3 n0 n4 q7 ⟨_, _, _, rfl⟩ hrow5.frozen).mono ?_
      rintro ed u' w6 ⟨rfl, rfl, rfl⟩
      have r6 : ((((w4.setCell ⟨g3 + 1, 0, none⟩ (.int .i64 e)).setCell ⟨M.bx, 3, none⟩ (.int .i64 dn)).setCell ⟨M.bx, 0, none⟩ (.slice ao M.nC acap)).setCell ⟨M.bx, 4, none⟩ (.int .i64 e)).cell? ⟨g3 + 1, 0, none⟩ = some (.int .i64 e) := by
        rw [World.cell?_setCell_other _ _ _ _ (by intro ee; injection ee; omega), World.cell?_setCell_other _ _ _ _ (by intro ee; injection ee; omega), World.cell?_setCell_other _ _ _ _ (by intro ee; injection ee; omega)]; exact q6
      simp [Leaves, settle, results, Tryz.results28, go_sem, r6]
      refine err.out _ q' dn e (.slice ao M.nC acap) hrunM.out he ⟨(((hrow5.set 3 _).set 0 _).set 4 _).congr (fun i hi => ?_), ?_, h.out.hC, he⟩ (fun b k c eq => by injection eq with e1 _ _; subst e1; have := (hownW.lt b rfl).1; omega) (((hT5.out.setB _ _).setB _ _).setB _ _) hd1' hd2
      · have hc : i = 0 ∨ i = 1 ∨ i = 2 ∨ i = 3 ∨ i = 4 := by omega
        rcases hc with rfl | rfl | rfl | rfl | rfl <;> rfl
      · by_cases h0 : M.nC = 0
        · exact .inr ⟨h0, ao, acap, by rw [h0]⟩
        · obtain ⟨bq, cq, eq, hbq, htq⟩ := own_tab hownW (by omega) hnews.out
          injection eq with e1 e2 e3
          subst e1; subst e3
          have hbql := htq.lt
          refine .inl ⟨bq, _, rfl, htq.of_block ?_⟩
          rw [Below.heap_setCell _ _ _ _ (show bq ≠ M.bx by omega), Below.heap_setCell _ _ _ _ (show bq ≠ M.bx by omega), Below.heap_setCell _ _ _ _ (show bq ≠ M.bx by omega), Below.heap_setCell _ _ _ _ (show bq ≠ g3 + 1 by omega)]
          exact (fr4.out.block bq (show bq < X.heap.size by omega) (show bq ≠ br by omega) (show bq ≠ bc by omega)).trans (hB2.block bq hbql)

end Go.Proofs.YtidhiaaicmfabaaGreat

/- Scan, Outputs and Steps. -/
namespace Go.Proofs.YtidhiaaicmfabaaGreat
open Go.RowKit Go.Proofs Go.Deep

theorem steps_any (w : World) (bx : Nat) (dn : Int) (h : w.cell? ⟨bx, 3, none⟩ = some (.int .i64 dn)) (R : Ending → World → Prop) (fin : R (.returned (.int .i64 dn)) w) :
    Calls Tryz.prog 13 #[.pointer (some ⟨bx, 0, none⟩)] w R := by
  replace fin := hd fin
  go_enter Tryz.func13, Tryz.ntmps13
  go_wp2
  exact cl1 fin.out rfl
theorem Twain.first {b c base base' : Nat} {w w1 w' : World} (h : Twain b c base' w1 w') (hb : Below base w w1) (hle : base ≤ base') : Twain b c base w w' :=
  ⟨h.os.trans hb.os, h.tape.trans hb.tape, h.output.trans hb.output, Nat.le_trans hle h.size, fun k hk h1 h2 => (h.block k (by omega) h1 h2).trans (hb.block k hk)⟩
theorem runM_w (M : Md) (w w1 : World) (d : Int) (C : Nat → Int) : runM M w d C = runM M w1 d C := by unfold runM; rw [runK_M M w w1 0 0 0 0 0 0 nmT nmT _ _ d]
set_option maxRecDepth 100000 in
set_option maxHeartbeats 1000000 in
theorem scan_full (w : World) (M : Md) (bc : Nat) (C : Nat → Int) (dn0 : Int) (h : Live M bc C dn0 w) (v : Value) (l : List Int) (d : Int) (hv : InpAt bc w v l) {To : Nat → Nat} {H L : Nat → Int} (hkw : ∀ w0 br bc base nm fv d, KW (mkK M w0 br bc base nm fv d) To M.bd H L) (hbd : M.bd ≤ 200000) (R : Ending → World → Prop)
    (bad : (fitsL M.rl M.kd M.nC 0 l = false ∨ d < 0 ∨ 1000000 < d) → ∀ w', Below w.heap.size w w' → R (.returned (.int .i64 3)) w')
    (ok : fitsL M.rl M.kd M.nC 0 l = true → 0 ≤ d ∧ d ≤ 1000000 → ∀ w' q' dn, runM M w d (layL M.rl M.kd M.nC 0 l C) = (q', dn, 0) → Live M bc q'.C dn w' → Twain M.bx bc w.heap.size w w' → 1 ≤ dn → dn ≤ M.bd → R (.returned (.int .i64 0)) w')
    (err : fitsL M.rl M.kd M.nC 0 l = true → 0 ≤ d ∧ d ≤ 1000000 → ∀ w' q' dn e cv, runM M w d (layL M.rl M.kd M.nC 0 l C) = (q', dn, e) → e ≠ 0 → Dead M cv C dn e w' → (∀ b k c, cv = .slice (some ⟨b, 0, none⟩) k c → w.heap.size ≤ b) → Twain M.bx bc w.heap.size w w' → 1 ≤ dn → dn ≤ M.bd → R (.returned (.int .i64 e)) w') :
    Calls Tryz.prog 11 #[.pointer (some ⟨M.bx, 0, none⟩), v, .int .i64 d] w R := by
  have c0 := h.row.cell (i := 0) (by omega)
  have c4 := h.row.cell (i := 4) (by omega)
  rw [show machF M (.slice (some ⟨bc, 0, none⟩) M.nC M.nC) dn0 0 0 = .slice (some ⟨bc, 0, none⟩) M.nC M.nC from rfl] at c0
  rw [show machF M (.slice (some ⟨bc, 0, none⟩) M.nC M.nC) dn0 0 4 = .int .i64 0 from rfl] at c4
  replace bad := hd bad
  replace ok := hd ok
  replace err := hd err
  replace hkw := hd hkw
  replace h := hd h
  replace hv := hd hv
  go_enter Tryz.func11, Tryz.ntmps11
  go_wp2_with (fail)
  refine takes_any _ M.bx bc M.nC M.nC M.rl M.kd C v l h.out.nC c0 h.out.cel hv.out _ ?_
  intro w1 hb1
  have hL1 := hd (h.out.below hb1)
  have hv1 := hd (hv.out.below hb1)
  replace hb1 := hd hb1
  by_cases hf : fitsL M.rl M.kd M.nC 0 l = true
  · rw [hf]
    by_cases d1 : d < 0
    · have t1 : decide (d < 0) = true := by simpa using d1
      replace hf := hd hf
      go_wp2
      exact cl1 (bad.out (.inr (.inl d1)) _ hb1.out) rfl
    · have t1 : decide (d < 0) = false := by simpa using d1
      by_cases d2 : 1000000 < d
      · have t2 : decide (1000000 < d) = true := by simpa using d2
        replace hf := hd hf
        go_wp2
        exact cl1 (bad.out (.inr (.inr d2)) _ hb1.out) rfl
      · have t2 : decide (1000000 < d) = false := by simpa using d2
        replace hf := hd hf
        go_wp2_with (fail)
        refine runOnce_full _ M bc C dn0 hL1.out v l d hv1.out hf.out ⟨by omega, by omega⟩ hkw.out hbd _ ?_ ?_
        · intro w' q' dn hr hl ht h1 h2
          have hfin := hd (ok.out hf.out ⟨by omega, by omega⟩ w' q' dn (by rw [runM_w M w w1]; exact hr) hl (ht.first hb1.out hb1.out.size) h1 h2)
          clear hl ht hr
          go_wp2
          exact cl1 hfin.out rfl
        · intro w' q' dn e cv hr he hl hcv ht h1 h2
          have hfin := hd (err.out hf.out ⟨by omega, by omega⟩ w' q' dn e cv (by rw [runM_w M w w1]; exact hr) he hl (fun b k c eq => Nat.le_trans hb1.out.size (hcv b k c eq)) (ht.first hb1.out hb1.out.size) h1 h2)
          clear hl ht hr
          go_wp2
          exact cl1 hfin.out rfl
  · have hf' : fitsL M.rl M.kd M.nC 0 l = false := by simpa using hf
    rw [hf']
    go_wp2
    exact cl1 (bad.out (.inl hf') _ hb1.out) rfl
theorem scan_any (w : World) (M : Md) (bc : Nat) (C : Nat → Int) (dn0 : Int) (h : Live M bc C dn0 w) (v : Value) (l : List Int) (d : Int) (hv : InpAt bc w v l) {To : Nat → Nat} {H L : Nat → Int} (hkw : ∀ w0 br bc base nm fv d, KW (mkK M w0 br bc base nm fv d) To M.bd H L) (hbd : M.bd ≤ 200000) (R : Ending → World → Prop)
    (bad : (fitsL M.rl M.kd M.nC 0 l = false ∨ d < 0 ∨ 1000000 < d) → ∀ w', Below w.heap.size w w' → R (.returned (.int .i64 3)) w')
    (ok : fitsL M.rl M.kd M.nC 0 l = true → 0 ≤ d ∧ d ≤ 1000000 → ∀ w' q' dn, runM M w d (layL M.rl M.kd M.nC 0 l C) = (q', dn, 0) → Live M bc q'.C dn w' → Twain M.bx bc w.heap.size w w' → 1 ≤ dn → dn ≤ M.bd → R (.returned (.int .i64 0)) w')
    (err : fitsL M.rl M.kd M.nC 0 l = true → 0 ≤ d ∧ d ≤ 1000000 → ∀ w' q' dn e cv, runM M w d (layL M.rl M.kd M.nC 0 l C) = (q', dn, e) → e ≠ 0 → Dead M cv C dn e w' → Twain M.bx bc w.heap.size w w' → 1 ≤ dn → dn ≤ M.bd → R (.returned (.int .i64 e)) w') :
    Calls Tryz.prog 11 #[.pointer (some ⟨M.bx, 0, none⟩), v, .int .i64 d] w R :=
  scan_full w M bc C dn0 h v l d hv hkw hbd R bad ok (fun hf hd w' q' dn e cv hr he hl _ ht h1 h2 => err hf hd w' q' dn e cv hr he hl ht h1 h2)
theorem scan_dead (w : World) (M : Md) (cv : Value) (C : Nat → Int) (dn e : Int) (h : Dead M cv C dn e w) (v : Value) (d : Int) (R : Ending → World → Prop) (fin : R (.returned (.int .i64 e)) w) :
    Calls Tryz.prog 11 #[.pointer (some ⟨M.bx, 0, none⟩), v, .int .i64 d] w R := by
  have c4 := h.row.cell (i := 4) (by omega)
  rw [show machF M cv dn e 4 = .int .i64 e from rfl] at c4
  have te : (e != 0) = true := by simpa using h.ne
  replace fin := hd fin
  clear h
  go_enter Tryz.func11, Tryz.ntmps11
  go_wp2
  exact cl1 fin.out rfl
/-- What the cells of a role have, in their order. -/
def outsL (rl : Nat → Nat) (C : Nat → Int) : Nat → List Int
  | 0 => []
  | k + 1 => if rl k = 1 then C k :: outsL rl C k else outsL rl C k
theorem outsL_len (rl : Nat → Nat) (C : Nat → Int) : ∀ k, (outsL rl C k).length ≤ k
  | 0 => by simp [outsL]
  | k + 1 => by have := outsL_len rl C k; unfold outsL; split <;> simp <;> omega
set_option maxRecDepth 100000 in
set_option maxHeartbeats 1000000 in
theorem outputs_any (w : World) (bx bc nC cap : Nat) (rl kd : Nat → Nat) (C : Nat → Int) (hn : nC ≤ 100) (hC : ∀ j, in32 (C j)) (hx : w.cell? ⟨bx, 0, none⟩ = some (.slice (some ⟨bc, 0, none⟩) nC cap)) (ht : Tab w bc 79 3 nC cap (cellV rl kd C)) (R : Ending → World → Prop)
    (fin : ∀ v w', Below w.heap.size w w' → w'.ownsRow w.heap.size 3 1 v (outsL rl C nC).length (i64L (outsL rl C nC)) → R (.returned v) w') :
    Calls Tryz.prog 12 #[.pointer (some ⟨bx, 0, none⟩)] w R := by
  replace fin := hd fin
  replace ht := hd ht
  replace hC := hd hC
  have hbc := ht.out.lt
  go_enter Tryz.func12, Tryz.ntmps12
  go_wp2
  go_loopw [3, 11] (fun v i wr => ∃ (k : Nat), k ≤ nC ∧ i = .int .i64 k ∧ wr.ownsRow w.heap.size 3 1 v (outsL rl C k).length (i64L (outsL rl C k)) ∧ Below w.heap.size w wr) (fun _ i _ => nC - (intOf i).toNat)
  case atStart => exact ⟨0, by omega, rfl, World.ownsRow_nil _ _ _ _, Below.refl _ _⟩
  case round =>
    rename_i u3 u11
    obtain ⟨k, hk, rfl, hown, hbel⟩ := hrel
    obtain ⟨ao, cp, rfl⟩ := own_sl hown
    have hlen := outsL_len rl C k
    by_cases hlt : k < nC
    · have htr := ht.out.of_block (w' := wr) (hbel.block bc hbc)
      have k0 := htr.cell0 hlt (by omega)
      have k1 := htr.cell hlt (f := 1) (by omega)
      have k2 := htr.cell hlt (f := 2) (by omega)
      rw [cellV_0] at k0
      rw [cellV_1] at k1
      rw [cellV_2] at k2
      have hbr := htr.lt
      have hCk := hC.out k
      unfold in32 at hCk
      have hwr := hbel.size
      clear htr
      replace hbel := hd hbel
      by_cases h1 : rl k = 1
      · have t1 : ((rl k : Int) == 1) = true := by simp [h1]
        have ho : outsL rl C (k + 1) = C k :: outsL rl C k := by simp [outsL, h1]
        replace ho := hd ho
        replace h1 := hd h1
        replace hown := hd hown
        go_wp2_with (first | (at_builtin; refine wpList_app _ rfl _ _ 42 rfl w.heap.size 3 _ 1 8 ulInt infoI64 rfl (by decide) _ _ _ rfl (by exact (hown.out.alloc _).alloc _) _ 1 1 [.int .i64 (C k)] rfl (by exact alloc_at (by simp)) rfl (oneI64 _) (by unfold maxLen; omega) (by omega) (by simp; omega) ?_; intro v1 w1 hown1 hgr1; obtain ⟨ao1, cp1, rfl⟩ := own_sl hown1; replace hown1 := hd hown1; replace hgr1 := hd hgr1))
        refine ⟨⟨k + 1, by omega, by go_num, by rw [ho.out, i64L_cons]; exact hown1.out, ?_⟩, by simp [intOf]; omega⟩
        exact ((hbel.out.alloc hwr _).alloc (by simp; omega) _).grown hgr1.out (by simp; omega) (fun k hk => (hown.out.lt k hk).1)
      · have t1 : ((rl k : Int) == 1) = false := by simp; omega
        have ho : outsL rl C (k + 1) = outsL rl C k := by simp [outsL, h1]
        replace ho := hd ho
        replace hown := hd hown
        go_wp2
        exact ⟨⟨k + 1, by omega, by go_num, by rw [ho.out]; exact hown.out.alloc _, hbel.out.alloc hwr _⟩, by simp [intOf]; omega⟩
    · have hkn : k = nC := by omega
      subst hkn
      replace hown := hd hown
      replace hbel := hd hbel
      go_wp2
      exact cl1 (fin.out _ _ hbel.out hown.out) rfl

end Go.Proofs.YtidhiaaicmfabaaGreat

/- Load gives a machine with all that its image says. -/
namespace Go.Proofs.YtidhiaaicmfabaaGreat
open Go.RowKit Go.Proofs Go.Deep

def mdFull (OP AT : Nat → Nat) (AR CN : Nat → Int) (RL KD : Nat → Nat) (nC n cap bs bx : Nat) (To' : Nat → Int) (bd : Int) : Md := ⟨n, cap, nC, bs, bx, OP, AT, AR, CN, inOf OP, To', RL, KD, bd⟩
set_option maxRecDepth 100000 in
set_option maxHeartbeats 2000000 in
theorem load_full (w : World) (s : ByteArray) (hs : s.size ≤ maxLen) (R : Ending → World → Prop)
    (bad : (∀ bd, ¬ imgOk s bd) → ∀ w', Below w.heap.size w w' → R (.returned (.tuple #[.pointer none, .int .i64 1])) w')
    (long : ∀ bd, imgOk s bd → 200000 < bd → ∀ w', Below w.heap.size w w' → R (.returned (.tuple #[.pointer none, .int .i64 2])) w')
    (good : ∀ bd l, imgOk s bd → bd ≤ 200000 → posF (codeOf s) ((codeOf s).size + 1) 0 = some l → ∀ cap bs bx bc To' H L w', Below w.heap.size w w' → w.heap.size ≤ bx → w.heap.size ≤ bs → w.heap.size ≤ bc →
      Live (mdFull (opL (codeOf s) l) (atL l) (argL (codeOf s) l) (cntL (codeOf s) l) (fun i => bt s (7 + i) / 3) (fun i => bt s (7 + i) % 3) (bt s 6) l.length cap bs bx To' bd) bc (fun _ => 0) 0 w' →
      (∀ w0 br bc base nm fv d, KW (mkK (mdFull (opL (codeOf s) l) (atL l) (argL (codeOf s) l) (cntL (codeOf s) l) (fun i => bt s (7 + i) / 3) (fun i => bt s (7 + i) % 3) (bt s 6) l.length cap bs bx To' bd) w0 br bc base nm fv d) (toL (atL l) (opL (codeOf s) l) (nL (codeOf s) l) l.length) bd H L) →
      R (.returned (.tuple #[.pointer (some ⟨bx, 0, none⟩), .int .i64 0])) w') :
    Calls Tryz.prog 5 #[.string s] w R := by
  replace bad := hd bad
  replace long := hd long
  replace good := hd good
  go_enter Tryz.func5, Tryz.ntmps5
  go_wp2_with (fail)
  refine readImage_any _ _ hs _ ?_ ?_
  · intro hno a n c a' n' c' w1 hb1
    have hb1s := hb1.size
    replace hno := hd hno
    replace hb1 := hd hb1
    go_wp2
    exact cl1 (bad.out hno.out _ (hb1.out.alloc hb1s _)) rfl
  · intro hh hsr hsz l hl bc v w1 hb1 hbc htab hown hlt
    have hii := hd (fun bd => (img_iff (bd := bd) hh hsr hsz hl).trans (code_iff s (codeOf s) (bt s 6) l bd))
    obtain ⟨p1, p2, p3⟩ := posF_facts _ _ _ _ hl
    have h100 := hh.2.2.1
    have hlen : l.length ≤ 8000 := by
      have := hsz.1
      have := hsz.2
      have e : (codeOf s).size = s.size - (9 + bt s 6) := by unfold codeOf; rw [ByteArray.size_extract]; omega
      omega
    obtain ⟨sa, cap, rfl⟩ := own_sl hown
    have hb1s := hb1.size
    have hsteps : 0 < l.length → ∃ bs, w.heap.size ≤ bs ∧ sa = some ⟨bs, 0, none⟩ ∧ Tab w1 bs 121 6 l.length cap (stepA (opL (codeOf s) l) (atL l) (argL (codeOf s) l) (cntL (codeOf s) l) (fun _ => 0) (fun _ => 0)) := fun h0 => by
      obtain ⟨b, cap', e, hb, ht⟩ := own_tab hown h0 (fun i hi f hf => flat_st (codeOf s) l i f hi hf)
      injection e with e1 e2 e3
      subst e3
      exact ⟨b, hb, e1, ht⟩
    obtain ⟨bs, hbs, hsa⟩ : ∃ bs, w.heap.size ≤ bs ∧ (0 < l.length → sa = some ⟨bs, 0, none⟩ ∧ Tab w1 bs 121 6 l.length cap (stepA (opL (codeOf s) l) (atL l) (argL (codeOf s) l) (cntL (codeOf s) l) (fun _ => 0) (fun _ => 0))) := by
      rcases Nat.eq_zero_or_pos l.length with h0 | h0
      · exact ⟨w.heap.size, Nat.le_refl _, fun h => by omega⟩
      · obtain ⟨bs, a, b, c⟩ := hsteps h0
        exact ⟨bs, a, fun _ => ⟨b, c⟩⟩
    clear hsteps
    have hbsl : 0 < l.length → bs < w1.heap.size := fun h => (hsa h).2.lt
    have hgood := hd (fun bd (hi : imgOk s bd) (hle : bd ≤ 200000) => good.out bd l hi hle hl)
    have hcC := hd (show ∀ i, (opL (codeOf s) l i = 2 ∨ opL (codeOf s) l i = 3 ∨ opL (codeOf s) l i = 21 ∨ opL (codeOf s) l i = 4 ∨ opL (codeOf s) l i = 5) → 0 ≤ argL (codeOf s) l i from fun i h => (vArg_bd _ _ h).2.1)
    have hcN := hd (show ∀ i, (opL (codeOf s) l i = 4 ∨ opL (codeOf s) l i = 5) → 0 ≤ cntL (codeOf s) l i from fun i h => (vCnt_bd _ _ h).2.1)
    clear good
    replace hbsl := hd hbsl
    replace hsa := hd hsa
    replace htab := hd htab
    replace hown := hd hown
    replace hb1 := hd hb1
    replace p2 := hd p2
    replace p3 := hd p3
    replace hl := hd hl
    replace hh := hd hh
    replace hsr := hd hsr
    replace hsz := hd hsz
    generalize hnC : bt s 6 = nC at *
    replace hnC := hd hnC
    go_wp2_with (fail)
    refine settle_any _ bc nC nC bs l.length cap _ _ sa (opL (codeOf s) l) (atL l) (argL (codeOf s) l) (cntL (codeOf s) l) _ _ h100 hlen p3.out (fun i hi h => (vArg_bd _ _ h).2) (fun i hi h => (vCnt_bd _ _ h).2) (htab.out.alloc _) (fun h => ⟨(hsa.out h).1, (hsa.out h).2.alloc _⟩) _ ?_ ?_
    · intro hno w2 ho2
      have hbad := hd (show ∀ bd, ¬ imgOk s bd from fun bd h => hno ((hii.out bd).1 h).1)
      have hbel2 := hd ((hb1.out.alloc hb1s _).trans (ho2.below hbs (by simp; omega)))
      clear hno ho2
      go_wp2
      exact cl1 (bad.out hbad.out _ hbel2.out) rfl
    · intro hok To' hTo w2 ho2 ht2
      have hn0 := hok.2.1.1
      have hsa0 := (hsa.out hn0).1
      subst hsa0
      have hbsl0 := hbsl.out hn0
      have hbel2 := (hb1.out.alloc hb1s (.cells #[.slice (some ⟨bc, 0, none⟩) nC nC, .slice (some ⟨bs, 0, none⟩) l.length cap] 52)).trans (ho2.below hbs (by simp; omega))
      have c0 : w2.cell? ⟨w1.heap.size, 0, none⟩ = some (.slice (some ⟨bc, 0, none⟩) nC nC) := (ho2.cell (p := ⟨w1.heap.size, 0, none⟩) (by simp) (by simp; omega)).trans ((cell_of_row _ _ 0 _ _ (0, 0) (heap_alloc_new w1 _)).trans rfl)
      have c1 : w2.cell? ⟨w1.heap.size, 1, none⟩ = some (.slice (some ⟨bs, 0, none⟩) l.length cap) := (ho2.cell (p := ⟨w1.heap.size, 1, none⟩) (by simp) (by simp; omega)).trans ((cell_of_row _ _ 1 _ _ (0, 0) (heap_alloc_new w1 _)).trans rfl)
      have hlt2 : w1.heap.size < w2.heap.size := by have := ho2.size; simp at this; omega
      have hbs2 := hbel2.size
      have hgo := hd (fun bd => (hii.out bd).trans (show (SetOk _ _ nC l.length (opL (codeOf s) l) (atL l) (argL (codeOf s) l) (cntL (codeOf s) l) ∧ _) ↔ _ from ⟨fun h => h.2, fun h => ⟨hok, h⟩⟩))
      replace hbel2 := hd hbel2
      replace ho2 := hd ho2
      replace hTo := hd hTo
      replace ht2 := hd ht2
      replace hok := hd hok
      have q1 : ∀ i, i < l.length → opL (codeOf s) l i < 22 := fun i hi => osz_lt (p2.out i hi).2.2
      have q2 : ∀ i, i < l.length → opL (codeOf s) l i = 19 → 1 ≤ argL (codeOf s) l i ∧ argL (codeOf s) l i ≤ 65535 := fun i hi h => by
        have a1 := (hok.out.1 i hi).2.2.2.2 h
        have a2 := (vArg_jmp (codeOf s) (atL l i) (.inr (.inr h))).2.2
        exact ⟨a1, a2⟩
      have q3 : ∀ i, i < l.length → (opL (codeOf s) l i = 17 ∨ opL (codeOf s) l i = 18) → To' i = (toL (atL l) (opL (codeOf s) l) (nL (codeOf s) l) l.length i : Int) ∧ i < toL (atL l) (opL (codeOf s) l) (nL (codeOf s) l) l.length i ∧ toL (atL l) (opL (codeOf s) l) (nL (codeOf s) l) l.length i < l.length := fun i hi h => by
        obtain ⟨t, e, hJ⟩ := hTo.out i hi h
        have hne : opL (codeOf s) l i ≠ 20 := by rcases h with h | h <;> omega
        have ea : argL (codeOf s) l i = nL (codeOf s) l i := (vArg_jmp (codeOf s) (atL l i) (by rcases h with h | h; exact .inl h; exact .inr (.inl h))).1
        have hJ' : JumpOk (atL l) (opL (codeOf s) l) (nL (codeOf s) l) l.length i t := (jump_arg ea).1 hJ
        have et : toL (atL l) (opL (codeOf s) l) (nL (codeOf s) l) l.length i = t := by unfold toL; rw [if_neg hne]; exact tgt_eq hJ'
        rw [et]
        exact ⟨e, hJ.2.1, hJ.2.2.1⟩
      have q4 : ∀ i, i < l.length → opL (codeOf s) l i = 20 → inOf (opL (codeOf s) l) i = (toL (atL l) (opL (codeOf s) l) (nL (codeOf s) l) l.length i : Int) ∧ toL (atL l) (opL (codeOf s) l) (nL (codeOf s) l) l.length i < i ∧ opL (codeOf s) l (toL (atL l) (opL (codeOf s) l) (nL (codeOf s) l) l.length i) = 19 := fun i hi h => by
        obtain ⟨f, e1, e2, e3⟩ := for_of hok.out.2.2.1 hi h
        have et : toL (atL l) (opL (codeOf s) l) (nL (codeOf s) l) l.length i = f := by unfold toL; rw [if_pos h, e1]; omega
        rw [et]
        exact ⟨e1, e2, e3⟩
      have q5 := hok.out.2.1.2.1
      have q6 := hok.out.2.1.2.2
      generalize toL (atL l) (opL (codeOf s) l) (nL (codeOf s) l) l.length = TT at *
      generalize opL (codeOf s) l = OP at *
      generalize argL (codeOf s) l = AR at *
      generalize cntL (codeOf s) l = CN at *
      generalize atL l = AT at *
      replace q1 := hd q1
      replace q2 := hd q2
      replace q3 := hd q3
      replace q4 := hd q4
      replace q5 := hd q5
      replace q6 := hd q6
      go_wp2_with (fail)
      refine findBound_any _ bs l.length cap OP AT TT AR CN _ _ hlen hn0 ht2.out q1.out q5.out q6.out q3.out q4.out q2.out _ ?_ ?_
      · intro hX x w3 hb3
        have hbad := hd (show ∀ bd, ¬ imgOk s bd from fun bd h => by have := (hgo.out bd).1 h; rw [hX] at this; cases this)
        have hbel3 := hd (bel_step hbel2.out (Nat.le_refl _) hb3)
        clear hX hb3
        go_wp2
        exact cl1 (bad.out hbad.out _ hbel3.out) rfl
      · intro bd hX w3 hb3
        have himg := hd ((hgo.out bd).2 hX)
        have c30 := (hb3.cell (p := ⟨w1.heap.size, 0, none⟩) hlt2).trans c0
        have c31 := (hb3.cell (p := ⟨w1.heap.size, 1, none⟩) hlt2).trans c1
        have hbel3 := bel_step hbel2.out (Nat.le_refl _) hb3
        have hs3 := hbel3.size
        have hlt3 := Nat.lt_of_lt_of_le hlt2 hb3.size
        replace hbel3 := hd hbel3
        replace hb3 := hd hb3
        replace hX := hd hX
        by_cases hlong : 200000 < bd
        · have em : min bd 200001 = 200001 := by omega
          rw [em]
          go_wp2
          exact cl1 (long.out bd himg.out hlong _ hbel3.out) rfl
        · have em : min bd 200001 = bd := by omega
          rw [em]
          have dl : decide ((200000 : Int) < bd) = false := by simpa using hlong
          go_wp2
          obtain ⟨H, L, hkn⟩ := known_of (fun i hi h => (q3.out i hi h).2.1) (fun i hi h => (q4.out i hi h).2.1) hX.out
          have hnebc := tab_ne htab.out (hsa.out hn0).2 (by decide)
          have ht3 := (((htab.out.alloc (.cells #[.slice (some ⟨bc, 0, none⟩) nC nC, .slice (some ⟨bs, 0, none⟩) l.length cap] 52)).of_block (w' := w2) (ho2.out.block bc (by rw [World.size_alloc]; have := htab.out.lt; omega) hnebc)).of_block (w' := w3) (hb3.out.block bc (Nat.lt_of_lt_of_le (by rw [World.size_alloc]; have := htab.out.lt; omega) ho2.out.size)))
          have hs3' := ht2.out.of_block (w' := w3) (hb3.out.block bs ht2.out.lt)
          have hT : ∀ i, i < l.length → (OP i = 17 ∨ OP i = 18) → inOf OP (TT i) = inOf OP i := fun i hi h => by
            obtain ⟨t, e1, hJ⟩ := hTo.out i hi h
            have e2 := (q3.out i hi h).1
            have e3 : TT i = t := by omega
            rw [e3]; exact hJ.2.2.2.1
          refine cl1 (hgood.out bd himg.out (by omega) cap bs w3.heap.size bc To' H L _ (hbel3.out.alloc hs3 _) hs3 hbs hbc ?_ ?_) rfl
          · refine ⟨World.rowIs_alloc w3 #[.slice (some ⟨bc, 0, none⟩) nC nC, .slice (some ⟨bs, 0, none⟩) l.length cap, .int .i64 bd, .int .i64 0, .int .i64 0] 58 _ (fun i hi => ?_), (ht3.alloc _).congr (fun i _ f _ => rfl), hs3'.alloc _, fun _ => by unfold in32; omega, hlen, h100⟩
            have hi5 : i < 5 := hi
            have hc : i = 0 ∨ i = 1 ∨ i = 2 ∨ i = 3 ∨ i = 4 := by omega
            rcases hc with rfl | rfl | rfl | rfl | rfl <;> rfl
          · intro w0 br bc' base nm fv d
            refine ⟨⟨hkn, hok.out.2.2.1, fun i hi h => ⟨(q3.out i hi h).2.1, (q3.out i hi h).2.2, hT i hi h⟩, fun i hi h => (q4.out i hi h).1, fun i hi h => (q2.out i hi h).1, by omega⟩, hlen, q1.out, fun i hi h => (q3.out i hi h).1, fun i hi h => (q4.out i hi h).1, fun i hi h => ?_, fun i hi h => ?_, fun i hi h => (q2.out i hi h).2⟩
            · have h1 := (hok.out.1 i hi).1 h
              have h2 := hcC.out i (by rcases h with h | h | h; exact .inl h; exact .inr (.inl h); exact .inr (.inr (.inl h)))
              exact ⟨(AR i).toNat, (Int.toNat_of_nonneg h2).symm, h1.2.1⟩
            · have h1 := (hok.out.1 i hi).2.1 h
              have h2 := hcC.out i (by rcases h with h | h; exact .inr (.inr (.inr (.inl h))); exact .inr (.inr (.inr (.inr h))))
              have h3 := hcN.out i h
              exact ⟨(AR i).toNat, (CN i).toNat, (Int.toNat_of_nonneg h2).symm, (Int.toNat_of_nonneg h3).symm, h1.2.1⟩

end Go.Proofs.YtidhiaaicmfabaaGreat
