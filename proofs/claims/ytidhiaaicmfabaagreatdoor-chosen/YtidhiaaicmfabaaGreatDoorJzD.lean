/- Inputs. -/
import Derived.Test.YtidhiaaicmfabaaGreatDoorKaA
import Derived.Test.YtidhiaaicmfabaaGreatDoorKaB
import Derived.WalkKit
import Derived.WalkSpells
import Derived.WalkLawsBesides
import Derived.Deep.OwnRows
import Derived.BigQuiet
import Derived.Handy
import Derived.Deep.Light
import Derived.Deep.RegionHeld3
import Derived.Deep.RegionWith
import Derived.Test.YtidhiaaicmfabaaGreatDoorJzC
import Derived.Defers
import Derived.Recover

/- Are the inputs fit? -/
namespace Go.Proofs.YtidhiaaicmfabaaGreatDoor
open Go.RowKit Go.Proofs Go.Deep

theorem holds_any (w : World) (rl kd : Nat) (v n : Int) (R : Ending → World → Prop) (fin : ∀ w', Below w.heap.size w w' → R (.returned (.bool (layK kd n == n))) w') :
    Calls Tryz.prog 121 #[.agg #[.int .u8 (rl : Int), .int .u8 (kd : Int), .int .i32 v], .int .i64 n] w R := by
  have hw : wrap64 (layK kd n) = layK kd n := IntWalk.wrap64_in _ (by have := layK_in kd n; unfold in32 at this; omega)
  replace fin := hd fin
  go_enter Tryz.func121, Tryz.ntmps121
  go_wp2_with (first | (go_at_call 176; refine laid_any _ _ _ _ ?_))
  exact cl1 (fin.out _ (by repeat (first | with_reducible exact Below.refl _ _ | with_reducible refine below_drewN ?_ _ | with_reducible refine Below.drew ?_ | with_reducible refine Below.alloc ?_ (by simp) _ | with_reducible refine Below.setCell ?_ (by simp) _))) rfl
/-- A list of numbers, as a slice. -/
def InpAt (nb : Nat) (w : World) (v : Value) (l : List Int) : Prop :=
  ∃ ao cap, v = .slice ao l.length cap ∧ l.length ≤ cap ∧ ((∃ g o, ao = some ⟨g, o, none⟩ ∧ g ≠ nb ∧ ∀ j x, l[j]? = some x → w.cell? ⟨g, o + j, none⟩ = some (.int .i64 x)) ∨ l = [])
theorem InpAt.below {nb : Nat} {w w' : World} {v : Value} {l : List Int} (h : InpAt nb w v l) (hb : Below w.heap.size w w') : InpAt nb w' v l := by
  obtain ⟨ao, cap, h1, h2, h3⟩ := h
  refine ⟨ao, cap, h1, h2, ?_⟩
  rcases h3 with ⟨g, o, e, hne, hc⟩ | h3
  · exact .inl ⟨g, o, e, hne, fun j x hx => (hb.cell (p := ⟨g, o + j, none⟩) (World.block_lt_of_cell? w _ (hc j x hx))).trans (hc j x hx)⟩
  · exact .inr h3
theorem InpAt.tail {nb : Nat} {w w2 : World} {g o cp : Nat} {x : Int} {r : List Int} (hne : g ≠ nb) (h : ∀ j y, (x :: r)[j]? = some y → w.cell? ⟨g, o + j, none⟩ = some (.int .i64 y)) (hc : r.length + 1 ≤ cp) (hb : Below w.heap.size w w2) :
    InpAt nb w2 (.slice (if cp = 1 then some ⟨g, o, none⟩ else some ⟨g, o + 1, none⟩) r.length (cp - 1)) r := by
  by_cases e : cp = 1
  · have : r = [] := by cases r with
      | nil => rfl
      | cons y t => simp at hc; omega
    subst this
    exact ⟨_, _, rfl, by simp, .inl ⟨g, o, by rw [if_pos e], hne, fun j y hy => by simp at hy⟩⟩
  · refine InpAt.below (nb := nb) (w := w) ⟨_, _, rfl, by omega, .inl ⟨g, o + 1, by rw [if_neg e], hne, fun j y hy => ?_⟩⟩ hb
    have := h (j + 1) y (by simpa using hy)
    rw [show o + 1 + j = o + (j + 1) by omega]; exact this
/-- Are there as many inputs as input cells, each of its kind? -/
def fitsL (rl kd : Nat → Nat) : Nat → Nat → List Int → Bool
  | 0, _, l => l.isEmpty
  | k + 1, i, l => if rl i = 0 then (match l with | [] => false | x :: r => layK (kd i) x == x && fitsL rl kd k (i + 1) r) else fitsL rl kd k (i + 1) l
theorem fits_skip {rl kd : Nat → Nat} {n k : Nat} {l : List Int} (hk : k < n) (h : rl k ≠ 0) : fitsL rl kd (n - k) k l = fitsL rl kd (n - (k + 1)) (k + 1) l := by
  obtain ⟨f, hf⟩ : ∃ f, n - k = f + 1 := ⟨n - k - 1, by omega⟩
  rw [hf, show n - (k + 1) = f by omega]
  simp only [fitsL]; rw [if_neg h]
theorem fits_nil {rl kd : Nat → Nat} {n k : Nat} (hk : k < n) (h : rl k = 0) : fitsL rl kd (n - k) k [] = false := by
  obtain ⟨f, hf⟩ : ∃ f, n - k = f + 1 := ⟨n - k - 1, by omega⟩
  rw [hf]
  simp only [fitsL]; rw [if_pos h]
theorem fits_cons {rl kd : Nat → Nat} {n k : Nat} {x : Int} {l : List Int} (hk : k < n) (h : rl k = 0) : fitsL rl kd (n - k) k (x :: l) = (layK (kd k) x == x && fitsL rl kd (n - (k + 1)) (k + 1) l) := by
  obtain ⟨f, hf⟩ : ∃ f, n - k = f + 1 := ⟨n - k - 1, by omega⟩
  rw [hf, show n - (k + 1) = f by omega]
  simp only [fitsL]; rw [if_pos h]
theorem fits_end {rl kd : Nat → Nat} {n k : Nat} {l : List Int} (hk : ¬ k < n) : fitsL rl kd (n - k) k l = l.isEmpty := by
  rw [show n - k = 0 by omega]; rfl
set_option maxRecDepth 100000 in
set_option maxHeartbeats 1000000 in
theorem takes_any (w : World) (bx bc nC cap : Nat) (rl kd : Nat → Nat) (C : Nat → Int) (v : Value) (l : List Int) (hC : nC ≤ 100) (hx : w.cell? ⟨bx, 0, none⟩ = some (.slice (some ⟨bc, 0, none⟩) nC cap)) (ht : Tab w bc 129 3 nC cap (cellV rl kd C)) (hv : InpAt bc w v l)
    (R : Ending → World → Prop) (fin : ∀ w', Below w.heap.size w w' → R (.returned (.bool (fitsL rl kd nC 0 l))) w') :
    Calls Tryz.prog 63 #[.pointer (some ⟨bx, 0, none⟩), v] w R := by
  have hX : ∃ X, fitsL rl kd nC 0 l = X := ⟨_, rfl⟩
  obtain ⟨X, hX⟩ := hX
  rw [hX] at fin
  replace hX := hd hX
  replace fin := hd fin
  replace hv := hd hv
  replace ht := hd ht
  have hbc := ht.out.lt
  go_enter Tryz.func63, Tryz.ntmps63
  go_wp2
  go_loopw [1, 12] (fun iv i wr => ∃ (k : Nat) (r : List Int), k ≤ nC ∧ i = .int .i64 k ∧ InpAt bc wr iv r ∧ r.length ≤ l.length ∧ Below w.heap.size w wr ∧ X = fitsL rl kd (nC - k) k r) (fun _ i _ => nC - (intOf i).toNat)
  case atStart => exact ⟨0, l, by omega, rfl, hv.out, Nat.le_refl _, Below.refl _ _, hX.out.symm⟩
  case round =>
    obtain ⟨k, r, hk, rfl, hiv, hrl, hbel, hx1⟩ := hrel
    obtain ⟨ao, cp, rfl, hcp, hcs⟩ := id hiv
    replace hx1 := hd hx1
    replace hiv := hd hiv
    by_cases hlt : k < nC
    · have htr := ht.out.of_block (w' := wr) (hbel.block bc hbc)
      have k0 := htr.cell0 hlt (by omega)
      have k1 := htr.cell hlt (f := 1) (by omega)
      have k2 := htr.cell hlt (f := 2) (by omega)
      rw [cellV_0] at k0
      rw [cellV_1] at k1
      rw [cellV_2] at k2
      have hbr := htr.lt
      have hbelA := hd (fun o : Obj => Below.alloc (Below.refl wr.heap.size wr) (Nat.le_refl _) o)
      replace hbel := hd hbel
      clear htr
      by_cases h0 : rl k = 0
      · have t0 : ((rl k : Int) != 0) = false := by simp [h0]
        cases r with
        | nil =>
          have hfz := hd (hx1.out.trans (fits_nil hlt h0))
          clear hx1
          go_wp2_with (fail)
          go_region
          all_goals
            go_wp2
            exact cl1 (fin.out _ ((hbel.out.trans ((hbelA.out _).mono hbel.out.size)).drew)) (by rw [hfz.out]; rfl)
        | cons x r =>
          have hfz := hd (hx1.out.trans (fits_cons hlt h0))
          clear hx1
          replace h0 := hd h0
          obtain ⟨g, o, rfl, hgne, hcq⟩ : ∃ g o, ao = some ⟨g, o, none⟩ ∧ g ≠ bc ∧ ∀ j y, (x :: r)[j]? = some y → wr.cell? ⟨g, o + j, none⟩ = some (.int .i64 y) := by
            rcases hcs with h | h
            · exact h
            · cases h
          have cx := hcq 0 x rfl
          rw [Nat.add_zero] at cx
          have hgl := World.block_lt_of_cell? wr _ cx
          have hnx := hd (show ∀ (w2 : World), Below wr.heap.size wr w2 → InpAt bc w2 (.slice (if cp = 1 then some ⟨g, o, none⟩ else some ⟨g, o + 1, none⟩) r.length (cp - 1)) r from fun w2 hb2 => InpAt.tail hgne hcq (by simpa using hcp) hb2)
          have jl : (1 : Int) ≤ (r.length : Int) + 1 := by omega
          have jc : r.length + 1 ≤ cp := by simpa using hcp
          have tl0 : (((r.length : Int) + 1) == 0) = false := by simp; omega
          simp only [List.length_cons] at hrl
          clear hcs hcq hcp
          by_cases hfit : layK (kd k) x = x
          · have tl : (layK (kd k) x == x) = true := by simpa using hfit
            replace hfit := hd hfit
            go_wp2_with (fail)
            go_region_with (go_at_call 121; refine holds_any _ _ _ _ _ _ ?_; intro w2 hb2)
            all_goals
              have hb3 := hd (show Below wr.heap.size wr w2 from (hbelA.out _).drew.trans (hb2.mono (show wr.heap.size ≤ _ by simp)))
              clear hb2
              go_wp2
              exact ⟨⟨k + 1, r, by omega, by go_num, hnx.out _ hb3.out, by omega, hbel.out.trans (hb3.out.mono hbel.out.size), by rw [hfz.out, tl]; rfl⟩, by simp [intOf]; omega⟩
          · have tl : (layK (kd k) x == x) = false := by simpa using hfit
            replace hfit := hd hfit
            go_wp2_with (fail)
            go_region_with (go_at_call 121; refine holds_any _ _ _ _ _ _ ?_; intro w2 hb2)
            all_goals
              have hb3 := hd (show Below wr.heap.size wr w2 from (hbelA.out _).drew.trans (hb2.mono (show wr.heap.size ≤ _ by simp)))
              clear hb2
              go_wp2
              exact cl1 (fin.out _ (hbel.out.trans (hb3.out.mono hbel.out.size))) (by rw [hfz.out, tl]; rfl)
      · have t0 : ((rl k : Int) != 0) = true := by simp; omega
        have hfz := hd (hx1.out.trans (fits_skip hlt h0))
        clear hx1
        go_wp2
        go_roundw
        case measure => simp [intOf]; omega
        case rel => exact ⟨k + 1, r, by omega, by go_num, hiv.out.below (hbelA.out _), hrl, hbel.out.trans ((hbelA.out _).mono hbel.out.size), hfz.out⟩
    · have hfz := hd (hx1.out.trans (fits_end hlt))
      clear hx1
      go_wp2
      exact cl1 (fin.out _ hbel) (by rw [hfz.out]; show Value.bool _ = Value.bool _; cases r <;> simp; try omega)

end Go.Proofs.YtidhiaaicmfabaaGreatDoor

/- The inputs are laid into their cells. -/
namespace Go.Proofs.YtidhiaaicmfabaaGreatDoor
open Go.RowKit Go.Proofs Go.Deep

/-- The cells when the inputs are laid. -/
def layL (rl kd : Nat → Nat) : Nat → Nat → List Int → (Nat → Int) → (Nat → Int)
  | 0, _, _, C => C
  | k + 1, i, l, C => if rl i = 0 then (match l with | [] => C | x :: r => layL rl kd k (i + 1) r (upd C i (layK (kd i) x))) else layL rl kd k (i + 1) l C
theorem lay_skip {rl kd : Nat → Nat} {n k : Nat} {l : List Int} {C : Nat → Int} (hk : k < n) (h : rl k ≠ 0) : layL rl kd (n - k) k l C = layL rl kd (n - (k + 1)) (k + 1) l C := by
  obtain ⟨f, hf⟩ : ∃ f, n - k = f + 1 := ⟨n - k - 1, by omega⟩
  rw [hf, show n - (k + 1) = f by omega]
  simp only [layL]; rw [if_neg h]
theorem lay_cons {rl kd : Nat → Nat} {n k : Nat} {x : Int} {l : List Int} {C : Nat → Int} (hk : k < n) (h : rl k = 0) : layL rl kd (n - k) k (x :: l) C = layL rl kd (n - (k + 1)) (k + 1) l (upd C k (layK (kd k) x)) := by
  obtain ⟨f, hf⟩ : ∃ f, n - k = f + 1 := ⟨n - k - 1, by omega⟩
  rw [hf, show n - (k + 1) = f by omega]
  simp only [layL]; rw [if_pos h]
theorem lay_end {rl kd : Nat → Nat} {n k : Nat} {l : List Int} {C : Nat → Int} (hk : ¬ k < n) : layL rl kd (n - k) k l C = C := by
  rw [show n - k = 0 by omega]; rfl
theorem layL_in {rl kd : Nat → Nat} : ∀ (k i : Nat) (l : List Int) (C : Nat → Int), (∀ j, in32 (C j)) → ∀ j, in32 (layL rl kd k i l C j)
  | 0, _, _, _, h, j => h j
  | k + 1, i, l, C, h, j => by
    simp only [layL]
    split
    · split
      · exact h j
      · refine layL_in k _ _ _ (fun j' => ?_) j
        unfold upd; split
        · exact layK_in _ _
        · exact h j'
    · exact layL_in k _ _ _ h j
theorem Tab.setV {w : World} {b n cap : Nat} {rl kd : Nat → Nat} {C : Nat → Int} (h : Tab w b 129 3 n cap (cellV rl kd C)) (c : Nat) (x : Int) : Tab (w.setCell ⟨b, c * 3 + 2, none⟩ (.int .i32 x)) b 129 3 n cap (cellV rl kd (upd C c x)) :=
  (h.set c 2 (by omega) _).congr (fun j _ g hg => by
    have hcg : g = 0 ∨ g = 1 ∨ g = 2 := by omega
    rcases hcg with rfl | rfl | rfl
    · simp [cellV]
    · simp [cellV]
    · by_cases e : j = c <;> simp [cellV, upd, e])
theorem InpAt.set {nb : Nat} {w : World} {v : Value} {l : List Int} (h : InpAt nb w v l) (o : Nat) (u : Value) : InpAt nb (w.setCell ⟨nb, o, none⟩ u) v l := by
  obtain ⟨ao, cap, h1, h2, h3⟩ := h
  refine ⟨ao, cap, h1, h2, ?_⟩
  rcases h3 with ⟨g, o', e, hne, hc⟩ | h3
  · exact .inl ⟨g, o', e, hne, fun j x hx => by rw [World.cell?_setCell_other _ _ _ _ (by intro e; injection e with e; exact hne e.symm)]; exact hc j x hx⟩
  · exact .inr h3
set_option maxRecDepth 100000 in
set_option maxHeartbeats 1000000 in
theorem layInputs_any (w : World) (bx bc nC cap : Nat) (rl kd : Nat → Nat) (C : Nat → Int) (v : Value) (l : List Int) (hne : bx ≠ bc) (hC : nC ≤ 100) (hx : w.cell? ⟨bx, 0, none⟩ = some (.slice (some ⟨bc, 0, none⟩) nC cap)) (ht : Tab w bc 129 3 nC cap (cellV rl kd C)) (hv : InpAt bc w v l)
    (hfit : fitsL rl kd nC 0 l = true) (R : Ending → World → Prop) (fin : ∀ w', Only bc w w' → Tab w' bc 129 3 nC cap (cellV rl kd (layL rl kd nC 0 l C)) → R (.returned (.tuple #[])) w') :
    Calls Tryz.prog 124 #[.pointer (some ⟨bx, 0, none⟩), v] w R := by
  have hX : ∃ X, layL rl kd nC 0 l C = X := ⟨_, rfl⟩
  obtain ⟨X, hX⟩ := hX
  rw [hX] at fin
  replace hX := hd hX
  replace fin := hd fin
  replace hv := hd hv
  replace ht := hd ht
  replace hfit := hd hfit
  have hbx := World.block_lt_of_cell? w _ hx
  have hbc := ht.out.lt
  go_enter Tryz.func124, Tryz.ntmps124
  go_wp2
  go_loopw [1, 10] (fun iv i wr => ∃ (k : Nat) (r : List Int) (C1 : Nat → Int), k ≤ nC ∧ i = .int .i64 k ∧ InpAt bc wr iv r ∧ Only bc w wr ∧ Tab wr bc 129 3 nC cap (cellV rl kd C1) ∧ fitsL rl kd (nC - k) k r = true ∧ X = layL rl kd (nC - k) k r C1) (fun _ i _ => nC - (intOf i).toNat)
  case atStart => exact ⟨0, l, C, by omega, rfl, hv.out, Only.refl _ _, ht.out, hfit.out, hX.out.symm⟩
  case round =>
    obtain ⟨k, r, C1, hk, rfl, hiv, honly, htr, hft, hx1⟩ := hrel
    obtain ⟨ao, cp, rfl, hcp, hcs⟩ := id hiv
    have hxr : wr.cell? ⟨bx, 0, none⟩ = some (.slice (some ⟨bc, 0, none⟩) nC cap) := by rw [honly.cell hbx hne]; exact hx
    replace hx1 := hd hx1
    replace hft := hd hft
    replace hiv := hd hiv
    by_cases hlt : k < nC
    · have k0 := htr.cell0 hlt (by omega)
      have k1 := htr.cell hlt (f := 1) (by omega)
      have k2 := htr.cell hlt (f := 2) (by omega)
      have kf := htr.frozen (k * 3 + 2)
      rw [cellV_0] at k0
      rw [cellV_1] at k1
      rw [cellV_2] at k2
      have hbr := htr.lt
      replace honly := hd honly
      replace htr := hd htr
      by_cases h0 : rl k = 0
      · have t0 : ((rl k : Int) == 0) = true := by simp [h0]
        cases r with
        | nil =>
          have := hft.out
          rw [fits_nil hlt h0] at this
          cases this
        | cons x r =>
          have hf1 := hd (show fitsL rl kd (nC - (k + 1)) (k + 1) r = true by have := hft.out; rw [fits_cons hlt h0] at this; simp at this; exact this.2)
          have hfz := hd (hx1.out.trans (lay_cons hlt h0))
          clear hx1 hft
          replace h0 := hd h0
          obtain ⟨g, o, rfl, hgne, hcq⟩ : ∃ g o, ao = some ⟨g, o, none⟩ ∧ g ≠ bc ∧ ∀ j y, (x :: r)[j]? = some y → wr.cell? ⟨g, o + j, none⟩ = some (.int .i64 y) := by
            rcases hcs with h | h
            · exact h
            · cases h
          have cx := hcq 0 x rfl
          rw [Nat.add_zero] at cx
          have hgl := World.block_lt_of_cell? wr _ cx
          have hnx := hd (InpAt.tail (nb := bc) (w2 := wr) hgne hcq (by simpa using hcp) (Below.refl _ _))
          have jl : (1 : Int) ≤ (r.length : Int) + 1 := by omega
          have jl2 : (0 : Int) < (r.length : Int) + 1 := by omega
          have jc : r.length + 1 ≤ cp := by simpa using hcp
          clear hcs hcq hcp
          go_wp2_with (fail)
          go_region_with (go_at_call 188; refine lay_any _ _ k (kd k) _ (C1 k) (by exact k1) (by exact k2) (by exact kf) _ ?_)
          all_goals
            go_wp2
            exact ⟨⟨k + 1, r, _, by omega, by go_num, InpAt.below (hnx.out.set _ _) (by first | exact Below.refl _ _ | exact (Below.refl _ _).drew), by first | exact honly.out.setCell (a := ⟨bc, k * 3 + 2, none⟩) (.inl rfl) _ | exact (honly.out.setCell (a := ⟨bc, k * 3 + 2, none⟩) (.inl rfl) _).drew, htr.out.setV k _, hf1.out, hfz.out⟩, by simp [intOf]; omega⟩
      · have t0 : ((rl k : Int) == 0) = false := by simp; omega
        have hf1 := hd (show fitsL rl kd (nC - (k + 1)) (k + 1) r = true by rw [← fits_skip hlt h0]; exact hft.out)
        have hfz := hd (hx1.out.trans (lay_skip hlt h0))
        clear hx1
        go_wp2
        exact ⟨⟨k + 1, r, C1, by omega, by go_num, hiv.out, honly.out, htr.out, hf1.out, hfz.out⟩, by simp [intOf]; omega⟩
    · have hfz := hd (hx1.out.trans (lay_end hlt))
      clear hx1
      replace honly := hd honly
      replace htr := hd htr
      go_wp2
      go_end0
      exact fin.out _ honly.out (by rw [hfz.out]; exact htr.out)

end Go.Proofs.YtidhiaaicmfabaaGreatDoor

/- A scan's beginning and end: what is kept, and what the deferred function leaves. -/
namespace Go.Proofs.YtidhiaaicmfabaaGreatDoor
open Go.RowKit Go.Proofs Go.Deep

theorem tab_list {w : World} {b n : Nat} {rl kd : Nat → Nat} {C : Nat → Int} (h : Tab w b 129 3 n n (cellV rl kd C)) : ∃ news : List Value, w.heap[b]? = some (.cells news.toArray 129) ∧ news.length = n * 3 ∧ (∀ u ∈ news, u.oneCell' = true) ∧ ∀ i, i < n → ∀ f, f < 3 → news[i * 3 + f]? = some (cellV rl kd C i f) := by
  obtain ⟨cur, h1, h2, h3, h4⟩ := h
  refine ⟨cur.toList, by simpa using h1, by simpa using h2, fun u hu => ?_, fun i hi f hf => by simpa using h4 i hi f hf⟩
  obtain ⟨j, hj, e⟩ := List.getElem_of_mem hu
  have hjn : j < n * 3 := by simp at hj; omega
  have := h4 (j / 3) (by omega) (j % 3) (by omega)
  rw [show j / 3 * 3 + j % 3 = j by omega] at this
  have e2 : cur.toList[j]? = some u := by rw [List.getElem?_eq_getElem hj, e]
  rw [Array.getElem?_toList, this] at e2
  injection e2 with e2
  subst e2
  unfold cellV
  split
  · rfl
  · split <;> rfl
set_option maxRecDepth 100000 in
theorem clone_any (w : World) (bc nC : Nat) (rl kd : Nat → Nat) (C : Nat → Int) (hC : nC ≤ 100) (ht : Tab w bc 129 3 nC nC (cellV rl kd C)) (R : Ending → World → Prop)
    (fin : ∀ v news w', Below w.heap.size w w' → w'.ownsRow w.heap.size 129 3 v nC news → (∀ i, i < nC → ∀ f, f < 3 → news[i * 3 + f]? = some (cellV rl kd C i f)) → R (.returned v) w') :
    Calls Tryz.prog 122 #[.slice (some ⟨bc, 0, none⟩) nC nC] w R := by
  obtain ⟨news, hg, hl, h1, hcs⟩ := tab_list ht
  have hbc := ht.lt
  have hown0 : Hid ((w.alloc (.cells #[] 129)).ownsRow w.heap.size 129 3 (.slice (some ⟨w.heap.size, 0, none⟩) 0 0) 0 []) := hd (World.ownsRow_made w #[] 0 (Nat.le_refl _) (by unfold maxLen; omega) rfl)
  have hnil : ∀ w : World, (binOp BinOp.eql 112 (.slice (some ⟨bc, 0, none⟩) nC nC) (.slice none 0 0)).run Tryz.prog w = .ok (.bool false) w := fun w => Lib.run_eql_slice_nil w 112 129 _ _ _ _ _ ulVCells
  replace fin := hd fin
  replace hg := hd hg
  replace h1 := hd h1
  replace hcs := hd hcs
  clear ht
  go_enter Tryz.func122, Tryz.ntmps122
  go_wp2_with (first | (at_builtin; refine wpList_app _ rfl _ _ 112 rfl w.heap.size 129 _ 3 8 ulVCells infoVCell rfl (by decide) _ 0 [] rfl (by exact hown0.out) bc nC nC news rfl (by exact (Below.heap_alloc w _ bc hbc).trans hg.out) (by exact hl) h1.out (by unfold maxLen; omega) (by omega) (by simp) ?_; intro v1 w1 hown1 hgr1; replace hown1 := hd hown1; replace hgr1 := hd hgr1))
  have hb : Below w.heap.size w w1 := ⟨hgr1.out.os, hgr1.out.tape, hgr1.out.output, Nat.le_trans (by simp) hgr1.out.size, fun k hk => (hgr1.out.block k (by rw [World.size_alloc]; omega) (show some k ≠ some w.heap.size by intro e; injection e; omega)).trans (Below.heap_alloc w _ k hk)⟩
  exact cl1 (fin.out v1 news w1 hb (by have := hown1.out; simpa using this) hcs.out) rfl
/-- What the deferred function of a scan leaves: how many steps were done; at an error the cells as they were, and the error. -/
theorem left_ok (w : World) (br bx b3 b6 b7 : Nat) (dn d0 : Int) (u : FrameMode) (h1 : w.cell? ⟨br, 116, none⟩ = some (.int .i64 dn)) (h2 : w.cell? ⟨b3, 0, none⟩ = some (.pointer (some ⟨bx, 0, none⟩))) (h3 : w.cell? ⟨b6, 0, none⟩ = some (.int .i64 0))
    (h4 : w.cell? ⟨bx, 3, none⟩ = some (.int .i64 d0)) (f4 : w.frozen? ⟨bx, 3, none⟩ = false) :
    CallsD Tryz.prog 123 #[.pointer (some ⟨br, 0, none⟩), .pointer (some ⟨b3, 0, none⟩), .pointer (some ⟨b6, 0, none⟩), .pointer (some ⟨b7, 0, none⟩)] u w fun ed u' w' => u' = u ∧ (ed = .returned (.tuple #[]) ∧ w' = w.setCell ⟨bx, 3, none⟩ (.int .i64 dn)) := by
  go_enter_d Tryz.func123, Tryz.ntmps123
  go_wp2
  go_end0
  exact ⟨rfl, rfl⟩
theorem left_err (w : World) (br bx b3 b6 b7 : Nat) (dn d0 e f0 : Int) (av cv : Value) (u : FrameMode) (h1 : w.cell? ⟨br, 116, none⟩ = some (.int .i64 dn)) (h2 : w.cell? ⟨b3, 0, none⟩ = some (.pointer (some ⟨bx, 0, none⟩))) (h3 : w.cell? ⟨b6, 0, none⟩ = some (.int .i64 e)) (he : e ≠ 0)
    (h4 : w.cell? ⟨bx, 3, none⟩ = some (.int .i64 d0)) (h5 : w.cell? ⟨bx, 0, none⟩ = some cv) (h6 : w.cell? ⟨bx, 4, none⟩ = some (.int .i64 f0)) (h7 : w.cell? ⟨b7, 0, none⟩ = some av) (ha : ∃ ao n cap, av = .slice ao n cap) (f4 : ∀ j, w.frozen? ⟨bx, j, none⟩ = false) :
    CallsD Tryz.prog 123 #[.pointer (some ⟨br, 0, none⟩), .pointer (some ⟨b3, 0, none⟩), .pointer (some ⟨b6, 0, none⟩), .pointer (some ⟨b7, 0, none⟩)] u w fun ed u' w' => u' = u ∧ (ed = .returned (.tuple #[]) ∧ w' = ((w.setCell ⟨bx, 3, none⟩ (.int .i64 dn)).setCell ⟨bx, 0, none⟩ av).setCell ⟨bx, 4, none⟩ (.int .i64 e)) := by
  obtain ⟨ao, n, cap, rfl⟩ := ha
  have te : (e != 0) = true := by simpa using he
  have g3 := f4 3
  have g0 := f4 0
  have g4 := f4 4
  clear f4
  go_enter_d Tryz.func123, Tryz.ntmps123
  go_wp2
  go_end0
  exact ⟨rfl, rfl⟩

end Go.Proofs.YtidhiaaicmfabaaGreatDoor
