/- Are the inputs fit? -/
import Derived.Test.YtidhiaaicmfabaaMem
import Derived.Test.YtidhiaaicmfabaaSpec
import Derived.Test.YtidhiaaicmfabaaRefA
import Derived.Test.YtidhiaaicmfabaaRefC
import Derived.Test.YtidhiaaicmfabaaSpec2
import Derived.WalkKit
import Derived.WalkSpells
import Derived.WalkLawsBesides
import Derived.Deep.OwnRows
import Derived.BigQuiet
import Derived.Handy
import Derived.Deep.Light
import Derived.Deep.RegionHeld3
import Derived.Deep.RegionWith
import Derived.Test.YtidhiaaicmfabaaSemJ
namespace Go.Proofs.Ytidhiaaicmfabaa
open Go.RowKit Go.Proofs Go.Deep

theorem holds_any (w : World) (rl kd : Nat) (v n : Int) (R : Ending → World → Prop) (fin : ∀ w', Below w.heap.size w w' → R (.returned (.bool (layK kd n == n))) w') :
    Calls Try.prog 43 #[.agg #[.int .u8 (rl : Int), .int .u8 (kd : Int), .int .i32 v], .int .i64 n] w R := by
  have hw : wrap64 (layK kd n) = layK kd n := IntWalk.wrap64_in _ (by have := layK_in kd n; unfold in32 at this; omega)
  replace fin := hd fin
  go_enter Try.func43, Try.ntmps43
  go_wp2_with (first | (go_at_call 77; refine laid_any _ _ _ _ ?_))
  exact cl1 (fin.out _ (by repeat (first | with_reducible exact Below.refl _ _ | with_reducible refine below_drewN ?_ _ | with_reducible refine Below.drew ?_ | with_reducible refine Below.alloc ?_ (by simp) _ | with_reducible refine Below.setCell ?_ (by simp) _))) rfl
/-- A list of numbers, as a slice. -/
def InpAt (nb : Nat) (w : World) (v : Value) (l : List Int) : Prop :=
  ∃ ao cap, v = .slice ao l.length cap ∧ l.length ≤ cap ∧ ((∃ g o, ao = some ⟨g, o, none⟩ ∧ g ≠ nb ∧ ∀ j x, l[j]? = some x → w.cell? ⟨g, o + j, none⟩ = some (.int .i64 x)) ∨ l = [])
theorem InpAt.below {nb : Nat} {w w' : World} {v : Value} {l : List Int} (h : InpAt nb w v l) (hb : Below w.heap.size w w') : InpAt nb w' v l := by
  obtain ⟨ao, cap, h1, h2, h3⟩ := h
  refine ⟨ao, cap, h1, h2, ?_⟩
  rcases h3 with ⟨g, o, e, hne, hc⟩ | h3
  · exact .inl ⟨g, o, e, hne, fun j x hx => (hb.cell (p := ⟨g, o + j, none⟩) (World.block_lt_of_cell? w _ (hc j x hx))).trans (hc j x hx)⟩
  · exact .inr h3
theorem InpAt.tail {nb : Nat} {w w2 : World} {g o cp : Nat} {x : Int} {r : List Int} (hne : g ≠ nb) (h : ∀ j y, (x :: r)[j]? = some y → w.cell? ⟨g, o + j, none⟩ = some (.int .i64 y)) (hc : r.length + 1 ≤ cp) (hb : Below w.heap.size w w2) :
    InpAt nb w2 (.slice (if cp = 1 then some ⟨g, o, none⟩ else some ⟨g, o + 1, none⟩) r.length (cp - 1)) r := by
  by_cases e : cp = 1
  · have : r = [] := by cases r with
      | nil => rfl
      | cons y t => simp at hc; omega
    subst this
    exact ⟨_, _, rfl, by simp, .inl ⟨g, o, by rw [if_pos e], hne, fun j y hy => by simp at hy⟩⟩
  · refine InpAt.below (nb := nb) (w := w) ⟨_, _, rfl, by omega, .inl ⟨g, o + 1, by rw [if_neg e], hne, fun j y hy => ?_⟩⟩ hb
    have := h (j + 1) y (by simpa using hy)
    rw [show o + 1 + j = o + (j + 1) by omega]; exact this
/-- Are there as many inputs as input cells, each of its kind? -/
def fitsL (rl kd : Nat → Nat) : Nat → Nat → List Int → Bool
  | 0, _, l => l.isEmpty
  | k + 1, i, l => if rl i = 0 then (match l with | [] => false | x :: r => layK (kd i) x == x && fitsL rl kd k (i + 1) r) else fitsL rl kd k (i + 1) l
theorem fits_skip {rl kd : Nat → Nat} {n k : Nat} {l : List Int} (hk : k < n) (h : rl k ≠ 0) : fitsL rl kd (n - k) k l = fitsL rl kd (n - (k + 1)) (k + 1) l := by
  obtain ⟨f, hf⟩ : ∃ f, n - k = f + 1 := ⟨n - k - 1, by omega⟩
  rw [hf, show n - (k + 1) = f by omega]
  simp only [fitsL]; rw [if_neg h]
theorem fits_nil {rl kd : Nat → Nat} {n k : Nat} (hk : k < n) (h : rl k = 0) : fitsL rl kd (n - k) k [] = false := by
  obtain ⟨f, hf⟩ : ∃ f, n - k = f + 1 := ⟨n - k - 1, by omega⟩
  rw [hf]
  simp only [fitsL]; rw [if_pos h]
theorem fits_cons {rl kd : Nat → Nat} {n k : Nat} {x : Int} {l : List Int} (hk : k < n) (h : rl k = 0) : fitsL rl kd (n - k) k (x :: l) = (layK (kd k) x == x && fitsL rl kd (n - (k + 1)) (k + 1) l) := by
  obtain ⟨f, hf⟩ : ∃ f, n - k = f + 1 := ⟨n - k - 1, by omega⟩
  rw [hf, show n - (k + 1) = f by omega]
  simp only [fitsL]; rw [if_pos h]
theorem fits_end {rl kd : Nat → Nat} {n k : Nat} {l : List Int} (hk : ¬ k < n) : fitsL rl kd (n - k) k l = l.isEmpty := by
  rw [show n - k = 0 by omega]; rfl
set_option maxRecDepth 100000 in
set_option maxHeartbeats 1000000 in
theorem takes_any (w : World) (bx bc nC cap : Nat) (rl kd : Nat → Nat) (C : Nat → Int) (v : Value) (l : List Int) (hC : nC ≤ 100) (hx : w.cell? ⟨bx, 0, none⟩ = some (.slice (some ⟨bc, 0, none⟩) nC cap)) (ht : Tab w bc 93 3 nC cap (cellV rl kd C)) (hv : InpAt bc w v l)
    (R : Ending → World → Prop) (fin : ∀ w', Below w.heap.size w w' → R (.returned (.bool (fitsL rl kd nC 0 l))) w') :
    Calls Try.prog 24 #[.pointer (some ⟨bx, 0, none⟩), v] w R := by
  have hX : ∃ X, fitsL rl kd nC 0 l = X := ⟨_, rfl⟩
  obtain ⟨X, hX⟩ := hX
  rw [hX] at fin
  replace hX := hd hX
  replace fin := hd fin
  replace hv := hd hv
  replace ht := hd ht
  have hbc := ht.out.lt
  go_enter Try.func24, Try.ntmps24
  go_wp2
  go_loopw [1, 12] (fun iv i wr => ∃ (k : Nat) (r : List Int), k ≤ nC ∧ i = .int .i64 k ∧ InpAt bc wr iv r ∧ r.length ≤ l.length ∧ Below w.heap.size w wr ∧ X = fitsL rl kd (nC - k) k r) (fun _ i _ => nC - (intOf i).toNat)
  case atStart => exact ⟨0, l, by omega, rfl, hv.out, Nat.le_refl _, Below.refl _ _, hX.out.symm⟩
  case round =>
    obtain ⟨k, r, hk, rfl, hiv, hrl, hbel, hx1⟩ := hrel
    obtain ⟨ao, cp, rfl, hcp, hcs⟩ := id hiv
    replace hx1 := hd hx1
    replace hiv := hd hiv
    by_cases hlt : k < nC
    · have htr := ht.out.of_block (w' := wr) (hbel.block bc hbc)
      have k0 := htr.cell0 hlt (by omega)
      have k1 := htr.cell hlt (f := 1) (by omega)
      have k2 := htr.cell hlt (f := 2) (by omega)
      rw [cellV_0] at k0
      rw [cellV_1] at k1
      rw [cellV_2] at k2
      have hbr := htr.lt
      have hbelA := hd (fun o : Obj => Below.alloc (Below.refl wr.heap.size wr) (Nat.le_refl _) o)
      replace hbel := hd hbel
      clear htr
      by_cases h0 : rl k = 0
      · have t0 : ((rl k : Int) != 0) = false := by simp [h0]
        cases r with
        | nil =>
          have hfz := hd (hx1.out.trans (fits_nil hlt h0))
          clear hx1
          go_wp2_with (fail)
          go_region
          all_goals
            go_wp2
            exact cl1 (fin.out _ ((hbel.out.trans ((hbelA.out _).mono hbel.out.size)).drew)) (by rw [hfz.out]; rfl)
        | cons x r =>
          have hfz := hd (hx1.out.trans (fits_cons hlt h0))
          clear hx1
          replace h0 := hd h0
          obtain ⟨g, o, rfl, hgne, hcq⟩ : ∃ g o, ao = some ⟨g, o, none⟩ ∧ g ≠ bc ∧ ∀ j y, (x :: r)[j]? = some y → wr.cell? ⟨g, o + j, none⟩ = some (.int .i64 y) := by
            rcases hcs with h | h
            · exact h
            · cases h
          have cx := hcq 0 x rfl
          rw [Nat.add_zero] at cx
          have hgl := World.block_lt_of_cell? wr _ cx
          have hnx := hd (show ∀ (w2 : World), Below wr.heap.size wr w2 → InpAt bc w2 (.slice (if cp = 1 then some ⟨g, o, none⟩ else some ⟨g, o + 1, none⟩) r.length (cp - 1)) r from fun w2 hb2 => InpAt.tail hgne hcq (by simpa using hcp) hb2)
          have jl : (1 : Int) ≤ (r.length : Int) + 1 := by omega
          have jc : r.length + 1 ≤ cp := by simpa using hcp
          have tl0 : (((r.length : Int) + 1) == 0) = false := by simp; omega
          simp only [List.length_cons] at hrl
          clear hcs hcq hcp
          by_cases hfit : layK (kd k) x = x
          · have tl : (layK (kd k) x == x) = true := by simpa using hfit
            replace hfit := hd hfit
            go_wp2_with (fail)
            go_region_with (go_at_call 43; refine holds_any _ _ _ _ _ _ ?_; intro w2 hb2)
            all_goals
              have hb3 := hd (show Below wr.heap.size wr w2 from (hbelA.out _).drew.trans (hb2.mono (show wr.heap.size ≤ _ by simp)))
              clear hb2
              go_wp2
              exact ⟨⟨k + 1, r, by omega, by go_num, hnx.out _ hb3.out, by omega, hbel.out.trans (hb3.out.mono hbel.out.size), by rw [hfz.out, tl]; rfl⟩, by simp [intOf]; omega⟩
          · have tl : (layK (kd k) x == x) = false := by simpa using hfit
            replace hfit := hd hfit
            go_wp2_with (fail)
            go_region_with (go_at_call 43; refine holds_any _ _ _ _ _ _ ?_; intro w2 hb2)
            all_goals
              have hb3 := hd (show Below wr.heap.size wr w2 from (hbelA.out _).drew.trans (hb2.mono (show wr.heap.size ≤ _ by simp)))
              clear hb2
              go_wp2
              exact cl1 (fin.out _ (hbel.out.trans (hb3.out.mono hbel.out.size))) (by rw [hfz.out, tl]; rfl)
      · have t0 : ((rl k : Int) != 0) = true := by simp; omega
        have hfz := hd (hx1.out.trans (fits_skip hlt h0))
        clear hx1
        go_wp2
        go_roundw
        case measure => simp [intOf]; omega
        case rel => exact ⟨k + 1, r, by omega, by go_num, hiv.out.below (hbelA.out _), hrl, hbel.out.trans ((hbelA.out _).mono hbel.out.size), hfz.out⟩
    · have hfz := hd (hx1.out.trans (fits_end hlt))
      clear hx1
      go_wp2
      exact cl1 (fin.out _ hbel) (by rw [hfz.out]; show Value.bool _ = Value.bool _; cases r <;> simp; try omega)

end Go.Proofs.Ytidhiaaicmfabaa
