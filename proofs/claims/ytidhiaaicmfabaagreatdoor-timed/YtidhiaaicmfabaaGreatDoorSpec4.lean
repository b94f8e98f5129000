/- The machine's walk and the document's, held against each other. -/
import Derived.Test.YtidhiaaicmfabaaGreatDoorMem
import Derived.Test.YtidhiaaicmfabaaGreatDoorSpec
import Derived.Test.YtidhiaaicmfabaaGreatDoorRefA
import Derived.Test.YtidhiaaicmfabaaGreatDoorRefC
import Derived.Test.YtidhiaaicmfabaaGreatDoorSpec2
import Derived.WalkKit
import Derived.WalkSpells
import Derived.WalkLawsBesides
import Derived.Deep.OwnRows
import Derived.BigQuiet
import Derived.Handy
import Derived.Deep.Light
import Derived.Deep.RegionHeld3
import Derived.Deep.RegionWith
import Derived.Test.YtidhiaaicmfabaaGreatDoorVmG
import Derived.Test.YtidhiaaicmfabaaGreatDoorVmH
import Derived.Test.YtidhiaaicmfabaaGreatDoorLibG
namespace Go.Proofs.YtidhiaaicmfabaaGreatDoor
open Go.RowKit Go.Proofs Go.Deep

def Cap (L Lr : Nat → Int) : Prop := ∀ j, 0 ≤ Lr j ∧ L j = min (Lr j) 200001
def Cap2 (X Y : Option ((Nat → Int) × (Nat → Int))) : Prop := (X = none ∧ Y = none) ∨ ∃ H L Lr, X = some (H, L) ∧ Y = some (H, Lr) ∧ Cap L Lr
theorem jn_cap {H L Lr : Nat → Int} {t : Nat} {h d dr : Int} (hc : Cap L Lr) (hd : 0 ≤ dr ∧ d = min dr 200001) : Cap2 (jn H L t h d) (jn H Lr t h dr) := by
  by_cases hx : 0 ≤ H t ∧ H t ≠ h
  · exact .inl ⟨jn_none hx, jn_none hx⟩
  · refine .inr ⟨_, _, _, jn_some hx, jn_some hx, fun j => ?_⟩
    have h1 := hc j
    have h2 := hc t
    unfold upd
    split <;> omega
theorem jn_old {H L : Nat → Int} {t : Nat} {h d : Int} {S : (Nat → Int) × (Nat → Int)} (hs : jn H L t h d = some S) : (∀ j, 0 ≤ H j → S.1 j = H j) ∧ S.1 t = h ∧ (∀ j, 0 ≤ S.1 j → 0 ≤ H j ∨ j = t) := by
  by_cases hx : 0 ≤ H t ∧ H t ≠ h
  · rw [jn_none hx] at hs; cases hs
  · rw [jn_some hx] at hs
    injection hs with hs
    subst hs
    refine ⟨fun j hj => ?_, by simp [upd], fun j hj => ?_⟩
    · show upd H t h j = H j
      unfold upd; split
      · rename_i e; subst e; omega
      · rfl
    · simp only [upd] at hj; split at hj
      · rename_i e; exact .inr e
      · exact .inl hj
theorem step_cap {op : Nat → Nat} {N : Nat → Int} {ToR To F : Nat → Nat} {i : Nat} {H L Lr : Nat → Int} (hc : Cap L Lr)
    (hj : op i = 17 ∨ op i = 18 → ToR i = To i)
    (h20 : op i = 20 → ToR i = F i ∧ 0 ≤ H (F i) ∧ H (F i + 1) = H (F i) ∧ 1 ≤ N (F i)) :
    Cap2 (vmStep op N To F i H L) (refStep op N ToR i H Lr) := by
  have hi := hc i
  have hD : 0 ≤ Lr i + 1 ∧ vmD (L i) = min (Lr i + 1) 200001 := by unfold vmD; omega
  unfold vmStep refStep
  by_cases hbad : H i < popsOf (op i) ∨ 32 < H i - popsOf (op i) + pushesOf (op i)
  · rw [if_pos hbad, if_pos hbad]; exact .inl ⟨rfl, rfl⟩
  · rw [if_neg hbad, if_neg hbad]
    by_cases h17 : op i = 17
    · rw [if_pos h17, if_pos h17, hj (.inl h17)]; exact jn_cap hc hD
    · rw [if_neg h17, if_neg h17]
      by_cases h18 : op i = 18
      · rw [if_pos h18, if_pos h18, hj (.inr h18)]
        rcases jn_cap (H := H) (t := To i) (h := H i - popsOf (op i) + pushesOf (op i)) hc hD with ⟨e1, e2⟩ | ⟨H', L', Lr', e1, e2, hc'⟩
        · rw [e1, e2]; exact .inl ⟨rfl, rfl⟩
        · rw [e1, e2]; exact jn_cap hc' hD
      · rw [if_neg h18, if_neg h18]
        by_cases h19 : op i = 19
        · rw [if_pos h19, if_pos h19]; exact jn_cap hc (by omega)
        · rw [if_neg h19, if_neg h19]
          by_cases h2 : op i = 20
          · obtain ⟨e1, e2, e3, e4⟩ := h20 h2
            rw [if_pos h2, if_pos h2, e1]
            have p : popsOf (op i) = 0 := by rw [h2]; rfl
            have q : pushesOf (op i) = 0 := by rw [h2]; rfl
            have hdep : dep H (F i) = H (F i) := by unfold dep; rw [if_pos e2]
            rw [p, q, hdep, e3]
            have e5 : H i - ((0 : Nat) : Int) + ((0 : Nat) : Int) = H i := by omega
            rw [e5]
            by_cases h3 : H i = H (F i)
            · rw [if_pos h3, if_pos h3, h3]
              refine jn_cap hc ?_
              have hf := hc (F i)
              have hm1 : 0 ≤ N (F i) * (Lr i + 1) := Int.mul_nonneg (by omega) (by omega)
              have hm2 : min (N (F i) * vmD (L i)) 200001 = min (N (F i) * (Lr i + 1)) 200001 := by
                rw [hD.2]
                rcases Int.le_total (Lr i + 1) 200001 with h | h
                · rw [show min (Lr i + 1) 200001 = Lr i + 1 by omega]
                · rw [show min (Lr i + 1) 200001 = 200001 by omega]
                  have g1 : 1 * 200001 ≤ N (F i) * 200001 := Int.mul_le_mul_of_nonneg_right e4 (by omega)
                  have g2 : 1 * (Lr i + 1) ≤ N (F i) * (Lr i + 1) := Int.mul_le_mul_of_nonneg_right e4 (by omega)
                  omega
              rw [hm2]
              unfold vmD
              omega
            · rw [if_neg h3, if_neg h3]; exact .inl ⟨rfl, rfl⟩
          · rw [if_neg h2, if_neg h2]; exact jn_cap hc hD
theorem refGo_ends (op : Nat → Nat) (N : Nat → Int) (To : Nat → Nat) (n : Nat) : ∀ (fuel i : Nat) (H L : Nat → Int) (bd : Int), i + fuel = n → refGo op N To n fuel i H L = some bd → 0 < n ∧ i < n ∧ op (n - 1) = 0 ∧ ∀ j, i ≤ j → j + 1 < n → op j ≠ 0
  | 0, i, H, L, bd, _, h => by simp [refGo] at h
  | fuel + 1, i, H, L, bd, hf, h => by
    simp only [refGo] at h
    by_cases h0 : op i = 0
    · rw [if_pos h0] at h
      split at h
      · rename_i hh
        refine ⟨by omega, by omega, ?_, fun j hj hj2 => by omega⟩
        rw [show n - 1 = i by omega]; exact h0
      · cases h
    · rw [if_neg h0] at h
      split at h
      · cases h
      · rename_i S hS
        obtain ⟨h1, h2, h3, h4⟩ := refGo_ends op N To n fuel (i + 1) S.1 S.2 bd (by omega) h
        refine ⟨h1, by omega, h3, fun j hj hj2 => ?_⟩
        by_cases e : j = i
        · subst e; exact h0
        · exact h4 j (by omega) hj2

theorem vm_old {op : Nat → Nat} {N : Nat → Int} {To F : Nat → Nat} {i : Nat} {H L : Nat → Int} {S : (Nat → Int) × (Nat → Int)} (hs : vmStep op N To F i H L = some S) :
    (∀ j, 0 ≤ H j → S.1 j = H j) ∧ (op i = 19 → S.1 (i + 1) = H i) := by
  unfold vmStep at hs
  by_cases hbad : H i < popsOf (op i) ∨ 32 < H i - popsOf (op i) + pushesOf (op i)
  · rw [if_pos hbad] at hs; cases hs
  · rw [if_neg hbad] at hs
    by_cases h17 : op i = 17
    · rw [if_pos h17] at hs; exact ⟨(jn_old hs).1, fun h => by omega⟩
    · rw [if_neg h17] at hs
      by_cases h18 : op i = 18
      · rw [if_pos h18] at hs
        split at hs
        · cases hs
        · rename_i S1 hS1
          refine ⟨fun j hj => ?_, fun h => by omega⟩
          have e1 := (jn_old hS1).1 j hj
          rw [(jn_old hs).1 j (by omega), e1]
      · rw [if_neg h18] at hs
        by_cases h19 : op i = 19
        · rw [if_pos h19] at hs
          refine ⟨(jn_old hs).1, fun _ => ?_⟩
          rw [(jn_old hs).2.1, h19]
          have p : popsOf 19 = 0 := rfl
          have q : pushesOf 19 = 0 := rfl
          rw [p, q]; omega
        · rw [if_neg h19] at hs
          by_cases h20 : op i = 20
          · rw [if_pos h20] at hs
            split at hs
            · exact ⟨(jn_old hs).1, fun h => by omega⟩
            · cases hs
          · rw [if_neg h20] at hs; exact ⟨(jn_old hs).1, fun h => by omega⟩
theorem refGo_gap {op : Nat → Nat} {N : Nat → Int} {To : Nat → Nat} {n fuel i : Nat} {H L : Nat → Int} (h : H i < 0) : refGo op N To n fuel i H L = none := by
  cases fuel with
  | zero => rfl
  | succ f =>
    simp only [refGo]
    by_cases h0 : op i = 0
    · rw [if_pos h0, if_neg (by omega)]
    · rw [if_neg h0]
      have : refStep op N To i H L = none := by unfold refStep; rw [if_pos (.inl (by omega))]
      rw [this]
theorem refGo_step {op : Nat → Nat} {N : Nat → Int} {To : Nat → Nat} {n i : Nat} {H L : Nat → Int} (hi : i < n) (h0 : op i ≠ 0) :
    refGo op N To n (n - i) i H L = (match refStep op N To i H L with | none => none | some S => refGo op N To n (n - (i + 1)) (i + 1) S.1 S.2) := by
  obtain ⟨f, hf⟩ : ∃ f, n - i = f + 1 := ⟨n - i - 1, by omega⟩
  have hf' : n - (i + 1) = f := by omega
  rw [hf, hf']
  simp only [refGo]
  rw [if_neg h0]
  rfl
theorem refGo_last {op : Nat → Nat} {N : Nat → Int} {To : Nat → Nat} {n i : Nat} {H L : Nat → Int} (hi : i + 1 = n) (h0 : op i = 0) :
    refGo op N To n (n - i) i H L = if H i = 0 then some (L i + 1) else none := by
  have hf : n - i = 0 + 1 := by omega
  rw [hf]
  simp only [refGo]
  rw [if_pos h0]
  simp [hi]
/-- What is known of the walk while no step was left out. -/
def Even (op : Nat → Nat) (N : Nat → Int) (To : Nat → Nat) (n lo : Nat) (H L : Nat → Int) (X : Option Int) : Prop :=
  ∃ Lr, Cap L Lr ∧ (∀ j, j < lo → 0 ≤ H j) ∧ (∀ f, f < lo → op f = 19 → H (f + 1) = H f) ∧ X = refGo op N To n (n - lo) lo H Lr
theorem Even.step {op : Nat → Nat} {N : Nat → Int} {To : Nat → Nat} {n lo : Nat} {H L : Nat → Int} {X : Option Int} (h : Even op N To n lo H L X) (hlo : lo < n) (h0 : op lo ≠ 0) (hH : 0 ≤ H lo)
    (hF : op lo = 20 → To lo < lo ∧ op (To lo) = 19) (hN : ∀ i, i < n → op i = 19 → 1 ≤ N i) :
    (vmStep op N To To lo H L = none → X = none) ∧ (∀ S, vmStep op N To To lo H L = some S → Even op N To n (lo + 1) S.1 S.2 X) := by
  obtain ⟨Lr, hc, hk, hf, hX⟩ := h
  have hcap := step_cap (op := op) (N := N) (ToR := To) (To := To) (F := To) (i := lo) (H := H) hc (fun _ => rfl) (fun h20 => by
    obtain ⟨a, b⟩ := hF h20
    exact ⟨rfl, hk _ a, hf _ a b, hN _ (by omega) b⟩)
  rw [refGo_step hlo h0] at hX
  constructor
  · intro hn
    rcases hcap with ⟨_, e2⟩ | ⟨_, _, _, e1, _, _⟩
    · rw [hX, e2]
    · rw [hn] at e1; cases e1
  · intro S hS
    rcases hcap with ⟨e1, _⟩ | ⟨H', L', Lr', e1, e2, hc'⟩
    · rw [hS] at e1; cases e1
    · rw [hS] at e1
      injection e1 with e1
      subst e1
      obtain ⟨g1, g2⟩ := vm_old hS
      refine ⟨Lr', hc', fun j hj => ?_, fun f hfl h19 => ?_, ?_⟩
      · have : 0 ≤ H j := by
          by_cases e : j = lo
          · subst e; exact hH
          · exact hk j (by omega)
        rw [g1 j this]; exact this
      · by_cases e : f = lo
        · subst e; rw [g2 h19, g1 f hH]
        · have a := hf f (by omega) h19
          have b := hk f (by omega)
          rw [g1 (f + 1) (by omega), g1 f b, a]
      · rw [hX, e2]
theorem Even.last {op : Nat → Nat} {N : Nat → Int} {To : Nat → Nat} {n lo : Nat} {H L : Nat → Int} {X : Option Int} (h : Even op N To n lo H L X) (hlo : lo + 1 = n) (h0 : op lo = 0) :
    (H lo ≠ 0 → X = none) ∧ (H lo = 0 → ∃ b, X = some b ∧ vmD (L lo) = min b 200001) := by
  obtain ⟨Lr, hc, hk, hf, hX⟩ := h
  rw [refGo_last hlo h0] at hX
  refine ⟨fun hh => by rw [hX, if_neg hh], fun hh => ⟨Lr lo + 1, by rw [hX, if_pos hh], ?_⟩⟩
  have := hc lo
  unfold vmD; omega
theorem Even.gap {op : Nat → Nat} {N : Nat → Int} {To : Nat → Nat} {n lo : Nat} {H L : Nat → Int} {X : Option Int} (h : Even op N To n lo H L X) (hH : H lo < 0) : X = none := by
  obtain ⟨Lr, hc, hk, hf, hX⟩ := h
  rw [hX]; exact refGo_gap hH
theorem Even.start (op : Nat → Nat) (N : Nat → Int) (To : Nat → Nat) (n : Nat) : Even op N To n 0 (upd (fun _ => -1) 0 0) (upd (fun _ => 0) 0 (max 0 0)) (refGo op N To n n 0 H0 L0) := by
  refine ⟨L0, fun j => ?_, by omega, by omega, ?_⟩
  · refine ⟨by unfold L0; omega, ?_⟩
    unfold upd L0; split <;> rfl
  · have e : upd (fun _ => -1) 0 0 = H0 := by funext j; unfold upd H0; rfl
    rw [e]; rfl
theorem WS.pop {w0 w w' : World} {B bw ba bs base n cap : Nat} {nm : Nat → ByteArray} {fv : Nat → Value} {H L : Nat → Int} {lo m : Nat} {A A' : Nat → Int} {bd : Int} {op at_ : Nat → Nat} {arg cnt lp to_ : Nat → Int}
    (hc : WC w0 B bw ba bs base n cap op at_ arg cnt lp to_) (h : WS w0 B bw ba bs base n cap nm fv H L lo m A bd w) (hm : 0 < m)
    (hK : Kept bw 112 base w w') (hwh : WH w' bw 112 base (m - 1) A') (hheap : Heap A' (m - 1)) (hS : Same (swapF A 0 (m - 1)) A' (m - 1)) :
    ∃ q : Nat, A 0 = (q : Int) ∧ lo ≤ q ∧ q < n ∧ 0 ≤ H q ∧ (∀ j, lo ≤ j → j < q → H j < 0) ∧ WS w0 B bw ba bs base n cap nm fv H L (q + 1) (m - 1) A' bd w' := by
  obtain ⟨q, hq, hlo, hqn, hHq⟩ := (h.mem (A 0)).1 ⟨0, hm, rfl⟩
  have hmin : ∀ k, k < m → A 0 ≤ A k := by
    intro k
    induction k using Nat.strongRecOn with
    | _ k ih =>
      intro hk
      by_cases e : k = 0
      · subst e; omega
      · have h1 := h.heap k (by omega) hk
        have h2 := ih ((k - 1) / 2) (by omega) (by omega)
        omega
  have hsw : ∀ x, (∃ k, k < m - 1 ∧ swapF A 0 (m - 1) k = x) ↔ ∃ k, 0 < k ∧ k < m ∧ A k = x := by
    intro x
    constructor
    · rintro ⟨k, hk, he⟩
      by_cases e : k = 0
      · subst e
        refine ⟨m - 1, by omega, by omega, ?_⟩
        rw [← he]; unfold swapF; rw [if_neg (by omega), if_pos rfl]
      · refine ⟨k, by omega, by omega, ?_⟩
        rw [← he]; unfold swapF; rw [if_neg (by omega), if_neg e]
    · rintro ⟨k, hk0, hk, he⟩
      by_cases e : k = m - 1
      · refine ⟨0, by omega, ?_⟩
        rw [← he, e]; unfold swapF; rw [if_neg (by omega), if_pos rfl]
      · refine ⟨k, by omega, ?_⟩
        rw [← he]; unfold swapF; rw [if_neg e, if_neg (by omega)]
  have hgap : ∀ j, lo ≤ j → j < q → H j < 0 := fun j hj hjq => by
    rcases Int.lt_or_le (H j) 0 with hx | hx
    · exact hx
    · obtain ⟨k, hk, he⟩ := (h.mem (j : Int)).2 ⟨j, rfl, hj, by omega, hx⟩
      have := hmin k hk
      omega
  have hlt : bw < w.heap.size := Nat.lt_of_lt_of_le hc.hw h.sz
  have ho : ∀ o, o ≠ 112 → w'.cell? ⟨bw, o, none⟩ = w.cell? ⟨bw, o, none⟩ := fun o h112 => hK.cell o h112
  refine ⟨q, hq, hlo, hqn, hHq, hgap, ⟨⟨hK.os.trans h.fr.os, hK.tape.trans h.fr.tape, hK.output.trans h.fr.output, Nat.le_trans h.fr.size hK.size, fun k hkB => (hK.block k (by have := hc.hbw; have := hc.hw; omega) (by have := hc.hbw; omega)).trans (h.fr.block k hkB)⟩,
    Nat.le_trans h.sz hK.size, by rw [ho 0 (by omega)]; exact h.c0, fun o hl => ?_, by rw [ho 111 (by omega)]; exact h.ca, by rw [ho 113 (by omega)]; exact h.cb, fun o => by rw [hK.frozen]; exact h.fz o, h.arr.of_block (hK.block ba hc.ha (Ne.symm hc.hne)), hwh, hheap, ?_, ?_, h.hH, h.hL, h.hHL⟩⟩
  · have hr := h.rows o hl
    rw [ho _ (by omega), ho _ (by omega), ho _ (by omega), ho _ (by omega), ho _ (by omega)]
    exact hr
  · refine hS.2 (fun i j hi hj e => ?_)
    have hval : ∀ k, k < m - 1 → swapF A 0 (m - 1) k = A (if k = 0 then m - 1 else k) := fun k hk => by
      unfold swapF
      by_cases e0 : k = 0
      · subst e0; rw [if_neg (by omega), if_pos rfl, if_pos rfl]
      · rw [if_neg (by omega), if_neg e0, if_neg e0]
    rw [hval i hi, hval j hj] at e
    have := h.inj _ _ (by split <;> omega) (by split <;> omega) e
    split at this <;> split at this <;> omega
  · intro x
    rw [← hS.1 x, hsw x]
    constructor
    · rintro ⟨k, hk0, hk, he⟩
      obtain ⟨j, hj, h1, h2, h3⟩ := (h.mem x).1 ⟨k, hk, he⟩
      refine ⟨j, hj, ?_, h2, h3⟩
      have g1 := hmin k hk
      have g2 : A 0 ≠ A k := fun e => by have := h.inj 0 k hm hk e; omega
      omega
    · rintro ⟨j, hj, h1, h2, h3⟩
      obtain ⟨k, hk, he⟩ := (h.mem x).2 ⟨j, hj, by omega, h2, h3⟩
      refine ⟨k, ?_, hk, he⟩
      rcases Nat.eq_zero_or_pos k with e | e
      · subst e; omega
      · exact e

end Go.Proofs.YtidhiaaicmfabaaGreatDoor
