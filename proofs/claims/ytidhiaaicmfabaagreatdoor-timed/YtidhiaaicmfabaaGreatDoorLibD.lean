/- The contract of container/heap's down over the heap of instructions. -/
import Derived.Test.YtidhiaaicmfabaaGreatDoorMem
import Derived.Test.YtidhiaaicmfabaaGreatDoorSpec
import Derived.Test.YtidhiaaicmfabaaGreatDoorRefA
import Derived.Test.YtidhiaaicmfabaaGreatDoorRefC
import Derived.Test.YtidhiaaicmfabaaGreatDoorSpec2
import Derived.Test.YtidhiaaicmfabaaGreatDoorLibB
import Derived.Test.YtidhiaaicmfabaaGreatDoorLibC
import Derived.WalkKit
import Derived.WalkSpells
import Derived.WalkLawsBesides
import Derived.Deep.OwnRows
import Derived.BigQuiet
import Derived.Handy
import Derived.Deep.Light
import Derived.Deep.RegionHeld3
import Derived.Deep.RegionWith
namespace Go.Proofs.YtidhiaaicmfabaaGreatDoor
open Go.RowKit Go.Proofs Go.Deep

theorem lessI (w : World) (g n cap i j : Nat) (ii jj : Int) (A : Nat → Int) (hii : ii = (i : Int)) (hjj : jj = (j : Int)) (hi : i < n) (hj : j < n) (hn : n ≤ 10000) (hA : ∀ k, k < n → w.cell? ⟨g, k, none⟩ = some (.int .i64 (A k)))
    (R : Ending → World → Prop) (fin : ∀ m, R (.returned (.bool (decide (A i < A j)))) (w.drewN m)) :
    Calls Tryz.prog 302 #[.slice (some ⟨g, 0, none⟩) n cap, .int .i64 ii, .int .i64 jj] w R := by
  subst hii hjj; exact less_any w g n cap i j A hi hj hn hA R fin
theorem swapI (w : World) (g n cap i j : Nat) (ii jj : Int) (A : Nat → Int) (hii : ii = (i : Int)) (hjj : jj = (j : Int)) (hi : i < n) (hj : j < n) (hn : n ≤ 10000) (hA : ∀ k, k < n → w.cell? ⟨g, k, none⟩ = some (.int .i64 (A k))) (hf : ∀ k, w.frozen? ⟨g, k, none⟩ = false)
    (R : Ending → World → Prop) (fin : R (.returned (.tuple #[])) ((w.setCell ⟨g, i, none⟩ (.int .i64 (A j))).setCell ⟨g, j, none⟩ (.int .i64 (A i))).drew) :
    Calls Tryz.prog 303 #[.slice (some ⟨g, 0, none⟩) n cap, .int .i64 ii, .int .i64 jj] w R := by
  subst hii hjj; exact swap_any w g n cap i j A hi hj hn hA hf R fin
def HDn (A : Nat → Int) (n i : Nat) : Prop := (∀ c, 0 < c → c < n → (c - 1) / 2 ≠ i → A ((c - 1) / 2) ≤ A c) ∧ (∀ c, 0 < c → c < n → (c - 1) / 2 = i → 0 < i → A ((i - 1) / 2) ≤ A c)
theorem HDn.leaf {A : Nat → Int} {n i : Nat} (h : HDn A n i) (hl : n ≤ 2 * i + 1) : Heap A n := fun c h0 hc => h.1 c h0 hc (by omega)
theorem HDn.done {A : Nat → Int} {n i : Nat} (h : HDn A n i) (h1 : 2 * i + 1 < n → A i ≤ A (2 * i + 1)) (h2 : 2 * i + 2 < n → A i ≤ A (2 * i + 2)) : Heap A n := fun c h0 hc => by
  by_cases e : (c - 1) / 2 = i
  · rw [e]
    have : c = 2 * i + 1 ∨ c = 2 * i + 2 := by omega
    rcases this with rfl | rfl
    · exact h1 hc
    · exact h2 hc
  · exact h.1 c h0 hc e
theorem HDn.next {A : Nat → Int} {n i c : Nat} (h : HDn A n i) (hc : c = 2 * i + 1 ∨ c = 2 * i + 2) (hcn : c < n) (hlt : A c < A i) (hmin : ∀ d, (d = 2 * i + 1 ∨ d = 2 * i + 2) → d < n → A c ≤ A d) : HDn (swapF A i c) n c := by
  have hci : c ≠ i := by omega
  have hpc : (c - 1) / 2 = i := by omega
  constructor
  · intro d h0 hd hne
    by_cases e : d = c
    · subst e; rw [hpc]; unfold swapF; simp [Ne.symm hci]; omega
    · by_cases e1 : d = i
      · subst e1
        have q1 : (d - 1) / 2 ≠ d := by omega
        have h2 := h.2 c (by omega) hcn hpc h0
        unfold swapF; simp [e, hne, q1]; exact h2
      · by_cases e2 : (d - 1) / 2 = i
        · have h3 := hmin d (by omega) hd
          unfold swapF; simp [e, e1, e2, Ne.symm hci]; exact h3
        · have h3 := h.1 d h0 hd e2
          unfold swapF; simp [e, e1, e2, hne]; exact h3
  · intro d h0 hd hpd _
    rw [hpc]
    have e : d ≠ c := by omega
    have e1 : d ≠ i := by omega
    have h3 := h.1 d h0 hd (by omega)
    rw [hpd] at h3
    unfold swapF; simp [e, e1, Ne.symm hci]; exact h3
theorem Same.swapN (A : Nat → Int) {n N i j : Nat} (hi : i < n) (hj : j < n) (_ : n ≤ N) : Same A (swapF A i j) n ∧ (∀ k, n ≤ k → swapF A i j k = A k) :=
  ⟨Same.swap A hi hj, fun k hk => by unfold swapF; rw [if_neg (by omega), if_neg (by omega)]⟩

set_option maxRecDepth 100000 in
set_option maxHeartbeats 4000000 in
theorem down_any (w : World) (p : Addr) (g N n cap j0 : Nat) (A : Nat → Int) (hj : j0 ≤ n) (hnN : n ≤ N) (hN : N ≤ 10000) (hpg : p.block ≠ g) (hp : w.cell? p = some (.slice (some ⟨g, 0, none⟩) N cap)) (hA : Rw w g cap N A) (hh : HDn A n j0)
    (R : Ending → World → Prop) (fin : ∀ (b : Bool) A' w', Only g w w' → Rw w' g cap N A' → Heap A' n → Same A A' n → (∀ k, n ≤ k → A' k = A k) → R (.returned (.bool b)) w') :
    Calls Tryz.prog 185 #[.iface 220 (.pointer (some p)), .int .i64 (j0 : Int), .int .i64 (n : Int)] w R := by
  have hpb : p.block < w.heap.size := World.block_lt_of_cell? w _ hp
  replace fin := hd fin
  replace hA := hd hA
  replace hh := hd hh
  go_enter Tryz.func185, Tryz.ntmps185
  go_wp2
  go_loopw [7] (fun i wr => ∃ (k : Nat) (B : Nat → Int), i = .int .i64 k ∧ k ≤ n ∧ Only g w wr ∧ Rw wr g cap N B ∧ HDn B n k ∧ Same A B n ∧ (∀ k, n ≤ k → B k = A k)) (fun i _ => n - (intOf i).toNat)
  case atStart => exact ⟨j0, A, rfl, hj, Only.refl _ _, hA.out, hh.out, Same.refl _ _, fun _ _ => rfl⟩
  case round =>
    obtain ⟨k, B, rfl, hk, honly, hB, hH, hS, hT⟩ := hrel
    have hp' : wr.cell? p = some (.slice (some ⟨g, 0, none⟩) N cap) := by rw [honly.cell hpb hpg]; exact hp
    replace honly := hd honly
    replace hB := hd hB
    replace hH := hd hH
    replace hS := hd hS
    replace hT := hd hT
    have k1 : (k : Int) ≤ 10000 := by omega
    have d0 : decide (2 * (k : Int) + 1 < 0) = false := by simp; omega
    by_cases hleaf : n ≤ 2 * k + 1
    · have d1 : decide ((n : Int) ≤ 2 * (k : Int) + 1) = true := by simp; omega
      go_wp2_with (fail)
      exact cl1 (fin.out _ B wr honly.out hB.out (HDn.leaf hH.out hleaf) hS.out hT.out) rfl
    · have d1 : decide ((n : Int) ≤ 2 * (k : Int) + 1) = false := by simp; omega
      have hml := fun m => meth_less 504 p _ _ _ (wr.drewN m) hp'
      have hml0 := meth_less 504 p _ _ _ wr hp'
      have hms := fun m => meth_swap 504 p _ _ _ (wr.drewN m) hp'
      by_cases h2 : 2 * k + 2 < n
      · have d2 : decide (2 * (k : Int) + 1 + 1 < (n : Int)) = true := by simp; omega
        go_wp2_with (fail)
        refine lessI _ g N cap (2 * k + 2) (2 * k + 1) _ _ B (by omega) (by omega) (by omega) (by omega) hN hB.out.1 _ ?_
        intro m
        by_cases hl : B (2 * k + 2) < B (2 * k + 1)
        · have dl : decide (B (2 * k + 2) < B (2 * k + 1)) = true := by simpa using hl
          go_wp2_with (fail)
          refine lessI _ g N cap (2 * k + 2) k _ _ B (by omega) rfl (by omega) (by omega) hN (by exact hB.out.1) _ ?_
          intro m2
          by_cases hl2 : B (2 * k + 2) < B k
          · have dl2 : decide (B (2 * k + 2) < B k) = true := by simpa using hl2
            go_wp2_with (fail)
            refine swapI _ g N cap k (2 * k + 2) _ _ B rfl (by omega) (by omega) (by omega) hN (by exact hB.out.1) (by exact hB.out.2.1) _ ?_
            go_wp2
            refine ⟨⟨2 * k + 2, swapF B k (2 * k + 2), by go_num, by omega, ?_, ?_, ?_, ?_, ?_⟩, by simp [intOf]; omega⟩
            · exact (((honly.out.drewN _).setCell (a := ⟨g, k, none⟩) (.inl rfl) _).setCell (a := ⟨g, 2 * k + 2, none⟩) (.inl rfl) _).drew
            · exact Rw.swap (w := wr) hB.out (by omega) (by omega)
            · exact hH.out.next (by omega) (by omega) hl2 (fun d hd1 hdn => by rcases hd1 with rfl | rfl <;> omega)
            · exact hS.out.trans (Same.swap B (by omega) (by omega))
            · intro q hq
              rw [(Same.swapN B (n := n) (N := N) (i := k) (j := 2 * k + 2) (by omega) (by omega) hnN).2 q hq]
              exact hT.out q hq
          · have dl2 : decide (B (2 * k + 2) < B k) = false := by simpa using hl2
            go_wp2_with (fail)
            exact cl1 (fin.out _ B _ (honly.out.drewN _) hB.out (HDn.done hH.out (fun _ => by omega) (fun _ => by omega)) hS.out hT.out) rfl
        · have dl : decide (B (2 * k + 2) < B (2 * k + 1)) = false := by simpa using hl
          go_wp2_with (fail)
          refine lessI _ g N cap (2 * k + 1) k _ _ B (by omega) rfl (by omega) (by omega) hN (by exact hB.out.1) _ ?_
          intro m2
          by_cases hl2 : B (2 * k + 1) < B k
          · have dl2 : decide (B (2 * k + 1) < B k) = true := by simpa using hl2
            go_wp2_with (fail)
            refine swapI _ g N cap k (2 * k + 1) _ _ B rfl (by omega) (by omega) (by omega) hN (by exact hB.out.1) (by exact hB.out.2.1) _ ?_
            go_wp2
            refine ⟨⟨2 * k + 1, swapF B k (2 * k + 1), by go_num, by omega, ?_, ?_, ?_, ?_, ?_⟩, by simp [intOf]; omega⟩
            · exact (((honly.out.drewN _).setCell (a := ⟨g, k, none⟩) (.inl rfl) _).setCell (a := ⟨g, 2 * k + 1, none⟩) (.inl rfl) _).drew
            · exact Rw.swap (w := wr) hB.out (by omega) (by omega)
            · exact hH.out.next (by omega) (by omega) hl2 (fun d hd1 hdn => by rcases hd1 with rfl | rfl <;> omega)
            · exact hS.out.trans (Same.swap B (by omega) (by omega))
            · intro q hq
              rw [(Same.swapN B (n := n) (N := N) (i := k) (j := 2 * k + 1) (by omega) (by omega) hnN).2 q hq]
              exact hT.out q hq
          · have dl2 : decide (B (2 * k + 1) < B k) = false := by simpa using hl2
            go_wp2_with (fail)
            exact cl1 (fin.out _ B _ (honly.out.drewN _) hB.out (HDn.done hH.out (fun _ => by omega) (fun _ => by omega)) hS.out hT.out) rfl
      · have d2 : decide (2 * (k : Int) + 1 + 1 < (n : Int)) = false := by simp; omega
        go_wp2_with (fail)
        refine lessI _ g N cap (2 * k + 1) k _ _ B (by omega) rfl (by omega) (by omega) hN (by exact hB.out.1) _ ?_
        intro m2
        by_cases hl2 : B (2 * k + 1) < B k
        · have dl2 : decide (B (2 * k + 1) < B k) = true := by simpa using hl2
          go_wp2_with (fail)
          refine swapI _ g N cap k (2 * k + 1) _ _ B rfl (by omega) (by omega) (by omega) hN (by exact hB.out.1) (by exact hB.out.2.1) _ ?_
          go_wp2
          refine ⟨⟨2 * k + 1, swapF B k (2 * k + 1), by go_num, by omega, ?_, ?_, ?_, ?_, ?_⟩, by simp [intOf]; omega⟩
          · exact (((honly.out.drewN _).setCell (a := ⟨g, k, none⟩) (.inl rfl) _).setCell (a := ⟨g, 2 * k + 1, none⟩) (.inl rfl) _).drew
          · exact Rw.swap (w := wr) hB.out (by omega) (by omega)
          · exact hH.out.next (by omega) (by omega) hl2 (fun d hd1 hdn => by rcases hd1 with rfl | rfl <;> omega)
          · exact hS.out.trans (Same.swap B (by omega) (by omega))
          · intro q hq
            rw [(Same.swapN B (n := n) (N := N) (i := k) (j := 2 * k + 1) (by omega) (by omega) hnN).2 q hq]
            exact hT.out q hq
        · have dl2 : decide (B (2 * k + 1) < B k) = false := by simpa using hl2
          go_wp2_with (fail)
          exact cl1 (fin.out _ B _ (honly.out.drewN _) hB.out (HDn.done hH.out (fun _ => by omega) (fun _ => by exfalso; omega)) hS.out hT.out) rfl

end Go.Proofs.YtidhiaaicmfabaaGreatDoor
