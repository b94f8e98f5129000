/- A scan's beginning and end: what is kept, and what the deferred function leaves. -/
import Derived.Test.YtidhiaaicmfabaaMem
import Derived.Test.YtidhiaaicmfabaaSpec
import Derived.Test.YtidhiaaicmfabaaRefA
import Derived.Test.YtidhiaaicmfabaaRefC
import Derived.Test.YtidhiaaicmfabaaSpec2
import Derived.WalkKit
import Derived.WalkSpells
import Derived.WalkLawsBesides
import Derived.Deep.OwnRows
import Derived.BigQuiet
import Derived.Handy
import Derived.Deep.Light
import Derived.Deep.RegionHeld3
import Derived.Deep.RegionWith
import Derived.Test.YtidhiaaicmfabaaSemL
import Derived.Defers
import Derived.Recover
namespace Go.Proofs.Ytidhiaaicmfabaa
open Go.RowKit Go.Proofs Go.Deep

theorem tab_list {w : World} {b n : Nat} {rl kd : Nat → Nat} {C : Nat → Int} (h : Tab w b 93 3 n n (cellV rl kd C)) : ∃ news : List Value, w.heap[b]? = some (.cells news.toArray 93) ∧ news.length = n * 3 ∧ (∀ u ∈ news, u.oneCell' = true) ∧ ∀ i, i < n → ∀ f, f < 3 → news[i * 3 + f]? = some (cellV rl kd C i f) := by
  obtain ⟨cur, h1, h2, h3, h4⟩ := h
  refine ⟨cur.toList, by simpa using h1, by simpa using h2, fun u hu => ?_, fun i hi f hf => by simpa using h4 i hi f hf⟩
  obtain ⟨j, hj, e⟩ := List.getElem_of_mem hu
  have hjn : j < n * 3 := by simp at hj; omega
  have := h4 (j / 3) (by omega) (j % 3) (by omega)
  rw [show j / 3 * 3 + j % 3 = j by omega] at this
  have e2 : cur.toList[j]? = some u := by rw [List.getElem?_eq_getElem hj, e]
  rw [Array.getElem?_toList, this] at e2
  injection e2 with e2
  subst e2
  unfold cellV
  split
  · rfl
  · split <;> rfl
set_option maxRecDepth 100000 in
theorem clone_any (w : World) (bc nC : Nat) (rl kd : Nat → Nat) (C : Nat → Int) (hC : nC ≤ 100) (ht : Tab w bc 93 3 nC nC (cellV rl kd C)) (R : Ending → World → Prop)
    (fin : ∀ v news w', Below w.heap.size w w' → w'.ownsRow w.heap.size 93 3 v nC news → (∀ i, i < nC → ∀ f, f < 3 → news[i * 3 + f]? = some (cellV rl kd C i f)) → R (.returned v) w') :
    Calls Try.prog 44 #[.slice (some ⟨bc, 0, none⟩) nC nC] w R := by
  obtain ⟨news, hg, hl, h1, hcs⟩ := tab_list ht
  have hbc := ht.lt
  have hown0 : Hid ((w.alloc (.cells #[] 93)).ownsRow w.heap.size 93 3 (.slice (some ⟨w.heap.size, 0, none⟩) 0 0) 0 []) := hd (World.ownsRow_made w #[] 0 (Nat.le_refl _) (by unfold maxLen; omega) rfl)
  have hnil : ∀ w : World, (binOp BinOp.eql 44 (.slice (some ⟨bc, 0, none⟩) nC nC) (.slice none 0 0)).run Try.prog w = .ok (.bool false) w := fun w => Lib.run_eql_slice_nil w 44 93 _ _ _ _ _ ulVCells
  replace fin := hd fin
  replace hg := hd hg
  replace h1 := hd h1
  replace hcs := hd hcs
  clear ht
  go_enter Try.func44, Try.ntmps44
  go_wp2_with (first | (at_builtin; refine wpList_app _ rfl _ _ 44 rfl w.heap.size 93 _ 3 8 ulVCells infoVCell rfl (by decide) _ 0 [] rfl (by exact hown0.out) bc nC nC news rfl (by exact (Below.heap_alloc w _ bc hbc).trans hg.out) (by exact hl) h1.out (by unfold maxLen; omega) (by omega) (by simp) ?_; intro v1 w1 hown1 hgr1; replace hown1 := hd hown1; replace hgr1 := hd hgr1))
  have hb : Below w.heap.size w w1 := ⟨hgr1.out.os, hgr1.out.tape, hgr1.out.output, Nat.le_trans (by simp) hgr1.out.size, fun k hk => (hgr1.out.block k (by rw [World.size_alloc]; omega) (show some k ≠ some w.heap.size by intro e; injection e; omega)).trans (Below.heap_alloc w _ k hk)⟩
  exact cl1 (fin.out v1 news w1 hb (by have := hown1.out; simpa using this) hcs.out) rfl
/-- What the deferred function of a scan leaves: how many steps were done; at an error the cells as they were, and the error. -/
theorem left_ok (w : World) (br bx b3 b6 b7 : Nat) (dn d0 : Int) (u : FrameMode) (h1 : w.cell? ⟨br, 116, none⟩ = some (.int .i64 dn)) (h2 : w.cell? ⟨b3, 0, none⟩ = some (.pointer (some ⟨bx, 0, none⟩))) (h3 : w.cell? ⟨b6, 0, none⟩ = some (.int .i64 0))
    (h4 : w.cell? ⟨bx, 3, none⟩ = some (.int .i64 d0)) (f4 : w.frozen? ⟨bx, 3, none⟩ = false) :
    CallsD Try.prog 45 #[.pointer (some ⟨br, 0, none⟩), .pointer (some ⟨b3, 0, none⟩), .pointer (some ⟨b6, 0, none⟩), .pointer (some ⟨b7, 0, none⟩)] u w fun ed u' w' => u' = u ∧ (ed = .returned (.tuple #[]) ∧ w' = w.setCell ⟨bx, 3, none⟩ (.int .i64 dn)) := by
  go_enter_d Try.func45, Try.ntmps45
  go_wp2
  go_end0
  exact ⟨rfl, rfl⟩
theorem left_err (w : World) (br bx b3 b6 b7 : Nat) (dn d0 e f0 : Int) (av cv : Value) (u : FrameMode) (h1 : w.cell? ⟨br, 116, none⟩ = some (.int .i64 dn)) (h2 : w.cell? ⟨b3, 0, none⟩ = some (.pointer (some ⟨bx, 0, none⟩))) (h3 : w.cell? ⟨b6, 0, none⟩ = some (.int .i64 e)) (he : e ≠ 0)
    (h4 : w.cell? ⟨bx, 3, none⟩ = some (.int .i64 d0)) (h5 : w.cell? ⟨bx, 0, none⟩ = some cv) (h6 : w.cell? ⟨bx, 4, none⟩ = some (.int .i64 f0)) (h7 : w.cell? ⟨b7, 0, none⟩ = some av) (ha : ∃ ao n cap, av = .slice ao n cap) (f4 : ∀ j, w.frozen? ⟨bx, j, none⟩ = false) :
    CallsD Try.prog 45 #[.pointer (some ⟨br, 0, none⟩), .pointer (some ⟨b3, 0, none⟩), .pointer (some ⟨b6, 0, none⟩), .pointer (some ⟨b7, 0, none⟩)] u w fun ed u' w' => u' = u ∧ (ed = .returned (.tuple #[]) ∧ w' = ((w.setCell ⟨bx, 3, none⟩ (.int .i64 dn)).setCell ⟨bx, 0, none⟩ av).setCell ⟨bx, 4, none⟩ (.int .i64 e)) := by
  obtain ⟨ao, n, cap, rfl⟩ := ha
  have te : (e != 0) = true := by simpa using he
  have g3 := f4 3
  have g0 := f4 0
  have g4 := f4 4
  clear f4
  go_enter_d Try.func45, Try.ntmps45
  go_wp2
  go_end0
  exact ⟨rfl, rfl⟩

end Go.Proofs.Ytidhiaaicmfabaa
