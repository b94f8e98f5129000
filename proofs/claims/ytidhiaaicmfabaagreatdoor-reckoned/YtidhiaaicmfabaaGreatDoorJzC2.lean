/- Leaves of Reckoned's expressions. -/
import Derived.Test.YtidhiaaicmfabaaGreatDoorKaA
import Derived.WalkKit
import Derived.WalkSpells
import Derived.WalkLawsBesides
import Derived.Deep.OwnRows
import Derived.BigQuiet
import Derived.Handy
import Derived.Deep.Light
import Derived.Deep.RegionHeld3
import Derived.Deep.RegionWith
import Derived.Test.YtidhiaaicmfabaaGreatDoorJzW

/- Leaves of Reckoned's expressions (seat .ZD alone). -/
namespace Go.Proofs.YtidhiaaicmfabaaGreatDoor
open Go.RowKit Go.Proofs Go.Deep

/-- How the raw number at a place is come by. -/
def RawAt (w : World) (ao : Option Addr) (raw : List Int) (at_ : Nat) (k : Int) : Prop :=
  (at_ < raw.length ∧ decide ((at_ : Int) < (raw.length : Int)) = true ∧ ∃ g o, ao = some ⟨g, o, none⟩ ∧ g < w.heap.size ∧ w.cell? ⟨g, o + at_, none⟩ = some (.int .i64 k)) ∨ (¬ at_ < raw.length ∧ decide ((at_ : Int) < (raw.length : Int)) = false ∧ k = 0)
theorem raw_at {nb : Nat} {w : World} {ao : Option Addr} {cp : Nat} {raw : List Int} (hv : InpAt nb w (.slice ao raw.length cp) raw) (at_ : Nat) : RawAt w ao raw at_ (raw.getD at_ 0) := by
  obtain ⟨ao', cp', e, hcp, hcs⟩ := hv
  injection e with e1 e2 e3
  subst e1
  by_cases h : at_ < raw.length
  · obtain ⟨k, hk⟩ : ∃ k, raw[at_]? = some k := ⟨_, List.getElem?_eq_getElem h⟩
    have e : raw.getD at_ 0 = k := by rw [List.getD_eq_getElem?_getD, hk]; rfl
    rw [e]
    rcases hcs with ⟨g, o, e, _, h2⟩ | h2
    · have h3 := h2 at_ k hk
      exact .inl ⟨h, by simp; omega, g, o, e, World.block_lt_of_cell? w _ h3, h3⟩
    · subst h2; simp at h
  · exact .inr ⟨h, by simp; omega, by rw [List.getD_eq_getElem?_getD, List.getElem?_eq_none (by omega)]; rfl⟩
set_option maxRecDepth 100000 in
set_option maxHeartbeats 1000000 in
theorem term_c (raw : List Int) (a b c : Int) (D at_ : Nat) (w : World) (ao : Option Addr) (cp : Nat) (k : Int) (hkb : -9223372036854775808 ≤ k ∧ k ≤ 9223372036854775807) (hr : RawAt w ao raw at_ k) (hD : D ≤ 4) (hat : at_ ≤ 40) (hn : pickV k 12 = 8) (R : Ending → World → Prop)
    (fin : ∀ w', Below w.heap.size w w' → R (.returned (.tuple #[.string nmC, .int .i64 c, .int .i64 2, .int .i64 ((at_ + 1 : Nat) : Int)])) w') :
    Calls Tryz.prog 34 #[.slice ao raw.length cp, .int .i64 (at_ : Int), .int .i64 (D : Int), .agg #[.int .i64 a, .int .i64 b, .int .i64 c]] w R := by
  have b0 : ∀ n, Below w.heap.size w ((w.alloc (.cells #[.int .i64 a, .int .i64 b, .int .i64 c] 68)).drewN n) := fun n => below_drewN ((Below.refl _ w).alloc (Nat.le_refl _) _) n
  replace fin := hd fin
  replace b0 := hd b0
  have tD : (D = 0 ∧ decide ((0 : Int) < (D : Int)) = false) ∨ (0 < D ∧ decide ((0 : Int) < (D : Int)) = true) := by
    by_cases h : D = 0
    · exact .inl ⟨h, by simp; omega⟩
    · exact .inr ⟨by omega, by simp; omega⟩
  rcases hr with ⟨hlt, tl, g, o, rfl, hg, ck⟩ | ⟨hlt, tl, rfl⟩
  all_goals
    rcases tD with ⟨rfl, tD⟩ | ⟨h0, tD⟩
    all_goals
      go_enter Tryz.func34, Tryz.ntmps34
      go_wp2_with (first | (go_at_call 37; refine pick_any _ _ _ hkb (by omega) _ ?_; rw [hn]))
      go_quiet (fail)
      go_wp2
      exact bodyPost_ret (v := .tuple #[.string nmC, .int .i64 c, .int .i64 2, .int .i64 ((at_ + 1 : Nat) : Int)]) (by simp [results, Tryz.results34, go_sem]; rfl) rfl (fin.out _ (b0.out _))
set_option maxRecDepth 100000 in
set_option maxHeartbeats 1000000 in
theorem term_b (raw : List Int) (a b c : Int) (D at_ : Nat) (w : World) (ao : Option Addr) (cp : Nat) (k : Int) (hkb : -9223372036854775808 ≤ k ∧ k ≤ 9223372036854775807) (hr : RawAt w ao raw at_ k) (hD : D ≤ 4) (hat : at_ ≤ 40) (hn : pickV k 12 = 9) (R : Ending → World → Prop)
    (fin : ∀ w', Below w.heap.size w w' → R (.returned (.tuple #[.string nmB, .int .i64 b, .int .i64 1, .int .i64 ((at_ + 1 : Nat) : Int)])) w') :
    Calls Tryz.prog 34 #[.slice ao raw.length cp, .int .i64 (at_ : Int), .int .i64 (D : Int), .agg #[.int .i64 a, .int .i64 b, .int .i64 c]] w R := by
  have b0 : ∀ n, Below w.heap.size w ((w.alloc (.cells #[.int .i64 a, .int .i64 b, .int .i64 c] 68)).drewN n) := fun n => below_drewN ((Below.refl _ w).alloc (Nat.le_refl _) _) n
  replace fin := hd fin
  replace b0 := hd b0
  have tD : (D = 0 ∧ decide ((0 : Int) < (D : Int)) = false) ∨ (0 < D ∧ decide ((0 : Int) < (D : Int)) = true) := by
    by_cases h : D = 0
    · exact .inl ⟨h, by simp; omega⟩
    · exact .inr ⟨by omega, by simp; omega⟩
  rcases hr with ⟨hlt, tl, g, o, rfl, hg, ck⟩ | ⟨hlt, tl, rfl⟩
  all_goals
    rcases tD with ⟨rfl, tD⟩ | ⟨h0, tD⟩
    all_goals
      go_enter Tryz.func34, Tryz.ntmps34
      go_wp2_with (first | (go_at_call 37; refine pick_any _ _ _ hkb (by omega) _ ?_; rw [hn]))
      go_quiet (fail)
      go_wp2
      exact bodyPost_ret (v := .tuple #[.string nmB, .int .i64 b, .int .i64 1, .int .i64 ((at_ + 1 : Nat) : Int)]) (by simp [results, Tryz.results34, go_sem]; rfl) rfl (fin.out _ (b0.out _))
set_option maxRecDepth 100000 in
set_option maxHeartbeats 1000000 in
theorem term_a (raw : List Int) (a b c : Int) (D at_ : Nat) (w : World) (ao : Option Addr) (cp : Nat) (k : Int) (hkb : -9223372036854775808 ≤ k ∧ k ≤ 9223372036854775807) (hr : RawAt w ao raw at_ k) (hD : D ≤ 4) (hat : at_ ≤ 40) {n : Int} (hn : pickV k 12 = n) (hn7 : n ≠ 7 ∧ n ≠ 8 ∧ n ≠ 9) (hl : D = 0 ∨ 7 ≤ n) (R : Ending → World → Prop)
    (fin : ∀ w', Below w.heap.size w w' → R (.returned (.tuple #[.string nmA, .int .i64 a, .int .i64 1, .int .i64 ((at_ + 1 : Nat) : Int)])) w') :
    Calls Tryz.prog 34 #[.slice ao raw.length cp, .int .i64 (at_ : Int), .int .i64 (D : Int), .agg #[.int .i64 a, .int .i64 b, .int .i64 c]] w R := by
  have b0 : ∀ n, Below w.heap.size w ((w.alloc (.cells #[.int .i64 a, .int .i64 b, .int .i64 c] 68)).drewN n) := fun n => below_drewN ((Below.refl _ w).alloc (Nat.le_refl _) _) n
  replace fin := hd fin
  replace b0 := hd b0
  have t7 : (n == 7) = false := by simpa using hn7.1
  have t8 : (n == 8) = false := by simpa using hn7.2.1
  have t9 : (n == 9) = false := by simpa using hn7.2.2
  have tD : (D = 0 ∧ decide ((0 : Int) < (D : Int)) = false) ∨ (0 < D ∧ decide ((0 : Int) < (D : Int)) = true ∧ decide (n < 7) = false) := by
    by_cases h : D = 0
    · exact .inl ⟨h, by simp; omega⟩
    · exact .inr ⟨by omega, by simp; omega, by simp; omega⟩
  rcases hr with ⟨hlt, tl, g, o, rfl, hg, ck⟩ | ⟨hlt, tl, rfl⟩
  all_goals
    rcases tD with ⟨rfl, tD⟩ | ⟨h0, tD, t6⟩
    all_goals
      go_enter Tryz.func34, Tryz.ntmps34
      go_wp2_with (first | (go_at_call 37; refine pick_any _ _ _ hkb (by omega) _ ?_; rw [hn]))
      go_quiet (fail)
      go_wp2
      exact bodyPost_ret (v := .tuple #[.string nmA, .int .i64 a, .int .i64 1, .int .i64 ((at_ + 1 : Nat) : Int)]) (by simp [results, Tryz.results34, go_sem]; rfl) rfl (fin.out _ (b0.out _))
set_option maxRecDepth 100000 in
set_option maxHeartbeats 1000000 in
theorem term_n (raw : List Int) (a b c : Int) (D at_ : Nat) (w : World) (ao : Option Addr) (cp : Nat) (k : Int) (hkb : -9223372036854775808 ≤ k ∧ k ≤ 9223372036854775807) (hr : RawAt w ao raw at_ k) (hD : D ≤ 4) (hat : at_ ≤ 40) (hn : pickV k 12 = 7) (R : Ending → World → Prop)
    (fin : ∀ w', Below w.heap.size w w' → R (.returned (.tuple #[.string (ba (litB (k.tmod 100000))), .int .i64 (k.tmod 100000), .int .i64 (if -32768 ≤ k.tmod 100000 ∧ k.tmod 100000 ≤ 32767 then 1 else 2), .int .i64 ((at_ + 1 : Nat) : Int)])) w') :
    Calls Tryz.prog 34 #[.slice ao raw.length cp, .int .i64 (at_ : Int), .int .i64 (D : Int), .agg #[.int .i64 a, .int .i64 b, .int .i64 c]] w R := by
  have b0 : Below w.heap.size w (w.alloc (.cells #[.int .i64 a, .int .i64 b, .int .i64 c] 68)) := (Below.refl _ w).alloc (Nat.le_refl _) _
  have h1 : (k.tmod 100000).natAbs < 100000 := by rw [Int.natAbs_tmod]; exact Nat.mod_lt _ (by decide)
  have hx : -100000 < k.tmod 100000 ∧ k.tmod 100000 < 100000 := by omega
  have hs : (∃ q : Int, q = 1 ∧ q = (if -32768 ≤ k.tmod 100000 ∧ k.tmod 100000 ≤ 32767 then 1 else 2) ∧ (IntKind.i16.wrap (k.tmod 100000) == k.tmod 100000) = true) ∨ (∃ q : Int, q = 2 ∧ q = (if -32768 ≤ k.tmod 100000 ∧ k.tmod 100000 ≤ 32767 then 1 else 2) ∧ (IntKind.i16.wrap (k.tmod 100000) == k.tmod 100000) = false) := by
    have hb := i16_bd (k.tmod 100000)
    by_cases h : -32768 ≤ k.tmod 100000 ∧ k.tmod 100000 ≤ 32767
    · refine .inl ⟨1, rfl, by rw [if_pos h], ?_⟩
      have e : IntKind.i16.wrap (k.tmod 100000) = k.tmod 100000 := by
        unfold IntKind.wrap
        by_cases h3 : k.tmod 100000 % 65536 ≥ 32768 <;> simp [IntKind.bits, IntKind.signed, h3] <;> omega
      rw [e]; simp
    · exact .inr ⟨2, rfl, by rw [if_neg h], by simp; omega⟩
  have tD : (D = 0 ∧ decide ((0 : Int) < (D : Int)) = false) ∨ (0 < D ∧ decide ((0 : Int) < (D : Int)) = true) := by
    by_cases h : D = 0
    · exact .inl ⟨h, by simp; omega⟩
    · exact .inr ⟨by omega, by simp; omega⟩
  generalize hX : k.tmod 100000 = x at *
  replace fin := hd fin
  replace b0 := hd b0
  rcases hr with ⟨hlt, tl, g, o, rfl, hg, ck⟩ | ⟨hlt, tl, rfl⟩
  all_goals
    rcases tD with ⟨rfl, tD⟩ | ⟨h0, tD⟩
    all_goals
      rcases hs with ⟨q, hq, hq2, ts⟩ | ⟨q, hq, hq2, ts⟩
      all_goals
        go_enter Tryz.func34, Tryz.ntmps34
        go_wp2_with (first | (go_at_call 37; refine pick_any _ _ _ hkb (by omega) _ ?_; rw [hn]) | (go_at_call 32; refine short_any _ _ _ ?_))
        refine digits_any _ _ hx _ ?_
        intro w2 hb2
        have hB := hd (b0.out.trans (hb2.mono b0.out.size))
        clear hb2
        go_wp2
        have hend := fin.out _ hB.out
        rw [← hq2, hq] at hend
        exact bodyPost_ret (by simp [results, Tryz.results34, go_sem]) rfl hend

end Go.Proofs.YtidhiaaicmfabaaGreatDoor
