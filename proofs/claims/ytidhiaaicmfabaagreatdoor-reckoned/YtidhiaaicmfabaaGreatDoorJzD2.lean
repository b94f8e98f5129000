/- Reckoned's expressions are made. -/
import Derived.Test.YtidhiaaicmfabaaGreatDoorKaA
import Derived.WalkKit
import Derived.WalkSpells
import Derived.WalkLawsBesides
import Derived.Deep.OwnRows
import Derived.BigQuiet
import Derived.Handy
import Derived.Deep.Light
import Derived.Deep.RegionHeld3
import Derived.Deep.RegionWith
import Derived.Test.YtidhiaaicmfabaaGreatDoorJzC2

/- Reckoned's expressions are made (seat .ZD alone). -/
namespace Go.Proofs.YtidhiaaicmfabaaGreatDoor
open Go.RowKit Go.Proofs Go.Deep

theorem mul_in {x y : Int} (hx : in32 x) (hy : in32 y) : -4611686018427387904 ≤ x * y ∧ x * y ≤ 4611686018427387904 := by
  unfold in32 at hx hy
  have h1 : (x * y).natAbs ≤ 2147483648 * 2147483648 := by
    rw [Int.natAbs_mul]
    exact Nat.mul_le_mul (by omega) (by omega)
  omega
theorem str_bin (o : Nat) (ho : o < 3) (l r : Ex) : ((((((ba [40] ++ ba (strE l)) ++ ba [32]) ++ opS o) ++ ba [32]) ++ ba (strE r)) ++ ba [41]) = ba (strE (.bin o l r)) := by
  have e : opS o = ba (opS o).data.toList := by
    have h2 : o = 0 ∨ o = 1 ∨ o = 2 := by omega
    rcases h2 with rfl | rfl | rfl <;> rfl
  rw [e, ba_app, ba_app, ba_app, ba_app, ba_app, ba_app]
  simp only [strE, List.append_assoc, List.cons_append, List.nil_append]
theorem kE_binR (o : Nat) (ho : o < 3) (l r : Ex) : kE (rkV 1) (.bin o l r) = max (kE (rkV 1) l) (kE (rkV 1) r) := by
  have hf : opF o = 0 := by
    have : ∀ o, o < 3 → opF o = 0 := by decide
    exact this o ho
  simp only [kE, hf, if_true]
def opV (o : Nat) (x y : Int) : Int := if o = 0 then x + y else if o = 1 then x - y else x * y
theorem val_bin (a b c : Int) (o : Nat) (ho : o < 3) (l r : Ex) : valT a b c (.bin o l r) = if max (kE (rkV 1) l) (kE (rkV 1) r) = 1 then IntKind.i16.wrap (opV o (valT a b c l) (valT a b c r)) else wrap32 (opV o (valT a b c l) (valT a b c r)) := by
  have h := kE_binR o ho l r
  simp only [valT, h, opV]
set_option maxRecDepth 100000 in
set_option maxHeartbeats 8000000 in
theorem term_any (raw : List Int) (hraw : ∀ x ∈ raw, -9223372036854775808 ≤ x ∧ x ≤ 9223372036854775807) (a b c : Int) (ha : -32768 ≤ a ∧ a ≤ 32767) (hb : -32768 ≤ b ∧ b ≤ 32767) (hc : in32 c) : ∀ (d at_ : Nat) (w : World) (ao : Option Addr) (cp nb : Nat), InpAt nb w (.slice ao raw.length cp) raw → d ≤ 4 → at_ + ndT d ≤ 40 → ∀ (R : Ending → World → Prop),
    (∀ w', Below w.heap.size w w' → R (.returned (.tuple #[.string (ba (strE (termT raw d at_).1)), .int .i64 (valT a b c (termT raw d at_).1), .int .i64 (kE (rkV 1) (termT raw d at_).1), .int .i64 ((termT raw d at_).2 : Nat)])) w') →
    Calls Tryz.prog 34 #[.slice ao raw.length cp, .int .i64 (at_ : Int), .int .i64 (d : Int), .agg #[.int .i64 a, .int .i64 b, .int .i64 c]] w R := by
  have hkb : ∀ at_, -9223372036854775808 ≤ raw.getD at_ 0 ∧ raw.getD at_ 0 ≤ 9223372036854775807 := fun at_ => by
    rw [List.getD_eq_getElem?_getD]
    cases h : raw[at_]? with
    | none => simp
    | some x => exact hraw x (List.mem_of_getElem? h)
  have leaf : ∀ (d at_ : Nat) (w : World) (ao : Option Addr) (cp nb : Nat), InpAt nb w (.slice ao raw.length cp) raw → d ≤ 4 → at_ ≤ 40 → (d = 0 ∨ 7 ≤ pickV (raw.getD at_ 0) 12) → ∀ (R : Ending → World → Prop),
      (∀ w', Below w.heap.size w w' → R (.returned (.tuple #[.string (ba (strE (leafT (raw.getD at_ 0)))), .int .i64 (valT a b c (leafT (raw.getD at_ 0))), .int .i64 (kE (rkV 1) (leafT (raw.getD at_ 0))), .int .i64 ((at_ + 1 : Nat) : Int)])) w') →
      Calls Tryz.prog 34 #[.slice ao raw.length cp, .int .i64 (at_ : Int), .int .i64 (d : Int), .agg #[.int .i64 a, .int .i64 b, .int .i64 c]] w R := by
    intro d at_ w ao cp nb hin hd4 hat hl R fin
    have hr := raw_at hin at_
    have hk := hkb at_
    have hv : valT a b c (.plc nmA) = a ∧ valT a b c (.plc nmB) = b ∧ valT a b c (.plc nmC) = c := by
      refine ⟨by simp only [valT, if_true], ?_, ?_⟩
      · simp only [valT]; rw [if_neg (by decide), if_pos trivial]
      · simp only [valT]; rw [if_neg (by decide), if_neg (by decide)]
    have hkk : kE (rkV 1) (.plc nmA) = 1 ∧ kE (rkV 1) (.plc nmB) = 1 ∧ kE (rkV 1) (.plc nmC) = 2 := by
      simp only [kE, rlA, rlB, rlC]
      exact ⟨rfl, rfl, rfl⟩
    unfold leafT at fin
    generalize raw.getD at_ 0 = k at *
    by_cases h7 : pickV k 12 = 7
    · rw [if_pos h7] at fin
      exact term_n raw a b c d at_ w ao cp k hk hr hd4 hat h7 R fin
    · rw [if_neg h7] at fin
      by_cases h8 : pickV k 12 = 8
      · rw [if_pos h8, hv.2.2, hkk.2.2] at fin
        exact term_c raw a b c d at_ w ao cp k hk hr hd4 hat h8 R fin
      · rw [if_neg h8] at fin
        by_cases h9 : pickV k 12 = 9
        · rw [if_pos h9, hv.2.1, hkk.2.1] at fin
          exact term_b raw a b c d at_ w ao cp k hk hr hd4 hat h9 R fin
        · rw [if_neg h9, hv.1, hkk.1] at fin
          exact term_a raw a b c d at_ w ao cp k hk hr hd4 hat rfl ⟨h7, h8, h9⟩ hl R fin
  intro d
  induction d with
  | zero =>
    intro at_ w ao cp nb hin hd4 hat R fin
    exact leaf 0 at_ w ao cp nb hin hd4 (by simp only [ndT] at hat; omega) (.inl rfl) R fin
  | succ d ih =>
    intro at_ w ao cp nb hin hd4 hat R fin
    simp only [ndT] at hat
    have hnd := ndT_le d
    by_cases h7 : pickV (raw.getD at_ 0) 12 < 7
    · have f1 := term_rk raw d (at_ + 1)
      have f2 := term_rk raw d (termT raw d (at_ + 1)).2
      have v1 := val_bd ha hb hc _ f1.1
      have v2 := val_bd ha hb hc _ f2.1
      have k1 := (kE_rk 1 _ f1.1).2.1
      have k2 := (kE_rk 1 _ f2.1).2.1
      have hsz : szT d ≤ 83 := by
        have : d = 0 ∨ d = 1 ∨ d = 2 ∨ d = 3 := by omega
        rcases this with rfl | rfl | rfl | rfl <;> decide
      have hr := raw_at hin at_
      have hk := hkb at_
      have hpb := pick_bd (raw.getD at_ 0) 12 (by omega)
      simp only [termT, if_pos h7] at fin
      obtain ⟨e1, he1⟩ : ∃ e, e = termT raw d (at_ + 1) := ⟨_, rfl⟩
      rw [← he1] at fin f1 f2 v1 v2 k1 k2
      obtain ⟨e2, he2⟩ : ∃ e, e = termT raw d e1.2 := ⟨_, rfl⟩
      rw [← he2] at fin f2 v2 k2
      have zs1 : (ba (strE e1.1)).size ≤ 83 := by rw [ba_size]; omega
      have zs2 : (ba (strE e2.1)).size ≤ 83 := by rw [ba_size]; omega
      have ca := hd (fun (W : World) (hW : Below w.heap.size w W) (R' : Ending → World → Prop) => ih (at_ + 1) W ao cp nb (hin.below hW) (by omega) (by omega) R')
      have cb := hd (fun (W : World) (hW : Below w.heap.size w W) (R' : Ending → World → Prop) => ih e1.2 W ao cp nb (hin.below hW) (by omega) (by omega) R')
      rw [← he1] at ca
      rw [← he2] at cb
      have b0 : Below w.heap.size w (w.alloc (.cells #[.int .i64 a, .int .i64 b, .int .i64 c] 68)) := (Below.refl _ w).alloc (Nat.le_refl _) _
      have hnew : (w.alloc (.cells #[.int .i64 a, .int .i64 b, .int .i64 c] 68)).heap[w.heap.size]? = some (.cells #[.int .i64 a, .int .i64 b, .int .i64 c] 68) := allocCells
      have tD : decide ((0 : Int) < ((d + 1 : Nat) : Int)) = true := by first | (simp; omega) | simp
      have h0 : 0 < d + 1 := by omega
      have eD : ((d + 1 : Nat) : Int) - 1 = (d : Int) := by omega
      have hat1 : (termT raw d (at_ + 1)).2 ≤ 40 := by have := (term_rk raw d (at_ + 1)).2.2.2.2.2.2.2; omega
      have e1b : e1.2 ≤ 40 := by rw [he1]; exact hat1
      generalize hK : raw.getD at_ 0 = k at *
      replace hin := hd hin
      replace b0 := hd b0
      clear ih leaf hraw hkb he1 he2 hK hat1
      obtain ⟨n, hn⟩ : ∃ n, pickV k 12 = n := ⟨_, rfl⟩
      rw [hn] at h7 hpb fin
      have t6 : decide (n < 7) = true := by simpa using h7
      have hz6 : ba [83, 72, 79, 82, 84, 32] ++ ba (strE e1.1) = ba (strE (.sho e1.1)) := by rw [ba_app]; rfl
      have hsb := fun o ho => str_bin o ho e1.1 e2.1
      have hvb := fun o ho => val_bin a b c o ho e1.1 e2.1
      have hkk := fun o ho => kE_binR o ho e1.1 e2.1
      have hv6 : valT a b c (.sho e1.1) = IntKind.i16.wrap (valT a b c e1.1) := rfl
      have hk6 : kE (rkV 1) (.sho e1.1) = 1 := rfl
      have v1' := v1.1
      have v2' := v2.1
      have e2b : e2.2 ≤ 80 := by have := f2.2.2.2.2.2.2.2; omega
      generalize valT a b c e1.1 = X at *
      generalize valT a b c e2.1 = Y at *
      generalize kE (rkV 1) e1.1 = κ1 at *
      generalize kE (rkV 1) e2.1 = κ2 at *
      clear v1 v2 f1 f2
      have hm := mul_in v1' v2'
      have hkc : ((κ1 == 1) = true ∧ (κ2 == 1) = true ∧ max κ1 κ2 = 1) ∨ ((κ1 == 1) = false ∧ max κ1 κ2 = 2) ∨ ((κ1 == 1) = true ∧ (κ2 == 1) = false ∧ max κ1 κ2 = 2) := by
        rcases k1 with rfl | rfl <;> rcases k2 with rfl | rfl <;> decide
      have jA : IntKind.i64.wrap (X + Y) = X + Y := IntWalk.i64_in _ (by unfold in32 at v1' v2'; omega)
      have jS : IntKind.i64.wrap (X - Y) = X - Y := IntWalk.i64_in _ (by unfold in32 at v1' v2'; omega)
      have jM : IntKind.i64.wrap (X * Y) = X * Y := IntWalk.i64_in _ (by omega)
      replace hz6 := hd hz6
      replace hsb := hd hsb
      replace hvb := hd hvb
      replace hkk := hd hkk
      replace hv6 := hd hv6
      replace hk6 := hd hk6
      replace hm := hd hm
      unfold in32 at v1' v2'
      rcases hr with ⟨hlt, tl, g, o, rfl, hg, ck⟩ | ⟨hlt, tl, rfl⟩
      all_goals
        go_enter Tryz.func34, Tryz.ntmps34
        go_wp2_with (first | (go_at_call 37; refine pick_any _ _ _ hk (by omega) _ ?_; rw [hn]))
        rw [show ((at_ : Int) + 1) = ((at_ + 1 : Nat) : Int) by omega]
        refine ca.out _ b0.out _ ?_
        intro w1 hb1
        have hz1 := hb1.size
        have hB1 := b0.out.trans (hb1.mono b0.out.size)
        have hnew1 := (hb1.block w.heap.size (by simp)).trans hnew
        have q0 := cellOf (i := 0) hnew1 rfl
        have q1 := cellOf (i := 1) hnew1 rfl
        have q2 := cellOf (i := 2) hnew1 rfl
        have hlz : w.heap.size < w1.heap.size := (Array.getElem?_eq_some_iff.1 hnew1).1
        replace hB1 := hd hB1
        clear hb1
        by_cases h6 : n = 6
        · subst h6
          rw [if_pos rfl] at fin
          have hend := fin w1 hB1.out
          rw [hv6.out, hk6.out, ← hz6.out] at hend
          replace hend := hd hend
          go_wp2_with (first | (go_at_call 32; refine short_any _ _ _ ?_))
          exact bodyPost_ret (by simp [results, Tryz.results34, go_sem]; first | exact ⟨rfl, rfl⟩ | rfl | skip) rfl hend.out
        · have t66 : (n == 6) = false := by simpa using h6
          rw [if_neg h6] at fin
          go_wp2_with (fail)
          refine cb.out _ hB1.out _ ?_
          intro w2 hb2
          have hz2 := hb2.size
          have hB2 := hB1.out.trans (hb2.mono hB1.out.size)
          have hB3 : ∀ o, Below w.heap.size w (w2.alloc o) := fun o => hB2.alloc hB2.size o
          have hend := fun o => fin _ (hB3 o)
          replace hend := hd hend
          replace hB2 := hd hB2
          clear hb2 hB3 fin q0 q1 q2
          have hn6 : n = 0 ∨ n = 1 ∨ n = 2 ∨ n = 3 ∨ n = 4 ∨ n = 5 := by omega
          rcases hn6 with rfl | rfl | rfl | rfl | rfl | rfl
          · have he := fun ob => hend.out ob
            have e0 : ((0 : Int) % 3).toNat = 0 := rfl
            simp only [e0, hvb.out 0 (by decide), hkk.out 0 (by decide), ← hsb.out 0 (by decide)] at he
            clear hend
            rcases hkc with ⟨c1, c2, c3⟩ | ⟨c1, c3⟩ | ⟨c1, c2, c3⟩
            · simp only [c3, if_true] at he
              replace he := hd he
              go_wp2_with (first | (go_at_call 32; refine short_any _ _ _ ?_) | (go_at_call 33; refine long_any _ _ _ ?_))
              exact bodyPost_ret (by simp [results, Tryz.results34, go_sem]; first | exact ⟨rfl, rfl⟩ | rfl) rfl (he.out _)
            · simp only [c3, show ¬ (2 : Int) = 1 by decide, if_false] at he
              replace he := hd he
              go_wp2_with (first | (go_at_call 32; refine short_any _ _ _ ?_) | (go_at_call 33; refine long_any _ _ _ ?_))
              exact bodyPost_ret (by simp [results, Tryz.results34, go_sem]; first | exact ⟨rfl, rfl⟩ | rfl) rfl (he.out _)
            · simp only [c3, show ¬ (2 : Int) = 1 by decide, if_false] at he
              replace he := hd he
              go_wp2_with (first | (go_at_call 32; refine short_any _ _ _ ?_) | (go_at_call 33; refine long_any _ _ _ ?_))
              exact bodyPost_ret (by simp [results, Tryz.results34, go_sem]; first | exact ⟨rfl, rfl⟩ | rfl) rfl (he.out _)
          · have he := fun ob => hend.out ob
            have e0 : ((1 : Int) % 3).toNat = 1 := rfl
            simp only [e0, hvb.out 1 (by decide), hkk.out 1 (by decide), ← hsb.out 1 (by decide)] at he
            clear hend
            rcases hkc with ⟨c1, c2, c3⟩ | ⟨c1, c3⟩ | ⟨c1, c2, c3⟩
            · simp only [c3, if_true] at he
              replace he := hd he
              go_wp2_with (first | (go_at_call 32; refine short_any _ _ _ ?_) | (go_at_call 33; refine long_any _ _ _ ?_))
              exact bodyPost_ret (by simp [results, Tryz.results34, go_sem]; first | exact ⟨rfl, rfl⟩ | rfl) rfl (he.out _)
            · simp only [c3, show ¬ (2 : Int) = 1 by decide, if_false] at he
              replace he := hd he
              go_wp2_with (first | (go_at_call 32; refine short_any _ _ _ ?_) | (go_at_call 33; refine long_any _ _ _ ?_))
              exact bodyPost_ret (by simp [results, Tryz.results34, go_sem]; first | exact ⟨rfl, rfl⟩ | rfl) rfl (he.out _)
            · simp only [c3, show ¬ (2 : Int) = 1 by decide, if_false] at he
              replace he := hd he
              go_wp2_with (first | (go_at_call 32; refine short_any _ _ _ ?_) | (go_at_call 33; refine long_any _ _ _ ?_))
              exact bodyPost_ret (by simp [results, Tryz.results34, go_sem]; first | exact ⟨rfl, rfl⟩ | rfl) rfl (he.out _)
          · have he := fun ob => hend.out ob
            have e0 : ((2 : Int) % 3).toNat = 2 := rfl
            simp only [e0, hvb.out 2 (by decide), hkk.out 2 (by decide), ← hsb.out 2 (by decide)] at he
            clear hend
            rcases hkc with ⟨c1, c2, c3⟩ | ⟨c1, c3⟩ | ⟨c1, c2, c3⟩
            · simp only [c3, if_true] at he
              replace he := hd he
              go_wp2_with (first | (go_at_call 32; refine short_any _ _ _ ?_) | (go_at_call 33; refine long_any _ _ _ ?_))
              exact bodyPost_ret (by simp [results, Tryz.results34, go_sem]; first | exact ⟨rfl, rfl⟩ | rfl) rfl (he.out _)
            · simp only [c3, show ¬ (2 : Int) = 1 by decide, if_false] at he
              replace he := hd he
              go_wp2_with (first | (go_at_call 32; refine short_any _ _ _ ?_) | (go_at_call 33; refine long_any _ _ _ ?_))
              exact bodyPost_ret (by simp [results, Tryz.results34, go_sem]; first | exact ⟨rfl, rfl⟩ | rfl) rfl (he.out _)
            · simp only [c3, show ¬ (2 : Int) = 1 by decide, if_false] at he
              replace he := hd he
              go_wp2_with (first | (go_at_call 32; refine short_any _ _ _ ?_) | (go_at_call 33; refine long_any _ _ _ ?_))
              exact bodyPost_ret (by simp [results, Tryz.results34, go_sem]; first | exact ⟨rfl, rfl⟩ | rfl) rfl (he.out _)
          · have he := fun ob => hend.out ob
            have e0 : ((3 : Int) % 3).toNat = 0 := rfl
            simp only [e0, hvb.out 0 (by decide), hkk.out 0 (by decide), ← hsb.out 0 (by decide)] at he
            clear hend
            rcases hkc with ⟨c1, c2, c3⟩ | ⟨c1, c3⟩ | ⟨c1, c2, c3⟩
            · simp only [c3, if_true] at he
              replace he := hd he
              go_wp2_with (first | (go_at_call 32; refine short_any _ _ _ ?_) | (go_at_call 33; refine long_any _ _ _ ?_))
              exact bodyPost_ret (by simp [results, Tryz.results34, go_sem]; first | exact ⟨rfl, rfl⟩ | rfl) rfl (he.out _)
            · simp only [c3, show ¬ (2 : Int) = 1 by decide, if_false] at he
              replace he := hd he
              go_wp2_with (first | (go_at_call 32; refine short_any _ _ _ ?_) | (go_at_call 33; refine long_any _ _ _ ?_))
              exact bodyPost_ret (by simp [results, Tryz.results34, go_sem]; first | exact ⟨rfl, rfl⟩ | rfl) rfl (he.out _)
            · simp only [c3, show ¬ (2 : Int) = 1 by decide, if_false] at he
              replace he := hd he
              go_wp2_with (first | (go_at_call 32; refine short_any _ _ _ ?_) | (go_at_call 33; refine long_any _ _ _ ?_))
              exact bodyPost_ret (by simp [results, Tryz.results34, go_sem]; first | exact ⟨rfl, rfl⟩ | rfl) rfl (he.out _)
          · have he := fun ob => hend.out ob
            have e0 : ((4 : Int) % 3).toNat = 1 := rfl
            simp only [e0, hvb.out 1 (by decide), hkk.out 1 (by decide), ← hsb.out 1 (by decide)] at he
            clear hend
            rcases hkc with ⟨c1, c2, c3⟩ | ⟨c1, c3⟩ | ⟨c1, c2, c3⟩
            · simp only [c3, if_true] at he
              replace he := hd he
              go_wp2_with (first | (go_at_call 32; refine short_any _ _ _ ?_) | (go_at_call 33; refine long_any _ _ _ ?_))
              exact bodyPost_ret (by simp [results, Tryz.results34, go_sem]; first | exact ⟨rfl, rfl⟩ | rfl) rfl (he.out _)
            · simp only [c3, show ¬ (2 : Int) = 1 by decide, if_false] at he
              replace he := hd he
              go_wp2_with (first | (go_at_call 32; refine short_any _ _ _ ?_) | (go_at_call 33; refine long_any _ _ _ ?_))
              exact bodyPost_ret (by simp [results, Tryz.results34, go_sem]; first | exact ⟨rfl, rfl⟩ | rfl) rfl (he.out _)
            · simp only [c3, show ¬ (2 : Int) = 1 by decide, if_false] at he
              replace he := hd he
              go_wp2_with (first | (go_at_call 32; refine short_any _ _ _ ?_) | (go_at_call 33; refine long_any _ _ _ ?_))
              exact bodyPost_ret (by simp [results, Tryz.results34, go_sem]; first | exact ⟨rfl, rfl⟩ | rfl) rfl (he.out _)
          · have he := fun ob => hend.out ob
            have e0 : ((5 : Int) % 3).toNat = 2 := rfl
            simp only [e0, hvb.out 2 (by decide), hkk.out 2 (by decide), ← hsb.out 2 (by decide)] at he
            clear hend
            rcases hkc with ⟨c1, c2, c3⟩ | ⟨c1, c3⟩ | ⟨c1, c2, c3⟩
            · simp only [c3, if_true] at he
              replace he := hd he
              go_wp2_with (first | (go_at_call 32; refine short_any _ _ _ ?_) | (go_at_call 33; refine long_any _ _ _ ?_))
              exact bodyPost_ret (by simp [results, Tryz.results34, go_sem]; first | exact ⟨rfl, rfl⟩ | rfl) rfl (he.out _)
            · simp only [c3, show ¬ (2 : Int) = 1 by decide, if_false] at he
              replace he := hd he
              go_wp2_with (first | (go_at_call 32; refine short_any _ _ _ ?_) | (go_at_call 33; refine long_any _ _ _ ?_))
              exact bodyPost_ret (by simp [results, Tryz.results34, go_sem]; first | exact ⟨rfl, rfl⟩ | rfl) rfl (he.out _)
            · simp only [c3, show ¬ (2 : Int) = 1 by decide, if_false] at he
              replace he := hd he
              go_wp2_with (first | (go_at_call 32; refine short_any _ _ _ ?_) | (go_at_call 33; refine long_any _ _ _ ?_))
              exact bodyPost_ret (by simp [results, Tryz.results34, go_sem]; first | exact ⟨rfl, rfl⟩ | rfl) rfl (he.out _)
    · have hl := leaf (d + 1) at_ w ao cp nb hin hd4 (by omega) (.inr (by omega)) R
      simp only [termT, if_neg h7] at fin
      exact hl fin

end Go.Proofs.YtidhiaaicmfabaaGreatDoor
