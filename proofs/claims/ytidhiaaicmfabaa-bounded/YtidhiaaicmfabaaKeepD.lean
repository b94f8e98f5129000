/- Bounded answers true at every image, every list and every delta. -/
import Derived.Test.YtidhiaaicmfabaaMem
import Derived.Test.YtidhiaaicmfabaaSpec
import Derived.Test.YtidhiaaicmfabaaRefA
import Derived.Test.YtidhiaaicmfabaaRefC
import Derived.Test.YtidhiaaicmfabaaSpec2
import Derived.WalkKit
import Derived.WalkSpells
import Derived.WalkLawsBesides
import Derived.Deep.OwnRows
import Derived.BigQuiet
import Derived.Handy
import Derived.Deep.Light
import Derived.Deep.RegionHeld3
import Derived.Deep.RegionWith
import Derived.Test.YtidhiaaicmfabaaKeepC
namespace Go.Proofs.Ytidhiaaicmfabaa
open Go.RowKit Go.Proofs Go.Deep

/-- A machine, whatever its scans have done so far. -/
def MA (B : Nat) (M : Md) (w : World) : Prop := (∃ bc C dn, B ≤ bc ∧ Live M bc C dn w ∧ 0 ≤ dn ∧ dn ≤ M.bd) ∨ (∃ cv C dn e, Dead M cv C dn e w ∧ (e = 4 ∨ e = 5) ∧ 0 ≤ dn ∧ dn ≤ M.bd)
theorem Dead.below {M : Md} {cv : Value} {C : Nat → Int} {dn e : Int} {w w' : World} (h : Dead M cv C dn e w) (hb : Below w.heap.size w w') : Dead M cv C dn e w' := by
  refine ⟨h.row.of_block (hb.block _ h.row.lt), ?_, h.hC, h.ne⟩
  rcases h.cel with ⟨bc, cap, e, ht⟩ | h
  · exact .inl ⟨bc, cap, e, ht.of_block (hb.block _ ht.lt)⟩
  · exact .inr h
theorem conv_two (W : World) (n : Nat) (hn : n ≤ 65535) : (convert 42 9 (.slice (some ⟨W.heap.size, 0, none⟩) 2 2)).run Try.prog (W.alloc (.cells #[.int .u8 ((n : Int) / 256), .int .u8 ((n : Int) % 256)] 5)) = .ok (.string (ofL [UInt8.ofNat (n / 256), UInt8.ofNat n])) (W.alloc (.cells #[.int .u8 ((n : Int) / 256), .int .u8 ((n : Int) % 256)] 5)) := by
  refine run_convert_bytes_back (P := Try.prog) (W.alloc (.cells #[.int .u8 ((n : Int) / 256), .int .u8 ((n : Int) % 256)] 5)) 42 9 5 ⟨W.heap.size, 0, none⟩ 2 [UInt8.ofNat (n / 256), UInt8.ofNat n] (by kernel_rfl) (by kernel_rfl) (by kernel_rfl) (fun j hj => ?_)
  have hadd : (⟨W.heap.size, 0, none⟩ : Addr).add j = ⟨W.heap.size, j, none⟩ := by unfold Addr.add; split <;> simp_all
  rw [hadd, cell_of_row _ _ j _ _ (0, 0) (heap_alloc_new W _)]
  have hj2 : j = 0 ∨ j = 1 := by simp at hj; omega
  rcases hj2 with rfl | rfl
  · simp; omega
  · simp
theorem pos_straight (l : List Seg) (hok : ∀ p ∈ l, p.ok) : posF (codeOf (imgB l)) ((codeOf (imgB l)).size + 1) 0 = some (posL 0 (progL l)) := by
  have hP := prog_ok l hok
  rw [codeOf_img, ofL_size]
  have hlen : ∀ (P : List (Nat × Nat)), (∀ p ∈ P, okI p) → P.length ≤ (bytesL P).length := by
    intro P
    induction P with
    | nil => intro _; simp [bytesL]
    | cons p r ih =>
      intro h
      have h1 := (enc_facts (h p (by simp)) [] []).2.2.1
      have h2 := ih (fun q hq => h q (by simp [hq]))
      have hb : bytesL (p :: r) = enc p ++ bytesL r := by simp [bytesL]
      rw [hb]
      simp only [List.length_append, List.length_cons]
      omega
  have := posF_enc (progL l) [] ((bytesL (progL l)).length + 1) hP (by have := hlen _ hP; omega)
  simpa using this
theorem img_bytes (l : List Seg) : (⟨#[83, 76, 85, 73, 67, 69, 1, 8]⟩ : ByteArray) ++ (ofL [UInt8.ofNat ((bytesL (progL l)).length / 256), UInt8.ofNat (bytesL (progL l)).length] ++ ofL (bytesL (progL l))) = imgB l := by
  show ofL [83, 76, 85, 73, 67, 69, 1, 8] ++ (ofL _ ++ ofL _) = _
  rw [ofL_app, ofL_app]
  rfl
/-- The machine of such an image: what it does. -/
theorem straight_run (l : List Seg) (hok : ∀ p ∈ l, p.ok) (hl : l.length ≤ 20) (cap bs bx : Nat) (To' : Nat → Int) (bd : Int) (w : World) (d : Int) (C : Nat → Int) :
    ∃ q, runM (mdFull (opL (codeOf (imgB l)) (posL 0 (progL l))) (atL (posL 0 (progL l))) (argL (codeOf (imgB l)) (posL 0 (progL l))) (cntL (codeOf (imgB l)) (posL 0 (progL l))) (fun i => bt (imgB l) (7 + i) / 3) (fun i => bt (imgB l) (7 + i) % 3) (bt (imgB l) 6) (posL 0 (progL l)).length cap bs bx To' bd) w d C = (q, (progN l : Int), 0) := by
  have hP := prog_ok l hok
  have hat : At (opL (ofL (bytesL (progL l))) (posL 0 (progL l))) (argL (ofL (bytesL (progL l))) (posL 0 (progL l))) 0 (progL l) := by
    have := at_enc (progL l) [] [] hP
    simpa using this
  rw [codeOf_img]
  have hn := progN_le l hok
  obtain ⟨q, hq⟩ := run_prog (K := mkK (mdFull (opL (ofL (bytesL (progL l))) (posL 0 (progL l))) (atL (posL 0 (progL l))) (argL (ofL (bytesL (progL l))) (posL 0 (progL l))) (cntL (ofL (bytesL (progL l))) (posL 0 (progL l))) (fun i => bt (imgB l) (7 + i) / 3) (fun i => bt (imgB l) (7 + i) % 3) (bt (imgB l) 6) (posL 0 (progL l)).length cap bs bx To' bd) w 0 0 0 nmT (fun _ => undef) d)
    (fun _ _ => rfl) l 0 300000 C 0 hok hat rfl (by omega)
  refine ⟨q, ?_⟩
  unfold runM
  have : (⟨C, [], 0, false⟩ : Sc) = ⟨C, [], ((0 : Nat) : Int), false⟩ := rfl
  rw [this, hq]
  simp
theorem straight_fits (l : List Seg) : fitsL (fun i => bt (imgB l) (7 + i) / 3) (fun i => bt (imgB l) (7 + i) % 3) (bt (imgB l) 6) 0 [] = true := by
  have h6 : bt (imgB l) 6 = 1 := by unfold imgB; rw [bt_ofL]; rfl
  have h7 : bt (imgB l) (7 + 0) = 8 := by unfold imgB; rw [bt_ofL]; rfl
  rw [h6]
  simp only [fitsL]
  rw [if_neg (show ¬ bt (imgB l) (7 + 0) / 3 = 0 by rw [h7]; decide)]
  rfl
theorem nil_inp (bc : Nat) (w : World) : InpAt bc w (.slice none 0 0) [] := ⟨none, 0, rfl, by simp, .inr rfl⟩
set_option maxRecDepth 100000 in
set_option maxHeartbeats 2000000 in
theorem bounded_any (w : World) (s : ByteArray) (v : Value) (l : List Int) (delta : Int) (nb : Nat) (hs : s.size ≤ maxLen) (hv : InpAt nb w v l) (hl : ∀ x ∈ l, -9223372036854775808 ≤ x ∧ x ≤ 9223372036854775807) (hdl : -9223372036854775808 ≤ delta ∧ delta ≤ 9223372036854775807) (R : Ending → World → Prop)
    (fin : ∀ w', Below w.heap.size w w' → R (.returned (.bool true)) w') :
    Calls Try.prog 4 #[.string s, v, .int .i64 delta] w R := by
  replace fin := hd fin
  replace hl := hd hl
  replace hv := hd hv
  go_enter Try.func4, Try.ntmps4
  go_wp2_with (fail)
  refine copies_any _ _ ?_
  intro w1 hb1
  replace hb1 := hd hb1
  go_wp2_with (fail)
  refine load_full _ s hs _ ?_ ?_ ?_
  · intro _ w2 hb2
    have hbw := hd (bel_step hb1.out (Nat.le_refl _) hb2)
    clear hb2
    go_wp2
    go_loopw [10] (fun i wr => ∃ k : Nat, k ≤ 3 ∧ i = .int .i64 k ∧ Below w.heap.size w wr) (fun i _ => 3 - (intOf i).toNat)
    case atStart => exact ⟨0, by omega, rfl, hbw.out⟩
    case round =>
      obtain ⟨k, hk, rfl, hbel⟩ := hrel
      replace hbel := hd hbel
      by_cases hk3 : k < 3
      · have t3 : decide ((k : Int) < 3) = true := by simp; omega
        go_wp2_with (fail)
        refine straight_any _ v l nb (hv.out.below hbel.out) hl.out _ ?_
        intro w5 hb5
        have hbw5 := hd (bel_step hbel.out (Nat.le_refl _) hb5)
        clear hb5
        have hok : ∀ p ∈ (l.take 20).map segOf, p.ok := fun p hp => by
          obtain ⟨x, _, e⟩ := List.mem_map.1 hp
          subst e; exact segOf_ok x
        have hl20 : ((l.take 20).map segOf).length ≤ 20 := by simp; omega
        generalize (l.take 20).map segOf = sg at hok hl20 ⊢
        have himg := hd (img_straight sg hok hl20)
        have hpn := progN_le sg hok
        have hbn : (bytesL (progL sg)).length ≤ 1205 := by have := bytes_len (progL sg); have := prog_len sg hok; omega
        have hcv := conv_two w5 (bytesL (progL sg)).length (by omega)
        have hib := hd (img_bytes sg)
        have z1 : (ofL [UInt8.ofNat ((bytesL (progL sg)).length / 256), UInt8.ofNat (bytesL (progL sg)).length]).size = 2 := by rw [ofL_size]; rfl
        have z2 : (ofL (bytesL (progL sg))).size = (bytesL (progL sg)).length := ofL_size _
        generalize ofL [UInt8.ofNat ((bytesL (progL sg)).length / 256), UInt8.ofNat (bytesL (progL sg)).length] = B1 at hcv hib z1
        generalize ofL (bytesL (progL sg)) = B2 at hib z2 ⊢
        have hsz5 := hbw5.out.size
        go_wp2_with (fail)
        rw [hib.out]
        refine load_full _ (imgB sg) (by unfold imgB maxLen; rw [ofL_size]; simp [hdB]; omega) _ ?_ ?_ ?_
        · intro h; exact absurd himg.out (h _)
        · intro bd' h hlong
          have := img_unique himg.out h
          omega
        · intro bd' l' h' _ hl' cap' bs' bx' bc' T' H' L' w6 hb6 hbx6 hbs6 hbc6 hlive6 hkw6
          have eb' := img_unique himg.out h'
          rw [pos_straight sg hok] at hl'
          injection hl' with hl'
          subst hl'
          have hrun := fun W => straight_run sg hok hl20 cap' bs' bx' T' bd' W 0 (layL (fun i => bt (imgB sg) (7 + i) / 3) (fun i => bt (imgB sg) (7 + i) % 3) (bt (imgB sg) 6) 0 [] (fun _ => 0))
          have hfit := straight_fits sg
          generalize hM6 : mdFull (opL (codeOf (imgB sg)) (posL 0 (progL sg))) (atL (posL 0 (progL sg))) (argL (codeOf (imgB sg)) (posL 0 (progL sg))) (cntL (codeOf (imgB sg)) (posL 0 (progL sg))) (fun i => bt (imgB sg) (7 + i) / 3) (fun i => bt (imgB sg) (7 + i) % 3) (bt (imgB sg) 6) (posL 0 (progL sg)).length cap' bs' bx' T' bd' = M6 at *
          have f1 : M6.rl = (fun i => bt (imgB sg) (7 + i) / 3) := by rw [← hM6]; rfl
          have f2 : M6.kd = (fun i => bt (imgB sg) (7 + i) % 3) := by rw [← hM6]; rfl
          have f3 : M6.nC = bt (imgB sg) 6 := by rw [← hM6]; rfl
          have f4 : M6.bd = bd' := by rw [← hM6]; rfl
          have f5 : M6.bx = bx' := by rw [← hM6]; rfl
          rw [← f1, ← f2, ← f3] at hrun hfit
          rw [← f4] at hkw6
          subst f5
          have hlx6 : M6.bx < w6.heap.size := hlive6.row.lt
          have hw6 := hb6.size
          simp only [World.size_alloc] at hw6 hbx6 hbc6
          have hbw6 : Below w.heap.size w w6 := (hbw5.out.alloc hsz5 _).trans (hb6.mono (by simp; omega))
          have hlc6 := hlive6.cel.lt
          have hi6 : InpAt bc' (w6.alloc (.cells #[] 3)) (.slice (some ⟨w6.heap.size, 0, none⟩) 0 0) [] := ⟨_, 0, rfl, by simp, .inl ⟨w6.heap.size, 0, rfl, by omega, fun j x hx => by simp at hx⟩⟩
          have hl7 := hlive6.below ((Below.refl _ _).alloc (Nat.le_refl _) (.cells #[] 3))
          replace hl7 := hd hl7
          replace hi6 := hd hi6
          replace hkw6 := hd hkw6
          replace hrun := hd hrun
          replace hfit := hd hfit
          replace hbw6 := hd hbw6
          clear hlive6 hb6 hcv hM6 h' f1 f2 f3
          go_wp2_with (fail)
          refine scan_any _ M6 bc' (fun _ => 0) 0 hl7.out _ [] 0 hi6.out hkw6.out (by omega) _ ?_ ?_ ?_
          · intro hbad
            rcases hbad with hbad | hbad | hbad
            · rw [hfit.out] at hbad; cases hbad
            · omega
            · omega
          · intro _ _ w7 q7 dn7 hr7 hl8 ht7 _ _
            obtain ⟨q8, hq8⟩ := hrun.out (w6.alloc (.cells #[] 3))
            rw [hr7] at hq8
            simp only [Prod.mk.injEq] at hq8
            have ed : dn7 = (progN sg : Int) := hq8.2.1
            have c2 : w7.cell? ⟨M6.bx, 2, none⟩ = some (.int .i64 (progN sg : Nat)) := by rw [hl8.row.cell (i := 2) (by omega)]; show some (Value.int .i64 M6.bd) = _; rw [f4, ← eb']
            have c3 : w7.cell? ⟨M6.bx, 3, none⟩ = some (.int .i64 (progN sg : Nat)) := by rw [hl8.row.cell (i := 3) (by omega)]; show some (Value.int .i64 dn7) = _; rw [ed]
            have hbw7 := hd ((hbw6.out.alloc (by have := hbw6.out.size; omega) (.cells #[] 3)).trans (ht7.below (show w.heap.size ≤ M6.bx by omega) (by omega) (by simp; omega) rfl))
            clear hl8 ht7 hr7 hq8
            go_wp2_with (first | (go_at_call 11; refine steps_any _ _ _ c3 _ ?_) | (go_at_call 9; refine bound_any _ _ _ c2 _ ?_))
            exact cl1 (fin.out _ hbw7.out) (by simp)
          · intro _ _ w7 q7 dn7 e7 cv7 hr7 he7
            obtain ⟨q8, hq8⟩ := hrun.out (w6.alloc (.cells #[] 3))
            rw [hr7] at hq8
            simp only [Prod.mk.injEq] at hq8
            exact absurd hq8.2.2 he7
      · have t3 : decide ((k : Int) < 3) = false := by simp; omega
        go_wp2_with (fail)
        refine straight_any _ v l nb (hv.out.below hbel.out) hl.out _ ?_
        intro w5 hb5
        have hbw5 := hd (bel_step hbel.out (Nat.le_refl _) hb5)
        clear hb5
        have hok : ∀ p ∈ (l.take 20).map segOf, p.ok := fun p hp => by
          obtain ⟨x, _, e⟩ := List.mem_map.1 hp
          subst e; exact segOf_ok x
        have hl20 : ((l.take 20).map segOf).length ≤ 20 := by simp; omega
        generalize (l.take 20).map segOf = sg at hok hl20 ⊢
        have himg := hd (img_straight sg hok hl20)
        have hpn := progN_le sg hok
        have hbn : (bytesL (progL sg)).length ≤ 1205 := by have := bytes_len (progL sg); have := prog_len sg hok; omega
        have hcv := conv_two w5 (bytesL (progL sg)).length (by omega)
        have hib := hd (img_bytes sg)
        have z1 : (ofL [UInt8.ofNat ((bytesL (progL sg)).length / 256), UInt8.ofNat (bytesL (progL sg)).length]).size = 2 := by rw [ofL_size]; rfl
        have z2 : (ofL (bytesL (progL sg))).size = (bytesL (progL sg)).length := ofL_size _
        generalize ofL [UInt8.ofNat ((bytesL (progL sg)).length / 256), UInt8.ofNat (bytesL (progL sg)).length] = B1 at hcv hib z1
        generalize ofL (bytesL (progL sg)) = B2 at hib z2 ⊢
        have hsz5 := hbw5.out.size
        go_wp2_with (fail)
        rw [hib.out]
        refine load_full _ (imgB sg) (by unfold imgB maxLen; rw [ofL_size]; simp [hdB]; omega) _ ?_ ?_ ?_
        · intro h; exact absurd himg.out (h _)
        · intro bd' h hlong
          have := img_unique himg.out h
          omega
        · intro bd' l' h' _ hl' cap' bs' bx' bc' T' H' L' w6 hb6 hbx6 hbs6 hbc6 hlive6 hkw6
          have eb' := img_unique himg.out h'
          rw [pos_straight sg hok] at hl'
          injection hl' with hl'
          subst hl'
          have hrun := fun W => straight_run sg hok hl20 cap' bs' bx' T' bd' W 0 (layL (fun i => bt (imgB sg) (7 + i) / 3) (fun i => bt (imgB sg) (7 + i) % 3) (bt (imgB sg) 6) 0 [] (fun _ => 0))
          have hfit := straight_fits sg
          generalize hM6 : mdFull (opL (codeOf (imgB sg)) (posL 0 (progL sg))) (atL (posL 0 (progL sg))) (argL (codeOf (imgB sg)) (posL 0 (progL sg))) (cntL (codeOf (imgB sg)) (posL 0 (progL sg))) (fun i => bt (imgB sg) (7 + i) / 3) (fun i => bt (imgB sg) (7 + i) % 3) (bt (imgB sg) 6) (posL 0 (progL sg)).length cap' bs' bx' T' bd' = M6 at *
          have f1 : M6.rl = (fun i => bt (imgB sg) (7 + i) / 3) := by rw [← hM6]; rfl
          have f2 : M6.kd = (fun i => bt (imgB sg) (7 + i) % 3) := by rw [← hM6]; rfl
          have f3 : M6.nC = bt (imgB sg) 6 := by rw [← hM6]; rfl
          have f4 : M6.bd = bd' := by rw [← hM6]; rfl
          have f5 : M6.bx = bx' := by rw [← hM6]; rfl
          rw [← f1, ← f2, ← f3] at hrun hfit
          rw [← f4] at hkw6
          subst f5
          have hlx6 : M6.bx < w6.heap.size := hlive6.row.lt
          have hw6 := hb6.size
          simp only [World.size_alloc] at hw6 hbx6 hbc6
          have hbw6 : Below w.heap.size w w6 := (hbw5.out.alloc hsz5 _).trans (hb6.mono (by simp; omega))
          have hlc6 := hlive6.cel.lt
          have hi6 : InpAt bc' (w6.alloc (.cells #[] 3)) (.slice (some ⟨w6.heap.size, 0, none⟩) 0 0) [] := ⟨_, 0, rfl, by simp, .inl ⟨w6.heap.size, 0, rfl, by omega, fun j x hx => by simp at hx⟩⟩
          have hl7 := hlive6.below ((Below.refl _ _).alloc (Nat.le_refl _) (.cells #[] 3))
          replace hl7 := hd hl7
          replace hi6 := hd hi6
          replace hkw6 := hd hkw6
          replace hrun := hd hrun
          replace hfit := hd hfit
          replace hbw6 := hd hbw6
          clear hlive6 hb6 hcv hM6 h' f1 f2 f3
          go_wp2_with (fail)
          refine scan_any _ M6 bc' (fun _ => 0) 0 hl7.out _ [] 0 hi6.out hkw6.out (by omega) _ ?_ ?_ ?_
          · intro hbad
            rcases hbad with hbad | hbad | hbad
            · rw [hfit.out] at hbad; cases hbad
            · omega
            · omega
          · intro _ _ w7 q7 dn7 hr7 hl8 ht7 _ _
            obtain ⟨q8, hq8⟩ := hrun.out (w6.alloc (.cells #[] 3))
            rw [hr7] at hq8
            simp only [Prod.mk.injEq] at hq8
            have ed : dn7 = (progN sg : Int) := hq8.2.1
            have c2 : w7.cell? ⟨M6.bx, 2, none⟩ = some (.int .i64 (progN sg : Nat)) := by rw [hl8.row.cell (i := 2) (by omega)]; show some (Value.int .i64 M6.bd) = _; rw [f4, ← eb']
            have c3 : w7.cell? ⟨M6.bx, 3, none⟩ = some (.int .i64 (progN sg : Nat)) := by rw [hl8.row.cell (i := 3) (by omega)]; show some (Value.int .i64 dn7) = _; rw [ed]
            have hbw7 := hd ((hbw6.out.alloc (by have := hbw6.out.size; omega) (.cells #[] 3)).trans (ht7.below (show w.heap.size ≤ M6.bx by omega) (by omega) (by simp; omega) rfl))
            clear hl8 ht7 hr7 hq8
            go_wp2_with (first | (go_at_call 11; refine steps_any _ _ _ c3 _ ?_) | (go_at_call 9; refine bound_any _ _ _ c2 _ ?_))
            exact cl1 (fin.out _ hbw7.out) (by simp)
          · intro _ _ w7 q7 dn7 e7 cv7 hr7 he7
            obtain ⟨q8, hq8⟩ := hrun.out (w6.alloc (.cells #[] 3))
            rw [hr7] at hq8
            simp only [Prod.mk.injEq] at hq8
            exact absurd hq8.2.2 he7
  · intro _ _ _ w2 hb2
    have hbw := hd (bel_step hb1.out (Nat.le_refl _) hb2)
    clear hb2
    go_wp2
    go_loopw [10] (fun i wr => ∃ k : Nat, k ≤ 3 ∧ i = .int .i64 k ∧ Below w.heap.size w wr) (fun i _ => 3 - (intOf i).toNat)
    case atStart => exact ⟨0, by omega, rfl, hbw.out⟩
    case round =>
      obtain ⟨k, hk, rfl, hbel⟩ := hrel
      replace hbel := hd hbel
      by_cases hk3 : k < 3
      · have t3 : decide ((k : Int) < 3) = true := by simp; omega
        go_wp2_with (fail)
        refine straight_any _ v l nb (hv.out.below hbel.out) hl.out _ ?_
        intro w5 hb5
        have hbw5 := hd (bel_step hbel.out (Nat.le_refl _) hb5)
        clear hb5
        have hok : ∀ p ∈ (l.take 20).map segOf, p.ok := fun p hp => by
          obtain ⟨x, _, e⟩ := List.mem_map.1 hp
          subst e; exact segOf_ok x
        have hl20 : ((l.take 20).map segOf).length ≤ 20 := by simp; omega
        generalize (l.take 20).map segOf = sg at hok hl20 ⊢
        have himg := hd (img_straight sg hok hl20)
        have hpn := progN_le sg hok
        have hbn : (bytesL (progL sg)).length ≤ 1205 := by have := bytes_len (progL sg); have := prog_len sg hok; omega
        have hcv := conv_two w5 (bytesL (progL sg)).length (by omega)
        have hib := hd (img_bytes sg)
        have z1 : (ofL [UInt8.ofNat ((bytesL (progL sg)).length / 256), UInt8.ofNat (bytesL (progL sg)).length]).size = 2 := by rw [ofL_size]; rfl
        have z2 : (ofL (bytesL (progL sg))).size = (bytesL (progL sg)).length := ofL_size _
        generalize ofL [UInt8.ofNat ((bytesL (progL sg)).length / 256), UInt8.ofNat (bytesL (progL sg)).length] = B1 at hcv hib z1
        generalize ofL (bytesL (progL sg)) = B2 at hib z2 ⊢
        have hsz5 := hbw5.out.size
        go_wp2_with (fail)
        rw [hib.out]
        refine load_full _ (imgB sg) (by unfold imgB maxLen; rw [ofL_size]; simp [hdB]; omega) _ ?_ ?_ ?_
        · intro h; exact absurd himg.out (h _)
        · intro bd' h hlong
          have := img_unique himg.out h
          omega
        · intro bd' l' h' _ hl' cap' bs' bx' bc' T' H' L' w6 hb6 hbx6 hbs6 hbc6 hlive6 hkw6
          have eb' := img_unique himg.out h'
          rw [pos_straight sg hok] at hl'
          injection hl' with hl'
          subst hl'
          have hrun := fun W => straight_run sg hok hl20 cap' bs' bx' T' bd' W 0 (layL (fun i => bt (imgB sg) (7 + i) / 3) (fun i => bt (imgB sg) (7 + i) % 3) (bt (imgB sg) 6) 0 [] (fun _ => 0))
          have hfit := straight_fits sg
          generalize hM6 : mdFull (opL (codeOf (imgB sg)) (posL 0 (progL sg))) (atL (posL 0 (progL sg))) (argL (codeOf (imgB sg)) (posL 0 (progL sg))) (cntL (codeOf (imgB sg)) (posL 0 (progL sg))) (fun i => bt (imgB sg) (7 + i) / 3) (fun i => bt (imgB sg) (7 + i) % 3) (bt (imgB sg) 6) (posL 0 (progL sg)).length cap' bs' bx' T' bd' = M6 at *
          have f1 : M6.rl = (fun i => bt (imgB sg) (7 + i) / 3) := by rw [← hM6]; rfl
          have f2 : M6.kd = (fun i => bt (imgB sg) (7 + i) % 3) := by rw [← hM6]; rfl
          have f3 : M6.nC = bt (imgB sg) 6 := by rw [← hM6]; rfl
          have f4 : M6.bd = bd' := by rw [← hM6]; rfl
          have f5 : M6.bx = bx' := by rw [← hM6]; rfl
          rw [← f1, ← f2, ← f3] at hrun hfit
          rw [← f4] at hkw6
          subst f5
          have hlx6 : M6.bx < w6.heap.size := hlive6.row.lt
          have hw6 := hb6.size
          simp only [World.size_alloc] at hw6 hbx6 hbc6
          have hbw6 : Below w.heap.size w w6 := (hbw5.out.alloc hsz5 _).trans (hb6.mono (by simp; omega))
          have hlc6 := hlive6.cel.lt
          have hi6 : InpAt bc' (w6.alloc (.cells #[] 3)) (.slice (some ⟨w6.heap.size, 0, none⟩) 0 0) [] := ⟨_, 0, rfl, by simp, .inl ⟨w6.heap.size, 0, rfl, by omega, fun j x hx => by simp at hx⟩⟩
          have hl7 := hlive6.below ((Below.refl _ _).alloc (Nat.le_refl _) (.cells #[] 3))
          replace hl7 := hd hl7
          replace hi6 := hd hi6
          replace hkw6 := hd hkw6
          replace hrun := hd hrun
          replace hfit := hd hfit
          replace hbw6 := hd hbw6
          clear hlive6 hb6 hcv hM6 h' f1 f2 f3
          go_wp2_with (fail)
          refine scan_any _ M6 bc' (fun _ => 0) 0 hl7.out _ [] 0 hi6.out hkw6.out (by omega) _ ?_ ?_ ?_
          · intro hbad
            rcases hbad with hbad | hbad | hbad
            · rw [hfit.out] at hbad; cases hbad
            · omega
            · omega
          · intro _ _ w7 q7 dn7 hr7 hl8 ht7 _ _
            obtain ⟨q8, hq8⟩ := hrun.out (w6.alloc (.cells #[] 3))
            rw [hr7] at hq8
            simp only [Prod.mk.injEq] at hq8
            have ed : dn7 = (progN sg : Int) := hq8.2.1
            have c2 : w7.cell? ⟨M6.bx, 2, none⟩ = some (.int .i64 (progN sg : Nat)) := by rw [hl8.row.cell (i := 2) (by omega)]; show some (Value.int .i64 M6.bd) = _; rw [f4, ← eb']
            have c3 : w7.cell? ⟨M6.bx, 3, none⟩ = some (.int .i64 (progN sg : Nat)) := by rw [hl8.row.cell (i := 3) (by omega)]; show some (Value.int .i64 dn7) = _; rw [ed]
            have hbw7 := hd ((hbw6.out.alloc (by have := hbw6.out.size; omega) (.cells #[] 3)).trans (ht7.below (show w.heap.size ≤ M6.bx by omega) (by omega) (by simp; omega) rfl))
            clear hl8 ht7 hr7 hq8
            go_wp2_with (first | (go_at_call 11; refine steps_any _ _ _ c3 _ ?_) | (go_at_call 9; refine bound_any _ _ _ c2 _ ?_))
            exact cl1 (fin.out _ hbw7.out) (by simp)
          · intro _ _ w7 q7 dn7 e7 cv7 hr7 he7
            obtain ⟨q8, hq8⟩ := hrun.out (w6.alloc (.cells #[] 3))
            rw [hr7] at hq8
            simp only [Prod.mk.injEq] at hq8
            exact absurd hq8.2.2 he7
      · have t3 : decide ((k : Int) < 3) = false := by simp; omega
        go_wp2_with (fail)
        refine straight_any _ v l nb (hv.out.below hbel.out) hl.out _ ?_
        intro w5 hb5
        have hbw5 := hd (bel_step hbel.out (Nat.le_refl _) hb5)
        clear hb5
        have hok : ∀ p ∈ (l.take 20).map segOf, p.ok := fun p hp => by
          obtain ⟨x, _, e⟩ := List.mem_map.1 hp
          subst e; exact segOf_ok x
        have hl20 : ((l.take 20).map segOf).length ≤ 20 := by simp; omega
        generalize (l.take 20).map segOf = sg at hok hl20 ⊢
        have himg := hd (img_straight sg hok hl20)
        have hpn := progN_le sg hok
        have hbn : (bytesL (progL sg)).length ≤ 1205 := by have := bytes_len (progL sg); have := prog_len sg hok; omega
        have hcv := conv_two w5 (bytesL (progL sg)).length (by omega)
        have hib := hd (img_bytes sg)
        have z1 : (ofL [UInt8.ofNat ((bytesL (progL sg)).length / 256), UInt8.ofNat (bytesL (progL sg)).length]).size = 2 := by rw [ofL_size]; rfl
        have z2 : (ofL (bytesL (progL sg))).size = (bytesL (progL sg)).length := ofL_size _
        generalize ofL [UInt8.ofNat ((bytesL (progL sg)).length / 256), UInt8.ofNat (bytesL (progL sg)).length] = B1 at hcv hib z1
        generalize ofL (bytesL (progL sg)) = B2 at hib z2 ⊢
        have hsz5 := hbw5.out.size
        go_wp2_with (fail)
        rw [hib.out]
        refine load_full _ (imgB sg) (by unfold imgB maxLen; rw [ofL_size]; simp [hdB]; omega) _ ?_ ?_ ?_
        · intro h; exact absurd himg.out (h _)
        · intro bd' h hlong
          have := img_unique himg.out h
          omega
        · intro bd' l' h' _ hl' cap' bs' bx' bc' T' H' L' w6 hb6 hbx6 hbs6 hbc6 hlive6 hkw6
          have eb' := img_unique himg.out h'
          rw [pos_straight sg hok] at hl'
          injection hl' with hl'
          subst hl'
          have hrun := fun W => straight_run sg hok hl20 cap' bs' bx' T' bd' W 0 (layL (fun i => bt (imgB sg) (7 + i) / 3) (fun i => bt (imgB sg) (7 + i) % 3) (bt (imgB sg) 6) 0 [] (fun _ => 0))
          have hfit := straight_fits sg
          generalize hM6 : mdFull (opL (codeOf (imgB sg)) (posL 0 (progL sg))) (atL (posL 0 (progL sg))) (argL (codeOf (imgB sg)) (posL 0 (progL sg))) (cntL (codeOf (imgB sg)) (posL 0 (progL sg))) (fun i => bt (imgB sg) (7 + i) / 3) (fun i => bt (imgB sg) (7 + i) % 3) (bt (imgB sg) 6) (posL 0 (progL sg)).length cap' bs' bx' T' bd' = M6 at *
          have f1 : M6.rl = (fun i => bt (imgB sg) (7 + i) / 3) := by rw [← hM6]; rfl
          have f2 : M6.kd = (fun i => bt (imgB sg) (7 + i) % 3) := by rw [← hM6]; rfl
          have f3 : M6.nC = bt (imgB sg) 6 := by rw [← hM6]; rfl
          have f4 : M6.bd = bd' := by rw [← hM6]; rfl
          have f5 : M6.bx = bx' := by rw [← hM6]; rfl
          rw [← f1, ← f2, ← f3] at hrun hfit
          rw [← f4] at hkw6
          subst f5
          have hlx6 : M6.bx < w6.heap.size := hlive6.row.lt
          have hw6 := hb6.size
          simp only [World.size_alloc] at hw6 hbx6 hbc6
          have hbw6 : Below w.heap.size w w6 := (hbw5.out.alloc hsz5 _).trans (hb6.mono (by simp; omega))
          have hlc6 := hlive6.cel.lt
          have hi6 : InpAt bc' (w6.alloc (.cells #[] 3)) (.slice (some ⟨w6.heap.size, 0, none⟩) 0 0) [] := ⟨_, 0, rfl, by simp, .inl ⟨w6.heap.size, 0, rfl, by omega, fun j x hx => by simp at hx⟩⟩
          have hl7 := hlive6.below ((Below.refl _ _).alloc (Nat.le_refl _) (.cells #[] 3))
          replace hl7 := hd hl7
          replace hi6 := hd hi6
          replace hkw6 := hd hkw6
          replace hrun := hd hrun
          replace hfit := hd hfit
          replace hbw6 := hd hbw6
          clear hlive6 hb6 hcv hM6 h' f1 f2 f3
          go_wp2_with (fail)
          refine scan_any _ M6 bc' (fun _ => 0) 0 hl7.out _ [] 0 hi6.out hkw6.out (by omega) _ ?_ ?_ ?_
          · intro hbad
            rcases hbad with hbad | hbad | hbad
            · rw [hfit.out] at hbad; cases hbad
            · omega
            · omega
          · intro _ _ w7 q7 dn7 hr7 hl8 ht7 _ _
            obtain ⟨q8, hq8⟩ := hrun.out (w6.alloc (.cells #[] 3))
            rw [hr7] at hq8
            simp only [Prod.mk.injEq] at hq8
            have ed : dn7 = (progN sg : Int) := hq8.2.1
            have c2 : w7.cell? ⟨M6.bx, 2, none⟩ = some (.int .i64 (progN sg : Nat)) := by rw [hl8.row.cell (i := 2) (by omega)]; show some (Value.int .i64 M6.bd) = _; rw [f4, ← eb']
            have c3 : w7.cell? ⟨M6.bx, 3, none⟩ = some (.int .i64 (progN sg : Nat)) := by rw [hl8.row.cell (i := 3) (by omega)]; show some (Value.int .i64 dn7) = _; rw [ed]
            have hbw7 := hd ((hbw6.out.alloc (by have := hbw6.out.size; omega) (.cells #[] 3)).trans (ht7.below (show w.heap.size ≤ M6.bx by omega) (by omega) (by simp; omega) rfl))
            clear hl8 ht7 hr7 hq8
            go_wp2_with (first | (go_at_call 11; refine steps_any _ _ _ c3 _ ?_) | (go_at_call 9; refine bound_any _ _ _ c2 _ ?_))
            exact cl1 (fin.out _ hbw7.out) (by simp)
          · intro _ _ w7 q7 dn7 e7 cv7 hr7 he7
            obtain ⟨q8, hq8⟩ := hrun.out (w6.alloc (.cells #[] 3))
            rw [hr7] at hq8
            simp only [Prod.mk.injEq] at hq8
            exact absurd hq8.2.2 he7
  · intro bd l0 himg hbd hl0 cap bs bx bc To' H L w2 hb2 hbx hbs hbc hlive hkw
    generalize hM : mdFull (opL (codeOf s) l0) (atL l0) (argL (codeOf s) l0) (cntL (codeOf s) l0) (fun i => bt s (7 + i) / 3) (fun i => bt s (7 + i) % 3) (bt s 6) l0.length cap bs bx To' bd = M at *
    have eb : M.bd = bd := by rw [← hM]; rfl
    have ex : M.bx = bx := by rw [← hM]; rfl
    have hbd1 : 1 ≤ bd := by
      have hk := hkw w2 0 0 0 nmT (fun _ => undef) 0
      have := hk.w.bound hk.w.start.1
      rw [hk.w.start.2] at this
      omega
    have hbw := hd (bel_step hb1.out (Nat.le_refl _) hb2)
    have hs2 := hbw.out.size
    have hbx' : w.heap.size ≤ bx := Nat.le_trans hb1.out.size hbx
    have hbc' : w.heap.size ≤ bc := Nat.le_trans hb1.out.size hbc
    subst ex
    rw [← eb] at hkw
    have hma : MA w.heap.size M w2 := .inl ⟨bc, _, 0, hbc', hlive, by omega, by omega⟩
    replace hma := hd hma
    replace hkw := hd hkw
    clear hlive hb2 himg hl0 hM
    go_wp2
    go_loopw [10] (fun i wr => ∃ k : Nat, k ≤ 3 ∧ i = .int .i64 k ∧ MA w.heap.size M wr ∧ Below w.heap.size w wr) (fun i _ => 3 - (intOf i).toNat)
    case atStart => exact ⟨0, by omega, rfl, hma.out, hbw.out⟩
    case round =>
      obtain ⟨k, hk, rfl, hmr, hbel⟩ := hrel
      have hsr := hbel.size
      replace hbel := hd hbel
      by_cases hk3 : k < 3
      · have t3 : decide ((k : Int) < 3) = true := by simp; omega
        have u1 : decide (bd < 1) = false := by simp; omega
        have u2 : decide (200000 < bd) = false := by simp; omega
        have hp := pick_bd delta 1000 (by omega)
        rcases hmr with ⟨bc1, C1, dn, hbc1, hlv, hd0, hd1⟩ | ⟨cv, C1, dn, e, hde, he, hd0, hd1⟩
        · have c2 : wr.cell? ⟨M.bx, 2, none⟩ = some (.int .i64 bd) := by rw [hlv.row.cell (i := 2) (by omega)]; show some (Value.int .i64 M.bd) = _; rw [eb]
          have c3 := hlv.row.cell (i := 3) (by omega)
          replace c3 : wr.cell? ⟨M.bx, 3, none⟩ = some (.int .i64 dn) := c3
          have hlx := hlv.row.lt
          replace hlv := hd hlv
          go_wp2_with (first | (go_at_call 11; refine steps_any _ _ dn c3 _ ?_) | (go_at_call 13; refine pick_any _ _ _ hdl (by omega) _ ?_))
          refine scan_any _ M bc1 C1 dn hlv.out _ [] _ (nil_inp _ _) hkw.out (by omega) _ ?_ ?_ ?_
          · intro _ w3 hb3
            have hl3 := hlv.out.below hb3
            have c23 := (hb3.cell (p := ⟨M.bx, 2, none⟩) hlx).trans c2
            have c33 := (hb3.cell (p := ⟨M.bx, 3, none⟩) hlx).trans c3
            have hma3 := hd (show MA w.heap.size M w3 from .inl ⟨bc1, C1, dn, hbc1, hl3, hd0, hd1⟩)
            have hbw3 := hd (bel_step hbel.out (Nat.le_refl _) hb3)
            have u3 : decide (bd < dn) = false := by simp; omega
            clear hl3 hb3
            go_wp2_with (first | (go_at_call 11; refine steps_any _ _ dn c33 _ ?_) | (go_at_call 9; refine bound_any _ _ bd c23 _ ?_))
            exact ⟨⟨k + 1, by omega, by go_num, hma3.out, hbw3.out⟩, by simp [intOf]; omega⟩
          · intro _ _ w3 q' dn3 hr hl3 ht h1 h2
            have c23 : w3.cell? ⟨M.bx, 2, none⟩ = some (.int .i64 bd) := by rw [hl3.row.cell (i := 2) (by omega)]; show some (Value.int .i64 M.bd) = _; rw [eb]
            have c33 := hl3.row.cell (i := 3) (by omega)
            replace c33 : w3.cell? ⟨M.bx, 3, none⟩ = some (.int .i64 dn3) := c33
            have hma3 := hd (show MA w.heap.size M w3 from .inl ⟨bc1, _, dn3, hbc1, hl3, by omega, h2⟩)
            have hbw3 := hd (hbel.out.trans (ht.below hbx' hbc1 hsr rfl))
            have u3 : decide (bd < dn3) = false := by simp; omega
            have u4 : decide (dn3 < 1) = false := by simp; omega
            clear hl3 ht hr
            go_wp2_with (first | (go_at_call 11; refine steps_any _ _ dn3 c33 _ ?_) | (go_at_call 9; refine bound_any _ _ bd c23 _ ?_))
            exact ⟨⟨k + 1, by omega, by go_num, hma3.out, hbw3.out⟩, by simp [intOf]; omega⟩
          · intro _ _ w3 q' dn3 e3 cv3 hr he3 hl3 ht h1 h2
            have he45 := runM_e hr
            have c23 : w3.cell? ⟨M.bx, 2, none⟩ = some (.int .i64 bd) := by rw [hl3.row.cell (i := 2) (by omega)]; show some (Value.int .i64 M.bd) = _; rw [eb]
            have c33 := hl3.row.cell (i := 3) (by omega)
            replace c33 : w3.cell? ⟨M.bx, 3, none⟩ = some (.int .i64 dn3) := c33
            have hma3 := hd (show MA w.heap.size M w3 from .inr ⟨cv3, _, dn3, e3, hl3, by omega, by omega, h2⟩)
            have hbw3 := hd (hbel.out.trans (ht.below hbx' hbc1 hsr rfl))
            have u3 : decide (bd < dn3) = false := by simp; omega
            have u4 : (e3 == 3) = false := by simp; omega
            have u5 : (e3 == 0) = false := by simp; omega
            clear hl3 ht hr
            go_wp2_with (first | (go_at_call 11; refine steps_any _ _ dn3 c33 _ ?_) | (go_at_call 9; refine bound_any _ _ bd c23 _ ?_))
            exact ⟨⟨k + 1, by omega, by go_num, hma3.out, hbw3.out⟩, by simp [intOf]; omega⟩
        · have c2 : wr.cell? ⟨M.bx, 2, none⟩ = some (.int .i64 bd) := by rw [hde.row.cell (i := 2) (by omega)]; show some (Value.int .i64 M.bd) = _; rw [eb]
          have c3 := hde.row.cell (i := 3) (by omega)
          replace c3 : wr.cell? ⟨M.bx, 3, none⟩ = some (.int .i64 dn) := c3
          have u3 : decide (bd < dn) = false := by simp; omega
          have u4 : (e == 3) = false := by simp; omega
          have u5 : (e == 0) = false := by simp; omega
          have hma3 := hd (show MA w.heap.size M wr from .inr ⟨cv, C1, dn, e, hde, he, hd0, hd1⟩)
          replace hde := hd hde
          go_wp2_with (first | (go_at_call 11; refine steps_any _ _ dn c3 _ ?_) | (go_at_call 13; refine pick_any _ _ _ hdl (by omega) _ ?_) | (go_at_call 9; refine bound_any _ _ bd c2 _ ?_) | (go_at_call 12; refine scan_dead _ M cv C1 dn e hde.out _ _ _ ?_))
          exact ⟨⟨k + 1, by omega, by go_num, hma3.out, hbel.out⟩, by simp [intOf]; omega⟩
      · have t3 : decide ((k : Int) < 3) = false := by simp; omega
        go_wp2_with (fail)
        refine straight_any _ v l nb (hv.out.below hbel.out) hl.out _ ?_
        intro w5 hb5
        have hbw5 := hd (bel_step hbel.out (Nat.le_refl _) hb5)
        clear hb5
        have hok : ∀ p ∈ (l.take 20).map segOf, p.ok := fun p hp => by
          obtain ⟨x, _, e⟩ := List.mem_map.1 hp
          subst e; exact segOf_ok x
        have hl20 : ((l.take 20).map segOf).length ≤ 20 := by simp; omega
        generalize (l.take 20).map segOf = sg at hok hl20 ⊢
        have himg := hd (img_straight sg hok hl20)
        have hpn := progN_le sg hok
        have hbn : (bytesL (progL sg)).length ≤ 1205 := by have := bytes_len (progL sg); have := prog_len sg hok; omega
        have hcv := conv_two w5 (bytesL (progL sg)).length (by omega)
        have hib := hd (img_bytes sg)
        have z1 : (ofL [UInt8.ofNat ((bytesL (progL sg)).length / 256), UInt8.ofNat (bytesL (progL sg)).length]).size = 2 := by rw [ofL_size]; rfl
        have z2 : (ofL (bytesL (progL sg))).size = (bytesL (progL sg)).length := ofL_size _
        generalize ofL [UInt8.ofNat ((bytesL (progL sg)).length / 256), UInt8.ofNat (bytesL (progL sg)).length] = B1 at hcv hib z1
        generalize ofL (bytesL (progL sg)) = B2 at hib z2 ⊢
        have hsz5 := hbw5.out.size
        go_wp2_with (fail)
        rw [hib.out]
        refine load_full _ (imgB sg) (by unfold imgB maxLen; rw [ofL_size]; simp [hdB]; omega) _ ?_ ?_ ?_
        · intro h; exact absurd himg.out (h _)
        · intro bd' h hlong
          have := img_unique himg.out h
          omega
        · intro bd' l' h' _ hl' cap' bs' bx' bc' T' H' L' w6 hb6 hbx6 hbs6 hbc6 hlive6 hkw6
          have eb' := img_unique himg.out h'
          rw [pos_straight sg hok] at hl'
          injection hl' with hl'
          subst hl'
          have hrun := fun W => straight_run sg hok hl20 cap' bs' bx' T' bd' W 0 (layL (fun i => bt (imgB sg) (7 + i) / 3) (fun i => bt (imgB sg) (7 + i) % 3) (bt (imgB sg) 6) 0 [] (fun _ => 0))
          have hfit := straight_fits sg
          generalize hM6 : mdFull (opL (codeOf (imgB sg)) (posL 0 (progL sg))) (atL (posL 0 (progL sg))) (argL (codeOf (imgB sg)) (posL 0 (progL sg))) (cntL (codeOf (imgB sg)) (posL 0 (progL sg))) (fun i => bt (imgB sg) (7 + i) / 3) (fun i => bt (imgB sg) (7 + i) % 3) (bt (imgB sg) 6) (posL 0 (progL sg)).length cap' bs' bx' T' bd' = M6 at *
          have f1 : M6.rl = (fun i => bt (imgB sg) (7 + i) / 3) := by rw [← hM6]; rfl
          have f2 : M6.kd = (fun i => bt (imgB sg) (7 + i) % 3) := by rw [← hM6]; rfl
          have f3 : M6.nC = bt (imgB sg) 6 := by rw [← hM6]; rfl
          have f4 : M6.bd = bd' := by rw [← hM6]; rfl
          have f5 : M6.bx = bx' := by rw [← hM6]; rfl
          rw [← f1, ← f2, ← f3] at hrun hfit
          rw [← f4] at hkw6
          subst f5
          have hlx6 : M6.bx < w6.heap.size := hlive6.row.lt
          have hw6 := hb6.size
          simp only [World.size_alloc] at hw6 hbx6 hbc6
          have hbw6 : Below w.heap.size w w6 := (hbw5.out.alloc hsz5 _).trans (hb6.mono (by simp; omega))
          have hlc6 := hlive6.cel.lt
          have hi6 : InpAt bc' (w6.alloc (.cells #[] 3)) (.slice (some ⟨w6.heap.size, 0, none⟩) 0 0) [] := ⟨_, 0, rfl, by simp, .inl ⟨w6.heap.size, 0, rfl, by omega, fun j x hx => by simp at hx⟩⟩
          have hl7 := hlive6.below ((Below.refl _ _).alloc (Nat.le_refl _) (.cells #[] 3))
          replace hl7 := hd hl7
          replace hi6 := hd hi6
          replace hkw6 := hd hkw6
          replace hrun := hd hrun
          replace hfit := hd hfit
          replace hbw6 := hd hbw6
          clear hlive6 hb6 hcv hM6 h' f1 f2 f3
          go_wp2_with (fail)
          refine scan_any _ M6 bc' (fun _ => 0) 0 hl7.out _ [] 0 hi6.out hkw6.out (by omega) _ ?_ ?_ ?_
          · intro hbad
            rcases hbad with hbad | hbad | hbad
            · rw [hfit.out] at hbad; cases hbad
            · omega
            · omega
          · intro _ _ w7 q7 dn7 hr7 hl8 ht7 _ _
            obtain ⟨q8, hq8⟩ := hrun.out (w6.alloc (.cells #[] 3))
            rw [hr7] at hq8
            simp only [Prod.mk.injEq] at hq8
            have ed : dn7 = (progN sg : Int) := hq8.2.1
            have c2 : w7.cell? ⟨M6.bx, 2, none⟩ = some (.int .i64 (progN sg : Nat)) := by rw [hl8.row.cell (i := 2) (by omega)]; show some (Value.int .i64 M6.bd) = _; rw [f4, ← eb']
            have c3 : w7.cell? ⟨M6.bx, 3, none⟩ = some (.int .i64 (progN sg : Nat)) := by rw [hl8.row.cell (i := 3) (by omega)]; show some (Value.int .i64 dn7) = _; rw [ed]
            have hbw7 := hd ((hbw6.out.alloc (by have := hbw6.out.size; omega) (.cells #[] 3)).trans (ht7.below (show w.heap.size ≤ M6.bx by omega) (by omega) (by simp; omega) rfl))
            clear hl8 ht7 hr7 hq8
            go_wp2_with (first | (go_at_call 11; refine steps_any _ _ _ c3 _ ?_) | (go_at_call 9; refine bound_any _ _ _ c2 _ ?_))
            exact cl1 (fin.out _ hbw7.out) (by simp)
          · intro _ _ w7 q7 dn7 e7 cv7 hr7 he7
            obtain ⟨q8, hq8⟩ := hrun.out (w6.alloc (.cells #[] 3))
            rw [hr7] at hq8
            simp only [Prod.mk.injEq] at hq8
            exact absurd hq8.2.2 he7

end Go.Proofs.Ytidhiaaicmfabaa
