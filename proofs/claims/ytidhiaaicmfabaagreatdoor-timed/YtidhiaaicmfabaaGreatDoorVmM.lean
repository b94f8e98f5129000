/- The contract of Load: it answers by what the image's bytes say. -/
import Derived.Test.YtidhiaaicmfabaaGreatDoorMem
import Derived.Test.YtidhiaaicmfabaaGreatDoorSpec
import Derived.Test.YtidhiaaicmfabaaGreatDoorRefA
import Derived.Test.YtidhiaaicmfabaaGreatDoorRefC
import Derived.Test.YtidhiaaicmfabaaGreatDoorSpec2
import Derived.WalkKit
import Derived.WalkSpells
import Derived.WalkLawsBesides
import Derived.Deep.OwnRows
import Derived.BigQuiet
import Derived.Handy
import Derived.Deep.Light
import Derived.Deep.RegionHeld3
import Derived.Deep.RegionWith
import Derived.Test.YtidhiaaicmfabaaGreatDoorSpec3
import Derived.Test.YtidhiaaicmfabaaGreatDoorSpec4
import Derived.Test.YtidhiaaicmfabaaGreatDoorSpec5
import Derived.Test.YtidhiaaicmfabaaGreatDoorVmC
import Derived.Test.YtidhiaaicmfabaaGreatDoorVmD
import Derived.Test.YtidhiaaicmfabaaGreatDoorVmE
import Derived.Test.YtidhiaaicmfabaaGreatDoorVmF
import Derived.Test.YtidhiaaicmfabaaGreatDoorVmJ
import Derived.Test.YtidhiaaicmfabaaGreatDoorVmK
import Derived.Test.YtidhiaaicmfabaaGreatDoorVmL
namespace Go.Proofs.YtidhiaaicmfabaaGreatDoor
open Go.RowKit Go.Proofs Go.Deep

theorem img_iff {s : ByteArray} {bd : Int} {l : List Nat} (hh : hdrOk s) (hs : sortsOk s) (hz : sizeOk s) (hl : posF (codeOf s) ((codeOf s).size + 1) 0 = some l) : imgOk s bd ↔ codeOk (rlOf s) (kdOf s) (bt s 6) (codeOf s) l bd := by
  constructor
  · rintro ⟨_, _, _, ps, hps, hok⟩
    rw [hl] at hps
    injection hps with e
    subst e; exact hok
  · intro h; exact ⟨hh, hs, hz, l, hl, h⟩
theorem for_of {op : Nat → Nat} {n i : Nat} (h : stk op n = some []) (hi : i < n) (h20 : op i = 20) : ∃ f : Nat, inOf op i = f ∧ f < i ∧ op f = 19 := by
  cases hs : stk op i with
  | none => rw [stk_none op hs (by omega)] at h; cases h
  | some st =>
    cases st with
    | nil => rw [stk_none op (stk_none20 hs h20) (by omega)] at h; cases h
    | cons f t =>
      have := stk_mem op i _ hs f (by simp)
      exact ⟨f, inOf_cons hs, this.1, this.2⟩
theorem jump_arg {at_ op : Nat → Nat} {N N' : Nat → Int} {n i t : Nat} (e : N i = N' i) : JumpOk at_ op N n i t ↔ JumpOk at_ op N' n i t := by unfold JumpOk; rw [e]
theorem code_iff (s c : ByteArray) (nC : Nat) (l : List Nat) (bd : Int) : codeOk (rlOf s) (kdOf s) nC c l bd ↔
    (SetOk (fun i => bt s (7 + i) / 3) (fun i => bt s (7 + i) % 3) nC l.length (opL c l) (atL l) (argL c l) (cntL c l) ∧
      refGo (opL c l) (argL c l) (toL (atL l) (opL c l) (nL c l) l.length) l.length l.length 0 H0 L0 = some bd) := by
  have hj : ∀ i, isJump (opL c l i) → argL c l i = nL c l i := fun i h => (vArg_jmp c (atL l i) (by rcases h with h | h; exact .inl h; exact .inr (.inl h))).1
  have hgo : stk (opL c l) l.length = some [] → refGo (opL c l) (argL c l) (toL (atL l) (opL c l) (nL c l) l.length) l.length l.length 0 H0 L0 = refGo (opL c l) (nL c l) (toL (atL l) (opL c l) (nL c l) l.length) l.length l.length 0 H0 L0 := fun hst =>
    refGo_congr (fun i hi h20 => by
      obtain ⟨f, h1, _, h3⟩ := for_of hst hi h20
      have e : toL (atL l) (opL c l) (nL c l) l.length i = f := by unfold toL; rw [if_pos h20, h1]; omega
      rw [e]
      exact (vArg_jmp c (atL l f) (.inr (.inr h3))).1) _ _ _ _ (by omega)
  constructor
  · rintro ⟨h1, h2, h3, h4, h5⟩
    rw [← hgo h3] at h5
    obtain ⟨e1, _, e3, e4⟩ := refGo_ends _ _ _ _ _ _ _ _ _ (by omega) h5
    exact ⟨⟨fun i hi => (op_iff s c nC (atL l i)).2 (h2 i hi), ⟨e1, e3, fun j hj' => e4 j (by omega) hj'⟩, h3, fun i hi hx => by
      obtain ⟨t, ht⟩ := h4 i hi hx
      exact ⟨t, (jump_arg (hj i hx)).2 ht⟩⟩, h5⟩
  · rintro ⟨⟨h1, h2, h3, h4⟩, h5⟩
    rw [hgo h3] at h5
    refine ⟨fun e => by rw [e] at h2; exact absurd h2.1 (by simp), fun i hi => (op_iff s c nC (atL l i)).1 (h1 i hi), h3, fun i hi hx => ?_, h5⟩
    obtain ⟨t, ht⟩ := h4 i hi hx
    exact ⟨t, (jump_arg (hj i hx)).1 ht⟩
set_option maxRecDepth 100000 in
set_option maxHeartbeats 2000000 in
theorem load_any (w : World) (s : ByteArray) (hs : s.size ≤ maxLen) (R : Ending → World → Prop)
    (bad : (∀ bd, ¬ imgOk s bd) → ∀ w', Below w.heap.size w w' → R (.returned (.tuple #[.pointer none, .int .i64 1])) w')
    (long : ∀ bd, imgOk s bd → 200000 < bd → ∀ w', Below w.heap.size w w' → R (.returned (.tuple #[.pointer none, .int .i64 2])) w')
    (good : ∀ bd, imgOk s bd → bd ≤ 200000 → ∀ w' bx, Below w.heap.size w w' → w.heap.size ≤ bx → w'.cell? ⟨bx, 2, none⟩ = some (.int .i64 bd) → R (.returned (.tuple #[.pointer (some ⟨bx, 0, none⟩), .int .i64 0])) w') :
    Calls Tryz.prog 20 #[.string s] w R := by
  replace bad := hd bad
  replace long := hd long
  replace good := hd good
  go_enter Tryz.func20, Tryz.ntmps20
  go_wp2_with (fail)
  refine readImage_any _ _ hs _ ?_ ?_
  · intro hno a n c a' n' c' w1 hb1
    have hb1s := hb1.size
    replace hno := hd hno
    replace hb1 := hd hb1
    go_wp2
    exact cl1 (bad.out hno.out _ (hb1.out.alloc hb1s _)) rfl
  · intro hh hsr hsz l hl bc v w1 hb1 hbc htab hown hlt
    have hii := hd (fun bd => (img_iff (bd := bd) hh hsr hsz hl).trans (code_iff s (codeOf s) (bt s 6) l bd))
    obtain ⟨p1, p2, p3⟩ := posF_facts _ _ _ _ hl
    have h100 := hh.2.2.1
    have hlen : l.length ≤ 8000 := by
      have := hsz.1
      have := hsz.2
      have e : (codeOf s).size = s.size - (9 + bt s 6) := by unfold codeOf; rw [ByteArray.size_extract]; omega
      omega
    obtain ⟨sa, cap, rfl⟩ := own_sl hown
    have hb1s := hb1.size
    have hsteps : 0 < l.length → ∃ bs, w.heap.size ≤ bs ∧ sa = some ⟨bs, 0, none⟩ ∧ Tab w1 bs 254 6 l.length cap (stepA (opL (codeOf s) l) (atL l) (argL (codeOf s) l) (cntL (codeOf s) l) (fun _ => 0) (fun _ => 0)) := fun h0 => by
      obtain ⟨b, cap', e, hb, ht⟩ := own_tab hown h0 (fun i hi f hf => flat_st (codeOf s) l i f hi hf)
      injection e with e1 e2 e3
      subst e3
      exact ⟨b, hb, e1, ht⟩
    obtain ⟨bs, hbs, hsa⟩ : ∃ bs, w.heap.size ≤ bs ∧ (0 < l.length → sa = some ⟨bs, 0, none⟩ ∧ Tab w1 bs 254 6 l.length cap (stepA (opL (codeOf s) l) (atL l) (argL (codeOf s) l) (cntL (codeOf s) l) (fun _ => 0) (fun _ => 0))) := by
      rcases Nat.eq_zero_or_pos l.length with h0 | h0
      · exact ⟨w.heap.size, Nat.le_refl _, fun h => by omega⟩
      · obtain ⟨bs, a, b, c⟩ := hsteps h0
        exact ⟨bs, a, fun _ => ⟨b, c⟩⟩
    clear hsteps
    have hbsl : 0 < l.length → bs < w1.heap.size := fun h => (hsa h).2.lt
    replace hbsl := hd hbsl
    replace hsa := hd hsa
    replace htab := hd htab
    replace hown := hd hown
    replace hb1 := hd hb1
    replace p2 := hd p2
    replace p3 := hd p3
    replace hl := hd hl
    replace hh := hd hh
    replace hsr := hd hsr
    replace hsz := hd hsz
    generalize hnC : bt s 6 = nC at *
    replace hnC := hd hnC
    go_wp2_with (fail)
    refine settle_any _ bc nC nC bs l.length cap _ _ sa (opL (codeOf s) l) (atL l) (argL (codeOf s) l) (cntL (codeOf s) l) _ _ h100 hlen p3.out (fun i hi h => (vArg_bd _ _ h).2) (fun i hi h => (vCnt_bd _ _ h).2) (htab.out.alloc _) (fun h => ⟨(hsa.out h).1, (hsa.out h).2.alloc _⟩) _ ?_ ?_
    · intro hno w2 ho2
      have hbad := hd (show ∀ bd, ¬ imgOk s bd from fun bd h => hno ((hii.out bd).1 h).1)
      have hbel2 := hd ((hb1.out.alloc hb1s _).trans (ho2.below hbs (by simp; omega)))
      clear hno ho2
      go_wp2
      exact cl1 (bad.out hbad.out _ hbel2.out) rfl
    · intro hok To' hTo w2 ho2 ht2
      have hn0 := hok.2.1.1
      have hsa0 := (hsa.out hn0).1
      subst hsa0
      have hbsl0 := hbsl.out hn0
      have hbel2 := (hb1.out.alloc hb1s (.cells #[.slice (some ⟨bc, 0, none⟩) nC nC, .slice (some ⟨bs, 0, none⟩) l.length cap] 115)).trans (ho2.below hbs (by simp; omega))
      have c0 : w2.cell? ⟨w1.heap.size, 0, none⟩ = some (.slice (some ⟨bc, 0, none⟩) nC nC) := (ho2.cell (p := ⟨w1.heap.size, 0, none⟩) (by simp) (by simp; omega)).trans ((cell_of_row _ _ 0 _ _ (0, 0) (heap_alloc_new w1 _)).trans rfl)
      have c1 : w2.cell? ⟨w1.heap.size, 1, none⟩ = some (.slice (some ⟨bs, 0, none⟩) l.length cap) := (ho2.cell (p := ⟨w1.heap.size, 1, none⟩) (by simp) (by simp; omega)).trans ((cell_of_row _ _ 1 _ _ (0, 0) (heap_alloc_new w1 _)).trans rfl)
      have hlt2 : w1.heap.size < w2.heap.size := by have := ho2.size; simp at this; omega
      have hbs2 := hbel2.size
      have hgo := hd (fun bd => (hii.out bd).trans (show (SetOk _ _ nC l.length (opL (codeOf s) l) (atL l) (argL (codeOf s) l) (cntL (codeOf s) l) ∧ _) ↔ _ from ⟨fun h => h.2, fun h => ⟨hok, h⟩⟩))
      replace hbel2 := hd hbel2
      replace ho2 := hd ho2
      replace hTo := hd hTo
      replace ht2 := hd ht2
      replace hok := hd hok
      have q1 : ∀ i, i < l.length → opL (codeOf s) l i < 22 := fun i hi => osz_lt (p2.out i hi).2.2
      have q2 : ∀ i, i < l.length → opL (codeOf s) l i = 19 → 1 ≤ argL (codeOf s) l i ∧ argL (codeOf s) l i ≤ 65535 := fun i hi h => by
        have a1 := (hok.out.1 i hi).2.2.2.2 h
        have a2 := (vArg_jmp (codeOf s) (atL l i) (.inr (.inr h))).2.2
        exact ⟨a1, a2⟩
      have q3 : ∀ i, i < l.length → (opL (codeOf s) l i = 17 ∨ opL (codeOf s) l i = 18) → To' i = (toL (atL l) (opL (codeOf s) l) (nL (codeOf s) l) l.length i : Int) ∧ i < toL (atL l) (opL (codeOf s) l) (nL (codeOf s) l) l.length i ∧ toL (atL l) (opL (codeOf s) l) (nL (codeOf s) l) l.length i < l.length := fun i hi h => by
        obtain ⟨t, e, hJ⟩ := hTo.out i hi h
        have hne : opL (codeOf s) l i ≠ 20 := by rcases h with h | h <;> omega
        have ea : argL (codeOf s) l i = nL (codeOf s) l i := (vArg_jmp (codeOf s) (atL l i) (by rcases h with h | h; exact .inl h; exact .inr (.inl h))).1
        have hJ' : JumpOk (atL l) (opL (codeOf s) l) (nL (codeOf s) l) l.length i t := (jump_arg ea).1 hJ
        have et : toL (atL l) (opL (codeOf s) l) (nL (codeOf s) l) l.length i = t := by unfold toL; rw [if_neg hne]; exact tgt_eq hJ'
        rw [et]
        exact ⟨e, hJ.2.1, hJ.2.2.1⟩
      have q4 : ∀ i, i < l.length → opL (codeOf s) l i = 20 → inOf (opL (codeOf s) l) i = (toL (atL l) (opL (codeOf s) l) (nL (codeOf s) l) l.length i : Int) ∧ toL (atL l) (opL (codeOf s) l) (nL (codeOf s) l) l.length i < i ∧ opL (codeOf s) l (toL (atL l) (opL (codeOf s) l) (nL (codeOf s) l) l.length i) = 19 := fun i hi h => by
        obtain ⟨f, e1, e2, e3⟩ := for_of hok.out.2.2.1 hi h
        have et : toL (atL l) (opL (codeOf s) l) (nL (codeOf s) l) l.length i = f := by unfold toL; rw [if_pos h, e1]; omega
        rw [et]
        exact ⟨e1, e2, e3⟩
      have q5 := hok.out.2.1.2.1
      have q6 := hok.out.2.1.2.2
      generalize toL (atL l) (opL (codeOf s) l) (nL (codeOf s) l) l.length = TT at *
      generalize opL (codeOf s) l = OP at *
      generalize argL (codeOf s) l = AR at *
      generalize cntL (codeOf s) l = CN at *
      generalize atL l = AT at *
      replace q1 := hd q1
      replace q2 := hd q2
      replace q3 := hd q3
      replace q4 := hd q4
      replace q5 := hd q5
      replace q6 := hd q6
      go_wp2_with (fail)
      refine findBound_any _ bs l.length cap OP AT TT AR CN _ _ hlen hn0 ht2.out q1.out q5.out q6.out q3.out q4.out q2.out _ ?_ ?_
      · intro hX x w3 hb3
        have hbad := hd (show ∀ bd, ¬ imgOk s bd from fun bd h => by have := (hgo.out bd).1 h; rw [hX] at this; cases this)
        have hbel3 := hd (bel_step hbel2.out (Nat.le_refl _) hb3)
        clear hX hb3
        go_wp2
        exact cl1 (bad.out hbad.out _ hbel3.out) rfl
      · intro bd hX w3 hb3
        have himg := hd ((hgo.out bd).2 hX)
        have c30 := (hb3.cell (p := ⟨w1.heap.size, 0, none⟩) hlt2).trans c0
        have c31 := (hb3.cell (p := ⟨w1.heap.size, 1, none⟩) hlt2).trans c1
        have hbel3 := bel_step hbel2.out (Nat.le_refl _) hb3
        have hs3 := hbel3.size
        have hlt3 := Nat.lt_of_lt_of_le hlt2 hb3.size
        replace hbel3 := hd hbel3
        replace hb3 := hd hb3
        replace hX := hd hX
        by_cases hlong : 200000 < bd
        · have em : min bd 200001 = 200001 := by omega
          rw [em]
          go_wp2
          exact cl1 (long.out bd himg.out hlong _ hbel3.out) rfl
        · have em : min bd 200001 = bd := by omega
          rw [em]
          have dl : decide ((200000 : Int) < bd) = false := by simpa using hlong
          go_wp2
          refine cl1 (good.out bd himg.out (by omega) _ w3.heap.size (hbel3.out.alloc hs3 _) hs3 ?_) rfl
          exact (cell_of_row _ _ 2 _ _ (0, 0) (heap_alloc_new w3 _)).trans rfl

end Go.Proofs.YtidhiaaicmfabaaGreatDoor
