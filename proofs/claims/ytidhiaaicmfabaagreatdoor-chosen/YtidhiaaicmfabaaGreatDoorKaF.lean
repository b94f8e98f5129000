/- FORs and jumps of an image. -/
import Derived.Test.YtidhiaaicmfabaaGreatDoorKaA
import Derived.Test.YtidhiaaicmfabaaGreatDoorKaB
import Derived.WalkKit
import Derived.WalkSpells
import Derived.WalkLawsBesides
import Derived.Deep.OwnRows
import Derived.BigQuiet
import Derived.Handy
import Derived.Deep.Light
import Derived.Deep.RegionHeld3
import Derived.Deep.RegionWith
import Derived.Test.YtidhiaaicmfabaaGreatDoorKaC
import Derived.Test.YtidhiaaicmfabaaGreatDoorKaD
import Derived.Test.YtidhiaaicmfabaaGreatDoorKaE

/- The contracts of endsOnce and nestLoops. -/
namespace Go.Proofs.YtidhiaaicmfabaaGreatDoor
open Go.RowKit Go.Proofs Go.Deep

def FirstEnd (op : Nat → Nat) (n : Nat) (r : Int) : Prop := (r = -1 ∧ ∀ j, j < n → op j ≠ 0) ∨ (∃ k : Nat, k < n ∧ r = k ∧ op k = 0 ∧ ∀ j, j < k → op j ≠ 0)
set_option maxRecDepth 100000 in
set_option maxHeartbeats 2000000 in
theorem indexFunc_any (w : World) (bs n cap : Nat) (sa : Option Addr) (op at_ : Nat → Nat) (arg cnt lp to_ : Nat → Int) (hn : n ≤ 8000)
    (hsa : 0 < n → sa = some ⟨bs, 0, none⟩ ∧ Tab w bs 254 6 n cap (stepA op at_ arg cnt lp to_)) (R : Ending → World → Prop)
    (fin : ∀ (r : Int) w', FirstEnd op n r → Below w.heap.size w w' → R (.returned (.int .i64 r)) w') :
    Calls Tryz.prog 151 #[.slice sa n cap, .func (.func 152) #[] #[]] w R := by
  replace fin := hd fin
  replace hsa := hd hsa
  go_enter Tryz.func151, Tryz.ntmps151
  go_wp2
  go_loopw [8] (fun i wr => ∃ k : Nat, k ≤ n ∧ i = .int .i64 k ∧ Below w.heap.size w wr ∧ (∀ j, j < k → op j ≠ 0)) (fun i _ => n - (intOf i).toNat)
  case atStart => exact ⟨0, by omega, rfl, Below.refl _ _, by omega⟩
  case round =>
    obtain ⟨k, hk, rfl, hbel, hall⟩ := hrel
    replace hall := hd hall
    by_cases hlt : k < n
    · obtain ⟨hsa1, hts⟩ := hsa.out (by omega)
      subst hsa1
      obtain ⟨x0, x1, x2, x3, x4, x5⟩ := (hts.below hbel).six hlt
      have hszw := hd hbel.size
      replace hbel := hd hbel
      replace hts := hd hts
      go_wp2_with (fail)
      refine isEnd_any _ (op k) _ _ _ _ _ _ ?_
      intro w2 hbel2
      replace hbel2 := hd hbel2
      by_cases h0 : op k = 0
      · have d0 : decide (op k = 0) = true := by simpa using h0
        replace h0 := hd h0
        go_wp2
        exact cl1 (fin.out (k : Int) _ (.inr ⟨k, hlt, rfl, h0.out, hall.out⟩) (bel_step hbel.out (Nat.le_refl _) hbel2.out)) rfl
      · have d0 : decide (op k = 0) = false := by simpa using h0
        go_wp2
        refine ⟨⟨k + 1, by omega, by go_num, bel_step hbel.out (Nat.le_refl _) hbel2.out, fun j hj => ?_⟩, by simp [intOf]; omega⟩
        by_cases e : j = k
        · subst e; exact h0
        · exact hall.out j (by omega)
    · have hkn : k = n := by omega
      subst hkn
      replace hbel := hd hbel
      go_wp2
      exact cl1 (fin.out (-1) _ (.inl ⟨rfl, hall.out⟩) hbel.out) rfl
def EndsOk (op : Nat → Nat) (n : Nat) : Prop := 0 < n ∧ op (n - 1) = 0 ∧ ∀ j, j + 1 < n → op j ≠ 0
set_option maxHeartbeats 1000000 in
theorem endsOnce_any (w : World) (bs n cap : Nat) (sa : Option Addr) (op at_ : Nat → Nat) (arg cnt lp to_ : Nat → Int) (hn : n ≤ 8000)
    (hsa : 0 < n → sa = some ⟨bs, 0, none⟩ ∧ Tab w bs 254 6 n cap (stepA op at_ arg cnt lp to_)) (R : Ending → World → Prop)
    (fin : ∀ (b : Bool) w', (b = true ↔ EndsOk op n) → Below w.heap.size w w' → R (.returned (.bool b)) w') :
    Calls Tryz.prog 105 #[.slice sa n cap] w R := by
  replace fin := hd fin
  go_enter Tryz.func105, Tryz.ntmps105
  go_wp2_with (fail)
  refine indexFunc_any _ bs n cap sa op at_ arg cnt lp to_ hn hsa _ ?_
  intro r w2 hr hbel
  replace hbel := hd hbel
  clear hsa
  rcases hr with ⟨rfl, hall⟩ | ⟨k, hk, rfl, h0, hall⟩
  · replace hall := hd hall
    go_wp2
    refine cl1 (fin.out false _ ?_ hbel.out) rfl
    simp only [Bool.false_eq_true, false_iff]
    intro h
    exact hall.out (n - 1) (by have := h.1; omega) h.2.1
  · replace hall := hd hall
    replace h0 := hd h0
    go_wp2
    refine cl1 (fin.out ((k : Int) == (n : Int) - 1) _ ?_ hbel.out) rfl
    constructor
    · intro h
      have hkn : k = n - 1 := by simp at h; omega
      refine ⟨by omega, by rw [← hkn]; exact h0.out, fun j hj => hall.out j (by omega)⟩
    · intro h
      have : ¬ (k + 1 < n) := fun h' => h.2.2 k h' h0.out
      simp; omega
theorem stk_prev (op : Nat → Nat) : ∀ (k f : Nat) (t : List Nat), stk op k = some (f :: t) → stk op f = some t := by
  intro k
  induction k using Nat.strongRecOn with
  | _ k ih =>
    intro f t h
    cases k with
    | zero => simp [stk] at h
    | succ k =>
      simp only [stk] at h
      cases hk : stk op k with
      | none => simp [hk] at h
      | some s0 =>
        simp only [hk] at h
        by_cases h19 : op k = 19
        · simp only [h19, if_true] at h
          split at h
          · cases h
          · injection h with h
            injection h with h1 h2
            subst h1; subst h2; exact hk
        · simp only [h19, if_false] at h
          by_cases h20 : op k = 20
          · simp only [h20, if_true] at h
            cases s0 with
            | nil => cases h
            | cons a t0 =>
              injection h with h
              subst h
              have h1 := ih k (by omega) a (f :: t) hk
              have h2 := (stk_mem op k _ hk a (by simp)).1
              exact ih a (by omega) f t h1
          · simp only [h20, if_false] at h
            injection h with h
            subst h
            exact ih k (by omega) f t hk
def hdV (st : List Nat) : Int := match st with | [] => -1 | f :: _ => f
theorem inOf_hd {op : Nat → Nat} {k : Nat} {st : List Nat} (h : stk op k = some st) : inOf op k = hdV st := by
  cases st with
  | nil => rw [inOf_nil h]; rfl
  | cons f t => rw [inOf_cons h]; rfl
theorem stepA_lp {op at_ : Nat → Nat} {arg cnt lp to_ : Nat → Int} {k : Nat} {x : Int} (j g : Nat) (hg : g < 6) :
    (if j = k ∧ g = 4 then Value.int .i64 x else stepA op at_ arg cnt lp to_ j g) = stepA op at_ arg cnt (fun j => if j = k then x else lp j) to_ j g := by
  have hc : g = 0 ∨ g = 1 ∨ g = 2 ∨ g = 3 ∨ g = 4 ∨ g = 5 := by omega
  rcases hc with rfl | rfl | rfl | rfl | rfl | rfl <;> simp [stepA]
  split <;> simp_all
theorem stepA_to {op at_ : Nat → Nat} {arg cnt lp to_ : Nat → Int} {k : Nat} {x : Int} (j g : Nat) (hg : g < 6) :
    (if j = k ∧ g = 5 then Value.int .i64 x else stepA op at_ arg cnt lp to_ j g) = stepA op at_ arg cnt lp (fun j => if j = k then x else to_ j) j g := by
  have hc : g = 0 ∨ g = 1 ∨ g = 2 ∨ g = 3 ∨ g = 4 ∨ g = 5 := by omega
  rcases hc with rfl | rfl | rfl | rfl | rfl | rfl <;> simp [stepA]
  split <;> simp_all
set_option maxRecDepth 100000 in
set_option maxHeartbeats 4000000 in
theorem nestLoops_any (w : World) (b n cap : Nat) (op at_ : Nat → Nat) (arg cnt lp to_ : Nat → Int) (hn : n ≤ 8000)
    (ht : Tab w b 254 6 n cap (stepA op at_ arg cnt lp to_)) (R : Ending → World → Prop)
    (no : stk op n ≠ some [] → ∀ w', Only b w w' → R (.returned (.bool false)) w')
    (yes : stk op n = some [] → ∀ w', Only b w w' → Tab w' b 254 6 n cap (stepA op at_ arg cnt (inOf op) to_) → R (.returned (.bool true)) w') :
    Calls Tryz.prog 106 #[.slice (some ⟨b, 0, none⟩) n cap] w R := by
  replace yes := hd yes
  replace no := hd no
  have hb := ht.lt
  replace ht := hd ht
  go_enter Tryz.func106, Tryz.ntmps106
  go_wp2
  go_loopw [3, 4, 8] (fun v o i wr => ∃ (k : Nat) (st : List Nat) (lp' : Nat → Int), k ≤ n ∧ i = .int .i64 k ∧ v = .int .i64 (hdV st) ∧ o = .int .i64 (st.length : Nat) ∧ stk op k = some st ∧
      Only b w wr ∧ Tab wr b 254 6 n cap (stepA op at_ arg cnt lp' to_) ∧ (∀ j, j < k → lp' j = inOf op j)) (fun _ _ i _ => n - (intOf i).toNat)
  case atStart => exact ⟨0, [], lp, by omega, rfl, rfl, rfl, rfl, Only.refl _ _, ht.out, by omega⟩
  case round =>
    obtain ⟨k, st, lp', hk, rfl, rfl, rfl, hst, honly, htab, hlp⟩ := hrel
    have hlen := stk_len op k st hst
    by_cases hlt : k < n
    · obtain ⟨x0, x1, x2, x3, x4, x5⟩ := htab.six hlt
      have hT2 := hd ((htab.set k 4 (by omega) (.int .i64 (hdV st))).congr (fun j _ g hg => stepA_lp j g hg))
      have hO2 := hd (honly.setCell (a := ⟨b, k * 6 + 4, none⟩) (.inl rfl) (.int .i64 (hdV st)))
      have hin := hd (inOf_hd hst)
      have hlp2 := hd (show ∀ j, j < k + 1 → (if j = k then hdV st else lp' j) = inOf op j from fun j hj => by
        by_cases e : j = k
        · subst e; rw [if_pos rfl, hin.out]
        · rw [if_neg e]; exact hlp j (by omega))
      have fz := fun o => htab.frozen o
      have hmem := hd (stk_mem op k st hst)
      replace hst := hd hst
      replace honly := hd honly
      replace htab := hd htab
      replace hlp := hd hlp
      by_cases h19 : op k = 19
      · have t19 : ((op k : Int) == 19) = true := by simp [h19]
        replace h19 := hd h19
        by_cases h10 : 10 ≤ st.length
        · have d10 : decide ((10 : Int) < (st.length : Int) + 1) = true := by simp; omega
          go_wp2
          exact cl1 (no.out (by rw [stk_none op (stk_far hst.out h19.out h10) (by omega)]; simp) _ hO2.out) rfl
        · have d10 : decide ((10 : Int) < (st.length : Int) + 1) = false := by simp; omega
          go_wp2
          refine ⟨⟨k + 1, k :: st, _, by omega, by go_num, rfl, by simp, stk_for hst.out h19.out (by omega), hO2.out, hT2.out, hlp2.out⟩, by simp [intOf]; omega⟩
      · have t19 : ((op k : Int) == 19) = false := by simp; omega
        by_cases h20 : op k = 20
        · have t20 : ((op k : Int) == 20) = true := by simp [h20]
          replace h20 := hd h20
          cases st with
          | nil =>
            have e1 : ((hdV []) == (-1 : Int)) = true := rfl
            go_wp2
            exact cl1 (no.out (by rw [stk_none op (stk_none20 hst.out h20.out) (by omega)]; simp) _ hO2.out) rfl
          | cons f t =>
            have hf := hmem.out f (by simp)
            have e0 : hdV (f :: t) = (f : Int) := rfl
            rw [e0] at *
            have e1 : ((f : Int) == (-1 : Int)) = false := by simp
            have cf : (wr.setCell ⟨b, k * 6 + 4, none⟩ (.int .i64 (f : Int))).cell? ⟨b, f * 6 + 4, none⟩ = some (.int .i64 (hdV t)) := by
              have h1 := hT2.out.cell (i := f) (by omega) (f := 4) (by omega)
              rw [stepA_4, hlp2.out f (by omega), inOf_hd (stk_prev op k f t hst.out)] at h1
              exact h1
            simp only [List.length_cons] at hlen ⊢
            go_wp2
            refine ⟨⟨k + 1, t, _, by omega, by go_num, rfl, by simp, stk_next hst.out h20.out, hO2.out, hT2.out, hlp2.out⟩, by simp [intOf]; omega⟩
        · have t20 : ((op k : Int) == 20) = false := by simp; omega
          go_wp2
          refine ⟨⟨k + 1, st, _, by omega, by go_num, rfl, rfl, stk_other hst.out h19 h20, hO2.out, hT2.out, hlp2.out⟩, by simp [intOf]; omega⟩
    · have hkn : k = n := by omega
      subst hkn
      have hst2 := hst
      replace hst := hd hst
      replace honly := hd honly
      replace htab := hd htab
      replace hlp := hd hlp
      cases st with
      | nil =>
        have e1 : ((hdV []) == (-1 : Int)) = true := rfl
        go_wp2
        exact cl1 (yes.out hst.out _ honly.out (htab.out.congr (fun i hi g hg => by unfold stepA; rw [hlp.out i hi]))) rfl
      | cons f t =>
        have e0 : hdV (f :: t) = (f : Int) := rfl
        rw [e0] at *
        have e1 : ((f : Int) == (-1 : Int)) = false := by simp
        go_wp2
        exact cl1 (no.out (by rw [hst.out]; simp) _ honly.out) rfl

end Go.Proofs.YtidhiaaicmfabaaGreatDoor

/- The contracts of the search and of aimJumps. -/
namespace Go.Proofs.YtidhiaaicmfabaaGreatDoor
open Go.RowKit Go.Proofs Go.Deep

set_option maxHeartbeats 400000 in
theorem cmpAt_any (w : World) (o a : Nat) (c d e f t : Int) (R : Ending → World → Prop)
    (fin : ∀ (r : Int) w', Hid (r < 0 ↔ (a : Int) < t) → Hid (r = 0 ↔ (a : Int) = t) → Below w.heap.size w w' → R (.returned (.int .i64 r)) w') :
    Calls Tryz.prog 154 #[.agg #[.int .u8 (o : Int), .int .i64 (a : Int), .int .i64 c, .int .i64 d, .int .i64 e, .int .i64 f], .int .i64 t] w R := by
  replace fin := hd fin
  go_enter Tryz.func154, Tryz.ntmps154
  go_wp2_with (fail)
  refine compare_any _ _ _ _ ?_
  intro r h1 h2
  replace h1 := hd h1
  replace h2 := hd h2
  go_wp2
  exact cl1 (fin.out r _ h1 h2 (by repeat (first | with_reducible exact Below.refl _ _ | with_reducible refine below_drewN ?_ _ | with_reducible refine Below.drew ?_ | with_reducible refine Below.alloc ?_ (by simp) _ | with_reducible refine Below.setCell ?_ (by simp) _))) rfl
def Found (A : Nat → Nat) (n : Nat) (t : Int) (i : Nat) (b : Bool) : Prop := i ≤ n ∧ (∀ j, j < i → (A j : Int) < t) ∧ (∀ j, i ≤ j → j < n → t ≤ (A j : Int)) ∧ (b = true ↔ i < n ∧ (A i : Int) = t)
theorem half (i j : Nat) (h : i + j ≤ 20000) : wrap64 (((i : Int) + (j : Int)) / 2) = (((i + j) / 2 : Nat) : Int) := by
  rw [IntWalk.wrap64_in _ (by omega)]; omega
set_option maxRecDepth 100000 in
set_option maxHeartbeats 2000000 in
theorem search_any (w : World) (bs n cap : Nat) (op at_ : Nat → Nat) (arg cnt lp to_ : Nat → Int) (t : Int) (hn : n ≤ 8000) (hmono : ∀ i j, i < j → j < n → at_ i < at_ j)
    (hts : Tab w bs 254 6 n cap (stepA op at_ arg cnt lp to_)) (R : Ending → World → Prop)
    (fin : ∀ (i : Nat) (b : Bool) w', Found at_ n t i b → Below w.heap.size w w' → R (.returned (.tuple #[.int .i64 (i : Int), .bool b])) w') :
    Calls Tryz.prog 153 #[.slice (some ⟨bs, 0, none⟩) n cap, .int .i64 t, .func (.func 154) #[] #[]] w R := by
  replace fin := hd fin
  replace hmono := hd hmono
  replace hts := hd hts
  go_enter Tryz.func153, Tryz.ntmps153
  go_wp2
  go_loopw [9, 10] (fun x y wr => ∃ i j : Nat, i ≤ j ∧ j ≤ n ∧ x = .int .i64 i ∧ y = .int .i64 j ∧ Below w.heap.size w wr ∧ (∀ k, k < i → (at_ k : Int) < t) ∧ (∀ k, j ≤ k → k < n → t ≤ (at_ k : Int))) (fun x y _ => (intOf y).toNat - (intOf x).toNat)
  case atStart => exact ⟨0, n, by omega, by omega, rfl, rfl, Below.refl _ _, by omega, by omega⟩
  case round =>
    obtain ⟨i, j, hij, hj, rfl, rfl, hbel, hlo, hhi⟩ := hrel
    replace hlo := hd hlo
    replace hhi := hd hhi
    by_cases hlt : i < j
    · obtain ⟨h, hh⟩ : ∃ h, (i + j) / 2 = h := ⟨_, rfl⟩
      have hih : i ≤ h ∧ h < j := by omega
      have eh : ((i : Int) + (j : Int)) / 2 = (h : Int) := by omega
      obtain ⟨x0, x1, x2, x3, x4, x5⟩ := (hts.out.below hbel).six (show h < n by omega)
      have jh : (h : Int) < (n : Int) := by omega
      replace hbel := hd hbel
      replace hh := hd hh
      go_wp2_with (fail)
      refine cmpAt_any _ _ _ _ _ _ _ _ _ ?_
      intro r w2 hr1 hr2 hbel2
      replace hbel2 := hd hbel2
      by_cases hc : (at_ h : Int) < t
      · have hr0 : r < 0 := hr1.out.2 hc
        have dr : decide (r < 0) = true := by simpa using hr0
        replace hc := hd hc
        replace hr0 := hd hr0
        go_wp2
        refine ⟨⟨h + 1, j, by omega, hj, by go_num, rfl, bel_step hbel.out (Nat.le_refl _) hbel2.out, fun k hk => ?_, hhi.out⟩, by simp [intOf]; omega⟩
        by_cases e : k = h
        · subst e; exact hc.out
        · have := hmono.out k h (by omega) (by omega)
          have := hc.out
          omega
      · have hr0 : ¬ r < 0 := fun h' => hc (hr1.out.1 h')
        have dr : decide (r < 0) = false := by simpa using hr0
        replace hc := hd hc
        replace hr0 := hd hr0
        go_wp2
        refine ⟨⟨i, h, by omega, by omega, rfl, rfl, bel_step hbel.out (Nat.le_refl _) hbel2.out, hlo.out, fun k hk hkn => ?_⟩, by simp [intOf]; omega⟩
        by_cases e : k = h
        · subst e; have := hc.out; omega
        · have := hmono.out h k (by omega) hkn
          have := hc.out
          omega
    · have hij2 : i = j := by omega
      subst hij2
      by_cases hin : i < n
      · obtain ⟨x0, x1, x2, x3, x4, x5⟩ := (hts.out.below hbel).six hin
        have jh : (i : Int) < (n : Int) := by omega
        replace hbel := hd hbel
        go_wp2_with (fail)
        refine cmpAt_any _ _ _ _ _ _ _ _ _ ?_
        intro r w2 hr1 hr2 hbel2
        replace hbel2 := hd hbel2
        go_wp2
        refine cl1 (fin.out i (r == 0) _ ⟨hj, hlo.out, hhi.out, ?_⟩ (bel_step hbel.out (Nat.le_refl _) hbel2.out)) rfl
        have := hr2.out
        simp [hin, this]
      · replace hbel := hd hbel
        go_wp2
        refine cl1 (fin.out i false _ ⟨hj, hlo.out, hhi.out, ?_⟩ hbel.out) rfl
        simp; omega
/-- The two sides' target of a jump. -/
theorem found_jump {at_ op : Nat → Nat} {N : Nat → Int} {n i k : Nat} {b : Bool} (hf : Found at_ n (N i) k b) (h : (b = true ∧ i < k ∧ inOf op k = inOf op i)) : JumpOk at_ op N n i k := by
  obtain ⟨h1, h2, h3, h4⟩ := hf
  obtain ⟨hkn, he⟩ := h4.1 h.1
  exact ⟨he, h.2.1, hkn, h.2.2, fun j hj => by have := h2 j hj; omega⟩
theorem jump_found {at_ op : Nat → Nat} {N : Nat → Int} {n i k t : Nat} {b : Bool} (hmono : ∀ i j, i < j → j < n → at_ i < at_ j) (hf : Found at_ n (N i) k b) (h : JumpOk at_ op N n i t) : t = k ∧ b = true ∧ i < k ∧ inOf op k = inOf op i := by
  obtain ⟨h1, h2, h3, h4⟩ := hf
  obtain ⟨a, b1, c, d, e⟩ := h
  have htk : t = k := by
    rcases Nat.lt_trichotomy t k with h | h | h
    · have := h2 t h; omega
    · exact h
    · have h5 := h3 k (Nat.le_refl _) (by omega)
      have h6 := hmono k t h c
      omega
  subst htk
  exact ⟨rfl, h4.2 ⟨c, a⟩, b1, d⟩
set_option maxRecDepth 100000 in
set_option maxHeartbeats 4000000 in
theorem aimJumps_any (w : World) (b n cap : Nat) (op at_ : Nat → Nat) (arg cnt to_ : Nat → Int) (hn : n ≤ 8000) (hmono : ∀ i j, i < j → j < n → at_ i < at_ j)
    (ht : Tab w b 254 6 n cap (stepA op at_ arg cnt (inOf op) to_)) (R : Ending → World → Prop)
    (no : (∃ i, i < n ∧ isJump (op i) ∧ ∀ t, ¬ JumpOk at_ op arg n i t) → ∀ w', Only b w w' → R (.returned (.bool false)) w')
    (yes : ∀ To' : Nat → Int, (∀ i, i < n → isJump (op i) → ∃ t : Nat, To' i = (t : Int) ∧ JumpOk at_ op arg n i t) → ∀ w', Only b w w' → Tab w' b 254 6 n cap (stepA op at_ arg cnt (inOf op) To') → R (.returned (.bool true)) w') :
    Calls Tryz.prog 107 #[.slice (some ⟨b, 0, none⟩) n cap] w R := by
  replace yes := hd yes
  replace no := hd no
  replace hmono := hd hmono
  have hb := ht.lt
  replace ht := hd ht
  go_enter Tryz.func107, Tryz.ntmps107
  go_wp2
  go_loopw [9] (fun i wr => ∃ (k : Nat) (To' : Nat → Int), k ≤ n ∧ i = .int .i64 k ∧ Only b w wr ∧ Tab wr b 254 6 n cap (stepA op at_ arg cnt (inOf op) To') ∧
      (∀ i, i < k → isJump (op i) → ∃ t : Nat, To' i = (t : Int) ∧ JumpOk at_ op arg n i t)) (fun i _ => n - (intOf i).toNat)
  case atStart => exact ⟨0, to_, by omega, rfl, Only.refl _ _, ht.out, by omega⟩
  case round =>
    obtain ⟨k, To', hk, rfl, honly, htab, hj1⟩ := hrel
    replace hj1 := hd hj1
    by_cases hlt : k < n
    · obtain ⟨x0, x1, x2, x3, x4, x5⟩ := htab.six hlt
      have fz := fun o => htab.frozen o
      have hbr := htab.lt
      replace honly := hd honly
      by_cases hjmp : isJump (op k)
      · have ej : ((op k : Int) != 17) = false ∨ ((op k : Int) != 17) = true ∧ ((op k : Int) != 18) = false := by
          rcases hjmp with h | h <;> simp [h]
        replace hjmp := hd hjmp
        have htA := hd (fun o => htab.alloc o)
        replace htab := hd htab
        rcases ej with e17 | ⟨e17, e18⟩
        all_goals
          go_wp2_with (fail)
          refine search_any _ b n cap op at_ arg cnt (inOf op) To' (arg k) hn hmono.out (htA.out _) _ ?_
          intro t fb w2 hfound hbel2
          have htab2 := (htA.out (.cells #[.int .u8 (op k : Int), .int .i64 (at_ k : Int), .int .i64 (arg k), .int .i64 (cnt k), .int .i64 (inOf op k), .int .i64 (To' k)] 254)).below hbel2
          have s4 : w2.cell? ⟨wr.heap.size, 4, none⟩ = some (.int .i64 (inOf op k)) := (hbel2.cell (by simp)).trans ((cell_of_row _ _ 4 _ _ (0, 0) (heap_alloc_new wr _)).trans rfl)
          have y5 : w2.cell? ⟨b, k * 6 + 5, none⟩ = some (.int .i64 (To' k)) := htab2.cell (f := 5) hlt (by omega)
          have fz2 := fun o => htab2.frozen o
          have honly2 := hd ((honly.out.alloc (.cells #[.int .u8 (op k : Int), .int .i64 (at_ k : Int), .int .i64 (arg k), .int .i64 (cnt k), .int .i64 (inOf op k), .int .i64 (To' k)] 254)).trans (Only.of_below hbel2))
          have hltb : b < w2.heap.size := by have := hbel2.size; simp at this; omega
          have hnob := hd (show (∃ t, JumpOk at_ op arg n k t) → fb = true ∧ k < t ∧ inOf op t = inOf op k from fun ⟨t', h⟩ => by
            obtain ⟨e, h2⟩ := jump_found hmono.out hfound h
            exact h2)
          have hnoj := hd (show ¬ (fb = true ∧ k < t ∧ inOf op t = inOf op k) → (∃ i, i < n ∧ isJump (op i) ∧ ∀ t, ¬ JumpOk at_ op arg n i t) from fun h => ⟨k, hlt, hjmp.out, fun t' ht' => h (hnob.out ⟨t', ht'⟩)⟩)
          have htn : fb = true → t < n := fun h => (hfound.2.2.2.1 h).1
          replace hfound := hd hfound
          replace hbel2 := hd hbel2
          cases fb with
          | false =>
            replace htab2 := hd htab2
            clear htn
            go_wp2
            go_quiet (fail)
            go_wp2
            exact cl1 (no.out (hnoj.out (by simp)) _ (honly2.out.drewN _)) rfl
          | true =>
            have htn1 := htn rfl
            clear htn
            by_cases hkt : k < t
            · have dkt : decide ((t : Int) ≤ (k : Int)) = false := by simp; omega
              have y4 : w2.cell? ⟨b, t * 6 + 4, none⟩ = some (.int .i64 (inOf op t)) := htab2.cell (f := 4) htn1 (by omega)
              have jt : (t : Int) < (n : Int) := by omega
              by_cases hin : inOf op t = inOf op k
              · have din : (inOf op t != inOf op k) = false := by simp [hin]
                have hJ := hd (found_jump hfound.out ⟨rfl, hkt, hin⟩)
                have hT3 := hd ((htab2.set k 5 (by omega) (.int .i64 (t : Int))).congr (fun j _ g hg => stepA_to j g hg))
                replace hin := hd hin
                replace htab2 := hd htab2
                go_wp2
                go_quiet (fail)
                go_wp2
                refine ⟨⟨k + 1, _, by omega, by go_num, (honly2.out.drewN _).setCell (a := ⟨b, k * 6 + 5, none⟩) (.inl rfl) _, hT3.out, fun i hi hi2 => ?_⟩, by simp [intOf]; omega⟩
                by_cases e : i = k
                · subst e; exact ⟨t, if_pos rfl, hJ.out⟩
                · obtain ⟨t', ht', hJ'⟩ := hj1.out i (by omega) hi2
                  exact ⟨t', by simp only [e, if_false]; exact ht', hJ'⟩
              · have din : (inOf op t != inOf op k) = true := by simpa using hin
                replace htab2 := hd htab2
                go_wp2
                go_quiet (fail)
                go_wp2
                exact cl1 (no.out (hnoj.out (fun h => hin h.2.2)) _ (honly2.out.drewN _)) rfl
            · have dkt : decide ((t : Int) ≤ (k : Int)) = true := by simp; omega
              replace htab2 := hd htab2
              go_wp2
              go_quiet (fail)
              go_wp2
              exact cl1 (no.out (hnoj.out (fun h => hkt h.2.1)) _ (honly2.out.drewN _)) rfl
      · have t17 : ((op k : Int) != 17) = true := by
          have : op k ≠ 17 := fun h => hjmp (.inl h)
          simp; omega
        have t18 : ((op k : Int) != 18) = true := by
          have : op k ≠ 18 := fun h => hjmp (.inr h)
          simp; omega
        replace htab := hd htab
        go_wp2
        refine ⟨⟨k + 1, To', by omega, by go_num, honly.out.alloc _, htab.out.alloc _, fun i hi hi2 => ?_⟩, by simp [intOf]; omega⟩
        by_cases e : i = k
        · subst e; exact absurd hi2 hjmp
        · exact hj1.out i (by omega) hi2
    · have hkn : k = n := by omega
      subst hkn
      replace honly := hd honly
      replace htab := hd htab
      go_wp2
      exact cl1 (yes.out To' hj1.out _ honly.out htab.out) rfl

end Go.Proofs.YtidhiaaicmfabaaGreatDoor
