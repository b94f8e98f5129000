/- The contracts of endsOnce and nestLoops. -/
import Derived.Test.YtidhiaaicmfabaaGreatDoorMem
import Derived.Test.YtidhiaaicmfabaaGreatDoorSpec
import Derived.Test.YtidhiaaicmfabaaGreatDoorRefA
import Derived.Test.YtidhiaaicmfabaaGreatDoorRefC
import Derived.Test.YtidhiaaicmfabaaGreatDoorSpec2
import Derived.WalkKit
import Derived.WalkSpells
import Derived.WalkLawsBesides
import Derived.Deep.OwnRows
import Derived.BigQuiet
import Derived.Handy
import Derived.Deep.Light
import Derived.Deep.RegionHeld3
import Derived.Deep.RegionWith
import Derived.Test.YtidhiaaicmfabaaGreatDoorVmA
import Derived.Test.YtidhiaaicmfabaaGreatDoorLibA
import Derived.Test.YtidhiaaicmfabaaGreatDoorRefD
import Derived.Test.YtidhiaaicmfabaaGreatDoorVmB
import Derived.Test.YtidhiaaicmfabaaGreatDoorVmC
import Derived.Test.YtidhiaaicmfabaaGreatDoorVmD
namespace Go.Proofs.YtidhiaaicmfabaaGreatDoor
open Go.RowKit Go.Proofs Go.Deep

def FirstEnd (op : Nat → Nat) (n : Nat) (r : Int) : Prop := (r = -1 ∧ ∀ j, j < n → op j ≠ 0) ∨ (∃ k : Nat, k < n ∧ r = k ∧ op k = 0 ∧ ∀ j, j < k → op j ≠ 0)
set_option maxRecDepth 100000 in
set_option maxHeartbeats 2000000 in
theorem indexFunc_any (w : World) (bs n cap : Nat) (sa : Option Addr) (op at_ : Nat → Nat) (arg cnt lp to_ : Nat → Int) (hn : n ≤ 8000)
    (hsa : 0 < n → sa = some ⟨bs, 0, none⟩ ∧ Tab w bs 254 6 n cap (stepA op at_ arg cnt lp to_)) (R : Ending → World → Prop)
    (fin : ∀ (r : Int) w', FirstEnd op n r → Below w.heap.size w w' → R (.returned (.int .i64 r)) w') :
    Calls Tryz.prog 151 #[.slice sa n cap, .func (.func 152) #[] #[]] w R := by
  replace fin := hd fin
  replace hsa := hd hsa
  go_enter Tryz.func151, Tryz.ntmps151
  go_wp2
  go_loopw [8] (fun i wr => ∃ k : Nat, k ≤ n ∧ i = .int .i64 k ∧ Below w.heap.size w wr ∧ (∀ j, j < k → op j ≠ 0)) (fun i _ => n - (intOf i).toNat)
  case atStart => exact ⟨0, by omega, rfl, Below.refl _ _, by omega⟩
  case round =>
    obtain ⟨k, hk, rfl, hbel, hall⟩ := hrel
    replace hall := hd hall
    by_cases hlt : k < n
    · obtain ⟨hsa1, hts⟩ := hsa.out (by omega)
      subst hsa1
      obtain ⟨x0, x1, x2, x3, x4, x5⟩ := (hts.below hbel).six hlt
      have hszw := hd hbel.size
      replace hbel := hd hbel
      replace hts := hd hts
      go_wp2_with (fail)
      refine isEnd_any _ (op k) _ _ _ _ _ _ ?_
      intro w2 hbel2
      replace hbel2 := hd hbel2
      by_cases h0 : op k = 0
      · have d0 : decide (op k = 0) = true := by simpa using h0
        replace h0 := hd h0
        go_wp2
        exact cl1 (fin.out (k : Int) _ (.inr ⟨k, hlt, rfl, h0.out, hall.out⟩) (bel_step hbel.out (Nat.le_refl _) hbel2.out)) rfl
      · have d0 : decide (op k = 0) = false := by simpa using h0
        go_wp2
        refine ⟨⟨k + 1, by omega, by go_num, bel_step hbel.out (Nat.le_refl _) hbel2.out, fun j hj => ?_⟩, by simp [intOf]; omega⟩
        by_cases e : j = k
        · subst e; exact h0
        · exact hall.out j (by omega)
    · have hkn : k = n := by omega
      subst hkn
      replace hbel := hd hbel
      go_wp2
      exact cl1 (fin.out (-1) _ (.inl ⟨rfl, hall.out⟩) hbel.out) rfl
def EndsOk (op : Nat → Nat) (n : Nat) : Prop := 0 < n ∧ op (n - 1) = 0 ∧ ∀ j, j + 1 < n → op j ≠ 0
set_option maxHeartbeats 1000000 in
theorem endsOnce_any (w : World) (bs n cap : Nat) (sa : Option Addr) (op at_ : Nat → Nat) (arg cnt lp to_ : Nat → Int) (hn : n ≤ 8000)
    (hsa : 0 < n → sa = some ⟨bs, 0, none⟩ ∧ Tab w bs 254 6 n cap (stepA op at_ arg cnt lp to_)) (R : Ending → World → Prop)
    (fin : ∀ (b : Bool) w', (b = true ↔ EndsOk op n) → Below w.heap.size w w' → R (.returned (.bool b)) w') :
    Calls Tryz.prog 105 #[.slice sa n cap] w R := by
  replace fin := hd fin
  go_enter Tryz.func105, Tryz.ntmps105
  go_wp2_with (fail)
  refine indexFunc_any _ bs n cap sa op at_ arg cnt lp to_ hn hsa _ ?_
  intro r w2 hr hbel
  replace hbel := hd hbel
  clear hsa
  rcases hr with ⟨rfl, hall⟩ | ⟨k, hk, rfl, h0, hall⟩
  · replace hall := hd hall
    go_wp2
    refine cl1 (fin.out false _ ?_ hbel.out) rfl
    simp only [Bool.false_eq_true, false_iff]
    intro h
    exact hall.out (n - 1) (by have := h.1; omega) h.2.1
  · replace hall := hd hall
    replace h0 := hd h0
    go_wp2
    refine cl1 (fin.out ((k : Int) == (n : Int) - 1) _ ?_ hbel.out) rfl
    constructor
    · intro h
      have hkn : k = n - 1 := by simp at h; omega
      refine ⟨by omega, by rw [← hkn]; exact h0.out, fun j hj => hall.out j (by omega)⟩
    · intro h
      have : ¬ (k + 1 < n) := fun h' => h.2.2 k h' h0.out
      simp; omega
theorem stk_prev (op : Nat → Nat) : ∀ (k f : Nat) (t : List Nat), stk op k = some (f :: t) → stk op f = some t := by
  intro k
  induction k using Nat.strongRecOn with
  | _ k ih =>
    intro f t h
    cases k with
    | zero => simp [stk] at h
    | succ k =>
      simp only [stk] at h
      cases hk : stk op k with
      | none => simp [hk] at h
      | some s0 =>
        simp only [hk] at h
        by_cases h19 : op k = 19
        · simp only [h19, if_true] at h
          split at h
          · cases h
          · injection h with h
            injection h with h1 h2
            subst h1; subst h2; exact hk
        · simp only [h19, if_false] at h
          by_cases h20 : op k = 20
          · simp only [h20, if_true] at h
            cases s0 with
            | nil => cases h
            | cons a t0 =>
              injection h with h
              subst h
              have h1 := ih k (by omega) a (f :: t) hk
              have h2 := (stk_mem op k _ hk a (by simp)).1
              exact ih a (by omega) f t h1
          · simp only [h20, if_false] at h
            injection h with h
            subst h
            exact ih k (by omega) f t hk
def hdV (st : List Nat) : Int := match st with | [] => -1 | f :: _ => f
theorem inOf_hd {op : Nat → Nat} {k : Nat} {st : List Nat} (h : stk op k = some st) : inOf op k = hdV st := by
  cases st with
  | nil => rw [inOf_nil h]; rfl
  | cons f t => rw [inOf_cons h]; rfl
theorem stepA_lp {op at_ : Nat → Nat} {arg cnt lp to_ : Nat → Int} {k : Nat} {x : Int} (j g : Nat) (hg : g < 6) :
    (if j = k ∧ g = 4 then Value.int .i64 x else stepA op at_ arg cnt lp to_ j g) = stepA op at_ arg cnt (fun j => if j = k then x else lp j) to_ j g := by
  have hc : g = 0 ∨ g = 1 ∨ g = 2 ∨ g = 3 ∨ g = 4 ∨ g = 5 := by omega
  rcases hc with rfl | rfl | rfl | rfl | rfl | rfl <;> simp [stepA]
  split <;> simp_all
theorem stepA_to {op at_ : Nat → Nat} {arg cnt lp to_ : Nat → Int} {k : Nat} {x : Int} (j g : Nat) (hg : g < 6) :
    (if j = k ∧ g = 5 then Value.int .i64 x else stepA op at_ arg cnt lp to_ j g) = stepA op at_ arg cnt lp (fun j => if j = k then x else to_ j) j g := by
  have hc : g = 0 ∨ g = 1 ∨ g = 2 ∨ g = 3 ∨ g = 4 ∨ g = 5 := by omega
  rcases hc with rfl | rfl | rfl | rfl | rfl | rfl <;> simp [stepA]
  split <;> simp_all
set_option maxRecDepth 100000 in
set_option maxHeartbeats 4000000 in
theorem nestLoops_any (w : World) (b n cap : Nat) (op at_ : Nat → Nat) (arg cnt lp to_ : Nat → Int) (hn : n ≤ 8000)
    (ht : Tab w b 254 6 n cap (stepA op at_ arg cnt lp to_)) (R : Ending → World → Prop)
    (no : stk op n ≠ some [] → ∀ w', Only b w w' → R (.returned (.bool false)) w')
    (yes : stk op n = some [] → ∀ w', Only b w w' → Tab w' b 254 6 n cap (stepA op at_ arg cnt (inOf op) to_) → R (.returned (.bool true)) w') :
    Calls Tryz.prog 106 #[.slice (some ⟨b, 0, none⟩) n cap] w R := by
  replace yes := hd yes
  replace no := hd no
  have hb := ht.lt
  replace ht := hd ht
  go_enter Tryz.func106, Tryz.ntmps106
  go_wp2
  go_loopw [3, 4, 8] (fun v o i wr => ∃ (k : Nat) (st : List Nat) (lp' : Nat → Int), k ≤ n ∧ i = .int .i64 k ∧ v = .int .i64 (hdV st) ∧ o = .int .i64 (st.length : Nat) ∧ stk op k = some st ∧
      Only b w wr ∧ Tab wr b 254 6 n cap (stepA op at_ arg cnt lp' to_) ∧ (∀ j, j < k → lp' j = inOf op j)) (fun _ _ i _ => n - (intOf i).toNat)
  case atStart => exact ⟨0, [], lp, by omega, rfl, rfl, rfl, rfl, Only.refl _ _, ht.out, by omega⟩
  case round =>
    obtain ⟨k, st, lp', hk, rfl, rfl, rfl, hst, honly, htab, hlp⟩ := hrel
    have hlen := stk_len op k st hst
    by_cases hlt : k < n
    · obtain ⟨x0, x1, x2, x3, x4, x5⟩ := htab.six hlt
      have hT2 := hd ((htab.set k 4 (by omega) (.int .i64 (hdV st))).congr (fun j _ g hg => stepA_lp j g hg))
      have hO2 := hd (honly.setCell (a := ⟨b, k * 6 + 4, none⟩) (.inl rfl) (.int .i64 (hdV st)))
      have hin := hd (inOf_hd hst)
      have hlp2 := hd (show ∀ j, j < k + 1 → (if j = k then hdV st else lp' j) = inOf op j from fun j hj => by
        by_cases e : j = k
        · subst e; rw [if_pos rfl, hin.out]
        · rw [if_neg e]; exact hlp j (by omega))
      have fz := fun o => htab.frozen o
      have hmem := hd (stk_mem op k st hst)
      replace hst := hd hst
      replace honly := hd honly
      replace htab := hd htab
      replace hlp := hd hlp
      by_cases h19 : op k = 19
      · have t19 : ((op k : Int) == 19) = true := by simp [h19]
        replace h19 := hd h19
        by_cases h10 : 10 ≤ st.length
        · have d10 : decide ((10 : Int) < (st.length : Int) + 1) = true := by simp; omega
          go_wp2
          exact cl1 (no.out (by rw [stk_none op (stk_far hst.out h19.out h10) (by omega)]; simp) _ hO2.out) rfl
        · have d10 : decide ((10 : Int) < (st.length : Int) + 1) = false := by simp; omega
          go_wp2
          refine ⟨⟨k + 1, k :: st, _, by omega, by go_num, rfl, by simp, stk_for hst.out h19.out (by omega), hO2.out, hT2.out, hlp2.out⟩, by simp [intOf]; omega⟩
      · have t19 : ((op k : Int) == 19) = false := by simp; omega
        by_cases h20 : op k = 20
        · have t20 : ((op k : Int) == 20) = true := by simp [h20]
          replace h20 := hd h20
          cases st with
          | nil =>
            have e1 : ((hdV []) == (-1 : Int)) = true := rfl
            go_wp2
            exact cl1 (no.out (by rw [stk_none op (stk_none20 hst.out h20.out) (by omega)]; simp) _ hO2.out) rfl
          | cons f t =>
            have hf := hmem.out f (by simp)
            have e0 : hdV (f :: t) = (f : Int) := rfl
            rw [e0] at *
            have e1 : ((f : Int) == (-1 : Int)) = false := by simp
            have cf : (wr.setCell ⟨b, k * 6 + 4, none⟩ (.int .i64 (f : Int))).cell? ⟨b, f * 6 + 4, none⟩ = some (.int .i64 (hdV t)) := by
              have h1 := hT2.out.cell (i := f) (by omega) (f := 4) (by omega)
              rw [stepA_4, hlp2.out f (by omega), inOf_hd (stk_prev op k f t hst.out)] at h1
              exact h1
            simp only [List.length_cons] at hlen ⊢
            go_wp2
            refine ⟨⟨k + 1, t, _, by omega, by go_num, rfl, by simp, stk_next hst.out h20.out, hO2.out, hT2.out, hlp2.out⟩, by simp [intOf]; omega⟩
        · have t20 : ((op k : Int) == 20) = false := by simp; omega
          go_wp2
          refine ⟨⟨k + 1, st, _, by omega, by go_num, rfl, rfl, stk_other hst.out h19 h20, hO2.out, hT2.out, hlp2.out⟩, by simp [intOf]; omega⟩
    · have hkn : k = n := by omega
      subst hkn
      have hst2 := hst
      replace hst := hd hst
      replace honly := hd honly
      replace htab := hd htab
      replace hlp := hd hlp
      cases st with
      | nil =>
        have e1 : ((hdV []) == (-1 : Int)) = true := rfl
        go_wp2
        exact cl1 (yes.out hst.out _ honly.out (htab.out.congr (fun i hi g hg => by unfold stepA; rw [hlp.out i hi]))) rfl
      | cons f t =>
        have e0 : hdV (f :: t) = (f : Int) := rfl
        rw [e0] at *
        have e1 : ((f : Int) == (-1 : Int)) = false := by simp
        go_wp2
        exact cl1 (no.out (by rw [hst.out]; simp) _ honly.out) rfl

end Go.Proofs.YtidhiaaicmfabaaGreatDoor
