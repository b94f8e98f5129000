/- The state of the machine's walk through the steps, and the contract of come. -/
import Derived.Test.YtidhiaaicmfabaaGreatDoorMem
import Derived.Test.YtidhiaaicmfabaaGreatDoorSpec
import Derived.Test.YtidhiaaicmfabaaGreatDoorRefA
import Derived.Test.YtidhiaaicmfabaaGreatDoorRefC
import Derived.Test.YtidhiaaicmfabaaGreatDoorSpec2
import Derived.WalkKit
import Derived.WalkSpells
import Derived.WalkLawsBesides
import Derived.Deep.OwnRows
import Derived.BigQuiet
import Derived.Handy
import Derived.Deep.Light
import Derived.Deep.RegionHeld3
import Derived.Deep.RegionWith
import Derived.Test.YtidhiaaicmfabaaGreatDoorLibA
import Derived.Test.YtidhiaaicmfabaaGreatDoorLibG
import Derived.Test.YtidhiaaicmfabaaGreatDoorVmA
import Derived.Test.YtidhiaaicmfabaaGreatDoorVmB
import Derived.Test.YtidhiaaicmfabaaGreatDoorVmC
import Derived.Test.YtidhiaaicmfabaaGreatDoorVmD
namespace Go.Proofs.YtidhiaaicmfabaaGreatDoor
open Go.RowKit Go.Proofs Go.Deep

theorem pigeon : ∀ (n m : Nat) (f : Nat → Nat), (∀ i, i < m → f i < n) → (∀ i j, i < m → j < m → f i = f j → i = j) → m ≤ n
  | 0, m, f, h, _ => by
    cases m with
    | zero => omega
    | succ m => exact absurd (h 0 (by omega)) (by omega)
  | n + 1, m, f, h, hi => by
    by_cases hx : ∃ i, i < m ∧ f i = n
    · obtain ⟨i, him, hin⟩ := hx
      have := pigeon n (m - 1) (fun k => if k = i then f (m - 1) else f k) (fun k hk => by
        have h1 := h k (by omega)
        have h2 := h (m - 1) (by omega)
        by_cases e : k = i
        · simp only [e, if_true]
          have : f (m - 1) ≠ n := fun h' => by have := hi (m - 1) i (by omega) him (by omega); omega
          omega
        · simp only [e, if_false]
          have : f k ≠ n := fun h' => e (hi k i (by omega) him (by omega))
          omega) (fun a b ha hb hab => by
        by_cases e1 : a = i <;> by_cases e2 : b = i <;> simp only [e1, e2, if_true, if_false] at hab
        · omega
        · have := hi (m - 1) b (by omega) (by omega) hab; omega
        · have := hi a (m - 1) (by omega) (by omega) hab; omega
        · exact hi a b (by omega) (by omega) hab)
      omega
    · have := pigeon n m f (fun i hi2 => by have h1 := h i hi2; have : f i ≠ n := fun h' => hx ⟨i, hi2, h'⟩; omega) hi
      omega
def arrA (H L : Nat → Int) (i f : Nat) : Value := if f = 0 then .bool (decide (0 ≤ H i)) else if f = 1 then .int .i64 (if 0 ≤ H i then H i else 0) else .int .i64 (L i)
theorem arrA_0 {H L : Nat → Int} {i : Nat} : arrA H L i 0 = .bool (decide (0 ≤ H i)) := rfl
theorem arrA_1 {H L : Nat → Int} {i : Nat} : arrA H L i 1 = .int .i64 (if 0 ≤ H i then H i else 0) := rfl
theorem arrA_2 {H L : Nat → Int} {i : Nat} : arrA H L i 2 = .int .i64 (L i) := rfl
/-- What does not turn while the steps are gone through. -/
structure WC (w0 : World) (B bw ba bs base n cap : Nat) (op at_ : Nat → Nat) (arg cnt lp to_ : Nat → Int) : Prop where
  hB : B = w0.heap.size
  hbw : B ≤ bw
  hba : B ≤ ba
  hne : bw ≠ ba
  hw : bw < base
  ha : ba < base
  hn : n ≤ 8000
  steps : Tab w0 bs 254 6 n cap (stepA op at_ arg cnt lp to_)
/-- The walk's state: how many numbers are on the stack ahead of each step (-1: not known), how much is done ahead of it, which wait (from lo on). -/
structure WS (w0 : World) (B bw ba bs base n cap : Nat) (nm : Nat → ByteArray) (fv : Nat → Value) (H L : Nat → Int) (lo m : Nat) (A : Nat → Int) (bd : Int) (w : World) : Prop where
  fr : Below B w0 w
  sz : base ≤ w.heap.size
  c0 : w.cell? ⟨bw, 0, none⟩ = some (.slice (some ⟨bs, 0, none⟩) n cap)
  rows : ∀ o, o < 22 → w.cell? ⟨bw, 1 + o * 5, none⟩ = some (.string (nm o)) ∧ w.cell? ⟨bw, 1 + o * 5 + 1, none⟩ = some (.int .u8 (opnd o : Nat)) ∧ w.cell? ⟨bw, 1 + o * 5 + 2, none⟩ = some (.int .i64 (popsOf o : Nat)) ∧
    w.cell? ⟨bw, 1 + o * 5 + 3, none⟩ = some (.int .i64 (pushesOf o : Nat)) ∧ w.cell? ⟨bw, 1 + o * 5 + 4, none⟩ = some (fv o)
  ca : w.cell? ⟨bw, 111, none⟩ = some (.slice (some ⟨ba, 0, none⟩) n n)
  cb : w.cell? ⟨bw, 113, none⟩ = some (.int .i64 bd)
  fz : ∀ o, w.frozen? ⟨bw, o, none⟩ = false
  arr : Tab w ba 267 3 n n (arrA H L)
  wh : WH w bw 112 base m A
  heap : Heap A m
  inj : ∀ i j, i < m → j < m → A i = A j → i = j
  mem : ∀ x, (∃ k, k < m ∧ A k = x) ↔ ∃ j : Nat, x = (j : Int) ∧ lo ≤ j ∧ j < n ∧ 0 ≤ H j
  hH : ∀ j, -1 ≤ H j ∧ H j ≤ 32
  hL : ∀ j, 0 ≤ L j ∧ L j ≤ 200001
  hHL : ∀ j, H j < 0 → L j = 0
section
variable {w0 w : World} {B bw ba bs base n cap : Nat} {nm : Nat → ByteArray} {fv : Nat → Value} {H L : Nat → Int} {lo m : Nat} {A : Nat → Int} {bd : Int} {op at_ : Nat → Nat} {arg cnt lp to_ : Nat → Int}
theorem WS.le (h : WS w0 B bw ba bs base n cap nm fv H L lo m A bd w) : m ≤ n := by
  refine pigeon n m (fun k => (A k).toNat) (fun k hk => ?_) (fun i j hi hj e => ?_)
  · obtain ⟨j, hj, _, hn, _⟩ := (h.mem (A k)).1 ⟨k, hk, rfl⟩
    show (A k).toNat < n
    omega
  · obtain ⟨a, ha, _⟩ := (h.mem (A i)).1 ⟨i, hi, rfl⟩
    obtain ⟨b, hb, _⟩ := (h.mem (A j)).1 ⟨j, hj, rfl⟩
    refine h.inj i j hi hj ?_
    have e' : (A i).toNat = (A j).toNat := e
    omega
/-- Known already: the longer of two ways. -/
theorem WS.known (hc : WC w0 B bw ba bs base n cap op at_ arg cnt lp to_) (h : WS w0 B bw ba bs base n cap nm fv H L lo m A bd w) {t : Nat} {d x hh : Int} (ht : t < n) (hk : 0 ≤ H t) (hd : 0 ≤ d ∧ d ≤ 200001) (he : H t = hh) (hx : x = max (L t) d) :
    WS w0 B bw ba bs base n cap nm fv (upd H t hh) (upd L t (max (L t) d)) lo m A bd (w.setCell ⟨ba, t * 3 + 2, none⟩ (.int .i64 x)) := by
  have hH : upd H t hh = H := by funext j; unfold upd; split <;> simp_all
  rw [hH]
  subst hx
  have hne := hc.hne
  have ho : ∀ o, (w.setCell ⟨ba, t * 3 + 2, none⟩ (.int .i64 (max (L t) d))).cell? ⟨bw, o, none⟩ = w.cell? ⟨bw, o, none⟩ := fun o => World.cell?_setCell_other _ _ _ _ (by intro e; injection e with e; omega)
  refine ⟨h.fr.setCell hc.hba _, by rw [World.size_setCell]; exact h.sz, by rw [ho]; exact h.c0, fun o hlt => by simp only [ho]; exact h.rows o hlt, by rw [ho]; exact h.ca, by rw [ho]; exact h.cb, fun o => by simp [h.fz o], ?_, ?_, h.heap, h.inj, h.mem, h.hH, ?_, ?_⟩
  · refine (h.arr.set t 2 (by omega) (.int .i64 (max (L t) d))).congr (fun j _ g hg => ?_)
    have hcg : g = 0 ∨ g = 1 ∨ g = 2 := by omega
    rcases hcg with rfl | rfl | rfl
    · simp [arrA]
    · simp [arrA]
    · by_cases e : j = t <;> simp [arrA, upd, e]
  · obtain ⟨v, hv, hown⟩ := h.wh
    exact ⟨v, by rw [ho]; exact hv, own_set hown (show ba < base from hc.ha) _⟩
  · intro j
    have h1 := h.hL j
    have h2 := h.hL t
    unfold upd; split <;> omega
  · intro j hj
    have h1 := h.hHL j hj
    unfold upd; split
    · subst_vars; omega
    · exact h1
/-- Not known yet: it is noted, and waits. -/
theorem WS.fresh (hc : WC w0 B bw ba bs base n cap op at_ arg cnt lp to_) (h : WS w0 B bw ba bs base n cap nm fv H L lo m A bd w) {t : Nat} {d hh : Int} (ht : t < n) (hlo : lo ≤ t) (hk : H t < 0) (hd : 0 ≤ d ∧ d ≤ 200001) (hh0 : 0 ≤ hh ∧ hh ≤ 32)
    {A' : Nat → Int} {w' : World}
    (hK : Kept bw 112 base (((w.setCell ⟨ba, t * 3, none⟩ (.bool true)).setCell ⟨ba, t * 3 + 1, none⟩ (.int .i64 hh)).setCell ⟨ba, t * 3 + 2, none⟩ (.int .i64 d)) w')
    (hwh : WH w' bw 112 base (m + 1) A') (hheap : Heap A' (m + 1)) (hS : Same (fun k => if k = m then (t : Int) else A k) A' (m + 1)) :
    WS w0 B bw ba bs base n cap nm fv (upd H t hh) (upd L t (max (L t) d)) lo (m + 1) A' bd w' := by
  have hne := hc.hne
  have hL0 := h.hHL t hk
  have ho : ∀ o, o ≠ 112 → w'.cell? ⟨bw, o, none⟩ = w.cell? ⟨bw, o, none⟩ := fun o h112 => by
    rw [hK.cell o h112, World.cell?_setCell_other _ _ _ _ (by intro e; injection e with e; omega), World.cell?_setCell_other _ _ _ _ (by intro e; injection e with e; omega), World.cell?_setCell_other _ _ _ _ (by intro e; injection e with e; omega)]
  have hAt : ∀ k, k < m → A k ≠ (t : Int) := fun k hk2 e => by
    obtain ⟨j, hj, _, _, hHj⟩ := (h.mem (A k)).1 ⟨k, hk2, rfl⟩
    have : j = t := by omega
    subst this; omega
  have hfr : Below B w0 (((w.setCell ⟨ba, t * 3, none⟩ (.bool true)).setCell ⟨ba, t * 3 + 1, none⟩ (.int .i64 hh)).setCell ⟨ba, t * 3 + 2, none⟩ (.int .i64 d)) := ((h.fr.setCell hc.hba _).setCell hc.hba _).setCell hc.hba _
  refine ⟨⟨hK.os.trans hfr.os, hK.tape.trans hfr.tape, hK.output.trans hfr.output, Nat.le_trans hfr.size hK.size, fun k hkB => (hK.block k (by have := hc.hbw; have := hc.hw; omega) (by have := hc.hbw; omega)).trans (hfr.block k hkB)⟩, ?_, by rw [ho 0 (by omega)]; exact h.c0, fun o hlt => ?_, by rw [ho 111 (by omega)]; exact h.ca, by rw [ho 113 (by omega)]; exact h.cb, fun o => by rw [hK.frozen]; simp [h.fz o], ?_, hwh, hheap, ?_, ?_, ?_, ?_, ?_⟩
  · have := hK.size
    simp only [World.size_setCell] at this
    exact Nat.le_trans h.sz this
  · have hr := h.rows o hlt
    rw [ho _ (by omega), ho _ (by omega), ho _ (by omega), ho _ (by omega), ho _ (by omega)]
    exact hr
  · refine Tab.of_block (w := ((w.setCell ⟨ba, t * 3, none⟩ (.bool true)).setCell ⟨ba, t * 3 + 1, none⟩ (.int .i64 hh)).setCell ⟨ba, t * 3 + 2, none⟩ (.int .i64 d)) ?_ (hK.block ba hc.ha (Ne.symm hne))
    refine (h.arr.set3 t _ _ _).congr (fun j _ g hg => ?_)
    have hcg : g = 0 ∨ g = 1 ∨ g = 2 := by omega
    by_cases e : j = t
    · subst e
      rcases hcg with rfl | rfl | rfl
      · simp [arrA, upd, hh0.1]
      · simp [arrA, upd, hh0.1]
      · simp [arrA, upd, hL0]; omega
    · rcases hcg with rfl | rfl | rfl <;> simp [arrA, upd, e]
  · refine hS.2 (fun i j hi hj e => ?_)
    by_cases e1 : i = m <;> by_cases e2 : j = m
    · omega
    · simp only [e1, e2, if_true, if_false] at e
      exact absurd e.symm (hAt j (by omega))
    · simp only [e1, e2, if_true, if_false] at e
      exact absurd e (hAt i (by omega))
    · simp only [e1, e2, if_false] at e
      exact h.inj i j (by omega) (by omega) e
  · intro x
    rw [← hS.1 x]
    constructor
    · rintro ⟨k, hk2, he⟩
      by_cases e1 : k = m
      · simp only [e1, if_true] at he
        exact ⟨t, he.symm, hlo, ht, by simp [upd, hh0.1]⟩
      · simp only [e1, if_false] at he
        obtain ⟨j, hj, h1, h2, h3⟩ := (h.mem x).1 ⟨k, by omega, he⟩
        refine ⟨j, hj, h1, h2, ?_⟩
        unfold upd; split
        · exact hh0.1
        · exact h3
    · rintro ⟨j, hj, h1, h2, h3⟩
      by_cases e : j = t
      · exact ⟨m, by omega, by simp; omega⟩
      · have h3' : 0 ≤ H j := by simpa [upd, e] using h3
        obtain ⟨k, hk2, he⟩ := (h.mem x).2 ⟨j, hj, h1, h2, h3'⟩
        exact ⟨k, by omega, by simp only [show ¬ k = m by omega, if_false]; exact he⟩
  · intro j
    have := h.hH j
    unfold upd; split <;> omega
  · intro j
    have h1 := h.hL j
    have h2 := h.hL t
    unfold upd; split <;> omega
  · intro j hj
    unfold upd at hj ⊢
    split at hj
    · omega
    · rename_i e; rw [if_neg e]; exact h.hHL j hj
end

set_option maxRecDepth 100000 in
set_option maxHeartbeats 2000000 in
theorem come_any {w0 : World} {B bw ba bs base n cap : Nat} {op at_ : Nat → Nat} {arg cnt lp to_ : Nat → Int} (hc : WC w0 B bw ba bs base n cap op at_ arg cnt lp to_)
    {nm : Nat → ByteArray} {fv : Nat → Value} {H L : Nat → Int} {lo m : Nat} {A : Nat → Int} {bd : Int} (w : World) (h : WS w0 B bw ba bs base n cap nm fv H L lo m A bd w)
    (t : Nat) (ti d hh : Int) (hti : ti = (t : Int)) (ht : t < n) (hlo : lo ≤ t) (hd0 : 0 ≤ d ∧ d ≤ 200001) (hh0 : 0 ≤ hh ∧ hh ≤ 32) (R : Ending → World → Prop)
    (no : (0 ≤ H t ∧ H t ≠ hh) → ∀ w', Below B w0 w' → R (.returned (.bool false)) w')
    (yes : ¬ (0 ≤ H t ∧ H t ≠ hh) → ∀ w' m' A', WS w0 B bw ba bs base n cap nm fv (upd H t hh) (upd L t (max (L t) d)) lo m' A' bd w' → R (.returned (.bool true)) w') :
    Calls Tryz.prog 109 #[.pointer (some ⟨bw, 0, none⟩), .int .i64 ti, .int .i64 hh, .int .i64 d] w R := by
  subst hti
  replace no := hd no
  replace yes := hd yes
  have hn := hc.hn
  have hne := hc.hne
  have hmn := h.le
  have a0 := h.arr.cell0 ht (by omega)
  have a1 := h.arr.cell ht (f := 1) (by omega)
  have a2 := h.arr.cell ht (f := 2) (by omega)
  rw [arrA_0] at a0
  rw [arrA_1] at a1
  rw [arrA_2] at a2
  have fa := fun o => h.arr.frozen o
  have ca := h.ca
  have hlt := h.arr.lt
  have jt : (t : Int) < (n : Int) := by omega
  have bL := h.hL t
  by_cases hk : 0 ≤ H t
  · have dk : decide (0 ≤ H t) = true := by simpa using hk
    rw [dk] at a0
    rw [if_pos hk] at a1
    by_cases he : H t = hh
    · have de : (H t == hh) = true := by simpa using he
      have hfin := hd (fun x hx => h.known hc ht hk hd0 he (x := x) hx)
      replace h := hd h
      replace hk := hd hk
      replace he := hd he
      go_enter Tryz.func109, Tryz.ntmps109
      go_wp2
      all_goals exact cl1 (yes.out (fun h' => h'.2 he.out) _ _ _ (hfin.out _ (by omega))) rfl
    · have de : (H t == hh) = false := by simpa using he
      have hfr := hd h.fr
      have hba := hc.hba
      replace h := hd h
      replace hk := hd hk
      go_enter Tryz.func109, Tryz.ntmps109
      go_wp2
      all_goals exact cl1 (no.out ⟨hk.out, he⟩ _ (hfr.out.setCell hba _)) rfl
  · have dk : decide (0 ≤ H t) = false := by simpa using hk
    rw [dk] at a0
    rw [if_neg hk] at a1
    have hfin := hd (fun (A' : Nat → Int) (w' : World) => h.fresh hc ht hlo (by omega) hd0 hh0 (A' := A') (w' := w'))
    obtain ⟨v, hv, hown⟩ := h.wh
    have hwh : WH (((w.setCell ⟨ba, t * 3, none⟩ (.bool true)).setCell ⟨ba, t * 3 + 1, none⟩ (.int .i64 hh)).setCell ⟨ba, t * 3 + 2, none⟩ (.int .i64 d)) bw 112 base m A :=
      ⟨v, by rw [World.cell?_setCell_other _ _ _ _ (by intro e; injection e with e; omega), World.cell?_setCell_other _ _ _ _ (by intro e; injection e with e; omega), World.cell?_setCell_other _ _ _ _ (by intro e; injection e with e; omega)]; exact hv,
        own_set (own_set (own_set hown (show ba < base from hc.ha) _) (show ba < base from hc.ha) _) (show ba < base from hc.ha) _⟩
    have hheap := hd h.heap
    have hsz := h.sz
    have fb := h.fz 112
    replace hwh := hd hwh
    replace h := hd h
    replace hown := hd hown
    go_enter Tryz.func109, Tryz.ntmps109
    go_wp2_with (fail)
    refine hpush_any _ bw 112 base m A (t : Int) (by omega) hc.hw (by simp only [World.size_setCell]; exact hsz) (by simp [fb]) hwh.out hheap.out _ ?_
    intro A' w' hK hwh' hheap' hS
    have hWS := hd (hfin.out A' w' hK hwh' hheap' hS)
    clear hK hwh' hheap' hS
    go_wp2
    exact cl1 (yes.out (fun h' => by have := h'.1; omega) _ _ _ hWS.out) rfl

end Go.Proofs.YtidhiaaicmfabaaGreatDoor
