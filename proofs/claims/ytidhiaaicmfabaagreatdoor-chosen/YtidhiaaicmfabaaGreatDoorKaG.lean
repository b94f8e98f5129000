/- The walk over an image. -/
import Derived.Test.YtidhiaaicmfabaaGreatDoorKaA
import Derived.Test.YtidhiaaicmfabaaGreatDoorKaB
import Derived.WalkKit
import Derived.WalkSpells
import Derived.WalkLawsBesides
import Derived.Deep.OwnRows
import Derived.BigQuiet
import Derived.Handy
import Derived.Deep.Light
import Derived.Deep.RegionHeld3
import Derived.Deep.RegionWith
import Derived.Test.YtidhiaaicmfabaaGreatDoorKaD
import Derived.Test.YtidhiaaicmfabaaGreatDoorKaC

/- The state of the machine's walk through the steps, and the contract of come. -/
namespace Go.Proofs.YtidhiaaicmfabaaGreatDoor
open Go.RowKit Go.Proofs Go.Deep

theorem pigeon : ∀ (n m : Nat) (f : Nat → Nat), (∀ i, i < m → f i < n) → (∀ i j, i < m → j < m → f i = f j → i = j) → m ≤ n
  | 0, m, f, h, _ => by
    cases m with
    | zero => omega
    | succ m => exact absurd (h 0 (by omega)) (by omega)
  | n + 1, m, f, h, hi => by
    by_cases hx : ∃ i, i < m ∧ f i = n
    · obtain ⟨i, him, hin⟩ := hx
      have := pigeon n (m - 1) (fun k => if k = i then f (m - 1) else f k) (fun k hk => by
        have h1 := h k (by omega)
        have h2 := h (m - 1) (by omega)
        by_cases e : k = i
        · simp only [e, if_true]
          have : f (m - 1) ≠ n := fun h' => by have := hi (m - 1) i (by omega) him (by omega); omega
          omega
        · simp only [e, if_false]
          have : f k ≠ n := fun h' => e (hi k i (by omega) him (by omega))
          omega) (fun a b ha hb hab => by
        by_cases e1 : a = i <;> by_cases e2 : b = i <;> simp only [e1, e2, if_true, if_false] at hab
        · omega
        · have := hi (m - 1) b (by omega) (by omega) hab; omega
        · have := hi a (m - 1) (by omega) (by omega) hab; omega
        · exact hi a b (by omega) (by omega) hab)
      omega
    · have := pigeon n m f (fun i hi2 => by have h1 := h i hi2; have : f i ≠ n := fun h' => hx ⟨i, hi2, h'⟩; omega) hi
      omega
def arrA (H L : Nat → Int) (i f : Nat) : Value := if f = 0 then .bool (decide (0 ≤ H i)) else if f = 1 then .int .i64 (if 0 ≤ H i then H i else 0) else .int .i64 (L i)
theorem arrA_0 {H L : Nat → Int} {i : Nat} : arrA H L i 0 = .bool (decide (0 ≤ H i)) := rfl
theorem arrA_1 {H L : Nat → Int} {i : Nat} : arrA H L i 1 = .int .i64 (if 0 ≤ H i then H i else 0) := rfl
theorem arrA_2 {H L : Nat → Int} {i : Nat} : arrA H L i 2 = .int .i64 (L i) := rfl
/-- What does not turn while the steps are gone through. -/
structure WC (w0 : World) (B bw ba bs base n cap : Nat) (op at_ : Nat → Nat) (arg cnt lp to_ : Nat → Int) : Prop where
  hB : B = w0.heap.size
  hbw : B ≤ bw
  hba : B ≤ ba
  hne : bw ≠ ba
  hw : bw < base
  ha : ba < base
  hn : n ≤ 8000
  steps : Tab w0 bs 254 6 n cap (stepA op at_ arg cnt lp to_)
/-- The walk's state: how many numbers are on the stack ahead of each step (-1: not known), how much is done ahead of it, which wait (from lo on). -/
structure WS (w0 : World) (B bw ba bs base n cap : Nat) (nm : Nat → ByteArray) (fv : Nat → Value) (H L : Nat → Int) (lo m : Nat) (A : Nat → Int) (bd : Int) (w : World) : Prop where
  fr : Below B w0 w
  sz : base ≤ w.heap.size
  c0 : w.cell? ⟨bw, 0, none⟩ = some (.slice (some ⟨bs, 0, none⟩) n cap)
  rows : ∀ o, o < 22 → w.cell? ⟨bw, 1 + o * 5, none⟩ = some (.string (nm o)) ∧ w.cell? ⟨bw, 1 + o * 5 + 1, none⟩ = some (.int .u8 (opnd o : Nat)) ∧ w.cell? ⟨bw, 1 + o * 5 + 2, none⟩ = some (.int .i64 (popsOf o : Nat)) ∧
    w.cell? ⟨bw, 1 + o * 5 + 3, none⟩ = some (.int .i64 (pushesOf o : Nat)) ∧ w.cell? ⟨bw, 1 + o * 5 + 4, none⟩ = some (fv o)
  ca : w.cell? ⟨bw, 111, none⟩ = some (.slice (some ⟨ba, 0, none⟩) n n)
  cb : w.cell? ⟨bw, 113, none⟩ = some (.int .i64 bd)
  fz : ∀ o, w.frozen? ⟨bw, o, none⟩ = false
  arr : Tab w ba 267 3 n n (arrA H L)
  wh : WH w bw 112 base m A
  heap : Heap A m
  inj : ∀ i j, i < m → j < m → A i = A j → i = j
  mem : ∀ x, (∃ k, k < m ∧ A k = x) ↔ ∃ j : Nat, x = (j : Int) ∧ lo ≤ j ∧ j < n ∧ 0 ≤ H j
  hH : ∀ j, -1 ≤ H j ∧ H j ≤ 32
  hL : ∀ j, 0 ≤ L j ∧ L j ≤ 200001
  hHL : ∀ j, H j < 0 → L j = 0
section
variable {w0 w : World} {B bw ba bs base n cap : Nat} {nm : Nat → ByteArray} {fv : Nat → Value} {H L : Nat → Int} {lo m : Nat} {A : Nat → Int} {bd : Int} {op at_ : Nat → Nat} {arg cnt lp to_ : Nat → Int}
theorem WS.le (h : WS w0 B bw ba bs base n cap nm fv H L lo m A bd w) : m ≤ n := by
  refine pigeon n m (fun k => (A k).toNat) (fun k hk => ?_) (fun i j hi hj e => ?_)
  · obtain ⟨j, hj, _, hn, _⟩ := (h.mem (A k)).1 ⟨k, hk, rfl⟩
    show (A k).toNat < n
    omega
  · obtain ⟨a, ha, _⟩ := (h.mem (A i)).1 ⟨i, hi, rfl⟩
    obtain ⟨b, hb, _⟩ := (h.mem (A j)).1 ⟨j, hj, rfl⟩
    refine h.inj i j hi hj ?_
    have e' : (A i).toNat = (A j).toNat := e
    omega
/-- Known already: the longer of two ways. -/
theorem WS.known (hc : WC w0 B bw ba bs base n cap op at_ arg cnt lp to_) (h : WS w0 B bw ba bs base n cap nm fv H L lo m A bd w) {t : Nat} {d x hh : Int} (ht : t < n) (hk : 0 ≤ H t) (hd : 0 ≤ d ∧ d ≤ 200001) (he : H t = hh) (hx : x = max (L t) d) :
    WS w0 B bw ba bs base n cap nm fv (upd H t hh) (upd L t (max (L t) d)) lo m A bd (w.setCell ⟨ba, t * 3 + 2, none⟩ (.int .i64 x)) := by
  have hH : upd H t hh = H := by funext j; unfold upd; split <;> simp_all
  rw [hH]
  subst hx
  have hne := hc.hne
  have ho : ∀ o, (w.setCell ⟨ba, t * 3 + 2, none⟩ (.int .i64 (max (L t) d))).cell? ⟨bw, o, none⟩ = w.cell? ⟨bw, o, none⟩ := fun o => World.cell?_setCell_other _ _ _ _ (by intro e; injection e with e; omega)
  refine ⟨h.fr.setCell hc.hba _, by rw [World.size_setCell]; exact h.sz, by rw [ho]; exact h.c0, fun o hlt => by simp only [ho]; exact h.rows o hlt, by rw [ho]; exact h.ca, by rw [ho]; exact h.cb, fun o => by simp [h.fz o], ?_, ?_, h.heap, h.inj, h.mem, h.hH, ?_, ?_⟩
  · refine (h.arr.set t 2 (by omega) (.int .i64 (max (L t) d))).congr (fun j _ g hg => ?_)
    have hcg : g = 0 ∨ g = 1 ∨ g = 2 := by omega
    rcases hcg with rfl | rfl | rfl
    · simp [arrA]
    · simp [arrA]
    · by_cases e : j = t <;> simp [arrA, upd, e]
  · obtain ⟨v, hv, hown⟩ := h.wh
    exact ⟨v, by rw [ho]; exact hv, own_set hown (show ba < base from hc.ha) _⟩
  · intro j
    have h1 := h.hL j
    have h2 := h.hL t
    unfold upd; split <;> omega
  · intro j hj
    have h1 := h.hHL j hj
    unfold upd; split
    · subst_vars; omega
    · exact h1
/-- Not known yet: it is noted, and waits. -/
theorem WS.fresh (hc : WC w0 B bw ba bs base n cap op at_ arg cnt lp to_) (h : WS w0 B bw ba bs base n cap nm fv H L lo m A bd w) {t : Nat} {d hh : Int} (ht : t < n) (hlo : lo ≤ t) (hk : H t < 0) (hd : 0 ≤ d ∧ d ≤ 200001) (hh0 : 0 ≤ hh ∧ hh ≤ 32)
    {A' : Nat → Int} {w' : World}
    (hK : Kept bw 112 base (((w.setCell ⟨ba, t * 3, none⟩ (.bool true)).setCell ⟨ba, t * 3 + 1, none⟩ (.int .i64 hh)).setCell ⟨ba, t * 3 + 2, none⟩ (.int .i64 d)) w')
    (hwh : WH w' bw 112 base (m + 1) A') (hheap : Heap A' (m + 1)) (hS : Same (fun k => if k = m then (t : Int) else A k) A' (m + 1)) :
    WS w0 B bw ba bs base n cap nm fv (upd H t hh) (upd L t (max (L t) d)) lo (m + 1) A' bd w' := by
  have hne := hc.hne
  have hL0 := h.hHL t hk
  have ho : ∀ o, o ≠ 112 → w'.cell? ⟨bw, o, none⟩ = w.cell? ⟨bw, o, none⟩ := fun o h112 => by
    rw [hK.cell o h112, World.cell?_setCell_other _ _ _ _ (by intro e; injection e with e; omega), World.cell?_setCell_other _ _ _ _ (by intro e; injection e with e; omega), World.cell?_setCell_other _ _ _ _ (by intro e; injection e with e; omega)]
  have hAt : ∀ k, k < m → A k ≠ (t : Int) := fun k hk2 e => by
    obtain ⟨j, hj, _, _, hHj⟩ := (h.mem (A k)).1 ⟨k, hk2, rfl⟩
    have : j = t := by omega
    subst this; omega
  have hfr : Below B w0 (((w.setCell ⟨ba, t * 3, none⟩ (.bool true)).setCell ⟨ba, t * 3 + 1, none⟩ (.int .i64 hh)).setCell ⟨ba, t * 3 + 2, none⟩ (.int .i64 d)) := ((h.fr.setCell hc.hba _).setCell hc.hba _).setCell hc.hba _
  refine ⟨⟨hK.os.trans hfr.os, hK.tape.trans hfr.tape, hK.output.trans hfr.output, Nat.le_trans hfr.size hK.size, fun k hkB => (hK.block k (by have := hc.hbw; have := hc.hw; omega) (by have := hc.hbw; omega)).trans (hfr.block k hkB)⟩, ?_, by rw [ho 0 (by omega)]; exact h.c0, fun o hlt => ?_, by rw [ho 111 (by omega)]; exact h.ca, by rw [ho 113 (by omega)]; exact h.cb, fun o => by rw [hK.frozen]; simp [h.fz o], ?_, hwh, hheap, ?_, ?_, ?_, ?_, ?_⟩
  · have := hK.size
    simp only [World.size_setCell] at this
    exact Nat.le_trans h.sz this
  · have hr := h.rows o hlt
    rw [ho _ (by omega), ho _ (by omega), ho _ (by omega), ho _ (by omega), ho _ (by omega)]
    exact hr
  · refine Tab.of_block (w := ((w.setCell ⟨ba, t * 3, none⟩ (.bool true)).setCell ⟨ba, t * 3 + 1, none⟩ (.int .i64 hh)).setCell ⟨ba, t * 3 + 2, none⟩ (.int .i64 d)) ?_ (hK.block ba hc.ha (Ne.symm hne))
    refine (h.arr.set3 t _ _ _).congr (fun j _ g hg => ?_)
    have hcg : g = 0 ∨ g = 1 ∨ g = 2 := by omega
    by_cases e : j = t
    · subst e
      rcases hcg with rfl | rfl | rfl
      · simp [arrA, upd, hh0.1]
      · simp [arrA, upd, hh0.1]
      · simp [arrA, upd, hL0]; omega
    · rcases hcg with rfl | rfl | rfl <;> simp [arrA, upd, e]
  · refine hS.2 (fun i j hi hj e => ?_)
    by_cases e1 : i = m <;> by_cases e2 : j = m
    · omega
    · simp only [e1, e2, if_true, if_false] at e
      exact absurd e.symm (hAt j (by omega))
    · simp only [e1, e2, if_true, if_false] at e
      exact absurd e (hAt i (by omega))
    · simp only [e1, e2, if_false] at e
      exact h.inj i j (by omega) (by omega) e
  · intro x
    rw [← hS.1 x]
    constructor
    · rintro ⟨k, hk2, he⟩
      by_cases e1 : k = m
      · simp only [e1, if_true] at he
        exact ⟨t, he.symm, hlo, ht, by simp [upd, hh0.1]⟩
      · simp only [e1, if_false] at he
        obtain ⟨j, hj, h1, h2, h3⟩ := (h.mem x).1 ⟨k, by omega, he⟩
        refine ⟨j, hj, h1, h2, ?_⟩
        unfold upd; split
        · exact hh0.1
        · exact h3
    · rintro ⟨j, hj, h1, h2, h3⟩
      by_cases e : j = t
      · exact ⟨m, by omega, by simp; omega⟩
      · have h3' : 0 ≤ H j := by simpa [upd, e] using h3
        obtain ⟨k, hk2, he⟩ := (h.mem x).2 ⟨j, hj, h1, h2, h3'⟩
        exact ⟨k, by omega, by simp only [show ¬ k = m by omega, if_false]; exact he⟩
  · intro j
    have := h.hH j
    unfold upd; split <;> omega
  · intro j
    have h1 := h.hL j
    have h2 := h.hL t
    unfold upd; split <;> omega
  · intro j hj
    unfold upd at hj ⊢
    split at hj
    · omega
    · rename_i e; rw [if_neg e]; exact h.hHL j hj
end

set_option maxRecDepth 100000 in
set_option maxHeartbeats 2000000 in
theorem come_any {w0 : World} {B bw ba bs base n cap : Nat} {op at_ : Nat → Nat} {arg cnt lp to_ : Nat → Int} (hc : WC w0 B bw ba bs base n cap op at_ arg cnt lp to_)
    {nm : Nat → ByteArray} {fv : Nat → Value} {H L : Nat → Int} {lo m : Nat} {A : Nat → Int} {bd : Int} (w : World) (h : WS w0 B bw ba bs base n cap nm fv H L lo m A bd w)
    (t : Nat) (ti d hh : Int) (hti : ti = (t : Int)) (ht : t < n) (hlo : lo ≤ t) (hd0 : 0 ≤ d ∧ d ≤ 200001) (hh0 : 0 ≤ hh ∧ hh ≤ 32) (R : Ending → World → Prop)
    (no : (0 ≤ H t ∧ H t ≠ hh) → ∀ w', Below B w0 w' → R (.returned (.bool false)) w')
    (yes : ¬ (0 ≤ H t ∧ H t ≠ hh) → ∀ w' m' A', WS w0 B bw ba bs base n cap nm fv (upd H t hh) (upd L t (max (L t) d)) lo m' A' bd w' → R (.returned (.bool true)) w') :
    Calls Tryz.prog 109 #[.pointer (some ⟨bw, 0, none⟩), .int .i64 ti, .int .i64 hh, .int .i64 d] w R := by
  subst hti
  replace no := hd no
  replace yes := hd yes
  have hn := hc.hn
  have hne := hc.hne
  have hmn := h.le
  have a0 := h.arr.cell0 ht (by omega)
  have a1 := h.arr.cell ht (f := 1) (by omega)
  have a2 := h.arr.cell ht (f := 2) (by omega)
  rw [arrA_0] at a0
  rw [arrA_1] at a1
  rw [arrA_2] at a2
  have fa := fun o => h.arr.frozen o
  have ca := h.ca
  have hlt := h.arr.lt
  have jt : (t : Int) < (n : Int) := by omega
  have bL := h.hL t
  by_cases hk : 0 ≤ H t
  · have dk : decide (0 ≤ H t) = true := by simpa using hk
    rw [dk] at a0
    rw [if_pos hk] at a1
    by_cases he : H t = hh
    · have de : (H t == hh) = true := by simpa using he
      have hfin := hd (fun x hx => h.known hc ht hk hd0 he (x := x) hx)
      replace h := hd h
      replace hk := hd hk
      replace he := hd he
      go_enter Tryz.func109, Tryz.ntmps109
      go_wp2
      all_goals exact cl1 (yes.out (fun h' => h'.2 he.out) _ _ _ (hfin.out _ (by omega))) rfl
    · have de : (H t == hh) = false := by simpa using he
      have hfr := hd h.fr
      have hba := hc.hba
      replace h := hd h
      replace hk := hd hk
      go_enter Tryz.func109, Tryz.ntmps109
      go_wp2
      all_goals exact cl1 (no.out ⟨hk.out, he⟩ _ (hfr.out.setCell hba _)) rfl
  · have dk : decide (0 ≤ H t) = false := by simpa using hk
    rw [dk] at a0
    rw [if_neg hk] at a1
    have hfin := hd (fun (A' : Nat → Int) (w' : World) => h.fresh hc ht hlo (by omega) hd0 hh0 (A' := A') (w' := w'))
    obtain ⟨v, hv, hown⟩ := h.wh
    have hwh : WH (((w.setCell ⟨ba, t * 3, none⟩ (.bool true)).setCell ⟨ba, t * 3 + 1, none⟩ (.int .i64 hh)).setCell ⟨ba, t * 3 + 2, none⟩ (.int .i64 d)) bw 112 base m A :=
      ⟨v, by rw [World.cell?_setCell_other _ _ _ _ (by intro e; injection e with e; omega), World.cell?_setCell_other _ _ _ _ (by intro e; injection e with e; omega), World.cell?_setCell_other _ _ _ _ (by intro e; injection e with e; omega)]; exact hv,
        own_set (own_set (own_set hown (show ba < base from hc.ha) _) (show ba < base from hc.ha) _) (show ba < base from hc.ha) _⟩
    have hheap := hd h.heap
    have hsz := h.sz
    have fb := h.fz 112
    replace hwh := hd hwh
    replace h := hd h
    replace hown := hd hown
    go_enter Tryz.func109, Tryz.ntmps109
    go_wp2_with (fail)
    refine hpush_any _ bw 112 base m A (t : Int) (by omega) hc.hw (by simp only [World.size_setCell]; exact hsz) (by simp [fb]) hwh.out hheap.out _ ?_
    intro A' w' hK hwh' hheap' hS
    have hWS := hd (hfin.out A' w' hK hwh' hheap' hS)
    clear hK hwh' hheap' hS
    go_wp2
    exact cl1 (yes.out (fun h' => by have := h'.1; omega) _ _ _ hWS.out) rfl

end Go.Proofs.YtidhiaaicmfabaaGreatDoor

/- The contract of leave. -/
namespace Go.Proofs.YtidhiaaicmfabaaGreatDoor
open Go.RowKit Go.Proofs Go.Deep

theorem WS.mono {w0 w w' : World} {B bw ba bs base n cap : Nat} {nm : Nat → ByteArray} {fv : Nat → Value} {H L : Nat → Int} {lo m : Nat} {A : Nat → Int} {bd : Int} {op at_ : Nat → Nat} {arg cnt lp to_ : Nat → Int}
    (hc : WC w0 B bw ba bs base n cap op at_ arg cnt lp to_) (h : WS w0 B bw ba bs base n cap nm fv H L lo m A bd w) (hb : Below w.heap.size w w') : WS w0 B bw ba bs base n cap nm fv H L lo m A bd w' := by
  have hlt : bw < w.heap.size := Nat.lt_of_lt_of_le hc.hw h.sz
  have ho : ∀ o, w'.cell? ⟨bw, o, none⟩ = w.cell? ⟨bw, o, none⟩ := fun o => hb.cell (p := ⟨bw, o, none⟩) hlt
  refine ⟨h.fr.trans (hb.mono (Nat.le_trans (Nat.le_of_eq hc.hB) h.fr.size)), Nat.le_trans h.sz hb.size, by rw [ho]; exact h.c0, fun o hl => by simp only [ho]; exact h.rows o hl, by rw [ho]; exact h.ca, by rw [ho]; exact h.cb, fun o => by rw [hb.frozen (p := ⟨bw, o, none⟩) hlt]; exact h.fz o, h.arr.below hb, ?_, h.heap, h.inj, h.mem, h.hH, h.hL, h.hHL⟩
  obtain ⟨v, hv, hown⟩ := h.wh
  exact ⟨v, by rw [ho]; exact hv, own_below hown hb⟩
def vmD (x : Int) : Int := min (x + 1) 200001
def dep (H : Nat → Int) (f : Nat) : Int := if 0 ≤ H f then H f else 0
/-- One step (not END) of the machine's walk. -/
def vmStep (op : Nat → Nat) (N : Nat → Int) (To F : Nat → Nat) (i : Nat) (H L : Nat → Int) : Option ((Nat → Int) × (Nat → Int)) :=
  if H i < popsOf (op i) ∨ 32 < H i - popsOf (op i) + pushesOf (op i) then none
  else if op i = 17 then jn H L (To i) (H i - popsOf (op i) + pushesOf (op i)) (vmD (L i))
  else if op i = 18 then
    match jn H L (To i) (H i - popsOf (op i) + pushesOf (op i)) (vmD (L i)) with
    | none => none
    | some S => jn S.1 S.2 (i + 1) (H i - popsOf (op i) + pushesOf (op i)) (vmD (L i))
  else if op i = 19 then jn H L (i + 1) (H i - popsOf (op i) + pushesOf (op i)) 0
  else if op i = 20 then
    (if H i = dep H (F i) then jn H L (i + 1) (dep H (F i)) (min (vmD (L (F i)) + min (N (F i) * vmD (L i)) 200001) 200001) else none)
  else jn H L (i + 1) (H i - popsOf (op i) + pushesOf (op i)) (vmD (L i))
theorem new_first (w : World) (o o' : Obj) : ((w.alloc o).alloc o').drew.heap[w.heap.size]? = some o := (Below.heap_alloc (w.alloc o) o' w.heap.size (by simp)).trans (heap_alloc_new w o)
theorem new_second (w : World) (o o' : Obj) : ((w.alloc o).alloc o').drew.heap[w.heap.size + 1]? = some o' := by
  have := heap_alloc_new (w.alloc o) o'
  have e : (w.alloc o).heap.size = w.heap.size + 1 := by simp
  rw [e] at this
  exact this
theorem below_two (w : World) (o o' : Obj) : Below w.heap.size w ((w.alloc o).alloc o').drew := (((Below.refl _ _).alloc (Nat.le_refl _) o).alloc (by simp) o').drew
theorem three {w : World} {g T : Nat} {v0 v1 v2 : Value} (h : w.heap[g]? = some (.cells #[v0, v1, v2] T (0, 0))) : w.cell? ⟨g, 0, none⟩ = some v0 ∧ w.cell? ⟨g, 1, none⟩ = some v1 ∧ w.cell? ⟨g, 2, none⟩ = some v2 := by
  refine ⟨?_, ?_, ?_⟩ <;> rw [cell_of_row w g _ _ T (0, 0) h] <;> rfl
theorem blk_lt {w : World} {g : Nat} {o : Obj} (h : w.heap[g]? = some o) : g < w.heap.size := (Array.getElem?_eq_some_iff.1 h).1
theorem comeN {w0 : World} {B bw ba bs base n cap : Nat} {op at_ : Nat → Nat} {arg cnt lp to_ : Nat → Int} (hc : WC w0 B bw ba bs base n cap op at_ arg cnt lp to_)
    {nm : Nat → ByteArray} {fv : Nat → Value} {H L : Nat → Int} {lo m : Nat} {A : Nat → Int} {bd : Int} (w : World) (h : WS w0 B bw ba bs base n cap nm fv H L lo m A bd w)
    (t : Nat) (ti d hh : Int) (hti : ti = (t : Int)) (ht : t < n) (hlo : lo ≤ t) (hd0 : 0 ≤ d ∧ d ≤ 200001) (hh0 : 0 ≤ hh ∧ hh ≤ 32) (hx : 0 ≤ H t ∧ H t ≠ hh) (R : Ending → World → Prop)
    (fin : ∀ w', Below B w0 w' → R (.returned (.bool false)) w') : Calls Tryz.prog 109 #[.pointer (some ⟨bw, 0, none⟩), .int .i64 ti, .int .i64 hh, .int .i64 d] w R :=
  come_any hc w h t ti d hh hti ht hlo hd0 hh0 R (fun _ => fin) (fun h' => absurd hx h')
theorem comeY {w0 : World} {B bw ba bs base n cap : Nat} {op at_ : Nat → Nat} {arg cnt lp to_ : Nat → Int} (hc : WC w0 B bw ba bs base n cap op at_ arg cnt lp to_)
    {nm : Nat → ByteArray} {fv : Nat → Value} {H L : Nat → Int} {lo m : Nat} {A : Nat → Int} {bd : Int} (w : World) (h : WS w0 B bw ba bs base n cap nm fv H L lo m A bd w)
    (t : Nat) (ti d hh : Int) (hti : ti = (t : Int)) (ht : t < n) (hlo : lo ≤ t) (hd0 : 0 ≤ d ∧ d ≤ 200001) (hh0 : 0 ≤ hh ∧ hh ≤ 32) (hx : ¬ (0 ≤ H t ∧ H t ≠ hh)) (R : Ending → World → Prop)
    (fin : ∀ w' m' A', WS w0 B bw ba bs base n cap nm fv (upd H t hh) (upd L t (max (L t) d)) lo m' A' bd w' → R (.returned (.bool true)) w') : Calls Tryz.prog 109 #[.pointer (some ⟨bw, 0, none⟩), .int .i64 ti, .int .i64 hh, .int .i64 d] w R :=
  come_any hc w h t ti d hh hti ht hlo hd0 hh0 R (fun h' => absurd h' hx) (fun _ => fin)
theorem addB (w : World) (a b : Int) (ha : 0 ≤ a ∧ a ≤ 200001) (hb : 0 ≤ b ∧ b ≤ 200001) (R : Ending → World → Prop)
    (fin : ∀ r, Hid (r = min (a + b) 200001) → (0 ≤ r ∧ r ≤ 200001) → R (.returned (.int .i64 r)) w) :
    Calls Tryz.prog 183 #[.int .i64 a, .int .i64 b] w R := add_any w a b (by omega) (by omega) R (fun r hr => fin r hr (by omega))
set_option maxRecDepth 100000 in
set_option maxHeartbeats 4000000 in
theorem leave_any {w0 : World} {B bw ba bs base n cap : Nat} {op at_ : Nat → Nat} {arg cnt lp to_ : Nat → Int} (hc : WC w0 B bw ba bs base n cap op at_ arg cnt lp to_)
    {nm : Nat → ByteArray} {fv : Nat → Value} {H L : Nat → Int} {lo m : Nat} {A : Nat → Int} {bd : Int} (w : World) (h : WS w0 B bw ba bs base n cap nm fv H L lo m A bd w)
    (i f : Nat) (rnd : Int) (hi : i < n) (hf : f < n) (hlp : lp i = (f : Int)) (hi1 : i + 1 < n) (hlo : lo ≤ i + 1) (harg : 1 ≤ arg f ∧ arg f ≤ 65535) (hr : 0 ≤ rnd ∧ rnd ≤ 200001) (hHi : 0 ≤ H i)
    (R : Ending → World → Prop)
    (no : (H i ≠ dep H f ∨ (0 ≤ H (i + 1) ∧ H (i + 1) ≠ dep H f)) → ∀ w', Below B w0 w' → R (.returned (.bool false)) w')
    (yes : H i = dep H f → ¬ (0 ≤ H (i + 1) ∧ H (i + 1) ≠ dep H f) → ∀ w' m' A', WS w0 B bw ba bs base n cap nm fv (upd H (i + 1) (dep H f)) (upd L (i + 1) (max (L (i + 1)) (min (vmD (L f) + min (arg f * rnd) 200001) 200001))) lo m' A' bd w' → R (.returned (.bool true)) w') :
    Calls Tryz.prog 184 #[.pointer (some ⟨bw, 0, none⟩), .int .i64 (i : Int), .int .i64 rnd] w R := by
  replace no := hd no
  replace yes := hd yes
  have hn := hc.hn
  have hstep := hc.steps.of_block (w' := w) (h.fr.block bs (by rw [hc.hB]; exact hc.steps.lt))
  have x4 : w.cell? ⟨bs, i * 6 + 4, none⟩ = some (.int .i64 (f : Int)) := by rw [← hlp]; exact hstep.cell (f := 4) hi (by omega)
  have y2 : w.cell? ⟨bs, f * 6 + 2, none⟩ = some (.int .i64 (arg f)) := hstep.cell (f := 2) hf (by omega)
  have hbs : bs < w.heap.size := hstep.lt
  have hbw : bw < w.heap.size := Nat.lt_of_lt_of_le hc.hw h.sz
  have hba : ba < w.heap.size := h.arr.lt
  have a1 : w.cell? ⟨ba, i * 3 + 1, none⟩ = some (.int .i64 (H i)) := by rw [h.arr.cell (f := 1) hi (by omega), arrA_1, if_pos hHi]
  have f0 : w.cell? ⟨ba, f * 3, none⟩ = some (.bool (decide (0 ≤ H f))) := h.arr.cell0 hf (by omega)
  have f1 : w.cell? ⟨ba, f * 3 + 1, none⟩ = some (.int .i64 (dep H f)) := h.arr.cell (f := 1) hf (by omega)
  have f2 : w.cell? ⟨ba, f * 3 + 2, none⟩ = some (.int .i64 (L f)) := h.arr.cell (f := 2) hf (by omega)
  have c0 := h.c0
  have ca := h.ca
  have ji : (i : Int) < (n : Int) := by omega
  have jf : (f : Int) < (n : Int) := by omega
  have bLf := h.hL f
  have bD : 0 ≤ dep H f ∧ dep H f ≤ 32 := by have := h.hH f; unfold dep; split <;> omega
  have hmul : 0 ≤ arg f * rnd := Int.mul_nonneg (by omega) (by omega)
  obtain ⟨dd, hdd⟩ : ∃ dd, decide (0 ≤ H f) = dd := ⟨_, rfl⟩
  rw [hdd] at f0
  have hWS := hd (fun w' (hb : Below w.heap.size w w') => h.mono hc hb)
  have hfr := hd h.fr
  have fB := Nat.le_trans (Nat.le_of_eq hc.hB) h.fr.size
  replace hstep := hd hstep
  replace h := hd h
  replace hlp := hd hlp
  replace hdd := hd hdd
  by_cases hde : H i = dep H f
  · have dde : (H i != dep H f) = false := by simpa using hde
    replace hde := hd hde
    go_enter Tryz.func184, Tryz.ntmps184
    go_wp2
    go_quiet (fail)
    go_wp2_with (fail)
    refine multiply_any _ _ _ harg (by omega) _ ?_
    intro r1 hr1
    have br1 : 0 ≤ r1 ∧ r1 ≤ 200001 := by omega
    replace hr1 := hd hr1
    have ew : IntKind.i64.wrap ((i : Int) + 1) = (i : Int) + 1 := IntWalk.i64_in _ (by omega)
    have hij := hd (show (i : Int) + 1 = ((i + 1 : Nat) : Int) by omega)
    by_cases hcc : 0 ≤ H (i + 1) ∧ H (i + 1) ≠ dep H f
    · have hno := hd (show (H i ≠ dep H f ∨ (0 ≤ H (i + 1) ∧ H (i + 1) ≠ dep H f)) from .inr hcc)
      replace hcc := hd hcc
      go_wp2_with (fail)
      go_region_with (first | (go_at_call 183; refine addB _ _ _ (by first | assumption | decide) (by first | assumption | decide) _ ?_; intro r2 hr2 br2) | (go_at_call 109; refine comeN hc _ (hWS.out _ (by repeat (first | with_reducible exact Below.refl _ _ | with_reducible refine below_drewN ?_ _ | with_reducible refine Below.drew ?_ | with_reducible refine Below.alloc ?_ (by simp) _ | with_reducible refine Below.setCell ?_ (by simp) _))) (i + 1) _ _ _ hij.out hi1 hlo (by assumption) bD hcc.out _ ?_; intro w5 hw5; replace hw5 := hd hw5))
      all_goals go_wp2
      all_goals (try go_ret)
      all_goals exact cl1 (no.out hno.out _ hw5.out) rfl
    · replace hcc := hd hcc
      go_wp2_with (fail)
      go_region_with (first | (go_at_call 183; refine addB _ _ _ (by first | assumption | decide) (by first | assumption | decide) _ ?_; intro r2 hr2 br2) | (go_at_call 109; refine comeY hc _ (hWS.out _ (by repeat (first | with_reducible exact Below.refl _ _ | with_reducible refine below_drewN ?_ _ | with_reducible refine Below.drew ?_ | with_reducible refine Below.alloc ?_ (by simp) _ | with_reducible refine Below.setCell ?_ (by simp) _))) (i + 1) _ _ _ hij.out hi1 hlo (by assumption) bD hcc.out _ ?_; intro w5 m5 A5 hw5; replace hw5 := hd hw5))
      all_goals go_wp2
      all_goals (try go_ret)
      all_goals
        rename_i r3 hr3 br3
        have e : r2 = min (vmD (L f) + min (arg f * rnd) 200001) 200001 := by rw [hr2.out, hr3.out, hr1.out]; rfl
        exact cl1 (yes.out hde.out hcc.out w5 m5 A5 (by rw [← e]; exact hw5.out)) rfl
  · have dde : (H i != dep H f) = true := by simpa using hde
    go_enter Tryz.func184, Tryz.ntmps184
    go_wp2
    go_quiet (fail)
    go_wp2
    refine cl1 (no.out (.inl hde) _ (hfr.out.trans (Below.mono (?_ : Below w.heap.size w _) fB))) rfl
    exact (by repeat (first | with_reducible exact Below.refl _ _ | with_reducible refine below_drewN ?_ _ | with_reducible refine Below.drew ?_ | with_reducible refine Below.alloc ?_ (by simp) _ | with_reducible refine Below.setCell ?_ (by simp) _))

end Go.Proofs.YtidhiaaicmfabaaGreatDoor

/- The machine's walk and the document's, held against each other. -/
namespace Go.Proofs.YtidhiaaicmfabaaGreatDoor
open Go.RowKit Go.Proofs Go.Deep

def Cap (L Lr : Nat → Int) : Prop := ∀ j, 0 ≤ Lr j ∧ L j = min (Lr j) 200001
def Cap2 (X Y : Option ((Nat → Int) × (Nat → Int))) : Prop := (X = none ∧ Y = none) ∨ ∃ H L Lr, X = some (H, L) ∧ Y = some (H, Lr) ∧ Cap L Lr
theorem jn_cap {H L Lr : Nat → Int} {t : Nat} {h d dr : Int} (hc : Cap L Lr) (hd : 0 ≤ dr ∧ d = min dr 200001) : Cap2 (jn H L t h d) (jn H Lr t h dr) := by
  by_cases hx : 0 ≤ H t ∧ H t ≠ h
  · exact .inl ⟨jn_none hx, jn_none hx⟩
  · refine .inr ⟨_, _, _, jn_some hx, jn_some hx, fun j => ?_⟩
    have h1 := hc j
    have h2 := hc t
    unfold upd
    split <;> omega
theorem jn_old {H L : Nat → Int} {t : Nat} {h d : Int} {S : (Nat → Int) × (Nat → Int)} (hs : jn H L t h d = some S) : (∀ j, 0 ≤ H j → S.1 j = H j) ∧ S.1 t = h ∧ (∀ j, 0 ≤ S.1 j → 0 ≤ H j ∨ j = t) := by
  by_cases hx : 0 ≤ H t ∧ H t ≠ h
  · rw [jn_none hx] at hs; cases hs
  · rw [jn_some hx] at hs
    injection hs with hs
    subst hs
    refine ⟨fun j hj => ?_, by simp [upd], fun j hj => ?_⟩
    · show upd H t h j = H j
      unfold upd; split
      · rename_i e; subst e; omega
      · rfl
    · simp only [upd] at hj; split at hj
      · rename_i e; exact .inr e
      · exact .inl hj
theorem step_cap {op : Nat → Nat} {N : Nat → Int} {ToR To F : Nat → Nat} {i : Nat} {H L Lr : Nat → Int} (hc : Cap L Lr)
    (hj : op i = 17 ∨ op i = 18 → ToR i = To i)
    (h20 : op i = 20 → ToR i = F i ∧ 0 ≤ H (F i) ∧ H (F i + 1) = H (F i) ∧ 1 ≤ N (F i)) :
    Cap2 (vmStep op N To F i H L) (refStep op N ToR i H Lr) := by
  have hi := hc i
  have hD : 0 ≤ Lr i + 1 ∧ vmD (L i) = min (Lr i + 1) 200001 := by unfold vmD; omega
  unfold vmStep refStep
  by_cases hbad : H i < popsOf (op i) ∨ 32 < H i - popsOf (op i) + pushesOf (op i)
  · rw [if_pos hbad, if_pos hbad]; exact .inl ⟨rfl, rfl⟩
  · rw [if_neg hbad, if_neg hbad]
    by_cases h17 : op i = 17
    · rw [if_pos h17, if_pos h17, hj (.inl h17)]; exact jn_cap hc hD
    · rw [if_neg h17, if_neg h17]
      by_cases h18 : op i = 18
      · rw [if_pos h18, if_pos h18, hj (.inr h18)]
        rcases jn_cap (H := H) (t := To i) (h := H i - popsOf (op i) + pushesOf (op i)) hc hD with ⟨e1, e2⟩ | ⟨H', L', Lr', e1, e2, hc'⟩
        · rw [e1, e2]; exact .inl ⟨rfl, rfl⟩
        · rw [e1, e2]; exact jn_cap hc' hD
      · rw [if_neg h18, if_neg h18]
        by_cases h19 : op i = 19
        · rw [if_pos h19, if_pos h19]; exact jn_cap hc (by omega)
        · rw [if_neg h19, if_neg h19]
          by_cases h2 : op i = 20
          · obtain ⟨e1, e2, e3, e4⟩ := h20 h2
            rw [if_pos h2, if_pos h2, e1]
            have p : popsOf (op i) = 0 := by rw [h2]; rfl
            have q : pushesOf (op i) = 0 := by rw [h2]; rfl
            have hdep : dep H (F i) = H (F i) := by unfold dep; rw [if_pos e2]
            rw [p, q, hdep, e3]
            have e5 : H i - ((0 : Nat) : Int) + ((0 : Nat) : Int) = H i := by omega
            rw [e5]
            by_cases h3 : H i = H (F i)
            · rw [if_pos h3, if_pos h3, h3]
              refine jn_cap hc ?_
              have hf := hc (F i)
              have hm1 : 0 ≤ N (F i) * (Lr i + 1) := Int.mul_nonneg (by omega) (by omega)
              have hm2 : min (N (F i) * vmD (L i)) 200001 = min (N (F i) * (Lr i + 1)) 200001 := by
                rw [hD.2]
                rcases Int.le_total (Lr i + 1) 200001 with h | h
                · rw [show min (Lr i + 1) 200001 = Lr i + 1 by omega]
                · rw [show min (Lr i + 1) 200001 = 200001 by omega]
                  have g1 : 1 * 200001 ≤ N (F i) * 200001 := Int.mul_le_mul_of_nonneg_right e4 (by omega)
                  have g2 : 1 * (Lr i + 1) ≤ N (F i) * (Lr i + 1) := Int.mul_le_mul_of_nonneg_right e4 (by omega)
                  omega
              rw [hm2]
              unfold vmD
              omega
            · rw [if_neg h3, if_neg h3]; exact .inl ⟨rfl, rfl⟩
          · rw [if_neg h2, if_neg h2]; exact jn_cap hc hD
theorem refGo_ends (op : Nat → Nat) (N : Nat → Int) (To : Nat → Nat) (n : Nat) : ∀ (fuel i : Nat) (H L : Nat → Int) (bd : Int), i + fuel = n → refGo op N To n fuel i H L = some bd → 0 < n ∧ i < n ∧ op (n - 1) = 0 ∧ ∀ j, i ≤ j → j + 1 < n → op j ≠ 0
  | 0, i, H, L, bd, _, h => by simp [refGo] at h
  | fuel + 1, i, H, L, bd, hf, h => by
    simp only [refGo] at h
    by_cases h0 : op i = 0
    · rw [if_pos h0] at h
      split at h
      · rename_i hh
        refine ⟨by omega, by omega, ?_, fun j hj hj2 => by omega⟩
        rw [show n - 1 = i by omega]; exact h0
      · cases h
    · rw [if_neg h0] at h
      split at h
      · cases h
      · rename_i S hS
        obtain ⟨h1, h2, h3, h4⟩ := refGo_ends op N To n fuel (i + 1) S.1 S.2 bd (by omega) h
        refine ⟨h1, by omega, h3, fun j hj hj2 => ?_⟩
        by_cases e : j = i
        · subst e; exact h0
        · exact h4 j (by omega) hj2

theorem vm_old {op : Nat → Nat} {N : Nat → Int} {To F : Nat → Nat} {i : Nat} {H L : Nat → Int} {S : (Nat → Int) × (Nat → Int)} (hs : vmStep op N To F i H L = some S) :
    (∀ j, 0 ≤ H j → S.1 j = H j) ∧ (op i = 19 → S.1 (i + 1) = H i) := by
  unfold vmStep at hs
  by_cases hbad : H i < popsOf (op i) ∨ 32 < H i - popsOf (op i) + pushesOf (op i)
  · rw [if_pos hbad] at hs; cases hs
  · rw [if_neg hbad] at hs
    by_cases h17 : op i = 17
    · rw [if_pos h17] at hs; exact ⟨(jn_old hs).1, fun h => by omega⟩
    · rw [if_neg h17] at hs
      by_cases h18 : op i = 18
      · rw [if_pos h18] at hs
        split at hs
        · cases hs
        · rename_i S1 hS1
          refine ⟨fun j hj => ?_, fun h => by omega⟩
          have e1 := (jn_old hS1).1 j hj
          rw [(jn_old hs).1 j (by omega), e1]
      · rw [if_neg h18] at hs
        by_cases h19 : op i = 19
        · rw [if_pos h19] at hs
          refine ⟨(jn_old hs).1, fun _ => ?_⟩
          rw [(jn_old hs).2.1, h19]
          have p : popsOf 19 = 0 := rfl
          have q : pushesOf 19 = 0 := rfl
          rw [p, q]; omega
        · rw [if_neg h19] at hs
          by_cases h20 : op i = 20
          · rw [if_pos h20] at hs
            split at hs
            · exact ⟨(jn_old hs).1, fun h => by omega⟩
            · cases hs
          · rw [if_neg h20] at hs; exact ⟨(jn_old hs).1, fun h => by omega⟩
theorem refGo_gap {op : Nat → Nat} {N : Nat → Int} {To : Nat → Nat} {n fuel i : Nat} {H L : Nat → Int} (h : H i < 0) : refGo op N To n fuel i H L = none := by
  cases fuel with
  | zero => rfl
  | succ f =>
    simp only [refGo]
    by_cases h0 : op i = 0
    · rw [if_pos h0, if_neg (by omega)]
    · rw [if_neg h0]
      have : refStep op N To i H L = none := by unfold refStep; rw [if_pos (.inl (by omega))]
      rw [this]
theorem refGo_step {op : Nat → Nat} {N : Nat → Int} {To : Nat → Nat} {n i : Nat} {H L : Nat → Int} (hi : i < n) (h0 : op i ≠ 0) :
    refGo op N To n (n - i) i H L = (match refStep op N To i H L with | none => none | some S => refGo op N To n (n - (i + 1)) (i + 1) S.1 S.2) := by
  obtain ⟨f, hf⟩ : ∃ f, n - i = f + 1 := ⟨n - i - 1, by omega⟩
  have hf' : n - (i + 1) = f := by omega
  rw [hf, hf']
  simp only [refGo]
  rw [if_neg h0]
  rfl
theorem refGo_last {op : Nat → Nat} {N : Nat → Int} {To : Nat → Nat} {n i : Nat} {H L : Nat → Int} (hi : i + 1 = n) (h0 : op i = 0) :
    refGo op N To n (n - i) i H L = if H i = 0 then some (L i + 1) else none := by
  have hf : n - i = 0 + 1 := by omega
  rw [hf]
  simp only [refGo]
  rw [if_pos h0]
  simp [hi]
/-- What is known of the walk while no step was left out. -/
def Even (op : Nat → Nat) (N : Nat → Int) (To : Nat → Nat) (n lo : Nat) (H L : Nat → Int) (X : Option Int) : Prop :=
  ∃ Lr, Cap L Lr ∧ (∀ j, j < lo → 0 ≤ H j) ∧ (∀ f, f < lo → op f = 19 → H (f + 1) = H f) ∧ X = refGo op N To n (n - lo) lo H Lr
theorem Even.step {op : Nat → Nat} {N : Nat → Int} {To : Nat → Nat} {n lo : Nat} {H L : Nat → Int} {X : Option Int} (h : Even op N To n lo H L X) (hlo : lo < n) (h0 : op lo ≠ 0) (hH : 0 ≤ H lo)
    (hF : op lo = 20 → To lo < lo ∧ op (To lo) = 19) (hN : ∀ i, i < n → op i = 19 → 1 ≤ N i) :
    (vmStep op N To To lo H L = none → X = none) ∧ (∀ S, vmStep op N To To lo H L = some S → Even op N To n (lo + 1) S.1 S.2 X) := by
  obtain ⟨Lr, hc, hk, hf, hX⟩ := h
  have hcap := step_cap (op := op) (N := N) (ToR := To) (To := To) (F := To) (i := lo) (H := H) hc (fun _ => rfl) (fun h20 => by
    obtain ⟨a, b⟩ := hF h20
    exact ⟨rfl, hk _ a, hf _ a b, hN _ (by omega) b⟩)
  rw [refGo_step hlo h0] at hX
  constructor
  · intro hn
    rcases hcap with ⟨_, e2⟩ | ⟨_, _, _, e1, _, _⟩
    · rw [hX, e2]
    · rw [hn] at e1; cases e1
  · intro S hS
    rcases hcap with ⟨e1, _⟩ | ⟨H', L', Lr', e1, e2, hc'⟩
    · rw [hS] at e1; cases e1
    · rw [hS] at e1
      injection e1 with e1
      subst e1
      obtain ⟨g1, g2⟩ := vm_old hS
      refine ⟨Lr', hc', fun j hj => ?_, fun f hfl h19 => ?_, ?_⟩
      · have : 0 ≤ H j := by
          by_cases e : j = lo
          · subst e; exact hH
          · exact hk j (by omega)
        rw [g1 j this]; exact this
      · by_cases e : f = lo
        · subst e; rw [g2 h19, g1 f hH]
        · have a := hf f (by omega) h19
          have b := hk f (by omega)
          rw [g1 (f + 1) (by omega), g1 f b, a]
      · rw [hX, e2]
theorem Even.last {op : Nat → Nat} {N : Nat → Int} {To : Nat → Nat} {n lo : Nat} {H L : Nat → Int} {X : Option Int} (h : Even op N To n lo H L X) (hlo : lo + 1 = n) (h0 : op lo = 0) :
    (H lo ≠ 0 → X = none) ∧ (H lo = 0 → ∃ b, X = some b ∧ vmD (L lo) = min b 200001) := by
  obtain ⟨Lr, hc, hk, hf, hX⟩ := h
  rw [refGo_last hlo h0] at hX
  refine ⟨fun hh => by rw [hX, if_neg hh], fun hh => ⟨Lr lo + 1, by rw [hX, if_pos hh], ?_⟩⟩
  have := hc lo
  unfold vmD; omega
theorem Even.gap {op : Nat → Nat} {N : Nat → Int} {To : Nat → Nat} {n lo : Nat} {H L : Nat → Int} {X : Option Int} (h : Even op N To n lo H L X) (hH : H lo < 0) : X = none := by
  obtain ⟨Lr, hc, hk, hf, hX⟩ := h
  rw [hX]; exact refGo_gap hH
theorem Even.start (op : Nat → Nat) (N : Nat → Int) (To : Nat → Nat) (n : Nat) : Even op N To n 0 (upd (fun _ => -1) 0 0) (upd (fun _ => 0) 0 (max 0 0)) (refGo op N To n n 0 H0 L0) := by
  refine ⟨L0, fun j => ?_, by omega, by omega, ?_⟩
  · refine ⟨by unfold L0; omega, ?_⟩
    unfold upd L0; split <;> rfl
  · have e : upd (fun _ => -1) 0 0 = H0 := by funext j; unfold upd H0; rfl
    rw [e]; rfl
theorem WS.pop {w0 w w' : World} {B bw ba bs base n cap : Nat} {nm : Nat → ByteArray} {fv : Nat → Value} {H L : Nat → Int} {lo m : Nat} {A A' : Nat → Int} {bd : Int} {op at_ : Nat → Nat} {arg cnt lp to_ : Nat → Int}
    (hc : WC w0 B bw ba bs base n cap op at_ arg cnt lp to_) (h : WS w0 B bw ba bs base n cap nm fv H L lo m A bd w) (hm : 0 < m)
    (hK : Kept bw 112 base w w') (hwh : WH w' bw 112 base (m - 1) A') (hheap : Heap A' (m - 1)) (hS : Same (swapF A 0 (m - 1)) A' (m - 1)) :
    ∃ q : Nat, A 0 = (q : Int) ∧ lo ≤ q ∧ q < n ∧ 0 ≤ H q ∧ (∀ j, lo ≤ j → j < q → H j < 0) ∧ WS w0 B bw ba bs base n cap nm fv H L (q + 1) (m - 1) A' bd w' := by
  obtain ⟨q, hq, hlo, hqn, hHq⟩ := (h.mem (A 0)).1 ⟨0, hm, rfl⟩
  have hmin : ∀ k, k < m → A 0 ≤ A k := by
    intro k
    induction k using Nat.strongRecOn with
    | _ k ih =>
      intro hk
      by_cases e : k = 0
      · subst e; omega
      · have h1 := h.heap k (by omega) hk
        have h2 := ih ((k - 1) / 2) (by omega) (by omega)
        omega
  have hsw : ∀ x, (∃ k, k < m - 1 ∧ swapF A 0 (m - 1) k = x) ↔ ∃ k, 0 < k ∧ k < m ∧ A k = x := by
    intro x
    constructor
    · rintro ⟨k, hk, he⟩
      by_cases e : k = 0
      · subst e
        refine ⟨m - 1, by omega, by omega, ?_⟩
        rw [← he]; unfold swapF; rw [if_neg (by omega), if_pos rfl]
      · refine ⟨k, by omega, by omega, ?_⟩
        rw [← he]; unfold swapF; rw [if_neg (by omega), if_neg e]
    · rintro ⟨k, hk0, hk, he⟩
      by_cases e : k = m - 1
      · refine ⟨0, by omega, ?_⟩
        rw [← he, e]; unfold swapF; rw [if_neg (by omega), if_pos rfl]
      · refine ⟨k, by omega, ?_⟩
        rw [← he]; unfold swapF; rw [if_neg e, if_neg (by omega)]
  have hgap : ∀ j, lo ≤ j → j < q → H j < 0 := fun j hj hjq => by
    rcases Int.lt_or_le (H j) 0 with hx | hx
    · exact hx
    · obtain ⟨k, hk, he⟩ := (h.mem (j : Int)).2 ⟨j, rfl, hj, by omega, hx⟩
      have := hmin k hk
      omega
  have hlt : bw < w.heap.size := Nat.lt_of_lt_of_le hc.hw h.sz
  have ho : ∀ o, o ≠ 112 → w'.cell? ⟨bw, o, none⟩ = w.cell? ⟨bw, o, none⟩ := fun o h112 => hK.cell o h112
  refine ⟨q, hq, hlo, hqn, hHq, hgap, ⟨⟨hK.os.trans h.fr.os, hK.tape.trans h.fr.tape, hK.output.trans h.fr.output, Nat.le_trans h.fr.size hK.size, fun k hkB => (hK.block k (by have := hc.hbw; have := hc.hw; omega) (by have := hc.hbw; omega)).trans (h.fr.block k hkB)⟩,
    Nat.le_trans h.sz hK.size, by rw [ho 0 (by omega)]; exact h.c0, fun o hl => ?_, by rw [ho 111 (by omega)]; exact h.ca, by rw [ho 113 (by omega)]; exact h.cb, fun o => by rw [hK.frozen]; exact h.fz o, h.arr.of_block (hK.block ba hc.ha (Ne.symm hc.hne)), hwh, hheap, ?_, ?_, h.hH, h.hL, h.hHL⟩⟩
  · have hr := h.rows o hl
    rw [ho _ (by omega), ho _ (by omega), ho _ (by omega), ho _ (by omega), ho _ (by omega)]
    exact hr
  · refine hS.2 (fun i j hi hj e => ?_)
    have hval : ∀ k, k < m - 1 → swapF A 0 (m - 1) k = A (if k = 0 then m - 1 else k) := fun k hk => by
      unfold swapF
      by_cases e0 : k = 0
      · subst e0; rw [if_neg (by omega), if_pos rfl, if_pos rfl]
      · rw [if_neg (by omega), if_neg e0, if_neg e0]
    rw [hval i hi, hval j hj] at e
    have := h.inj _ _ (by split <;> omega) (by split <;> omega) e
    split at this <;> split at this <;> omega
  · intro x
    rw [← hS.1 x, hsw x]
    constructor
    · rintro ⟨k, hk0, hk, he⟩
      obtain ⟨j, hj, h1, h2, h3⟩ := (h.mem x).1 ⟨k, hk, he⟩
      refine ⟨j, hj, ?_, h2, h3⟩
      have g1 := hmin k hk
      have g2 : A 0 ≠ A k := fun e => by have := h.inj 0 k hm hk e; omega
      omega
    · rintro ⟨j, hj, h1, h2, h3⟩
      obtain ⟨k, hk, he⟩ := (h.mem x).2 ⟨j, hj, by omega, h2, h3⟩
      refine ⟨k, ?_, hk, he⟩
      rcases Nat.eq_zero_or_pos k with e | e
      · subst e; omega
      · exact e

end Go.Proofs.YtidhiaaicmfabaaGreatDoor
