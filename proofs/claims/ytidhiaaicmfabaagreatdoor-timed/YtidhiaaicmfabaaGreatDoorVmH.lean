/- The contract of leave. -/
import Derived.Test.YtidhiaaicmfabaaGreatDoorMem
import Derived.Test.YtidhiaaicmfabaaGreatDoorSpec
import Derived.Test.YtidhiaaicmfabaaGreatDoorRefA
import Derived.Test.YtidhiaaicmfabaaGreatDoorRefC
import Derived.Test.YtidhiaaicmfabaaGreatDoorSpec2
import Derived.WalkKit
import Derived.WalkSpells
import Derived.WalkLawsBesides
import Derived.Deep.OwnRows
import Derived.BigQuiet
import Derived.Handy
import Derived.Deep.Light
import Derived.Deep.RegionHeld3
import Derived.Deep.RegionWith
import Derived.Test.YtidhiaaicmfabaaGreatDoorLibA
import Derived.Test.YtidhiaaicmfabaaGreatDoorLibG
import Derived.Test.YtidhiaaicmfabaaGreatDoorVmA
import Derived.Test.YtidhiaaicmfabaaGreatDoorVmB
import Derived.Test.YtidhiaaicmfabaaGreatDoorVmC
import Derived.Test.YtidhiaaicmfabaaGreatDoorVmD
import Derived.Test.YtidhiaaicmfabaaGreatDoorVmG
namespace Go.Proofs.YtidhiaaicmfabaaGreatDoor
open Go.RowKit Go.Proofs Go.Deep

theorem WS.mono {w0 w w' : World} {B bw ba bs base n cap : Nat} {nm : Nat → ByteArray} {fv : Nat → Value} {H L : Nat → Int} {lo m : Nat} {A : Nat → Int} {bd : Int} {op at_ : Nat → Nat} {arg cnt lp to_ : Nat → Int}
    (hc : WC w0 B bw ba bs base n cap op at_ arg cnt lp to_) (h : WS w0 B bw ba bs base n cap nm fv H L lo m A bd w) (hb : Below w.heap.size w w') : WS w0 B bw ba bs base n cap nm fv H L lo m A bd w' := by
  have hlt : bw < w.heap.size := Nat.lt_of_lt_of_le hc.hw h.sz
  have ho : ∀ o, w'.cell? ⟨bw, o, none⟩ = w.cell? ⟨bw, o, none⟩ := fun o => hb.cell (p := ⟨bw, o, none⟩) hlt
  refine ⟨h.fr.trans (hb.mono (Nat.le_trans (Nat.le_of_eq hc.hB) h.fr.size)), Nat.le_trans h.sz hb.size, by rw [ho]; exact h.c0, fun o hl => by simp only [ho]; exact h.rows o hl, by rw [ho]; exact h.ca, by rw [ho]; exact h.cb, fun o => by rw [hb.frozen (p := ⟨bw, o, none⟩) hlt]; exact h.fz o, h.arr.below hb, ?_, h.heap, h.inj, h.mem, h.hH, h.hL, h.hHL⟩
  obtain ⟨v, hv, hown⟩ := h.wh
  exact ⟨v, by rw [ho]; exact hv, own_below hown hb⟩
def vmD (x : Int) : Int := min (x + 1) 200001
def dep (H : Nat → Int) (f : Nat) : Int := if 0 ≤ H f then H f else 0
/-- One step (not END) of the machine's walk. -/
def vmStep (op : Nat → Nat) (N : Nat → Int) (To F : Nat → Nat) (i : Nat) (H L : Nat → Int) : Option ((Nat → Int) × (Nat → Int)) :=
  if H i < popsOf (op i) ∨ 32 < H i - popsOf (op i) + pushesOf (op i) then none
  else if op i = 17 then jn H L (To i) (H i - popsOf (op i) + pushesOf (op i)) (vmD (L i))
  else if op i = 18 then
    match jn H L (To i) (H i - popsOf (op i) + pushesOf (op i)) (vmD (L i)) with
    | none => none
    | some S => jn S.1 S.2 (i + 1) (H i - popsOf (op i) + pushesOf (op i)) (vmD (L i))
  else if op i = 19 then jn H L (i + 1) (H i - popsOf (op i) + pushesOf (op i)) 0
  else if op i = 20 then
    (if H i = dep H (F i) then jn H L (i + 1) (dep H (F i)) (min (vmD (L (F i)) + min (N (F i) * vmD (L i)) 200001) 200001) else none)
  else jn H L (i + 1) (H i - popsOf (op i) + pushesOf (op i)) (vmD (L i))
theorem new_first (w : World) (o o' : Obj) : ((w.alloc o).alloc o').drew.heap[w.heap.size]? = some o := (Below.heap_alloc (w.alloc o) o' w.heap.size (by simp)).trans (heap_alloc_new w o)
theorem new_second (w : World) (o o' : Obj) : ((w.alloc o).alloc o').drew.heap[w.heap.size + 1]? = some o' := by
  have := heap_alloc_new (w.alloc o) o'
  have e : (w.alloc o).heap.size = w.heap.size + 1 := by simp
  rw [e] at this
  exact this
theorem below_two (w : World) (o o' : Obj) : Below w.heap.size w ((w.alloc o).alloc o').drew := (((Below.refl _ _).alloc (Nat.le_refl _) o).alloc (by simp) o').drew
theorem three {w : World} {g T : Nat} {v0 v1 v2 : Value} (h : w.heap[g]? = some (.cells #[v0, v1, v2] T (0, 0))) : w.cell? ⟨g, 0, none⟩ = some v0 ∧ w.cell? ⟨g, 1, none⟩ = some v1 ∧ w.cell? ⟨g, 2, none⟩ = some v2 := by
  refine ⟨?_, ?_, ?_⟩ <;> rw [cell_of_row w g _ _ T (0, 0) h] <;> rfl
theorem blk_lt {w : World} {g : Nat} {o : Obj} (h : w.heap[g]? = some o) : g < w.heap.size := (Array.getElem?_eq_some_iff.1 h).1
theorem comeN {w0 : World} {B bw ba bs base n cap : Nat} {op at_ : Nat → Nat} {arg cnt lp to_ : Nat → Int} (hc : WC w0 B bw ba bs base n cap op at_ arg cnt lp to_)
    {nm : Nat → ByteArray} {fv : Nat → Value} {H L : Nat → Int} {lo m : Nat} {A : Nat → Int} {bd : Int} (w : World) (h : WS w0 B bw ba bs base n cap nm fv H L lo m A bd w)
    (t : Nat) (ti d hh : Int) (hti : ti = (t : Int)) (ht : t < n) (hlo : lo ≤ t) (hd0 : 0 ≤ d ∧ d ≤ 200001) (hh0 : 0 ≤ hh ∧ hh ≤ 32) (hx : 0 ≤ H t ∧ H t ≠ hh) (R : Ending → World → Prop)
    (fin : ∀ w', Below B w0 w' → R (.returned (.bool false)) w') : Calls Tryz.prog 109 #[.pointer (some ⟨bw, 0, none⟩), .int .i64 ti, .int .i64 hh, .int .i64 d] w R :=
  come_any hc w h t ti d hh hti ht hlo hd0 hh0 R (fun _ => fin) (fun h' => absurd hx h')
theorem comeY {w0 : World} {B bw ba bs base n cap : Nat} {op at_ : Nat → Nat} {arg cnt lp to_ : Nat → Int} (hc : WC w0 B bw ba bs base n cap op at_ arg cnt lp to_)
    {nm : Nat → ByteArray} {fv : Nat → Value} {H L : Nat → Int} {lo m : Nat} {A : Nat → Int} {bd : Int} (w : World) (h : WS w0 B bw ba bs base n cap nm fv H L lo m A bd w)
    (t : Nat) (ti d hh : Int) (hti : ti = (t : Int)) (ht : t < n) (hlo : lo ≤ t) (hd0 : 0 ≤ d ∧ d ≤ 200001) (hh0 : 0 ≤ hh ∧ hh ≤ 32) (hx : ¬ (0 ≤ H t ∧ H t ≠ hh)) (R : Ending → World → Prop)
    (fin : ∀ w' m' A', WS w0 B bw ba bs base n cap nm fv (upd H t hh) (upd L t (max (L t) d)) lo m' A' bd w' → R (.returned (.bool true)) w') : Calls Tryz.prog 109 #[.pointer (some ⟨bw, 0, none⟩), .int .i64 ti, .int .i64 hh, .int .i64 d] w R :=
  come_any hc w h t ti d hh hti ht hlo hd0 hh0 R (fun h' => absurd h' hx) (fun _ => fin)
theorem addB (w : World) (a b : Int) (ha : 0 ≤ a ∧ a ≤ 200001) (hb : 0 ≤ b ∧ b ≤ 200001) (R : Ending → World → Prop)
    (fin : ∀ r, Hid (r = min (a + b) 200001) → (0 ≤ r ∧ r ≤ 200001) → R (.returned (.int .i64 r)) w) :
    Calls Tryz.prog 183 #[.int .i64 a, .int .i64 b] w R := add_any w a b (by omega) (by omega) R (fun r hr => fin r hr (by omega))
set_option maxRecDepth 100000 in
set_option maxHeartbeats 4000000 in
theorem leave_any {w0 : World} {B bw ba bs base n cap : Nat} {op at_ : Nat → Nat} {arg cnt lp to_ : Nat → Int} (hc : WC w0 B bw ba bs base n cap op at_ arg cnt lp to_)
    {nm : Nat → ByteArray} {fv : Nat → Value} {H L : Nat → Int} {lo m : Nat} {A : Nat → Int} {bd : Int} (w : World) (h : WS w0 B bw ba bs base n cap nm fv H L lo m A bd w)
    (i f : Nat) (rnd : Int) (hi : i < n) (hf : f < n) (hlp : lp i = (f : Int)) (hi1 : i + 1 < n) (hlo : lo ≤ i + 1) (harg : 1 ≤ arg f ∧ arg f ≤ 65535) (hr : 0 ≤ rnd ∧ rnd ≤ 200001) (hHi : 0 ≤ H i)
    (R : Ending → World → Prop)
    (no : (H i ≠ dep H f ∨ (0 ≤ H (i + 1) ∧ H (i + 1) ≠ dep H f)) → ∀ w', Below B w0 w' → R (.returned (.bool false)) w')
    (yes : H i = dep H f → ¬ (0 ≤ H (i + 1) ∧ H (i + 1) ≠ dep H f) → ∀ w' m' A', WS w0 B bw ba bs base n cap nm fv (upd H (i + 1) (dep H f)) (upd L (i + 1) (max (L (i + 1)) (min (vmD (L f) + min (arg f * rnd) 200001) 200001))) lo m' A' bd w' → R (.returned (.bool true)) w') :
    Calls Tryz.prog 184 #[.pointer (some ⟨bw, 0, none⟩), .int .i64 (i : Int), .int .i64 rnd] w R := by
  replace no := hd no
  replace yes := hd yes
  have hn := hc.hn
  have hstep := hc.steps.of_block (w' := w) (h.fr.block bs (by rw [hc.hB]; exact hc.steps.lt))
  have x4 : w.cell? ⟨bs, i * 6 + 4, none⟩ = some (.int .i64 (f : Int)) := by rw [← hlp]; exact hstep.cell (f := 4) hi (by omega)
  have y2 : w.cell? ⟨bs, f * 6 + 2, none⟩ = some (.int .i64 (arg f)) := hstep.cell (f := 2) hf (by omega)
  have hbs : bs < w.heap.size := hstep.lt
  have hbw : bw < w.heap.size := Nat.lt_of_lt_of_le hc.hw h.sz
  have hba : ba < w.heap.size := h.arr.lt
  have a1 : w.cell? ⟨ba, i * 3 + 1, none⟩ = some (.int .i64 (H i)) := by rw [h.arr.cell (f := 1) hi (by omega), arrA_1, if_pos hHi]
  have f0 : w.cell? ⟨ba, f * 3, none⟩ = some (.bool (decide (0 ≤ H f))) := h.arr.cell0 hf (by omega)
  have f1 : w.cell? ⟨ba, f * 3 + 1, none⟩ = some (.int .i64 (dep H f)) := h.arr.cell (f := 1) hf (by omega)
  have f2 : w.cell? ⟨ba, f * 3 + 2, none⟩ = some (.int .i64 (L f)) := h.arr.cell (f := 2) hf (by omega)
  have c0 := h.c0
  have ca := h.ca
  have ji : (i : Int) < (n : Int) := by omega
  have jf : (f : Int) < (n : Int) := by omega
  have bLf := h.hL f
  have bD : 0 ≤ dep H f ∧ dep H f ≤ 32 := by have := h.hH f; unfold dep; split <;> omega
  have hmul : 0 ≤ arg f * rnd := Int.mul_nonneg (by omega) (by omega)
  obtain ⟨dd, hdd⟩ : ∃ dd, decide (0 ≤ H f) = dd := ⟨_, rfl⟩
  rw [hdd] at f0
  have hWS := hd (fun w' (hb : Below w.heap.size w w') => h.mono hc hb)
  have hfr := hd h.fr
  have fB := Nat.le_trans (Nat.le_of_eq hc.hB) h.fr.size
  replace hstep := hd hstep
  replace h := hd h
  replace hlp := hd hlp
  replace hdd := hd hdd
  by_cases hde : H i = dep H f
  · have dde : (H i != dep H f) = false := by simpa using hde
    replace hde := hd hde
    go_enter Tryz.func184, Tryz.ntmps184
    go_wp2
    go_quiet (fail)
    go_wp2_with (fail)
    refine multiply_any _ _ _ harg (by omega) _ ?_
    intro r1 hr1
    have br1 : 0 ≤ r1 ∧ r1 ≤ 200001 := by omega
    replace hr1 := hd hr1
    have ew : IntKind.i64.wrap ((i : Int) + 1) = (i : Int) + 1 := IntWalk.i64_in _ (by omega)
    have hij := hd (show (i : Int) + 1 = ((i + 1 : Nat) : Int) by omega)
    by_cases hcc : 0 ≤ H (i + 1) ∧ H (i + 1) ≠ dep H f
    · have hno := hd (show (H i ≠ dep H f ∨ (0 ≤ H (i + 1) ∧ H (i + 1) ≠ dep H f)) from .inr hcc)
      replace hcc := hd hcc
      go_wp2_with (fail)
      go_region_with (first | (go_at_call 183; refine addB _ _ _ (by first | assumption | decide) (by first | assumption | decide) _ ?_; intro r2 hr2 br2) | (go_at_call 109; refine comeN hc _ (hWS.out _ (by repeat (first | with_reducible exact Below.refl _ _ | with_reducible refine below_drewN ?_ _ | with_reducible refine Below.drew ?_ | with_reducible refine Below.alloc ?_ (by simp) _ | with_reducible refine Below.setCell ?_ (by simp) _))) (i + 1) _ _ _ hij.out hi1 hlo (by assumption) bD hcc.out _ ?_; intro w5 hw5; replace hw5 := hd hw5))
      all_goals go_wp2
      all_goals (try go_ret)
      all_goals exact cl1 (no.out hno.out _ hw5.out) rfl
    · replace hcc := hd hcc
      go_wp2_with (fail)
      go_region_with (first | (go_at_call 183; refine addB _ _ _ (by first | assumption | decide) (by first | assumption | decide) _ ?_; intro r2 hr2 br2) | (go_at_call 109; refine comeY hc _ (hWS.out _ (by repeat (first | with_reducible exact Below.refl _ _ | with_reducible refine below_drewN ?_ _ | with_reducible refine Below.drew ?_ | with_reducible refine Below.alloc ?_ (by simp) _ | with_reducible refine Below.setCell ?_ (by simp) _))) (i + 1) _ _ _ hij.out hi1 hlo (by assumption) bD hcc.out _ ?_; intro w5 m5 A5 hw5; replace hw5 := hd hw5))
      all_goals go_wp2
      all_goals (try go_ret)
      all_goals
        rename_i r3 hr3 br3
        have e : r2 = min (vmD (L f) + min (arg f * rnd) 200001) 200001 := by rw [hr2.out, hr3.out, hr1.out]; rfl
        exact cl1 (yes.out hde.out hcc.out w5 m5 A5 (by rw [← e]; exact hw5.out)) rfl
  · have dde : (H i != dep H f) = true := by simpa using hde
    go_enter Tryz.func184, Tryz.ntmps184
    go_wp2
    go_quiet (fail)
    go_wp2
    refine cl1 (no.out (.inl hde) _ (hfr.out.trans (Below.mono (?_ : Below w.heap.size w _) fB))) rfl
    exact (by repeat (first | with_reducible exact Below.refl _ _ | with_reducible refine below_drewN ?_ _ | with_reducible refine Below.drew ?_ | with_reducible refine Below.alloc ?_ (by simp) _ | with_reducible refine Below.setCell ?_ (by simp) _))

end Go.Proofs.YtidhiaaicmfabaaGreatDoor
