/- What instructions do, in memory: the first ones. -/
import Derived.Test.YtidhiaaicmfabaaGreatMem
import Derived.Test.YtidhiaaicmfabaaGreatSpec
import Derived.Test.YtidhiaaicmfabaaGreatRefA
import Derived.Test.YtidhiaaicmfabaaGreatRefC
import Derived.Test.YtidhiaaicmfabaaGreatSpec2
import Derived.WalkKit
import Derived.WalkSpells
import Derived.WalkLawsBesides
import Derived.Deep.OwnRows
import Derived.BigQuiet
import Derived.Handy
import Derived.Deep.Light
import Derived.Deep.RegionHeld3
import Derived.Deep.RegionWith
import Derived.Test.YtidhiaaicmfabaaGreatSemB
namespace Go.Proofs.YtidhiaaicmfabaaGreat
open Go.RowKit Go.Proofs Go.Deep

section
variable {K : Rc} {dn : Int} {q : Sc} {S : List Int} {w w' : World}
theorem RS.below (hK : RcOk K) (h : RS K dn q S w) (hb : Below w.heap.size w w') : RS K dn q S w' := by
  obtain ⟨sv, rv, hm, hs, hr⟩ := h.ex
  exact ⟨⟨sv, rv, hm.below hK (hb.mono hm.fr.size), own_below hs hb, own_below hr hb⟩, h.hC, h.hS⟩
theorem RS.alloc (hK : RcOk K) (h : RS K dn q S w) (o : Obj) : RS K dn q S (w.alloc o) := h.below hK ((Below.refl _ _).alloc (Nat.le_refl _) o)
theorem RS.drew (hK : RcOk K) (h : RS K dn q S w) : RS K dn q S w.drew := h.below hK (Below.refl _ _).drew
theorem RS.drewN (hK : RcOk K) (h : RS K dn q S w) (k : Nat) : RS K dn q S (w.drewN k) := h.below hK (below_drewN (Below.refl _ _) _)
theorem RS.setNx (hK : RcOk K) (h : RS K dn q S w) (x : Int) : RS K dn { q with nx := x } S (w.setCell ⟨K.br, 115, none⟩ (.int .i64 x)) := by
  obtain ⟨sv, rv, hm, hs, hr⟩ := h.ex
  exact ⟨⟨sv, rv, hm.setNx hK x, own_set hs hK.br _, own_set hr hK.br _⟩, h.hC, h.hS⟩
theorem RS.setOv (hK : RcOk K) (h : RS K dn q S w) (x : Bool) : RS K dn { q with ov := x } S (w.setCell ⟨K.br, 117, none⟩ (.bool x)) := by
  obtain ⟨sv, rv, hm, hs, hr⟩ := h.ex
  exact ⟨⟨sv, rv, hm.setOv hK x, own_set hs hK.br _, own_set hr hK.br _⟩, h.hC, h.hS⟩
theorem RS.setDn (hK : RcOk K) (h : RS K dn q S w) (x : Int) : RS K x q S (w.setCell ⟨K.br, 116, none⟩ (.int .i64 x)) := by
  obtain ⟨sv, rv, hm, hs, hr⟩ := h.ex
  exact ⟨⟨sv, rv, hm.setDn hK x, own_set hs hK.br _, own_set hr hK.br _⟩, h.hC, h.hS⟩
theorem RS.setC (hK : RcOk K) (h : RS K dn q S w) (c : Nat) (x : Int) (hx : in32 x) : RS K dn { q with C := upd q.C c x } S (w.setCell ⟨K.bc, c * 3 + 2, none⟩ (.int .i32 x)) := by
  obtain ⟨sv, rv, hm, hs, hr⟩ := h.ex
  refine ⟨⟨sv, rv, hm.setC hK c x, own_set hs hK.bc _, own_set hr hK.bc _⟩, fun j => ?_, h.hS⟩
  show in32 (upd q.C c x j)
  unfold upd; split
  · exact hx
  · exact h.hC j
end
theorem cell_al {w : World} {a : Addr} {v : Value} (h : w.cell? a = some v) (o : Obj) : (w.alloc o).cell? a = some v := by
  rw [World.cell?_alloc_lt _ _ _ (World.block_lt_of_cell? w a h)]; exact h
theorem frozen_al {w : World} {a : Addr} (h : w.frozen? a = false) (hl : a.block < w.heap.size) (o : Obj) : (w.alloc o).frozen? a = false := by
  rw [World.frozen?_of_block (w := w) (w' := w.alloc o) (Below.heap_alloc w o a.block hl)]; exact h
theorem own_take {w : World} {base e : Nat} {ao : Option Addr} {n cap m : Nat} {xs : List Value} (h : w.ownsRow base e 1 (.slice ao n cap) n xs) (hm : m ≤ n) : w.ownsRow base e 1 (.slice ao m cap) m (xs.take m) := by
  refine ⟨by rw [List.length_take, h.1]; omega, ?_⟩
  rcases h.2 with ⟨hv, hn⟩ | ⟨g, cap', cur, hv, hb, hg, hc, hx, hz, ht⟩
  · injection hv with h1 h2 h3
    subst h1; subst h3
    have : m = 0 := by omega
    subst this
    exact .inl ⟨rfl, rfl⟩
  · injection hv with h1 h2 h3
    subst h1; subst h3
    refine .inr ⟨g, _, cur, rfl, hb, hg, by omega, hx, hz, ?_⟩
    rw [← ht, List.take_take]
    congr 1
    omega
theorem own_one {w : World} {base e : Nat} {v : Value} {n : Nat} {xs : List Value} (h : w.ownsRow base e 1 v n xs) (hn : 0 < n) : ∃ g cap, v = .slice (some ⟨g, 0, none⟩) n cap ∧ n ≤ cap ∧ base ≤ g ∧ g < w.heap.size ∧ (∀ j, w.frozen? ⟨g, j, none⟩ = false) ∧ ∀ j, j < n → w.cell? ⟨g, j, none⟩ = xs[j]? := by
  rcases h.2 with ⟨_, h0⟩ | ⟨g, cap, cur, rfl, hb, hg, hc, hx, hz, ht⟩
  · omega
  · refine ⟨g, cap, rfl, hc, hb, (Array.getElem?_eq_some_iff.1 hg).1, fun j => by simp [World.frozen?, hg], fun j hj => ?_⟩
    rw [cell_of_row w g j cur e (0, 0) hg, ← ht, List.getElem?_take, if_pos (by omega)]
    simp
theorem i32L_len (l : List Int) : (i32L l).length = l.length := by simp [i32L]
theorem i64L_len (l : List Int) : (i64L l).length = l.length := by simp [i64L]
theorem i32L_take (l : List Int) (p : Nat) (hp : p ≤ l.length) : (i32L l).take (l.length - p) = i32L (l.drop p) := by
  unfold i32L
  rw [List.take_reverse, List.length_map, List.map_drop]
  congr 2; omega
theorem i64L_take (l : List Int) (p : Nat) (hp : p ≤ l.length) : (i64L l).take (l.length - p) = i64L (l.drop p) := by
  unfold i64L
  rw [List.take_reverse, List.length_map, List.map_drop]
  congr 2; omega
theorem i32L_at (l : List Int) (p : Nat) (hp : p < l.length) : (i32L l)[l.length - 1 - p]? = some (.int .i32 (l.getD p 0)) := by
  unfold i32L
  rw [List.getElem?_reverse (by simp; omega)]
  simp only [List.length_map, List.getElem?_map]
  rw [show l.length - 1 - (l.length - 1 - p) = p by omega, List.getElem?_eq_getElem hp]
  simp [List.getD, hp]
theorem i64L_at (l : List Int) (p : Nat) (hp : p < l.length) : (i64L l)[l.length - 1 - p]? = some (.int .i64 (l.getD p 0)) := by
  unfold i64L
  rw [List.getElem?_reverse (by simp; omega)]
  simp only [List.length_map, List.getElem?_map]
  rw [show l.length - 1 - (l.length - 1 - p) = p by omega, List.getElem?_eq_getElem hp]
  simp [List.getD, hp]
set_option maxRecDepth 100000 in
theorem doEnd_any {K : Rc} (hK : RcOk K) {dn : Int} {q : Sc} {S : List Int} {w : World} (h : RS K dn q S w) (v0 v1 : Value) (arg cnt lp to_ a b : Int) (R : Ending → World → Prop)
    (fin : ∀ w', RS K dn { q with ov := true } S w' → R (.returned (.tuple #[.int .i32 (0), .int .i64 (0)])) w') :
    Calls Tryz.prog 63 #[.pointer (some ⟨K.br, 0, none⟩), .agg #[v0, v1, .int .i64 arg, .int .i64 cnt, .int .i64 lp, .int .i64 to_], .int .i32 a, .int .i32 b] w R := by
  obtain ⟨sv, rv, hm, hs, hr⟩ := h.ex
  have hlt := hm.run.lt
  replace fin := hd fin
  replace h := hd h
  have c := hm.c117
  have f := hm.run.frozen 117
  clear hm hs hr
  go_enter Tryz.func63, Tryz.ntmps63
  go_wp2
  exact cl1 (fin.out _ ((h.out.setOv hK _).alloc hK _)) rfl
set_option maxRecDepth 100000 in
theorem doNum_any {K : Rc} (hK : RcOk K) {dn : Int} {q : Sc} {S : List Int} {w : World} (h : RS K dn q S w) (v0 v1 : Value) (arg cnt lp to_ a b : Int) (R : Ending → World → Prop)
    (fin : ∀ w', RS K dn q S w' → R (.returned (.tuple #[.int .i32 (wrap32 arg), .int .i64 (0)])) w') :
    Calls Tryz.prog 64 #[.pointer (some ⟨K.br, 0, none⟩), .agg #[v0, v1, .int .i64 arg, .int .i64 cnt, .int .i64 lp, .int .i64 to_], .int .i32 a, .int .i32 b] w R := by
  obtain ⟨sv, rv, hm, hs, hr⟩ := h.ex
  have hlt := hm.run.lt
  replace fin := hd fin
  replace h := hd h
  clear hm hs hr
  go_enter Tryz.func64, Tryz.ntmps64
  go_wp2
  exact cl1 (fin.out _ (h.out.alloc hK _)) rfl
set_option maxRecDepth 100000 in
theorem doJump_any {K : Rc} (hK : RcOk K) {dn : Int} {q : Sc} {S : List Int} {w : World} (h : RS K dn q S w) (v0 v1 : Value) (arg cnt lp to_ a b : Int) (R : Ending → World → Prop)
    (fin : ∀ w', RS K dn { q with nx := to_ } S w' → R (.returned (.tuple #[.int .i32 (0), .int .i64 (0)])) w') :
    Calls Tryz.prog 84 #[.pointer (some ⟨K.br, 0, none⟩), .agg #[v0, v1, .int .i64 arg, .int .i64 cnt, .int .i64 lp, .int .i64 to_], .int .i32 a, .int .i32 b] w R := by
  obtain ⟨sv, rv, hm, hs, hr⟩ := h.ex
  have hlt := hm.run.lt
  replace fin := hd fin
  replace h := hd h
  have c := hm.c115
  have f := hm.run.frozen 115
  clear hm hs hr
  go_enter Tryz.func84, Tryz.ntmps84
  go_wp2
  exact cl1 (fin.out _ ((h.out.setNx hK _).alloc hK _)) rfl
set_option maxRecDepth 100000 in
theorem doUnless_any {K : Rc} (hK : RcOk K) {dn : Int} {q : Sc} {S : List Int} {w : World} (h : RS K dn q S w) (v0 v1 : Value) (arg cnt lp to_ a b : Int) (R : Ending → World → Prop)
    (fin : ∀ w', RS K dn (if a = 0 then { q with nx := to_ } else q) S w' → R (.returned (.tuple #[.int .i32 (0), .int .i64 (0)])) w') :
    Calls Tryz.prog 85 #[.pointer (some ⟨K.br, 0, none⟩), .agg #[v0, v1, .int .i64 arg, .int .i64 cnt, .int .i64 lp, .int .i64 to_], .int .i32 a, .int .i32 b] w R := by
  obtain ⟨sv, rv, hm, hs, hr⟩ := h.ex
  have hlt := hm.run.lt
  replace fin := hd fin
  replace h := hd h
  have c := hm.c115
  have f := hm.run.frozen 115
  clear hm hs hr
  by_cases h0 : a = 0
  · have t0 : (a == 0) = true := by simpa using h0
    rw [if_pos h0] at fin
    go_enter Tryz.func85, Tryz.ntmps85
    go_wp2
    exact cl1 (fin.out _ ((h.out.setNx hK _).alloc hK _)) rfl
  · have t0 : (a == 0) = false := by simpa using h0
    rw [if_neg h0] at fin
    go_enter Tryz.func85, Tryz.ntmps85
    go_wp2
    exact cl1 (fin.out _ (h.out.alloc hK _)) rfl
set_option maxRecDepth 100000 in
theorem doGet_any {K : Rc} (hK : RcOk K) {dn : Int} {q : Sc} {S : List Int} {w : World} (h : RS K dn q S w) (v0 v1 : Value) (arg cnt lp to_ a b : Int) (c : Nat) (hc : arg = (c : Int)) (hcn : c < K.nC) (R : Ending → World → Prop)
    (fin : ∀ w', RS K dn q S w' → R (.returned (.tuple #[.int .i32 (q.C c), .int .i64 (0)])) w') :
    Calls Tryz.prog 65 #[.pointer (some ⟨K.br, 0, none⟩), .agg #[v0, v1, .int .i64 arg, .int .i64 cnt, .int .i64 lp, .int .i64 to_], .int .i32 a, .int .i32 b] w R := by
  obtain ⟨sv, rv, hm, hs, hr⟩ := h.ex
  have hlt := hm.run.lt
  replace fin := hd fin
  replace h := hd h
  subst hc
  have c0 := hm.c111
  have k2 := hm.cel.cell hcn (f := 2) (by omega)
  rw [cellV_2] at k2
  have hlc := hm.cel.lt
  have j1 : (0 : Int) ≤ (c : Int) := by omega
  have j2 : (c : Int) < (K.nC : Int) := by omega
  clear hm hs hr
  go_enter Tryz.func65, Tryz.ntmps65
  go_wp2_with (fail)
  go_quiet (fail)
  go_wp2
  exact cl1 (fin.out _ ((h.out.alloc hK _).below hK (below_drewN (Below.refl _ _) _))) rfl
set_option maxRecDepth 100000 in
theorem doSet_any {K : Rc} (hK : RcOk K) {dn : Int} {q : Sc} {S : List Int} {w : World} (h : RS K dn q S w) (v0 v1 : Value) (arg cnt lp to_ a b : Int) (c : Nat) (hc : arg = (c : Int)) (hcn : c < K.nC) (ha : in32 a) (R : Ending → World → Prop)
    (fin : ∀ w', RS K dn { q with C := upd q.C c (layK (K.kd c) a) } S w' → R (.returned (.tuple #[.int .i32 (0), .int .i64 (0)])) w') :
    Calls Tryz.prog 66 #[.pointer (some ⟨K.br, 0, none⟩), .agg #[v0, v1, .int .i64 arg, .int .i64 cnt, .int .i64 lp, .int .i64 to_], .int .i32 a, .int .i32 b] w R := by
  obtain ⟨sv, rv, hm, hs, hr⟩ := h.ex
  have hlt := hm.run.lt
  replace fin := hd fin
  replace h := hd h
  subst hc
  have c0 := hm.c111
  have k1 := hm.cel.cell hcn (f := 1) (by omega)
  rw [cellV_1] at k1
  have k2 := hm.cel.cell hcn (f := 2) (by omega)
  rw [cellV_2] at k2
  have kf := hm.cel.frozen (c * 3 + 2)
  have hlc := hm.cel.lt
  have nbc := hK.rc
  have j1 : (0 : Int) ≤ (c : Int) := by omega
  have j2 : (c : Int) < (K.nC : Int) := by omega
  clear hm hs hr
  have hw : IntKind.i64.wrap a = a := IntWalk.i64_in _ (by unfold in32 at ha; omega)
  go_enter Tryz.func66, Tryz.ntmps66
  go_wp2_with (fail)
  go_region_with (go_at_call 101; refine lay_any _ _ c (K.kd c) _ (q.C c) (by exact cell_al k1 _) (by exact cell_al k2 _) (by exact frozen_al kf hlc _) _ ?_)
  all_goals
    go_wp2
    exact cl1 (fin.out _ (((h.out.setC hK c _ (layK_in _ _)).alloc hK _).drew hK)) rfl
set_option maxRecDepth 100000 in
theorem doGetX_any {K : Rc} (hK : RcOk K) {dn : Int} {q : Sc} {S : List Int} {w : World} (h : RS K dn q S w) (v0 v1 : Value) (arg cnt lp to_ a b : Int) (c n : Nat) (hc : arg = (c : Int)) (hn : cnt = (n : Int)) (hcn : c + n ≤ K.nC) (ha : in32 a) (R : Ending → World → Prop)
    (fin : ∀ w', RS K dn q S w' → R (.returned (.tuple #[.int .i32 (if 0 ≤ a ∧ a < cnt then q.C (arg + a).toNat else 0), .int .i64 (if 0 ≤ a ∧ a < cnt then 0 else 5)])) w') :
    Calls Tryz.prog 67 #[.pointer (some ⟨K.br, 0, none⟩), .agg #[v0, v1, .int .i64 arg, .int .i64 cnt, .int .i64 lp, .int .i64 to_], .int .i32 a, .int .i32 b] w R := by
  obtain ⟨sv, rv, hm, hs, hr⟩ := h.ex
  have hlt := hm.run.lt
  replace fin := hd fin
  replace h := hd h
  subst hc
  subst hn
  have hw : IntKind.i64.wrap a = a := IntWalk.i64_in _ (by unfold in32 at ha; omega)
  have c0 := hm.c111
  have hlc := hm.cel.lt
  by_cases hi : 0 ≤ a ∧ a < (n : Int)
  · rw [if_pos hi, if_pos hi] at fin
    have dt : decide (0 ≤ a ∧ a < (n : Int)) = true := by simpa using hi
    obtain ⟨k, rfl⟩ := Int.eq_ofNat_of_zero_le hi.1
    have hck : c + k < K.nC := by omega
    have e : ((c : Int) + (k : Int)).toNat = c + k := by omega
    rw [e] at fin
    have k1 := hm.cel.cell hck (f := 1) (by omega)
    rw [cellV_1] at k1
    have k2 := hm.cel.cell hck (f := 2) (by omega)
    rw [cellV_2] at k2
    have kf := hm.cel.frozen ((c + k) * 3 + 2)
    have j1 : 0 ≤ (c : Int) + (k : Int) ∧ (c : Int) + (k : Int) < (K.nC : Int) := by omega
    have j2 : (c : Int) + (k : Int) < (K.nC : Int) := by omega
    have hwc : IntKind.i64.wrap ((c : Int) + (k : Int)) = (c : Int) + (k : Int) := IntWalk.i64_in _ (by have := hK.nC; omega)
    replace e := hd e
    clear hm hs hr
    go_enter Tryz.func67, Tryz.ntmps67
    go_wp2_with (fail)
    refine hasIndex_any _ _ _ _ _ _ _ _ ha _ ?_
    intro w1 hb1
    rw [dt]
    have s2 : (w.alloc (Obj.cells #[v0, v1, .int .i64 (c : Int), .int .i64 (n : Int), .int .i64 lp, .int .i64 to_] 121)).cell? ⟨w.heap.size, 2, none⟩ = some (.int .i64 (c : Int)) := (cell_of_row _ _ 2 _ _ (0, 0) (heap_alloc_new w _)).trans rfl
    have h1 := h.out.below hK (((Below.refl _ _).alloc (Nat.le_refl _) (Obj.cells #[v0, v1, .int .i64 (c : Int), .int .i64 (n : Int), .int .i64 lp, .int .i64 to_] 121)).trans (hb1.mono (by simp)))
    replace c0 := (hb1.cell (p := ⟨K.br, 111, none⟩) (by simp; omega)).trans (cell_al c0 _)
    replace k1 := (hb1.cell (p := ⟨K.bc, (c + k) * 3 + 1, none⟩) (by simp; omega)).trans (cell_al k1 _)
    replace k2 := (hb1.cell (p := ⟨K.bc, (c + k) * 3 + 2, none⟩) (by simp; omega)).trans (cell_al k2 _)
    replace kf := (hb1.frozen (p := ⟨K.bc, (c + k) * 3 + 2, none⟩) (by simp; omega)).trans (frozen_al kf hlc _)
    replace s2 := (hb1.cell (p := ⟨w.heap.size, 2, none⟩) (by simp)).trans s2
    have hsz := hb1.size
    simp only [World.size_alloc] at hsz
    generalize w.heap.size = g5 at *
    replace h1 := hd h1
    clear hb1
    clear kf k1
    go_wp2_with (fail)
    go_quiet (fail)
    go_wp2
    exact cl1 (fin.out _ (h1.out.below hK (below_drewN (Below.refl _ _) _))) rfl
  · rw [if_neg hi, if_neg hi] at fin
    have dt : decide (0 ≤ a ∧ a < (n : Int)) = false := by simpa using hi
    clear hm hs hr
    go_enter Tryz.func67, Tryz.ntmps67
    go_wp2_with (fail)
    refine hasIndex_any _ _ _ _ _ _ _ _ ha _ ?_
    intro w1 hb1
    rw [dt]
    have h1 := hd (h.out.below hK (((Below.refl _ _).alloc (Nat.le_refl _) _).trans (hb1.mono (by simp))))
    clear hb1
    go_wp2
    exact cl1 (fin.out _ h1.out) rfl
set_option maxRecDepth 100000 in
theorem doSetX_any {K : Rc} (hK : RcOk K) {dn : Int} {q : Sc} {S : List Int} {w : World} (h : RS K dn q S w) (v0 v1 : Value) (arg cnt lp to_ a b : Int) (c n : Nat) (hc : arg = (c : Int)) (hn : cnt = (n : Int)) (hcn : c + n ≤ K.nC) (ha : in32 a) (hb : in32 b) (R : Ending → World → Prop)
    (fin : ∀ w', RS K dn (if 0 ≤ a ∧ a < cnt then { q with C := upd q.C (arg + a).toNat (layK (K.kd (arg + a).toNat) b) } else q) S w' → R (.returned (.tuple #[.int .i32 (0), .int .i64 (if 0 ≤ a ∧ a < cnt then 0 else 5)])) w') :
    Calls Tryz.prog 68 #[.pointer (some ⟨K.br, 0, none⟩), .agg #[v0, v1, .int .i64 arg, .int .i64 cnt, .int .i64 lp, .int .i64 to_], .int .i32 a, .int .i32 b] w R := by
  obtain ⟨sv, rv, hm, hs, hr⟩ := h.ex
  have hlt := hm.run.lt
  replace fin := hd fin
  replace h := hd h
  subst hc
  subst hn
  have hw : IntKind.i64.wrap a = a := IntWalk.i64_in _ (by unfold in32 at ha; omega)
  have c0 := hm.c111
  have hlc := hm.cel.lt
  by_cases hi : 0 ≤ a ∧ a < (n : Int)
  · rw [if_pos hi, if_pos hi] at fin
    have dt : decide (0 ≤ a ∧ a < (n : Int)) = true := by simpa using hi
    obtain ⟨k, rfl⟩ := Int.eq_ofNat_of_zero_le hi.1
    have hck : c + k < K.nC := by omega
    have e : ((c : Int) + (k : Int)).toNat = c + k := by omega
    rw [e] at fin
    have k1 := hm.cel.cell hck (f := 1) (by omega)
    rw [cellV_1] at k1
    have k2 := hm.cel.cell hck (f := 2) (by omega)
    rw [cellV_2] at k2
    have kf := hm.cel.frozen ((c + k) * 3 + 2)
    have j1 : 0 ≤ (c : Int) + (k : Int) ∧ (c : Int) + (k : Int) < (K.nC : Int) := by omega
    have j2 : (c : Int) + (k : Int) < (K.nC : Int) := by omega
    have hwc : IntKind.i64.wrap ((c : Int) + (k : Int)) = (c : Int) + (k : Int) := IntWalk.i64_in _ (by have := hK.nC; omega)
    replace e := hd e
    clear hm hs hr
    go_enter Tryz.func68, Tryz.ntmps68
    go_wp2_with (fail)
    refine hasIndex_any _ _ _ _ _ _ _ _ ha _ ?_
    intro w1 hb1
    rw [dt]
    have s2 : (w.alloc (Obj.cells #[v0, v1, .int .i64 (c : Int), .int .i64 (n : Int), .int .i64 lp, .int .i64 to_] 121)).cell? ⟨w.heap.size, 2, none⟩ = some (.int .i64 (c : Int)) := (cell_of_row _ _ 2 _ _ (0, 0) (heap_alloc_new w _)).trans rfl
    have h1 := h.out.below hK (((Below.refl _ _).alloc (Nat.le_refl _) (Obj.cells #[v0, v1, .int .i64 (c : Int), .int .i64 (n : Int), .int .i64 lp, .int .i64 to_] 121)).trans (hb1.mono (by simp)))
    replace c0 := (hb1.cell (p := ⟨K.br, 111, none⟩) (by simp; omega)).trans (cell_al c0 _)
    replace k1 := (hb1.cell (p := ⟨K.bc, (c + k) * 3 + 1, none⟩) (by simp; omega)).trans (cell_al k1 _)
    replace k2 := (hb1.cell (p := ⟨K.bc, (c + k) * 3 + 2, none⟩) (by simp; omega)).trans (cell_al k2 _)
    replace kf := (hb1.frozen (p := ⟨K.bc, (c + k) * 3 + 2, none⟩) (by simp; omega)).trans (frozen_al kf hlc _)
    replace s2 := (hb1.cell (p := ⟨w.heap.size, 2, none⟩) (by simp)).trans s2
    have hsz := hb1.size
    simp only [World.size_alloc] at hsz
    generalize w.heap.size = g5 at *
    replace h1 := hd h1
    clear hb1
    have hwb : IntKind.i64.wrap b = b := IntWalk.i64_in _ (by unfold in32 at hb; omega)
    go_wp2_with (fail)
    go_region_with (go_at_call 101; refine lay_any _ _ (c + k) (K.kd (c + k)) _ (q.C (c + k)) (by exact k1) (by exact k2) (by exact kf) _ ?_)
    all_goals
      go_wp2
      exact cl1 (fin.out _ ((h1.out.setC hK (c + k) _ (layK_in _ _)).drew hK)) rfl
  · rw [if_neg hi, if_neg hi] at fin
    have dt : decide (0 ≤ a ∧ a < (n : Int)) = false := by simpa using hi
    clear hm hs hr
    go_enter Tryz.func68, Tryz.ntmps68
    go_wp2_with (fail)
    refine hasIndex_any _ _ _ _ _ _ _ _ ha _ ?_
    intro w1 hb1
    rw [dt]
    have h1 := hd (h.out.below hK (((Below.refl _ _).alloc (Nat.le_refl _) _).trans (hb1.mono (by simp))))
    clear hb1
    go_wp2
    exact cl1 (fin.out _ h1.out) rfl

end Go.Proofs.YtidhiaaicmfabaaGreat
