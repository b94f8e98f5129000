/- The contract of the machine's table of instructions. -/
import Derived.Test.YtidhiaaicmfabaaGreatDoorMem
import Derived.Test.YtidhiaaicmfabaaGreatDoorSpec
import Derived.Test.YtidhiaaicmfabaaGreatDoorRefA
import Derived.Test.YtidhiaaicmfabaaGreatDoorRefC
import Derived.Test.YtidhiaaicmfabaaGreatDoorSpec2
import Derived.WalkKit
import Derived.WalkSpells
import Derived.WalkLawsBesides
import Derived.Deep.OwnRows
import Derived.BigQuiet
import Derived.Handy
import Derived.Deep.Light
import Derived.Deep.RegionHeld3
import Derived.Deep.RegionWith
import Derived.Test.YtidhiaaicmfabaaGreatDoorVmA
namespace Go.Proofs.YtidhiaaicmfabaaGreatDoor
open Go.RowKit Go.Proofs Go.Deep

theorem bel_step {B : Nat} {w1 wc w' : World} (h : Below B w1 wc) (hB : B ≤ w1.heap.size) (hx : Below wc.heap.size wc w') : Below B w1 w' := h.trans (hx.mono (Nat.le_trans hB h.size))
structure Halt (p : Prop) : Prop where
  go : p
theorem stopAt {P : Program} {ops : Array Oper} {Q : Exit → Act → World → Prop} {rest : List Oper} {o : Oper} {a : Act} {w : World} (k : Nat) (_h : o.dst = some k) (h : Halt (wpList P ops Q (o :: rest) a w)) : wpList P ops Q (o :: rest) a w := h.go
theorem reckoned_any (w : World) (f : Fn) (R : Ending → World → Prop) (fin : ∀ p w', Below w.heap.size w w' → R (.returned (.func (.func 214) #[] p)) w') :
    Calls Tryz.prog 162 #[.func f #[] #[]] w R := by
  replace fin := hd fin
  go_enter Tryz.func162, Tryz.ntmps162
  go_wp2
  exact cl1 (fin.out _ _ (by repeat (first | with_reducible exact Below.refl _ _ | with_reducible refine below_drewN ?_ _ | with_reducible refine Below.drew ?_ | with_reducible refine Below.alloc ?_ (by simp) _ | with_reducible refine Below.setCell ?_ (by simp) _))) rfl
theorem divided_any (w : World) (f : Fn) (R : Ending → World → Prop) (fin : ∀ p w', Below w.heap.size w w' → R (.returned (.func (.func 215) #[] p)) w') :
    Calls Tryz.prog 166 #[.func f #[] #[]] w R := by
  replace fin := hd fin
  go_enter Tryz.func166, Tryz.ntmps166
  go_wp2
  exact cl1 (fin.out _ _ (by repeat (first | with_reducible exact Below.refl _ _ | with_reducible refine below_drewN ?_ _ | with_reducible refine Below.drew ?_ | with_reducible refine Below.alloc ?_ (by simp) _ | with_reducible refine Below.setCell ?_ (by simp) _))) rfl
theorem run_build_row (nm : ByteArray) (o : Int) (p q : Int) (g : Fn) (cp : Array Value) (w : World) : (Instr.build 211 #[(0, .string nm), (1, .int .u8 o), (2, .int .i64 p), (3, .int .i64 q), (4, .func g #[] cp)]).run Tryz.prog w = .ok (.agg #[.string nm, .int .u8 o, .int .i64 p, .int .i64 q, .func g #[] cp]) w := by
  simp [go_sem]
def IsRow (v : Value) (nm : ByteArray) (o p q : Int) (f : Value) : Prop := v = .agg #[.string nm, .int .u8 o, .int .i64 p, .int .i64 q, f]
theorem wpList_row {ops : Array Oper} {rest : List Oper} {o : Oper} {a : Act} {w : World} {Q : Exit → Act → World → Prop} (hgd : o.guard = none) (nm : ByteArray) (x p q : Int) (y : Operand) (g : Fn) (cp : Array Value)
    (ho : o.op = .build 211 #[(0, .const (.string nm)), (1, .const (.int .u8 x)), (2, .const (.int .i64 p)), (3, .const (.int .i64 q)), (4, y)]) (hy : a.eval y = .func g #[] cp)
    (h : ∀ r, Hid (IsRow r nm x p q (.func g #[] cp)) → wpList Tryz.prog ops Q rest (a.put o.dst r) w) : wpList Tryz.prog ops Q (o :: rest) a w := by
  refine wpList_plain hgd fun _ hK => ?_
  have h1 := run_build_row nm x p q g cp w
  have h2 : (#[(0, Operand.const (.string nm)), (1, .const (.int .u8 x)), (2, .const (.int .i64 p)), (3, .const (.int .i64 q)), (4, y)] : Array (Nat × Operand)).map (fun (i, x) => (i, a.eval x)) = #[(0, .string nm), (1, .int .u8 x), (2, .int .i64 p), (3, .int .i64 q), (4, .func g #[] cp)] := by
    rw [← hy]; simp [Act.eval]
  unfold Oper.wp execOp
  simp only [ho, h2, Sem.run_bind, h1, Result.andThen_ok, Sem.run_pure]
  exact hK _ _ (h _ rfl)

def tabC (fv : Nat → Value) : Array Value :=
  #[Value.string ⟨#[69, 78, 68]⟩, .int .u8 0, .int .i64 0, .int .i64 0, fv 0,
    Value.string ⟨#[78, 85, 77]⟩, .int .u8 1, .int .i64 0, .int .i64 1, fv 1,
    Value.string ⟨#[71, 69, 84]⟩, .int .u8 2, .int .i64 0, .int .i64 1, fv 2,
    Value.string ⟨#[83, 69, 84]⟩, .int .u8 2, .int .i64 1, .int .i64 0, fv 3,
    Value.string ⟨#[71, 69, 84, 88]⟩, .int .u8 3, .int .i64 1, .int .i64 1, fv 4,
    Value.string ⟨#[83, 69, 84, 88]⟩, .int .u8 3, .int .i64 2, .int .i64 0, fv 5,
    Value.string ⟨#[65, 68, 68]⟩, .int .u8 0, .int .i64 2, .int .i64 1, fv 6,
    Value.string ⟨#[83, 85, 66]⟩, .int .u8 0, .int .i64 2, .int .i64 1, fv 7,
    Value.string ⟨#[77, 85, 76]⟩, .int .u8 0, .int .i64 2, .int .i64 1, fv 8,
    Value.string ⟨#[68, 73, 86]⟩, .int .u8 0, .int .i64 2, .int .i64 1, fv 9,
    Value.string ⟨#[77, 79, 68]⟩, .int .u8 0, .int .i64 2, .int .i64 1, fv 10,
    Value.string ⟨#[69, 81]⟩, .int .u8 0, .int .i64 2, .int .i64 1, fv 11,
    Value.string ⟨#[76, 84]⟩, .int .u8 0, .int .i64 2, .int .i64 1, fv 12,
    Value.string ⟨#[78, 79, 84]⟩, .int .u8 0, .int .i64 1, .int .i64 1, fv 13,
    Value.string ⟨#[65, 78, 68]⟩, .int .u8 0, .int .i64 2, .int .i64 1, fv 14,
    Value.string ⟨#[79, 82]⟩, .int .u8 0, .int .i64 2, .int .i64 1, fv 15,
    Value.string ⟨#[83, 72, 79, 82, 84]⟩, .int .u8 0, .int .i64 1, .int .i64 1, fv 16,
    Value.string ⟨#[74, 85, 77, 80]⟩, .int .u8 4, .int .i64 0, .int .i64 0, fv 17,
    Value.string ⟨#[85, 78, 76, 69, 83, 83]⟩, .int .u8 4, .int .i64 1, .int .i64 0, fv 18,
    Value.string ⟨#[70, 79, 82]⟩, .int .u8 5, .int .i64 0, .int .i64 0, fv 19,
    Value.string ⟨#[78, 69, 88, 84]⟩, .int .u8 0, .int .i64 0, .int .i64 0, fv 20,
    Value.string ⟨#[84, 73, 77, 69, 82]⟩, .int .u8 2, .int .i64 2, .int .i64 1, fv 21]
def opnd (op : Nat) : Nat := if op = 1 then 1 else if op = 2 ∨ op = 3 ∨ op = 21 then 2 else if op = 4 ∨ op = 5 then 3 else if op = 17 ∨ op = 18 then 4 else if op = 19 then 5 else 0

theorem run_build_tab (g0 g1 g2 g3 g4 g5 g6 g7 g8 g9 g10 g11 g12 g13 g14 g15 g16 g17 g18 g19 g20 g21 : Fn) (c0 c1 c2 c3 c4 c5 c6 c7 c8 c9 c10 c11 c12 c13 c14 c15 c16 c17 c18 c19 c20 c21 : Array Value) (w : World) : (Instr.build 212 #[(0, .agg #[Value.string ⟨#[69, 78, 68]⟩, .int .u8 0, .int .i64 0, .int .i64 0, .func g0 #[] c0]),
      (1, .agg #[Value.string ⟨#[78, 85, 77]⟩, .int .u8 1, .int .i64 0, .int .i64 1, .func g1 #[] c1]),
      (2, .agg #[Value.string ⟨#[71, 69, 84]⟩, .int .u8 2, .int .i64 0, .int .i64 1, .func g2 #[] c2]),
      (3, .agg #[Value.string ⟨#[83, 69, 84]⟩, .int .u8 2, .int .i64 1, .int .i64 0, .func g3 #[] c3]),
      (4, .agg #[Value.string ⟨#[71, 69, 84, 88]⟩, .int .u8 3, .int .i64 1, .int .i64 1, .func g4 #[] c4]),
      (5, .agg #[Value.string ⟨#[83, 69, 84, 88]⟩, .int .u8 3, .int .i64 2, .int .i64 0, .func g5 #[] c5]),
      (6, .agg #[Value.string ⟨#[65, 68, 68]⟩, .int .u8 0, .int .i64 2, .int .i64 1, .func g6 #[] c6]),
      (7, .agg #[Value.string ⟨#[83, 85, 66]⟩, .int .u8 0, .int .i64 2, .int .i64 1, .func g7 #[] c7]),
      (8, .agg #[Value.string ⟨#[77, 85, 76]⟩, .int .u8 0, .int .i64 2, .int .i64 1, .func g8 #[] c8]),
      (9, .agg #[Value.string ⟨#[68, 73, 86]⟩, .int .u8 0, .int .i64 2, .int .i64 1, .func g9 #[] c9]),
      (10, .agg #[Value.string ⟨#[77, 79, 68]⟩, .int .u8 0, .int .i64 2, .int .i64 1, .func g10 #[] c10]),
      (11, .agg #[Value.string ⟨#[69, 81]⟩, .int .u8 0, .int .i64 2, .int .i64 1, .func g11 #[] c11]),
      (12, .agg #[Value.string ⟨#[76, 84]⟩, .int .u8 0, .int .i64 2, .int .i64 1, .func g12 #[] c12]),
      (13, .agg #[Value.string ⟨#[78, 79, 84]⟩, .int .u8 0, .int .i64 1, .int .i64 1, .func g13 #[] c13]),
      (14, .agg #[Value.string ⟨#[65, 78, 68]⟩, .int .u8 0, .int .i64 2, .int .i64 1, .func g14 #[] c14]),
      (15, .agg #[Value.string ⟨#[79, 82]⟩, .int .u8 0, .int .i64 2, .int .i64 1, .func g15 #[] c15]),
      (16, .agg #[Value.string ⟨#[83, 72, 79, 82, 84]⟩, .int .u8 0, .int .i64 1, .int .i64 1, .func g16 #[] c16]),
      (17, .agg #[Value.string ⟨#[74, 85, 77, 80]⟩, .int .u8 4, .int .i64 0, .int .i64 0, .func g17 #[] c17]),
      (18, .agg #[Value.string ⟨#[85, 78, 76, 69, 83, 83]⟩, .int .u8 4, .int .i64 1, .int .i64 0, .func g18 #[] c18]),
      (19, .agg #[Value.string ⟨#[70, 79, 82]⟩, .int .u8 5, .int .i64 0, .int .i64 0, .func g19 #[] c19]),
      (20, .agg #[Value.string ⟨#[78, 69, 88, 84]⟩, .int .u8 0, .int .i64 0, .int .i64 0, .func g20 #[] c20]),
      (21, .agg #[Value.string ⟨#[84, 73, 77, 69, 82]⟩, .int .u8 2, .int .i64 2, .int .i64 1, .func g21 #[] c21])]).run Tryz.prog w = .ok (.agg (tabC (fun i => [Value.func g0 #[] c0, Value.func g1 #[] c1, Value.func g2 #[] c2, Value.func g3 #[] c3, Value.func g4 #[] c4, Value.func g5 #[] c5, Value.func g6 #[] c6, Value.func g7 #[] c7, Value.func g8 #[] c8, Value.func g9 #[] c9, Value.func g10 #[] c10, Value.func g11 #[] c11, Value.func g12 #[] c12, Value.func g13 #[] c13, Value.func g14 #[] c14, Value.func g15 #[] c15, Value.func g16 #[] c16, Value.func g17 #[] c17, Value.func g18 #[] c18, Value.func g19 #[] c19, Value.func g20 #[] c20, Value.func g21 #[] c21].getD i undef))) w := by
  kernel_rfl
theorem wpList_build {P : Program} {ops : Array Oper} {rest : List Oper} {o : Oper} {a : Act} {w : World} {Q : Exit → Act → World → Prop} (hgd : o.guard = none) (t : TypeId) (parts : Array (Nat × Operand))
    (ho : o.op = .build t parts) (vs : Array (Nat × Value)) (hvs : parts.map (fun (i, x) => (i, a.eval x)) = vs) (v : Value) (hrun : (Instr.build t vs).run P w = .ok v w)
    (h : wpList P ops Q rest (a.put o.dst v) w) : wpList P ops Q (o :: rest) a w := by
  refine wpList_plain hgd fun _ hK => ?_
  unfold Oper.wp execOp
  simp only [ho, hvs, Sem.run_bind, hrun, Result.andThen_ok, Sem.run_pure]
  exact hK _ _ h
def TabOk (cs : Array Value) : Prop := cs.size = 110 ∧ cs.all (·.oneCell') = true ∧ ∃ (nm : Nat → ByteArray) (fv : Nat → Value), ∀ op, op < 22 →
  cs[op * 5]? = some (.string (nm op)) ∧ cs[op * 5 + 1]? = some (.int .u8 (opnd op : Nat)) ∧ cs[op * 5 + 2]? = some (.int .i64 (popsOf op : Nat)) ∧ cs[op * 5 + 3]? = some (.int .i64 (pushesOf op : Nat)) ∧ cs[op * 5 + 4]? = some (fv op) ∧ ∃ g c, fv op = .func g #[] c
theorem tabC_ok (fv : Nat → Value) (hf : ∀ i, i < 22 → ∃ g c, fv i = .func g #[] c) : TabOk (tabC fv) := by
  have h : ∀ i, i < 22 → (fv i).oneCell' = true := fun i hi => by obtain ⟨g, c, e⟩ := hf i hi; rw [e]; rfl
  refine ⟨rfl, ?_, fun i => ([⟨#[69, 78, 68]⟩, ⟨#[78, 85, 77]⟩, ⟨#[71, 69, 84]⟩, ⟨#[83, 69, 84]⟩, ⟨#[71, 69, 84, 88]⟩, ⟨#[83, 69, 84, 88]⟩, ⟨#[65, 68, 68]⟩, ⟨#[83, 85, 66]⟩, ⟨#[77, 85, 76]⟩, ⟨#[68, 73, 86]⟩, ⟨#[77, 79, 68]⟩, ⟨#[69, 81]⟩, ⟨#[76, 84]⟩, ⟨#[78, 79, 84]⟩, ⟨#[65, 78, 68]⟩, ⟨#[79, 82]⟩, ⟨#[83, 72, 79, 82, 84]⟩, ⟨#[74, 85, 77, 80]⟩, ⟨#[85, 78, 76, 69, 83, 83]⟩, ⟨#[70, 79, 82]⟩, ⟨#[78, 69, 88, 84]⟩, ⟨#[84, 73, 77, 69, 82]⟩] : List ByteArray).getD i ⟨#[]⟩, fv, fun op hop => ?_⟩
  · have e1 : ∀ s, (Value.string s).oneCell' = true := fun _ => rfl
    have e2 : ∀ k x, (Value.int k x).oneCell' = true := fun _ _ => rfl
    simp [tabC, e1, e2, h]
  · have hc : op = 0 ∨ op = 1 ∨ op = 2 ∨ op = 3 ∨ op = 4 ∨ op = 5 ∨ op = 6 ∨ op = 7 ∨ op = 8 ∨ op = 9 ∨ op = 10 ∨ op = 11 ∨ op = 12 ∨ op = 13 ∨ op = 14 ∨ op = 15 ∨ op = 16 ∨ op = 17 ∨ op = 18 ∨ op = 19 ∨ op = 20 ∨ op = 21 := by omega
    rcases hc with rfl | rfl | rfl | rfl | rfl | rfl | rfl | rfl | rfl | rfl | rfl | rfl | rfl | rfl | rfl | rfl | rfl | rfl | rfl | rfl | rfl | rfl <;> exact ⟨rfl, rfl, rfl, rfl, rfl, hf _ (by omega)⟩
theorem there_of_block {w : World} {g T n : Nat} {cs : Array Value} (hg : w.heap[g]? = some (.cells cs T (0, 0))) (hn : cs.size = n) : w.there g 0 n := by
  intro j hj
  rw [Nat.zero_add, cell_of_row w g j cs T (0, 0) hg]
  exact ⟨by simp; omega, by simp [World.frozen?, hg]⟩
theorem fv_fn {l : List Value} (h : ∀ v ∈ l, ∃ g c, v = .func g #[] c) (i : Nat) (hi : i < l.length) : ∃ g c, l.getD i undef = .func g #[] c := by
  rw [List.getD_eq_getElem?_getD, List.getElem?_eq_getElem hi]
  exact h _ (List.getElem_mem hi)
theorem wpList_tab {ops : Array Oper} {rest : List Oper} {o : Oper} {a : Act} {w : World} {Q : Exit → Act → World → Prop} (hgd : o.guard = none) (parts : Array (Nat × Operand))
    (ho : o.op = .build 212 parts) (g0 g1 g2 g3 g4 g5 g6 g7 g8 g9 g10 g11 g12 g13 g14 g15 g16 g17 g18 g19 g20 g21 : Fn) (c0 c1 c2 c3 c4 c5 c6 c7 c8 c9 c10 c11 c12 c13 c14 c15 c16 c17 c18 c19 c20 c21 : Array Value) (hvs : parts.map (fun (i, x) => (i, a.eval x)) = #[(0, .agg #[Value.string ⟨#[69, 78, 68]⟩, .int .u8 0, .int .i64 0, .int .i64 0, .func g0 #[] c0]),
      (1, .agg #[Value.string ⟨#[78, 85, 77]⟩, .int .u8 1, .int .i64 0, .int .i64 1, .func g1 #[] c1]),
      (2, .agg #[Value.string ⟨#[71, 69, 84]⟩, .int .u8 2, .int .i64 0, .int .i64 1, .func g2 #[] c2]),
      (3, .agg #[Value.string ⟨#[83, 69, 84]⟩, .int .u8 2, .int .i64 1, .int .i64 0, .func g3 #[] c3]),
      (4, .agg #[Value.string ⟨#[71, 69, 84, 88]⟩, .int .u8 3, .int .i64 1, .int .i64 1, .func g4 #[] c4]),
      (5, .agg #[Value.string ⟨#[83, 69, 84, 88]⟩, .int .u8 3, .int .i64 2, .int .i64 0, .func g5 #[] c5]),
      (6, .agg #[Value.string ⟨#[65, 68, 68]⟩, .int .u8 0, .int .i64 2, .int .i64 1, .func g6 #[] c6]),
      (7, .agg #[Value.string ⟨#[83, 85, 66]⟩, .int .u8 0, .int .i64 2, .int .i64 1, .func g7 #[] c7]),
      (8, .agg #[Value.string ⟨#[77, 85, 76]⟩, .int .u8 0, .int .i64 2, .int .i64 1, .func g8 #[] c8]),
      (9, .agg #[Value.string ⟨#[68, 73, 86]⟩, .int .u8 0, .int .i64 2, .int .i64 1, .func g9 #[] c9]),
      (10, .agg #[Value.string ⟨#[77, 79, 68]⟩, .int .u8 0, .int .i64 2, .int .i64 1, .func g10 #[] c10]),
      (11, .agg #[Value.string ⟨#[69, 81]⟩, .int .u8 0, .int .i64 2, .int .i64 1, .func g11 #[] c11]),
      (12, .agg #[Value.string ⟨#[76, 84]⟩, .int .u8 0, .int .i64 2, .int .i64 1, .func g12 #[] c12]),
      (13, .agg #[Value.string ⟨#[78, 79, 84]⟩, .int .u8 0, .int .i64 1, .int .i64 1, .func g13 #[] c13]),
      (14, .agg #[Value.string ⟨#[65, 78, 68]⟩, .int .u8 0, .int .i64 2, .int .i64 1, .func g14 #[] c14]),
      (15, .agg #[Value.string ⟨#[79, 82]⟩, .int .u8 0, .int .i64 2, .int .i64 1, .func g15 #[] c15]),
      (16, .agg #[Value.string ⟨#[83, 72, 79, 82, 84]⟩, .int .u8 0, .int .i64 1, .int .i64 1, .func g16 #[] c16]),
      (17, .agg #[Value.string ⟨#[74, 85, 77, 80]⟩, .int .u8 4, .int .i64 0, .int .i64 0, .func g17 #[] c17]),
      (18, .agg #[Value.string ⟨#[85, 78, 76, 69, 83, 83]⟩, .int .u8 4, .int .i64 1, .int .i64 0, .func g18 #[] c18]),
      (19, .agg #[Value.string ⟨#[70, 79, 82]⟩, .int .u8 5, .int .i64 0, .int .i64 0, .func g19 #[] c19]),
      (20, .agg #[Value.string ⟨#[78, 69, 88, 84]⟩, .int .u8 0, .int .i64 0, .int .i64 0, .func g20 #[] c20]),
      (21, .agg #[Value.string ⟨#[84, 73, 77, 69, 82]⟩, .int .u8 2, .int .i64 2, .int .i64 1, .func g21 #[] c21])])
    (h : ∀ fv : Nat → Value, (∀ i, i < 22 → ∃ g c, fv i = .func g #[] c) → wpList Tryz.prog ops Q rest (a.put o.dst (.agg (tabC fv))) w) : wpList Tryz.prog ops Q (o :: rest) a w :=
  wpList_build hgd 212 parts ho _ hvs _ (run_build_tab g0 g1 g2 g3 g4 g5 g6 g7 g8 g9 g10 g11 g12 g13 g14 g15 g16 g17 g18 g19 g20 g21 c0 c1 c2 c3 c4 c5 c6 c7 c8 c9 c10 c11 c12 c13 c14 c15 c16 c17 c18 c19 c20 c21 w) (h _ (fun i hi => fv_fn (l := [Value.func g0 #[] c0, Value.func g1 #[] c1, Value.func g2 #[] c2, Value.func g3 #[] c3, Value.func g4 #[] c4, Value.func g5 #[] c5, Value.func g6 #[] c6, Value.func g7 #[] c7, Value.func g8 #[] c8, Value.func g9 #[] c9, Value.func g10 #[] c10, Value.func g11 #[] c11, Value.func g12 #[] c12, Value.func g13 #[] c13, Value.func g14 #[] c14, Value.func g15 #[] c15, Value.func g16 #[] c16, Value.func g17 #[] c17, Value.func g18 #[] c18, Value.func g19 #[] c19, Value.func g20 #[] c20, Value.func g21 #[] c21]) (by intro v hv; simp only [List.mem_cons, List.not_mem_nil, or_false] at hv; rcases hv with rfl | rfl | rfl | rfl | rfl | rfl | rfl | rfl | rfl | rfl | rfl | rfl | rfl | rfl | rfl | rfl | rfl | rfl | rfl | rfl | rfl | rfl <;> exact ⟨_, _, rfl⟩) i hi))
theorem below_setCells {B b : Nat} {w : World} (hb : B ≤ b) : ∀ (vs : List Value) (o : Nat) (wx : World), Below B w wx → Below B w (wx.setCells b o vs)
  | [], _, _, h => h
  | v :: r, o, wx, h => by
    rw [World.setCells]
    exact below_setCells hb r (o + 1) _ (h.setCell hb v)
/-- A result that lies in a cell of its own, by its range. -/
theorem ret_range {fn : Func} {R : Ending → World → Prop} {a : Act} {w : World} {p : Tmp} {ty n : Nat} (h : fn.results = #[.cell p ty]) (hrow : (Tryz.prog.underlying ty).map TypeDesc.isRow = some true) (hi : (Tryz.prog.info? ty).map (·.size) = some n)
    (g : Nat) (cs : Array Value) (hn : cs.size = n) (hp : a.tmps.getD p undef = .pointer (some ⟨g, 0, none⟩)) (hg : w.rangeAt g 0 cs.toList) (hd : a.defers = []) (hR : R (.returned (.agg cs)) w) : bodyPost Tryz.prog fn R .ret a w := by
  obtain ⟨d, h1, h2⟩ := Option.map_eq_some_iff.1 hrow
  have hl := run_loadVar_mid w g 0 ty cs.toList d hg h1 h2 (by rw [hi, ← hn]; simp)
  refine bodyPost_ret ?_ hd hR
  have hp' : a.tmps[p]?.getD undef = .pointer (some ⟨g, 0, none⟩) := by simpa using hp
  simp [results, h, hp', asAddr, hl]
theorem rowTab : (Tryz.prog.underlying 212).map TypeDesc.isRow = some true := by kernel_rfl
theorem infoTab : (Tryz.prog.info? 212).map (·.size) = some 110 := by kernel_rfl
set_option maxRecDepth 100000 in
set_option maxHeartbeats 4000000 in
theorem table_fv (w : World) (R : Ending → World → Prop) (fin : ∀ fv w', (∀ i, i < 22 → ∃ g c, fv i = .func g #[] c) → Below w.heap.size w w' → R (.returned (.agg (tabC fv))) w') :
    Calls Tryz.prog 108 #[] w R := by
  replace fin := hd fin
  have hbel : Hid (Below (w.heap.size + 1) (w.alloc (Obj.cells Tryz.zeroCells212 212)) (w.alloc (Obj.cells Tryz.zeroCells212 212))) := hd (Below.refl _ _)
  go_enter Tryz.func108, Tryz.ntmps108
  go_wp2_with (first | (go_at_call 162; refine reckoned_any _ _ _ ?_; intro p wx hx; replace hbel := hd (bel_step hbel.out (by simp) hx); clear hx) | (go_at_call 166; refine divided_any _ _ _ ?_; intro p wx hx; replace hbel := hd (bel_step hbel.out (by simp) hx); clear hx) | (refine stopAt 34 rfl ?_) | (refine wpList_row rfl _ _ _ _ _ _ _ rfl rfl ?_; intro r hr))
  refine ⟨?_⟩
  replace hbel := hbel.out
  have hfresh : wx.heap[w.heap.size]? = some (.cells Tryz.zeroCells212 212 (0, 0)) := by rw [hbel.block _ (by omega)]; exact heap_alloc_new _ _
  have hbel2 : Below w.heap.size w wx := (Below.alloc (Below.refl _ _) (Nat.le_refl _) _).trans (hbel.mono (by omega))
  clear hbel
  simp only [IsRow, Hid] at *
  subst_vars
  refine wpList_tab rfl _ rfl _ _ _ _ _ _ _ _ _ _ _ _ _ _ _ _ _ _ _ _ _ _ _ _ _ _ _ _ _ _ _ _ _ _ _ _ _ _ _ _ _ _ _ _ (by simp [Act.eval]; repeat' (first | apply And.intro | rfl)) ?_
  intro fv hfv
  refine wpList_store_mid rfl 212 _ _ rfl w.heap.size 0 (tabC fv) rfl rfl (there_of_block hfresh (by rfl)) infoTab (tabC_ok fv hfv).2.1 ?_
  have hnew : (wx.setCells w.heap.size 0 (tabC fv).toList).rangeAt w.heap.size 0 (tabC fv).toList := World.rangeAt_setCells_same wx w.heap.size 0 _ (there_of_block hfresh (by rfl))
  have hbel3 : Below w.heap.size w (wx.setCells w.heap.size 0 (tabC fv).toList) := below_setCells (Nat.le_refl _) _ _ _ hbel2
  generalize wx.setCells w.heap.size 0 (tabC fv).toList = wy at *
  generalize hcs : tabC fv = cs at *
  replace fin := hd fin
  replace hnew := hd hnew
  replace hbel3 := hd hbel3
  replace hfv := hd hfv
  replace hcs := hd hcs
  clear hfresh hbel2
  go_wp2
  refine ret_range rfl rowTab infoTab w.heap.size cs (by rw [← hcs.out]; rfl) rfl hnew.out rfl ?_
  have := fin.out fv wy hfv.out hbel3.out
  rw [hcs.out] at this
  exact this
theorem table_any (w : World) (R : Ending → World → Prop) (fin : ∀ cs w', TabOk cs → Below w.heap.size w w' → R (.returned (.agg cs)) w') :
    Calls Tryz.prog 108 #[] w R := table_fv w R (fun fv w' hfv hb => fin _ w' (tabC_ok fv hfv) hb)

end Go.Proofs.YtidhiaaicmfabaaGreatDoor
