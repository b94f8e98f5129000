/- The machine's memory in a scan; small instructions. -/
import Derived.Test.YtidhiaaicmfabaaGreatDoorKaA
import Derived.Test.YtidhiaaicmfabaaGreatDoorKaB
import Derived.WalkKit
import Derived.WalkSpells
import Derived.WalkLawsBesides
import Derived.Deep.OwnRows
import Derived.BigQuiet
import Derived.Handy
import Derived.Deep.Light
import Derived.Deep.RegionHeld3
import Derived.Deep.RegionWith
import Derived.Test.YtidhiaaicmfabaaGreatDoorKaC

/- What a step of a scan does, and the memory of a scan. -/
namespace Go.Proofs.YtidhiaaicmfabaaGreatDoor
open Go.RowKit Go.Proofs Go.Deep

def tr (b : Bool) : Int := if b then 1 else 0
/-- A number as one of a kind. -/
def layK (k : Nat) (n : Int) : Int := if k = 0 then tr (n != 0) else if k = 1 then IntKind.i16.wrap n else wrap32 n
def in32 (x : Int) : Prop := -2147483648 ≤ x ∧ x ≤ 2147483647
theorem tr_in (b : Bool) : in32 (tr b) := by cases b <;> unfold tr in32 <;> simp
theorem i16_bd (n : Int) : -32768 ≤ IntKind.i16.wrap n ∧ IntKind.i16.wrap n ≤ 32767 := by
  have e : IntKind.i16.wrap n = if n % 65536 ≥ 32768 then n % 65536 - 65536 else n % 65536 := by
    unfold IntKind.wrap
    by_cases h : n % 65536 ≥ 32768 <;> simp [IntKind.bits, IntKind.signed, h]
  rw [e]
  by_cases h : n % 65536 ≥ 32768
  · rw [if_pos h]; omega
  · rw [if_neg h]; omega
theorem w32_bd (n : Int) : in32 (wrap32 n) := by unfold wrap32 in32; omega
theorem w32_16 (n : Int) : wrap32 (IntKind.i16.wrap n) = IntKind.i16.wrap n := by
  have h := i16_bd n
  exact IntWalk.wrap32_in _ (by omega)
theorem layK_in (k : Nat) (n : Int) : in32 (layK k n) := by
  unfold layK
  split
  · exact tr_in _
  · split
    · have := i16_bd n; unfold in32; omega
    · exact w32_bd n
/-- What a step does, with what was popped: the cells, the rounds that are left, where it goes on, whether it is over; what is pushed; the error. -/
structure Sc where
  C : Nat → Int
  Lf : List Int
  nx : Int
  ov : Bool
def doesV (o : Nat) (arg cnt lp to_ : Int) (kd : Nat → Nat) (delta : Int) (a b : Int) (q : Sc) : Sc × Int × Int :=
  if o = 0 then ({ q with ov := true }, 0, 0)
  else if o = 1 then (q, wrap32 arg, 0)
  else if o = 2 then (q, q.C arg.toNat, 0)
  else if o = 3 then ({ q with C := upd q.C arg.toNat (layK (kd arg.toNat) a) }, 0, 0)
  else if o = 4 then (if 0 ≤ a ∧ a < cnt then (q, q.C (arg + a).toNat, 0) else (q, 0, 5))
  else if o = 5 then (if 0 ≤ a ∧ a < cnt then ({ q with C := upd q.C (arg + a).toNat (layK (kd (arg + a).toNat) b) }, 0, 0) else (q, 0, 5))
  else if o = 6 then (q, wrap32 (a + b), 0)
  else if o = 7 then (q, wrap32 (a - b), 0)
  else if o = 8 then (q, wrap32 (a * b), 0)
  else if o = 9 then (if b = 0 then (q, 0, 4) else (q, wrap32 (a.tdiv b), 0))
  else if o = 10 then (if b = 0 then (q, 0, 4) else (q, a.tmod b, 0))
  else if o = 11 then (q, tr (a == b), 0)
  else if o = 12 then (q, tr (decide (a < b)), 0)
  else if o = 13 then (q, tr (a == 0), 0)
  else if o = 14 then (q, tr (a != 0 && b != 0), 0)
  else if o = 15 then (q, tr (a != 0 || b != 0), 0)
  else if o = 16 then (q, IntKind.i16.wrap a, 0)
  else if o = 17 then ({ q with nx := to_ }, 0, 0)
  else if o = 18 then (if a = 0 then ({ q with nx := to_ }, 0, 0) else (q, 0, 0))
  else if o = 19 then ({ q with Lf := arg :: q.Lf }, 0, 0)
  else if o = 20 then (match q.Lf with
    | [] => (q, 0, 0)
    | c :: r => if 0 < c - 1 then ({ q with Lf := (c - 1) :: r, nx := lp + 1 }, 0, 0) else ({ q with Lf := r }, 0, 0))
  else (if a = 0 then ({ q with C := upd q.C arg.toNat 0 }, 0, 0)
    else ({ q with C := upd q.C arg.toNat (min (q.C arg.toNat + delta) 2147483647) }, tr (decide (b ≤ min (q.C arg.toNat + delta) 2147483647)), 0))

/-- What does not turn while a scan is run. -/
structure Rc where
  w0 : World
  br : Nat
  bs : Nat
  bc : Nat
  base : Nat
  n : Nat
  cap : Nat
  nC : Nat
  op : Nat → Nat
  at_ : Nat → Nat
  arg : Nat → Int
  cnt : Nat → Int
  lp : Nat → Int
  to_ : Nat → Int
  rl : Nat → Nat
  kd : Nat → Nat
  nm : Nat → ByteArray
  fv : Nat → Value
  delta : Int
/-- In memory nothing that lies below base has turned but two blocks. -/
structure Twain (b c base : Nat) (w w' : World) : Prop where
  os : w'.os = w.os
  tape : w'.tape = w.tape
  output : w'.output = w.output
  size : base ≤ w'.heap.size
  block : ∀ k, k < base → k ≠ b → k ≠ c → w'.heap[k]? = w.heap[k]?
def cellV (rl kd : Nat → Nat) (C : Nat → Int) (i f : Nat) : Value := if f = 0 then .int .u8 (rl i : Int) else if f = 1 then .int .u8 (kd i : Int) else .int .i32 (C i)
theorem cellV_0 {rl kd : Nat → Nat} {C : Nat → Int} {i : Nat} : cellV rl kd C i 0 = .int .u8 (rl i : Int) := rfl
theorem cellV_1 {rl kd : Nat → Nat} {C : Nat → Int} {i : Nat} : cellV rl kd C i 1 = .int .u8 (kd i : Int) := rfl
theorem cellV_2 {rl kd : Nat → Nat} {C : Nat → Int} {i : Nat} : cellV rl kd C i 2 = .int .i32 (C i) := rfl
def rowF (nm : Nat → ByteArray) (fv : Nat → Value) (j : Nat) : Value :=
  if j % 5 = 0 then .string (nm (j / 5)) else if j % 5 = 1 then .int .u8 (opnd (j / 5) : Nat) else if j % 5 = 2 then .int .i64 (popsOf (j / 5) : Nat) else if j % 5 = 3 then .int .i64 (pushesOf (j / 5) : Nat) else fv (j / 5)
def runF (K : Rc) (sv rv : Value) (nx dn : Int) (ov : Bool) (j : Nat) : Value :=
  if j < 110 then rowF K.nm K.fv j else if j = 110 then .slice (some ⟨K.bs, 0, none⟩) K.n K.cap else if j = 111 then .slice (some ⟨K.bc, 0, none⟩) K.nC K.nC else if j = 112 then .int .i64 K.delta
  else if j = 113 then sv else if j = 114 then rv else if j = 115 then .int .i64 nx else if j = 116 then .int .i64 dn else .bool ov
structure RcOk (K : Rc) : Prop where
  br : K.br < K.base
  bs : K.bs < K.base
  bc : K.bc < K.base
  rs : K.br ≠ K.bs
  rc : K.br ≠ K.bc
  sc : K.bs ≠ K.bc
  size : K.base ≤ K.w0.heap.size
  n : K.n ≤ 8000
  nC : K.nC ≤ 100
  dl : 0 ≤ K.delta ∧ K.delta ≤ 1000000
  steps : Tab K.w0 K.bs 254 6 K.n K.cap (stepA K.op K.at_ K.arg K.cnt K.lp K.to_)
/-- The memory of a scan, less its stack and its open FORs. -/
structure RM (K : Rc) (sv rv : Value) (nx dn : Int) (ov : Bool) (C : Nat → Int) (w : World) : Prop where
  fr : Twain K.br K.bc K.base K.w0 w
  run : w.rowIs K.br 228 118 (runF K sv rv nx dn ov)
  cel : Tab w K.bc 129 3 K.nC K.nC (cellV K.rl K.kd C)
def i32L (l : List Int) : List Value := (l.map (fun x => Value.int .i32 x)).reverse
def i64L (l : List Int) : List Value := (l.map (fun x => Value.int .i64 x)).reverse
/-- A scan on its way. -/
structure RS (K : Rc) (dn : Int) (q : Sc) (S : List Int) (w : World) : Prop where
  ex : ∃ sv rv, RM K sv rv q.nx dn q.ov q.C w ∧ w.ownsRow K.base 21 1 sv S.length (i32L S) ∧ w.ownsRow K.base 3 1 rv q.Lf.length (i64L q.Lf)
  hC : ∀ j, in32 (q.C j)
  hS : ∀ x ∈ S, in32 x
section
variable {K : Rc} {sv rv : Value} {nx dn : Int} {ov : Bool} {C : Nat → Int} {w w' : World}
theorem RM.below (hK : RcOk K) (h : RM K sv rv nx dn ov C w) (hb : Below K.base w w') : RM K sv rv nx dn ov C w' :=
  ⟨⟨hb.os.trans h.fr.os, hb.tape.trans h.fr.tape, hb.output.trans h.fr.output, Nat.le_trans h.fr.size hb.size, fun k hk h1 h2 => (hb.block k hk).trans (h.fr.block k hk h1 h2)⟩,
    h.run.of_block (hb.block _ hK.br), h.cel.of_block (hb.block _ hK.bc)⟩
theorem RM.alloc (hK : RcOk K) (h : RM K sv rv nx dn ov C w) (o : Obj) : RM K sv rv nx dn ov C (w.alloc o) := h.below hK ((Below.refl _ _).alloc h.fr.size o)
theorem RM.drew (hK : RcOk K) (h : RM K sv rv nx dn ov C w) : RM K sv rv nx dn ov C w.drew := h.below hK (Below.refl _ _).drew
theorem RM.setRun (hK : RcOk K) (h : RM K sv rv nx dn ov C w) (j : Nat) (v : Value) {sv' rv' : Value} {nx' dn' : Int} {ov' : Bool} (e : ∀ i, i < 118 → (if i = j then v else runF K sv rv nx dn ov i) = runF K sv' rv' nx' dn' ov' i) :
    RM K sv' rv' nx' dn' ov' C (w.setCell ⟨K.br, j, none⟩ v) :=
  ⟨⟨h.fr.os, h.fr.tape, h.fr.output, by rw [World.size_setCell]; exact h.fr.size, fun k hk h1 h2 => by rw [Below.heap_setCell _ _ _ _ h1]; exact h.fr.block k hk h1 h2⟩,
    (h.run.set j v).congr e, h.cel.setOther (Ne.symm hK.rc) _⟩
theorem RM.setNx (hK : RcOk K) (h : RM K sv rv nx dn ov C w) (x : Int) : RM K sv rv x dn ov C (w.setCell ⟨K.br, 115, none⟩ (.int .i64 x)) := h.setRun hK 115 _ (fun i _ => by unfold runF; by_cases e : i = 115 <;> simp [e])
theorem RM.setDn (hK : RcOk K) (h : RM K sv rv nx dn ov C w) (x : Int) : RM K sv rv nx x ov C (w.setCell ⟨K.br, 116, none⟩ (.int .i64 x)) := h.setRun hK 116 _ (fun i _ => by unfold runF; by_cases e : i = 116 <;> simp [e])
theorem RM.setOv (hK : RcOk K) (h : RM K sv rv nx dn ov C w) (x : Bool) : RM K sv rv nx dn x C (w.setCell ⟨K.br, 117, none⟩ (.bool x)) := h.setRun hK 117 _ (fun i hi => by
  unfold runF
  by_cases e : i = 117
  · simp [e]
  · rw [if_neg e]
    repeat' split
    all_goals first | rfl | omega)
theorem RM.setSv (hK : RcOk K) (h : RM K sv rv nx dn ov C w) (x : Value) : RM K x rv nx dn ov C (w.setCell ⟨K.br, 113, none⟩ x) := h.setRun hK 113 _ (fun i _ => by unfold runF; by_cases e : i = 113 <;> simp [e])
theorem RM.setRv (hK : RcOk K) (h : RM K sv rv nx dn ov C w) (x : Value) : RM K sv x nx dn ov C (w.setCell ⟨K.br, 114, none⟩ x) := h.setRun hK 114 _ (fun i _ => by unfold runF; by_cases e : i = 114 <;> simp [e])
theorem RM.setC (hK : RcOk K) (h : RM K sv rv nx dn ov C w) (c : Nat) (x : Int) : RM K sv rv nx dn ov (upd C c x) (w.setCell ⟨K.bc, c * 3 + 2, none⟩ (.int .i32 x)) :=
  ⟨⟨h.fr.os, h.fr.tape, h.fr.output, by rw [World.size_setCell]; exact h.fr.size, fun k hk h1 h2 => by rw [Below.heap_setCell _ _ _ _ h2]; exact h.fr.block k hk h1 h2⟩,
    h.run.setOther hK.rc _, (h.cel.set c 2 (by omega) _).congr (fun j _ g hg => by
      have hcg : g = 0 ∨ g = 1 ∨ g = 2 := by omega
      rcases hcg with rfl | rfl | rfl
      · simp [cellV]
      · simp [cellV]
      · by_cases e : j = c <;> simp [cellV, upd, e])⟩
theorem RM.steps (hK : RcOk K) (h : RM K sv rv nx dn ov C w) : Tab w K.bs 254 6 K.n K.cap (stepA K.op K.at_ K.arg K.cnt K.lp K.to_) := hK.steps.of_block (h.fr.block _ hK.bs (Ne.symm hK.rs) hK.sc)
theorem RM.c110 (h : RM K sv rv nx dn ov C w) : w.cell? ⟨K.br, 110, none⟩ = some (.slice (some ⟨K.bs, 0, none⟩) K.n K.cap) := h.run.cell (i := 110) (by omega)
theorem RM.c111 (h : RM K sv rv nx dn ov C w) : w.cell? ⟨K.br, 111, none⟩ = some (.slice (some ⟨K.bc, 0, none⟩) K.nC K.nC) := h.run.cell (i := 111) (by omega)
theorem RM.c112 (h : RM K sv rv nx dn ov C w) : w.cell? ⟨K.br, 112, none⟩ = some (.int .i64 K.delta) := h.run.cell (i := 112) (by omega)
theorem RM.c113 (h : RM K sv rv nx dn ov C w) : w.cell? ⟨K.br, 113, none⟩ = some sv := h.run.cell (i := 113) (by omega)
theorem RM.c114 (h : RM K sv rv nx dn ov C w) : w.cell? ⟨K.br, 114, none⟩ = some rv := h.run.cell (i := 114) (by omega)
theorem RM.c115 (h : RM K sv rv nx dn ov C w) : w.cell? ⟨K.br, 115, none⟩ = some (.int .i64 nx) := h.run.cell (i := 115) (by omega)
theorem RM.c116 (h : RM K sv rv nx dn ov C w) : w.cell? ⟨K.br, 116, none⟩ = some (.int .i64 dn) := h.run.cell (i := 116) (by omega)
theorem RM.c117 (h : RM K sv rv nx dn ov C w) : w.cell? ⟨K.br, 117, none⟩ = some (.bool ov) := h.run.cell (i := 117) (by omega)
theorem RM.row (h : RM K sv rv nx dn ov C w) {o : Nat} (ho : o < 22) : w.cell? ⟨K.br, o * 5 + 2, none⟩ = some (.int .i64 (popsOf o : Nat)) ∧ w.cell? ⟨K.br, o * 5 + 3, none⟩ = some (.int .i64 (pushesOf o : Nat)) ∧ w.cell? ⟨K.br, o * 5 + 4, none⟩ = some (K.fv o) := by
  have e : ∀ f, f < 5 → (o * 5 + f) % 5 = f ∧ (o * 5 + f) / 5 = o := fun f hf => by omega
  refine ⟨?_, ?_, ?_⟩
  · rw [h.run.cell (i := o * 5 + 2) (by omega)]; unfold runF rowF; rw [if_pos (by omega), (e 2 (by omega)).1, (e 2 (by omega)).2]; rfl
  · rw [h.run.cell (i := o * 5 + 3) (by omega)]; unfold runF rowF; rw [if_pos (by omega), (e 3 (by omega)).1, (e 3 (by omega)).2]; rfl
  · rw [h.run.cell (i := o * 5 + 4) (by omega)]; unfold runF rowF; rw [if_pos (by omega), (e 4 (by omega)).1, (e 4 (by omega)).2]; rfl
end
theorem own_two {w : World} {b1 b2 e1 e2 z1 z2 : Nat} {v1 v2 : Value} {n1 n2 : Nat} {x1 x2 : List Value} (h1 : w.ownsRow b1 e1 z1 v1 n1 x1) (h2 : w.ownsRow b2 e2 z2 v2 n2 x2) (he : e1 ≠ e2) : v2.ownBlock = none ∨ v2.ownBlock ≠ v1.ownBlock := by
  rcases h2.2 with ⟨rfl, _⟩ | ⟨g, cap, cur, rfl, _, hg, _⟩
  · exact .inl rfl
  · refine .inr ?_
    rcases h1.2 with ⟨rfl, _⟩ | ⟨g', cap', cur', rfl, _, hg', _⟩
    · simp [Value.ownBlock]
    · intro e
      have e' : g = g' := by simpa [Value.ownBlock] using e
      subst e'
      rw [hg] at hg'
      injection hg' with hg'
      injection hg' with _ h3
      exact he h3.symm

end Go.Proofs.YtidhiaaicmfabaaGreatDoor

/- The machine's small functions: numbers laid into kinds, and what instructions reckon. -/
namespace Go.Proofs.YtidhiaaicmfabaaGreatDoor
open Go.RowKit Go.Proofs Go.Deep

theorem truth_any (w : World) (b : Bool) (R : Ending → World → Prop) (fin : R (.returned (.int .i32 (tr b))) w) : Calls Tryz.prog 170 #[.bool b] w R := by
  replace fin := hd fin
  cases b
  · go_enter Tryz.func170, Tryz.ntmps170
    go_wp2
    exact cl1 fin.out rfl
  · go_enter Tryz.func170, Tryz.ntmps170
    go_wp2
    exact cl1 fin.out rfl
theorem laid_any (w : World) (n : Int) (k : Nat) (R : Ending → World → Prop) (fin : R (.returned (.int .i32 (layK k n))) w) : Calls Tryz.prog 176 #[.int .i64 n, .int .u8 (k : Int)] w R := by
  by_cases h0 : k = 0
  · subst h0
    replace fin := hd fin
    go_enter Tryz.func176, Tryz.ntmps176
    go_wp2_with (first | (go_at_call 170; refine truth_any _ _ _ ?_))
    exact cl1 fin.out (by simp [layK])
  · have t0 : ((k : Int) == 0) = false := by simp; omega
    by_cases h1 : k = 1
    · have t1 : ((k : Int) == 1) = true := by simp [h1]
      have e : layK k n = IntKind.i16.wrap n := by unfold layK; rw [if_neg h0, if_pos h1]
      rw [e] at fin
      replace fin := hd fin
      go_enter Tryz.func176, Tryz.ntmps176
      go_wp2
      exact cl1 fin.out (by show Value.int _ _ = Value.int _ _; rw [w32_16])
    · have t1 : ((k : Int) == 1) = false := by simp; omega
      have e : layK k n = wrap32 n := by unfold layK; rw [if_neg h0, if_neg h1]
      rw [e] at fin
      replace fin := hd fin
      go_enter Tryz.func176, Tryz.ntmps176
      go_wp2
      exact cl1 fin.out rfl
theorem t1_any (w : World) (a b : Int) (R : Ending → World → Prop) (fin : R (.returned (.int .i32 (wrap32 (a + b)))) w) : Calls Tryz.prog 163 #[.int .i32 a, .int .i32 b] w R := by
  replace fin := hd fin
  go_enter Tryz.func163, Tryz.ntmps163
  go_wp2
  exact cl1 fin.out rfl
theorem cf_t1 (args : Array Value) (w : World) : (callFunc 163 args).run Tryz.prog w = .ok (.enter 163 args) w := by kernel_rfl
theorem t2_any (w : World) (a b : Int) (R : Ending → World → Prop) (fin : R (.returned (.int .i32 (wrap32 (a - b)))) w) : Calls Tryz.prog 164 #[.int .i32 a, .int .i32 b] w R := by
  replace fin := hd fin
  go_enter Tryz.func164, Tryz.ntmps164
  go_wp2
  exact cl1 fin.out rfl
theorem cf_t2 (args : Array Value) (w : World) : (callFunc 164 args).run Tryz.prog w = .ok (.enter 164 args) w := by kernel_rfl
theorem t3_any (w : World) (a b : Int) (R : Ending → World → Prop) (fin : R (.returned (.int .i32 (wrap32 (a * b)))) w) : Calls Tryz.prog 165 #[.int .i32 a, .int .i32 b] w R := by
  replace fin := hd fin
  go_enter Tryz.func165, Tryz.ntmps165
  go_wp2
  exact cl1 fin.out rfl
theorem cf_t3 (args : Array Value) (w : World) : (callFunc 165 args).run Tryz.prog w = .ok (.enter 165 args) w := by kernel_rfl
theorem t4_any (w : World) (a b : Int) (hb : b ≠ 0) (R : Ending → World → Prop) (fin : R (.returned (.int .i32 (wrap32 (a.tdiv b)))) w) : Calls Tryz.prog 167 #[.int .i32 a, .int .i32 b] w R := by
  replace fin := hd fin
  go_enter Tryz.func167, Tryz.ntmps167
  go_wp2
  exact cl1 fin.out rfl
theorem cf_t4 (args : Array Value) (w : World) : (callFunc 167 args).run Tryz.prog w = .ok (.enter 167 args) w := by kernel_rfl
theorem t5_any (w : World) (a b : Int) (hb : b ≠ 0) (R : Ending → World → Prop) (fin : R (.returned (.int .i32 (a.tmod b))) w) : Calls Tryz.prog 168 #[.int .i32 a, .int .i32 b] w R := by
  replace fin := hd fin
  go_enter Tryz.func168, Tryz.ntmps168
  go_wp2
  exact cl1 fin.out rfl
theorem cf_t5 (args : Array Value) (w : World) : (callFunc 168 args).run Tryz.prog w = .ok (.enter 168 args) w := by kernel_rfl
theorem t6_any (w : World) (a b : Int) (R : Ending → World → Prop) (fin : R (.returned (.int .i32 (tr (a == b)))) w) : Calls Tryz.prog 169 #[.int .i32 a, .int .i32 b] w R := by
  replace fin := hd fin
  go_enter Tryz.func169, Tryz.ntmps169
  go_wp2_with (first | (go_at_call 170; refine truth_any _ _ _ ?_))
  exact cl1 fin.out rfl
theorem cf_t6 (args : Array Value) (w : World) : (callFunc 169 args).run Tryz.prog w = .ok (.enter 169 args) w := by kernel_rfl
theorem t7_any (w : World) (a b : Int) (R : Ending → World → Prop) (fin : R (.returned (.int .i32 (tr (decide (a < b))))) w) : Calls Tryz.prog 171 #[.int .i32 a, .int .i32 b] w R := by
  replace fin := hd fin
  go_enter Tryz.func171, Tryz.ntmps171
  go_wp2_with (first | (go_at_call 170; refine truth_any _ _ _ ?_))
  exact cl1 fin.out rfl
theorem cf_t7 (args : Array Value) (w : World) : (callFunc 171 args).run Tryz.prog w = .ok (.enter 171 args) w := by kernel_rfl
theorem t8_any (w : World) (a b : Int) (R : Ending → World → Prop) (fin : R (.returned (.int .i32 (tr (a == 0)))) w) : Calls Tryz.prog 172 #[.int .i32 a, .int .i32 b] w R := by
  replace fin := hd fin
  go_enter Tryz.func172, Tryz.ntmps172
  go_wp2_with (first | (go_at_call 170; refine truth_any _ _ _ ?_))
  exact cl1 fin.out rfl
theorem cf_t8 (args : Array Value) (w : World) : (callFunc 172 args).run Tryz.prog w = .ok (.enter 172 args) w := by kernel_rfl
theorem t9_any (w : World) (a b : Int) (R : Ending → World → Prop) (fin : R (.returned (.int .i32 (tr (a != 0 && b != 0)))) w) : Calls Tryz.prog 173 #[.int .i32 a, .int .i32 b] w R := by
  replace fin := hd fin
  by_cases h : a = 0
  · subst h
    go_enter Tryz.func173, Tryz.ntmps173
    go_wp2_with (first | (go_at_call 170; refine truth_any _ _ _ ?_))
    exact cl1 fin.out (by first | rfl | (show Value.int _ _ = Value.int _ _; simp [ha]))
  · have ha : (a != 0) = true := by simpa using h
    go_enter Tryz.func173, Tryz.ntmps173
    go_wp2_with (first | (go_at_call 170; refine truth_any _ _ _ ?_))
    exact cl1 fin.out (by first | rfl | (show Value.int _ _ = Value.int _ _; simp [ha]))
theorem cf_t9 (args : Array Value) (w : World) : (callFunc 173 args).run Tryz.prog w = .ok (.enter 173 args) w := by kernel_rfl
theorem t10_any (w : World) (a b : Int) (R : Ending → World → Prop) (fin : R (.returned (.int .i32 (tr (a != 0 || b != 0)))) w) : Calls Tryz.prog 174 #[.int .i32 a, .int .i32 b] w R := by
  replace fin := hd fin
  by_cases h : a = 0
  · subst h
    go_enter Tryz.func174, Tryz.ntmps174
    go_wp2_with (first | (go_at_call 170; refine truth_any _ _ _ ?_))
    exact cl1 fin.out (by first | rfl | (show Value.int _ _ = Value.int _ _; simp [ha]))
  · have ha : (a != 0) = true := by simpa using h
    go_enter Tryz.func174, Tryz.ntmps174
    go_wp2_with (first | (go_at_call 170; refine truth_any _ _ _ ?_))
    exact cl1 fin.out (by first | rfl | (show Value.int _ _ = Value.int _ _; simp [ha]))
theorem cf_t10 (args : Array Value) (w : World) : (callFunc 174 args).run Tryz.prog w = .ok (.enter 174 args) w := by kernel_rfl
theorem t11_any (w : World) (a b : Int) (ha : in32 a) (R : Ending → World → Prop) (fin : R (.returned (.int .i32 (IntKind.i16.wrap a))) w) : Calls Tryz.prog 175 #[.int .i32 a, .int .i32 b] w R := by
  replace fin := hd fin
  have hw : wrap64 a = a := IntWalk.wrap64_in _ (by unfold in32 at ha; omega)
  have e : layK 1 a = IntKind.i16.wrap a := rfl
  go_enter Tryz.func175, Tryz.ntmps175
  go_wp2_with (first | (go_at_call 176; refine laid_any _ _ 1 _ ?_))
  exact cl1 fin.out rfl
theorem cf_t11 (args : Array Value) (w : World) : (callFunc 175 args).run Tryz.prog w = .ok (.enter 175 args) w := by kernel_rfl
theorem reckoned_at (w : World) (f : Fn) (R : Ending → World → Prop) (fin : ∀ g w', Below w.heap.size w w' → w.heap.size ≤ g → w'.cell? ⟨g, 0, none⟩ = some (.func f #[] #[]) → R (.returned (.func (.func 214) #[] #[.pointer (some ⟨g, 0, none⟩)])) w') :
    Calls Tryz.prog 162 #[.func f #[] #[]] w R := by
  replace fin := hd fin
  go_enter Tryz.func162, Tryz.ntmps162
  go_wp2
  exact cl1 (fin.out w.heap.size _ (by repeat (first | with_reducible exact Below.refl _ _ | with_reducible refine below_drewN ?_ _ | with_reducible refine Below.drew ?_ | with_reducible refine Below.alloc ?_ (by simp) _ | with_reducible refine Below.setCell ?_ (by simp) _)) (Nat.le_refl _) ((cell_of_row _ _ 0 _ _ (0, 0) (heap_alloc_new w _)).trans rfl)) rfl
theorem divided_at (w : World) (f : Fn) (R : Ending → World → Prop) (fin : ∀ g w', Below w.heap.size w w' → w.heap.size ≤ g → w'.cell? ⟨g, 0, none⟩ = some (.func f #[] #[]) → R (.returned (.func (.func 215) #[] #[.pointer (some ⟨g, 0, none⟩)])) w') :
    Calls Tryz.prog 166 #[.func f #[] #[]] w R := by
  replace fin := hd fin
  go_enter Tryz.func166, Tryz.ntmps166
  go_wp2
  exact cl1 (fin.out w.heap.size _ (by repeat (first | with_reducible exact Below.refl _ _ | with_reducible refine below_drewN ?_ _ | with_reducible refine Below.drew ?_ | with_reducible refine Below.alloc ?_ (by simp) _ | with_reducible refine Below.setCell ?_ (by simp) _)) (Nat.le_refl _) ((cell_of_row _ _ 0 _ _ (0, 0) (heap_alloc_new w _)).trans rfl)) rfl
set_option maxRecDepth 100000 in
theorem rk_any (w : World) (br g : Nat) (v0 v1 v2 v3 v4 v5 : Value) (a b : Int) (F : Nat) (hg : w.cell? ⟨g, 0, none⟩ = some (.func (.func F) #[] #[])) (x : Int) (hcf : ∀ args w, (callFunc F args).run Tryz.prog w = .ok (.enter F args) w)
    (hF : ∀ w R, R (.returned (.int .i32 x)) w → Calls Tryz.prog F #[.int .i32 a, .int .i32 b] w R)
    (R : Ending → World → Prop) (fin : ∀ w', Below w.heap.size w w' → R (.returned (.tuple #[.int .i32 x, .int .i64 0])) w') :
    Calls Tryz.prog 214 #[.pointer (some ⟨br, 0, none⟩), .agg #[v0, v1, v2, v3, v4, v5], .int .i32 a, .int .i32 b, .pointer (some ⟨g, 0, none⟩)] w R := by
  have hgl := World.block_lt_of_cell? w _ hg
  replace fin := hd fin
  replace hF := hd hF
  go_enter Tryz.func214, Tryz.ntmps214
  go_wp2_with (fail)
  refine hF.out _ _ ?_
  go_wp2
  exact cl1 (fin.out _ (by repeat (first | with_reducible exact Below.refl _ _ | with_reducible refine below_drewN ?_ _ | with_reducible refine Below.drew ?_ | with_reducible refine Below.alloc ?_ (by simp) _ | with_reducible refine Below.setCell ?_ (by simp) _))) rfl
set_option maxRecDepth 100000 in
theorem dv_any (w : World) (br g : Nat) (v0 v1 v2 v3 v4 v5 : Value) (a b : Int) (F : Nat) (hg : w.cell? ⟨g, 0, none⟩ = some (.func (.func F) #[] #[])) (x : Int) (hcf : ∀ args w, (callFunc F args).run Tryz.prog w = .ok (.enter F args) w)
    (hF : b ≠ 0 → ∀ w R, R (.returned (.int .i32 x)) w → Calls Tryz.prog F #[.int .i32 a, .int .i32 b] w R)
    (R : Ending → World → Prop) (fin : ∀ w', Below w.heap.size w w' → R (.returned (.tuple #[.int .i32 (if b = 0 then 0 else x), .int .i64 (if b = 0 then 4 else 0)])) w') :
    Calls Tryz.prog 215 #[.pointer (some ⟨br, 0, none⟩), .agg #[v0, v1, v2, v3, v4, v5], .int .i32 a, .int .i32 b, .pointer (some ⟨g, 0, none⟩)] w R := by
  have hgl := World.block_lt_of_cell? w _ hg
  by_cases h0 : b = 0
  · rw [if_pos h0, if_pos h0] at fin
    subst h0
    replace fin := hd fin
    go_enter Tryz.func215, Tryz.ntmps215
    go_wp2
    exact cl1 (fin.out _ (by repeat (first | with_reducible exact Below.refl _ _ | with_reducible refine below_drewN ?_ _ | with_reducible refine Below.drew ?_ | with_reducible refine Below.alloc ?_ (by simp) _ | with_reducible refine Below.setCell ?_ (by simp) _))) rfl
  · rw [if_neg h0, if_neg h0] at fin
    have t0 : (b == 0) = false := by simpa using h0
    replace fin := hd fin
    replace hF := hd (hF h0)
    go_enter Tryz.func215, Tryz.ntmps215
    go_wp2_with (fail)
    refine hF.out _ _ ?_
    go_wp2
    exact cl1 (fin.out _ (by repeat (first | with_reducible exact Below.refl _ _ | with_reducible refine below_drewN ?_ _ | with_reducible refine Below.drew ?_ | with_reducible refine Below.alloc ?_ (by simp) _ | with_reducible refine Below.setCell ?_ (by simp) _))) rfl
theorem lay_any (w : World) (bc c k : Nat) (n v : Int) (hk : w.cell? ⟨bc, c * 3 + 1, none⟩ = some (.int .u8 (k : Int))) (hv : w.cell? ⟨bc, c * 3 + 2, none⟩ = some (.int .i32 v)) (hf : w.frozen? ⟨bc, c * 3 + 2, none⟩ = false)
    (R : Ending → World → Prop) (fin : R (.returned (.tuple #[])) (w.setCell ⟨bc, c * 3 + 2, none⟩ (.int .i32 (layK k n)))) :
    Calls Tryz.prog 188 #[.pointer (some ⟨bc, c * 3, none⟩), .int .i64 n] w R := by
  replace fin := hd fin
  go_enter Tryz.func188, Tryz.ntmps188
  go_wp2_with (first | (go_at_call 176; refine laid_any _ _ _ _ ?_))
  go_end0
  exact fin.out
theorem hasIndex_any (w : World) (v0 v1 v2 v4 v5 : Value) (cnt a : Int) (ha : in32 a) (R : Ending → World → Prop) (fin : ∀ w', Below w.heap.size w w' → R (.returned (.bool (decide (0 ≤ a ∧ a < cnt)))) w') :
    Calls Tryz.prog 213 #[.agg #[v0, v1, v2, .int .i64 cnt, v4, v5], .int .i32 a] w R := by
  have hw : wrap64 a = a := IntWalk.wrap64_in _ (by unfold in32 at ha; omega)
  replace fin := hd fin
  by_cases h0 : 0 ≤ a
  · have d0 : decide (0 ≤ a) = true := by simpa using h0
    go_enter Tryz.func213, Tryz.ntmps213
    go_wp2
    exact cl1 (fin.out _ (by repeat (first | with_reducible exact Below.refl _ _ | with_reducible refine below_drewN ?_ _ | with_reducible refine Below.drew ?_ | with_reducible refine Below.alloc ?_ (by simp) _ | with_reducible refine Below.setCell ?_ (by simp) _))) (by show Value.bool _ = Value.bool _; simp [h0])
  · have d0 : decide (0 ≤ a) = false := by simpa using h0
    go_enter Tryz.func213, Tryz.ntmps213
    go_wp2
    exact cl1 (fin.out _ (by repeat (first | with_reducible exact Below.refl _ _ | with_reducible refine below_drewN ?_ _ | with_reducible refine Below.drew ?_ | with_reducible refine Below.alloc ?_ (by simp) _ | with_reducible refine Below.setCell ?_ (by simp) _))) (by show Value.bool _ = Value.bool _; simp; omega)

end Go.Proofs.YtidhiaaicmfabaaGreatDoor

/- What instructions do, in memory: the first ones. -/
namespace Go.Proofs.YtidhiaaicmfabaaGreatDoor
open Go.RowKit Go.Proofs Go.Deep

section
variable {K : Rc} {dn : Int} {q : Sc} {S : List Int} {w w' : World}
theorem RS.below (hK : RcOk K) (h : RS K dn q S w) (hb : Below w.heap.size w w') : RS K dn q S w' := by
  obtain ⟨sv, rv, hm, hs, hr⟩ := h.ex
  exact ⟨⟨sv, rv, hm.below hK (hb.mono hm.fr.size), own_below hs hb, own_below hr hb⟩, h.hC, h.hS⟩
theorem RS.alloc (hK : RcOk K) (h : RS K dn q S w) (o : Obj) : RS K dn q S (w.alloc o) := h.below hK ((Below.refl _ _).alloc (Nat.le_refl _) o)
theorem RS.drew (hK : RcOk K) (h : RS K dn q S w) : RS K dn q S w.drew := h.below hK (Below.refl _ _).drew
theorem RS.drewN (hK : RcOk K) (h : RS K dn q S w) (k : Nat) : RS K dn q S (w.drewN k) := h.below hK (below_drewN (Below.refl _ _) _)
theorem RS.setNx (hK : RcOk K) (h : RS K dn q S w) (x : Int) : RS K dn { q with nx := x } S (w.setCell ⟨K.br, 115, none⟩ (.int .i64 x)) := by
  obtain ⟨sv, rv, hm, hs, hr⟩ := h.ex
  exact ⟨⟨sv, rv, hm.setNx hK x, own_set hs hK.br _, own_set hr hK.br _⟩, h.hC, h.hS⟩
theorem RS.setOv (hK : RcOk K) (h : RS K dn q S w) (x : Bool) : RS K dn { q with ov := x } S (w.setCell ⟨K.br, 117, none⟩ (.bool x)) := by
  obtain ⟨sv, rv, hm, hs, hr⟩ := h.ex
  exact ⟨⟨sv, rv, hm.setOv hK x, own_set hs hK.br _, own_set hr hK.br _⟩, h.hC, h.hS⟩
theorem RS.setDn (hK : RcOk K) (h : RS K dn q S w) (x : Int) : RS K x q S (w.setCell ⟨K.br, 116, none⟩ (.int .i64 x)) := by
  obtain ⟨sv, rv, hm, hs, hr⟩ := h.ex
  exact ⟨⟨sv, rv, hm.setDn hK x, own_set hs hK.br _, own_set hr hK.br _⟩, h.hC, h.hS⟩
theorem RS.setC (hK : RcOk K) (h : RS K dn q S w) (c : Nat) (x : Int) (hx : in32 x) : RS K dn { q with C := upd q.C c x } S (w.setCell ⟨K.bc, c * 3 + 2, none⟩ (.int .i32 x)) := by
  obtain ⟨sv, rv, hm, hs, hr⟩ := h.ex
  refine ⟨⟨sv, rv, hm.setC hK c x, own_set hs hK.bc _, own_set hr hK.bc _⟩, fun j => ?_, h.hS⟩
  show in32 (upd q.C c x j)
  unfold upd; split
  · exact hx
  · exact h.hC j
end
theorem cell_al {w : World} {a : Addr} {v : Value} (h : w.cell? a = some v) (o : Obj) : (w.alloc o).cell? a = some v := by
  rw [World.cell?_alloc_lt _ _ _ (World.block_lt_of_cell? w a h)]; exact h
theorem frozen_al {w : World} {a : Addr} (h : w.frozen? a = false) (hl : a.block < w.heap.size) (o : Obj) : (w.alloc o).frozen? a = false := by
  rw [World.frozen?_of_block (w := w) (w' := w.alloc o) (Below.heap_alloc w o a.block hl)]; exact h
theorem own_take {w : World} {base e : Nat} {ao : Option Addr} {n cap m : Nat} {xs : List Value} (h : w.ownsRow base e 1 (.slice ao n cap) n xs) (hm : m ≤ n) : w.ownsRow base e 1 (.slice ao m cap) m (xs.take m) := by
  refine ⟨by rw [List.length_take, h.1]; omega, ?_⟩
  rcases h.2 with ⟨hv, hn⟩ | ⟨g, cap', cur, hv, hb, hg, hc, hx, hz, ht⟩
  · injection hv with h1 h2 h3
    subst h1; subst h3
    have : m = 0 := by omega
    subst this
    exact .inl ⟨rfl, rfl⟩
  · injection hv with h1 h2 h3
    subst h1; subst h3
    refine .inr ⟨g, _, cur, rfl, hb, hg, by omega, hx, hz, ?_⟩
    rw [← ht, List.take_take]
    congr 1
    omega
theorem own_one {w : World} {base e : Nat} {v : Value} {n : Nat} {xs : List Value} (h : w.ownsRow base e 1 v n xs) (hn : 0 < n) : ∃ g cap, v = .slice (some ⟨g, 0, none⟩) n cap ∧ n ≤ cap ∧ base ≤ g ∧ g < w.heap.size ∧ (∀ j, w.frozen? ⟨g, j, none⟩ = false) ∧ ∀ j, j < n → w.cell? ⟨g, j, none⟩ = xs[j]? := by
  rcases h.2 with ⟨_, h0⟩ | ⟨g, cap, cur, rfl, hb, hg, hc, hx, hz, ht⟩
  · omega
  · refine ⟨g, cap, rfl, hc, hb, (Array.getElem?_eq_some_iff.1 hg).1, fun j => by simp [World.frozen?, hg], fun j hj => ?_⟩
    rw [cell_of_row w g j cur e (0, 0) hg, ← ht, List.getElem?_take, if_pos (by omega)]
    simp
theorem i32L_len (l : List Int) : (i32L l).length = l.length := by simp [i32L]
theorem i64L_len (l : List Int) : (i64L l).length = l.length := by simp [i64L]
theorem i32L_take (l : List Int) (p : Nat) (hp : p ≤ l.length) : (i32L l).take (l.length - p) = i32L (l.drop p) := by
  unfold i32L
  rw [List.take_reverse, List.length_map, List.map_drop]
  congr 2; omega
theorem i64L_take (l : List Int) (p : Nat) (hp : p ≤ l.length) : (i64L l).take (l.length - p) = i64L (l.drop p) := by
  unfold i64L
  rw [List.take_reverse, List.length_map, List.map_drop]
  congr 2; omega
theorem i32L_at (l : List Int) (p : Nat) (hp : p < l.length) : (i32L l)[l.length - 1 - p]? = some (.int .i32 (l.getD p 0)) := by
  unfold i32L
  rw [List.getElem?_reverse (by simp; omega)]
  simp only [List.length_map, List.getElem?_map]
  rw [show l.length - 1 - (l.length - 1 - p) = p by omega, List.getElem?_eq_getElem hp]
  simp [List.getD, hp]
theorem i64L_at (l : List Int) (p : Nat) (hp : p < l.length) : (i64L l)[l.length - 1 - p]? = some (.int .i64 (l.getD p 0)) := by
  unfold i64L
  rw [List.getElem?_reverse (by simp; omega)]
  simp only [List.length_map, List.getElem?_map]
  rw [show l.length - 1 - (l.length - 1 - p) = p by omega, List.getElem?_eq_getElem hp]
  simp [List.getD, hp]
set_option maxRecDepth 100000 in
theorem doEnd_any {K : Rc} (hK : RcOk K) {dn : Int} {q : Sc} {S : List Int} {w : World} (h : RS K dn q S w) (v0 v1 : Value) (arg cnt lp to_ a b : Int) (R : Ending → World → Prop)
    (fin : ∀ w', RS K dn { q with ov := true } S w' → R (.returned (.tuple #[.int .i32 (0), .int .i64 (0)])) w') :
    Calls Tryz.prog 156 #[.pointer (some ⟨K.br, 0, none⟩), .agg #[v0, v1, .int .i64 arg, .int .i64 cnt, .int .i64 lp, .int .i64 to_], .int .i32 a, .int .i32 b] w R := by
  obtain ⟨sv, rv, hm, hs, hr⟩ := h.ex
  have hlt := hm.run.lt
  replace fin := hd fin
  replace h := hd h
  have c := hm.c117
  have f := hm.run.frozen 117
  clear hm hs hr
  go_enter Tryz.func156, Tryz.ntmps156
  go_wp2
  exact cl1 (fin.out _ ((h.out.setOv hK _).alloc hK _)) rfl
set_option maxRecDepth 100000 in
theorem doNum_any {K : Rc} (hK : RcOk K) {dn : Int} {q : Sc} {S : List Int} {w : World} (h : RS K dn q S w) (v0 v1 : Value) (arg cnt lp to_ a b : Int) (R : Ending → World → Prop)
    (fin : ∀ w', RS K dn q S w' → R (.returned (.tuple #[.int .i32 (wrap32 arg), .int .i64 (0)])) w') :
    Calls Tryz.prog 157 #[.pointer (some ⟨K.br, 0, none⟩), .agg #[v0, v1, .int .i64 arg, .int .i64 cnt, .int .i64 lp, .int .i64 to_], .int .i32 a, .int .i32 b] w R := by
  obtain ⟨sv, rv, hm, hs, hr⟩ := h.ex
  have hlt := hm.run.lt
  replace fin := hd fin
  replace h := hd h
  clear hm hs hr
  go_enter Tryz.func157, Tryz.ntmps157
  go_wp2
  exact cl1 (fin.out _ (h.out.alloc hK _)) rfl
set_option maxRecDepth 100000 in
theorem doJump_any {K : Rc} (hK : RcOk K) {dn : Int} {q : Sc} {S : List Int} {w : World} (h : RS K dn q S w) (v0 v1 : Value) (arg cnt lp to_ a b : Int) (R : Ending → World → Prop)
    (fin : ∀ w', RS K dn { q with nx := to_ } S w' → R (.returned (.tuple #[.int .i32 (0), .int .i64 (0)])) w') :
    Calls Tryz.prog 177 #[.pointer (some ⟨K.br, 0, none⟩), .agg #[v0, v1, .int .i64 arg, .int .i64 cnt, .int .i64 lp, .int .i64 to_], .int .i32 a, .int .i32 b] w R := by
  obtain ⟨sv, rv, hm, hs, hr⟩ := h.ex
  have hlt := hm.run.lt
  replace fin := hd fin
  replace h := hd h
  have c := hm.c115
  have f := hm.run.frozen 115
  clear hm hs hr
  go_enter Tryz.func177, Tryz.ntmps177
  go_wp2
  exact cl1 (fin.out _ ((h.out.setNx hK _).alloc hK _)) rfl
set_option maxRecDepth 100000 in
theorem doUnless_any {K : Rc} (hK : RcOk K) {dn : Int} {q : Sc} {S : List Int} {w : World} (h : RS K dn q S w) (v0 v1 : Value) (arg cnt lp to_ a b : Int) (R : Ending → World → Prop)
    (fin : ∀ w', RS K dn (if a = 0 then { q with nx := to_ } else q) S w' → R (.returned (.tuple #[.int .i32 (0), .int .i64 (0)])) w') :
    Calls Tryz.prog 178 #[.pointer (some ⟨K.br, 0, none⟩), .agg #[v0, v1, .int .i64 arg, .int .i64 cnt, .int .i64 lp, .int .i64 to_], .int .i32 a, .int .i32 b] w R := by
  obtain ⟨sv, rv, hm, hs, hr⟩ := h.ex
  have hlt := hm.run.lt
  replace fin := hd fin
  replace h := hd h
  have c := hm.c115
  have f := hm.run.frozen 115
  clear hm hs hr
  by_cases h0 : a = 0
  · have t0 : (a == 0) = true := by simpa using h0
    rw [if_pos h0] at fin
    go_enter Tryz.func178, Tryz.ntmps178
    go_wp2
    exact cl1 (fin.out _ ((h.out.setNx hK _).alloc hK _)) rfl
  · have t0 : (a == 0) = false := by simpa using h0
    rw [if_neg h0] at fin
    go_enter Tryz.func178, Tryz.ntmps178
    go_wp2
    exact cl1 (fin.out _ (h.out.alloc hK _)) rfl
set_option maxRecDepth 100000 in
theorem doGet_any {K : Rc} (hK : RcOk K) {dn : Int} {q : Sc} {S : List Int} {w : World} (h : RS K dn q S w) (v0 v1 : Value) (arg cnt lp to_ a b : Int) (c : Nat) (hc : arg = (c : Int)) (hcn : c < K.nC) (R : Ending → World → Prop)
    (fin : ∀ w', RS K dn q S w' → R (.returned (.tuple #[.int .i32 (q.C c), .int .i64 (0)])) w') :
    Calls Tryz.prog 158 #[.pointer (some ⟨K.br, 0, none⟩), .agg #[v0, v1, .int .i64 arg, .int .i64 cnt, .int .i64 lp, .int .i64 to_], .int .i32 a, .int .i32 b] w R := by
  obtain ⟨sv, rv, hm, hs, hr⟩ := h.ex
  have hlt := hm.run.lt
  replace fin := hd fin
  replace h := hd h
  subst hc
  have c0 := hm.c111
  have k2 := hm.cel.cell hcn (f := 2) (by omega)
  rw [cellV_2] at k2
  have hlc := hm.cel.lt
  have j1 : (0 : Int) ≤ (c : Int) := by omega
  have j2 : (c : Int) < (K.nC : Int) := by omega
  clear hm hs hr
  go_enter Tryz.func158, Tryz.ntmps158
  go_wp2_with (fail)
  go_quiet (fail)
  go_wp2
  exact cl1 (fin.out _ ((h.out.alloc hK _).below hK (below_drewN (Below.refl _ _) _))) rfl
set_option maxRecDepth 100000 in
theorem doSet_any {K : Rc} (hK : RcOk K) {dn : Int} {q : Sc} {S : List Int} {w : World} (h : RS K dn q S w) (v0 v1 : Value) (arg cnt lp to_ a b : Int) (c : Nat) (hc : arg = (c : Int)) (hcn : c < K.nC) (ha : in32 a) (R : Ending → World → Prop)
    (fin : ∀ w', RS K dn { q with C := upd q.C c (layK (K.kd c) a) } S w' → R (.returned (.tuple #[.int .i32 (0), .int .i64 (0)])) w') :
    Calls Tryz.prog 159 #[.pointer (some ⟨K.br, 0, none⟩), .agg #[v0, v1, .int .i64 arg, .int .i64 cnt, .int .i64 lp, .int .i64 to_], .int .i32 a, .int .i32 b] w R := by
  obtain ⟨sv, rv, hm, hs, hr⟩ := h.ex
  have hlt := hm.run.lt
  replace fin := hd fin
  replace h := hd h
  subst hc
  have c0 := hm.c111
  have k1 := hm.cel.cell hcn (f := 1) (by omega)
  rw [cellV_1] at k1
  have k2 := hm.cel.cell hcn (f := 2) (by omega)
  rw [cellV_2] at k2
  have kf := hm.cel.frozen (c * 3 + 2)
  have hlc := hm.cel.lt
  have nbc := hK.rc
  have j1 : (0 : Int) ≤ (c : Int) := by omega
  have j2 : (c : Int) < (K.nC : Int) := by omega
  clear hm hs hr
  have hw : IntKind.i64.wrap a = a := IntWalk.i64_in _ (by unfold in32 at ha; omega)
  go_enter Tryz.func159, Tryz.ntmps159
  go_wp2_with (fail)
  go_region_with (go_at_call 188; refine lay_any _ _ c (K.kd c) _ (q.C c) (by exact cell_al k1 _) (by exact cell_al k2 _) (by exact frozen_al kf hlc _) _ ?_)
  all_goals
    go_wp2
    exact cl1 (fin.out _ (((h.out.setC hK c _ (layK_in _ _)).alloc hK _).drew hK)) rfl
set_option maxRecDepth 100000 in
theorem doGetX_any {K : Rc} (hK : RcOk K) {dn : Int} {q : Sc} {S : List Int} {w : World} (h : RS K dn q S w) (v0 v1 : Value) (arg cnt lp to_ a b : Int) (c n : Nat) (hc : arg = (c : Int)) (hn : cnt = (n : Int)) (hcn : c + n ≤ K.nC) (ha : in32 a) (R : Ending → World → Prop)
    (fin : ∀ w', RS K dn q S w' → R (.returned (.tuple #[.int .i32 (if 0 ≤ a ∧ a < cnt then q.C (arg + a).toNat else 0), .int .i64 (if 0 ≤ a ∧ a < cnt then 0 else 5)])) w') :
    Calls Tryz.prog 160 #[.pointer (some ⟨K.br, 0, none⟩), .agg #[v0, v1, .int .i64 arg, .int .i64 cnt, .int .i64 lp, .int .i64 to_], .int .i32 a, .int .i32 b] w R := by
  obtain ⟨sv, rv, hm, hs, hr⟩ := h.ex
  have hlt := hm.run.lt
  replace fin := hd fin
  replace h := hd h
  subst hc
  subst hn
  have hw : IntKind.i64.wrap a = a := IntWalk.i64_in _ (by unfold in32 at ha; omega)
  have c0 := hm.c111
  have hlc := hm.cel.lt
  by_cases hi : 0 ≤ a ∧ a < (n : Int)
  · rw [if_pos hi, if_pos hi] at fin
    have dt : decide (0 ≤ a ∧ a < (n : Int)) = true := by simpa using hi
    obtain ⟨k, rfl⟩ := Int.eq_ofNat_of_zero_le hi.1
    have hck : c + k < K.nC := by omega
    have e : ((c : Int) + (k : Int)).toNat = c + k := by omega
    rw [e] at fin
    have k1 := hm.cel.cell hck (f := 1) (by omega)
    rw [cellV_1] at k1
    have k2 := hm.cel.cell hck (f := 2) (by omega)
    rw [cellV_2] at k2
    have kf := hm.cel.frozen ((c + k) * 3 + 2)
    have j1 : 0 ≤ (c : Int) + (k : Int) ∧ (c : Int) + (k : Int) < (K.nC : Int) := by omega
    have j2 : (c : Int) + (k : Int) < (K.nC : Int) := by omega
    have hwc : IntKind.i64.wrap ((c : Int) + (k : Int)) = (c : Int) + (k : Int) := IntWalk.i64_in _ (by have := hK.nC; omega)
    replace e := hd e
    clear hm hs hr
    go_enter Tryz.func160, Tryz.ntmps160
    go_wp2_with (fail)
    refine hasIndex_any _ _ _ _ _ _ _ _ ha _ ?_
    intro w1 hb1
    rw [dt]
    have s2 : (w.alloc (Obj.cells #[v0, v1, .int .i64 (c : Int), .int .i64 (n : Int), .int .i64 lp, .int .i64 to_] 254)).cell? ⟨w.heap.size, 2, none⟩ = some (.int .i64 (c : Int)) := (cell_of_row _ _ 2 _ _ (0, 0) (heap_alloc_new w _)).trans rfl
    have h1 := h.out.below hK (((Below.refl _ _).alloc (Nat.le_refl _) (Obj.cells #[v0, v1, .int .i64 (c : Int), .int .i64 (n : Int), .int .i64 lp, .int .i64 to_] 254)).trans (hb1.mono (by simp)))
    replace c0 := (hb1.cell (p := ⟨K.br, 111, none⟩) (by simp; omega)).trans (cell_al c0 _)
    replace k1 := (hb1.cell (p := ⟨K.bc, (c + k) * 3 + 1, none⟩) (by simp; omega)).trans (cell_al k1 _)
    replace k2 := (hb1.cell (p := ⟨K.bc, (c + k) * 3 + 2, none⟩) (by simp; omega)).trans (cell_al k2 _)
    replace kf := (hb1.frozen (p := ⟨K.bc, (c + k) * 3 + 2, none⟩) (by simp; omega)).trans (frozen_al kf hlc _)
    replace s2 := (hb1.cell (p := ⟨w.heap.size, 2, none⟩) (by simp)).trans s2
    have hsz := hb1.size
    simp only [World.size_alloc] at hsz
    generalize w.heap.size = g5 at *
    replace h1 := hd h1
    clear hb1
    clear kf k1
    go_wp2_with (fail)
    go_quiet (fail)
    go_wp2
    exact cl1 (fin.out _ (h1.out.below hK (below_drewN (Below.refl _ _) _))) rfl
  · rw [if_neg hi, if_neg hi] at fin
    have dt : decide (0 ≤ a ∧ a < (n : Int)) = false := by simpa using hi
    clear hm hs hr
    go_enter Tryz.func160, Tryz.ntmps160
    go_wp2_with (fail)
    refine hasIndex_any _ _ _ _ _ _ _ _ ha _ ?_
    intro w1 hb1
    rw [dt]
    have h1 := hd (h.out.below hK (((Below.refl _ _).alloc (Nat.le_refl _) _).trans (hb1.mono (by simp))))
    clear hb1
    go_wp2
    exact cl1 (fin.out _ h1.out) rfl
set_option maxRecDepth 100000 in
theorem doSetX_any {K : Rc} (hK : RcOk K) {dn : Int} {q : Sc} {S : List Int} {w : World} (h : RS K dn q S w) (v0 v1 : Value) (arg cnt lp to_ a b : Int) (c n : Nat) (hc : arg = (c : Int)) (hn : cnt = (n : Int)) (hcn : c + n ≤ K.nC) (ha : in32 a) (hb : in32 b) (R : Ending → World → Prop)
    (fin : ∀ w', RS K dn (if 0 ≤ a ∧ a < cnt then { q with C := upd q.C (arg + a).toNat (layK (K.kd (arg + a).toNat) b) } else q) S w' → R (.returned (.tuple #[.int .i32 (0), .int .i64 (if 0 ≤ a ∧ a < cnt then 0 else 5)])) w') :
    Calls Tryz.prog 161 #[.pointer (some ⟨K.br, 0, none⟩), .agg #[v0, v1, .int .i64 arg, .int .i64 cnt, .int .i64 lp, .int .i64 to_], .int .i32 a, .int .i32 b] w R := by
  obtain ⟨sv, rv, hm, hs, hr⟩ := h.ex
  have hlt := hm.run.lt
  replace fin := hd fin
  replace h := hd h
  subst hc
  subst hn
  have hw : IntKind.i64.wrap a = a := IntWalk.i64_in _ (by unfold in32 at ha; omega)
  have c0 := hm.c111
  have hlc := hm.cel.lt
  by_cases hi : 0 ≤ a ∧ a < (n : Int)
  · rw [if_pos hi, if_pos hi] at fin
    have dt : decide (0 ≤ a ∧ a < (n : Int)) = true := by simpa using hi
    obtain ⟨k, rfl⟩ := Int.eq_ofNat_of_zero_le hi.1
    have hck : c + k < K.nC := by omega
    have e : ((c : Int) + (k : Int)).toNat = c + k := by omega
    rw [e] at fin
    have k1 := hm.cel.cell hck (f := 1) (by omega)
    rw [cellV_1] at k1
    have k2 := hm.cel.cell hck (f := 2) (by omega)
    rw [cellV_2] at k2
    have kf := hm.cel.frozen ((c + k) * 3 + 2)
    have j1 : 0 ≤ (c : Int) + (k : Int) ∧ (c : Int) + (k : Int) < (K.nC : Int) := by omega
    have j2 : (c : Int) + (k : Int) < (K.nC : Int) := by omega
    have hwc : IntKind.i64.wrap ((c : Int) + (k : Int)) = (c : Int) + (k : Int) := IntWalk.i64_in _ (by have := hK.nC; omega)
    replace e := hd e
    clear hm hs hr
    go_enter Tryz.func161, Tryz.ntmps161
    go_wp2_with (fail)
    refine hasIndex_any _ _ _ _ _ _ _ _ ha _ ?_
    intro w1 hb1
    rw [dt]
    have s2 : (w.alloc (Obj.cells #[v0, v1, .int .i64 (c : Int), .int .i64 (n : Int), .int .i64 lp, .int .i64 to_] 254)).cell? ⟨w.heap.size, 2, none⟩ = some (.int .i64 (c : Int)) := (cell_of_row _ _ 2 _ _ (0, 0) (heap_alloc_new w _)).trans rfl
    have h1 := h.out.below hK (((Below.refl _ _).alloc (Nat.le_refl _) (Obj.cells #[v0, v1, .int .i64 (c : Int), .int .i64 (n : Int), .int .i64 lp, .int .i64 to_] 254)).trans (hb1.mono (by simp)))
    replace c0 := (hb1.cell (p := ⟨K.br, 111, none⟩) (by simp; omega)).trans (cell_al c0 _)
    replace k1 := (hb1.cell (p := ⟨K.bc, (c + k) * 3 + 1, none⟩) (by simp; omega)).trans (cell_al k1 _)
    replace k2 := (hb1.cell (p := ⟨K.bc, (c + k) * 3 + 2, none⟩) (by simp; omega)).trans (cell_al k2 _)
    replace kf := (hb1.frozen (p := ⟨K.bc, (c + k) * 3 + 2, none⟩) (by simp; omega)).trans (frozen_al kf hlc _)
    replace s2 := (hb1.cell (p := ⟨w.heap.size, 2, none⟩) (by simp)).trans s2
    have hsz := hb1.size
    simp only [World.size_alloc] at hsz
    generalize w.heap.size = g5 at *
    replace h1 := hd h1
    clear hb1
    have hwb : IntKind.i64.wrap b = b := IntWalk.i64_in _ (by unfold in32 at hb; omega)
    go_wp2_with (fail)
    go_region_with (go_at_call 188; refine lay_any _ _ (c + k) (K.kd (c + k)) _ (q.C (c + k)) (by exact k1) (by exact k2) (by exact kf) _ ?_)
    all_goals
      go_wp2
      exact cl1 (fin.out _ ((h1.out.setC hK (c + k) _ (layK_in _ _)).drew hK)) rfl
  · rw [if_neg hi, if_neg hi] at fin
    have dt : decide (0 ≤ a ∧ a < (n : Int)) = false := by simpa using hi
    clear hm hs hr
    go_enter Tryz.func161, Tryz.ntmps161
    go_wp2_with (fail)
    refine hasIndex_any _ _ _ _ _ _ _ _ ha _ ?_
    intro w1 hb1
    rw [dt]
    have h1 := hd (h.out.below hK (((Below.refl _ _).alloc (Nat.le_refl _) _).trans (hb1.mono (by simp))))
    clear hb1
    go_wp2
    exact cl1 (fin.out _ h1.out) rfl

end Go.Proofs.YtidhiaaicmfabaaGreatDoor
