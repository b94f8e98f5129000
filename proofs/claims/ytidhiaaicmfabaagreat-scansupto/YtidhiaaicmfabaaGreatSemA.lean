/- What a step of a scan does, and the memory of a scan. -/
import Derived.Test.YtidhiaaicmfabaaGreatMem
import Derived.Test.YtidhiaaicmfabaaGreatSpec
import Derived.Test.YtidhiaaicmfabaaGreatRefA
import Derived.Test.YtidhiaaicmfabaaGreatRefC
import Derived.Test.YtidhiaaicmfabaaGreatSpec2
import Derived.WalkKit
import Derived.WalkSpells
import Derived.WalkLawsBesides
import Derived.Deep.OwnRows
import Derived.BigQuiet
import Derived.Handy
import Derived.Deep.Light
import Derived.Deep.RegionHeld3
import Derived.Deep.RegionWith
import Derived.Test.YtidhiaaicmfabaaGreatVmB
import Derived.Test.YtidhiaaicmfabaaGreatVmC
import Derived.Test.YtidhiaaicmfabaaGreatVmD
namespace Go.Proofs.YtidhiaaicmfabaaGreat
open Go.RowKit Go.Proofs Go.Deep

def tr (b : Bool) : Int := if b then 1 else 0
/-- A number as one of a kind. -/
def layK (k : Nat) (n : Int) : Int := if k = 0 then tr (n != 0) else if k = 1 then IntKind.i16.wrap n else wrap32 n
def in32 (x : Int) : Prop := -2147483648 ≤ x ∧ x ≤ 2147483647
theorem tr_in (b : Bool) : in32 (tr b) := by cases b <;> unfold tr in32 <;> simp
theorem i16_bd (n : Int) : -32768 ≤ IntKind.i16.wrap n ∧ IntKind.i16.wrap n ≤ 32767 := by
  have e : IntKind.i16.wrap n = if n % 65536 ≥ 32768 then n % 65536 - 65536 else n % 65536 := by
    unfold IntKind.wrap
    by_cases h : n % 65536 ≥ 32768 <;> simp [IntKind.bits, IntKind.signed, h]
  rw [e]
  by_cases h : n % 65536 ≥ 32768
  · rw [if_pos h]; omega
  · rw [if_neg h]; omega
theorem w32_bd (n : Int) : in32 (wrap32 n) := by unfold wrap32 in32; omega
theorem w32_16 (n : Int) : wrap32 (IntKind.i16.wrap n) = IntKind.i16.wrap n := by
  have h := i16_bd n
  exact IntWalk.wrap32_in _ (by omega)
theorem layK_in (k : Nat) (n : Int) : in32 (layK k n) := by
  unfold layK
  split
  · exact tr_in _
  · split
    · have := i16_bd n; unfold in32; omega
    · exact w32_bd n
/-- What a step does, with what was popped: the cells, the rounds that are left, where it goes on, whether it is over; what is pushed; the error. -/
structure Sc where
  C : Nat → Int
  Lf : List Int
  nx : Int
  ov : Bool
def doesV (o : Nat) (arg cnt lp to_ : Int) (kd : Nat → Nat) (delta : Int) (a b : Int) (q : Sc) : Sc × Int × Int :=
  if o = 0 then ({ q with ov := true }, 0, 0)
  else if o = 1 then (q, wrap32 arg, 0)
  else if o = 2 then (q, q.C arg.toNat, 0)
  else if o = 3 then ({ q with C := upd q.C arg.toNat (layK (kd arg.toNat) a) }, 0, 0)
  else if o = 4 then (if 0 ≤ a ∧ a < cnt then (q, q.C (arg + a).toNat, 0) else (q, 0, 5))
  else if o = 5 then (if 0 ≤ a ∧ a < cnt then ({ q with C := upd q.C (arg + a).toNat (layK (kd (arg + a).toNat) b) }, 0, 0) else (q, 0, 5))
  else if o = 6 then (q, wrap32 (a + b), 0)
  else if o = 7 then (q, wrap32 (a - b), 0)
  else if o = 8 then (q, wrap32 (a * b), 0)
  else if o = 9 then (if b = 0 then (q, 0, 4) else (q, wrap32 (a.tdiv b), 0))
  else if o = 10 then (if b = 0 then (q, 0, 4) else (q, a.tmod b, 0))
  else if o = 11 then (q, tr (a == b), 0)
  else if o = 12 then (q, tr (decide (a < b)), 0)
  else if o = 13 then (q, tr (a == 0), 0)
  else if o = 14 then (q, tr (a != 0 && b != 0), 0)
  else if o = 15 then (q, tr (a != 0 || b != 0), 0)
  else if o = 16 then (q, IntKind.i16.wrap a, 0)
  else if o = 17 then ({ q with nx := to_ }, 0, 0)
  else if o = 18 then (if a = 0 then ({ q with nx := to_ }, 0, 0) else (q, 0, 0))
  else if o = 19 then ({ q with Lf := arg :: q.Lf }, 0, 0)
  else if o = 20 then (match q.Lf with
    | [] => (q, 0, 0)
    | c :: r => if 0 < c - 1 then ({ q with Lf := (c - 1) :: r, nx := lp + 1 }, 0, 0) else ({ q with Lf := r }, 0, 0))
  else (if a = 0 then ({ q with C := upd q.C arg.toNat 0 }, 0, 0)
    else ({ q with C := upd q.C arg.toNat (min (q.C arg.toNat + delta) 2147483647) }, tr (decide (b ≤ min (q.C arg.toNat + delta) 2147483647)), 0))

/-- What does not turn while a scan is run. -/
structure Rc where
  w0 : World
  br : Nat
  bs : Nat
  bc : Nat
  base : Nat
  n : Nat
  cap : Nat
  nC : Nat
  op : Nat → Nat
  at_ : Nat → Nat
  arg : Nat → Int
  cnt : Nat → Int
  lp : Nat → Int
  to_ : Nat → Int
  rl : Nat → Nat
  kd : Nat → Nat
  nm : Nat → ByteArray
  fv : Nat → Value
  delta : Int
/-- In memory nothing that lies below base has turned but two blocks. -/
structure Twain (b c base : Nat) (w w' : World) : Prop where
  os : w'.os = w.os
  tape : w'.tape = w.tape
  output : w'.output = w.output
  size : base ≤ w'.heap.size
  block : ∀ k, k < base → k ≠ b → k ≠ c → w'.heap[k]? = w.heap[k]?
def cellV (rl kd : Nat → Nat) (C : Nat → Int) (i f : Nat) : Value := if f = 0 then .int .u8 (rl i : Int) else if f = 1 then .int .u8 (kd i : Int) else .int .i32 (C i)
theorem cellV_0 {rl kd : Nat → Nat} {C : Nat → Int} {i : Nat} : cellV rl kd C i 0 = .int .u8 (rl i : Int) := rfl
theorem cellV_1 {rl kd : Nat → Nat} {C : Nat → Int} {i : Nat} : cellV rl kd C i 1 = .int .u8 (kd i : Int) := rfl
theorem cellV_2 {rl kd : Nat → Nat} {C : Nat → Int} {i : Nat} : cellV rl kd C i 2 = .int .i32 (C i) := rfl
def rowF (nm : Nat → ByteArray) (fv : Nat → Value) (j : Nat) : Value :=
  if j % 5 = 0 then .string (nm (j / 5)) else if j % 5 = 1 then .int .u8 (opnd (j / 5) : Nat) else if j % 5 = 2 then .int .i64 (popsOf (j / 5) : Nat) else if j % 5 = 3 then .int .i64 (pushesOf (j / 5) : Nat) else fv (j / 5)
def runF (K : Rc) (sv rv : Value) (nx dn : Int) (ov : Bool) (j : Nat) : Value :=
  if j < 110 then rowF K.nm K.fv j else if j = 110 then .slice (some ⟨K.bs, 0, none⟩) K.n K.cap else if j = 111 then .slice (some ⟨K.bc, 0, none⟩) K.nC K.nC else if j = 112 then .int .i64 K.delta
  else if j = 113 then sv else if j = 114 then rv else if j = 115 then .int .i64 nx else if j = 116 then .int .i64 dn else .bool ov
structure RcOk (K : Rc) : Prop where
  br : K.br < K.base
  bs : K.bs < K.base
  bc : K.bc < K.base
  rs : K.br ≠ K.bs
  rc : K.br ≠ K.bc
  sc : K.bs ≠ K.bc
  size : K.base ≤ K.w0.heap.size
  n : K.n ≤ 8000
  nC : K.nC ≤ 100
  dl : 0 ≤ K.delta ∧ K.delta ≤ 1000000
  steps : Tab K.w0 K.bs 121 6 K.n K.cap (stepA K.op K.at_ K.arg K.cnt K.lp K.to_)
/-- The memory of a scan, less its stack and its open FORs. -/
structure RM (K : Rc) (sv rv : Value) (nx dn : Int) (ov : Bool) (C : Nat → Int) (w : World) : Prop where
  fr : Twain K.br K.bc K.base K.w0 w
  run : w.rowIs K.br 115 118 (runF K sv rv nx dn ov)
  cel : Tab w K.bc 79 3 K.nC K.nC (cellV K.rl K.kd C)
def i32L (l : List Int) : List Value := (l.map (fun x => Value.int .i32 x)).reverse
def i64L (l : List Int) : List Value := (l.map (fun x => Value.int .i64 x)).reverse
/-- A scan on its way. -/
structure RS (K : Rc) (dn : Int) (q : Sc) (S : List Int) (w : World) : Prop where
  ex : ∃ sv rv, RM K sv rv q.nx dn q.ov q.C w ∧ w.ownsRow K.base 21 1 sv S.length (i32L S) ∧ w.ownsRow K.base 3 1 rv q.Lf.length (i64L q.Lf)
  hC : ∀ j, in32 (q.C j)
  hS : ∀ x ∈ S, in32 x
section
variable {K : Rc} {sv rv : Value} {nx dn : Int} {ov : Bool} {C : Nat → Int} {w w' : World}
theorem RM.below (hK : RcOk K) (h : RM K sv rv nx dn ov C w) (hb : Below K.base w w') : RM K sv rv nx dn ov C w' :=
  ⟨⟨hb.os.trans h.fr.os, hb.tape.trans h.fr.tape, hb.output.trans h.fr.output, Nat.le_trans h.fr.size hb.size, fun k hk h1 h2 => (hb.block k hk).trans (h.fr.block k hk h1 h2)⟩,
    h.run.of_block (hb.block _ hK.br), h.cel.of_block (hb.block _ hK.bc)⟩
theorem RM.alloc (hK : RcOk K) (h : RM K sv rv nx dn ov C w) (o : Obj) : RM K sv rv nx dn ov C (w.alloc o) := h.below hK ((Below.refl _ _).alloc h.fr.size o)
theorem RM.drew (hK : RcOk K) (h : RM K sv rv nx dn ov C w) : RM K sv rv nx dn ov C w.drew := h.below hK (Below.refl _ _).drew
theorem RM.setRun (hK : RcOk K) (h : RM K sv rv nx dn ov C w) (j : Nat) (v : Value) {sv' rv' : Value} {nx' dn' : Int} {ov' : Bool} (e : ∀ i, i < 118 → (if i = j then v else runF K sv rv nx dn ov i) = runF K sv' rv' nx' dn' ov' i) :
    RM K sv' rv' nx' dn' ov' C (w.setCell ⟨K.br, j, none⟩ v) :=
  ⟨⟨h.fr.os, h.fr.tape, h.fr.output, by rw [World.size_setCell]; exact h.fr.size, fun k hk h1 h2 => by rw [Below.heap_setCell _ _ _ _ h1]; exact h.fr.block k hk h1 h2⟩,
    (h.run.set j v).congr e, h.cel.setOther (Ne.symm hK.rc) _⟩
theorem RM.setNx (hK : RcOk K) (h : RM K sv rv nx dn ov C w) (x : Int) : RM K sv rv x dn ov C (w.setCell ⟨K.br, 115, none⟩ (.int .i64 x)) := h.setRun hK 115 _ (fun i _ => by unfold runF; by_cases e : i = 115 <;> simp [e])
theorem RM.setDn (hK : RcOk K) (h : RM K sv rv nx dn ov C w) (x : Int) : RM K sv rv nx x ov C (w.setCell ⟨K.br, 116, none⟩ (.int .i64 x)) := h.setRun hK 116 _ (fun i _ => by unfold runF; by_cases e : i = 116 <;> simp [e])
theorem RM.setOv (hK : RcOk K) (h : RM K sv rv nx dn ov C w) (x : Bool) : RM K sv rv nx dn x C (w.setCell ⟨K.br, 117, none⟩ (.bool x)) := h.setRun hK 117 _ (fun i hi => by
  unfold runF
  by_cases e : i = 117
  · simp [e]
  · rw [if_neg e]
    repeat' split
    all_goals first | rfl | omega)
theorem RM.setSv (hK : RcOk K) (h : RM K sv rv nx dn ov C w) (x : Value) : RM K x rv nx dn ov C (w.setCell ⟨K.br, 113, none⟩ x) := h.setRun hK 113 _ (fun i _ => by unfold runF; by_cases e : i = 113 <;> simp [e])
theorem RM.setRv (hK : RcOk K) (h : RM K sv rv nx dn ov C w) (x : Value) : RM K sv x nx dn ov C (w.setCell ⟨K.br, 114, none⟩ x) := h.setRun hK 114 _ (fun i _ => by unfold runF; by_cases e : i = 114 <;> simp [e])
theorem RM.setC (hK : RcOk K) (h : RM K sv rv nx dn ov C w) (c : Nat) (x : Int) : RM K sv rv nx dn ov (upd C c x) (w.setCell ⟨K.bc, c * 3 + 2, none⟩ (.int .i32 x)) :=
  ⟨⟨h.fr.os, h.fr.tape, h.fr.output, by rw [World.size_setCell]; exact h.fr.size, fun k hk h1 h2 => by rw [Below.heap_setCell _ _ _ _ h2]; exact h.fr.block k hk h1 h2⟩,
    h.run.setOther hK.rc _, (h.cel.set c 2 (by omega) _).congr (fun j _ g hg => by
      have hcg : g = 0 ∨ g = 1 ∨ g = 2 := by omega
      rcases hcg with rfl | rfl | rfl
      · simp [cellV]
      · simp [cellV]
      · by_cases e : j = c <;> simp [cellV, upd, e])⟩
theorem RM.steps (hK : RcOk K) (h : RM K sv rv nx dn ov C w) : Tab w K.bs 121 6 K.n K.cap (stepA K.op K.at_ K.arg K.cnt K.lp K.to_) := hK.steps.of_block (h.fr.block _ hK.bs (Ne.symm hK.rs) hK.sc)
theorem RM.c110 (h : RM K sv rv nx dn ov C w) : w.cell? ⟨K.br, 110, none⟩ = some (.slice (some ⟨K.bs, 0, none⟩) K.n K.cap) := h.run.cell (i := 110) (by omega)
theorem RM.c111 (h : RM K sv rv nx dn ov C w) : w.cell? ⟨K.br, 111, none⟩ = some (.slice (some ⟨K.bc, 0, none⟩) K.nC K.nC) := h.run.cell (i := 111) (by omega)
theorem RM.c112 (h : RM K sv rv nx dn ov C w) : w.cell? ⟨K.br, 112, none⟩ = some (.int .i64 K.delta) := h.run.cell (i := 112) (by omega)
theorem RM.c113 (h : RM K sv rv nx dn ov C w) : w.cell? ⟨K.br, 113, none⟩ = some sv := h.run.cell (i := 113) (by omega)
theorem RM.c114 (h : RM K sv rv nx dn ov C w) : w.cell? ⟨K.br, 114, none⟩ = some rv := h.run.cell (i := 114) (by omega)
theorem RM.c115 (h : RM K sv rv nx dn ov C w) : w.cell? ⟨K.br, 115, none⟩ = some (.int .i64 nx) := h.run.cell (i := 115) (by omega)
theorem RM.c116 (h : RM K sv rv nx dn ov C w) : w.cell? ⟨K.br, 116, none⟩ = some (.int .i64 dn) := h.run.cell (i := 116) (by omega)
theorem RM.c117 (h : RM K sv rv nx dn ov C w) : w.cell? ⟨K.br, 117, none⟩ = some (.bool ov) := h.run.cell (i := 117) (by omega)
theorem RM.row (h : RM K sv rv nx dn ov C w) {o : Nat} (ho : o < 22) : w.cell? ⟨K.br, o * 5 + 2, none⟩ = some (.int .i64 (popsOf o : Nat)) ∧ w.cell? ⟨K.br, o * 5 + 3, none⟩ = some (.int .i64 (pushesOf o : Nat)) ∧ w.cell? ⟨K.br, o * 5 + 4, none⟩ = some (K.fv o) := by
  have e : ∀ f, f < 5 → (o * 5 + f) % 5 = f ∧ (o * 5 + f) / 5 = o := fun f hf => by omega
  refine ⟨?_, ?_, ?_⟩
  · rw [h.run.cell (i := o * 5 + 2) (by omega)]; unfold runF rowF; rw [if_pos (by omega), (e 2 (by omega)).1, (e 2 (by omega)).2]; rfl
  · rw [h.run.cell (i := o * 5 + 3) (by omega)]; unfold runF rowF; rw [if_pos (by omega), (e 3 (by omega)).1, (e 3 (by omega)).2]; rfl
  · rw [h.run.cell (i := o * 5 + 4) (by omega)]; unfold runF rowF; rw [if_pos (by omega), (e 4 (by omega)).1, (e 4 (by omega)).2]; rfl
end
theorem own_two {w : World} {b1 b2 e1 e2 z1 z2 : Nat} {v1 v2 : Value} {n1 n2 : Nat} {x1 x2 : List Value} (h1 : w.ownsRow b1 e1 z1 v1 n1 x1) (h2 : w.ownsRow b2 e2 z2 v2 n2 x2) (he : e1 ≠ e2) : v2.ownBlock = none ∨ v2.ownBlock ≠ v1.ownBlock := by
  rcases h2.2 with ⟨rfl, _⟩ | ⟨g, cap, cur, rfl, _, hg, _⟩
  · exact .inl rfl
  · refine .inr ?_
    rcases h1.2 with ⟨rfl, _⟩ | ⟨g', cap', cur', rfl, _, hg', _⟩
    · simp [Value.ownBlock]
    · intro e
      have e' : g = g' := by simpa [Value.ownBlock] using e
      subst e'
      rw [hg] at hg'
      injection hg' with hg'
      injection hg' with _ h3
      exact he h3.symm

end Go.Proofs.YtidhiaaicmfabaaGreat
