/- Small laws; the plain functions by which an image is read. -/
import Derived.Test.YtidhiaaicmfabaaGreatDoorProg
import Derived.WalkKit
import Derived.WalkSpells
import Derived.WalkLawsBesides
import Derived.Deep.OwnRows
import Derived.BigQuiet
import Derived.Handy
import Derived.Deep.Light

/- Small laws that the walks share, and the plain functions by which an image's bytes are read. -/
namespace Go.Proofs.YtidhiaaicmfabaaGreatDoor
open Go.RowKit Go.Proofs Go.Deep

theorem cl1 {R : Ending → World → Prop} {w : World} {v v' : Value} (h : R (.returned v) w) (e : v = v') : R (.returned v') w := e ▸ h
theorem hd {p : Prop} (h : p) : Hid p := h
theorem alloc_at {W : World} {o : Obj} {g : Nat} (h : g = W.heap.size) : (W.alloc o).heap[g]? = some o := h ▸ heap_alloc_new W o
theorem own_drew {w : World} {base e size : Nat} {v : Value} {n : Nat} {xs : List Value} (h : w.ownsRow base e size v n xs) : w.drew.ownsRow base e size v n xs := h
theorem own_drewN {w : World} {base e size : Nat} {v : Value} {n : Nat} {xs : List Value} (h : w.ownsRow base e size v n xs) (k : Nat) : (w.drewN k).ownsRow base e size v n xs := h
theorem wpList_app {P : Program} (w0 : World) {ops : Array Oper} {rest : List Oper} {o : Oper} {a : Act} {Q : Exit → Act → World → Prop} (hgd : o.guard = none) (s x : Operand) (t : TypeId)
    (ho : o.op = .call { callee := .builtin .append, args := #[s, x], argTypes := #[t, t] })
    (base : Nat) (e : TypeId) (z : Value) (size bytes : Nat) (ht : P.underlying t = some (.slice e))
    (hinfo : (P.info? e).map (fun i => (i.zero, i.size, i.bytes)) = some (some z, size, bytes)) (hzs : z.cells.size = size) (hsz : 0 < size)
    (v : Value) (n : Nat) (xs : List Value) (hs : a.eval s = v) (hown : w0.ownsRow base e size v n xs)
    (g m c : Nat) (news : List Value) (hx : a.eval x = .slice (some ⟨g, 0, none⟩) m c) (hg : w0.heap[g]? = some (.cells news.toArray e)) (hl : news.length = m * size) (h1 : ∀ u ∈ news, u.oneCell' = true)
    (h63 : n + m ≤ maxLen) (hbytes : (n + m) * bytes ≤ 140737488355328) (hbase : base ≤ w0.heap.size)
    (h : ∀ v' w', w'.ownsRow base e size v' (n + m) (xs ++ news) → w0.grownBy w' v.ownBlock → wpList P ops Q rest (a.put o.dst v') w') :
    wpList P ops Q (o :: rest) a w0 := by
  obtain ⟨i, hi, hzz⟩ := Option.map_eq_some_iff.1 hinfo
  simp only [Prod.mk.injEq] at hzz
  obtain ⟨hz, hs1, hb1⟩ := hzz
  refine wpList_append_own _ hgd s x t ho base e i z size bytes ht hi hz hs1 hb1 hzs hsz v n xs hs hown ⟨g, 0, none⟩ m c news hx hl ?_ h1 h63 hbytes hbase (fun v' w' h2 h3 _ => h v' w' h2 h3)
  intro j u hu
  have hadd : (⟨g, 0, none⟩ : Addr).add j = ⟨g, j, none⟩ := by unfold Addr.add; split <;> simp_all
  rw [hadd, cell_of_row _ g j news.toArray e (0, 0) hg]
  simpa using hu
def osz (op : Nat) : Nat := if op = 1 then 5 else if op = 2 ∨ op = 3 ∨ op = 21 then 2 else if op = 4 ∨ op = 5 ∨ op = 17 ∨ op = 18 ∨ op = 19 then 3 else if 21 < op then 0 else 1
def bt (s : ByteArray) (i : Nat) : Nat := if h : i < s.size then s[i].toNat else 0
theorem bt_of (s : ByteArray) (i : Nat) (h : i < s.size) : s[i].toNat = bt s i := by simp [bt, h]
theorem bt_le (s : ByteArray) (i : Nat) : bt s i ≤ 255 := by
  unfold bt; split
  · rename_i h; have := s[i].toNat_lt; omega
  · omega
def posF (s : ByteArray) : Nat → Nat → Option (List Nat)
  | 0, _ => none
  | f + 1, a => if a < s.size then (if osz (bt s a) = 0 ∨ s.size < a + osz (bt s a) then none else (posF s f (a + osz (bt s a))).map (a :: ·)) else some []
def b16 (s : ByteArray) (a : Nat) : Nat := 256 * bt s a + bt s (a + 1)
def b32 (s : ByteArray) (a : Nat) : Nat := 256 * (256 * (256 * bt s a + bt s (a + 1)) + bt s (a + 2)) + bt s (a + 3)
def s32 (s : ByteArray) (a : Nat) : Int := if 2147483648 ≤ b32 s a then (b32 s a : Int) - 4294967296 else b32 s a
def insC (s : ByteArray) (a : Nat) : Nat := if bt s a = 2 ∨ bt s a = 3 ∨ bt s a = 4 ∨ bt s a = 5 ∨ bt s a = 21 then bt s (a + 1) else 0
def insN (s : ByteArray) (a : Nat) : Int :=
  if bt s a = 1 then s32 s (a + 1) else if bt s a = 17 ∨ bt s a = 18 ∨ bt s a = 19 then b16 s (a + 1) else if bt s a = 4 ∨ bt s a = 5 then bt s (a + 2)
  else if bt s a = 2 ∨ bt s a = 3 ∨ bt s a = 21 then 1 else 0
def doC (s : ByteArray) (a : Nat) : List Value := [.int .i64 a, .int .i64 (bt s a), .int .i64 (insC s a), .int .i64 (insN s a), .int .i64 (-1), .int .i64 (-1)]

theorem posF_next (s : ByteArray) (N a k : Nat) (l : List Nat) (h : posF s N 0 = (posF s (N - l.length) a).map (l ++ ·)) (hN : l.length < N) (ha : a < s.size) (hk : osz (bt s a) = k) (h0 : k ≠ 0) (hf : a + k ≤ s.size) :
    posF s N 0 = (posF s (N - (l ++ [a]).length) (a + k)).map ((l ++ [a]) ++ ·) := by
  rw [h]
  obtain ⟨F, hF⟩ : ∃ F, N - l.length = F + 1 := ⟨N - l.length - 1, by omega⟩
  have hF' : N - (l ++ [a]).length = F := by simp; omega
  rw [hF, hF']
  simp only [posF, ha, if_true, hk]
  rw [if_neg (by omega)]
  cases posF s F (a + k) <;> simp
theorem posF_bad (s : ByteArray) (N a : Nat) (l : List Nat) (h : posF s N 0 = (posF s (N - l.length) a).map (l ++ ·)) (hN : l.length < N) (ha : a < s.size) (hb : osz (bt s a) = 0 ∨ s.size < a + osz (bt s a)) :
    posF s N 0 = none := by
  rw [h]
  obtain ⟨F, hF⟩ : ∃ F, N - l.length = F + 1 := ⟨N - l.length - 1, by omega⟩
  rw [hF]
  simp only [posF, ha, if_true]
  rw [if_pos hb]; rfl
theorem posF_end (s : ByteArray) (N a : Nat) (l : List Nat) (h : posF s N 0 = (posF s (N - l.length) a).map (l ++ ·)) (hN : l.length < N) (ha : ¬ a < s.size) :
    posF s N 0 = some l := by
  rw [h]
  obtain ⟨F, hF⟩ : ∃ F, N - l.length = F + 1 := ⟨N - l.length - 1, by omega⟩
  rw [hF]
  simp [posF, ha]
theorem oneC6 (a b c d e f : Int) : ∀ u ∈ [Value.int .i64 a, .int .i64 b, .int .i64 c, .int .i64 d, .int .i64 e, .int .i64 f], u.oneCell' = true := by
  intro u hu; simp only [List.mem_cons, List.not_mem_nil, or_false] at hu; rcases hu with rfl | rfl | rfl | rfl | rfl | rfl <;> rfl
theorem own_next {w1 : World} {base T : Nat} {v1 : Value} {s : ByteArray} {l : List Nat} {a : Nat} {news : List Value}
    (h : w1.ownsRow base T 6 v1 (l.length + 1) (l.flatMap (doC s) ++ news)) (e : news = doC s a) : w1.ownsRow base T 6 v1 (l ++ [a]).length ((l ++ [a]).flatMap (doC s)) := by
  subst e; simpa using h
theorem news_num (s : ByteArray) (a : Nat) (X : Int) (h1 : bt s a = 1) (hX : X = s32 s (a + 1)) : [Value.int .i64 a, .int .i64 (bt s a), .int .i64 0, .int .i64 X, .int .i64 (-1), .int .i64 (-1)] = doC s a := by
  subst hX; simp [doC, insC, insN, h1]
theorem b32_le (s : ByteArray) (a : Nat) : b32 s a ≤ 4294967295 := by
  have g1 := bt_le s a
  have g2 := bt_le s (a + 1)
  have g3 := bt_le s (a + 2)
  have g4 := bt_le s (a + 3)
  unfold b32; omega
theorem num_any (s : ByteArray) (a : Nat) :
    wrap64 (wrap64 (256 * wrap64 (wrap64 (256 * wrap64 (wrap64 (256 * wrap64 (wrap64 ↑(bt s (a + 1)))) + wrap64 ↑(bt s (a + 2)))) + wrap64 ↑(bt s (a + 3)))) + wrap64 ↑(bt s (a + 4))) = (b32 s (a + 1) : Int) := by
  have g1 := bt_le s (a + 1)
  have g2 := bt_le s (a + 2)
  have g3 := bt_le s (a + 3)
  have g4 := bt_le s (a + 4)
  unfold b32
  simp only [Nat.add_assoc, Nat.reduceAdd]
  simp (disch := omega) only [IntWalk.wrap64_in]
  omega
theorem num_hi (s : ByteArray) (a : Nat) (E : Int) (hE : E = (b32 s a : Int)) (h : 2147483648 ≤ E) : wrap64 (E - 4294967296) = s32 s a := by
  have := b32_le s a
  subst hE
  unfold s32
  rw [if_pos (by omega), IntWalk.wrap64_in _ (by omega)]
theorem num_lo (s : ByteArray) (a : Nat) (E : Int) (hE : E = (b32 s a : Int)) (h : E < 2147483648) : E = s32 s a := by
  subst hE
  unfold s32
  rw [if_neg (by omega)]


end Go.Proofs.YtidhiaaicmfabaaGreatDoor

/- Small laws on memory: a table of rows in one block; what a call leaves alone but for one block. -/
namespace Go.Proofs.YtidhiaaicmfabaaGreatDoor
open Go.RowKit Go.Proofs Go.Deep

/-- Block b holds a table: n rows (room for cap) of sz cells each. -/
def Tab (w : World) (b T sz n cap : Nat) (A : Nat → Nat → Value) : Prop :=
  ∃ cur : Array Value, w.heap[b]? = some (.cells cur T (0, 0)) ∧ cur.size = cap * sz ∧ n ≤ cap ∧ ∀ i, i < n → ∀ f, f < sz → cur[i * sz + f]? = some (A i f)

theorem rowcol {sz i j f g : Nat} (hf : f < sz) (hg : g < sz) (h : i * sz + f = j * sz + g) : i = j ∧ f = g := by
  have h1 : (i * sz + f) / sz = i := by rw [Nat.mul_comm, Nat.mul_add_div (by omega), Nat.div_eq_of_lt hf]; omega
  have h2 : (j * sz + g) / sz = j := by rw [Nat.mul_comm, Nat.mul_add_div (by omega), Nat.div_eq_of_lt hg]; omega
  have : i = j := by rw [← h1, ← h2, h]
  subst this
  omega

section
variable {w w' : World} {b T sz n cap : Nat} {A A' : Nat → Nat → Value}
theorem Tab.cell (h : Tab w b T sz n cap A) {i f : Nat} (hi : i < n) (hf : f < sz) : w.cell? ⟨b, i * sz + f, none⟩ = some (A i f) := by
  obtain ⟨c, hb, _, _, hc⟩ := h
  simp [World.cell?, hb, hc i hi f hf]
theorem Tab.cell0 (h : Tab w b T sz n cap A) {i : Nat} (hi : i < n) (hf : 0 < sz) : w.cell? ⟨b, i * sz, none⟩ = some (A i 0) := h.cell hi hf
theorem Tab.frozen (h : Tab w b T sz n cap A) (o : Nat) : w.frozen? ⟨b, o, none⟩ = false := by
  obtain ⟨c, hb, _⟩ := h
  simp [World.frozen?, hb]
theorem Tab.lt (h : Tab w b T sz n cap A) : b < w.heap.size := by
  obtain ⟨c, hb, _⟩ := h
  exact (Array.getElem?_eq_some_iff.1 hb).1
theorem Tab.le (h : Tab w b T sz n cap A) : n ≤ cap := by
  obtain ⟨c, _, _, h, _⟩ := h
  exact h
theorem Tab.congr (h : Tab w b T sz n cap A) (e : ∀ i, i < n → ∀ f, f < sz → A i f = A' i f) : Tab w b T sz n cap A' := by
  obtain ⟨c, hb, hn, hl, hc⟩ := h
  exact ⟨c, hb, hn, hl, fun i hi f hf => by rw [hc i hi f hf, e i hi f hf]⟩
theorem Tab.of_block (h : Tab w b T sz n cap A) (e : w'.heap[b]? = w.heap[b]?) : Tab w' b T sz n cap A := by
  obtain ⟨c, hb, r⟩ := h
  exact ⟨c, e.trans hb, r⟩
theorem Tab.set (h : Tab w b T sz n cap A) (i f : Nat) (hf : f < sz) (v : Value) : Tab (w.setCell ⟨b, i * sz + f, none⟩ v) b T sz n cap (fun j g => if j = i ∧ g = f then v else A j g) := by
  obtain ⟨c, hb, hn, hl, hc⟩ := h
  refine ⟨c.setIfInBounds (i * sz + f) v, ?_, by simpa using hn, hl, fun j hj g hg => ?_⟩
  · simp [World.setCell, Array.getElem?_modify, hb]
  · rw [Array.getElem?_setIfInBounds]
    by_cases e : j = i ∧ g = f
    · obtain ⟨rfl, rfl⟩ := e
      have hlt : j * sz + g < c.size := by
        have := hc j hj g hg
        exact (Array.getElem?_eq_some_iff.1 this).1
      simp [hlt]
    · have hne : ¬ (i * sz + f = j * sz + g) := fun h' => e (by have := rowcol hf hg h'; exact ⟨this.1.symm, this.2.symm⟩)
      simp only [hne, if_false, e]
      exact hc j hj g hg
theorem Tab.setOther (h : Tab w b T sz n cap A) {a : Addr} (ha : b ≠ a.block) (v : Value) : Tab (w.setCell a v) b T sz n cap A := h.of_block (Below.heap_setCell _ _ _ _ ha)
theorem Tab.alloc (h : Tab w b T sz n cap A) (o : Obj) : Tab (w.alloc o) b T sz n cap A := h.of_block (Below.heap_alloc _ _ _ h.lt)
theorem Tab.drewN (h : Tab w b T sz n cap A) (k : Nat) : Tab (w.drewN k) b T sz n cap A := h
theorem Tab.drew (h : Tab w b T sz n cap A) : Tab w.drew b T sz n cap A := h
end

/-- Of what was there in w nothing has turned but block b. -/
structure Only (b : Nat) (w w' : World) : Prop where
  os : w'.os = w.os
  tape : w'.tape = w.tape
  output : w'.output = w.output
  size : w.heap.size ≤ w'.heap.size
  block : ∀ k, k < w.heap.size → k ≠ b → w'.heap[k]? = w.heap[k]?

section
variable {b : Nat} {w w' w'' : World}
theorem Only.refl (b : Nat) (w : World) : Only b w w := ⟨rfl, rfl, rfl, Nat.le_refl _, fun _ _ _ => rfl⟩
theorem Only.trans (h : Only b w w') (k : Only b w' w'') : Only b w w'' :=
  ⟨k.os.trans h.os, k.tape.trans h.tape, k.output.trans h.output, Nat.le_trans h.size k.size, fun i hi hb => (k.block i (Nat.lt_of_lt_of_le hi h.size) hb).trans (h.block i hi hb)⟩
theorem Only.of_below (h : Below w.heap.size w w') : Only b w w' := ⟨h.os, h.tape, h.output, h.size, fun k hk _ => h.block k hk⟩
theorem Only.drewN (h : Only b w w') (n : Nat) : Only b w (w'.drewN n) := ⟨h.os, h.tape, h.output, h.size, h.block⟩
theorem Only.drew (h : Only b w w') : Only b w w'.drew := ⟨h.os, h.tape, h.output, h.size, h.block⟩
theorem Only.alloc (h : Only b w w') (o : Obj) : Only b w (w'.alloc o) :=
  h.trans ⟨rfl, rfl, rfl, by simp, fun k hk _ => Below.heap_alloc _ _ _ hk⟩
theorem Only.setCell (h : Only b w w') {a : Addr} (ha : a.block = b ∨ w.heap.size ≤ a.block) (v : Value) : Only b w (w'.setCell a v) :=
  ⟨h.os, h.tape, h.output, by have := h.size; simpa [World.setCell] using this, fun k hk hb => by
    rw [Below.heap_setCell _ _ _ _ (by omega)]; exact h.block k hk hb⟩
theorem Only.grown {row : Option Nat} (h : Only b w w') (hg : w'.grownBy w'' row) (hr : ∀ k, row = some k → k = b ∨ w.heap.size ≤ k) : Only b w w'' :=
  ⟨hg.os.trans h.os, hg.tape.trans h.tape, hg.output.trans h.output, Nat.le_trans h.size hg.size, fun k hk hb => by
    rw [hg.block k (Nat.lt_of_lt_of_le hk h.size) (fun e => by have := hr k e.symm; omega)]; exact h.block k hk hb⟩
theorem Only.cell (h : Only b w w') {p : Addr} (hp : p.block < w.heap.size) (hb : p.block ≠ b) : w'.cell? p = w.cell? p := World.cell?_of_block (w := w) (h.block p.block hp hb)
theorem Only.frozen (h : Only b w w') {p : Addr} (hp : p.block < w.heap.size) (hb : p.block ≠ b) : w'.frozen? p = w.frozen? p := World.frozen?_of_block (w := w) (h.block p.block hp hb)
theorem Only.below {B : Nat} (h : Only b w w') (hB : B ≤ b) (hw : B ≤ w.heap.size) : Below B w w' := ⟨h.os, h.tape, h.output, h.size, fun k hk => h.block k (by omega) (by omega)⟩
end

/-- A slice of one-cell elements that the call owns: its value and its cells. -/
theorem own_form {w : World} {base e : Nat} {v : Value} {n : Nat} {xs : List Value} (h : w.ownsRow base e 1 v n xs) :
    ∃ ao cap, v = .slice ao n cap ∧ n ≤ cap ∧ (0 < n → ∃ g, ao = some ⟨g, 0, none⟩ ∧ base ≤ g ∧ g < w.heap.size ∧ ∀ j u, xs[j]? = some u → w.cell? ⟨g, j, none⟩ = some u) := by
  rcases h.2 with ⟨rfl, rfl⟩ | ⟨g, cap, cur, rfl, hb, hg, hn, _⟩
  · exact ⟨none, 0, rfl, Nat.le_refl _, fun h => by omega⟩
  · refine ⟨_, cap, rfl, hn, fun _ => ⟨g, rfl, hb, (Array.getElem?_eq_some_iff.1 hg).1, fun j u hu => ?_⟩⟩
    have := h.cells (g := g) rfl j u hu
    have hadd : (⟨g, 0, none⟩ : Addr).add j = ⟨g, j, none⟩ := by unfold Addr.add; split <;> simp_all
    rwa [hadd] at this

/-- A table out of an owned row. -/
theorem own_tab {w : World} {base T sz : Nat} {v : Value} {n : Nat} {xs : List Value} {A : Nat → Nat → Value} (h : w.ownsRow base T sz v n xs) (hn : 0 < n)
    (hA : ∀ i, i < n → ∀ f, f < sz → xs[i * sz + f]? = some (A i f)) : ∃ b cap, v = .slice (some ⟨b, 0, none⟩) n cap ∧ base ≤ b ∧ Tab w b T sz n cap A := by
  rcases h.2 with ⟨rfl, rfl⟩ | ⟨g, cap, cur, rfl, hb, hg, hle, _, hcs, htake⟩
  · omega
  · refine ⟨g, cap, rfl, hb, cur, hg, hcs, hle, fun i hi f hf => ?_⟩
    have h1 := hA i hi f hf
    rw [← htake, List.getElem?_take] at h1
    split at h1
    · simpa using h1
    · cases h1

end Go.Proofs.YtidhiaaicmfabaaGreatDoor

/- The plain functions by which the loops, the jumps and the ways of an image are told; no word of the program. -/
namespace Go.Proofs.YtidhiaaicmfabaaGreatDoor

/-- The FORs that are open ahead of instruction k, the last one first; none: a rule is broken. -/
def stk (op : Nat → Nat) : Nat → Option (List Nat)
  | 0 => some []
  | k + 1 =>
    match stk op k with
    | none => none
    | some st =>
      if op k = 19 then (if 10 ≤ st.length then none else some (k :: st))
      else if op k = 20 then (match st with | [] => none | _ :: t => some t)
      else some st

/-- The FOR in which instruction k stands; -1: none. -/
def inOf (op : Nat → Nat) (k : Nat) : Int :=
  match stk op k with
  | some (f :: _) => f
  | _ => -1

theorem stk_none (op : Nat → Nat) {k n : Nat} (h : stk op k = none) (hn : k ≤ n) : stk op n = none := by
  induction n with
  | zero => have : k = 0 := by omega
            subst this; exact h
  | succ n ih =>
    by_cases e : k = n + 1
    · subst e; exact h
    · simp [stk, ih (by omega)]

theorem stk_mem (op : Nat → Nat) : ∀ (k : Nat) (st : List Nat), stk op k = some st → ∀ f ∈ st, f < k ∧ op f = 19
  | 0, st, h, f, hf => by simp [stk] at h; subst h; cases hf
  | k + 1, st, h, f, hf => by
    simp only [stk] at h
    cases hk : stk op k with
    | none => simp [hk] at h
    | some s0 =>
      have ih := stk_mem op k s0 hk
      simp only [hk] at h
      by_cases h19 : op k = 19
      · simp only [h19, if_true] at h
        split at h
        · cases h
        · injection h with h; subst h
          rcases List.mem_cons.1 hf with rfl | hf
          · exact ⟨by omega, h19⟩
          · have := ih f hf; exact ⟨by omega, this.2⟩
      · simp only [h19, if_false] at h
        by_cases h20 : op k = 20
        · simp only [h20, if_true] at h
          cases s0 with
          | nil => cases h
          | cons a t =>
            injection h with h; subst h
            have := ih f (List.mem_cons_of_mem _ hf); exact ⟨by omega, this.2⟩
        · simp only [h20, if_false] at h
          injection h with h; subst h
          have := ih f hf; exact ⟨by omega, this.2⟩

theorem stk_len (op : Nat → Nat) : ∀ (k : Nat) (st : List Nat), stk op k = some st → st.length ≤ 10
  | 0, st, h => by simp [stk] at h; subst h; simp
  | k + 1, st, h => by
    simp only [stk] at h
    cases hk : stk op k with
    | none => simp [hk] at h
    | some s0 =>
      have ih := stk_len op k s0 hk
      simp only [hk] at h
      by_cases h19 : op k = 19
      · simp only [h19, if_true] at h
        split at h
        · cases h
        · injection h with h; subst h; simp; omega
      · simp only [h19, if_false] at h
        by_cases h20 : op k = 20
        · simp only [h20, if_true] at h
          cases s0 with
          | nil => cases h
          | cons a t => injection h with h; subst h; simp at ih; omega
        · simp only [h20, if_false] at h
          injection h with h; subst h; exact ih

end Go.Proofs.YtidhiaaicmfabaaGreatDoor
