/- Small laws on memory: a table of rows in one block; what a call leaves alone but for one block. -/
import Derived.Test.YtidhiaaicmfabaaGreatDoorBase
import Derived.WalkKit
import Derived.WalkSpells
import Derived.WalkLawsBesides
import Derived.Deep.OwnRows
namespace Go.Proofs.YtidhiaaicmfabaaGreatDoor
open Go.RowKit Go.Proofs Go.Deep

/-- Block b holds a table: n rows (room for cap) of sz cells each. -/
def Tab (w : World) (b T sz n cap : Nat) (A : Nat → Nat → Value) : Prop :=
  ∃ cur : Array Value, w.heap[b]? = some (.cells cur T (0, 0)) ∧ cur.size = cap * sz ∧ n ≤ cap ∧ ∀ i, i < n → ∀ f, f < sz → cur[i * sz + f]? = some (A i f)

theorem rowcol {sz i j f g : Nat} (hf : f < sz) (hg : g < sz) (h : i * sz + f = j * sz + g) : i = j ∧ f = g := by
  have h1 : (i * sz + f) / sz = i := by rw [Nat.mul_comm, Nat.mul_add_div (by omega), Nat.div_eq_of_lt hf]; omega
  have h2 : (j * sz + g) / sz = j := by rw [Nat.mul_comm, Nat.mul_add_div (by omega), Nat.div_eq_of_lt hg]; omega
  have : i = j := by rw [← h1, ← h2, h]
  subst this
  omega

section
variable {w w' : World} {b T sz n cap : Nat} {A A' : Nat → Nat → Value}
theorem Tab.cell (h : Tab w b T sz n cap A) {i f : Nat} (hi : i < n) (hf : f < sz) : w.cell? ⟨b, i * sz + f, none⟩ = some (A i f) := by
  obtain ⟨c, hb, _, _, hc⟩ := h
  simp [World.cell?, hb, hc i hi f hf]
theorem Tab.cell0 (h : Tab w b T sz n cap A) {i : Nat} (hi : i < n) (hf : 0 < sz) : w.cell? ⟨b, i * sz, none⟩ = some (A i 0) := h.cell hi hf
theorem Tab.frozen (h : Tab w b T sz n cap A) (o : Nat) : w.frozen? ⟨b, o, none⟩ = false := by
  obtain ⟨c, hb, _⟩ := h
  simp [World.frozen?, hb]
theorem Tab.lt (h : Tab w b T sz n cap A) : b < w.heap.size := by
  obtain ⟨c, hb, _⟩ := h
  exact (Array.getElem?_eq_some_iff.1 hb).1
theorem Tab.le (h : Tab w b T sz n cap A) : n ≤ cap := by
  obtain ⟨c, _, _, h, _⟩ := h
  exact h
theorem Tab.congr (h : Tab w b T sz n cap A) (e : ∀ i, i < n → ∀ f, f < sz → A i f = A' i f) : Tab w b T sz n cap A' := by
  obtain ⟨c, hb, hn, hl, hc⟩ := h
  exact ⟨c, hb, hn, hl, fun i hi f hf => by rw [hc i hi f hf, e i hi f hf]⟩
theorem Tab.of_block (h : Tab w b T sz n cap A) (e : w'.heap[b]? = w.heap[b]?) : Tab w' b T sz n cap A := by
  obtain ⟨c, hb, r⟩ := h
  exact ⟨c, e.trans hb, r⟩
theorem Tab.set (h : Tab w b T sz n cap A) (i f : Nat) (hf : f < sz) (v : Value) : Tab (w.setCell ⟨b, i * sz + f, none⟩ v) b T sz n cap (fun j g => if j = i ∧ g = f then v else A j g) := by
  obtain ⟨c, hb, hn, hl, hc⟩ := h
  refine ⟨c.setIfInBounds (i * sz + f) v, ?_, by simpa using hn, hl, fun j hj g hg => ?_⟩
  · simp [World.setCell, Array.getElem?_modify, hb]
  · rw [Array.getElem?_setIfInBounds]
    by_cases e : j = i ∧ g = f
    · obtain ⟨rfl, rfl⟩ := e
      have hlt : j * sz + g < c.size := by
        have := hc j hj g hg
        exact (Array.getElem?_eq_some_iff.1 this).1
      simp [hlt]
    · have hne : ¬ (i * sz + f = j * sz + g) := fun h' => e (by have := rowcol hf hg h'; exact ⟨this.1.symm, this.2.symm⟩)
      simp only [hne, if_false, e]
      exact hc j hj g hg
theorem Tab.setOther (h : Tab w b T sz n cap A) {a : Addr} (ha : b ≠ a.block) (v : Value) : Tab (w.setCell a v) b T sz n cap A := h.of_block (Below.heap_setCell _ _ _ _ ha)
theorem Tab.alloc (h : Tab w b T sz n cap A) (o : Obj) : Tab (w.alloc o) b T sz n cap A := h.of_block (Below.heap_alloc _ _ _ h.lt)
theorem Tab.drewN (h : Tab w b T sz n cap A) (k : Nat) : Tab (w.drewN k) b T sz n cap A := h
theorem Tab.drew (h : Tab w b T sz n cap A) : Tab w.drew b T sz n cap A := h
end

/-- Of what was there in w nothing has turned but block b. -/
structure Only (b : Nat) (w w' : World) : Prop where
  os : w'.os = w.os
  tape : w'.tape = w.tape
  output : w'.output = w.output
  size : w.heap.size ≤ w'.heap.size
  block : ∀ k, k < w.heap.size → k ≠ b → w'.heap[k]? = w.heap[k]?

section
variable {b : Nat} {w w' w'' : World}
theorem Only.refl (b : Nat) (w : World) : Only b w w := ⟨rfl, rfl, rfl, Nat.le_refl _, fun _ _ _ => rfl⟩
theorem Only.trans (h : Only b w w') (k : Only b w' w'') : Only b w w'' :=
  ⟨k.os.trans h.os, k.tape.trans h.tape, k.output.trans h.output, Nat.le_trans h.size k.size, fun i hi hb => (k.block i (Nat.lt_of_lt_of_le hi h.size) hb).trans (h.block i hi hb)⟩
theorem Only.of_below (h : Below w.heap.size w w') : Only b w w' := ⟨h.os, h.tape, h.output, h.size, fun k hk _ => h.block k hk⟩
theorem Only.drewN (h : Only b w w') (n : Nat) : Only b w (w'.drewN n) := ⟨h.os, h.tape, h.output, h.size, h.block⟩
theorem Only.drew (h : Only b w w') : Only b w w'.drew := ⟨h.os, h.tape, h.output, h.size, h.block⟩
theorem Only.alloc (h : Only b w w') (o : Obj) : Only b w (w'.alloc o) :=
  h.trans ⟨rfl, rfl, rfl, by simp, fun k hk _ => Below.heap_alloc _ _ _ hk⟩
theorem Only.setCell (h : Only b w w') {a : Addr} (ha : a.block = b ∨ w.heap.size ≤ a.block) (v : Value) : Only b w (w'.setCell a v) :=
  ⟨h.os, h.tape, h.output, by have := h.size; simpa [World.setCell] using this, fun k hk hb => by
    rw [Below.heap_setCell _ _ _ _ (by omega)]; exact h.block k hk hb⟩
theorem Only.grown {row : Option Nat} (h : Only b w w') (hg : w'.grownBy w'' row) (hr : ∀ k, row = some k → k = b ∨ w.heap.size ≤ k) : Only b w w'' :=
  ⟨hg.os.trans h.os, hg.tape.trans h.tape, hg.output.trans h.output, Nat.le_trans h.size hg.size, fun k hk hb => by
    rw [hg.block k (Nat.lt_of_lt_of_le hk h.size) (fun e => by have := hr k e.symm; omega)]; exact h.block k hk hb⟩
theorem Only.cell (h : Only b w w') {p : Addr} (hp : p.block < w.heap.size) (hb : p.block ≠ b) : w'.cell? p = w.cell? p := World.cell?_of_block (w := w) (h.block p.block hp hb)
theorem Only.frozen (h : Only b w w') {p : Addr} (hp : p.block < w.heap.size) (hb : p.block ≠ b) : w'.frozen? p = w.frozen? p := World.frozen?_of_block (w := w) (h.block p.block hp hb)
theorem Only.below {B : Nat} (h : Only b w w') (hB : B ≤ b) (hw : B ≤ w.heap.size) : Below B w w' := ⟨h.os, h.tape, h.output, h.size, fun k hk => h.block k (by omega) (by omega)⟩
end

/-- A slice of one-cell elements that the call owns: its value and its cells. -/
theorem own_form {w : World} {base e : Nat} {v : Value} {n : Nat} {xs : List Value} (h : w.ownsRow base e 1 v n xs) :
    ∃ ao cap, v = .slice ao n cap ∧ n ≤ cap ∧ (0 < n → ∃ g, ao = some ⟨g, 0, none⟩ ∧ base ≤ g ∧ g < w.heap.size ∧ ∀ j u, xs[j]? = some u → w.cell? ⟨g, j, none⟩ = some u) := by
  rcases h.2 with ⟨rfl, rfl⟩ | ⟨g, cap, cur, rfl, hb, hg, hn, _⟩
  · exact ⟨none, 0, rfl, Nat.le_refl _, fun h => by omega⟩
  · refine ⟨_, cap, rfl, hn, fun _ => ⟨g, rfl, hb, (Array.getElem?_eq_some_iff.1 hg).1, fun j u hu => ?_⟩⟩
    have := h.cells (g := g) rfl j u hu
    have hadd : (⟨g, 0, none⟩ : Addr).add j = ⟨g, j, none⟩ := by unfold Addr.add; split <;> simp_all
    rwa [hadd] at this

/-- A table out of an owned row. -/
theorem own_tab {w : World} {base T sz : Nat} {v : Value} {n : Nat} {xs : List Value} {A : Nat → Nat → Value} (h : w.ownsRow base T sz v n xs) (hn : 0 < n)
    (hA : ∀ i, i < n → ∀ f, f < sz → xs[i * sz + f]? = some (A i f)) : ∃ b cap, v = .slice (some ⟨b, 0, none⟩) n cap ∧ base ≤ b ∧ Tab w b T sz n cap A := by
  rcases h.2 with ⟨rfl, rfl⟩ | ⟨g, cap, cur, rfl, hb, hg, hle, _, hcs, htake⟩
  · omega
  · refine ⟨g, cap, rfl, hb, cur, hg, hcs, hle, fun i hi f hf => ?_⟩
    have h1 := hA i hi f hf
    rw [← htake, List.getElem?_take] at h1
    split at h1
    · simpa using h1
    · cases h1

end Go.Proofs.YtidhiaaicmfabaaGreatDoor
