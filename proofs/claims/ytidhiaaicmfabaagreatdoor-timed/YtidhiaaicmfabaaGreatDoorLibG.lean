/- container/heap's Push and Pop over the heap of instructions, by what they keep. -/
import Derived.Test.YtidhiaaicmfabaaGreatDoorMem
import Derived.Test.YtidhiaaicmfabaaGreatDoorSpec
import Derived.Test.YtidhiaaicmfabaaGreatDoorRefA
import Derived.Test.YtidhiaaicmfabaaGreatDoorRefC
import Derived.Test.YtidhiaaicmfabaaGreatDoorSpec2
import Derived.WalkKit
import Derived.WalkSpells
import Derived.WalkLawsBesides
import Derived.Deep.OwnRows
import Derived.BigQuiet
import Derived.Handy
import Derived.Deep.Light
import Derived.Deep.RegionHeld3
import Derived.Deep.RegionWith
import Derived.Test.YtidhiaaicmfabaaGreatDoorLibB
import Derived.Test.YtidhiaaicmfabaaGreatDoorLibC
import Derived.Test.YtidhiaaicmfabaaGreatDoorLibD
import Derived.Test.YtidhiaaicmfabaaGreatDoorLibE
import Derived.Test.YtidhiaaicmfabaaGreatDoorLibF
namespace Go.Proofs.YtidhiaaicmfabaaGreatDoor
open Go.RowKit Go.Proofs Go.Deep

/-- Below base nothing has turned but one cell of block pb. -/
structure Kept (pb po base : Nat) (w w' : World) : Prop where
  os : w'.os = w.os
  tape : w'.tape = w.tape
  output : w'.output = w.output
  size : w.heap.size ≤ w'.heap.size
  block : ∀ k, k < base → k ≠ pb → w'.heap[k]? = w.heap[k]?
  cell : ∀ o, o ≠ po → w'.cell? ⟨pb, o, none⟩ = w.cell? ⟨pb, o, none⟩
  frozen : ∀ o, w'.frozen? ⟨pb, o, none⟩ = w.frozen? ⟨pb, o, none⟩
section
variable {pb po base : Nat} {w w' w'' : World}
theorem Kept.refl (pb po base : Nat) (w : World) : Kept pb po base w w := ⟨rfl, rfl, rfl, Nat.le_refl _, fun _ _ _ => rfl, fun _ _ => rfl, fun _ => rfl⟩
theorem Kept.trans (h : Kept pb po base w w') (k : Kept pb po base w' w'') : Kept pb po base w w'' :=
  ⟨k.os.trans h.os, k.tape.trans h.tape, k.output.trans h.output, Nat.le_trans h.size k.size, fun i hi hb => (k.block i hi hb).trans (h.block i hi hb), fun o ho => (k.cell o ho).trans (h.cell o ho), fun o => (k.frozen o).trans (h.frozen o)⟩
theorem Kept.of_only {g : Nat} (h : Only g w w') (hg : base ≤ g) (hpb : pb < base) (hb : base ≤ w.heap.size) : Kept pb po base w w' :=
  ⟨h.os, h.tape, h.output, h.size, fun k hk _ => h.block k (by omega) (by omega), fun o _ => h.cell (p := ⟨pb, o, none⟩) (show pb < _ by omega) (show pb ≠ g by omega), fun o => h.frozen (p := ⟨pb, o, none⟩) (show pb < _ by omega) (show pb ≠ g by omega)⟩
theorem Kept.of_below (h : Below w.heap.size w w') (hpb : pb < base) (hb : base ≤ w.heap.size) : Kept pb po base w w' :=
  ⟨h.os, h.tape, h.output, h.size, fun k hk _ => h.block k (by omega), fun o _ => h.cell (p := ⟨pb, o, none⟩) (show pb < _ by omega), fun o => h.frozen (p := ⟨pb, o, none⟩) (show pb < _ by omega)⟩
theorem Kept.of_grown {row : Option Nat} (h : w.grownBy w' row) (hr : ∀ k, row = some k → base ≤ k) (hpb : pb < base) (hb : base ≤ w.heap.size) : Kept pb po base w w' :=
  ⟨h.os, h.tape, h.output, h.size, fun k hk _ => h.block k (by omega) (fun e => by have := hr k e.symm; omega), fun o _ => World.cell?_of_block (h.block pb (by omega) (fun e => by have := hr pb e.symm; omega)),
   fun o => World.frozen?_of_block (h.block pb (by omega) (fun e => by have := hr pb e.symm; omega))⟩
theorem Kept.set (w : World) (v : Value) : Kept pb po base w (w.setCell ⟨pb, po, none⟩ v) :=
  ⟨rfl, rfl, rfl, by simp [World.setCell], fun k _ hk => Below.heap_setCell _ _ _ _ hk, fun o ho => World.cell?_setCell_other _ _ _ _ (by first | (simp; done) | (simp; omega)), fun o => by simp⟩
end
def valsOf (A : Nat → Int) (n : Nat) : List Value := (List.range n).map fun k => Value.int .i64 (A k)
theorem valsOf_at (A : Nat → Int) (n k : Nat) (hk : k < n) : (valsOf A n)[k]? = some (.int .i64 (A k)) := by simp [valsOf, hk]
theorem valsOf_push (A : Nat → Int) (n : Nat) (x : Int) : valsOf A n ++ [Value.int .i64 x] = valsOf (fun k => if k = n then x else A k) (n + 1) := by
  unfold valsOf
  rw [List.range_succ, List.map_append]
  congr 1
  · refine List.map_congr_left fun k hk => ?_
    have : k < n := by simpa using hk
    simp only [show ¬ k = n by omega, if_false]
  · simp
/-- The heap of instructions that lies at cell po of block pb: m numbers A in memory of its own, from base on. -/
def WH (w : World) (pb po base m : Nat) (A : Nat → Int) : Prop := ∃ v, w.cell? ⟨pb, po, none⟩ = some v ∧ w.ownsRow base 3 1 v m (valsOf A m)
theorem own_rw {w : World} {base g n cap : Nat} {A : Nat → Int} (h : w.ownsRow base 3 1 (.slice (some ⟨g, 0, none⟩) n cap) n (valsOf A n)) : Rw w g cap n A ∧ base ≤ g ∧ n ≤ cap ∧ cap ≤ maxLen := by
  obtain ⟨hl, h2⟩ := h
  rcases h2 with ⟨h3, _⟩ | ⟨g', cap', cur, h3, hb, hg, hn, hm, hcs, htake⟩
  · cases h3
  · injection h3 with e1 e2 e3
    injection e1 with e1
    injection e1 with e1
    subst e1; subst e3
    refine ⟨⟨fun k hk => ?_, fun k => by simp [World.frozen?, hg], cur, hg, by simpa using hcs⟩, hb, hn, hm⟩
    rw [cell_of_row w g k cur _ (0, 0) hg]
    have h5 : (cur.toList.take (n * 1))[k]? = some (.int .i64 (A k)) := by rw [htake]; exact valsOf_at A n k hk
    rw [List.getElem?_take] at h5
    split at h5
    · simpa using h5
    · cases h5
theorem rw_own {w : World} {base g n cap : Nat} {A : Nat → Int} (h : Rw w g cap n A) (hb : base ≤ g) (hn : n ≤ cap) (hm : cap ≤ maxLen) : w.ownsRow base 3 1 (.slice (some ⟨g, 0, none⟩) n cap) n (valsOf A n) := by
  obtain ⟨h1, _, cur, hg, hcs⟩ := h
  refine ⟨by simp [valsOf], .inr ⟨g, cap, cur, rfl, hb, hg, hn, hm, by simpa using hcs, ?_⟩⟩
  apply List.ext_getElem?
  intro k
  by_cases hk : k < n
  · rw [List.getElem?_take, if_pos (by omega), valsOf_at A n k hk]
    have := h1 k hk
    rw [cell_of_row w g k cur _ (0, 0) hg] at this
    simpa using this
  · rw [List.getElem?_eq_none (by simp; omega), List.getElem?_eq_none (by simp [valsOf]; omega)]
theorem Rw.less {w : World} {g n n' cap : Nat} {A : Nat → Int} (h : Rw w g cap n A) (hn : n' ≤ n) : Rw w g cap n' A := ⟨fun k hk => h.1 k (by omega), h.2⟩
theorem Rw.set {w : World} {g n cap : Nat} {A : Nat → Int} (h : Rw w g cap n A) {a : Addr} (ha : a.block ≠ g) (v : Value) : Rw (w.setCell a v) g cap n A :=
  ⟨fun k hk => (World.cell?_setCell_other _ _ _ _ (by intro e; apply ha; rw [e])).trans (h.1 k hk), fun k => by simp [h.2.1 k], by
    obtain ⟨cur, hg, hc⟩ := h.2.2
    exact ⟨cur, (Below.heap_setCell _ _ _ _ (Ne.symm ha)).trans hg, hc⟩⟩
theorem HUp.of_heap {A : Nat → Int} {m : Nat} {x : Int} (h : Heap A m) : HUp (fun k => if k = m then x else A k) (m + 1) m := by
  constructor
  · intro i h0 hi hne
    have q : (i - 1) / 2 ≠ m := by omega
    simp only [hne, q, if_false]
    exact h i h0 (by omega)
  · intro i h0 hi hp hm
    omega
set_option maxRecDepth 100000 in
set_option maxHeartbeats 1000000 in
theorem hpush_any (w : World) (pb po base m : Nat) (A : Nat → Int) (x : Int) (hm : m ≤ 9000) (hpb : pb < base) (hbase : base ≤ w.heap.size) (hf : w.frozen? ⟨pb, po, none⟩ = false) (hw : WH w pb po base m A) (hh : Heap A m)
    (R : Ending → World → Prop) (fin : ∀ A' w', Kept pb po base w w' → WH w' pb po base (m + 1) A' → Heap A' (m + 1) → Same (fun k => if k = m then x else A k) A' (m + 1) → R (.returned (.tuple #[])) w') :
    Calls Tryz.prog 182 #[.iface 220 (.pointer (some ⟨pb, po, none⟩)), .iface 3 (.int .i64 x)] w R := by
  obtain ⟨v, hv, hown⟩ := hw
  replace fin := hd fin
  replace hh := hd hh
  have hob : ∀ k, v.ownBlock = some k → base ≤ k := fun k hk => (hown.lt k hk).1
  replace hob := hd hob
  have hmp := meth_push 504 ⟨pb, po, none⟩
  go_enter Tryz.func182, Tryz.ntmps182
  go_wp2_with (fail)
  refine fpush_any w pb po base v m (valsOf A m) x hm hpb hbase hv hf hown _ ?_
  intro g cap w1 hown1 hgr
  rw [valsOf_push] at hown1
  obtain ⟨hR1, hbg, hncap, hcapm⟩ := own_rw hown1
  have hpg : pb ≠ g := by omega
  have hK1 : Kept pb po base w w1 := (Kept.of_below (Below.alloc (Below.refl w.heap.size w) (Nat.le_refl _) (.cells #[.int .i64 x] 3)).drew hpb hbase).trans (Kept.of_grown hgr hob.out hpb (by simp; omega))
  have hK2 : Kept pb po base w (w1.setCell ⟨pb, po, none⟩ (.slice (some ⟨g, 0, none⟩) (m + 1) cap)) := hK1.trans (Kept.set _ _)
  have hR2 : Rw (w1.setCell ⟨pb, po, none⟩ (.slice (some ⟨g, 0, none⟩) (m + 1) cap)) g cap (m + 1) _ := hR1.set hpg _
  have hp2 : (w1.setCell ⟨pb, po, none⟩ (.slice (some ⟨g, 0, none⟩) (m + 1) cap)).cell? ⟨pb, po, none⟩ = some (.slice (some ⟨g, 0, none⟩) (m + 1) cap) := by
    exact World.cell?_setCell_same _ _ _ ((World.cell?_of_block (hgr.block pb (by simp; omega) (fun e => by have := hob.out pb e.symm; omega))).trans ((World.cell?_alloc_lt w _ ⟨pb, po, none⟩ (show pb < _ by omega)).trans hv))
  generalize w1.setCell ⟨pb, po, none⟩ (.slice (some ⟨g, 0, none⟩) (m + 1) cap) = w2 at *
  have hml := meth_len 504 ⟨pb, po, none⟩ _ _ _ w2 hp2
  replace hK2 := hd hK2
  replace hK1 := hd hK1
  replace hR2 := hd hR2
  replace hR1 := hd hR1
  replace hown1 := hd hown1
  replace hgr := hd hgr
  replace hown := hd hown
  have ew : ((m + 1 : Nat) : Int) - 1 = (m : Int) := by omega
  go_wp2_with (fail)
  refine len_any _ _ _ _ _ ?_
  go_wp2_with (fail)
  refine up_any w2 ⟨pb, po, none⟩ g (m + 1) cap m _ (by omega) (by omega) hpg hp2 hR2.out (HUp.of_heap hh.out) _ ?_
  intro A' w3 hO3 hR3 hH3 hS3
  have hK3 := hd (hK2.out.trans (Kept.of_only hO3 hbg hpb (Nat.le_trans hbase hK2.out.size)))
  have hp3 : w3.cell? ⟨pb, po, none⟩ = some (.slice (some ⟨g, 0, none⟩) (m + 1) cap) := by
    rw [hO3.cell (p := ⟨pb, po, none⟩) (World.block_lt_of_cell? w2 _ hp2) hpg]; exact hp2
  replace hO3 := hd hO3
  replace hR3 := hd hR3
  replace hH3 := hd hH3
  replace hS3 := hd hS3
  go_wp2
  go_end0
  exact fin.out A' w3 hK3.out ⟨_, hp3, rw_own hR3.out hbg hncap hcapm⟩ hH3.out hS3.out
theorem wpop_any (w : World) (pb po base m : Nat) (A : Nat → Int) (hm0 : 0 < m) (hm : m ≤ 9000) (hpb : pb < base) (hbase : base ≤ w.heap.size) (hf : w.frozen? ⟨pb, po, none⟩ = false) (hw : WH w pb po base m A) (hh : Heap A m)
    (R : Ending → World → Prop) (fin : ∀ A' w', Kept pb po base w w' → WH w' pb po base (m - 1) A' → Heap A' (m - 1) → Same (swapF A 0 (m - 1)) A' (m - 1) → R (.returned (.iface 3 (.int .i64 (A 0)))) w') :
    Calls Tryz.prog 112 #[.iface 220 (.pointer (some ⟨pb, po, none⟩))] w R := by
  obtain ⟨v, hv, hown⟩ := hw
  obtain ⟨g, cap, rfl⟩ : ∃ g cap, v = .slice (some ⟨g, 0, none⟩) m cap := by
    rcases hown.2 with ⟨_, h⟩ | ⟨g, cap, cur, h, _⟩
    · omega
    · exact ⟨g, cap, h⟩
  obtain ⟨hR, hbg, hncap, hcapm⟩ := own_rw hown
  have hpg : pb ≠ g := by omega
  refine hpop_any w pb po g m cap A hm0 (by omega) hncap hpg hv hf hR hh R fun A' w1 hO hR1 hH hS => ?_
  refine fin A' _ ((Kept.of_only hO hbg hpb hbase).trans (Kept.set _ _)) ⟨.slice (some ⟨g, 0, none⟩) (m - 1) cap, ?_, ?_⟩ hH hS
  · exact World.cell?_setCell_same _ _ _ ((hO.cell (p := ⟨pb, po, none⟩) (World.block_lt_of_cell? w _ hv) hpg).trans hv)
  · exact rw_own ((hR1.set (a := ⟨pb, po, none⟩) hpg _).less (by omega)) hbg (by omega) hcapm

end Go.Proofs.YtidhiaaicmfabaaGreatDoor
