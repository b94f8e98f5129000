/- The table of instructions, with the functions that stand in it. -/
import Derived.Test.YtidhiaaicmfabaaGreatMem
import Derived.Test.YtidhiaaicmfabaaGreatSpec
import Derived.Test.YtidhiaaicmfabaaGreatRefA
import Derived.Test.YtidhiaaicmfabaaGreatRefC
import Derived.Test.YtidhiaaicmfabaaGreatSpec2
import Derived.WalkKit
import Derived.WalkSpells
import Derived.WalkLawsBesides
import Derived.Deep.OwnRows
import Derived.BigQuiet
import Derived.Handy
import Derived.Deep.Light
import Derived.Deep.RegionHeld3
import Derived.Deep.RegionWith
import Derived.Test.YtidhiaaicmfabaaGreatSemB
namespace Go.Proofs.YtidhiaaicmfabaaGreat
open Go.RowKit Go.Proofs Go.Deep

theorem wpList_tabL {ops : Array Oper} {rest : List Oper} {o : Oper} {a : Act} {w : World} {Q : Exit → Act → World → Prop} (hgd : o.guard = none) (parts : Array (Nat × Operand))
    (ho : o.op = .build 93 parts) (g0 g1 g2 g3 g4 g5 g6 g7 g8 g9 g10 g11 g12 g13 g14 g15 g16 g17 g18 g19 g20 g21 : Fn) (c0 c1 c2 c3 c4 c5 c6 c7 c8 c9 c10 c11 c12 c13 c14 c15 c16 c17 c18 c19 c20 c21 : Array Value) (hvs : parts.map (fun (i, x) => (i, a.eval x)) = #[(0, .agg #[Value.string ⟨#[69, 78, 68]⟩, .int .u8 0, .int .i64 0, .int .i64 0, .func g0 #[] c0]),
      (1, .agg #[Value.string ⟨#[78, 85, 77]⟩, .int .u8 1, .int .i64 0, .int .i64 1, .func g1 #[] c1]),
      (2, .agg #[Value.string ⟨#[71, 69, 84]⟩, .int .u8 2, .int .i64 0, .int .i64 1, .func g2 #[] c2]),
      (3, .agg #[Value.string ⟨#[83, 69, 84]⟩, .int .u8 2, .int .i64 1, .int .i64 0, .func g3 #[] c3]),
      (4, .agg #[Value.string ⟨#[71, 69, 84, 88]⟩, .int .u8 3, .int .i64 1, .int .i64 1, .func g4 #[] c4]),
      (5, .agg #[Value.string ⟨#[83, 69, 84, 88]⟩, .int .u8 3, .int .i64 2, .int .i64 0, .func g5 #[] c5]),
      (6, .agg #[Value.string ⟨#[65, 68, 68]⟩, .int .u8 0, .int .i64 2, .int .i64 1, .func g6 #[] c6]),
      (7, .agg #[Value.string ⟨#[83, 85, 66]⟩, .int .u8 0, .int .i64 2, .int .i64 1, .func g7 #[] c7]),
      (8, .agg #[Value.string ⟨#[77, 85, 76]⟩, .int .u8 0, .int .i64 2, .int .i64 1, .func g8 #[] c8]),
      (9, .agg #[Value.string ⟨#[68, 73, 86]⟩, .int .u8 0, .int .i64 2, .int .i64 1, .func g9 #[] c9]),
      (10, .agg #[Value.string ⟨#[77, 79, 68]⟩, .int .u8 0, .int .i64 2, .int .i64 1, .func g10 #[] c10]),
      (11, .agg #[Value.string ⟨#[69, 81]⟩, .int .u8 0, .int .i64 2, .int .i64 1, .func g11 #[] c11]),
      (12, .agg #[Value.string ⟨#[76, 84]⟩, .int .u8 0, .int .i64 2, .int .i64 1, .func g12 #[] c12]),
      (13, .agg #[Value.string ⟨#[78, 79, 84]⟩, .int .u8 0, .int .i64 1, .int .i64 1, .func g13 #[] c13]),
      (14, .agg #[Value.string ⟨#[65, 78, 68]⟩, .int .u8 0, .int .i64 2, .int .i64 1, .func g14 #[] c14]),
      (15, .agg #[Value.string ⟨#[79, 82]⟩, .int .u8 0, .int .i64 2, .int .i64 1, .func g15 #[] c15]),
      (16, .agg #[Value.string ⟨#[83, 72, 79, 82, 84]⟩, .int .u8 0, .int .i64 1, .int .i64 1, .func g16 #[] c16]),
      (17, .agg #[Value.string ⟨#[74, 85, 77, 80]⟩, .int .u8 4, .int .i64 0, .int .i64 0, .func g17 #[] c17]),
      (18, .agg #[Value.string ⟨#[85, 78, 76, 69, 83, 83]⟩, .int .u8 4, .int .i64 1, .int .i64 0, .func g18 #[] c18]),
      (19, .agg #[Value.string ⟨#[70, 79, 82]⟩, .int .u8 5, .int .i64 0, .int .i64 0, .func g19 #[] c19]),
      (20, .agg #[Value.string ⟨#[78, 69, 88, 84]⟩, .int .u8 0, .int .i64 0, .int .i64 0, .func g20 #[] c20]),
      (21, .agg #[Value.string ⟨#[84, 73, 77, 69, 82]⟩, .int .u8 2, .int .i64 2, .int .i64 1, .func g21 #[] c21])])
    (h : wpList Tryz.prog ops Q rest (a.put o.dst (.agg (tabC (fun i => [Value.func g0 #[] c0, Value.func g1 #[] c1, Value.func g2 #[] c2, Value.func g3 #[] c3, Value.func g4 #[] c4, Value.func g5 #[] c5, Value.func g6 #[] c6, Value.func g7 #[] c7, Value.func g8 #[] c8, Value.func g9 #[] c9, Value.func g10 #[] c10, Value.func g11 #[] c11, Value.func g12 #[] c12, Value.func g13 #[] c13, Value.func g14 #[] c14, Value.func g15 #[] c15, Value.func g16 #[] c16, Value.func g17 #[] c17, Value.func g18 #[] c18, Value.func g19 #[] c19, Value.func g20 #[] c20, Value.func g21 #[] c21].getD i undef)))) w) : wpList Tryz.prog ops Q (o :: rest) a w :=
  wpList_build hgd 93 parts ho _ hvs _ (run_build_tab g0 g1 g2 g3 g4 g5 g6 g7 g8 g9 g10 g11 g12 g13 g14 g15 g16 g17 g18 g19 g20 g21 c0 c1 c2 c3 c4 c5 c6 c7 c8 c9 c10 c11 c12 c13 c14 c15 c16 c17 c18 c19 c20 c21 w) h
/-- A closure's variable, still as it was laid. -/
def Rk (lo : Nat) (w : World) (v : Value) (G F : Nat) : Prop := ∃ g, lo ≤ g ∧ g < w.heap.size ∧ v = .func (.func G) #[] #[.pointer (some ⟨g, 0, none⟩)] ∧ w.cell? ⟨g, 0, none⟩ = some (.func (.func F) #[] #[])
def Cl (lo : Nat) (w : World) (l : List (Nat × Nat)) : Prop := ∀ p ∈ l, lo ≤ p.1 ∧ w.cell? ⟨p.1, 0, none⟩ = some (.func (.func p.2) #[] #[])
theorem Cl.step {lo : Nat} {w w' : World} {l : List (Nat × Nat)} (h : Cl lo w l) (hb : Below w.heap.size w w') {g F : Nat} (hl : lo ≤ w.heap.size) (hg : w.heap.size ≤ g) (hc : w'.cell? ⟨g, 0, none⟩ = some (.func (.func F) #[] #[])) : Cl lo w' ((g, F) :: l) := by
  intro p hp
  rcases List.mem_cons.1 hp with e | e
  · subst e; exact ⟨Nat.le_trans hl hg, hc⟩
  · have := h p e
    exact ⟨this.1, (hb.cell (p := ⟨p.1, 0, none⟩) (World.block_lt_of_cell? w _ this.2)).trans this.2⟩
theorem Cl.rk {lo : Nat} {w : World} {l : List (Nat × Nat)} (h : Cl lo w l) {g G F : Nat} {v : Value} (hv : v = .func (.func G) #[] #[.pointer (some ⟨g, 0, none⟩)]) (hm : (g, F) ∈ l) : Rk lo w v G F :=
  ⟨g, (h _ hm).1, World.block_lt_of_cell? w _ (h _ hm).2, hv, (h _ hm).2⟩
theorem Rk.below {lo : Nat} {w w' : World} {v : Value} {G F : Nat} (h : Rk lo w v G F) (hb : Below w.heap.size w w') : Rk lo w' v G F := by
  obtain ⟨g, a, b, c, d⟩ := h
  exact ⟨g, a, Nat.lt_of_lt_of_le b hb.size, c, (hb.cell (p := ⟨g, 0, none⟩) b).trans d⟩
theorem heap_setCells {b k : Nat} (hb : k ≠ b) : ∀ (vs : List Value) (o : Nat) (w : World), (w.setCells b o vs).heap[k]? = w.heap[k]?
  | [], _, _ => rfl
  | v :: r, o, w => by
    rw [World.setCells, heap_setCells hb r (o + 1) _]
    exact Below.heap_setCell _ _ _ _ hb
theorem sizeSetCells {b : Nat} : ∀ (vs : List Value) (o : Nat) (w : World), (w.setCells b o vs).heap.size = w.heap.size
  | [], _, _ => rfl
  | v :: r, o, w => by
    rw [World.setCells, sizeSetCells r (o + 1) _, World.size_setCell]
theorem Rk.setCells {b : Nat} {w : World} {v : Value} {G F : Nat} (h : Rk (b + 1) w v G F) (o : Nat) (vs : List Value) : Rk b (w.setCells b o vs) v G F := by
  obtain ⟨g, h1, h2, h3, h4⟩ := h
  exact ⟨g, by omega, by rw [sizeSetCells]; exact h2, h3, by rw [World.cell?_of_block (w := w) (heap_setCells (by show g ≠ b; omega) vs o w)]; exact h4⟩
structure FvAt (lo : Nat) (w : World) (fv : Nat → Value) : Prop where
  f0 : fv 0 = .func (.func 63) #[] #[]
  f1 : fv 1 = .func (.func 64) #[] #[]
  f2 : fv 2 = .func (.func 65) #[] #[]
  f3 : fv 3 = .func (.func 66) #[] #[]
  f4 : fv 4 = .func (.func 67) #[] #[]
  f5 : fv 5 = .func (.func 68) #[] #[]
  f17 : fv 17 = .func (.func 84) #[] #[]
  f18 : fv 18 = .func (.func 85) #[] #[]
  f19 : fv 19 = .func (.func 86) #[] #[]
  f20 : fv 20 = .func (.func 87) #[] #[]
  f21 : fv 21 = .func (.func 88) #[] #[]
  f6 : Rk lo w (fv 6) 110 70
  f7 : Rk lo w (fv 7) 110 71
  f8 : Rk lo w (fv 8) 110 72
  f9 : Rk lo w (fv 9) 111 74
  f10 : Rk lo w (fv 10) 111 75
  f11 : Rk lo w (fv 11) 110 76
  f12 : Rk lo w (fv 12) 110 78
  f13 : Rk lo w (fv 13) 110 79
  f14 : Rk lo w (fv 14) 110 80
  f15 : Rk lo w (fv 15) 110 81
  f16 : Rk lo w (fv 16) 110 82
theorem FvAt.below {lo : Nat} {w w' : World} {fv : Nat → Value} (h : FvAt lo w fv) (hb : Below w.heap.size w w') : FvAt lo w' fv :=
  ⟨h.f0, h.f1, h.f2, h.f3, h.f4, h.f5, h.f17, h.f18, h.f19, h.f20, h.f21, h.f6.below hb, h.f7.below hb, h.f8.below hb, h.f9.below hb, h.f10.below hb, h.f11.below hb, h.f12.below hb, h.f13.below hb, h.f14.below hb, h.f15.below hb, h.f16.below hb⟩
theorem FvAt.setCells {b : Nat} {w : World} {fv : Nat → Value} (h : FvAt (b + 1) w fv) (o : Nat) (vs : List Value) : FvAt b (w.setCells b o vs) fv :=
  ⟨h.f0, h.f1, h.f2, h.f3, h.f4, h.f5, h.f17, h.f18, h.f19, h.f20, h.f21, h.f6.setCells o vs, h.f7.setCells o vs, h.f8.setCells o vs, h.f9.setCells o vs, h.f10.setCells o vs, h.f11.setCells o vs, h.f12.setCells o vs, h.f13.setCells o vs, h.f14.setCells o vs, h.f15.setCells o vs, h.f16.setCells o vs⟩
theorem FvAt.fn {lo : Nat} {w : World} {fv : Nat → Value} (h : FvAt lo w fv) : ∀ i, i < 22 → ∃ g c, fv i = .func g #[] c := by
  have rk : ∀ {v : Value} {G F : Nat}, Rk lo w v G F → ∃ g c, v = .func g #[] c := fun ⟨_, _, _, e, _⟩ => ⟨_, _, e⟩
  intro i hi
  have hc : i = 0 ∨ i = 1 ∨ i = 2 ∨ i = 3 ∨ i = 4 ∨ i = 5 ∨ i = 6 ∨ i = 7 ∨ i = 8 ∨ i = 9 ∨ i = 10 ∨ i = 11 ∨ i = 12 ∨ i = 13 ∨ i = 14 ∨ i = 15 ∨ i = 16 ∨ i = 17 ∨ i = 18 ∨ i = 19 ∨ i = 20 ∨ i = 21 := by omega
  rcases hc with rfl | rfl | rfl | rfl | rfl | rfl | rfl | rfl | rfl | rfl | rfl | rfl | rfl | rfl | rfl | rfl | rfl | rfl | rfl | rfl | rfl | rfl
  · exact ⟨_, _, h.f0⟩
  · exact ⟨_, _, h.f1⟩
  · exact ⟨_, _, h.f2⟩
  · exact ⟨_, _, h.f3⟩
  · exact ⟨_, _, h.f4⟩
  · exact ⟨_, _, h.f5⟩
  · exact rk h.f6
  · exact rk h.f7
  · exact rk h.f8
  · exact rk h.f9
  · exact rk h.f10
  · exact rk h.f11
  · exact rk h.f12
  · exact rk h.f13
  · exact rk h.f14
  · exact rk h.f15
  · exact rk h.f16
  · exact ⟨_, _, h.f17⟩
  · exact ⟨_, _, h.f18⟩
  · exact ⟨_, _, h.f19⟩
  · exact ⟨_, _, h.f20⟩
  · exact ⟨_, _, h.f21⟩
set_option maxRecDepth 100000 in
set_option maxHeartbeats 4000000 in
theorem table_at (w : World) (R : Ending → World → Prop) (fin : ∀ fv w', FvAt w.heap.size w' fv → Below w.heap.size w w' → R (.returned (.agg (tabC fv))) w') :
    Calls Tryz.prog 37 #[] w R := by
  replace fin := hd fin
  have hbel : Hid (Below (w.heap.size + 1) (w.alloc (Obj.cells Tryz.zeroCells93 93)) (w.alloc (Obj.cells Tryz.zeroCells93 93))) := hd (Below.refl _ _)
  have hcl : Hid (Cl (w.heap.size + 1) (w.alloc (Obj.cells Tryz.zeroCells93 93)) []) := hd (fun p hp => by cases hp)
  have hlo : Hid (w.heap.size + 1 ≤ (w.alloc (Obj.cells Tryz.zeroCells93 93)).heap.size) := hd (by simp)
  go_enter Tryz.func37, Tryz.ntmps37
  go_wp2_with (first | (go_at_call 69; refine reckoned_at _ _ _ ?_; intro p wx hx hg hc; replace hbel := hd (bel_step hbel.out (by simp) hx); replace hcl := hd (hcl.out.step hx hlo.out hg hc); replace hlo := hd (Nat.le_trans hlo.out hx.size); clear hx hg hc) | (go_at_call 73; refine divided_at _ _ _ ?_; intro p wx hx hg hc; replace hbel := hd (bel_step hbel.out (by simp) hx); replace hcl := hd (hcl.out.step hx hlo.out hg hc); replace hlo := hd (Nat.le_trans hlo.out hx.size); clear hx hg hc) | (refine stopAt 34 rfl ?_) | (refine wpList_row rfl _ _ _ _ _ _ _ rfl rfl ?_; intro r hr))
  refine ⟨?_⟩
  replace hbel := hbel.out
  have hcl2 := hcl.out
  clear hcl hlo
  have hfresh : wx.heap[w.heap.size]? = some (.cells Tryz.zeroCells93 93 (0, 0)) := by rw [hbel.block _ (by omega)]; exact heap_alloc_new _ _
  have hbel2 : Below w.heap.size w wx := (Below.alloc (Below.refl _ _) (Nat.le_refl _) _).trans (hbel.mono (by omega))
  clear hbel
  simp only [IsRow, Hid] at *
  subst_vars
  refine wpList_tabL rfl _ rfl _ _ _ _ _ _ _ _ _ _ _ _ _ _ _ _ _ _ _ _ _ _ _ _ _ _ _ _ _ _ _ _ _ _ _ _ _ _ _ _ _ _ _ _ (by simp [Act.eval]; repeat' (first | apply And.intro | rfl)) ?_
  generalize hfv : (fun i => List.getD _ i undef) = fv
  have hat : FvAt (w.heap.size + 1) wx fv := ⟨by rw [← hfv]; rfl, by rw [← hfv]; rfl, by rw [← hfv]; rfl, by rw [← hfv]; rfl, by rw [← hfv]; rfl, by rw [← hfv]; rfl, by rw [← hfv]; rfl, by rw [← hfv]; rfl, by rw [← hfv]; rfl, by rw [← hfv]; rfl, by rw [← hfv]; rfl, hcl2.rk (by rw [← hfv]; rfl) (by simp), hcl2.rk (by rw [← hfv]; rfl) (by simp), hcl2.rk (by rw [← hfv]; rfl) (by simp), hcl2.rk (by rw [← hfv]; rfl) (by simp), hcl2.rk (by rw [← hfv]; rfl) (by simp), hcl2.rk (by rw [← hfv]; rfl) (by simp), hcl2.rk (by rw [← hfv]; rfl) (by simp), hcl2.rk (by rw [← hfv]; rfl) (by simp), hcl2.rk (by rw [← hfv]; rfl) (by simp), hcl2.rk (by rw [← hfv]; rfl) (by simp), hcl2.rk (by rw [← hfv]; rfl) (by simp)⟩
  clear hfv hcl2
  have hfn := hat.fn
  refine wpList_store_mid rfl 93 _ _ rfl w.heap.size 0 (tabC fv) rfl rfl (there_of_block hfresh (by rfl)) infoTab (tabC_ok fv hfn).2.1 ?_
  have hnew : (wx.setCells w.heap.size 0 (tabC fv).toList).rangeAt w.heap.size 0 (tabC fv).toList := World.rangeAt_setCells_same wx w.heap.size 0 _ (there_of_block hfresh (by rfl))
  have hbel3 : Below w.heap.size w (wx.setCells w.heap.size 0 (tabC fv).toList) := below_setCells (Nat.le_refl _) _ _ _ hbel2
  replace hat : FvAt w.heap.size (wx.setCells w.heap.size 0 (tabC fv).toList) fv := hat.setCells _ _
  generalize wx.setCells w.heap.size 0 (tabC fv).toList = wy at *
  generalize hcs : tabC fv = cs at *
  replace fin := hd fin
  replace hnew := hd hnew
  replace hbel3 := hd hbel3
  replace hat := hd hat
  replace hcs := hd hcs
  clear hfresh hbel2 hfn
  go_wp2
  refine ret_range rfl rowTab infoTab w.heap.size cs (by rw [← hcs.out]; rfl) rfl hnew.out rfl ?_
  have := fin.out fv wy hat.out hbel3.out
  rw [hcs.out] at this
  exact this

end Go.Proofs.YtidhiaaicmfabaaGreat
