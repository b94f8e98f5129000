/- The table of instructions; machines between scans. -/
import Derived.Test.YtidhiaaicmfabaaGreatDoorKaA
import Derived.Test.YtidhiaaicmfabaaGreatDoorKaB
import Derived.WalkKit
import Derived.WalkSpells
import Derived.WalkLawsBesides
import Derived.Deep.OwnRows
import Derived.BigQuiet
import Derived.Handy
import Derived.Deep.Light
import Derived.Deep.RegionHeld3
import Derived.Deep.RegionWith
import Derived.Test.YtidhiaaicmfabaaGreatDoorJzA
import Derived.Test.YtidhiaaicmfabaaGreatDoorJzB
import Derived.Test.YtidhiaaicmfabaaGreatDoorJzD
import Derived.Test.YtidhiaaicmfabaaGreatDoorKaI

/- The table of instructions, with the functions that stand in it. -/
namespace Go.Proofs.YtidhiaaicmfabaaGreatDoor
open Go.RowKit Go.Proofs Go.Deep

theorem wpList_tabL {ops : Array Oper} {rest : List Oper} {o : Oper} {a : Act} {w : World} {Q : Exit → Act → World → Prop} (hgd : o.guard = none) (parts : Array (Nat × Operand))
    (ho : o.op = .build 212 parts) (g0 g1 g2 g3 g4 g5 g6 g7 g8 g9 g10 g11 g12 g13 g14 g15 g16 g17 g18 g19 g20 g21 : Fn) (c0 c1 c2 c3 c4 c5 c6 c7 c8 c9 c10 c11 c12 c13 c14 c15 c16 c17 c18 c19 c20 c21 : Array Value) (hvs : parts.map (fun (i, x) => (i, a.eval x)) = #[(0, .agg #[Value.string ⟨#[69, 78, 68]⟩, .int .u8 0, .int .i64 0, .int .i64 0, .func g0 #[] c0]),
      (1, .agg #[Value.string ⟨#[78, 85, 77]⟩, .int .u8 1, .int .i64 0, .int .i64 1, .func g1 #[] c1]),
      (2, .agg #[Value.string ⟨#[71, 69, 84]⟩, .int .u8 2, .int .i64 0, .int .i64 1, .func g2 #[] c2]),
      (3, .agg #[Value.string ⟨#[83, 69, 84]⟩, .int .u8 2, .int .i64 1, .int .i64 0, .func g3 #[] c3]),
      (4, .agg #[Value.string ⟨#[71, 69, 84, 88]⟩, .int .u8 3, .int .i64 1, .int .i64 1, .func g4 #[] c4]),
      (5, .agg #[Value.string ⟨#[83, 69, 84, 88]⟩, .int .u8 3, .int .i64 2, .int .i64 0, .func g5 #[] c5]),
      (6, .agg #[Value.string ⟨#[65, 68, 68]⟩, .int .u8 0, .int .i64 2, .int .i64 1, .func g6 #[] c6]),
      (7, .agg #[Value.string ⟨#[83, 85, 66]⟩, .int .u8 0, .int .i64 2, .int .i64 1, .func g7 #[] c7]),
      (8, .agg #[Value.string ⟨#[77, 85, 76]⟩, .int .u8 0, .int .i64 2, .int .i64 1, .func g8 #[] c8]),
      (9, .agg #[Value.string ⟨#[68, 73, 86]⟩, .int .u8 0, .int .i64 2, .int .i64 1, .func g9 #[] c9]),
      (10, .agg #[Value.string ⟨#[77, 79, 68]⟩, .int .u8 0, .int .i64 2, .int .i64 1, .func g10 #[] c10]),
      (11, .agg #[Value.string ⟨#[69, 81]⟩, .int .u8 0, .int .i64 2, .int .i64 1, .func g11 #[] c11]),
      (12, .agg #[Value.string ⟨#[76, 84]⟩, .int .u8 0, .int .i64 2, .int .i64 1, .func g12 #[] c12]),
      (13, .agg #[Value.string ⟨#[78, 79, 84]⟩, .int .u8 0, .int .i64 1, .int .i64 1, .func g13 #[] c13]),
      (14, .agg #[Value.string ⟨#[65, 78, 68]⟩, .int .u8 0, .int .i64 2, .int .i64 1, .func g14 #[] c14]),
      (15, .agg #[Value.string ⟨#[79, 82]⟩, .int .u8 0, .int .i64 2, .int .i64 1, .func g15 #[] c15]),
      (16, .agg #[Value.string ⟨#[83, 72, 79, 82, 84]⟩, .int .u8 0, .int .i64 1, .int .i64 1, .func g16 #[] c16]),
      (17, .agg #[Value.string ⟨#[74, 85, 77, 80]⟩, .int .u8 4, .int .i64 0, .int .i64 0, .func g17 #[] c17]),
      (18, .agg #[Value.string ⟨#[85, 78, 76, 69, 83, 83]⟩, .int .u8 4, .int .i64 1, .int .i64 0, .func g18 #[] c18]),
      (19, .agg #[Value.string ⟨#[70, 79, 82]⟩, .int .u8 5, .int .i64 0, .int .i64 0, .func g19 #[] c19]),
      (20, .agg #[Value.string ⟨#[78, 69, 88, 84]⟩, .int .u8 0, .int .i64 0, .int .i64 0, .func g20 #[] c20]),
      (21, .agg #[Value.string ⟨#[84, 73, 77, 69, 82]⟩, .int .u8 2, .int .i64 2, .int .i64 1, .func g21 #[] c21])])
    (h : wpList Tryz.prog ops Q rest (a.put o.dst (.agg (tabC (fun i => [Value.func g0 #[] c0, Value.func g1 #[] c1, Value.func g2 #[] c2, Value.func g3 #[] c3, Value.func g4 #[] c4, Value.func g5 #[] c5, Value.func g6 #[] c6, Value.func g7 #[] c7, Value.func g8 #[] c8, Value.func g9 #[] c9, Value.func g10 #[] c10, Value.func g11 #[] c11, Value.func g12 #[] c12, Value.func g13 #[] c13, Value.func g14 #[] c14, Value.func g15 #[] c15, Value.func g16 #[] c16, Value.func g17 #[] c17, Value.func g18 #[] c18, Value.func g19 #[] c19, Value.func g20 #[] c20, Value.func g21 #[] c21].getD i undef)))) w) : wpList Tryz.prog ops Q (o :: rest) a w :=
  wpList_build hgd 212 parts ho _ hvs _ (run_build_tab g0 g1 g2 g3 g4 g5 g6 g7 g8 g9 g10 g11 g12 g13 g14 g15 g16 g17 g18 g19 g20 g21 c0 c1 c2 c3 c4 c5 c6 c7 c8 c9 c10 c11 c12 c13 c14 c15 c16 c17 c18 c19 c20 c21 w) h
/-- A closure's variable, still as it was laid. -/
def Rk (lo : Nat) (w : World) (v : Value) (G F : Nat) : Prop := ∃ g, lo ≤ g ∧ g < w.heap.size ∧ v = .func (.func G) #[] #[.pointer (some ⟨g, 0, none⟩)] ∧ w.cell? ⟨g, 0, none⟩ = some (.func (.func F) #[] #[])
def Cl (lo : Nat) (w : World) (l : List (Nat × Nat)) : Prop := ∀ p ∈ l, lo ≤ p.1 ∧ w.cell? ⟨p.1, 0, none⟩ = some (.func (.func p.2) #[] #[])
theorem Cl.step {lo : Nat} {w w' : World} {l : List (Nat × Nat)} (h : Cl lo w l) (hb : Below w.heap.size w w') {g F : Nat} (hl : lo ≤ w.heap.size) (hg : w.heap.size ≤ g) (hc : w'.cell? ⟨g, 0, none⟩ = some (.func (.func F) #[] #[])) : Cl lo w' ((g, F) :: l) := by
  intro p hp
  rcases List.mem_cons.1 hp with e | e
  · subst e; exact ⟨Nat.le_trans hl hg, hc⟩
  · have := h p e
    exact ⟨this.1, (hb.cell (p := ⟨p.1, 0, none⟩) (World.block_lt_of_cell? w _ this.2)).trans this.2⟩
theorem Cl.rk {lo : Nat} {w : World} {l : List (Nat × Nat)} (h : Cl lo w l) {g G F : Nat} {v : Value} (hv : v = .func (.func G) #[] #[.pointer (some ⟨g, 0, none⟩)]) (hm : (g, F) ∈ l) : Rk lo w v G F :=
  ⟨g, (h _ hm).1, World.block_lt_of_cell? w _ (h _ hm).2, hv, (h _ hm).2⟩
theorem Rk.below {lo : Nat} {w w' : World} {v : Value} {G F : Nat} (h : Rk lo w v G F) (hb : Below w.heap.size w w') : Rk lo w' v G F := by
  obtain ⟨g, a, b, c, d⟩ := h
  exact ⟨g, a, Nat.lt_of_lt_of_le b hb.size, c, (hb.cell (p := ⟨g, 0, none⟩) b).trans d⟩
theorem heap_setCells {b k : Nat} (hb : k ≠ b) : ∀ (vs : List Value) (o : Nat) (w : World), (w.setCells b o vs).heap[k]? = w.heap[k]?
  | [], _, _ => rfl
  | v :: r, o, w => by
    rw [World.setCells, heap_setCells hb r (o + 1) _]
    exact Below.heap_setCell _ _ _ _ hb
theorem sizeSetCells {b : Nat} : ∀ (vs : List Value) (o : Nat) (w : World), (w.setCells b o vs).heap.size = w.heap.size
  | [], _, _ => rfl
  | v :: r, o, w => by
    rw [World.setCells, sizeSetCells r (o + 1) _, World.size_setCell]
theorem Rk.setCells {b : Nat} {w : World} {v : Value} {G F : Nat} (h : Rk (b + 1) w v G F) (o : Nat) (vs : List Value) : Rk b (w.setCells b o vs) v G F := by
  obtain ⟨g, h1, h2, h3, h4⟩ := h
  exact ⟨g, by omega, by rw [sizeSetCells]; exact h2, h3, by rw [World.cell?_of_block (w := w) (heap_setCells (by show g ≠ b; omega) vs o w)]; exact h4⟩
structure FvAt (lo : Nat) (w : World) (fv : Nat → Value) : Prop where
  f0 : fv 0 = .func (.func 156) #[] #[]
  f1 : fv 1 = .func (.func 157) #[] #[]
  f2 : fv 2 = .func (.func 158) #[] #[]
  f3 : fv 3 = .func (.func 159) #[] #[]
  f4 : fv 4 = .func (.func 160) #[] #[]
  f5 : fv 5 = .func (.func 161) #[] #[]
  f17 : fv 17 = .func (.func 177) #[] #[]
  f18 : fv 18 = .func (.func 178) #[] #[]
  f19 : fv 19 = .func (.func 179) #[] #[]
  f20 : fv 20 = .func (.func 180) #[] #[]
  f21 : fv 21 = .func (.func 181) #[] #[]
  f6 : Rk lo w (fv 6) 214 163
  f7 : Rk lo w (fv 7) 214 164
  f8 : Rk lo w (fv 8) 214 165
  f9 : Rk lo w (fv 9) 215 167
  f10 : Rk lo w (fv 10) 215 168
  f11 : Rk lo w (fv 11) 214 169
  f12 : Rk lo w (fv 12) 214 171
  f13 : Rk lo w (fv 13) 214 172
  f14 : Rk lo w (fv 14) 214 173
  f15 : Rk lo w (fv 15) 214 174
  f16 : Rk lo w (fv 16) 214 175
theorem FvAt.below {lo : Nat} {w w' : World} {fv : Nat → Value} (h : FvAt lo w fv) (hb : Below w.heap.size w w') : FvAt lo w' fv :=
  ⟨h.f0, h.f1, h.f2, h.f3, h.f4, h.f5, h.f17, h.f18, h.f19, h.f20, h.f21, h.f6.below hb, h.f7.below hb, h.f8.below hb, h.f9.below hb, h.f10.below hb, h.f11.below hb, h.f12.below hb, h.f13.below hb, h.f14.below hb, h.f15.below hb, h.f16.below hb⟩
theorem FvAt.setCells {b : Nat} {w : World} {fv : Nat → Value} (h : FvAt (b + 1) w fv) (o : Nat) (vs : List Value) : FvAt b (w.setCells b o vs) fv :=
  ⟨h.f0, h.f1, h.f2, h.f3, h.f4, h.f5, h.f17, h.f18, h.f19, h.f20, h.f21, h.f6.setCells o vs, h.f7.setCells o vs, h.f8.setCells o vs, h.f9.setCells o vs, h.f10.setCells o vs, h.f11.setCells o vs, h.f12.setCells o vs, h.f13.setCells o vs, h.f14.setCells o vs, h.f15.setCells o vs, h.f16.setCells o vs⟩
theorem FvAt.fn {lo : Nat} {w : World} {fv : Nat → Value} (h : FvAt lo w fv) : ∀ i, i < 22 → ∃ g c, fv i = .func g #[] c := by
  have rk : ∀ {v : Value} {G F : Nat}, Rk lo w v G F → ∃ g c, v = .func g #[] c := fun ⟨_, _, _, e, _⟩ => ⟨_, _, e⟩
  intro i hi
  have hc : i = 0 ∨ i = 1 ∨ i = 2 ∨ i = 3 ∨ i = 4 ∨ i = 5 ∨ i = 6 ∨ i = 7 ∨ i = 8 ∨ i = 9 ∨ i = 10 ∨ i = 11 ∨ i = 12 ∨ i = 13 ∨ i = 14 ∨ i = 15 ∨ i = 16 ∨ i = 17 ∨ i = 18 ∨ i = 19 ∨ i = 20 ∨ i = 21 := by omega
  rcases hc with rfl | rfl | rfl | rfl | rfl | rfl | rfl | rfl | rfl | rfl | rfl | rfl | rfl | rfl | rfl | rfl | rfl | rfl | rfl | rfl | rfl | rfl
  · exact ⟨_, _, h.f0⟩
  · exact ⟨_, _, h.f1⟩
  · exact ⟨_, _, h.f2⟩
  · exact ⟨_, _, h.f3⟩
  · exact ⟨_, _, h.f4⟩
  · exact ⟨_, _, h.f5⟩
  · exact rk h.f6
  · exact rk h.f7
  · exact rk h.f8
  · exact rk h.f9
  · exact rk h.f10
  · exact rk h.f11
  · exact rk h.f12
  · exact rk h.f13
  · exact rk h.f14
  · exact rk h.f15
  · exact rk h.f16
  · exact ⟨_, _, h.f17⟩
  · exact ⟨_, _, h.f18⟩
  · exact ⟨_, _, h.f19⟩
  · exact ⟨_, _, h.f20⟩
  · exact ⟨_, _, h.f21⟩
set_option maxRecDepth 100000 in
set_option maxHeartbeats 4000000 in
theorem table_at (w : World) (R : Ending → World → Prop) (fin : ∀ fv w', FvAt w.heap.size w' fv → Below w.heap.size w w' → R (.returned (.agg (tabC fv))) w') :
    Calls Tryz.prog 108 #[] w R := by
  replace fin := hd fin
  have hbel : Hid (Below (w.heap.size + 1) (w.alloc (Obj.cells Tryz.zeroCells212 212)) (w.alloc (Obj.cells Tryz.zeroCells212 212))) := hd (Below.refl _ _)
  have hcl : Hid (Cl (w.heap.size + 1) (w.alloc (Obj.cells Tryz.zeroCells212 212)) []) := hd (fun p hp => by cases hp)
  have hlo : Hid (w.heap.size + 1 ≤ (w.alloc (Obj.cells Tryz.zeroCells212 212)).heap.size) := hd (by simp)
  go_enter Tryz.func108, Tryz.ntmps108
  go_wp2_with (first | (go_at_call 162; refine reckoned_at _ _ _ ?_; intro p wx hx hg hc; replace hbel := hd (bel_step hbel.out (by simp) hx); replace hcl := hd (hcl.out.step hx hlo.out hg hc); replace hlo := hd (Nat.le_trans hlo.out hx.size); clear hx hg hc) | (go_at_call 166; refine divided_at _ _ _ ?_; intro p wx hx hg hc; replace hbel := hd (bel_step hbel.out (by simp) hx); replace hcl := hd (hcl.out.step hx hlo.out hg hc); replace hlo := hd (Nat.le_trans hlo.out hx.size); clear hx hg hc) | (refine stopAt 34 rfl ?_) | (refine wpList_row rfl _ _ _ _ _ _ _ rfl rfl ?_; intro r hr))
  refine ⟨?_⟩
  replace hbel := hbel.out
  have hcl2 := hcl.out
  clear hcl hlo
  have hfresh : wx.heap[w.heap.size]? = some (.cells Tryz.zeroCells212 212 (0, 0)) := by rw [hbel.block _ (by omega)]; exact heap_alloc_new _ _
  have hbel2 : Below w.heap.size w wx := (Below.alloc (Below.refl _ _) (Nat.le_refl _) _).trans (hbel.mono (by omega))
  clear hbel
  simp only [IsRow, Hid] at *
  subst_vars
  refine wpList_tabL rfl _ rfl _ _ _ _ _ _ _ _ _ _ _ _ _ _ _ _ _ _ _ _ _ _ _ _ _ _ _ _ _ _ _ _ _ _ _ _ _ _ _ _ _ _ _ _ (by simp [Act.eval]; repeat' (first | apply And.intro | rfl)) ?_
  generalize hfv : (fun i => List.getD _ i undef) = fv
  have hat : FvAt (w.heap.size + 1) wx fv := ⟨by rw [← hfv]; rfl, by rw [← hfv]; rfl, by rw [← hfv]; rfl, by rw [← hfv]; rfl, by rw [← hfv]; rfl, by rw [← hfv]; rfl, by rw [← hfv]; rfl, by rw [← hfv]; rfl, by rw [← hfv]; rfl, by rw [← hfv]; rfl, by rw [← hfv]; rfl, hcl2.rk (by rw [← hfv]; rfl) (by simp), hcl2.rk (by rw [← hfv]; rfl) (by simp), hcl2.rk (by rw [← hfv]; rfl) (by simp), hcl2.rk (by rw [← hfv]; rfl) (by simp), hcl2.rk (by rw [← hfv]; rfl) (by simp), hcl2.rk (by rw [← hfv]; rfl) (by simp), hcl2.rk (by rw [← hfv]; rfl) (by simp), hcl2.rk (by rw [← hfv]; rfl) (by simp), hcl2.rk (by rw [← hfv]; rfl) (by simp), hcl2.rk (by rw [← hfv]; rfl) (by simp), hcl2.rk (by rw [← hfv]; rfl) (by simp)⟩
  clear hfv hcl2
  have hfn := hat.fn
  refine wpList_store_mid rfl 212 _ _ rfl w.heap.size 0 (tabC fv) rfl rfl (there_of_block hfresh (by rfl)) infoTab (tabC_ok fv hfn).2.1 ?_
  have hnew : (wx.setCells w.heap.size 0 (tabC fv).toList).rangeAt w.heap.size 0 (tabC fv).toList := World.rangeAt_setCells_same wx w.heap.size 0 _ (there_of_block hfresh (by rfl))
  have hbel3 : Below w.heap.size w (wx.setCells w.heap.size 0 (tabC fv).toList) := below_setCells (Nat.le_refl _) _ _ _ hbel2
  replace hat : FvAt w.heap.size (wx.setCells w.heap.size 0 (tabC fv).toList) fv := hat.setCells _ _
  generalize wx.setCells w.heap.size 0 (tabC fv).toList = wy at *
  generalize hcs : tabC fv = cs at *
  replace fin := hd fin
  replace hnew := hd hnew
  replace hbel3 := hd hbel3
  replace hat := hd hat
  replace hcs := hd hcs
  clear hfresh hbel2 hfn
  go_wp2
  refine ret_range rfl rowTab infoTab w.heap.size cs (by rw [← hcs.out]; rfl) rfl hnew.out rfl ?_
  have := fin.out fv wy hat.out hbel3.out
  rw [hcs.out] at this
  exact this

end Go.Proofs.YtidhiaaicmfabaaGreatDoor

/- The functions of the table do what their instructions say. -/
namespace Go.Proofs.YtidhiaaicmfabaaGreatDoor
open Go.RowKit Go.Proofs Go.Deep

theorem cf_doEnd (args : Array Value) (w : World) : (callFunc 156 args).run Tryz.prog w = .ok (.enter 156 args) w := by kernel_rfl
theorem cf_doNum (args : Array Value) (w : World) : (callFunc 157 args).run Tryz.prog w = .ok (.enter 157 args) w := by kernel_rfl
theorem cf_doGet (args : Array Value) (w : World) : (callFunc 158 args).run Tryz.prog w = .ok (.enter 158 args) w := by kernel_rfl
theorem cf_doSet (args : Array Value) (w : World) : (callFunc 159 args).run Tryz.prog w = .ok (.enter 159 args) w := by kernel_rfl
theorem cf_doGetX (args : Array Value) (w : World) : (callFunc 160 args).run Tryz.prog w = .ok (.enter 160 args) w := by kernel_rfl
theorem cf_doSetX (args : Array Value) (w : World) : (callFunc 161 args).run Tryz.prog w = .ok (.enter 161 args) w := by kernel_rfl
theorem cf_doJump (args : Array Value) (w : World) : (callFunc 177 args).run Tryz.prog w = .ok (.enter 177 args) w := by kernel_rfl
theorem cf_doUnless (args : Array Value) (w : World) : (callFunc 178 args).run Tryz.prog w = .ok (.enter 178 args) w := by kernel_rfl
theorem cf_doFor (args : Array Value) (w : World) : (callFunc 179 args).run Tryz.prog w = .ok (.enter 179 args) w := by kernel_rfl
theorem cf_doNext (args : Array Value) (w : World) : (callFunc 180 args).run Tryz.prog w = .ok (.enter 180 args) w := by kernel_rfl
theorem cf_doTimer (args : Array Value) (w : World) : (callFunc 181 args).run Tryz.prog w = .ok (.enter 181 args) w := by kernel_rfl
theorem cf_reckoned_1 (args : Array Value) (w : World) : (callFunc 214 args).run Tryz.prog w = .ok (.enter 214 args) w := by kernel_rfl
theorem cf_divided_1 (args : Array Value) (w : World) : (callFunc 215 args).run Tryz.prog w = .ok (.enter 215 args) w := by kernel_rfl
/-- Where the table's closures lie, nothing turns while a scan is run. -/
def Apart (K : Rc) (lo : Nat) (W : World) : Prop := ∀ k, lo ≤ k → k < W.heap.size → K.w0.heap[k]? = W.heap[k]? ∧ k < K.base ∧ k ≠ K.br ∧ k ≠ K.bc
theorem Rk.now {K : Rc} {lo : Nat} {W w : World} {v : Value} {G F : Nat} {dn : Int} {q : Sc} {S : List Int} (h : Rk lo W v G F) (ha : Apart K lo W) (hr : RS K dn q S w) :
    ∃ g, v = .func (.func G) #[] #[.pointer (some ⟨g, 0, none⟩)] ∧ w.cell? ⟨g, 0, none⟩ = some (.func (.func F) #[] #[]) := by
  obtain ⟨g, h1, h2, h3, h4⟩ := h
  obtain ⟨a1, a2, a3, a4⟩ := ha g h1 h2
  obtain ⟨sv, rv, hm, _⟩ := hr.ex
  refine ⟨g, h3, ?_⟩
  rw [World.cell?_of_block (w := W) (a := ⟨g, 0, none⟩) ((hm.fr.block g a2 a3 a4).trans a1)]
  exact h4
theorem RS.q {K : Rc} {dn : Int} {q q' : Sc} {S : List Int} {w : World} (h : RS K dn q S w) (e : q = q') : RS K dn q' S w := e ▸ h
section
variable {K : Rc} (hK : RcOk K) {lo : Nat} {W : World} (hat : FvAt lo W K.fv) (ha : Apart K lo W)
include hK hat in
theorem fv0 : ∃ F cs, K.fv 0 = .func (.func F) #[] cs ∧ (∀ args w, (callFunc F args).run Tryz.prog w = .ok (.enter F args) w) ∧
  ∀ i dn q S w a b R, i < K.n → K.op i = 0 → RS K dn q S w → in32 a → in32 b → Side K i q →
    (∀ w', RS K dn (doesK K i a b q).1 S w' → R (.returned (.tuple #[.int .i32 (doesK K i a b q).2.1, .int .i64 (doesK K i a b q).2.2])) w') →
    Calls Tryz.prog F (#[.pointer (some ⟨K.br, 0, none⟩), .agg #[.int .u8 (K.op i : Int), .int .i64 (K.at_ i : Int), .int .i64 (K.arg i), .int .i64 (K.cnt i), .int .i64 (K.lp i), .int .i64 (K.to_ i)], .int .i32 a, .int .i32 b] ++ cs) w R := by
  refine ⟨156, #[], hat.f0, cf_doEnd, fun i dn q S w a b R hi ho hr ha hb hs fin => ?_⟩
  have e : doesK K i a b q = ({ q with ov := true }, 0, 0) := by
    unfold doesK doesV
    rw [ho]
    simp []
  rw [e] at fin
  exact doEnd_any hK hr _ _ (K.arg i) (K.cnt i) (K.lp i) (K.to_ i) a b R fin
include hK hat in
theorem fv1 : ∃ F cs, K.fv 1 = .func (.func F) #[] cs ∧ (∀ args w, (callFunc F args).run Tryz.prog w = .ok (.enter F args) w) ∧
  ∀ i dn q S w a b R, i < K.n → K.op i = 1 → RS K dn q S w → in32 a → in32 b → Side K i q →
    (∀ w', RS K dn (doesK K i a b q).1 S w' → R (.returned (.tuple #[.int .i32 (doesK K i a b q).2.1, .int .i64 (doesK K i a b q).2.2])) w') →
    Calls Tryz.prog F (#[.pointer (some ⟨K.br, 0, none⟩), .agg #[.int .u8 (K.op i : Int), .int .i64 (K.at_ i : Int), .int .i64 (K.arg i), .int .i64 (K.cnt i), .int .i64 (K.lp i), .int .i64 (K.to_ i)], .int .i32 a, .int .i32 b] ++ cs) w R := by
  refine ⟨157, #[], hat.f1, cf_doNum, fun i dn q S w a b R hi ho hr ha hb hs fin => ?_⟩
  have e : doesK K i a b q = (q, wrap32 (K.arg i), 0) := by
    unfold doesK doesV
    rw [ho]
    simp []
  rw [e] at fin
  exact doNum_any hK hr _ _ (K.arg i) (K.cnt i) (K.lp i) (K.to_ i) a b R fin
include hK hat in
theorem fv2 : ∃ F cs, K.fv 2 = .func (.func F) #[] cs ∧ (∀ args w, (callFunc F args).run Tryz.prog w = .ok (.enter F args) w) ∧
  ∀ i dn q S w a b R, i < K.n → K.op i = 2 → RS K dn q S w → in32 a → in32 b → Side K i q →
    (∀ w', RS K dn (doesK K i a b q).1 S w' → R (.returned (.tuple #[.int .i32 (doesK K i a b q).2.1, .int .i64 (doesK K i a b q).2.2])) w') →
    Calls Tryz.prog F (#[.pointer (some ⟨K.br, 0, none⟩), .agg #[.int .u8 (K.op i : Int), .int .i64 (K.at_ i : Int), .int .i64 (K.arg i), .int .i64 (K.cnt i), .int .i64 (K.lp i), .int .i64 (K.to_ i)], .int .i32 a, .int .i32 b] ++ cs) w R := by
  refine ⟨158, #[], hat.f2, cf_doGet, fun i dn q S w a b R hi ho hr ha hb hs fin => ?_⟩
  obtain ⟨c, hc, hcn⟩ := hs.cell (by omega)
  have e : doesK K i a b q = (q, q.C c, 0) := by
    unfold doesK doesV
    rw [ho]
    simp [hc]
  rw [e] at fin
  exact doGet_any hK hr _ _ (K.arg i) (K.cnt i) (K.lp i) (K.to_ i) a b c hc hcn R fin
include hK hat in
theorem fv3 : ∃ F cs, K.fv 3 = .func (.func F) #[] cs ∧ (∀ args w, (callFunc F args).run Tryz.prog w = .ok (.enter F args) w) ∧
  ∀ i dn q S w a b R, i < K.n → K.op i = 3 → RS K dn q S w → in32 a → in32 b → Side K i q →
    (∀ w', RS K dn (doesK K i a b q).1 S w' → R (.returned (.tuple #[.int .i32 (doesK K i a b q).2.1, .int .i64 (doesK K i a b q).2.2])) w') →
    Calls Tryz.prog F (#[.pointer (some ⟨K.br, 0, none⟩), .agg #[.int .u8 (K.op i : Int), .int .i64 (K.at_ i : Int), .int .i64 (K.arg i), .int .i64 (K.cnt i), .int .i64 (K.lp i), .int .i64 (K.to_ i)], .int .i32 a, .int .i32 b] ++ cs) w R := by
  refine ⟨159, #[], hat.f3, cf_doSet, fun i dn q S w a b R hi ho hr ha hb hs fin => ?_⟩
  obtain ⟨c, hc, hcn⟩ := hs.cell (by omega)
  have e : doesK K i a b q = ({ q with C := upd q.C c (layK (K.kd c) a) }, 0, 0) := by
    unfold doesK doesV
    rw [ho]
    simp [hc]
  rw [e] at fin
  exact doSet_any hK hr _ _ (K.arg i) (K.cnt i) (K.lp i) (K.to_ i) a b c hc hcn ha R fin
include hK hat in
theorem fv4 : ∃ F cs, K.fv 4 = .func (.func F) #[] cs ∧ (∀ args w, (callFunc F args).run Tryz.prog w = .ok (.enter F args) w) ∧
  ∀ i dn q S w a b R, i < K.n → K.op i = 4 → RS K dn q S w → in32 a → in32 b → Side K i q →
    (∀ w', RS K dn (doesK K i a b q).1 S w' → R (.returned (.tuple #[.int .i32 (doesK K i a b q).2.1, .int .i64 (doesK K i a b q).2.2])) w') →
    Calls Tryz.prog F (#[.pointer (some ⟨K.br, 0, none⟩), .agg #[.int .u8 (K.op i : Int), .int .i64 (K.at_ i : Int), .int .i64 (K.arg i), .int .i64 (K.cnt i), .int .i64 (K.lp i), .int .i64 (K.to_ i)], .int .i32 a, .int .i32 b] ++ cs) w R := by
  refine ⟨160, #[], hat.f4, cf_doGetX, fun i dn q S w a b R hi ho hr ha hb hs fin => ?_⟩
  obtain ⟨c, n, hc, hn, hcn⟩ := hs.cells (by omega)
  have e : doesK K i a b q = (q, if 0 ≤ a ∧ a < K.cnt i then q.C (K.arg i + a).toNat else 0, if 0 ≤ a ∧ a < K.cnt i then 0 else 5) := by
    unfold doesK doesV
    rw [ho]
    by_cases h : 0 ≤ a ∧ a < K.cnt i
    · rw [if_pos h, if_pos h]; simp [h]
    · rw [if_neg h, if_neg h]; simp only [h, if_false]; rfl
  rw [e] at fin
  exact doGetX_any hK hr _ _ (K.arg i) (K.cnt i) (K.lp i) (K.to_ i) a b c n hc hn hcn ha R fin
include hK hat in
theorem fv5 : ∃ F cs, K.fv 5 = .func (.func F) #[] cs ∧ (∀ args w, (callFunc F args).run Tryz.prog w = .ok (.enter F args) w) ∧
  ∀ i dn q S w a b R, i < K.n → K.op i = 5 → RS K dn q S w → in32 a → in32 b → Side K i q →
    (∀ w', RS K dn (doesK K i a b q).1 S w' → R (.returned (.tuple #[.int .i32 (doesK K i a b q).2.1, .int .i64 (doesK K i a b q).2.2])) w') →
    Calls Tryz.prog F (#[.pointer (some ⟨K.br, 0, none⟩), .agg #[.int .u8 (K.op i : Int), .int .i64 (K.at_ i : Int), .int .i64 (K.arg i), .int .i64 (K.cnt i), .int .i64 (K.lp i), .int .i64 (K.to_ i)], .int .i32 a, .int .i32 b] ++ cs) w R := by
  refine ⟨161, #[], hat.f5, cf_doSetX, fun i dn q S w a b R hi ho hr ha hb hs fin => ?_⟩
  obtain ⟨c, n, hc, hn, hcn⟩ := hs.cells (by omega)
  have e : doesK K i a b q = ((if 0 ≤ a ∧ a < K.cnt i then { q with C := upd q.C (K.arg i + a).toNat (layK (K.kd (K.arg i + a).toNat) b) } else q), 0, if 0 ≤ a ∧ a < K.cnt i then 0 else 5) := by
    unfold doesK doesV
    rw [ho]
    by_cases h : 0 ≤ a ∧ a < K.cnt i
    · rw [if_pos h, if_pos h]; simp [h]
    · rw [if_neg h, if_neg h]; simp only [h, if_false]; rfl
  rw [e] at fin
  exact doSetX_any hK hr _ _ (K.arg i) (K.cnt i) (K.lp i) (K.to_ i) a b c n hc hn hcn ha hb R fin
include hK hat ha in
theorem fv6 : ∃ F cs, K.fv 6 = .func (.func F) #[] cs ∧ (∀ args w, (callFunc F args).run Tryz.prog w = .ok (.enter F args) w) ∧
  ∀ i dn q S w a b R, i < K.n → K.op i = 6 → RS K dn q S w → in32 a → in32 b → Side K i q →
    (∀ w', RS K dn (doesK K i a b q).1 S w' → R (.returned (.tuple #[.int .i32 (doesK K i a b q).2.1, .int .i64 (doesK K i a b q).2.2])) w') →
    Calls Tryz.prog F (#[.pointer (some ⟨K.br, 0, none⟩), .agg #[.int .u8 (K.op i : Int), .int .i64 (K.at_ i : Int), .int .i64 (K.arg i), .int .i64 (K.cnt i), .int .i64 (K.lp i), .int .i64 (K.to_ i)], .int .i32 a, .int .i32 b] ++ cs) w R := by
  have hrk := hat.f6
  obtain ⟨g, _, _, hv, _⟩ := id hrk
  refine ⟨214, #[.pointer (some ⟨g, 0, none⟩)], hv, cf_reckoned_1, fun i dn q S w a b R hi ho hr hia hb hs fin => ?_⟩
  obtain ⟨g', hv', hg⟩ := hrk.now ha hr
  rw [hv] at hv'
  have eg : g = g' := by simpa using hv'
  subst eg
  have e : doesK K i a b q = (q, wrap32 (a + b), 0) := by
    unfold doesK doesV
    rw [ho]
    simp
  rw [e] at fin
  exact rk_any w K.br g _ _ _ _ _ _ a b 163 hg (wrap32 (a + b)) cf_t1 (fun w R hR => t1_any w a b R hR) R (fun w' hb' => fin w' (hr.below hK hb'))
include hK hat ha in
theorem fv7 : ∃ F cs, K.fv 7 = .func (.func F) #[] cs ∧ (∀ args w, (callFunc F args).run Tryz.prog w = .ok (.enter F args) w) ∧
  ∀ i dn q S w a b R, i < K.n → K.op i = 7 → RS K dn q S w → in32 a → in32 b → Side K i q →
    (∀ w', RS K dn (doesK K i a b q).1 S w' → R (.returned (.tuple #[.int .i32 (doesK K i a b q).2.1, .int .i64 (doesK K i a b q).2.2])) w') →
    Calls Tryz.prog F (#[.pointer (some ⟨K.br, 0, none⟩), .agg #[.int .u8 (K.op i : Int), .int .i64 (K.at_ i : Int), .int .i64 (K.arg i), .int .i64 (K.cnt i), .int .i64 (K.lp i), .int .i64 (K.to_ i)], .int .i32 a, .int .i32 b] ++ cs) w R := by
  have hrk := hat.f7
  obtain ⟨g, _, _, hv, _⟩ := id hrk
  refine ⟨214, #[.pointer (some ⟨g, 0, none⟩)], hv, cf_reckoned_1, fun i dn q S w a b R hi ho hr hia hb hs fin => ?_⟩
  obtain ⟨g', hv', hg⟩ := hrk.now ha hr
  rw [hv] at hv'
  have eg : g = g' := by simpa using hv'
  subst eg
  have e : doesK K i a b q = (q, wrap32 (a - b), 0) := by
    unfold doesK doesV
    rw [ho]
    simp
  rw [e] at fin
  exact rk_any w K.br g _ _ _ _ _ _ a b 164 hg (wrap32 (a - b)) cf_t2 (fun w R hR => t2_any w a b R hR) R (fun w' hb' => fin w' (hr.below hK hb'))
include hK hat ha in
theorem fv8 : ∃ F cs, K.fv 8 = .func (.func F) #[] cs ∧ (∀ args w, (callFunc F args).run Tryz.prog w = .ok (.enter F args) w) ∧
  ∀ i dn q S w a b R, i < K.n → K.op i = 8 → RS K dn q S w → in32 a → in32 b → Side K i q →
    (∀ w', RS K dn (doesK K i a b q).1 S w' → R (.returned (.tuple #[.int .i32 (doesK K i a b q).2.1, .int .i64 (doesK K i a b q).2.2])) w') →
    Calls Tryz.prog F (#[.pointer (some ⟨K.br, 0, none⟩), .agg #[.int .u8 (K.op i : Int), .int .i64 (K.at_ i : Int), .int .i64 (K.arg i), .int .i64 (K.cnt i), .int .i64 (K.lp i), .int .i64 (K.to_ i)], .int .i32 a, .int .i32 b] ++ cs) w R := by
  have hrk := hat.f8
  obtain ⟨g, _, _, hv, _⟩ := id hrk
  refine ⟨214, #[.pointer (some ⟨g, 0, none⟩)], hv, cf_reckoned_1, fun i dn q S w a b R hi ho hr hia hb hs fin => ?_⟩
  obtain ⟨g', hv', hg⟩ := hrk.now ha hr
  rw [hv] at hv'
  have eg : g = g' := by simpa using hv'
  subst eg
  have e : doesK K i a b q = (q, wrap32 (a * b), 0) := by
    unfold doesK doesV
    rw [ho]
    simp
  rw [e] at fin
  exact rk_any w K.br g _ _ _ _ _ _ a b 165 hg (wrap32 (a * b)) cf_t3 (fun w R hR => t3_any w a b R hR) R (fun w' hb' => fin w' (hr.below hK hb'))
include hK hat ha in
theorem fv9 : ∃ F cs, K.fv 9 = .func (.func F) #[] cs ∧ (∀ args w, (callFunc F args).run Tryz.prog w = .ok (.enter F args) w) ∧
  ∀ i dn q S w a b R, i < K.n → K.op i = 9 → RS K dn q S w → in32 a → in32 b → Side K i q →
    (∀ w', RS K dn (doesK K i a b q).1 S w' → R (.returned (.tuple #[.int .i32 (doesK K i a b q).2.1, .int .i64 (doesK K i a b q).2.2])) w') →
    Calls Tryz.prog F (#[.pointer (some ⟨K.br, 0, none⟩), .agg #[.int .u8 (K.op i : Int), .int .i64 (K.at_ i : Int), .int .i64 (K.arg i), .int .i64 (K.cnt i), .int .i64 (K.lp i), .int .i64 (K.to_ i)], .int .i32 a, .int .i32 b] ++ cs) w R := by
  have hrk := hat.f9
  obtain ⟨g, _, _, hv, _⟩ := id hrk
  refine ⟨215, #[.pointer (some ⟨g, 0, none⟩)], hv, cf_divided_1, fun i dn q S w a b R hi ho hr hia hb hs fin => ?_⟩
  obtain ⟨g', hv', hg⟩ := hrk.now ha hr
  rw [hv] at hv'
  have eg : g = g' := by simpa using hv'
  subst eg
  have e : doesK K i a b q = (q, (if b = 0 then 0 else wrap32 (a.tdiv b)), (if b = 0 then 4 else 0)) := by
    unfold doesK doesV
    rw [ho]
    by_cases h : b = 0 <;> simp [h]
  rw [e] at fin
  exact dv_any w K.br g _ _ _ _ _ _ a b 167 hg (wrap32 (a.tdiv b)) cf_t4 (fun h0 w R hR => t4_any w a b h0 R hR) R (fun w' hb' => fin w' (hr.below hK hb'))
include hK hat ha in
theorem fv10 : ∃ F cs, K.fv 10 = .func (.func F) #[] cs ∧ (∀ args w, (callFunc F args).run Tryz.prog w = .ok (.enter F args) w) ∧
  ∀ i dn q S w a b R, i < K.n → K.op i = 10 → RS K dn q S w → in32 a → in32 b → Side K i q →
    (∀ w', RS K dn (doesK K i a b q).1 S w' → R (.returned (.tuple #[.int .i32 (doesK K i a b q).2.1, .int .i64 (doesK K i a b q).2.2])) w') →
    Calls Tryz.prog F (#[.pointer (some ⟨K.br, 0, none⟩), .agg #[.int .u8 (K.op i : Int), .int .i64 (K.at_ i : Int), .int .i64 (K.arg i), .int .i64 (K.cnt i), .int .i64 (K.lp i), .int .i64 (K.to_ i)], .int .i32 a, .int .i32 b] ++ cs) w R := by
  have hrk := hat.f10
  obtain ⟨g, _, _, hv, _⟩ := id hrk
  refine ⟨215, #[.pointer (some ⟨g, 0, none⟩)], hv, cf_divided_1, fun i dn q S w a b R hi ho hr hia hb hs fin => ?_⟩
  obtain ⟨g', hv', hg⟩ := hrk.now ha hr
  rw [hv] at hv'
  have eg : g = g' := by simpa using hv'
  subst eg
  have e : doesK K i a b q = (q, (if b = 0 then 0 else a.tmod b), (if b = 0 then 4 else 0)) := by
    unfold doesK doesV
    rw [ho]
    by_cases h : b = 0 <;> simp [h]
  rw [e] at fin
  exact dv_any w K.br g _ _ _ _ _ _ a b 168 hg (a.tmod b) cf_t5 (fun h0 w R hR => t5_any w a b h0 R hR) R (fun w' hb' => fin w' (hr.below hK hb'))
include hK hat ha in
theorem fv11 : ∃ F cs, K.fv 11 = .func (.func F) #[] cs ∧ (∀ args w, (callFunc F args).run Tryz.prog w = .ok (.enter F args) w) ∧
  ∀ i dn q S w a b R, i < K.n → K.op i = 11 → RS K dn q S w → in32 a → in32 b → Side K i q →
    (∀ w', RS K dn (doesK K i a b q).1 S w' → R (.returned (.tuple #[.int .i32 (doesK K i a b q).2.1, .int .i64 (doesK K i a b q).2.2])) w') →
    Calls Tryz.prog F (#[.pointer (some ⟨K.br, 0, none⟩), .agg #[.int .u8 (K.op i : Int), .int .i64 (K.at_ i : Int), .int .i64 (K.arg i), .int .i64 (K.cnt i), .int .i64 (K.lp i), .int .i64 (K.to_ i)], .int .i32 a, .int .i32 b] ++ cs) w R := by
  have hrk := hat.f11
  obtain ⟨g, _, _, hv, _⟩ := id hrk
  refine ⟨214, #[.pointer (some ⟨g, 0, none⟩)], hv, cf_reckoned_1, fun i dn q S w a b R hi ho hr hia hb hs fin => ?_⟩
  obtain ⟨g', hv', hg⟩ := hrk.now ha hr
  rw [hv] at hv'
  have eg : g = g' := by simpa using hv'
  subst eg
  have e : doesK K i a b q = (q, tr (a == b), 0) := by
    unfold doesK doesV
    rw [ho]
    simp
  rw [e] at fin
  exact rk_any w K.br g _ _ _ _ _ _ a b 169 hg (tr (a == b)) cf_t6 (fun w R hR => t6_any w a b R hR) R (fun w' hb' => fin w' (hr.below hK hb'))
include hK hat ha in
theorem fv12 : ∃ F cs, K.fv 12 = .func (.func F) #[] cs ∧ (∀ args w, (callFunc F args).run Tryz.prog w = .ok (.enter F args) w) ∧
  ∀ i dn q S w a b R, i < K.n → K.op i = 12 → RS K dn q S w → in32 a → in32 b → Side K i q →
    (∀ w', RS K dn (doesK K i a b q).1 S w' → R (.returned (.tuple #[.int .i32 (doesK K i a b q).2.1, .int .i64 (doesK K i a b q).2.2])) w') →
    Calls Tryz.prog F (#[.pointer (some ⟨K.br, 0, none⟩), .agg #[.int .u8 (K.op i : Int), .int .i64 (K.at_ i : Int), .int .i64 (K.arg i), .int .i64 (K.cnt i), .int .i64 (K.lp i), .int .i64 (K.to_ i)], .int .i32 a, .int .i32 b] ++ cs) w R := by
  have hrk := hat.f12
  obtain ⟨g, _, _, hv, _⟩ := id hrk
  refine ⟨214, #[.pointer (some ⟨g, 0, none⟩)], hv, cf_reckoned_1, fun i dn q S w a b R hi ho hr hia hb hs fin => ?_⟩
  obtain ⟨g', hv', hg⟩ := hrk.now ha hr
  rw [hv] at hv'
  have eg : g = g' := by simpa using hv'
  subst eg
  have e : doesK K i a b q = (q, tr (decide (a < b)), 0) := by
    unfold doesK doesV
    rw [ho]
    simp
  rw [e] at fin
  exact rk_any w K.br g _ _ _ _ _ _ a b 171 hg (tr (decide (a < b))) cf_t7 (fun w R hR => t7_any w a b R hR) R (fun w' hb' => fin w' (hr.below hK hb'))
include hK hat ha in
theorem fv13 : ∃ F cs, K.fv 13 = .func (.func F) #[] cs ∧ (∀ args w, (callFunc F args).run Tryz.prog w = .ok (.enter F args) w) ∧
  ∀ i dn q S w a b R, i < K.n → K.op i = 13 → RS K dn q S w → in32 a → in32 b → Side K i q →
    (∀ w', RS K dn (doesK K i a b q).1 S w' → R (.returned (.tuple #[.int .i32 (doesK K i a b q).2.1, .int .i64 (doesK K i a b q).2.2])) w') →
    Calls Tryz.prog F (#[.pointer (some ⟨K.br, 0, none⟩), .agg #[.int .u8 (K.op i : Int), .int .i64 (K.at_ i : Int), .int .i64 (K.arg i), .int .i64 (K.cnt i), .int .i64 (K.lp i), .int .i64 (K.to_ i)], .int .i32 a, .int .i32 b] ++ cs) w R := by
  have hrk := hat.f13
  obtain ⟨g, _, _, hv, _⟩ := id hrk
  refine ⟨214, #[.pointer (some ⟨g, 0, none⟩)], hv, cf_reckoned_1, fun i dn q S w a b R hi ho hr hia hb hs fin => ?_⟩
  obtain ⟨g', hv', hg⟩ := hrk.now ha hr
  rw [hv] at hv'
  have eg : g = g' := by simpa using hv'
  subst eg
  have e : doesK K i a b q = (q, tr (a == 0), 0) := by
    unfold doesK doesV
    rw [ho]
    simp
  rw [e] at fin
  exact rk_any w K.br g _ _ _ _ _ _ a b 172 hg (tr (a == 0)) cf_t8 (fun w R hR => t8_any w a b R hR) R (fun w' hb' => fin w' (hr.below hK hb'))
include hK hat ha in
theorem fv14 : ∃ F cs, K.fv 14 = .func (.func F) #[] cs ∧ (∀ args w, (callFunc F args).run Tryz.prog w = .ok (.enter F args) w) ∧
  ∀ i dn q S w a b R, i < K.n → K.op i = 14 → RS K dn q S w → in32 a → in32 b → Side K i q →
    (∀ w', RS K dn (doesK K i a b q).1 S w' → R (.returned (.tuple #[.int .i32 (doesK K i a b q).2.1, .int .i64 (doesK K i a b q).2.2])) w') →
    Calls Tryz.prog F (#[.pointer (some ⟨K.br, 0, none⟩), .agg #[.int .u8 (K.op i : Int), .int .i64 (K.at_ i : Int), .int .i64 (K.arg i), .int .i64 (K.cnt i), .int .i64 (K.lp i), .int .i64 (K.to_ i)], .int .i32 a, .int .i32 b] ++ cs) w R := by
  have hrk := hat.f14
  obtain ⟨g, _, _, hv, _⟩ := id hrk
  refine ⟨214, #[.pointer (some ⟨g, 0, none⟩)], hv, cf_reckoned_1, fun i dn q S w a b R hi ho hr hia hb hs fin => ?_⟩
  obtain ⟨g', hv', hg⟩ := hrk.now ha hr
  rw [hv] at hv'
  have eg : g = g' := by simpa using hv'
  subst eg
  have e : doesK K i a b q = (q, tr (a != 0 && b != 0), 0) := by
    unfold doesK doesV
    rw [ho]
    simp
  rw [e] at fin
  exact rk_any w K.br g _ _ _ _ _ _ a b 173 hg (tr (a != 0 && b != 0)) cf_t9 (fun w R hR => t9_any w a b R hR) R (fun w' hb' => fin w' (hr.below hK hb'))
include hK hat ha in
theorem fv15 : ∃ F cs, K.fv 15 = .func (.func F) #[] cs ∧ (∀ args w, (callFunc F args).run Tryz.prog w = .ok (.enter F args) w) ∧
  ∀ i dn q S w a b R, i < K.n → K.op i = 15 → RS K dn q S w → in32 a → in32 b → Side K i q →
    (∀ w', RS K dn (doesK K i a b q).1 S w' → R (.returned (.tuple #[.int .i32 (doesK K i a b q).2.1, .int .i64 (doesK K i a b q).2.2])) w') →
    Calls Tryz.prog F (#[.pointer (some ⟨K.br, 0, none⟩), .agg #[.int .u8 (K.op i : Int), .int .i64 (K.at_ i : Int), .int .i64 (K.arg i), .int .i64 (K.cnt i), .int .i64 (K.lp i), .int .i64 (K.to_ i)], .int .i32 a, .int .i32 b] ++ cs) w R := by
  have hrk := hat.f15
  obtain ⟨g, _, _, hv, _⟩ := id hrk
  refine ⟨214, #[.pointer (some ⟨g, 0, none⟩)], hv, cf_reckoned_1, fun i dn q S w a b R hi ho hr hia hb hs fin => ?_⟩
  obtain ⟨g', hv', hg⟩ := hrk.now ha hr
  rw [hv] at hv'
  have eg : g = g' := by simpa using hv'
  subst eg
  have e : doesK K i a b q = (q, tr (a != 0 || b != 0), 0) := by
    unfold doesK doesV
    rw [ho]
    simp
  rw [e] at fin
  exact rk_any w K.br g _ _ _ _ _ _ a b 174 hg (tr (a != 0 || b != 0)) cf_t10 (fun w R hR => t10_any w a b R hR) R (fun w' hb' => fin w' (hr.below hK hb'))
include hK hat ha in
theorem fv16 : ∃ F cs, K.fv 16 = .func (.func F) #[] cs ∧ (∀ args w, (callFunc F args).run Tryz.prog w = .ok (.enter F args) w) ∧
  ∀ i dn q S w a b R, i < K.n → K.op i = 16 → RS K dn q S w → in32 a → in32 b → Side K i q →
    (∀ w', RS K dn (doesK K i a b q).1 S w' → R (.returned (.tuple #[.int .i32 (doesK K i a b q).2.1, .int .i64 (doesK K i a b q).2.2])) w') →
    Calls Tryz.prog F (#[.pointer (some ⟨K.br, 0, none⟩), .agg #[.int .u8 (K.op i : Int), .int .i64 (K.at_ i : Int), .int .i64 (K.arg i), .int .i64 (K.cnt i), .int .i64 (K.lp i), .int .i64 (K.to_ i)], .int .i32 a, .int .i32 b] ++ cs) w R := by
  have hrk := hat.f16
  obtain ⟨g, _, _, hv, _⟩ := id hrk
  refine ⟨214, #[.pointer (some ⟨g, 0, none⟩)], hv, cf_reckoned_1, fun i dn q S w a b R hi ho hr hia hb hs fin => ?_⟩
  obtain ⟨g', hv', hg⟩ := hrk.now ha hr
  rw [hv] at hv'
  have eg : g = g' := by simpa using hv'
  subst eg
  have e : doesK K i a b q = (q, IntKind.i16.wrap a, 0) := by
    unfold doesK doesV
    rw [ho]
    simp
  rw [e] at fin
  exact rk_any w K.br g _ _ _ _ _ _ a b 175 hg (IntKind.i16.wrap a) cf_t11 (fun w R hR => t11_any w a b hia R hR) R (fun w' hb' => fin w' (hr.below hK hb'))
include hK hat in
theorem fv17 : ∃ F cs, K.fv 17 = .func (.func F) #[] cs ∧ (∀ args w, (callFunc F args).run Tryz.prog w = .ok (.enter F args) w) ∧
  ∀ i dn q S w a b R, i < K.n → K.op i = 17 → RS K dn q S w → in32 a → in32 b → Side K i q →
    (∀ w', RS K dn (doesK K i a b q).1 S w' → R (.returned (.tuple #[.int .i32 (doesK K i a b q).2.1, .int .i64 (doesK K i a b q).2.2])) w') →
    Calls Tryz.prog F (#[.pointer (some ⟨K.br, 0, none⟩), .agg #[.int .u8 (K.op i : Int), .int .i64 (K.at_ i : Int), .int .i64 (K.arg i), .int .i64 (K.cnt i), .int .i64 (K.lp i), .int .i64 (K.to_ i)], .int .i32 a, .int .i32 b] ++ cs) w R := by
  refine ⟨177, #[], hat.f17, cf_doJump, fun i dn q S w a b R hi ho hr ha hb hs fin => ?_⟩
  have e : doesK K i a b q = ({ q with nx := K.to_ i }, 0, 0) := by
    unfold doesK doesV
    rw [ho]
    simp []
  rw [e] at fin
  exact doJump_any hK hr _ _ (K.arg i) (K.cnt i) (K.lp i) (K.to_ i) a b R fin
include hK hat in
theorem fv18 : ∃ F cs, K.fv 18 = .func (.func F) #[] cs ∧ (∀ args w, (callFunc F args).run Tryz.prog w = .ok (.enter F args) w) ∧
  ∀ i dn q S w a b R, i < K.n → K.op i = 18 → RS K dn q S w → in32 a → in32 b → Side K i q →
    (∀ w', RS K dn (doesK K i a b q).1 S w' → R (.returned (.tuple #[.int .i32 (doesK K i a b q).2.1, .int .i64 (doesK K i a b q).2.2])) w') →
    Calls Tryz.prog F (#[.pointer (some ⟨K.br, 0, none⟩), .agg #[.int .u8 (K.op i : Int), .int .i64 (K.at_ i : Int), .int .i64 (K.arg i), .int .i64 (K.cnt i), .int .i64 (K.lp i), .int .i64 (K.to_ i)], .int .i32 a, .int .i32 b] ++ cs) w R := by
  refine ⟨178, #[], hat.f18, cf_doUnless, fun i dn q S w a b R hi ho hr ha hb hs fin => ?_⟩
  have e : doesK K i a b q = ((if a = 0 then { q with nx := K.to_ i } else q), 0, 0) := by
    unfold doesK doesV
    rw [ho]
    by_cases h : a = 0 <;> simp [h]
  rw [e] at fin
  exact doUnless_any hK hr _ _ (K.arg i) (K.cnt i) (K.lp i) (K.to_ i) a b R fin
include hK hat in
theorem fv19 : ∃ F cs, K.fv 19 = .func (.func F) #[] cs ∧ (∀ args w, (callFunc F args).run Tryz.prog w = .ok (.enter F args) w) ∧
  ∀ i dn q S w a b R, i < K.n → K.op i = 19 → RS K dn q S w → in32 a → in32 b → Side K i q →
    (∀ w', RS K dn (doesK K i a b q).1 S w' → R (.returned (.tuple #[.int .i32 (doesK K i a b q).2.1, .int .i64 (doesK K i a b q).2.2])) w') →
    Calls Tryz.prog F (#[.pointer (some ⟨K.br, 0, none⟩), .agg #[.int .u8 (K.op i : Int), .int .i64 (K.at_ i : Int), .int .i64 (K.arg i), .int .i64 (K.cnt i), .int .i64 (K.lp i), .int .i64 (K.to_ i)], .int .i32 a, .int .i32 b] ++ cs) w R := by
  refine ⟨179, #[], hat.f19, cf_doFor, fun i dn q S w a b R hi ho hr ha hb hs fin => ?_⟩
  have hl := hs.opn ho
  have e : doesK K i a b q = ({ q with Lf := K.arg i :: q.Lf }, 0, 0) := by
    unfold doesK doesV
    rw [ho]
    simp []
  rw [e] at fin
  exact doFor_any hK hr _ _ (K.arg i) (K.cnt i) (K.lp i) (K.to_ i) a b hl R fin
include hK hat in
theorem fv20 : ∃ F cs, K.fv 20 = .func (.func F) #[] cs ∧ (∀ args w, (callFunc F args).run Tryz.prog w = .ok (.enter F args) w) ∧
  ∀ i dn q S w a b R, i < K.n → K.op i = 20 → RS K dn q S w → in32 a → in32 b → Side K i q →
    (∀ w', RS K dn (doesK K i a b q).1 S w' → R (.returned (.tuple #[.int .i32 (doesK K i a b q).2.1, .int .i64 (doesK K i a b q).2.2])) w') →
    Calls Tryz.prog F (#[.pointer (some ⟨K.br, 0, none⟩), .agg #[.int .u8 (K.op i : Int), .int .i64 (K.at_ i : Int), .int .i64 (K.arg i), .int .i64 (K.cnt i), .int .i64 (K.lp i), .int .i64 (K.to_ i)], .int .i32 a, .int .i32 b] ++ cs) w R := by
  refine ⟨180, #[], hat.f20, cf_doNext, fun i dn q S w a b R hi ho hr ha hb hs fin => ?_⟩
  obtain ⟨c, r, hL, h1, h2, h3, h4, h5⟩ := hs.nxt ho
  have e : doesK K i a b q = ((if 0 < c - 1 then { q with Lf := (c - 1) :: r, nx := K.lp i + 1 } else { q with Lf := r }), 0, 0) := by
    unfold doesK doesV
    rw [ho]
    by_cases h : 1 < c
    · have h' : 0 < c - 1 := by omega
      rw [if_pos h']; simp [hL, h]
    · have h' : ¬ 0 < c - 1 := by omega
      rw [if_neg h']; simp [hL, h]
  rw [e] at fin
  exact doNext_any hK hr _ _ (K.arg i) (K.cnt i) (K.lp i) (K.to_ i) a b c r hL ⟨h1, h2⟩ h3 ⟨h4, h5⟩ R fin
include hK hat in
theorem fv21 : ∃ F cs, K.fv 21 = .func (.func F) #[] cs ∧ (∀ args w, (callFunc F args).run Tryz.prog w = .ok (.enter F args) w) ∧
  ∀ i dn q S w a b R, i < K.n → K.op i = 21 → RS K dn q S w → in32 a → in32 b → Side K i q →
    (∀ w', RS K dn (doesK K i a b q).1 S w' → R (.returned (.tuple #[.int .i32 (doesK K i a b q).2.1, .int .i64 (doesK K i a b q).2.2])) w') →
    Calls Tryz.prog F (#[.pointer (some ⟨K.br, 0, none⟩), .agg #[.int .u8 (K.op i : Int), .int .i64 (K.at_ i : Int), .int .i64 (K.arg i), .int .i64 (K.cnt i), .int .i64 (K.lp i), .int .i64 (K.to_ i)], .int .i32 a, .int .i32 b] ++ cs) w R := by
  refine ⟨181, #[], hat.f21, cf_doTimer, fun i dn q S w a b R hi ho hr ha hb hs fin => ?_⟩
  obtain ⟨c, hc, hcn⟩ := hs.cell (by omega)
  have e : doesK K i a b q = ((if a = 0 then { q with C := upd q.C c 0 } else { q with C := upd q.C c (min (q.C c + K.delta) 2147483647) }), if a = 0 then 0 else tr (decide (b ≤ min (q.C c + K.delta) 2147483647)), 0) := by
    unfold doesK doesV
    rw [ho]
    by_cases h : a = 0 <;> simp [hc, h]
  rw [e] at fin
  exact doTimer_any hK hr _ _ (K.arg i) (K.cnt i) (K.lp i) (K.to_ i) a b c hc hcn R fin
include hK hat ha in
theorem fv_ok : FvOk K := by
  intro o ho
  have hc : o = 0 ∨ o = 1 ∨ o = 2 ∨ o = 3 ∨ o = 4 ∨ o = 5 ∨ o = 6 ∨ o = 7 ∨ o = 8 ∨ o = 9 ∨ o = 10 ∨ o = 11 ∨ o = 12 ∨ o = 13 ∨ o = 14 ∨ o = 15 ∨ o = 16 ∨ o = 17 ∨ o = 18 ∨ o = 19 ∨ o = 20 ∨ o = 21 := by omega
  rcases hc with rfl | rfl | rfl | rfl | rfl | rfl | rfl | rfl | rfl | rfl | rfl | rfl | rfl | rfl | rfl | rfl | rfl | rfl | rfl | rfl | rfl | rfl
  · exact fv0 hK hat
  · exact fv1 hK hat
  · exact fv2 hK hat
  · exact fv3 hK hat
  · exact fv4 hK hat
  · exact fv5 hK hat
  · exact fv6 hK hat ha
  · exact fv7 hK hat ha
  · exact fv8 hK hat ha
  · exact fv9 hK hat ha
  · exact fv10 hK hat ha
  · exact fv11 hK hat ha
  · exact fv12 hK hat ha
  · exact fv13 hK hat ha
  · exact fv14 hK hat ha
  · exact fv15 hK hat ha
  · exact fv16 hK hat ha
  · exact fv17 hK hat
  · exact fv18 hK hat
  · exact fv19 hK hat
  · exact fv20 hK hat
  · exact fv21 hK hat
end

end Go.Proofs.YtidhiaaicmfabaaGreatDoor

/- What a scan stands on. -/
namespace Go.Proofs.YtidhiaaicmfabaaGreatDoor
open Go.RowKit Go.Proofs Go.Deep

theorem infoRun : (Tryz.prog.info? 228).map (·.size) = some 118 := by kernel_rfl
def runC (X Y : Value) (d : Int) (fv : Nat → Value) : Array Value := tabC fv ++ #[X, Y, .int .i64 d, .slice none 0 0, .slice none 0 0, .int .i64 0, .int .i64 0, .bool false]
theorem run_build_run (a : Option Addr) (n c : Nat) (a' : Option Addr) (n' c' : Nat) (d : Int) (fv : Nat → Value) (w : World) : (Instr.build 228 #[(0, .agg (tabC fv)), (1, .slice a n c), (2, .slice a' n' c'), (3, .int .i64 d)]).run Tryz.prog w = .ok (.agg (runC (.slice a n c) (.slice a' n' c') d fv)) w := by
  kernel_rfl
theorem runC_size (X Y : Value) (d : Int) (fv : Nat → Value) : (runC X Y d fv).size = 118 := by kernel_rfl
theorem zeroRun_size : (Tryz.zeroCells228).size = 118 := by kernel_rfl
theorem runC_one (a : Option Addr) (n c : Nat) (a' : Option Addr) (n' c' : Nat) (d : Int) (fv : Nat → Value) (hf : ∀ i, i < 22 → ∃ g c, fv i = .func g #[] c) : (runC (.slice a n c) (.slice a' n' c') d fv).all (·.oneCell') = true := by
  have h := (tabC_ok fv hf).2.1
  unfold runC
  simp only [Array.all_append, h]
  have e1 : ∀ a n c, (Value.slice a n c).oneCell' = true := fun _ _ _ => rfl
  have e2 : ∀ k x, (Value.int k x).oneCell' = true := fun _ _ => rfl
  have e3 : ∀ x, (Value.bool x).oneCell' = true := fun _ => rfl
  simp [e1, e2, e3]
theorem wp_normal {P : Program} {c : Code} {Q : Exit → Act → World → Prop} {a : Act} {w : World} (h : c.wp P (fun e a' w' => e = .normal ∧ Q .normal a' w') a w) : c.wp P Q a w := wp_mono h (fun _ _ _ hq => hq.1 ▸ hq.2)
theorem stepH {P : Program} {md : Region.Mode} {ops : Array Oper} {Q : Exit → Act → World → Prop} {S : World → Prop} {fuel : Nat} {listed : Array Bool} {a : Act} {w : World} {i : Nat} {o : Oper} (ho : ops[i]? = some o)
    (h : ∀ K' : Act → World → Prop, (∀ a w, S w → wpAnyH P md ops Q S fuel (listed.setIfInBounds i true) a w → K' a w) → if Region.wanted o (yielded ops a.tmps) = true then Oper.wp P o a w K' Q else K' (a.put o.dst undef) w) :
    wpOp P ops Q i (fun a' w' => S w' ∧ wpAnyH P md ops Q S fuel (listed.setIfInBounds i true) a' w') a w := wpOp_step ho (fun K' hK => h K' (fun a w hs hw => hK a w ⟨hs, hw⟩))
def nmT (o : Nat) : ByteArray := [⟨#[69, 78, 68]⟩, ⟨#[78, 85, 77]⟩, ⟨#[71, 69, 84]⟩, ⟨#[83, 69, 84]⟩, ⟨#[71, 69, 84, 88]⟩, ⟨#[83, 69, 84, 88]⟩, ⟨#[65, 68, 68]⟩, ⟨#[83, 85, 66]⟩, ⟨#[77, 85, 76]⟩, ⟨#[68, 73, 86]⟩, ⟨#[77, 79, 68]⟩, ⟨#[69, 81]⟩, ⟨#[76, 84]⟩, ⟨#[78, 79, 84]⟩, ⟨#[65, 78, 68]⟩, ⟨#[79, 82]⟩, ⟨#[83, 72, 79, 82, 84]⟩, ⟨#[74, 85, 77, 80]⟩, ⟨#[85, 78, 76, 69, 83, 83]⟩, ⟨#[70, 79, 82]⟩, ⟨#[78, 69, 88, 84]⟩, (⟨#[84, 73, 77, 69, 82]⟩ : ByteArray)].getD o ⟨#[]⟩
theorem tab_rowF (fv : Nat → Value) : tabC fv = ((List.range 110).map (rowF nmT fv)).toArray := by kernel_rfl
theorem setCells_row {b T : Nat} : ∀ (vs : List Value) (o : Nat) (w : World) (c : Array Value), w.heap[b]? = some (.cells c T (0, 0)) → ∃ c', (w.setCells b o vs).heap[b]? = some (.cells c' T (0, 0)) ∧ c'.size = c.size
  | [], _, _, c, h => ⟨c, h, rfl⟩
  | v :: r, o, w, c, h => by
    rw [World.setCells]
    have h1 : (w.setCell ⟨b, o, none⟩ v).heap[b]? = some (.cells (c.setIfInBounds o v) T (0, 0)) := by simp [World.setCell, Array.getElem?_modify, h]
    obtain ⟨c', h2, h3⟩ := setCells_row r (o + 1) _ _ h1
    exact ⟨c', h2, by rw [h3]; simp⟩
theorem runC_at (X Y : Value) (d : Int) (fv : Nat → Value) (K : Rc) (hnm : K.nm = nmT) (hfv : K.fv = fv) (hd : K.delta = d) (hX : X = .slice (some ⟨K.bs, 0, none⟩) K.n K.cap) (hY : Y = .slice (some ⟨K.bc, 0, none⟩) K.nC K.nC) (i : Nat) (hi : i < 118) :
    (runC X Y d fv)[i]? = some (runF K (.slice none 0 0) (.slice none 0 0) 0 0 false i) := by
  unfold runC runF
  subst hX hY hd hfv
  by_cases h : i < 110
  · rw [if_pos h, Array.getElem?_append_left (by rw [tab_size]; exact h), tab_rowF, hnm]
    simp [h]
  · rw [if_neg h, Array.getElem?_append_right (by rw [tab_size]; omega), tab_size]
    have hc : i = 110 ∨ i = 111 ∨ i = 112 ∨ i = 113 ∨ i = 114 ∨ i = 115 ∨ i = 116 ∨ i = 117 := by omega
    rcases hc with rfl | rfl | rfl | rfl | rfl | rfl | rfl | rfl <;> rfl
theorem run_row {X : World} (K : Rc) (hnm : K.nm = nmT) (hz : X.heap[K.br]? = some (.cells Tryz.zeroCells228 228 (0, 0))) :
    (X.setCells K.br 0 (runC (.slice (some ⟨K.bs, 0, none⟩) K.n K.cap) (.slice (some ⟨K.bc, 0, none⟩) K.nC K.nC) K.delta K.fv).toList).rowIs K.br 228 118 (runF K (.slice none 0 0) (.slice none 0 0) 0 0 false) := by
  obtain ⟨c', h1, h2⟩ := setCells_row (runC (.slice (some ⟨K.bs, 0, none⟩) K.n K.cap) (.slice (some ⟨K.bc, 0, none⟩) K.nC K.nC) K.delta K.fv).toList 0 X _ hz
  refine ⟨c', h1, by rw [h2, zeroRun_size], fun i hi => ?_⟩
  have hnew := World.rangeAt_setCells_same X K.br 0 (runC (.slice (some ⟨K.bs, 0, none⟩) K.n K.cap) (.slice (some ⟨K.bc, 0, none⟩) K.nC K.nC) K.delta K.fv).toList (there_of_block hz (by rw [zeroRun_size]; simp [runC_size]))
  have h3 := runC_at _ _ _ _ K hnm rfl rfl rfl rfl i hi
  have h4 := hnew i _ (by rw [Array.getElem?_toList]; exact h3)
  rw [Nat.zero_add, cell_of_row _ _ i c' _ (0, 0) h1] at h4
  exact h4
/-- A scan's variable, made beside the table. -/
structure PreR (W : World) (br : Nat) (fv : Nat → Value) (X : World) : Prop where
  bel : Below W.heap.size W X
  zero : X.heap[br]? = some (.cells Tryz.zeroCells228 228 (0, 0))
  le : W.heap.size ≤ br
  fv : ∃ lo Y, FvAt lo Y fv ∧ W.heap.size ≤ lo ∧ ∀ k, lo ≤ k → k < Y.heap.size → X.heap[k]? = Y.heap[k]? ∧ k ≠ br ∧ k < X.heap.size
/-- A machine's data. -/
structure Md where
  n : Nat
  cap : Nat
  nC : Nat
  bs : Nat
  bx : Nat
  op : Nat → Nat
  at_ : Nat → Nat
  arg : Nat → Int
  cnt : Nat → Int
  lp : Nat → Int
  to_ : Nat → Int
  rl : Nat → Nat
  kd : Nat → Nat
  bd : Int
def machF (M : Md) (cv : Value) (dn fl : Int) (j : Nat) : Value := if j = 0 then cv else if j = 1 then .slice (some ⟨M.bs, 0, none⟩) M.n M.cap else if j = 2 then .int .i64 M.bd else if j = 3 then .int .i64 dn else .int .i64 fl
/-- A machine in memory that no error has ended. -/
structure Live (M : Md) (bc : Nat) (C : Nat → Int) (dn : Int) (w : World) : Prop where
  row : w.rowIs M.bx 121 5 (machF M (.slice (some ⟨bc, 0, none⟩) M.nC M.nC) dn 0)
  cel : Tab w bc 129 3 M.nC M.nC (cellV M.rl M.kd C)
  steps : Tab w M.bs 254 6 M.n M.cap (stepA M.op M.at_ M.arg M.cnt M.lp M.to_)
  hC : ∀ j, in32 (C j)
  n : M.n ≤ 8000
  nC : M.nC ≤ 100
def mkK (M : Md) (w0 : World) (br bc base : Nat) (nm : Nat → ByteArray) (fv : Nat → Value) (d : Int) : Rc := ⟨w0, br, M.bs, bc, base, M.n, M.cap, M.nC, M.op, M.at_, M.arg, M.cnt, M.lp, M.to_, M.rl, M.kd, nm, fv, d⟩
/-- A machine that an error has ended: its outputs are those of the last scan that was OK. -/
structure Dead (M : Md) (cv : Value) (C : Nat → Int) (dn e : Int) (w : World) : Prop where
  row : w.rowIs M.bx 121 5 (machF M cv dn e)
  cel : (∃ bc cap, cv = .slice (some ⟨bc, 0, none⟩) M.nC cap ∧ Tab w bc 129 3 M.nC cap (cellV M.rl M.kd C)) ∨ (M.nC = 0 ∧ ∃ ao cap, cv = .slice ao 0 cap)
  hC : ∀ j, in32 (C j)
  ne : e ≠ 0
def runM (M : Md) (w : World) (d : Int) (C : Nat → Int) : Sc × Int × Int := runK (mkK M w 0 0 0 nmT (fun _ => undef) d) 300000 ⟨C, [], 0, false⟩ [] 0
theorem runK_M (M : Md) (w0 w1 : World) (br br' bc bc' base base' : Nat) (nm nm' : Nat → ByteArray) (fv fv' : Nat → Value) (d : Int) : ∀ (f : Nat) (q : Sc) (S : List Int) (dn : Int), runK (mkK M w0 br bc base nm fv d) f q S dn = runK (mkK M w1 br' bc' base' nm' fv' d) f q S dn
  | 0, _, _, _ => rfl
  | f + 1, q, S, dn => by
    have e : stepK (mkK M w0 br bc base nm fv d) q S = stepK (mkK M w1 br' bc' base' nm' fv' d) q S := rfl
    simp only [runK]
    rw [e, runK_M M w0 w1 br br' bc bc' base base' nm nm' fv fv' d f]
theorem tab_ne {w : World} {b b' T T' z z' n n' c c' : Nat} {A A' : Nat → Nat → Value} (h : Tab w b T z n c A) (h' : Tab w b' T' z' n' c' A') (hT : T ≠ T') : b ≠ b' := by
  rintro rfl
  obtain ⟨cur, h1, _⟩ := h
  obtain ⟨cur', h2, _⟩ := h'
  rw [h1] at h2
  injection h2 with h2
  injection h2 with _ h3
  exact hT h3
theorem row_ne {w : World} {b b' T T' z' n n' c' : Nat} {f : Nat → Value} {A' : Nat → Nat → Value} (h : w.rowIs b T n f) (h' : Tab w b' T' z' n' c' A') (hT : T ≠ T') : b ≠ b' := by
  rintro rfl
  obtain ⟨cur, h1, _⟩ := h
  obtain ⟨cur', h2, _⟩ := h'
  rw [h1] at h2
  injection h2 with h2
  injection h2 with _ h3
  exact hT h3
theorem Live.below {M : Md} {bc : Nat} {C : Nat → Int} {dn : Int} {w w' : World} (h : Live M bc C dn w) (hb : Below w.heap.size w w') : Live M bc C dn w' :=
  ⟨h.row.of_block (hb.block _ h.row.lt), h.cel.of_block (hb.block _ h.cel.lt), h.steps.of_block (hb.block _ h.steps.lt), h.hC, h.n, h.nC⟩
/-- All that a scan stands on, when its variable is made. -/
theorem start_ok {M : Md} {bc : Nat} {C : Nat → Int} {dn0 : Int} {W X : World} {br : Nat} {fv : Nat → Value} {d : Int} (h : Live M bc C dn0 W) (hp : PreR W br fv X) (hd : 0 ≤ d ∧ d ≤ 1000000) :
    ∃ K : Rc, K = mkK M (X.setCells br 0 (runC (.slice (some ⟨M.bs, 0, none⟩) M.n M.cap) (.slice (some ⟨bc, 0, none⟩) M.nC M.nC) d fv).toList) br bc X.heap.size nmT fv d ∧
      RcOk K ∧ FvOk K ∧ RS K 0 ⟨C, [], 0, false⟩ [] (X.setCells br 0 (runC (.slice (some ⟨M.bs, 0, none⟩) M.n M.cap) (.slice (some ⟨bc, 0, none⟩) M.nC M.nC) d fv).toList) := by
  refine ⟨_, rfl, ?_⟩
  have hbr : br < X.heap.size := (Array.getElem?_eq_some_iff.1 hp.zero).1
  have hsz := hp.bel.size
  have hle := hp.le
  have lb := h.cel.lt
  have ls := h.steps.lt
  have hB : Below W.heap.size W (X.setCells br 0 (runC (.slice (some ⟨M.bs, 0, none⟩) M.n M.cap) (.slice (some ⟨bc, 0, none⟩) M.nC M.nC) d fv).toList) := below_setCells hp.le _ _ _ hp.bel
  have hL := h.below hB
  have hne := tab_ne h.steps h.cel (by decide)
  have hrow := run_row (mkK M (X.setCells br 0 (runC (.slice (some ⟨M.bs, 0, none⟩) M.n M.cap) (.slice (some ⟨bc, 0, none⟩) M.nC M.nC) d fv).toList) br bc X.heap.size nmT fv d) rfl hp.zero
  have hK : RcOk (mkK M (X.setCells br 0 (runC (.slice (some ⟨M.bs, 0, none⟩) M.n M.cap) (.slice (some ⟨bc, 0, none⟩) M.nC M.nC) d fv).toList) br bc X.heap.size nmT fv d) :=
    ⟨hbr, show M.bs < X.heap.size by omega, show bc < X.heap.size by omega, show br ≠ M.bs by omega, show br ≠ bc by omega, hne, show X.heap.size ≤ (X.setCells br 0 _).heap.size by rw [sizeSetCells]; exact Nat.le_refl _, h.n, h.nC, hd, hL.steps⟩
  obtain ⟨lo, Y, hat, hlo, hap⟩ := hp.fv
  refine ⟨hK, fv_ok hK hat (fun k hk hk2 => ?_), ⟨⟨.slice none 0 0, .slice none 0 0, ⟨⟨rfl, rfl, rfl, hK.size, fun _ _ _ _ => rfl⟩, hrow, hL.cel⟩, World.ownsRow_nil _ _ _ _, World.ownsRow_nil _ _ _ _⟩, h.hC, fun x hx => by cases hx⟩⟩
  obtain ⟨a1, a2, a3⟩ := hap k hk hk2
  exact ⟨(heap_setCells a2 _ _ _).trans a1, a3, a2, show k ≠ bc by omega⟩

end Go.Proofs.YtidhiaaicmfabaaGreatDoor
