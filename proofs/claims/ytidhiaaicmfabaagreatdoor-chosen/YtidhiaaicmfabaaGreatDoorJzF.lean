/- Scan, Outputs, Load; the example of the statements. -/
import Derived.Test.YtidhiaaicmfabaaGreatDoorKaA
import Derived.Test.YtidhiaaicmfabaaGreatDoorKaB
import Derived.WalkKit
import Derived.WalkSpells
import Derived.WalkLawsBesides
import Derived.Deep.OwnRows
import Derived.BigQuiet
import Derived.Handy
import Derived.Deep.Light
import Derived.Deep.RegionHeld3
import Derived.Deep.RegionWith
import Derived.Test.YtidhiaaicmfabaaGreatDoorJzE
import Derived.Test.YtidhiaaicmfabaaGreatDoorKaI
import Derived.Laws.IdiomStrings

/- A scan, once its inputs are fit: runOnce. -/
namespace Go.Proofs.YtidhiaaicmfabaaGreatDoor
open Go.RowKit Go.Proofs Go.Deep

theorem own_only1 {w w' : World} {base e size b : Nat} {v : Value} {n : Nat} {xs : List Value} (h : w.ownsRow base e size v n xs) (ho : Only b w w') (hb : b < base) : w'.ownsRow base e size v n xs := by
  refine h.kept (row := some b) ⟨ho.os, ho.tape, ho.output, ho.size, fun k hk hne => ho.block k hk (fun e => hne (by rw [e]))⟩ ?_
  by_cases hx : v.ownBlock = some b
  · have := (h.lt b hx).1; omega
  · exact .inr hx
theorem RS.laid {K : Rc} (hK : RcOk K) {C C' : Nat → Int} {w w' : World} (h : RS K 0 ⟨C, [], 0, false⟩ [] w) (ho : Only K.bc w w') (ht : Tab w' K.bc 129 3 K.nC K.nC (cellV K.rl K.kd C')) (hC : ∀ j, in32 (C' j)) : RS K 0 ⟨C', [], 0, false⟩ [] w' := by
  obtain ⟨sv, rv, hm, hs, hr⟩ := h.ex
  have hsz := hm.fr.size
  exact ⟨⟨sv, rv, ⟨⟨ho.os.trans hm.fr.os, ho.tape.trans hm.fr.tape, ho.output.trans hm.fr.output, Nat.le_trans hsz ho.size, fun k hk h1 h2 => (ho.block k (by omega) h2).trans (hm.fr.block k hk h1 h2)⟩, hm.run.of_block (ho.block _ hm.run.lt hK.rc), ht⟩, own_only1 hs ho hK.bc, own_only1 hr ho hK.bc⟩, hC, fun x hx => by cases hx⟩
theorem frz_new {w : World} {b T : Nat} {c : Array Value} (h : w.heap[b]? = some (.cells c T)) (j : Nat) : w.frozen? ⟨b, j, none⟩ = false := by simp [World.frozen?, h]
theorem Twain.setB {b c base : Nat} {w w' : World} (h : Twain b c base w w') (o : Nat) (v : Value) : Twain b c base w (w'.setCell ⟨b, o, none⟩ v) :=
  ⟨h.os, h.tape, h.output, by rw [World.size_setCell]; exact h.size, fun k hk h1 h2 => by rw [Below.heap_setCell _ _ _ _ h1]; exact h.block k hk h1 h2⟩
def MidR (W : World) (M : Md) (v : Value) (d : Int) (g3 g7 bc : Nat) (ao : Option Addr) (acap : Nat) (e : Exit) (a : Act) (w' : World) : Prop :=
  e = .normal ∧ ∃ br fv X V, PreR W br fv X ∧ a = ⟨#[.pointer (some ⟨M.bx, 0, none⟩), v, .int .i64 d, .pointer (some ⟨g3, 0, none⟩), undef, undef, .pointer (some ⟨g3 + 1, 0, none⟩), .pointer (some ⟨g7, 0, none⟩), .pointer (some ⟨br, 0, none⟩), .pointer (some ⟨M.bx, 0, none⟩), .pointer (some ⟨M.bx, 0, none⟩), .pointer (some ⟨M.bx, 0, none⟩), .slice (some ⟨bc, 0, none⟩) M.nC M.nC, .slice ao M.nC acap, .agg (tabC fv), .pointer (some ⟨M.bx, 0, none⟩), .pointer (some ⟨M.bx, 0, none⟩), .pointer (some ⟨M.bx, 1, none⟩), .slice (some ⟨M.bs, 0, none⟩) M.n M.cap, .pointer (some ⟨M.bx, 0, none⟩), .pointer (some ⟨M.bx, 0, none⟩), .pointer (some ⟨M.bx, 0, none⟩), .slice (some ⟨bc, 0, none⟩) M.nC M.nC, .int .i64 d, V, undef, undef, undef, undef, undef], []⟩ ∧
    w' = X.setCells br 0 (runC (.slice (some ⟨M.bs, 0, none⟩) M.n M.cap) (.slice (some ⟨bc, 0, none⟩) M.nC M.nC) d fv).toList
set_option maxRecDepth 100000 in
set_option maxHeartbeats 4000000 in
theorem runOnce_full (w : World) (M : Md) (bc : Nat) (C : Nat → Int) (dn0 : Int) (h : Live M bc C dn0 w) (v : Value) (l : List Int) (d : Int) (hv : InpAt bc w v l) (hfit : fitsL M.rl M.kd M.nC 0 l = true) (hd1 : 0 ≤ d ∧ d ≤ 1000000) {To : Nat → Nat} {H L : Nat → Int} (hkw : ∀ w0 br bc base nm fv d, KW (mkK M w0 br bc base nm fv d) To M.bd H L) (hbd : M.bd ≤ 200000) (R : Ending → World → Prop)
    (ok : ∀ w' q' dn, runM M w d (layL M.rl M.kd M.nC 0 l C) = (q', dn, 0) → Live M bc q'.C dn w' → Twain M.bx bc w.heap.size w w' → 1 ≤ dn → dn ≤ M.bd → R (.returned (.int .i64 0)) w')
    (err : ∀ w' q' dn e cv, runM M w d (layL M.rl M.kd M.nC 0 l C) = (q', dn, e) → e ≠ 0 → Dead M cv C dn e w' → (∀ b k c, cv = .slice (some ⟨b, 0, none⟩) k c → w.heap.size ≤ b) → Twain M.bx bc w.heap.size w w' → 1 ≤ dn → dn ≤ M.bd → R (.returned (.int .i64 e)) w') :
    Calls Tryz.prog 64 #[.pointer (some ⟨M.bx, 0, none⟩), v, .int .i64 d] w R := by
  have hmf : ∀ (fn : Fn) (first cap : Array Value) (w : World), (Instr.makeFunc fn first cap).run Tryz.prog w = .ok (.func fn first cap) w := fun _ _ _ _ => rfl
  have c0 := h.row.cell (i := 0) (by omega)
  have c1 := h.row.cell (i := 1) (by omega)
  rw [show machF M (.slice (some ⟨bc, 0, none⟩) M.nC M.nC) dn0 0 0 = .slice (some ⟨bc, 0, none⟩) M.nC M.nC from rfl] at c0
  rw [show machF M (.slice (some ⟨bc, 0, none⟩) M.nC M.nC) dn0 0 1 = .slice (some ⟨M.bs, 0, none⟩) M.n M.cap from rfl] at c1
  have hlx := h.row.lt
  have hlc := h.cel.lt
  have hnC := h.nC
  replace ok := hd ok
  replace err := hd err
  replace hkw := hd hkw
  replace h := hd h
  replace hv := hd hv
  replace hfit := hd hfit
  go_enter_defers Tryz.func64, Tryz.ntmps64
  go_wp2_with (fail)
  refine clone_any _ bc M.nC M.rl M.kd C hnC ((h.out.cel.alloc _).alloc _) _ ?_
  intro av news w1 hb1 hown hnews
  obtain ⟨ao, acap, rfl⟩ := own_sl hown
  replace hb1 := hd hb1
  replace hown := hd hown
  replace hnews := hd hnews
  go_wp2_with (fail)
  have hbw : Below w.heap.size w w1 := (((Below.refl _ _).alloc (Nat.le_refl _) _).alloc (by simp) _).trans (hb1.out.mono (by simp; omega))
  have s3 : w1.cell? ⟨w.heap.size, 0, none⟩ = some (.pointer (some ⟨M.bx, 0, none⟩)) := (hb1.out.cell (p := ⟨w.heap.size, 0, none⟩) (by simp; omega)).trans ((cell_of_row _ _ 0 _ _ (0, 0) (first_new w _ _)).trans rfl)
  have s6 : w1.cell? ⟨w.heap.size + 1, 0, none⟩ = some (.int .i64 0) := (hb1.out.cell (p := ⟨w.heap.size + 1, 0, none⟩) (by simp)).trans ((cell_of_row _ _ 0 _ _ (0, 0) (second_new w _ _)).trans rfl)
  have s6f : w1.frozen? ⟨w.heap.size + 1, 0, none⟩ = false := (hb1.out.frozen (p := ⟨w.heap.size + 1, 0, none⟩) (by simp)).trans (frz_new (second_new w _ _) 0)
  have hbW : Below w.heap.size w (w1.alloc (Obj.cells #[Value.slice ao M.nC acap] 112)) := hbw.alloc hbw.size _
  have s7 := heap_alloc_new w1 (Obj.cells #[Value.slice ao M.nC acap] 112)
  have hown2 : w1.ownsRow (w.heap.size + 2) 129 3 (.slice ao M.nC acap) M.nC news := by have := hown.out; simpa using this
  have hownW := hown2.alloc (Obj.cells #[Value.slice ao M.nC acap] 112)
  have g67 : w.heap.size + 1 < w1.heap.size := by have := hb1.out.size; simp at this; omega
  replace s3 := cell_al s3 (Obj.cells #[Value.slice ao M.nC acap] 112)
  replace s6f := frozen_al s6f (by have := hb1.out.size; simp at this; omega) (Obj.cells #[Value.slice ao M.nC acap] 112)
  replace s6 := cell_al s6 (Obj.cells #[Value.slice ao M.nC acap] 112)
  generalize w1.alloc (Obj.cells #[Value.slice ao M.nC acap] 112) = W at *
  replace s7 : W.cell? ⟨w1.heap.size, 0, none⟩ = some (.slice ao M.nC acap) := (cell_of_row _ _ 0 _ _ (0, 0) s7).trans rfl
  have x0 := (hbW.cell (p := ⟨M.bx, 0, none⟩) hlx).trans c0
  have x1 := (hbW.cell (p := ⟨M.bx, 1, none⟩) hlx).trans c1
  have l3 := World.block_lt_of_cell? W _ s3
  have l6 := World.block_lt_of_cell? W _ s6
  have l7 := World.block_lt_of_cell? W _ s7
  have lxW := World.block_lt_of_cell? W _ x0
  have hx3 : M.bx < w.heap.size := hlx
  generalize hg7 : w1.heap.size = g7 at *
  generalize hg3 : w.heap.size = g3 at *
  clear hb1 hown hbw hown2
  refine wp_mono (Q := MidR W M v d g3 g7 bc ao acap) ?_ ?_
  · refine wp_region_held (S := fun w' => Below W.heap.size W w') (by kernel_rfl) ?_
    change wpAnyH _ _ _ _ _ _ _ _ (World.drew _)
    have hS0 : Below W.heap.size W W.drew := (Below.refl _ _).drew
    refine wpAnyH_take (i := 1) (v := .pointer (some ⟨M.bx, 0, none⟩)) rfl (by kernel_rfl) (by kernel_rfl) (by kernel_rfl) (fun _ _ _ h => by cases h.1) (Or.inl ⟨by rfl, fun w' hS => ?_⟩) hS0 ?_
    · have q := hS.cell (p := ⟨g3, 0, none⟩) l3
      rw [s3] at q
      go_simp
    refine wpAnyH_take (i := 2) (v := .pointer (some ⟨M.bx, 0, none⟩)) rfl (by kernel_rfl) (by kernel_rfl) (by kernel_rfl) (fun _ _ _ h => by cases h.1) (Or.inl ⟨by rfl, fun w' hS => ?_⟩) hS0 ?_
    · go_simp
    refine wpAnyH_take (i := 3) (v := .pointer (some ⟨M.bx, 1, none⟩)) rfl (by kernel_rfl) (by kernel_rfl) (by kernel_rfl) (fun _ _ _ h => by cases h.1) (Or.inl ⟨by rfl, fun w' hS => ?_⟩) hS0 ?_
    · go_simp
    refine wpAnyH_take (i := 4) (v := .slice (some ⟨M.bs, 0, none⟩) M.n M.cap) rfl (by kernel_rfl) (by kernel_rfl) (by kernel_rfl) (fun _ _ _ h => by cases h.1) (Or.inl ⟨by rfl, fun w' hS => ?_⟩) hS0 ?_
    · have q := hS.cell (p := ⟨M.bx, 1, none⟩) lxW
      rw [x1] at q
      go_simp
    refine wpAnyH_take (i := 5) (v := .pointer (some ⟨M.bx, 0, none⟩)) rfl (by kernel_rfl) (by kernel_rfl) (by kernel_rfl) (fun _ _ _ h => by cases h.1) (Or.inl ⟨by rfl, fun w' hS => ?_⟩) hS0 ?_
    · have q := hS.cell (p := ⟨g3, 0, none⟩) l3
      rw [s3] at q
      go_simp
    refine wpAnyH_take (i := 6) (v := .pointer (some ⟨M.bx, 0, none⟩)) rfl (by kernel_rfl) (by kernel_rfl) (by kernel_rfl) (fun _ _ _ h => by cases h.1) (Or.inl ⟨by rfl, fun w' hS => ?_⟩) hS0 ?_
    · go_simp
    refine wpAnyH_take (i := 7) (v := .pointer (some ⟨M.bx, 0, none⟩)) rfl (by kernel_rfl) (by kernel_rfl) (by kernel_rfl) (fun _ _ _ h => by cases h.1) (Or.inl ⟨by rfl, fun w' hS => ?_⟩) hS0 ?_
    · go_simp
    refine wpAnyH_take (i := 8) (v := .slice (some ⟨bc, 0, none⟩) M.nC M.nC) rfl (by kernel_rfl) (by kernel_rfl) (by kernel_rfl) (fun _ _ _ h => by cases h.1) (Or.inl ⟨by rfl, fun w' hS => ?_⟩) hS0 ?_
    · have q := hS.cell (p := ⟨M.bx, 0, none⟩) lxW
      rw [x0] at q
      go_simp
    refine wpAnyH_take (i := 9) (v := .int .i64 d) rfl (by kernel_rfl) (by kernel_rfl) (by kernel_rfl) (fun _ _ _ h => by cases h.1) (Or.inl ⟨by rfl, fun w' hS => ?_⟩) hS0 ?_
    · go_simp
    refine wpAnyH_all (rs := [0, 11]) (by kernel_rfl) (by simp) ?_
    intro i hi
    simp only [List.mem_cons, List.not_mem_nil, or_false] at hi
    rcases hi with rfl | rfl
    · refine stepH rfl (fun K hK => ?_)
      go_simp
      refine table_at _ _ ?_
      intro fv w2 hfv hb2
      have hS2 : Below W.heap.size W w2 := drew_below hb2
      have hfn := hd hfv.fn
      refine hK _ _ hS2 ?_
      clear hK K
      refine wpAnyH_take (i := 10) (v := .agg (runC (.slice (some ⟨M.bs, 0, none⟩) M.n M.cap) (.slice (some ⟨bc, 0, none⟩) M.nC M.nC) d fv)) rfl (by kernel_rfl) (by kernel_rfl) (by kernel_rfl) (fun _ _ _ h => by cases h.1) (Or.inl ⟨by rfl, fun w' _ => exec_build rfl (by simp [Act.eval]) (run_build_run _ _ _ _ _ _ d fv) w'⟩) hS2 ?_
      generalize hV : Value.agg (runC (.slice (some ⟨M.bs, 0, none⟩) M.n M.cap) (.slice (some ⟨bc, 0, none⟩) M.nC M.nC) d fv) = V
      refine wpAnyH_all (rs := [11]) (by kernel_rfl) (by simp) ?_
      intro i hi
      simp only [List.mem_cons, List.not_mem_nil, or_false] at hi
      subst hi
      refine stepH rfl (fun K hK => ?_)
      go_simp
      refine hK _ _ (hS2.alloc hS2.size _) ?_
      clear hK K
      have hpre : PreR W w2.heap.size fv (w2.alloc (.cells Tryz.zeroCells228 228)) := ⟨hS2.alloc hS2.size _, heap_alloc_new _ _, hS2.size, W.heap.size, w2, hfv, Nat.le_refl _, fun k hk hk2 => ⟨Below.heap_alloc _ _ _ hk2, by omega, by rw [World.size_alloc]; omega⟩⟩
      refine wpAnyH_all (rs := [12]) (by kernel_rfl) (by simp) ?_
      intro i hi
      simp only [List.mem_cons, List.not_mem_nil, or_false] at hi
      subst hi
      refine stepH rfl (fun K hK => ?_)
      rw [if_pos (by rfl)]
      refine wp_store_mid 228 _ _ rfl (w2.heap.size) 0 (runC (.slice (some ⟨M.bs, 0, none⟩) M.n M.cap) (.slice (some ⟨bc, 0, none⟩) M.nC M.nC) d fv) rfl hV.symm (by rw [runC_size]; exact there_of_block hpre.zero zeroRun_size) (by rw [runC_size]; exact infoRun) (runC_one _ _ _ _ _ _ d fv hfn.out) ?_
      refine hK _ _ (below_setCells hpre.le _ _ _ hpre.bel) ?_
      clear hK K
      refine wpAnyH_done (by kernel_rfl) ?_ _
      refine ⟨rfl, ?_⟩
      exact ⟨_, fv, _, V, hpre, rfl, rfl⟩
    · refine stepH rfl (fun K hK => ?_)
      go_simp
      refine hK _ _ (hS0.alloc (Nat.le_refl _) _) ?_
      clear hK K
      refine wpAnyH_all (rs := [0]) (by kernel_rfl) (by simp) ?_
      intro i hi
      simp only [List.mem_cons, List.not_mem_nil, or_false] at hi
      subst hi
      refine stepH rfl (fun K hK => ?_)
      go_simp
      refine table_at _ _ ?_
      intro fv w2 hfv hb2
      have hS2 : Below W.heap.size W w2 := (hS0.alloc (Nat.le_refl _) _).trans (hb2.mono (by simp))
      have hfn := hd hfv.fn
      refine hK _ _ hS2 ?_
      clear hK K
      refine wpAnyH_take (i := 10) (v := .agg (runC (.slice (some ⟨M.bs, 0, none⟩) M.n M.cap) (.slice (some ⟨bc, 0, none⟩) M.nC M.nC) d fv)) rfl (by kernel_rfl) (by kernel_rfl) (by kernel_rfl) (fun _ _ _ h => by cases h.1) (Or.inl ⟨by rfl, fun w' _ => exec_build rfl (by simp [Act.eval]) (run_build_run _ _ _ _ _ _ d fv) w'⟩) hS2 ?_
      generalize hV : Value.agg (runC (.slice (some ⟨M.bs, 0, none⟩) M.n M.cap) (.slice (some ⟨bc, 0, none⟩) M.nC M.nC) d fv) = V
      have hpre : PreR W W.heap.size fv w2 := ⟨hS2, (hb2.block W.heap.size (by simp)).trans (heap_alloc_new W.drew _), Nat.le_refl _, W.heap.size + 1, w2, by have := hfv; simpa using this, by omega, fun k hk hk2 => ⟨rfl, by omega, hk2⟩⟩
      refine wpAnyH_all (rs := [12]) (by kernel_rfl) (by simp) ?_
      intro i hi
      simp only [List.mem_cons, List.not_mem_nil, or_false] at hi
      subst hi
      refine stepH rfl (fun K hK => ?_)
      rw [if_pos (by rfl)]
      refine wp_store_mid 228 _ _ rfl (W.heap.size) 0 (runC (.slice (some ⟨M.bs, 0, none⟩) M.n M.cap) (.slice (some ⟨bc, 0, none⟩) M.nC M.nC) d fv) rfl hV.symm (by rw [runC_size]; exact there_of_block hpre.zero zeroRun_size) (by rw [runC_size]; exact infoRun) (runC_one _ _ _ _ _ _ d fv hfn.out) ?_
      refine hK _ _ (below_setCells hpre.le _ _ _ hpre.bel) ?_
      clear hK K
      refine wpAnyH_done (by kernel_rfl) ?_ _
      refine ⟨rfl, ?_⟩
      exact ⟨_, fv, _, V, hpre, rfl, rfl⟩
  · intro e0 a0 w0 hmid
    obtain ⟨e1, br, fv, X, V, hpre, ea, ew⟩ := hmid
    subst e1
    rw [ea, ew]
    clear ea ew
    have hbW' : Below w.heap.size w W := by rw [hg3]; exact hbW
    have hLW := h.out.below hbW'
    obtain ⟨K, hKe, hK, hF, hrs⟩ := start_ok hLW hpre hd1
    have hB2 : Below W.heap.size W (X.setCells br 0 (runC (.slice (some ⟨M.bs, 0, none⟩) M.n M.cap) (.slice (some ⟨bc, 0, none⟩) M.nC M.nC) d fv).toList) := below_setCells hpre.le _ _ _ hpre.bel
    have hsz2 : X.heap.size = (X.setCells br 0 (runC (.slice (some ⟨M.bs, 0, none⟩) M.n M.cap) (.slice (some ⟨bc, 0, none⟩) M.nC M.nC) d fv).toList).heap.size := by rw [sizeSetCells]
    have hle := hpre.le
    have hXs := hpre.bel.size
    generalize X.setCells br 0 (runC (.slice (some ⟨M.bs, 0, none⟩) M.n M.cap) (.slice (some ⟨bc, 0, none⟩) M.nC M.nC) d fv).toList = W2 at hKe hB2 hrs hsz2 ⊢
    clear hpre
    generalize Value.agg (tabC fv) = V14
    have t3 := (hB2.cell (p := ⟨g3, 0, none⟩) l3).trans s3
    have t6 := (hB2.cell (p := ⟨g3 + 1, 0, none⟩) l6).trans s6
    have t6f := (hB2.frozen (p := ⟨g3 + 1, 0, none⟩) l6).trans s6f
    have t7 := (hB2.cell (p := ⟨g7, 0, none⟩) l7).trans s7
    have z0 := (hB2.cell (p := ⟨M.bx, 0, none⟩) lxW).trans x0
    have hL2 := hLW.below hB2
    have hv2 := (hv.out.below hbW').below hB2
    have hnec := row_ne hL2.row hL2.cel (by decide)
    have hbsz := hB2.size
    clear x0 x1 s3 s6 s7 s6f
    replace hL2 := hd hL2
    replace hv2 := hd hv2
    replace hrs := hd hrs
    go_wp2_with (fail)
    refine layInputs_any _ M.bx bc M.nC M.nC M.rl M.kd C v l hnec hnC z0 hL2.out.cel hv2.out hfit.out _ ?_
    intro w3 ho3 ht3
    subst hKe
    have hrs3 := hrs.out.laid hK (C' := layL M.rl M.kd M.nC 0 l C) ho3 ht3 (layL_in _ _ _ _ hL2.out.hC)
    have hkk := hkw.out W2 br bc X.heap.size nmT fv d
    have hst := hkk.w.start
    have hgi : GI (mkK M W2 br bc X.heap.size nmT fv d) M.bd H L ⟨layL M.rl M.kd M.nC 0 l C, [], 0, false⟩ [] 0 := ⟨fun _ => ⟨0, [], rfl, hst.1, rfl, by rw [hkk.w.k.h0]; rfl, by rw [hst.2]; omega⟩, (fun h => (by cases h)), by omega⟩
    clear ho3 ht3
    replace hrs3 := hd hrs3
    replace hgi := hd hgi
    replace hkk := hd hkk
    go_wp2_with (fail)
    refine toEnd_any hK hF hkk.out hbd hrs3.out hgi.out _ ?_
    intro w4 q' S' dn e hrs4 hrun hd1' hd2
    obtain ⟨sv4, rv4, hm4, _, _⟩ := hrs4.ex
    have fr4 := hm4.fr
    have y116 := hm4.c116
    have hbr4 : br < w4.heap.size := hm4.run.lt
    have hlc' : bc < g3 := hlc
    have y3 := (World.cell?_of_block (a := ⟨g3, 0, none⟩) (fr4.block g3 (show g3 < X.heap.size by omega) (show g3 ≠ br by omega) (show g3 ≠ bc by omega))).trans t3
    have y6 := (World.cell?_of_block (a := ⟨g3 + 1, 0, none⟩) (fr4.block (g3 + 1) (show g3 + 1 < X.heap.size by omega) (show g3 + 1 ≠ br by omega) (show g3 + 1 ≠ bc by omega))).trans t6
    have y7 := (World.cell?_of_block (a := ⟨g7, 0, none⟩) (fr4.block g7 (show g7 < X.heap.size by omega) (show g7 ≠ br by omega) (show g7 ≠ bc by omega))).trans t7
    have yx := fr4.block M.bx (show M.bx < X.heap.size by omega) (show M.bx ≠ br by omega) hnec
    have hrow4 := hL2.out.row.of_block yx
    have m0 := hrow4.cell (i := 0) (by omega)
    have m3 := hrow4.cell (i := 3) (by omega)
    have m4 := hrow4.cell (i := 4) (by omega)
    have mf := hrow4.frozen
    have f6 := (World.frozen?_of_block (a := ⟨g3 + 1, 0, none⟩) (fr4.block (g3 + 1) (show g3 + 1 < X.heap.size by omega) (show g3 + 1 ≠ br by omega) (show g3 + 1 ≠ bc by omega))).trans t6f
    replace hrs4 := hd hrs4
    replace hrow4 := hd hrow4
    replace fr4 := hd fr4
    replace hrun := hd hrun
    clear hm4
    go_wp2
    have o : ∀ {a : Addr} {u : Value}, w4.cell? a = some u → a.block ≠ g3 + 1 → (w4.setCell ⟨g3 + 1, 0, none⟩ (.int .i64 e)).cell? a = some u := fun {a u} ha hne => by rw [World.cell?_setCell_other _ _ _ _ (by intro ee; apply hne; rw [← ee])]; exact ha
    have q6 := World.cell?_setCell_same w4 ⟨g3 + 1, 0, none⟩ (.int .i64 e) y6
    have q116 := o y116 (show br ≠ g3 + 1 by omega)
    have q3 := o y3 (show g3 ≠ g3 + 1 by omega)
    have q7 := o y7 (show g7 ≠ g3 + 1 by omega)
    have n0 := o m0 (show M.bx ≠ g3 + 1 by omega)
    have n3 := o m3 (show M.bx ≠ g3 + 1 by omega)
    have n4 := o m4 (show M.bx ≠ g3 + 1 by omega)
    have hrow5 := hrow4.out.setOther (a := ⟨g3 + 1, 0, none⟩) (show M.bx ≠ g3 + 1 by omega) (.int .i64 e)
    have hrunM := hd (show runM M w d (layL M.rl M.kd M.nC 0 l C) = (q', dn, e) by unfold runM; rw [runK_M M w W2 0 br 0 bc 0 X.heap.size nmT nmT _ fv d]; exact hrun.out)
    obtain ⟨sv5, rv5, hm5, _, _⟩ := hrs4.out.ex
    have hcel5 := hd (hm5.cel.setOther (a := ⟨g3 + 1, 0, none⟩) (show bc ≠ g3 + 1 by omega) (.int .i64 e))
    have hst4 := hm5.steps hK
    have hnes := row_ne hL2.out.row hL2.out.steps (by decide)
    have hlts : M.bs < g3 := by rw [← hg3]; exact h.out.steps.lt
    have hsteps5 := hd (hst4.setOther (a := ⟨g3 + 1, 0, none⟩) (show M.bs ≠ g3 + 1 by omega) (.int .i64 e))
    have hT5 := hd (show Twain M.bx bc g3 w (w4.setCell ⟨g3 + 1, 0, none⟩ (.int .i64 e)) from ⟨(fr4.out.os.trans hB2.os).trans hbW.os, (fr4.out.tape.trans hB2.tape).trans hbW.tape, (fr4.out.output.trans hB2.output).trans hbW.output, by rw [World.size_setCell]; have := fr4.out.size; exact Nat.le_trans (show g3 ≤ X.heap.size by omega) this, fun k hk h1 h2 => by
      rw [Below.heap_setCell _ _ _ _ (show k ≠ g3 + 1 by omega)]
      exact ((fr4.out.block k (show k < X.heap.size by omega) (show k ≠ br by omega) h2).trans (hB2.block k (by omega))).trans (hbW.block k hk)⟩)
    clear hm5 hst4
    refine leaves_cons (f := 123) (args := #[.pointer (some ⟨br, 0, none⟩), .pointer (some ⟨g3, 0, none⟩), .pointer (some ⟨g3 + 1, 0, none⟩), .pointer (some ⟨g7, 0, none⟩)]) (by simp) (by simp [go_sem]) ?_
    by_cases he : e = 0
    · subst he
      refine (left_ok _ br M.bx g3 (g3 + 1) g7 dn dn0 _ q116 q3 q6 n3 (hrow5.frozen 3)).mono ?_
      rintro ed u' w6 ⟨rfl, rfl, rfl⟩
      have r6 : ((w4.setCell ⟨g3 + 1, 0, none⟩ (.int .i64 0)).setCell ⟨M.bx, 3, none⟩ (.int .i64 dn)).cell? ⟨g3 + 1, 0, none⟩ = some (.int .i64 0) := by rw [World.cell?_setCell_other _ _ _ _ (by intro ee; injection ee; omega)]; exact q6
      simp [Leaves, settle, results, Tryz.results64, go_sem, r6]
      refine ok.out _ q' dn hrunM.out ⟨(hrow5.set 3 _).congr (fun i hi => ?_), (hcel5.out.setOther (a := ⟨M.bx, 3, none⟩) (Ne.symm hnec) _), (hsteps5.out.setOther (a := ⟨M.bx, 3, none⟩) (Ne.symm hnes) _), hrs4.out.hC, hL2.out.n, hL2.out.nC⟩ (hT5.out.setB _ _) hd1' hd2
      have hc : i = 0 ∨ i = 1 ∨ i = 2 ∨ i = 3 ∨ i = 4 := by omega
      rcases hc with rfl | rfl | rfl | rfl | rfl <;> rfl
    · refine (left_err _ br M.bx g3 (g3 + 1) g7 dn dn0 e 0 (.slice ao M.nC acap) (.slice (some ⟨bc, 0, none⟩) M.nC M.nC) _ q116 q3 q6 he n3 n0 n4 q7 ⟨_, _, _, rfl⟩ hrow5.frozen).mono ?_
      rintro ed u' w6 ⟨rfl, rfl, rfl⟩
      have r6 : ((((w4.setCell ⟨g3 + 1, 0, none⟩ (.int .i64 e)).setCell ⟨M.bx, 3, none⟩ (.int .i64 dn)).setCell ⟨M.bx, 0, none⟩ (.slice ao M.nC acap)).setCell ⟨M.bx, 4, none⟩ (.int .i64 e)).cell? ⟨g3 + 1, 0, none⟩ = some (.int .i64 e) := by
        rw [World.cell?_setCell_other _ _ _ _ (by intro ee; injection ee; omega), World.cell?_setCell_other _ _ _ _ (by intro ee; injection ee; omega), World.cell?_setCell_other _ _ _ _ (by intro ee; injection ee; omega)]; exact q6
      simp [Leaves, settle, results, Tryz.results64, go_sem, r6]
      refine err.out _ q' dn e (.slice ao M.nC acap) hrunM.out he ⟨(((hrow5.set 3 _).set 0 _).set 4 _).congr (fun i hi => ?_), ?_, h.out.hC, he⟩ (fun b k c eq => by injection eq with e1 _ _; subst e1; have := (hownW.lt b rfl).1; omega) (((hT5.out.setB _ _).setB _ _).setB _ _) hd1' hd2
      · have hc : i = 0 ∨ i = 1 ∨ i = 2 ∨ i = 3 ∨ i = 4 := by omega
        rcases hc with rfl | rfl | rfl | rfl | rfl <;> rfl
      · by_cases h0 : M.nC = 0
        · exact .inr ⟨h0, ao, acap, by rw [h0]⟩
        · obtain ⟨bq, cq, eq, hbq, htq⟩ := own_tab hownW (by omega) hnews.out
          injection eq with e1 e2 e3
          subst e1; subst e3
          have hbql := htq.lt
          refine .inl ⟨bq, _, rfl, htq.of_block ?_⟩
          rw [Below.heap_setCell _ _ _ _ (show bq ≠ M.bx by omega), Below.heap_setCell _ _ _ _ (show bq ≠ M.bx by omega), Below.heap_setCell _ _ _ _ (show bq ≠ M.bx by omega), Below.heap_setCell _ _ _ _ (show bq ≠ g3 + 1 by omega)]
          exact (fr4.out.block bq (show bq < X.heap.size by omega) (show bq ≠ br by omega) (show bq ≠ bc by omega)).trans (hB2.block bq hbql)

end Go.Proofs.YtidhiaaicmfabaaGreatDoor

/- Scan, Outputs and Steps. -/
namespace Go.Proofs.YtidhiaaicmfabaaGreatDoor
open Go.RowKit Go.Proofs Go.Deep

theorem steps_any (w : World) (bx : Nat) (dn : Int) (h : w.cell? ⟨bx, 3, none⟩ = some (.int .i64 dn)) (R : Ending → World → Prop) (fin : R (.returned (.int .i64 dn)) w) :
    Calls Tryz.prog 28 #[.pointer (some ⟨bx, 0, none⟩)] w R := by
  replace fin := hd fin
  go_enter Tryz.func28, Tryz.ntmps28
  go_wp2
  exact cl1 fin.out rfl
theorem Twain.first {b c base base' : Nat} {w w1 w' : World} (h : Twain b c base' w1 w') (hb : Below base w w1) (hle : base ≤ base') : Twain b c base w w' :=
  ⟨h.os.trans hb.os, h.tape.trans hb.tape, h.output.trans hb.output, Nat.le_trans hle h.size, fun k hk h1 h2 => (h.block k (by omega) h1 h2).trans (hb.block k hk)⟩
theorem runM_w (M : Md) (w w1 : World) (d : Int) (C : Nat → Int) : runM M w d C = runM M w1 d C := by unfold runM; rw [runK_M M w w1 0 0 0 0 0 0 nmT nmT _ _ d]
set_option maxRecDepth 100000 in
set_option maxHeartbeats 1000000 in
theorem scan_full (w : World) (M : Md) (bc : Nat) (C : Nat → Int) (dn0 : Int) (h : Live M bc C dn0 w) (v : Value) (l : List Int) (d : Int) (hv : InpAt bc w v l) {To : Nat → Nat} {H L : Nat → Int} (hkw : ∀ w0 br bc base nm fv d, KW (mkK M w0 br bc base nm fv d) To M.bd H L) (hbd : M.bd ≤ 200000) (R : Ending → World → Prop)
    (bad : (fitsL M.rl M.kd M.nC 0 l = false ∨ d < 0 ∨ 1000000 < d) → ∀ w', Below w.heap.size w w' → R (.returned (.int .i64 3)) w')
    (ok : fitsL M.rl M.kd M.nC 0 l = true → 0 ≤ d ∧ d ≤ 1000000 → ∀ w' q' dn, runM M w d (layL M.rl M.kd M.nC 0 l C) = (q', dn, 0) → Live M bc q'.C dn w' → Twain M.bx bc w.heap.size w w' → 1 ≤ dn → dn ≤ M.bd → R (.returned (.int .i64 0)) w')
    (err : fitsL M.rl M.kd M.nC 0 l = true → 0 ≤ d ∧ d ≤ 1000000 → ∀ w' q' dn e cv, runM M w d (layL M.rl M.kd M.nC 0 l C) = (q', dn, e) → e ≠ 0 → Dead M cv C dn e w' → (∀ b k c, cv = .slice (some ⟨b, 0, none⟩) k c → w.heap.size ≤ b) → Twain M.bx bc w.heap.size w w' → 1 ≤ dn → dn ≤ M.bd → R (.returned (.int .i64 e)) w') :
    Calls Tryz.prog 26 #[.pointer (some ⟨M.bx, 0, none⟩), v, .int .i64 d] w R := by
  have c0 := h.row.cell (i := 0) (by omega)
  have c4 := h.row.cell (i := 4) (by omega)
  rw [show machF M (.slice (some ⟨bc, 0, none⟩) M.nC M.nC) dn0 0 0 = .slice (some ⟨bc, 0, none⟩) M.nC M.nC from rfl] at c0
  rw [show machF M (.slice (some ⟨bc, 0, none⟩) M.nC M.nC) dn0 0 4 = .int .i64 0 from rfl] at c4
  replace bad := hd bad
  replace ok := hd ok
  replace err := hd err
  replace hkw := hd hkw
  replace h := hd h
  replace hv := hd hv
  go_enter Tryz.func26, Tryz.ntmps26
  go_wp2_with (fail)
  refine takes_any _ M.bx bc M.nC M.nC M.rl M.kd C v l h.out.nC c0 h.out.cel hv.out _ ?_
  intro w1 hb1
  have hL1 := hd (h.out.below hb1)
  have hv1 := hd (hv.out.below hb1)
  replace hb1 := hd hb1
  by_cases hf : fitsL M.rl M.kd M.nC 0 l = true
  · rw [hf]
    by_cases d1 : d < 0
    · have t1 : decide (d < 0) = true := by simpa using d1
      replace hf := hd hf
      go_wp2
      exact cl1 (bad.out (.inr (.inl d1)) _ hb1.out) rfl
    · have t1 : decide (d < 0) = false := by simpa using d1
      by_cases d2 : 1000000 < d
      · have t2 : decide (1000000 < d) = true := by simpa using d2
        replace hf := hd hf
        go_wp2
        exact cl1 (bad.out (.inr (.inr d2)) _ hb1.out) rfl
      · have t2 : decide (1000000 < d) = false := by simpa using d2
        replace hf := hd hf
        go_wp2_with (fail)
        refine runOnce_full _ M bc C dn0 hL1.out v l d hv1.out hf.out ⟨by omega, by omega⟩ hkw.out hbd _ ?_ ?_
        · intro w' q' dn hr hl ht h1 h2
          have hfin := hd (ok.out hf.out ⟨by omega, by omega⟩ w' q' dn (by rw [runM_w M w w1]; exact hr) hl (ht.first hb1.out hb1.out.size) h1 h2)
          clear hl ht hr
          go_wp2
          exact cl1 hfin.out rfl
        · intro w' q' dn e cv hr he hl hcv ht h1 h2
          have hfin := hd (err.out hf.out ⟨by omega, by omega⟩ w' q' dn e cv (by rw [runM_w M w w1]; exact hr) he hl (fun b k c eq => Nat.le_trans hb1.out.size (hcv b k c eq)) (ht.first hb1.out hb1.out.size) h1 h2)
          clear hl ht hr
          go_wp2
          exact cl1 hfin.out rfl
  · have hf' : fitsL M.rl M.kd M.nC 0 l = false := by simpa using hf
    rw [hf']
    go_wp2
    exact cl1 (bad.out (.inl hf') _ hb1.out) rfl
theorem scan_any (w : World) (M : Md) (bc : Nat) (C : Nat → Int) (dn0 : Int) (h : Live M bc C dn0 w) (v : Value) (l : List Int) (d : Int) (hv : InpAt bc w v l) {To : Nat → Nat} {H L : Nat → Int} (hkw : ∀ w0 br bc base nm fv d, KW (mkK M w0 br bc base nm fv d) To M.bd H L) (hbd : M.bd ≤ 200000) (R : Ending → World → Prop)
    (bad : (fitsL M.rl M.kd M.nC 0 l = false ∨ d < 0 ∨ 1000000 < d) → ∀ w', Below w.heap.size w w' → R (.returned (.int .i64 3)) w')
    (ok : fitsL M.rl M.kd M.nC 0 l = true → 0 ≤ d ∧ d ≤ 1000000 → ∀ w' q' dn, runM M w d (layL M.rl M.kd M.nC 0 l C) = (q', dn, 0) → Live M bc q'.C dn w' → Twain M.bx bc w.heap.size w w' → 1 ≤ dn → dn ≤ M.bd → R (.returned (.int .i64 0)) w')
    (err : fitsL M.rl M.kd M.nC 0 l = true → 0 ≤ d ∧ d ≤ 1000000 → ∀ w' q' dn e cv, runM M w d (layL M.rl M.kd M.nC 0 l C) = (q', dn, e) → e ≠ 0 → Dead M cv C dn e w' → Twain M.bx bc w.heap.size w w' → 1 ≤ dn → dn ≤ M.bd → R (.returned (.int .i64 e)) w') :
    Calls Tryz.prog 26 #[.pointer (some ⟨M.bx, 0, none⟩), v, .int .i64 d] w R :=
  scan_full w M bc C dn0 h v l d hv hkw hbd R bad ok (fun hf hd w' q' dn e cv hr he hl _ ht h1 h2 => err hf hd w' q' dn e cv hr he hl ht h1 h2)
theorem scan_dead (w : World) (M : Md) (cv : Value) (C : Nat → Int) (dn e : Int) (h : Dead M cv C dn e w) (v : Value) (d : Int) (R : Ending → World → Prop) (fin : R (.returned (.int .i64 e)) w) :
    Calls Tryz.prog 26 #[.pointer (some ⟨M.bx, 0, none⟩), v, .int .i64 d] w R := by
  have c4 := h.row.cell (i := 4) (by omega)
  rw [show machF M cv dn e 4 = .int .i64 e from rfl] at c4
  have te : (e != 0) = true := by simpa using h.ne
  replace fin := hd fin
  clear h
  go_enter Tryz.func26, Tryz.ntmps26
  go_wp2
  exact cl1 fin.out rfl
/-- What the cells of a role have, in their order. -/
def outsL (rl : Nat → Nat) (C : Nat → Int) : Nat → List Int
  | 0 => []
  | k + 1 => if rl k = 1 then C k :: outsL rl C k else outsL rl C k
theorem outsL_len (rl : Nat → Nat) (C : Nat → Int) : ∀ k, (outsL rl C k).length ≤ k
  | 0 => by simp [outsL]
  | k + 1 => by have := outsL_len rl C k; unfold outsL; split <;> simp <;> omega
set_option maxRecDepth 100000 in
set_option maxHeartbeats 1000000 in
theorem outputs_any (w : World) (bx bc nC cap : Nat) (rl kd : Nat → Nat) (C : Nat → Int) (hn : nC ≤ 100) (hC : ∀ j, in32 (C j)) (hx : w.cell? ⟨bx, 0, none⟩ = some (.slice (some ⟨bc, 0, none⟩) nC cap)) (ht : Tab w bc 129 3 nC cap (cellV rl kd C)) (R : Ending → World → Prop)
    (fin : ∀ v w', Below w.heap.size w w' → w'.ownsRow w.heap.size 3 1 v (outsL rl C nC).length (i64L (outsL rl C nC)) → R (.returned v) w') :
    Calls Tryz.prog 27 #[.pointer (some ⟨bx, 0, none⟩)] w R := by
  replace fin := hd fin
  replace ht := hd ht
  replace hC := hd hC
  have hbc := ht.out.lt
  go_enter Tryz.func27, Tryz.ntmps27
  go_wp2
  go_loopw [3, 11] (fun v i wr => ∃ (k : Nat), k ≤ nC ∧ i = .int .i64 k ∧ wr.ownsRow w.heap.size 3 1 v (outsL rl C k).length (i64L (outsL rl C k)) ∧ Below w.heap.size w wr) (fun _ i _ => nC - (intOf i).toNat)
  case atStart => exact ⟨0, by omega, rfl, World.ownsRow_nil _ _ _ _, Below.refl _ _⟩
  case round =>
    rename_i u3 u11
    obtain ⟨k, hk, rfl, hown, hbel⟩ := hrel
    obtain ⟨ao, cp, rfl⟩ := own_sl hown
    have hlen := outsL_len rl C k
    by_cases hlt : k < nC
    · have htr := ht.out.of_block (w' := wr) (hbel.block bc hbc)
      have k0 := htr.cell0 hlt (by omega)
      have k1 := htr.cell hlt (f := 1) (by omega)
      have k2 := htr.cell hlt (f := 2) (by omega)
      rw [cellV_0] at k0
      rw [cellV_1] at k1
      rw [cellV_2] at k2
      have hbr := htr.lt
      have hCk := hC.out k
      unfold in32 at hCk
      have hwr := hbel.size
      clear htr
      replace hbel := hd hbel
      by_cases h1 : rl k = 1
      · have t1 : ((rl k : Int) == 1) = true := by simp [h1]
        have ho : outsL rl C (k + 1) = C k :: outsL rl C k := by simp [outsL, h1]
        replace ho := hd ho
        replace h1 := hd h1
        replace hown := hd hown
        go_wp2_with (first | (at_builtin; refine wpList_app _ rfl _ _ 38 rfl w.heap.size 3 _ 1 8 ulInt infoI64 rfl (by decide) _ _ _ rfl (by exact (hown.out.alloc _).alloc _) _ 1 1 [.int .i64 (C k)] rfl (by exact alloc_at (by simp)) rfl (oneI64 _) (by unfold maxLen; omega) (by omega) (by simp; omega) ?_; intro v1 w1 hown1 hgr1; obtain ⟨ao1, cp1, rfl⟩ := own_sl hown1; replace hown1 := hd hown1; replace hgr1 := hd hgr1))
        refine ⟨⟨k + 1, by omega, by go_num, by rw [ho.out, i64L_cons]; exact hown1.out, ?_⟩, by simp [intOf]; omega⟩
        exact ((hbel.out.alloc hwr _).alloc (by simp; omega) _).grown hgr1.out (by simp; omega) (fun k hk => (hown.out.lt k hk).1)
      · have t1 : ((rl k : Int) == 1) = false := by simp; omega
        have ho : outsL rl C (k + 1) = outsL rl C k := by simp [outsL, h1]
        replace ho := hd ho
        replace hown := hd hown
        go_wp2
        exact ⟨⟨k + 1, by omega, by go_num, by rw [ho.out]; exact hown.out.alloc _, hbel.out.alloc hwr _⟩, by simp [intOf]; omega⟩
    · have hkn : k = nC := by omega
      subst hkn
      replace hown := hd hown
      replace hbel := hd hbel
      go_wp2
      exact cl1 (fin.out _ _ hbel.out hown.out) rfl

end Go.Proofs.YtidhiaaicmfabaaGreatDoor

/- Load gives a machine with all that its image says. -/
namespace Go.Proofs.YtidhiaaicmfabaaGreatDoor
open Go.RowKit Go.Proofs Go.Deep

def mdFull (OP AT : Nat → Nat) (AR CN : Nat → Int) (RL KD : Nat → Nat) (nC n cap bs bx : Nat) (To' : Nat → Int) (bd : Int) : Md := ⟨n, cap, nC, bs, bx, OP, AT, AR, CN, inOf OP, To', RL, KD, bd⟩
set_option maxRecDepth 100000 in
set_option maxHeartbeats 2000000 in
theorem load_full (w : World) (s : ByteArray) (hs : s.size ≤ maxLen) (R : Ending → World → Prop)
    (bad : (∀ bd, ¬ imgOk s bd) → ∀ w', Below w.heap.size w w' → R (.returned (.tuple #[.pointer none, .int .i64 1])) w')
    (long : ∀ bd, imgOk s bd → 200000 < bd → ∀ w', Below w.heap.size w w' → R (.returned (.tuple #[.pointer none, .int .i64 2])) w')
    (good : ∀ bd l, imgOk s bd → bd ≤ 200000 → posF (codeOf s) ((codeOf s).size + 1) 0 = some l → ∀ cap bs bx bc To' H L w', Below w.heap.size w w' → w.heap.size ≤ bx → w.heap.size ≤ bs → w.heap.size ≤ bc →
      Live (mdFull (opL (codeOf s) l) (atL l) (argL (codeOf s) l) (cntL (codeOf s) l) (fun i => bt s (7 + i) / 3) (fun i => bt s (7 + i) % 3) (bt s 6) l.length cap bs bx To' bd) bc (fun _ => 0) 0 w' →
      (∀ w0 br bc base nm fv d, KW (mkK (mdFull (opL (codeOf s) l) (atL l) (argL (codeOf s) l) (cntL (codeOf s) l) (fun i => bt s (7 + i) / 3) (fun i => bt s (7 + i) % 3) (bt s 6) l.length cap bs bx To' bd) w0 br bc base nm fv d) (toL (atL l) (opL (codeOf s) l) (nL (codeOf s) l) l.length) bd H L) →
      R (.returned (.tuple #[.pointer (some ⟨bx, 0, none⟩), .int .i64 0])) w') :
    Calls Tryz.prog 20 #[.string s] w R := by
  replace bad := hd bad
  replace long := hd long
  replace good := hd good
  go_enter Tryz.func20, Tryz.ntmps20
  go_wp2_with (fail)
  refine readImage_any _ _ hs _ ?_ ?_
  · intro hno a n c a' n' c' w1 hb1
    have hb1s := hb1.size
    replace hno := hd hno
    replace hb1 := hd hb1
    go_wp2
    exact cl1 (bad.out hno.out _ (hb1.out.alloc hb1s _)) rfl
  · intro hh hsr hsz l hl bc v w1 hb1 hbc htab hown hlt
    have hii := hd (fun bd => (img_iff (bd := bd) hh hsr hsz hl).trans (code_iff s (codeOf s) (bt s 6) l bd))
    obtain ⟨p1, p2, p3⟩ := posF_facts _ _ _ _ hl
    have h100 := hh.2.2.1
    have hlen : l.length ≤ 8000 := by
      have := hsz.1
      have := hsz.2
      have e : (codeOf s).size = s.size - (9 + bt s 6) := by unfold codeOf; rw [ByteArray.size_extract]; omega
      omega
    obtain ⟨sa, cap, rfl⟩ := own_sl hown
    have hb1s := hb1.size
    have hsteps : 0 < l.length → ∃ bs, w.heap.size ≤ bs ∧ sa = some ⟨bs, 0, none⟩ ∧ Tab w1 bs 254 6 l.length cap (stepA (opL (codeOf s) l) (atL l) (argL (codeOf s) l) (cntL (codeOf s) l) (fun _ => 0) (fun _ => 0)) := fun h0 => by
      obtain ⟨b, cap', e, hb, ht⟩ := own_tab hown h0 (fun i hi f hf => flat_st (codeOf s) l i f hi hf)
      injection e with e1 e2 e3
      subst e3
      exact ⟨b, hb, e1, ht⟩
    obtain ⟨bs, hbs, hsa⟩ : ∃ bs, w.heap.size ≤ bs ∧ (0 < l.length → sa = some ⟨bs, 0, none⟩ ∧ Tab w1 bs 254 6 l.length cap (stepA (opL (codeOf s) l) (atL l) (argL (codeOf s) l) (cntL (codeOf s) l) (fun _ => 0) (fun _ => 0))) := by
      rcases Nat.eq_zero_or_pos l.length with h0 | h0
      · exact ⟨w.heap.size, Nat.le_refl _, fun h => by omega⟩
      · obtain ⟨bs, a, b, c⟩ := hsteps h0
        exact ⟨bs, a, fun _ => ⟨b, c⟩⟩
    clear hsteps
    have hbsl : 0 < l.length → bs < w1.heap.size := fun h => (hsa h).2.lt
    have hgood := hd (fun bd (hi : imgOk s bd) (hle : bd ≤ 200000) => good.out bd l hi hle hl)
    have hcC := hd (show ∀ i, (opL (codeOf s) l i = 2 ∨ opL (codeOf s) l i = 3 ∨ opL (codeOf s) l i = 21 ∨ opL (codeOf s) l i = 4 ∨ opL (codeOf s) l i = 5) → 0 ≤ argL (codeOf s) l i from fun i h => (vArg_bd _ _ h).2.1)
    have hcN := hd (show ∀ i, (opL (codeOf s) l i = 4 ∨ opL (codeOf s) l i = 5) → 0 ≤ cntL (codeOf s) l i from fun i h => (vCnt_bd _ _ h).2.1)
    clear good
    replace hbsl := hd hbsl
    replace hsa := hd hsa
    replace htab := hd htab
    replace hown := hd hown
    replace hb1 := hd hb1
    replace p2 := hd p2
    replace p3 := hd p3
    replace hl := hd hl
    replace hh := hd hh
    replace hsr := hd hsr
    replace hsz := hd hsz
    generalize hnC : bt s 6 = nC at *
    replace hnC := hd hnC
    go_wp2_with (fail)
    refine settle_any _ bc nC nC bs l.length cap _ _ sa (opL (codeOf s) l) (atL l) (argL (codeOf s) l) (cntL (codeOf s) l) _ _ h100 hlen p3.out (fun i hi h => (vArg_bd _ _ h).2) (fun i hi h => (vCnt_bd _ _ h).2) (htab.out.alloc _) (fun h => ⟨(hsa.out h).1, (hsa.out h).2.alloc _⟩) _ ?_ ?_
    · intro hno w2 ho2
      have hbad := hd (show ∀ bd, ¬ imgOk s bd from fun bd h => hno ((hii.out bd).1 h).1)
      have hbel2 := hd ((hb1.out.alloc hb1s _).trans (ho2.below hbs (by simp; omega)))
      clear hno ho2
      go_wp2
      exact cl1 (bad.out hbad.out _ hbel2.out) rfl
    · intro hok To' hTo w2 ho2 ht2
      have hn0 := hok.2.1.1
      have hsa0 := (hsa.out hn0).1
      subst hsa0
      have hbsl0 := hbsl.out hn0
      have hbel2 := (hb1.out.alloc hb1s (.cells #[.slice (some ⟨bc, 0, none⟩) nC nC, .slice (some ⟨bs, 0, none⟩) l.length cap] 115)).trans (ho2.below hbs (by simp; omega))
      have c0 : w2.cell? ⟨w1.heap.size, 0, none⟩ = some (.slice (some ⟨bc, 0, none⟩) nC nC) := (ho2.cell (p := ⟨w1.heap.size, 0, none⟩) (by simp) (by simp; omega)).trans ((cell_of_row _ _ 0 _ _ (0, 0) (heap_alloc_new w1 _)).trans rfl)
      have c1 : w2.cell? ⟨w1.heap.size, 1, none⟩ = some (.slice (some ⟨bs, 0, none⟩) l.length cap) := (ho2.cell (p := ⟨w1.heap.size, 1, none⟩) (by simp) (by simp; omega)).trans ((cell_of_row _ _ 1 _ _ (0, 0) (heap_alloc_new w1 _)).trans rfl)
      have hlt2 : w1.heap.size < w2.heap.size := by have := ho2.size; simp at this; omega
      have hbs2 := hbel2.size
      have hgo := hd (fun bd => (hii.out bd).trans (show (SetOk _ _ nC l.length (opL (codeOf s) l) (atL l) (argL (codeOf s) l) (cntL (codeOf s) l) ∧ _) ↔ _ from ⟨fun h => h.2, fun h => ⟨hok, h⟩⟩))
      replace hbel2 := hd hbel2
      replace ho2 := hd ho2
      replace hTo := hd hTo
      replace ht2 := hd ht2
      replace hok := hd hok
      have q1 : ∀ i, i < l.length → opL (codeOf s) l i < 22 := fun i hi => osz_lt (p2.out i hi).2.2
      have q2 : ∀ i, i < l.length → opL (codeOf s) l i = 19 → 1 ≤ argL (codeOf s) l i ∧ argL (codeOf s) l i ≤ 65535 := fun i hi h => by
        have a1 := (hok.out.1 i hi).2.2.2.2 h
        have a2 := (vArg_jmp (codeOf s) (atL l i) (.inr (.inr h))).2.2
        exact ⟨a1, a2⟩
      have q3 : ∀ i, i < l.length → (opL (codeOf s) l i = 17 ∨ opL (codeOf s) l i = 18) → To' i = (toL (atL l) (opL (codeOf s) l) (nL (codeOf s) l) l.length i : Int) ∧ i < toL (atL l) (opL (codeOf s) l) (nL (codeOf s) l) l.length i ∧ toL (atL l) (opL (codeOf s) l) (nL (codeOf s) l) l.length i < l.length := fun i hi h => by
        obtain ⟨t, e, hJ⟩ := hTo.out i hi h
        have hne : opL (codeOf s) l i ≠ 20 := by rcases h with h | h <;> omega
        have ea : argL (codeOf s) l i = nL (codeOf s) l i := (vArg_jmp (codeOf s) (atL l i) (by rcases h with h | h; exact .inl h; exact .inr (.inl h))).1
        have hJ' : JumpOk (atL l) (opL (codeOf s) l) (nL (codeOf s) l) l.length i t := (jump_arg ea).1 hJ
        have et : toL (atL l) (opL (codeOf s) l) (nL (codeOf s) l) l.length i = t := by unfold toL; rw [if_neg hne]; exact tgt_eq hJ'
        rw [et]
        exact ⟨e, hJ.2.1, hJ.2.2.1⟩
      have q4 : ∀ i, i < l.length → opL (codeOf s) l i = 20 → inOf (opL (codeOf s) l) i = (toL (atL l) (opL (codeOf s) l) (nL (codeOf s) l) l.length i : Int) ∧ toL (atL l) (opL (codeOf s) l) (nL (codeOf s) l) l.length i < i ∧ opL (codeOf s) l (toL (atL l) (opL (codeOf s) l) (nL (codeOf s) l) l.length i) = 19 := fun i hi h => by
        obtain ⟨f, e1, e2, e3⟩ := for_of hok.out.2.2.1 hi h
        have et : toL (atL l) (opL (codeOf s) l) (nL (codeOf s) l) l.length i = f := by unfold toL; rw [if_pos h, e1]; omega
        rw [et]
        exact ⟨e1, e2, e3⟩
      have q5 := hok.out.2.1.2.1
      have q6 := hok.out.2.1.2.2
      generalize toL (atL l) (opL (codeOf s) l) (nL (codeOf s) l) l.length = TT at *
      generalize opL (codeOf s) l = OP at *
      generalize argL (codeOf s) l = AR at *
      generalize cntL (codeOf s) l = CN at *
      generalize atL l = AT at *
      replace q1 := hd q1
      replace q2 := hd q2
      replace q3 := hd q3
      replace q4 := hd q4
      replace q5 := hd q5
      replace q6 := hd q6
      go_wp2_with (fail)
      refine findBound_any _ bs l.length cap OP AT TT AR CN _ _ hlen hn0 ht2.out q1.out q5.out q6.out q3.out q4.out q2.out _ ?_ ?_
      · intro hX x w3 hb3
        have hbad := hd (show ∀ bd, ¬ imgOk s bd from fun bd h => by have := (hgo.out bd).1 h; rw [hX] at this; cases this)
        have hbel3 := hd (bel_step hbel2.out (Nat.le_refl _) hb3)
        clear hX hb3
        go_wp2
        exact cl1 (bad.out hbad.out _ hbel3.out) rfl
      · intro bd hX w3 hb3
        have himg := hd ((hgo.out bd).2 hX)
        have c30 := (hb3.cell (p := ⟨w1.heap.size, 0, none⟩) hlt2).trans c0
        have c31 := (hb3.cell (p := ⟨w1.heap.size, 1, none⟩) hlt2).trans c1
        have hbel3 := bel_step hbel2.out (Nat.le_refl _) hb3
        have hs3 := hbel3.size
        have hlt3 := Nat.lt_of_lt_of_le hlt2 hb3.size
        replace hbel3 := hd hbel3
        replace hb3 := hd hb3
        replace hX := hd hX
        by_cases hlong : 200000 < bd
        · have em : min bd 200001 = 200001 := by omega
          rw [em]
          go_wp2
          exact cl1 (long.out bd himg.out hlong _ hbel3.out) rfl
        · have em : min bd 200001 = bd := by omega
          rw [em]
          have dl : decide ((200000 : Int) < bd) = false := by simpa using hlong
          go_wp2
          obtain ⟨H, L, hkn⟩ := known_of (fun i hi h => (q3.out i hi h).2.1) (fun i hi h => (q4.out i hi h).2.1) hX.out
          have hnebc := tab_ne htab.out (hsa.out hn0).2 (by decide)
          have ht3 := (((htab.out.alloc (.cells #[.slice (some ⟨bc, 0, none⟩) nC nC, .slice (some ⟨bs, 0, none⟩) l.length cap] 115)).of_block (w' := w2) (ho2.out.block bc (by rw [World.size_alloc]; have := htab.out.lt; omega) hnebc)).of_block (w' := w3) (hb3.out.block bc (Nat.lt_of_lt_of_le (by rw [World.size_alloc]; have := htab.out.lt; omega) ho2.out.size)))
          have hs3' := ht2.out.of_block (w' := w3) (hb3.out.block bs ht2.out.lt)
          have hT : ∀ i, i < l.length → (OP i = 17 ∨ OP i = 18) → inOf OP (TT i) = inOf OP i := fun i hi h => by
            obtain ⟨t, e1, hJ⟩ := hTo.out i hi h
            have e2 := (q3.out i hi h).1
            have e3 : TT i = t := by omega
            rw [e3]; exact hJ.2.2.2.1
          refine cl1 (hgood.out bd himg.out (by omega) cap bs w3.heap.size bc To' H L _ (hbel3.out.alloc hs3 _) hs3 hbs hbc ?_ ?_) rfl
          · refine ⟨World.rowIs_alloc w3 #[.slice (some ⟨bc, 0, none⟩) nC nC, .slice (some ⟨bs, 0, none⟩) l.length cap, .int .i64 bd, .int .i64 0, .int .i64 0] 121 _ (fun i hi => ?_), (ht3.alloc _).congr (fun i _ f _ => rfl), hs3'.alloc _, fun _ => by unfold in32; omega, hlen, h100⟩
            have hi5 : i < 5 := hi
            have hc : i = 0 ∨ i = 1 ∨ i = 2 ∨ i = 3 ∨ i = 4 := by omega
            rcases hc with rfl | rfl | rfl | rfl | rfl <;> rfl
          · intro w0 br bc' base nm fv d
            refine ⟨⟨hkn, hok.out.2.2.1, fun i hi h => ⟨(q3.out i hi h).2.1, (q3.out i hi h).2.2, hT i hi h⟩, fun i hi h => (q4.out i hi h).1, fun i hi h => (q2.out i hi h).1, by omega⟩, hlen, q1.out, fun i hi h => (q3.out i hi h).1, fun i hi h => (q4.out i hi h).1, fun i hi h => ?_, fun i hi h => ?_, fun i hi h => (q2.out i hi h).2⟩
            · have h1 := (hok.out.1 i hi).1 h
              have h2 := hcC.out i (by rcases h with h | h | h; exact .inl h; exact .inr (.inl h); exact .inr (.inr (.inl h)))
              exact ⟨(AR i).toNat, (Int.toNat_of_nonneg h2).symm, h1.2.1⟩
            · have h1 := (hok.out.1 i hi).2.1 h
              have h2 := hcC.out i (by rcases h with h | h; exact .inr (.inr (.inr (.inl h))); exact .inr (.inr (.inr (.inr h))))
              have h3 := hcN.out i h
              exact ⟨(AR i).toNat, (CN i).toNat, (Int.toNat_of_nonneg h2).symm, (Int.toNat_of_nonneg h3).symm, h1.2.1⟩

end Go.Proofs.YtidhiaaicmfabaaGreatDoor

/- The document's first example: loaded answers true. -/
namespace Go.Proofs.YtidhiaaicmfabaaGreatDoor
open Go.RowKit Go.Proofs Go.Deep

def simpleB : ByteArray := ⟨#[83, 76, 85, 73, 67, 69, 2, 1, 4, 0, 5, 2, 0, 3, 1, 0]⟩
def longerB : ByteArray := ⟨#[83, 76, 85, 73, 67, 69, 2, 1, 4, 0, 5, 2, 0, 3, 1, 0, 0]⟩
theorem longer_not (bd : Int) : ¬ imgOk longerB bd := by
  rintro ⟨_, _, h, _⟩
  have h1 : longerB.size = 17 := rfl
  have h2 : bt longerB 6 = 2 := by kernel_rfl
  have h3 : b16 longerB (7 + 2) = 5 := by kernel_rfl
  have := h.1
  rw [h1, h2, h3] at this
  omega
theorem simple_ok : imgOk simpleB 3 := by
  have h1 : simpleB.size = 16 := rfl
  have h2 : bt simpleB 6 = 2 := by kernel_rfl
  have h3 : b16 simpleB (7 + 2) = 5 := by kernel_rfl
  have hc : codeOf simpleB = ⟨#[2, 0, 3, 1, 0]⟩ := by kernel_rfl
  refine ⟨⟨by omega, ?_, by omega, by omega⟩, ?_, ⟨by rw [h1, h2, h3], by rw [h2, h3]; omega⟩, [0, 2, 4], by kernel_rfl, by simp, ?_, by kernel_rfl, ?_, by kernel_rfl⟩
  · rw [ByteArray.toList_eq]; kernel_rfl
  · intro i hi
    rw [h2] at hi
    have : i = 0 ∨ i = 1 := by omega
    rcases this with rfl | rfl
    · have : bt simpleB (7 + 0) = 1 := by kernel_rfl
      omega
    · have : bt simpleB (7 + 1) = 4 := by kernel_rfl
      omega
  · intro i hi
    have : i = 0 ∨ i = 1 ∨ i = 2 := by simp at hi; omega
    rcases this with rfl | rfl | rfl
    · have e1 : opL (codeOf simpleB) [0, 2, 4] 0 = 2 := by kernel_rfl
      have e2 : cL (codeOf simpleB) [0, 2, 4] 0 = 0 := by kernel_rfl
      have e3 : nL (codeOf simpleB) [0, 2, 4] 0 = 1 := by kernel_rfl
      rw [e1, e2, e3, h2]
      refine ⟨fun _ => ⟨by decide, by decide, fun i hi => ?_, fun h => by omega, fun h => by omega⟩, fun h => by omega⟩
      have : i = 0 := by simp at hi; omega
      subst this; exact ⟨rfl, rfl⟩
    · have e1 : opL (codeOf simpleB) [0, 2, 4] 1 = 3 := by kernel_rfl
      have e2 : cL (codeOf simpleB) [0, 2, 4] 1 = 1 := by kernel_rfl
      have e3 : nL (codeOf simpleB) [0, 2, 4] 1 = 1 := by kernel_rfl
      have e4 : rlOf simpleB 1 = 1 := by kernel_rfl
      rw [e1, e2, e3, h2]
      refine ⟨fun _ => ⟨by decide, by decide, fun i hi => ?_, fun h => by rw [e4]; decide, fun h => by omega⟩, fun h => by omega⟩
      have : i = 0 := by simp at hi; omega
      subst this; exact ⟨rfl, rfl⟩
    · have e1 : opL (codeOf simpleB) [0, 2, 4] 2 = 0 := by kernel_rfl
      rw [e1]
      exact ⟨fun h => by omega, fun h => by omega⟩
  · intro i hi hj
    have : i = 0 ∨ i = 1 ∨ i = 2 := by simp at hi; omega
    rcases this with rfl | rfl | rfl
    · have : opL (codeOf simpleB) [0, 2, 4] 0 = 2 := by kernel_rfl
      rw [this] at hj; rcases hj with h | h <;> omega
    · have : opL (codeOf simpleB) [0, 2, 4] 1 = 3 := by kernel_rfl
      rw [this] at hj; rcases hj with h | h <;> omega
    · have : opL (codeOf simpleB) [0, 2, 4] 2 = 0 := by kernel_rfl
      rw [this] at hj; rcases hj with h | h <;> omega

theorem img_unique {s : ByteArray} {b b' : Int} (h : imgOk s b) (h' : imgOk s b') : b = b' := by
  obtain ⟨_, _, _, ps, h1, _, _, _, _, h2⟩ := h
  obtain ⟨_, _, _, ps', h1', _, _, _, _, h2'⟩ := h'
  rw [h1] at h1'
  injection h1' with e
  subst e
  rw [h2] at h2'
  injection h2'
set_option maxHeartbeats 1000000 in
theorem loaded_any (w : World) (R : Ending → World → Prop) (fin : ∀ w', Below w.heap.size w w' → R (.returned (.bool true)) w') :
    Calls Tryz.prog 55 #[] w R := by
  replace fin := hd fin
  go_enter Tryz.func55, Tryz.ntmps55
  go_wp2_with (fail)
  refine load_any _ simpleB (by unfold maxLen; decide) _ ?_ ?_ ?_
  · intro h; exact absurd simple_ok (h 3)
  · intro bd h hl
    have := img_unique simple_ok h
    omega
  · intro bd h _ w1 bx hb1 hbx hcx
    have e := img_unique simple_ok h
    subst e
    have hlt : bx < w1.heap.size := World.block_lt_of_cell? w1 _ hcx
    replace hb1 := hd hb1
    replace h := hd h
    go_wp2_with (fail)
    refine load_any _ longerB (by unfold maxLen; decide) _ ?_ ?_ ?_
    · intro _ w2 hb2
      have hc2 : w2.cell? ⟨bx, 2, none⟩ = some (.int .i64 3) := (hb2.cell (p := ⟨bx, 2, none⟩) hlt).trans hcx
      have hbw := hd (bel_step hb1.out (Nat.le_refl _) hb2)
      replace hb2 := hd hb2
      go_wp2_with (fail)
      refine bound_any _ bx 3 hc2 _ ?_
      go_wp2
      exact cl1 (fin.out _ hbw.out) rfl
    · intro bd h2; exact absurd h2 (longer_not bd)
    · intro bd h2; exact absurd h2 (longer_not bd)

end Go.Proofs.YtidhiaaicmfabaaGreatDoor

/- What the harness's small functions do (pick, copies), straight code and its image, straight_any. -/
/- Small functions of the statements without the document's answer; the example's machine. -/
namespace Go.Proofs.YtidhiaaicmfabaaGreatDoor
open Go.RowKit Go.Proofs Go.Deep

def pickV (c n : Int) : Int := (if c < 0 then -(c + 1) else c) % n
theorem pick_any (w : World) (c n : Int) (hc : -9223372036854775808 ≤ c ∧ c ≤ 9223372036854775807) (hn : 0 < n ∧ n ≤ 9223372036854775807) (R : Ending → World → Prop) (fin : R (.returned (.int .i64 (pickV c n))) w) :
    Calls Tryz.prog 37 #[.int .i64 c, .int .i64 n] w R := by
  have n0 : ¬ n = 0 := by omega
  have nb : (n == 0) = false := by simpa using n0
  unfold pickV at fin
  by_cases h : c < 0
  · rw [if_pos h] at fin
    have d : decide (c < 0) = true := by simpa using h
    have e1 : 0 ≤ -(c + 1) := by omega
    replace fin := hd fin
    go_enter Tryz.func37, Tryz.ntmps37
    go_wp2
    exact cl1 fin.out (by show Value.int _ _ = Value.int _ _; rw [← Int.neg_tmod, Int.tmod_eq_emod_of_nonneg e1])
  · rw [if_neg h] at fin
    have d : decide (c < 0) = false := by simpa using h
    replace fin := hd fin
    go_enter Tryz.func37, Tryz.ntmps37
    go_wp2
    exact cl1 fin.out (by first | rfl | (show Value.int _ _ = Value.int _ _; rw [Int.tmod_eq_emod_of_nonneg (by omega)]))
theorem err_ite {c : Prop} [Decidable c] {A B : Sc × Int × Int} (ha : A.2.2 = 0 ∨ A.2.2 = 4 ∨ A.2.2 = 5) (hb : B.2.2 = 0 ∨ B.2.2 = 4 ∨ B.2.2 = 5) : (if c then A else B).2.2 = 0 ∨ (if c then A else B).2.2 = 4 ∨ (if c then A else B).2.2 = 5 := by
  split
  · exact ha
  · exact hb
theorem doesK_err (K : Rc) (i : Nat) (a b : Int) (q : Sc) : (doesK K i a b q).2.2 = 0 ∨ (doesK K i a b q).2.2 = 4 ∨ (doesK K i a b q).2.2 = 5 := by
  unfold doesK doesV
  repeat' (refine err_ite ?_ ?_)
  all_goals first | exact .inl rfl | exact .inr (.inl rfl) | exact .inr (.inr rfl) | skip
  cases q.Lf with
  | nil => exact .inl rfl
  | cons c r => exact err_ite (.inl rfl) (.inl rfl)
theorem runK_e (K : Rc) : ∀ (f : Nat) (q : Sc) (S : List Int) (dn : Int), (runK K f q S dn).2.2 = 0 ∨ (runK K f q S dn).2.2 = 4 ∨ (runK K f q S dn).2.2 = 5
  | 0, _, _, _ => .inl rfl
  | f + 1, q, S, dn => by
    simp only [runK]
    split
    · exact .inl rfl
    · split
      · exact doesK_err K _ _ _ _
      · exact runK_e K f _ _ _
theorem runM_e {M : Md} {w : World} {d : Int} {C : Nat → Int} {q : Sc} {dn e : Int} (h : runM M w d C = (q, dn, e)) : e = 0 ∨ e = 4 ∨ e = 5 := by
  have := runK_e (mkK M w 0 0 0 nmT (fun _ => undef) d) 300000 ⟨C, [], 0, false⟩ [] 0
  unfold runM at h
  rw [h] at this
  exact this

theorem simple_pos : posF (codeOf simpleB) ((codeOf simpleB).size + 1) 0 = some [0, 2, 4] := by kernel_rfl
def sMd (cap bs bx : Nat) (To' : Nat → Int) (bd : Int) : Md := mdFull (opL (codeOf simpleB) [0, 2, 4]) (atL [0, 2, 4]) (argL (codeOf simpleB) [0, 2, 4]) (cntL (codeOf simpleB) [0, 2, 4]) (fun i => bt simpleB (7 + i) / 3) (fun i => bt simpleB (7 + i) % 3) (bt simpleB 6) [0, 2, 4].length cap bs bx To' bd
theorem s_fits (cap bs bx : Nat) (To' : Nat → Int) (bd : Int) : fitsL (sMd cap bs bx To' bd).rl (sMd cap bs bx To' bd).kd (sMd cap bs bx To' bd).nC 0 [-5] = true := by kernel_rfl
theorem s_fits0 (cap bs bx : Nat) (To' : Nat → Int) (bd : Int) : fitsL (sMd cap bs bx To' bd).rl (sMd cap bs bx To' bd).kd (sMd cap bs bx To' bd).nC 0 [] = false := by kernel_rfl
theorem s_run (cap bs bx : Nat) (To' : Nat → Int) (bd : Int) (w : World) : (runM (sMd cap bs bx To' bd) w 3 (layL (sMd cap bs bx To' bd).rl (sMd cap bs bx To' bd).kd (sMd cap bs bx To' bd).nC 0 [-5] (fun _ => 0))).2 = (3, 0) := by kernel_rfl
theorem s_runC (cap bs bx : Nat) (To' : Nat → Int) (bd : Int) (w : World) : (runM (sMd cap bs bx To' bd) w 3 (layL (sMd cap bs bx To' bd).rl (sMd cap bs bx To' bd).kd (sMd cap bs bx To' bd).nC 0 [-5] (fun _ => 0))).1.C 1 = -5 := by kernel_rfl
theorem s_outs (cap bs bx : Nat) (To' : Nat → Int) (bd : Int) (C : Nat → Int) : outsL (sMd cap bs bx To' bd).rl C (sMd cap bs bx To' bd).nC = [C 1] := by kernel_rfl

end Go.Proofs.YtidhiaaicmfabaaGreatDoor

/- The example of the statements without the document's answer: copies. -/
namespace Go.Proofs.YtidhiaaicmfabaaGreatDoor
open Go.RowKit Go.Proofs Go.Deep

theorem Twain.below {b c base B : Nat} {w w' : World} (h : Twain b c base w w') (hb : B ≤ b) (hc : B ≤ c) (hB : B ≤ base) (hw : base = w.heap.size) : Below B w w' :=
  ⟨h.os, h.tape, h.output, by rw [← hw]; exact h.size, fun k hk => h.block k (by omega) (by omega) (by omega)⟩
set_option maxRecDepth 100000 in
set_option maxHeartbeats 1000000 in
theorem copies_any (w : World) (R : Ending → World → Prop) (fin : ∀ w', Below w.heap.size w w' → R (.returned (.bool true)) w') : Calls Tryz.prog 31 #[] w R := by
  replace fin := hd fin
  go_enter Tryz.func31, Tryz.ntmps31
  go_wp2_with (fail)
  refine load_full _ simpleB (by unfold maxLen; decide) _ ?_ ?_ ?_
  · intro h; exact absurd simple_ok (h 3)
  · intro bd h hl
    have := img_unique simple_ok h
    omega
  · intro bd l h hle hl cap bs bx bc To' H L w1 hb1 hbx hbs hbc hlive hkw
    have e := img_unique simple_ok h
    subst e
    rw [simple_pos] at hl
    injection hl with hl
    subst hl
    replace hlive : Live (sMd cap bs bx To' 3) bc (fun _ => 0) 0 w1 := hlive
    replace hkw : ∀ w0 br bc base nm fv d, KW (mkK (sMd cap bs bx To' 3) w0 br bc base nm fv d) _ (sMd cap bs bx To' 3).bd H L := hkw
    have hbxl : bx < w1.heap.size := hlive.row.lt
    have hsz1 := hb1.size
    have hi1 : InpAt bc (w1.alloc (.cells #[.int .i64 (-5)] 3)) (.slice (some ⟨w1.heap.size, 0, none⟩) 1 1) [-5] := by
      refine ⟨_, 1, rfl, by simp, .inl ⟨w1.heap.size, 0, rfl, by have := hlive.cel.lt; omega, fun j x hx => ?_⟩⟩
      have : j = 0 := by cases j with
        | zero => rfl
        | succ j => simp at hx
      subst this
      simp at hx
      subst hx
      exact (cell_of_row _ _ 0 _ _ (0, 0) (heap_alloc_new w1 _)).trans rfl
    have hlive2 := hlive.below ((Below.refl _ _).alloc (Nat.le_refl _) (.cells #[.int .i64 (-5)] 3))
    replace hb1 := hd hb1
    replace hkw := hd hkw
    replace hi1 := hd hi1
    replace hlive2 := hd hlive2
    clear hlive h
    go_wp2_with (fail)
    refine scan_any _ (sMd cap bs bx To' 3) bc (fun _ => 0) 0 hlive2.out _ [-5] 3 hi1.out hkw.out (by show (3 : Int) ≤ 200000; omega) _ ?_ ?_ ?_
    · intro hbad
      rcases hbad with hbad | hbad | hbad
      · rw [s_fits] at hbad; cases hbad
      · omega
      · omega
    · intro _ _ w2 q' dn hr hl2 ht _ _
      have hr2 := s_run cap bs bx To' 3 (w1.alloc (.cells #[.int .i64 (-5)] 3))
      rw [hr] at hr2
      have hrc := s_runC cap bs bx To' 3 (w1.alloc (.cells #[.int .i64 (-5)] 3))
      rw [hr] at hrc
      simp only [Prod.mk.injEq] at hr2
      obtain ⟨rfl, _⟩ := hr2
      have hbw2 : Below w.heap.size w w2 := (hb1.out.alloc hsz1 _).trans (ht.below hbx hbc (by simp; omega) rfl)
      have c0 := hl2.row.cell (i := 0) (by omega)
      have c2 := hl2.row.cell (i := 2) (by omega)
      have c3 := hl2.row.cell (i := 3) (by omega)
      replace hbw2 := hd hbw2
      have hlen := hl2.cel
      have hC2 := hl2.hC
      replace hl2 := hd hl2
      clear ht hr
      go_wp2_with (fail)
      refine outputs_any _ bx bc _ _ (sMd cap bs bx To' 3).rl (sMd cap bs bx To' 3).kd q'.C hl2.out.nC hC2 c0 hlen _ ?_
      intro v w3 hb3 hown
      rw [s_outs] at hown
      obtain ⟨g, cp, rfl, _, _, _, _, hg⟩ := own_one hown (by simp)
      have hg0 := hg 0 (by simp)
      rw [show (i64L [q'.C 1])[0]? = some (.int .i64 (q'.C 1)) from rfl, hrc] at hg0
      have hbw3 := hd (bel_step hbw2.out (Nat.le_refl _) hb3)
      have hl3 := hd (hl2.out.below hb3)
      replace c2 := (hb3.cell (p := ⟨bx, 2, none⟩) hl2.out.row.lt).trans c2
      replace c3 := (hb3.cell (p := ⟨bx, 3, none⟩) hl2.out.row.lt).trans c3
      have hi3 : InpAt bc w3 (.slice none 0 0) [] := ⟨none, 0, rfl, by simp, .inr rfl⟩
      clear hown hg hb3 hlen
      replace hi3 := hd hi3
      replace c2 : w3.cell? ⟨bx, 2, none⟩ = some (.int .i64 3) := c2
      replace c3 : w3.cell? ⟨bx, 3, none⟩ = some (.int .i64 3) := c3
      clear c0
      go_wp2_with (first | (go_at_call 28; refine steps_any _ _ 3 c3 _ ?_) | (go_at_call 65; refine bound_any _ _ 3 c2 _ ?_))
      refine scan_any _ (sMd cap bs bx To' 3) bc q'.C 3 hl3.out _ [] 0 hi3.out hkw.out (by show (3 : Int) ≤ 200000; omega) _ ?_ ?_ ?_
      · intro _ w4 hb4
        have hbw4 := hd (bel_step hbw3.out (Nat.le_refl _) hb4)
        replace hg0 := (hb4.cell (p := ⟨g, 0, none⟩) (World.block_lt_of_cell? w3 _ hg0)).trans hg0
        clear hb4
        go_wp2
        exact cl1 (fin.out _ hbw4.out) rfl
      · intro hf; rw [s_fits0] at hf; cases hf
      · intro hf; rw [s_fits0] at hf; cases hf
    · intro _ _ w2 q' dn e cv hr he
      have hr2 := s_run cap bs bx To' 3 (w1.alloc (.cells #[.int .i64 (-5)] 3))
      rw [hr] at hr2
      simp only [Prod.mk.injEq] at hr2
      exact absurd hr2.2 he

end Go.Proofs.YtidhiaaicmfabaaGreatDoor
