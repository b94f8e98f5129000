/- A scan, once its inputs are fit: runOnce. -/
import Derived.Test.YtidhiaaicmfabaaMem
import Derived.Test.YtidhiaaicmfabaaSpec
import Derived.Test.YtidhiaaicmfabaaRefA
import Derived.Test.YtidhiaaicmfabaaRefC
import Derived.Test.YtidhiaaicmfabaaSpec2
import Derived.WalkKit
import Derived.WalkSpells
import Derived.WalkLawsBesides
import Derived.Deep.OwnRows
import Derived.BigQuiet
import Derived.Handy
import Derived.Deep.Light
import Derived.Deep.RegionHeld3
import Derived.Deep.RegionWith
import Derived.Test.YtidhiaaicmfabaaSemN
namespace Go.Proofs.Ytidhiaaicmfabaa
open Go.RowKit Go.Proofs Go.Deep

theorem own_only {w w' : World} {base e size b : Nat} {v : Value} {n : Nat} {xs : List Value} (h : w.ownsRow base e size v n xs) (ho : Only b w w') (hb : b < base) : w'.ownsRow base e size v n xs := by
  refine h.kept (row := some b) ⟨ho.os, ho.tape, ho.output, ho.size, fun k hk hne => ho.block k hk (fun e => hne (by rw [e]))⟩ ?_
  by_cases hx : v.ownBlock = some b
  · have := (h.lt b hx).1; omega
  · exact .inr hx
theorem RS.laid {K : Rc} (hK : RcOk K) {C C' : Nat → Int} {w w' : World} (h : RS K 0 ⟨C, [], 0, false⟩ [] w) (ho : Only K.bc w w') (ht : Tab w' K.bc 93 3 K.nC K.nC (cellV K.rl K.kd C')) (hC : ∀ j, in32 (C' j)) : RS K 0 ⟨C', [], 0, false⟩ [] w' := by
  obtain ⟨sv, rv, hm, hs, hr⟩ := h.ex
  have hsz := hm.fr.size
  exact ⟨⟨sv, rv, ⟨⟨ho.os.trans hm.fr.os, ho.tape.trans hm.fr.tape, ho.output.trans hm.fr.output, Nat.le_trans hsz ho.size, fun k hk h1 h2 => (ho.block k (by omega) h2).trans (hm.fr.block k hk h1 h2)⟩, hm.run.of_block (ho.block _ hm.run.lt hK.rc), ht⟩, own_only hs ho hK.bc, own_only hr ho hK.bc⟩, hC, fun x hx => by cases hx⟩
theorem frz_new {w : World} {b T : Nat} {c : Array Value} (h : w.heap[b]? = some (.cells c T)) (j : Nat) : w.frozen? ⟨b, j, none⟩ = false := by simp [World.frozen?, h]
theorem Twain.setB {b c base : Nat} {w w' : World} (h : Twain b c base w w') (o : Nat) (v : Value) : Twain b c base w (w'.setCell ⟨b, o, none⟩ v) :=
  ⟨h.os, h.tape, h.output, by rw [World.size_setCell]; exact h.size, fun k hk h1 h2 => by rw [Below.heap_setCell _ _ _ _ h1]; exact h.block k hk h1 h2⟩
def MidR (W : World) (M : Md) (v : Value) (d : Int) (g3 g7 bc : Nat) (ao : Option Addr) (acap : Nat) (e : Exit) (a : Act) (w' : World) : Prop :=
  e = .normal ∧ ∃ br fv X V, PreR W br fv X ∧ a = ⟨#[.pointer (some ⟨M.bx, 0, none⟩), v, .int .i64 d, .pointer (some ⟨g3, 0, none⟩), undef, undef, .pointer (some ⟨g3 + 1, 0, none⟩), .pointer (some ⟨g7, 0, none⟩), .pointer (some ⟨br, 0, none⟩), .pointer (some ⟨M.bx, 0, none⟩), .pointer (some ⟨M.bx, 0, none⟩), .pointer (some ⟨M.bx, 0, none⟩), .slice (some ⟨bc, 0, none⟩) M.nC M.nC, .slice ao M.nC acap, .agg (tabC fv), .pointer (some ⟨M.bx, 0, none⟩), .pointer (some ⟨M.bx, 0, none⟩), .pointer (some ⟨M.bx, 1, none⟩), .slice (some ⟨M.bs, 0, none⟩) M.n M.cap, .pointer (some ⟨M.bx, 0, none⟩), .pointer (some ⟨M.bx, 0, none⟩), .pointer (some ⟨M.bx, 0, none⟩), .slice (some ⟨bc, 0, none⟩) M.nC M.nC, .int .i64 d, V, undef, undef, undef, undef, undef], []⟩ ∧
    w' = X.setCells br 0 (runC (.slice (some ⟨M.bs, 0, none⟩) M.n M.cap) (.slice (some ⟨bc, 0, none⟩) M.nC M.nC) d fv).toList
set_option maxRecDepth 100000 in
set_option maxHeartbeats 4000000 in
theorem runOnce_any (w : World) (M : Md) (bc : Nat) (C : Nat → Int) (dn0 : Int) (h : Live M bc C dn0 w) (v : Value) (l : List Int) (d : Int) (hv : InpAt bc w v l) (hfit : fitsL M.rl M.kd M.nC 0 l = true) (hd1 : 0 ≤ d ∧ d ≤ 1000000) {To : Nat → Nat} {H L : Nat → Int} (hkw : ∀ w0 br bc base nm fv d, KW (mkK M w0 br bc base nm fv d) To M.bd H L) (hbd : M.bd ≤ 200000) (R : Ending → World → Prop)
    (ok : ∀ w' q' dn, runM M w d (layL M.rl M.kd M.nC 0 l C) = (q', dn, 0) → Live M bc q'.C dn w' → Twain M.bx bc w.heap.size w w' → 1 ≤ dn → dn ≤ M.bd → R (.returned (.int .i64 0)) w')
    (err : ∀ w' q' dn e cv, runM M w d (layL M.rl M.kd M.nC 0 l C) = (q', dn, e) → e ≠ 0 → Dead M cv C dn e w' → Twain M.bx bc w.heap.size w w' → 1 ≤ dn → dn ≤ M.bd → R (.returned (.int .i64 e)) w') :
    Calls Try.prog 25 #[.pointer (some ⟨M.bx, 0, none⟩), v, .int .i64 d] w R := by
  have hmf : ∀ (fn : Fn) (first cap : Array Value) (w : World), (Instr.makeFunc fn first cap).run Try.prog w = .ok (.func fn first cap) w := fun _ _ _ _ => rfl
  have c0 := h.row.cell (i := 0) (by omega)
  have c1 := h.row.cell (i := 1) (by omega)
  rw [show machF M (.slice (some ⟨bc, 0, none⟩) M.nC M.nC) dn0 0 0 = .slice (some ⟨bc, 0, none⟩) M.nC M.nC from rfl] at c0
  rw [show machF M (.slice (some ⟨bc, 0, none⟩) M.nC M.nC) dn0 0 1 = .slice (some ⟨M.bs, 0, none⟩) M.n M.cap from rfl] at c1
  have hlx := h.row.lt
  have hlc := h.cel.lt
  have hnC := h.nC
  replace ok := hd ok
  replace err := hd err
  replace hkw := hd hkw
  replace h := hd h
  replace hv := hd hv
  replace hfit := hd hfit
  go_enter_defers Try.func25, Try.ntmps25
  go_wp2_with (fail)
  refine clone_any _ bc M.nC M.rl M.kd C hnC ((h.out.cel.alloc _).alloc _) _ ?_
  intro av news w1 hb1 hown hnews
  obtain ⟨ao, acap, rfl⟩ := own_sl hown
  replace hb1 := hd hb1
  replace hown := hd hown
  replace hnews := hd hnews
  go_wp2_with (fail)
  have hbw : Below w.heap.size w w1 := (((Below.refl _ _).alloc (Nat.le_refl _) _).alloc (by simp) _).trans (hb1.out.mono (by simp; omega))
  have s3 : w1.cell? ⟨w.heap.size, 0, none⟩ = some (.pointer (some ⟨M.bx, 0, none⟩)) := (hb1.out.cell (p := ⟨w.heap.size, 0, none⟩) (by simp; omega)).trans ((cell_of_row _ _ 0 _ _ (0, 0) (first_new w _ _)).trans rfl)
  have s6 : w1.cell? ⟨w.heap.size + 1, 0, none⟩ = some (.int .i64 0) := (hb1.out.cell (p := ⟨w.heap.size + 1, 0, none⟩) (by simp)).trans ((cell_of_row _ _ 0 _ _ (0, 0) (second_new w _ _)).trans rfl)
  have s6f : w1.frozen? ⟨w.heap.size + 1, 0, none⟩ = false := (hb1.out.frozen (p := ⟨w.heap.size + 1, 0, none⟩) (by simp)).trans (frz_new (second_new w _ _) 0)
  have hbW : Below w.heap.size w (w1.alloc (Obj.cells #[Value.slice ao M.nC acap] 44)) := hbw.alloc hbw.size _
  have s7 := heap_alloc_new w1 (Obj.cells #[Value.slice ao M.nC acap] 44)
  have hown2 : w1.ownsRow (w.heap.size + 2) 93 3 (.slice ao M.nC acap) M.nC news := by have := hown.out; simpa using this
  have hownW := hown2.alloc (Obj.cells #[Value.slice ao M.nC acap] 44)
  have g67 : w.heap.size + 1 < w1.heap.size := by have := hb1.out.size; simp at this; omega
  replace s3 := cell_al s3 (Obj.cells #[Value.slice ao M.nC acap] 44)
  replace s6f := frozen_al s6f (by have := hb1.out.size; simp at this; omega) (Obj.cells #[Value.slice ao M.nC acap] 44)
  replace s6 := cell_al s6 (Obj.cells #[Value.slice ao M.nC acap] 44)
  generalize w1.alloc (Obj.cells #[Value.slice ao M.nC acap] 44) = W at *
  replace s7 : W.cell? ⟨w1.heap.size, 0, none⟩ = some (.slice ao M.nC acap) := (cell_of_row _ _ 0 _ _ (0, 0) s7).trans rfl
  have x0 := (hbW.cell (p := ⟨M.bx, 0, none⟩) hlx).trans c0
  have x1 := (hbW.cell (p := ⟨M.bx, 1, none⟩) hlx).trans c1
  have l3 := World.block_lt_of_cell? W _ s3
  have l6 := World.block_lt_of_cell? W _ s6
  have l7 := World.block_lt_of_cell? W _ s7
  have lxW := World.block_lt_of_cell? W _ x0
  have hx3 : M.bx < w.heap.size := hlx
  generalize hg7 : w1.heap.size = g7 at *
  generalize hg3 : w.heap.size = g3 at *
  clear hb1 hown hbw hown2
  refine wp_mono (Q := MidR W M v d g3 g7 bc ao acap) ?_ ?_
  · refine wp_region_held (S := fun w' => Below W.heap.size W w') (by kernel_rfl) ?_
    change wpAnyH _ _ _ _ _ _ _ _ (World.drew _)
    have hS0 : Below W.heap.size W W.drew := (Below.refl _ _).drew
    refine wpAnyH_take (i := 1) (v := .pointer (some ⟨M.bx, 0, none⟩)) rfl (by kernel_rfl) (by kernel_rfl) (by kernel_rfl) (fun _ _ _ h => by cases h.1) (Or.inl ⟨by rfl, fun w' hS => ?_⟩) hS0 ?_
    · have q := hS.cell (p := ⟨g3, 0, none⟩) l3
      rw [s3] at q
      go_simp
    refine wpAnyH_take (i := 2) (v := .pointer (some ⟨M.bx, 0, none⟩)) rfl (by kernel_rfl) (by kernel_rfl) (by kernel_rfl) (fun _ _ _ h => by cases h.1) (Or.inl ⟨by rfl, fun w' hS => ?_⟩) hS0 ?_
    · go_simp
    refine wpAnyH_take (i := 3) (v := .pointer (some ⟨M.bx, 1, none⟩)) rfl (by kernel_rfl) (by kernel_rfl) (by kernel_rfl) (fun _ _ _ h => by cases h.1) (Or.inl ⟨by rfl, fun w' hS => ?_⟩) hS0 ?_
    · go_simp
    refine wpAnyH_take (i := 4) (v := .slice (some ⟨M.bs, 0, none⟩) M.n M.cap) rfl (by kernel_rfl) (by kernel_rfl) (by kernel_rfl) (fun _ _ _ h => by cases h.1) (Or.inl ⟨by rfl, fun w' hS => ?_⟩) hS0 ?_
    · have q := hS.cell (p := ⟨M.bx, 1, none⟩) lxW
      rw [x1] at q
      go_simp
    refine wpAnyH_take (i := 5) (v := .pointer (some ⟨M.bx, 0, none⟩)) rfl (by kernel_rfl) (by kernel_rfl) (by kernel_rfl) (fun _ _ _ h => by cases h.1) (Or.inl ⟨by rfl, fun w' hS => ?_⟩) hS0 ?_
    · have q := hS.cell (p := ⟨g3, 0, none⟩) l3
      rw [s3] at q
      go_simp
    refine wpAnyH_take (i := 6) (v := .pointer (some ⟨M.bx, 0, none⟩)) rfl (by kernel_rfl) (by kernel_rfl) (by kernel_rfl) (fun _ _ _ h => by cases h.1) (Or.inl ⟨by rfl, fun w' hS => ?_⟩) hS0 ?_
    · go_simp
    refine wpAnyH_take (i := 7) (v := .pointer (some ⟨M.bx, 0, none⟩)) rfl (by kernel_rfl) (by kernel_rfl) (by kernel_rfl) (fun _ _ _ h => by cases h.1) (Or.inl ⟨by rfl, fun w' hS => ?_⟩) hS0 ?_
    · go_simp
    refine wpAnyH_take (i := 8) (v := .slice (some ⟨bc, 0, none⟩) M.nC M.nC) rfl (by kernel_rfl) (by kernel_rfl) (by kernel_rfl) (fun _ _ _ h => by cases h.1) (Or.inl ⟨by rfl, fun w' hS => ?_⟩) hS0 ?_
    · have q := hS.cell (p := ⟨M.bx, 0, none⟩) lxW
      rw [x0] at q
      go_simp
    refine wpAnyH_take (i := 9) (v := .int .i64 d) rfl (by kernel_rfl) (by kernel_rfl) (by kernel_rfl) (fun _ _ _ h => by cases h.1) (Or.inl ⟨by rfl, fun w' hS => ?_⟩) hS0 ?_
    · go_simp
    refine wpAnyH_all (rs := [0, 11]) (by kernel_rfl) (by simp) ?_
    intro i hi
    simp only [List.mem_cons, List.not_mem_nil, or_false] at hi
    rcases hi with rfl | rfl
    · refine stepH rfl (fun K hK => ?_)
      go_simp
      refine table_at _ _ ?_
      intro fv w2 hfv hb2
      have hS2 : Below W.heap.size W w2 := drew_below hb2
      have hfn := hd hfv.fn
      refine hK _ _ hS2 ?_
      clear hK K
      refine wpAnyH_take (i := 10) (v := .agg (runC (.slice (some ⟨M.bs, 0, none⟩) M.n M.cap) (.slice (some ⟨bc, 0, none⟩) M.nC M.nC) d fv)) rfl (by kernel_rfl) (by kernel_rfl) (by kernel_rfl) (fun _ _ _ h => by cases h.1) (Or.inl ⟨by rfl, fun w' _ => exec_build rfl (by simp [Act.eval]) (run_build_run _ _ _ _ _ _ d fv) w'⟩) hS2 ?_
      generalize hV : Value.agg (runC (.slice (some ⟨M.bs, 0, none⟩) M.n M.cap) (.slice (some ⟨bc, 0, none⟩) M.nC M.nC) d fv) = V
      refine wpAnyH_all (rs := [11]) (by kernel_rfl) (by simp) ?_
      intro i hi
      simp only [List.mem_cons, List.not_mem_nil, or_false] at hi
      subst hi
      refine stepH rfl (fun K hK => ?_)
      go_simp
      refine hK _ _ (hS2.alloc hS2.size _) ?_
      clear hK K
      have hpre : PreR W w2.heap.size fv (w2.alloc (.cells Try.zeroCells97 97)) := ⟨hS2.alloc hS2.size _, heap_alloc_new _ _, hS2.size, W.heap.size, w2, hfv, Nat.le_refl _, fun k hk hk2 => ⟨Below.heap_alloc _ _ _ hk2, by omega, by rw [World.size_alloc]; omega⟩⟩
      refine wpAnyH_all (rs := [12]) (by kernel_rfl) (by simp) ?_
      intro i hi
      simp only [List.mem_cons, List.not_mem_nil, or_false] at hi
      subst hi
      refine stepH rfl (fun K hK => ?_)
      rw [if_pos (by rfl)]
      refine wp_store_mid 97 _ _ rfl (w2.heap.size) 0 (runC (.slice (some ⟨M.bs, 0, none⟩) M.n M.cap) (.slice (some ⟨bc, 0, none⟩) M.nC M.nC) d fv) rfl hV.symm (by rw [runC_size]; exact there_of_block hpre.zero zeroRun_size) (by rw [runC_size]; exact infoRun) (runC_one _ _ _ _ _ _ d fv hfn.out) ?_
      refine hK _ _ (below_setCells hpre.le _ _ _ hpre.bel) ?_
      clear hK K
      refine wpAnyH_done (by kernel_rfl) ?_ _
      refine ⟨rfl, ?_⟩
      exact ⟨_, fv, _, V, hpre, rfl, rfl⟩
    · refine stepH rfl (fun K hK => ?_)
      go_simp
      refine hK _ _ (hS0.alloc (Nat.le_refl _) _) ?_
      clear hK K
      refine wpAnyH_all (rs := [0]) (by kernel_rfl) (by simp) ?_
      intro i hi
      simp only [List.mem_cons, List.not_mem_nil, or_false] at hi
      subst hi
      refine stepH rfl (fun K hK => ?_)
      go_simp
      refine table_at _ _ ?_
      intro fv w2 hfv hb2
      have hS2 : Below W.heap.size W w2 := (hS0.alloc (Nat.le_refl _) _).trans (hb2.mono (by simp))
      have hfn := hd hfv.fn
      refine hK _ _ hS2 ?_
      clear hK K
      refine wpAnyH_take (i := 10) (v := .agg (runC (.slice (some ⟨M.bs, 0, none⟩) M.n M.cap) (.slice (some ⟨bc, 0, none⟩) M.nC M.nC) d fv)) rfl (by kernel_rfl) (by kernel_rfl) (by kernel_rfl) (fun _ _ _ h => by cases h.1) (Or.inl ⟨by rfl, fun w' _ => exec_build rfl (by simp [Act.eval]) (run_build_run _ _ _ _ _ _ d fv) w'⟩) hS2 ?_
      generalize hV : Value.agg (runC (.slice (some ⟨M.bs, 0, none⟩) M.n M.cap) (.slice (some ⟨bc, 0, none⟩) M.nC M.nC) d fv) = V
      have hpre : PreR W W.heap.size fv w2 := ⟨hS2, (hb2.block W.heap.size (by simp)).trans (heap_alloc_new W.drew _), Nat.le_refl _, W.heap.size + 1, w2, by have := hfv; simpa using this, by omega, fun k hk hk2 => ⟨rfl, by omega, hk2⟩⟩
      refine wpAnyH_all (rs := [12]) (by kernel_rfl) (by simp) ?_
      intro i hi
      simp only [List.mem_cons, List.not_mem_nil, or_false] at hi
      subst hi
      refine stepH rfl (fun K hK => ?_)
      rw [if_pos (by rfl)]
      refine wp_store_mid 97 _ _ rfl (W.heap.size) 0 (runC (.slice (some ⟨M.bs, 0, none⟩) M.n M.cap) (.slice (some ⟨bc, 0, none⟩) M.nC M.nC) d fv) rfl hV.symm (by rw [runC_size]; exact there_of_block hpre.zero zeroRun_size) (by rw [runC_size]; exact infoRun) (runC_one _ _ _ _ _ _ d fv hfn.out) ?_
      refine hK _ _ (below_setCells hpre.le _ _ _ hpre.bel) ?_
      clear hK K
      refine wpAnyH_done (by kernel_rfl) ?_ _
      refine ⟨rfl, ?_⟩
      exact ⟨_, fv, _, V, hpre, rfl, rfl⟩
  · intro e0 a0 w0 hmid
    obtain ⟨e1, br, fv, X, V, hpre, ea, ew⟩ := hmid
    subst e1
    rw [ea, ew]
    clear ea ew
    have hbW' : Below w.heap.size w W := by rw [hg3]; exact hbW
    have hLW := h.out.below hbW'
    obtain ⟨K, hKe, hK, hF, hrs⟩ := start_ok hLW hpre hd1
    have hB2 : Below W.heap.size W (X.setCells br 0 (runC (.slice (some ⟨M.bs, 0, none⟩) M.n M.cap) (.slice (some ⟨bc, 0, none⟩) M.nC M.nC) d fv).toList) := below_setCells hpre.le _ _ _ hpre.bel
    have hsz2 : X.heap.size = (X.setCells br 0 (runC (.slice (some ⟨M.bs, 0, none⟩) M.n M.cap) (.slice (some ⟨bc, 0, none⟩) M.nC M.nC) d fv).toList).heap.size := by rw [sizeSetCells]
    have hle := hpre.le
    have hXs := hpre.bel.size
    generalize X.setCells br 0 (runC (.slice (some ⟨M.bs, 0, none⟩) M.n M.cap) (.slice (some ⟨bc, 0, none⟩) M.nC M.nC) d fv).toList = W2 at hKe hB2 hrs hsz2 ⊢
    clear hpre
    generalize Value.agg (tabC fv) = V14
    have t3 := (hB2.cell (p := ⟨g3, 0, none⟩) l3).trans s3
    have t6 := (hB2.cell (p := ⟨g3 + 1, 0, none⟩) l6).trans s6
    have t6f := (hB2.frozen (p := ⟨g3 + 1, 0, none⟩) l6).trans s6f
    have t7 := (hB2.cell (p := ⟨g7, 0, none⟩) l7).trans s7
    have z0 := (hB2.cell (p := ⟨M.bx, 0, none⟩) lxW).trans x0
    have hL2 := hLW.below hB2
    have hv2 := (hv.out.below hbW').below hB2
    have hnec := row_ne hL2.row hL2.cel (by decide)
    have hbsz := hB2.size
    clear x0 x1 s3 s6 s7 s6f
    replace hL2 := hd hL2
    replace hv2 := hd hv2
    replace hrs := hd hrs
    go_wp2_with (fail)
    refine layInputs_any _ M.bx bc M.nC M.nC M.rl M.kd C v l hnec hnC z0 hL2.out.cel hv2.out hfit.out _ ?_
    intro w3 ho3 ht3
    subst hKe
    have hrs3 := hrs.out.laid hK (C' := layL M.rl M.kd M.nC 0 l C) ho3 ht3 (layL_in _ _ _ _ hL2.out.hC)
    have hkk := hkw.out W2 br bc X.heap.size nmT fv d
    have hst := hkk.w.start
    have hgi : GI (mkK M W2 br bc X.heap.size nmT fv d) M.bd H L ⟨layL M.rl M.kd M.nC 0 l C, [], 0, false⟩ [] 0 := ⟨fun _ => ⟨0, [], rfl, hst.1, rfl, by rw [hkk.w.k.h0]; rfl, by rw [hst.2]; omega⟩, (fun h => (by cases h)), by omega⟩
    clear ho3 ht3
    replace hrs3 := hd hrs3
    replace hgi := hd hgi
    replace hkk := hd hkk
    go_wp2_with (fail)
    refine toEnd_any hK hF hkk.out hbd hrs3.out hgi.out _ ?_
    intro w4 q' S' dn e hrs4 hrun hd1' hd2
    obtain ⟨sv4, rv4, hm4, _, _⟩ := hrs4.ex
    have fr4 := hm4.fr
    have y116 := hm4.c116
    have hbr4 : br < w4.heap.size := hm4.run.lt
    have hlc' : bc < g3 := hlc
    have y3 := (World.cell?_of_block (a := ⟨g3, 0, none⟩) (fr4.block g3 (show g3 < X.heap.size by omega) (show g3 ≠ br by omega) (show g3 ≠ bc by omega))).trans t3
    have y6 := (World.cell?_of_block (a := ⟨g3 + 1, 0, none⟩) (fr4.block (g3 + 1) (show g3 + 1 < X.heap.size by omega) (show g3 + 1 ≠ br by omega) (show g3 + 1 ≠ bc by omega))).trans t6
    have y7 := (World.cell?_of_block (a := ⟨g7, 0, none⟩) (fr4.block g7 (show g7 < X.heap.size by omega) (show g7 ≠ br by omega) (show g7 ≠ bc by omega))).trans t7
    have yx := fr4.block M.bx (show M.bx < X.heap.size by omega) (show M.bx ≠ br by omega) hnec
    have hrow4 := hL2.out.row.of_block yx
    have m0 := hrow4.cell (i := 0) (by omega)
    have m3 := hrow4.cell (i := 3) (by omega)
    have m4 := hrow4.cell (i := 4) (by omega)
    have mf := hrow4.frozen
    have f6 := (World.frozen?_of_block (a := ⟨g3 + 1, 0, none⟩) (fr4.block (g3 + 1) (show g3 + 1 < X.heap.size by omega) (show g3 + 1 ≠ br by omega) (show g3 + 1 ≠ bc by omega))).trans t6f
    replace hrs4 := hd hrs4
    replace hrow4 := hd hrow4
    replace fr4 := hd fr4
    replace hrun := hd hrun
    clear hm4
    go_wp2
    have o : ∀ {a : Addr} {u : Value}, w4.cell? a = some u → a.block ≠ g3 + 1 → (w4.setCell ⟨g3 + 1, 0, none⟩ (.int .i64 e)).cell? a = some u := fun {a u} ha hne => by rw [World.cell?_setCell_other _ _ _ _ (by intro ee; apply hne; rw [← ee])]; exact ha
    have q6 := World.cell?_setCell_same w4 ⟨g3 + 1, 0, none⟩ (.int .i64 e) y6
    have q116 := o y116 (show br ≠ g3 + 1 by omega)
    have q3 := o y3 (show g3 ≠ g3 + 1 by omega)
    have q7 := o y7 (show g7 ≠ g3 + 1 by omega)
    have n0 := o m0 (show M.bx ≠ g3 + 1 by omega)
    have n3 := o m3 (show M.bx ≠ g3 + 1 by omega)
    have n4 := o m4 (show M.bx ≠ g3 + 1 by omega)
    have hrow5 := hrow4.out.setOther (a := ⟨g3 + 1, 0, none⟩) (show M.bx ≠ g3 + 1 by omega) (.int .i64 e)
    have hrunM := hd (show runM M w d (layL M.rl M.kd M.nC 0 l C) = (q', dn, e) by unfold runM; rw [runK_M M w W2 0 br 0 bc 0 X.heap.size nmT nmT _ fv d]; exact hrun.out)
    obtain ⟨sv5, rv5, hm5, _, _⟩ := hrs4.out.ex
    have hcel5 := hd (hm5.cel.setOther (a := ⟨g3 + 1, 0, none⟩) (show bc ≠ g3 + 1 by omega) (.int .i64 e))
    have hst4 := hm5.steps hK
    have hnes := row_ne hL2.out.row hL2.out.steps (by decide)
    have hlts : M.bs < g3 := by rw [← hg3]; exact h.out.steps.lt
    have hsteps5 := hd (hst4.setOther (a := ⟨g3 + 1, 0, none⟩) (show M.bs ≠ g3 + 1 by omega) (.int .i64 e))
    have hT5 := hd (show Twain M.bx bc g3 w (w4.setCell ⟨g3 + 1, 0, none⟩ (.int .i64 e)) from ⟨(fr4.out.os.trans hB2.os).trans hbW.os, (fr4.out.tape.trans hB2.tape).trans hbW.tape, (fr4.out.output.trans hB2.output).trans hbW.output, by rw [World.size_setCell]; have := fr4.out.size; exact Nat.le_trans (show g3 ≤ X.heap.size by omega) this, fun k hk h1 h2 => by
      rw [Below.heap_setCell _ _ _ _ (show k ≠ g3 + 1 by omega)]
      exact ((fr4.out.block k (show k < X.heap.size by omega) (show k ≠ br by omega) h2).trans (hB2.block k (by omega))).trans (hbW.block k hk)⟩)
    clear hm5 hst4
    refine leaves_cons (f := 45) (args := #[.pointer (some ⟨br, 0, none⟩), .pointer (some ⟨g3, 0, none⟩), .pointer (some ⟨g3 + 1, 0, none⟩), .pointer (some ⟨g7, 0, none⟩)]) (by simp) (by simp [go_sem]) ?_
    by_cases he : e = 0
    · subst he
      refine (left_ok _ br M.bx g3 (g3 + 1) g7 dn dn0 _ q116 q3 q6 n3 (hrow5.frozen 3)).mono ?_
      rintro ed u' w6 ⟨rfl, rfl, rfl⟩
      have r6 : ((w4.setCell ⟨g3 + 1, 0, none⟩ (.int .i64 0)).setCell ⟨M.bx, 3, none⟩ (.int .i64 dn)).cell? ⟨g3 + 1, 0, none⟩ = some (.int .i64 0) := by rw [World.cell?_setCell_other _ _ _ _ (by intro ee; injection ee; omega)]; exact q6
      simp [Leaves, settle, results, Try.results25, go_sem, r6]
      refine ok.out _ q' dn hrunM.out ⟨(hrow5.set 3 _).congr (fun i hi => ?_), (hcel5.out.setOther (a := ⟨M.bx, 3, none⟩) (Ne.symm hnec) _), (hsteps5.out.setOther (a := ⟨M.bx, 3, none⟩) (Ne.symm hnes) _), hrs4.out.hC, hL2.out.n, hL2.out.nC⟩ (hT5.out.setB _ _) hd1' hd2
      have hc : i = 0 ∨ i = 1 ∨ i = 2 ∨ i = 3 ∨ i = 4 := by omega
      rcases hc with rfl | rfl | rfl | rfl | rfl <;> rfl
    · refine (left_err _ br M.bx g3 (g3 + 1) g7 dn dn0 e 0 (.slice ao M.nC acap) (.slice (some ⟨bc, 0, none⟩) M.nC M.nC) _ q116 q3 q6 he n3 n0 n4 q7 ⟨_, _, _, rfl⟩ hrow5.frozen).mono ?_
      rintro ed u' w6 ⟨rfl, rfl, rfl⟩
      have r6 : ((((w4.setCell ⟨g3 + 1, 0, none⟩ (.int .i64 e)).setCell ⟨M.bx, 3, none⟩ (.int .i64 dn)).setCell ⟨M.bx, 0, none⟩ (.slice ao M.nC acap)).setCell ⟨M.bx, 4, none⟩ (.int .i64 e)).cell? ⟨g3 + 1, 0, none⟩ = some (.int .i64 e) := by
        rw [World.cell?_setCell_other _ _ _ _ (by intro ee; injection ee; omega), World.cell?_setCell_other _ _ _ _ (by intro ee; injection ee; omega), World.cell?_setCell_other _ _ _ _ (by intro ee; injection ee; omega)]; exact q6
      simp [Leaves, settle, results, Try.results25, go_sem, r6]
      refine err.out _ q' dn e (.slice ao M.nC acap) hrunM.out he ⟨(((hrow5.set 3 _).set 0 _).set 4 _).congr (fun i hi => ?_), ?_, h.out.hC, he⟩ (((hT5.out.setB _ _).setB _ _).setB _ _) hd1' hd2
      · have hc : i = 0 ∨ i = 1 ∨ i = 2 ∨ i = 3 ∨ i = 4 := by omega
        rcases hc with rfl | rfl | rfl | rfl | rfl <;> rfl
      · by_cases h0 : M.nC = 0
        · exact .inr ⟨h0, ao, acap, by rw [h0]⟩
        · obtain ⟨bq, cq, eq, hbq, htq⟩ := own_tab hownW (by omega) hnews.out
          injection eq with e1 e2 e3
          subst e1; subst e3
          have hbql := htq.lt
          refine .inl ⟨bq, _, rfl, htq.of_block ?_⟩
          rw [Below.heap_setCell _ _ _ _ (show bq ≠ M.bx by omega), Below.heap_setCell _ _ _ _ (show bq ≠ M.bx by omega), Below.heap_setCell _ _ _ _ (show bq ≠ M.bx by omega), Below.heap_setCell _ _ _ _ (show bq ≠ g3 + 1 by omega)]
          exact (fr4.out.block bq (show bq < X.heap.size by omega) (show bq ≠ br by omega) (show bq ≠ bc by omega)).trans (hB2.block bq hbql)

end Go.Proofs.Ytidhiaaicmfabaa
