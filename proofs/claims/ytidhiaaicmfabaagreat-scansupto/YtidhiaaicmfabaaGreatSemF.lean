/- One step of a scan: advance. -/
import Derived.Test.YtidhiaaicmfabaaGreatMem
import Derived.Test.YtidhiaaicmfabaaGreatSpec
import Derived.Test.YtidhiaaicmfabaaGreatRefA
import Derived.Test.YtidhiaaicmfabaaGreatRefC
import Derived.Test.YtidhiaaicmfabaaGreatSpec2
import Derived.WalkKit
import Derived.WalkSpells
import Derived.WalkLawsBesides
import Derived.Deep.OwnRows
import Derived.BigQuiet
import Derived.Handy
import Derived.Deep.Light
import Derived.Deep.RegionHeld3
import Derived.Deep.RegionWith
import Derived.Test.YtidhiaaicmfabaaGreatSemE
namespace Go.Proofs.YtidhiaaicmfabaaGreat
open Go.RowKit Go.Proofs Go.Deep

attribute [local go_sem ↓] Go.wp_at_zero Go.wp_at_succ
def pushS (o : Nat) (v : Int) (S : List Int) : List Int := if 0 < pushesOf o then v :: S else S
set_option maxRecDepth 100000 in
set_option maxHeartbeats 4000000 in
theorem advance_any {K : Rc} (hK : RcOk K) (hF : FvOk K) {dn : Int} {q : Sc} {S : List Int} {w : World} (h : RS K dn q S w) (i : Nat) (hi : i < K.n) (hnx : q.nx = (i : Int)) (hop : K.op i < 22) (hp : popsOf (K.op i) ≤ S.length) (h32 : S.length ≤ 40) (hdn : 0 ≤ dn ∧ dn ≤ 300000)
    (hside : Side K i q) (R : Ending → World → Prop)
    (fin : ∀ w', RS K (dn + 1) (doesK K i (popA (popsOf (K.op i)) S) (popB (popsOf (K.op i)) S) { q with nx := (i : Int) + 1 }).1 (pushS (K.op i) (doesK K i (popA (popsOf (K.op i)) S) (popB (popsOf (K.op i)) S) { q with nx := (i : Int) + 1 }).2.1 (S.drop (popsOf (K.op i)))) w' →
      R (.returned (.int .i64 (doesK K i (popA (popsOf (K.op i)) S) (popB (popsOf (K.op i)) S) { q with nx := (i : Int) + 1 }).2.2)) w') :
    Calls Tryz.prog 102 #[.pointer (some ⟨K.br, 0, none⟩)] w R := by
  obtain ⟨sv, rv, hm, hs, hr⟩ := h.ex
  have hlt := hm.run.lt
  have hst := hm.steps hK
  have hbs := hst.lt
  obtain ⟨x0, x1, x2, x3, x4, x5⟩ := hst.six hi
  have c110 := hm.c110
  have c115 := hm.c115
  rw [hnx] at c115
  have hn := hK.n
  have j0 : (0 : Int) ≤ (i : Int) := by omega
  have j1 : (i : Int) < (K.n : Int) := by omega
  replace fin := hd fin
  replace h := hd h
  clear hm hs hr hst
  go_enter Tryz.func102, Tryz.ntmps102
  go_wp2_with (fail)
  go_region
  have h5 := new_at (w := w) (o := Obj.cells #[Value.int .u8 (K.op i : Int), .int .i64 (K.at_ i : Int), .int .i64 (K.arg i), .int .i64 (K.cnt i), .int .i64 (K.lp i), .int .i64 (K.to_ i)] 121) rfl
  have hW := (h.out.alloc hK (Obj.cells #[Value.int .u8 (K.op i : Int), .int .i64 (K.at_ i : Int), .int .i64 (K.arg i), .int .i64 (K.cnt i), .int .i64 (K.lp i), .int .i64 (K.to_ i)] 121)).drew hK
  have hng : w.heap.size ≠ K.br := by omega
  generalize (w.alloc (Obj.cells #[Value.int .u8 (K.op i : Int), .int .i64 (K.at_ i : Int), .int .i64 (K.arg i), .int .i64 (K.cnt i), .int .i64 (K.lp i), .int .i64 (K.to_ i)] 121)).drew = W1 at h5 hW ⊢
  generalize w.heap.size = g5 at h5 hng ⊢
  clear x0 x1 x2 x3 x4 x5 c110 c115 hlt hbs h j0 j1
  obtain ⟨s0, s1, s2, s3, s4, s5, sf⟩ := six h5
  have l5 := (Array.getElem?_eq_some_iff.1 h5).1
  obtain ⟨sv1, rv1, hm1, _, _⟩ := hW.ex
  have c5 := hm1.c115
  rw [hnx] at c5
  have f5 := hm1.run.frozen 115
  have c6 := hm1.c116
  have f6 := hm1.run.frozen 116
  obtain ⟨r2, r3, r4⟩ := hm1.row hop
  have hlt1 := hm1.run.lt
  have jo : (K.op i : Int) < 22 := by omega
  have jo0 : (0 : Int) ≤ (K.op i : Int) := by omega
  replace hW := hd hW
  replace h5 := hd h5
  clear hm1
  go_wp2_with (fail)
  go_quiet (fail)
  go_wp2_with (fail)
  refine take_any hK (((hW.out.drewN hK _).setNx hK _).setDn hK _) _ (by unfold popsOf; (repeat' split) <;> omega) hp h32 _ ?_
  intro w2 hw2 ho2
  obtain ⟨F, cs, hfv, hcf, hdo⟩ := hF (K.op i) hop
  obtain ⟨sv2, rv2, hm2, _, _⟩ := hw2.ex
  obtain ⟨z2, z3, z4⟩ := hm2.row hop
  rw [hfv] at z4
  have hlt2 := hm2.run.lt
  obtain ⟨y0, y1, y2, y3, y4, y5, _⟩ := six (w := w2) (((ho2.block g5 (by simp; omega) hng).trans (by simp [World.setCell, Array.getElem?_modify, Ne.symm hng]; exact h5.out)))
  have l52 : g5 < w2.heap.size := by have := ho2.size; simp at this; omega
  have hin := hd (pop_in hw2.hS)
  have hinp := hd (pop_in (S := S) (fun x hx => hW.out.hS x hx) (popsOf (K.op i)))
  have hside2 := hd (show Side K i { q with nx := (i : Int) + 1 } from ⟨hside.cell, hside.cells, hside.opn, hside.nxt⟩)
  have hdi := hd (fun (a b : Int) (hb : in32 b) => doesK_in K i a b { q with nx := (i : Int) + 1 } hW.out.hC hb)
  replace hw2 := hd hw2
  replace hdo := hd hdo
  clear hm2 ho2 h5 s0 s1 s2 s3 s4 s5 sf c5 f5 c6 f6 r2 r3 r4 hW hside hF
  generalize hpa : popA (popsOf (K.op i)) S = pa at *
  generalize hpb : popB (popsOf (K.op i)) S = pb at *
  clear hpa hpb
  have hlen := hd (show (S.drop (popsOf (K.op i))).length ≤ 40 by simp; omega)
  generalize S.drop (popsOf (K.op i)) = S2 at *
  go_wp2_with (fail)
  go_region_with (refine hdo.out i (dn + 1) { q with nx := (i : Int) + 1 } S2 _ pa pb _ hi rfl (by first | exact hw2.out | exact hw2.out.drew hK) hinp.out.1 hinp.out.2 hside2.out ?_; intro w3 hw3)
  all_goals
    obtain ⟨sv3, rv3, hm3, hs3, hr3⟩ := hw3.ex
    obtain ⟨_, q3, _⟩ := hm3.row hop
    have d113 := hm3.c113
    have g113 := hm3.run.frozen 113
    have hlt3 := hm3.run.lt
    have hbsz3 := hm3.fr.size
    have hbr := hK.br
    have nb1 := hd (show some K.br ≠ sv3.ownBlock from fun e => by have := (hs3.lt K.br e.symm).1; omega)
    generalize hr : doesK K i pa pb { q with nx := (i : Int) + 1 } = r at *
    replace hm3 := hd hm3
    replace hs3 := hd hs3
    replace hr3 := hd hr3
    replace hw3 := hd hw3
    clear z2 z3 z4 y0 y1 y2 y3 y4 y5 hdo
    by_cases hpu : 0 < pushesOf (K.op i)
    · have dp : decide ((0 : Int) < (pushesOf (K.op i) : Nat)) = true := by simp; omega
      have ep : pushS (K.op i) r.2.1 S2 = r.2.1 :: S2 := by unfold pushS; rw [if_pos hpu]
      rw [ep] at fin
      go_wp2_with (first | (at_builtin; refine wpList_app _ rfl _ _ 113 rfl K.base 21 _ 1 4 ulI32 infoI32 rfl (by decide) _ _ _ rfl (by exact hs3.out.alloc _) _ 1 1 [.int .i32 r.2.1] rfl (by exact alloc_at rfl) rfl (oneI32 _) (by have := hlen.out; unfold maxLen; omega) (by have := hlen.out; omega) (by simp; omega) ?_; intro v4 w4 hown4 hgr4; obtain ⟨ao4, cp4, rfl⟩ := own_sl hown4; have d4 : w4.cell? ⟨K.br, 113, none⟩ = some sv3 := far_of hgr4 (by exact cell_al d113 _) nb1.out; have f4 : w4.frozen? ⟨K.br, 113, none⟩ = false := frz_of hgr4 (by exact frozen_al g113 hlt3 _) (by simp; omega) nb1.out; replace hown4 := hd hown4; replace hgr4 := hd hgr4))
      have hm4 := hm3.out.alloc hK (Obj.cells #[.int .i32 r.2.1] 21)
      have hg : Below K.base (w3.alloc (Obj.cells #[.int .i32 r.2.1] 21)) w4 := ⟨hgr4.out.os, hgr4.out.tape, hgr4.out.output, hgr4.out.size, fun k hk => hgr4.out.block k (by have := hm4.fr.size; omega) (fun e => by have := (hs3.out.lt k e.symm).1; omega)⟩
      have hr4 := (hr3.out.alloc (Obj.cells #[.int .i32 r.2.1] 21)).kept hgr4.out (own_two hs3.out hr3.out (by decide))
      have hL1 := hown4.out
      rw [← i32L_cons] at hL1
      refine cl1 (fin.out _ (RS.mk ⟨_, rv3, (hm4.below hK hg).setSv hK _, own_set hL1 hK.br _, own_set hr4 hK.br _⟩ hw3.out.hC (fun x hx => ?_))) rfl
      rcases List.mem_cons.1 hx with e | e
      · rw [e, ← hr]; exact hdi.out pa pb hinp.out.2
      · exact hw3.out.hS x e
    · have dp : decide ((0 : Int) < (pushesOf (K.op i) : Nat)) = false := by simp; omega
      have ep : pushS (K.op i) r.2.1 S2 = S2 := by unfold pushS; rw [if_neg hpu]
      rw [ep] at fin
      go_wp2
      exact cl1 (fin.out _ hw3.out) rfl

end Go.Proofs.YtidhiaaicmfabaaGreat
