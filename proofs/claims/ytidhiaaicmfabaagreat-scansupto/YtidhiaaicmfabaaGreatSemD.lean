/- What instructions do, in memory: timers, FOR and NEXT. -/
import Derived.Test.YtidhiaaicmfabaaGreatMem
import Derived.Test.YtidhiaaicmfabaaGreatSpec
import Derived.Test.YtidhiaaicmfabaaGreatRefA
import Derived.Test.YtidhiaaicmfabaaGreatRefC
import Derived.Test.YtidhiaaicmfabaaGreatSpec2
import Derived.WalkKit
import Derived.WalkSpells
import Derived.WalkLawsBesides
import Derived.Deep.OwnRows
import Derived.BigQuiet
import Derived.Handy
import Derived.Deep.Light
import Derived.Deep.RegionHeld3
import Derived.Deep.RegionWith
import Derived.Test.YtidhiaaicmfabaaGreatSemC
import Derived.Deep.AppendLies
import Derived.Deep.DrawnRows
import Derived.Deep.RegionLaw
namespace Go.Proofs.YtidhiaaicmfabaaGreat
open Go.RowKit Go.Proofs Go.Deep

theorem rs_setL {K : Rc} (hK : RcOk K) {sv : Value} {nx dn : Int} {ov : Bool} {C : Nat → Int} {w : World} {S : List Int} {c : Int} {r : List Int} {g cap : Nat} (hm : RM K sv (.slice (some ⟨g, 0, none⟩) (c :: r).length cap) nx dn ov C w)
    (hs : w.ownsRow K.base 21 1 sv S.length (i32L S)) (hr : w.ownsRow K.base 3 1 (.slice (some ⟨g, 0, none⟩) (c :: r).length cap) (c :: r).length (i64L (c :: r))) (x : Int) :
    RM K sv (.slice (some ⟨g, 0, none⟩) (c :: r).length cap) nx dn ov C (w.setCell ⟨g, r.length, none⟩ (.int .i64 x)) ∧ (w.setCell ⟨g, r.length, none⟩ (.int .i64 x)).ownsRow K.base 21 1 sv S.length (i32L S) ∧
    (w.setCell ⟨g, r.length, none⟩ (.int .i64 x)).ownsRow K.base 3 1 (.slice (some ⟨g, 0, none⟩) (c :: r).length cap) (c :: r).length (i64L (x :: r)) := by
  obtain ⟨h1, h2⟩ := hr.stored r.length (.int .i64 x)
  have hbg := (hr.lt g rfl).1
  have e : (i64L (c :: r)).set r.length (.int .i64 x) = i64L (x :: r) := by
    unfold i64L
    simp
  rw [e] at h1
  refine ⟨hm.below hK ((Below.refl _ _).setCell (p := ⟨g, r.length, none⟩) hbg _), hs.kept h2 ?_, h1⟩
  exact own_two hr hs (by decide)
set_option maxRecDepth 100000 in
theorem doTimer_any {K : Rc} (hK : RcOk K) {dn : Int} {q : Sc} {S : List Int} {w : World} (h : RS K dn q S w) (v0 v1 : Value) (arg cnt lp to_ a b : Int) (c : Nat) (hc : arg = (c : Int)) (hcn : c < K.nC) (R : Ending → World → Prop)
    (fin : ∀ w', RS K dn (if a = 0 then { q with C := upd q.C c 0 } else { q with C := upd q.C c (min (q.C c + K.delta) 2147483647) }) S w' → R (.returned (.tuple #[.int .i32 (if a = 0 then 0 else tr (decide (b ≤ min (q.C c + K.delta) 2147483647))), .int .i64 (0)])) w') :
    Calls Tryz.prog 88 #[.pointer (some ⟨K.br, 0, none⟩), .agg #[v0, v1, .int .i64 arg, .int .i64 cnt, .int .i64 lp, .int .i64 to_], .int .i32 a, .int .i32 b] w R := by
  obtain ⟨sv, rv, hm, hs, hr⟩ := h.ex
  have hlt := hm.run.lt
  replace fin := hd fin
  replace h := hd h
  have hCc := h.out.hC c
  unfold in32 at hCc
  have hdl := hK.dl
  have cd := hm.c112
  subst hc
  have c0 := hm.c111
  have k1 := hm.cel.cell hcn (f := 1) (by omega)
  rw [cellV_1] at k1
  have k2 := hm.cel.cell hcn (f := 2) (by omega)
  rw [cellV_2] at k2
  have kf := hm.cel.frozen (c * 3 + 2)
  have hlc := hm.cel.lt
  have nbc := hK.rc
  have j1 : (0 : Int) ≤ (c : Int) := by omega
  have j2 : (c : Int) < (K.nC : Int) := by omega
  clear hm hs hr
  by_cases h0 : a = 0
  · have t0 : (a == 0) = true := by simpa using h0
    rw [if_pos h0, if_pos h0] at fin
    go_enter Tryz.func88, Tryz.ntmps88
    go_wp2_with (fail)
    go_quiet (fail)
    go_wp2
    exact cl1 (fin.out _ (((h.out.alloc hK _).drewN hK _).setC hK c _ (by unfold in32; omega))) rfl
  · have t0 : (a == 0) = false := by simpa using h0
    rw [if_neg h0, if_neg h0] at fin
    have hw1 : IntKind.i64.wrap (q.C c) = q.C c := IntWalk.i64_in _ (by omega)
    have hw2 : IntKind.i64.wrap (q.C c + K.delta) = q.C c + K.delta := IntWalk.i64_in _ (by omega)
    by_cases hmx : q.C c + K.delta ≤ 2147483647
    · have em : min (q.C c + K.delta) 2147483647 = q.C c + K.delta := by omega
      have hw3 : IntKind.i32.wrap (q.C c + K.delta) = q.C c + K.delta := IntWalk.i32_in _ (by omega)
      rw [em] at fin
      replace em := hd em
      go_enter Tryz.func88, Tryz.ntmps88
      go_wp2_with (fail)
      go_quiet (fail)
      go_wp2_with (fail)
      go_region
      go_wp2_with (first | (go_at_call 77; refine truth_any _ _ _ ?_))
      all_goals exact cl1 (fin.out _ (((h.out.alloc hK _).drewN hK _).setC hK c _ (by unfold in32; omega))) rfl
    · have em : min (q.C c + K.delta) 2147483647 = 2147483647 := by omega
      have hmy : 2147483647 < q.C c + K.delta := by omega
      rw [em] at fin
      replace em := hd em
      go_enter Tryz.func88, Tryz.ntmps88
      go_wp2_with (fail)
      go_quiet (fail)
      go_wp2_with (fail)
      go_region
      go_wp2_with (first | (go_at_call 77; refine truth_any _ _ _ ?_))
      all_goals exact cl1 (fin.out _ (((h.out.alloc hK _).drewN hK _).setC hK c _ (by unfold in32; omega))) (by first | rfl | simp)
set_option maxRecDepth 100000 in
theorem doNext_any {K : Rc} (hK : RcOk K) {dn : Int} {q : Sc} {S : List Int} {w : World} (h : RS K dn q S w) (v0 v1 : Value) (arg cnt lp to_ a b : Int) (c : Int) (r : List Int) (hL : q.Lf = c :: r) (hc : 1 ≤ c ∧ c ≤ 65535) (hr10 : r.length ≤ 10) (hlp : -1 ≤ lp ∧ lp ≤ 8000) (R : Ending → World → Prop)
    (fin : ∀ w', RS K dn (if 0 < c - 1 then { q with Lf := (c - 1) :: r, nx := lp + 1 } else { q with Lf := r }) S w' → R (.returned (.tuple #[.int .i32 (0), .int .i64 (0)])) w') :
    Calls Tryz.prog 87 #[.pointer (some ⟨K.br, 0, none⟩), .agg #[v0, v1, .int .i64 arg, .int .i64 cnt, .int .i64 lp, .int .i64 to_], .int .i32 a, .int .i32 b] w R := by
  obtain ⟨sv, rv, hm, hs, hr⟩ := h.ex
  have hlt := hm.run.lt
  replace fin := hd fin
  replace h := hd h
  have c4 := hm.c114
  have f4 := hm.run.frozen 114
  have c5 := hm.c115
  have f5 := hm.run.frozen 115
  rw [hL] at hr
  obtain ⟨g, cap, rfl, hcap, hbg, hgl, hgf, hgc⟩ := own_one hr (by simp)
  have hg0 := hgc r.length (by simp)
  have e0 : (i64L (c :: r))[r.length]? = some (.int .i64 c) := by have := i64L_at (c :: r) 0 (by simp); simpa using this
  rw [e0] at hg0
  have hgf0 := hgf r.length
  have hneg : g ≠ K.br := by have := hK.br; omega
  have j1 : (r.length : Int) < (cap : Int) := by simp at hcap; omega
  replace hr := hd hr
  replace hs := hd hs
  replace hm := hd hm
  clear hgf hgc e0
  by_cases hp : 0 < c - 1
  · rw [if_pos hp] at fin
    go_enter Tryz.func87, Tryz.ntmps87
    go_wp2
    have h1 := rs_setL hK hm.out hs.out hr.out (c - 1)
    exact cl1 (fin.out _ (RS.alloc hK (q := { q with Lf := (c - 1) :: r, nx := lp + 1 }) ⟨⟨sv, _, h1.1.setNx hK _, own_set h1.2.1 hK.br _, own_set h1.2.2 hK.br _⟩, h.out.hC, h.out.hS⟩ _)) rfl
  · rw [if_neg hp] at fin
    go_enter Tryz.func87, Tryz.ntmps87
    go_wp2
    have h1 := rs_setL hK hm.out hs.out hr.out (c - 1)
    have h2 := own_take (m := r.length) h1.2.2 (by simp)
    have e2 : (i64L ((c - 1) :: r)).take r.length = i64L r := by have := i64L_take ((c - 1) :: r) 1 (by simp); simpa using this
    rw [e2] at h2
    exact cl1 (fin.out _ (RS.alloc hK (q := { q with Lf := r }) ⟨⟨sv, _, h1.1.setRv hK _, own_set h1.2.1 hK.br _, own_set h2 hK.br _⟩, h.out.hC, h.out.hS⟩ _)) rfl
theorem step_app {P : Program} {w : World} {ops : Array Oper} {o : Oper} {a : Act} {K : Act → World → Prop} {Q : Exit → Act → World → Prop} {E : Prop} (hgd : o.guard = none) (s x : Operand) (t : TypeId)
    (ho : o.op = .call { callee := .builtin .append, args := #[s, x], argTypes := #[t, t] })
    (base : Nat) (e : TypeId) (z : Value) (size bytes : Nat) (ht : P.underlying t = some (.slice e)) (hinfo : (P.info? e).map (fun i => (i.zero, i.size, i.bytes)) = some (some z, size, bytes)) (hzs : z.cells.size = size) (hsz : 0 < size)
    (v : Value) (n : Nat) (xs : List Value) (hs : a.eval s = v) (hown : w.ownsRow base e size v n xs)
    (g m c : Nat) (news : List Value) (hx : a.eval x = .slice (some ⟨g, 0, none⟩) m c) (hg : w.heap[g]? = some (.cells news.toArray e)) (hl : news.length = m * size) (h1 : ∀ u ∈ news, u.oneCell' = true)
    (hm : 0 < m) (h63 : n + m ≤ maxLen) (hbytes : (n + m) * bytes ≤ 140737488355328) (hbase : base ≤ w.heap.size)
    (h : ∀ g' cap w', w'.ownsRow base e size (.slice (some ⟨g', 0, none⟩) (n + m) cap) (n + m) (xs ++ news) → w.grownBy w' v.ownBlock → K (a.put o.dst (.slice (some ⟨g', 0, none⟩) (n + m) cap)) w') :
    if Region.wanted o (yielded ops a.tmps) = true then Oper.wp P o a w K Q else E := by
  obtain ⟨i, hi, hzz⟩ := Option.map_eq_some_iff.1 hinfo
  simp only [Prod.mk.injEq] at hzz
  obtain ⟨hz, hs1, hb1⟩ := hzz
  refine step_append_lies _ hgd s x t ho base e i z size bytes ht hi hz hs1 hb1 hzs hsz v n xs hs hown ⟨g, 0, none⟩ m c news hx hl ?_ h1 hm h63 hbytes hbase w.heap.size rfl (fun g' cap w' a1 a2 _ _ => h g' cap w' a1 a2)
  intro j u hu
  have hadd : (⟨g, 0, none⟩ : Addr).add j = ⟨g, j, none⟩ := by unfold Addr.add; split <;> simp_all
  rw [hadd, cell_of_row _ g j news.toArray e (0, 0) hg]
  simpa using hu
theorem infoI64 : (Tryz.prog.info? 3).map (fun i => (i.zero, i.size, i.bytes)) = some (some (.int .i64 0), 1, 8) := by kernel_rfl
theorem infoI32 : (Tryz.prog.info? 21).map (fun i => (i.zero, i.size, i.bytes)) = some (some (.int .i32 0), 1, 4) := by kernel_rfl
theorem ulInt : Tryz.prog.underlying 42 = some (.slice 3) := by kernel_rfl
theorem ulI32 : Tryz.prog.underlying 113 = some (.slice 21) := by kernel_rfl
theorem oneI64 (a : Int) : ∀ u ∈ [Value.int .i64 a], u.oneCell' = true := by
  intro u hu; simp only [List.mem_cons, List.not_mem_nil, or_false] at hu; subst hu; rfl
theorem oneI32 (a : Int) : ∀ u ∈ [Value.int .i32 a], u.oneCell' = true := by
  intro u hu; simp only [List.mem_cons, List.not_mem_nil, or_false] at hu; subst hu; rfl
theorem i64L_cons (x : Int) (l : List Int) : i64L (x :: l) = i64L l ++ [.int .i64 x] := by simp [i64L]
theorem i32L_cons (x : Int) (l : List Int) : i32L (x :: l) = i32L l ++ [.int .i32 x] := by simp [i32L]
theorem far_of {w w' : World} {v : Value} {a : Addr} {u : Value} (hg : w.grownBy w' v.ownBlock) (h : w.cell? a = some u) (hne : some a.block ≠ v.ownBlock) : w'.cell? a = some u := by
  rw [World.cell?_of_block (hg.block a.block (World.block_lt_of_cell? w a h) hne)]; exact h
theorem frz_of {w w' : World} {v : Value} {a : Addr} (hg : w.grownBy w' v.ownBlock) (h : w.frozen? a = false) (hl : a.block < w.heap.size) (hne : some a.block ≠ v.ownBlock) : w'.frozen? a = false := by
  rw [World.frozen?_of_block (hg.block a.block hl hne)]; exact h
theorem new_at {w : World} {o : Obj} {g : Nat} (h : g = w.heap.size) : (w.alloc o).drew.heap[g]? = some o := by subst h; exact heap_alloc_new w o
set_option maxRecDepth 100000 in
theorem doFor_any {K : Rc} (hK : RcOk K) {dn : Int} {q : Sc} {S : List Int} {w : World} (h : RS K dn q S w) (v0 v1 : Value) (arg cnt lp to_ a b : Int) (hL : q.Lf.length ≤ 10) (R : Ending → World → Prop)
    (fin : ∀ w', RS K dn { q with Lf := arg :: q.Lf } S w' → R (.returned (.tuple #[.int .i32 (0), .int .i64 (0)])) w') :
    Calls Tryz.prog 86 #[.pointer (some ⟨K.br, 0, none⟩), .agg #[v0, v1, .int .i64 arg, .int .i64 cnt, .int .i64 lp, .int .i64 to_], .int .i32 a, .int .i32 b] w R := by
  obtain ⟨sv, rv, hm, hs, hr⟩ := h.ex
  have hlt := hm.run.lt
  replace fin := hd fin
  replace h := hd h
  have c4 := hm.c114
  have f4 := hm.run.frozen 114
  have hbr := hK.br
  have hbsz := hm.fr.size
  have nb1 : some K.br ≠ rv.ownBlock := fun e => by have := (hr.lt K.br e.symm).1; omega
  have nb2 : some w.heap.size ≠ rv.ownBlock := fun e => by have := (hr.lt w.heap.size e.symm).2; omega
  obtain ⟨ao, cp, rfl⟩ := own_sl hr
  have s2 := hd (show (w.alloc (Obj.cells #[v0, v1, .int .i64 arg, .int .i64 cnt, .int .i64 lp, .int .i64 to_] 121)).cell? ⟨w.heap.size, 2, none⟩ = some (.int .i64 arg) from (cell_of_row _ _ 2 _ _ (0, 0) (heap_alloc_new w _)).trans rfl)
  replace nb1 := hd nb1
  replace nb2 := hd nb2
  replace hr := hd hr
  replace hs := hd hs
  replace hm := hd hm
  go_enter Tryz.func86, Tryz.ntmps86
  go_wp2_with (fail)
  go_region_law
    ((refine step_app (by rfl) _ _ 42 (by rfl) K.base 3 _ 1 8 ulInt infoI64 rfl (by omega) _ q.Lf.length (i64L q.Lf) (by rfl) (by exact ((hr.out.alloc _).alloc _).drew) (w.heap.size + 1) 1 1 [.int .i64 arg] (by rfl) (by exact new_at (by simp)) rfl (oneI64 arg) (by omega) (by unfold maxLen; omega) (by omega) (by simp; omega) ?_; intro g1 cap1 w1 hown1 hgr1; have cx : w1.cell? ⟨K.br, 114, none⟩ = some (.slice ao q.Lf.length cp) := far_of hgr1 (by exact cell_al (cell_al c4 _) _) nb1.out; have fx : w1.frozen? ⟨K.br, 114, none⟩ = false := frz_of hgr1 (by exact frozen_al (frozen_al f4 hlt _) (by simp; omega) _) (by simp; omega) nb1.out; replace hown1 := hd hown1; replace hgr1 := hd hgr1))
  all_goals
    go_wp2
    have hm1 := ((hm.out.alloc hK (Obj.cells #[v0, v1, .int .i64 arg, .int .i64 cnt, .int .i64 lp, .int .i64 to_] 121)).alloc hK (Obj.cells #[.int .i64 arg] 3)).drew hK
    have hg : Below K.base ((w.alloc (Obj.cells #[v0, v1, .int .i64 arg, .int .i64 cnt, .int .i64 lp, .int .i64 to_] 121)).alloc (Obj.cells #[.int .i64 arg] 3)).drew w1 := ⟨hgr1.out.os, hgr1.out.tape, hgr1.out.output, hgr1.out.size, fun k hk => hgr1.out.block k (by have := hm1.fr.size; omega) (fun e => by have := (hr.out.lt k e.symm).1; omega)⟩
    have hs1 := (((hs.out.alloc (Obj.cells #[v0, v1, .int .i64 arg, .int .i64 cnt, .int .i64 lp, .int .i64 to_] 121)).alloc (Obj.cells #[.int .i64 arg] 3)).drew).kept hgr1.out (own_two hr.out hs.out (by decide))
    have hL1 := hown1.out
    rw [← i64L_cons] at hL1
    exact cl1 (fin.out _ (RS.mk (q := { q with Lf := arg :: q.Lf }) ⟨sv, _, (hm1.below hK hg).setRv hK _, own_set hs1 hK.br _, own_set hL1 hK.br _⟩ h.out.hC h.out.hS)) rfl

end Go.Proofs.YtidhiaaicmfabaaGreat
