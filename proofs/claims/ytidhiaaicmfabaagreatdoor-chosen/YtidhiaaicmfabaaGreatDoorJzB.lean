/- Instructions; one step. -/
import Derived.Test.YtidhiaaicmfabaaGreatDoorKaA
import Derived.Test.YtidhiaaicmfabaaGreatDoorKaB
import Derived.WalkKit
import Derived.WalkSpells
import Derived.WalkLawsBesides
import Derived.Deep.OwnRows
import Derived.BigQuiet
import Derived.Handy
import Derived.Deep.Light
import Derived.Deep.RegionHeld3
import Derived.Deep.RegionWith
import Derived.Test.YtidhiaaicmfabaaGreatDoorJzA
import Derived.Deep.AppendLies
import Derived.Deep.DrawnRows
import Derived.Deep.RegionLaw

/- What instructions do, in memory: timers, FOR and NEXT. -/
namespace Go.Proofs.YtidhiaaicmfabaaGreatDoor
open Go.RowKit Go.Proofs Go.Deep

theorem rs_setL {K : Rc} (hK : RcOk K) {sv : Value} {nx dn : Int} {ov : Bool} {C : Nat → Int} {w : World} {S : List Int} {c : Int} {r : List Int} {g cap : Nat} (hm : RM K sv (.slice (some ⟨g, 0, none⟩) (c :: r).length cap) nx dn ov C w)
    (hs : w.ownsRow K.base 21 1 sv S.length (i32L S)) (hr : w.ownsRow K.base 3 1 (.slice (some ⟨g, 0, none⟩) (c :: r).length cap) (c :: r).length (i64L (c :: r))) (x : Int) :
    RM K sv (.slice (some ⟨g, 0, none⟩) (c :: r).length cap) nx dn ov C (w.setCell ⟨g, r.length, none⟩ (.int .i64 x)) ∧ (w.setCell ⟨g, r.length, none⟩ (.int .i64 x)).ownsRow K.base 21 1 sv S.length (i32L S) ∧
    (w.setCell ⟨g, r.length, none⟩ (.int .i64 x)).ownsRow K.base 3 1 (.slice (some ⟨g, 0, none⟩) (c :: r).length cap) (c :: r).length (i64L (x :: r)) := by
  obtain ⟨h1, h2⟩ := hr.stored r.length (.int .i64 x)
  have hbg := (hr.lt g rfl).1
  have e : (i64L (c :: r)).set r.length (.int .i64 x) = i64L (x :: r) := by
    unfold i64L
    simp
  rw [e] at h1
  refine ⟨hm.below hK ((Below.refl _ _).setCell (p := ⟨g, r.length, none⟩) hbg _), hs.kept h2 ?_, h1⟩
  exact own_two hr hs (by decide)
set_option maxRecDepth 100000 in
theorem doTimer_any {K : Rc} (hK : RcOk K) {dn : Int} {q : Sc} {S : List Int} {w : World} (h : RS K dn q S w) (v0 v1 : Value) (arg cnt lp to_ a b : Int) (c : Nat) (hc : arg = (c : Int)) (hcn : c < K.nC) (R : Ending → World → Prop)
    (fin : ∀ w', RS K dn (if a = 0 then { q with C := upd q.C c 0 } else { q with C := upd q.C c (min (q.C c + K.delta) 2147483647) }) S w' → R (.returned (.tuple #[.int .i32 (if a = 0 then 0 else tr (decide (b ≤ min (q.C c + K.delta) 2147483647))), .int .i64 (0)])) w') :
    Calls Tryz.prog 181 #[.pointer (some ⟨K.br, 0, none⟩), .agg #[v0, v1, .int .i64 arg, .int .i64 cnt, .int .i64 lp, .int .i64 to_], .int .i32 a, .int .i32 b] w R := by
  obtain ⟨sv, rv, hm, hs, hr⟩ := h.ex
  have hlt := hm.run.lt
  replace fin := hd fin
  replace h := hd h
  have hCc := h.out.hC c
  unfold in32 at hCc
  have hdl := hK.dl
  have cd := hm.c112
  subst hc
  have c0 := hm.c111
  have k1 := hm.cel.cell hcn (f := 1) (by omega)
  rw [cellV_1] at k1
  have k2 := hm.cel.cell hcn (f := 2) (by omega)
  rw [cellV_2] at k2
  have kf := hm.cel.frozen (c * 3 + 2)
  have hlc := hm.cel.lt
  have nbc := hK.rc
  have j1 : (0 : Int) ≤ (c : Int) := by omega
  have j2 : (c : Int) < (K.nC : Int) := by omega
  clear hm hs hr
  by_cases h0 : a = 0
  · have t0 : (a == 0) = true := by simpa using h0
    rw [if_pos h0, if_pos h0] at fin
    go_enter Tryz.func181, Tryz.ntmps181
    go_wp2_with (fail)
    go_quiet (fail)
    go_wp2
    exact cl1 (fin.out _ (((h.out.alloc hK _).drewN hK _).setC hK c _ (by unfold in32; omega))) rfl
  · have t0 : (a == 0) = false := by simpa using h0
    rw [if_neg h0, if_neg h0] at fin
    have hw1 : IntKind.i64.wrap (q.C c) = q.C c := IntWalk.i64_in _ (by omega)
    have hw2 : IntKind.i64.wrap (q.C c + K.delta) = q.C c + K.delta := IntWalk.i64_in _ (by omega)
    by_cases hmx : q.C c + K.delta ≤ 2147483647
    · have em : min (q.C c + K.delta) 2147483647 = q.C c + K.delta := by omega
      have hw3 : IntKind.i32.wrap (q.C c + K.delta) = q.C c + K.delta := IntWalk.i32_in _ (by omega)
      rw [em] at fin
      replace em := hd em
      go_enter Tryz.func181, Tryz.ntmps181
      go_wp2_with (fail)
      go_quiet (fail)
      go_wp2_with (fail)
      go_region
      go_wp2_with (first | (go_at_call 170; refine truth_any _ _ _ ?_))
      all_goals exact cl1 (fin.out _ (((h.out.alloc hK _).drewN hK _).setC hK c _ (by unfold in32; omega))) rfl
    · have em : min (q.C c + K.delta) 2147483647 = 2147483647 := by omega
      have hmy : 2147483647 < q.C c + K.delta := by omega
      rw [em] at fin
      replace em := hd em
      go_enter Tryz.func181, Tryz.ntmps181
      go_wp2_with (fail)
      go_quiet (fail)
      go_wp2_with (fail)
      go_region
      go_wp2_with (first | (go_at_call 170; refine truth_any _ _ _ ?_))
      all_goals exact cl1 (fin.out _ (((h.out.alloc hK _).drewN hK _).setC hK c _ (by unfold in32; omega))) (by first | rfl | simp)
set_option maxRecDepth 100000 in
theorem doNext_any {K : Rc} (hK : RcOk K) {dn : Int} {q : Sc} {S : List Int} {w : World} (h : RS K dn q S w) (v0 v1 : Value) (arg cnt lp to_ a b : Int) (c : Int) (r : List Int) (hL : q.Lf = c :: r) (hc : 1 ≤ c ∧ c ≤ 65535) (hr10 : r.length ≤ 10) (hlp : -1 ≤ lp ∧ lp ≤ 8000) (R : Ending → World → Prop)
    (fin : ∀ w', RS K dn (if 0 < c - 1 then { q with Lf := (c - 1) :: r, nx := lp + 1 } else { q with Lf := r }) S w' → R (.returned (.tuple #[.int .i32 (0), .int .i64 (0)])) w') :
    Calls Tryz.prog 180 #[.pointer (some ⟨K.br, 0, none⟩), .agg #[v0, v1, .int .i64 arg, .int .i64 cnt, .int .i64 lp, .int .i64 to_], .int .i32 a, .int .i32 b] w R := by
  obtain ⟨sv, rv, hm, hs, hr⟩ := h.ex
  have hlt := hm.run.lt
  replace fin := hd fin
  replace h := hd h
  have c4 := hm.c114
  have f4 := hm.run.frozen 114
  have c5 := hm.c115
  have f5 := hm.run.frozen 115
  rw [hL] at hr
  obtain ⟨g, cap, rfl, hcap, hbg, hgl, hgf, hgc⟩ := own_one hr (by simp)
  have hg0 := hgc r.length (by simp)
  have e0 : (i64L (c :: r))[r.length]? = some (.int .i64 c) := by have := i64L_at (c :: r) 0 (by simp); simpa using this
  rw [e0] at hg0
  have hgf0 := hgf r.length
  have hneg : g ≠ K.br := by have := hK.br; omega
  have j1 : (r.length : Int) < (cap : Int) := by simp at hcap; omega
  replace hr := hd hr
  replace hs := hd hs
  replace hm := hd hm
  clear hgf hgc e0
  by_cases hp : 0 < c - 1
  · rw [if_pos hp] at fin
    go_enter Tryz.func180, Tryz.ntmps180
    go_wp2
    have h1 := rs_setL hK hm.out hs.out hr.out (c - 1)
    exact cl1 (fin.out _ (RS.alloc hK (q := { q with Lf := (c - 1) :: r, nx := lp + 1 }) ⟨⟨sv, _, h1.1.setNx hK _, own_set h1.2.1 hK.br _, own_set h1.2.2 hK.br _⟩, h.out.hC, h.out.hS⟩ _)) rfl
  · rw [if_neg hp] at fin
    go_enter Tryz.func180, Tryz.ntmps180
    go_wp2
    have h1 := rs_setL hK hm.out hs.out hr.out (c - 1)
    have h2 := own_take (m := r.length) h1.2.2 (by simp)
    have e2 : (i64L ((c - 1) :: r)).take r.length = i64L r := by have := i64L_take ((c - 1) :: r) 1 (by simp); simpa using this
    rw [e2] at h2
    exact cl1 (fin.out _ (RS.alloc hK (q := { q with Lf := r }) ⟨⟨sv, _, h1.1.setRv hK _, own_set h1.2.1 hK.br _, own_set h2 hK.br _⟩, h.out.hC, h.out.hS⟩ _)) rfl
theorem step_app {P : Program} {w : World} {ops : Array Oper} {o : Oper} {a : Act} {K : Act → World → Prop} {Q : Exit → Act → World → Prop} {E : Prop} (hgd : o.guard = none) (s x : Operand) (t : TypeId)
    (ho : o.op = .call { callee := .builtin .append, args := #[s, x], argTypes := #[t, t] })
    (base : Nat) (e : TypeId) (z : Value) (size bytes : Nat) (ht : P.underlying t = some (.slice e)) (hinfo : (P.info? e).map (fun i => (i.zero, i.size, i.bytes)) = some (some z, size, bytes)) (hzs : z.cells.size = size) (hsz : 0 < size)
    (v : Value) (n : Nat) (xs : List Value) (hs : a.eval s = v) (hown : w.ownsRow base e size v n xs)
    (g m c : Nat) (news : List Value) (hx : a.eval x = .slice (some ⟨g, 0, none⟩) m c) (hg : w.heap[g]? = some (.cells news.toArray e)) (hl : news.length = m * size) (h1 : ∀ u ∈ news, u.oneCell' = true)
    (hm : 0 < m) (h63 : n + m ≤ maxLen) (hbytes : (n + m) * bytes ≤ 140737488355328) (hbase : base ≤ w.heap.size)
    (h : ∀ g' cap w', w'.ownsRow base e size (.slice (some ⟨g', 0, none⟩) (n + m) cap) (n + m) (xs ++ news) → w.grownBy w' v.ownBlock → K (a.put o.dst (.slice (some ⟨g', 0, none⟩) (n + m) cap)) w') :
    if Region.wanted o (yielded ops a.tmps) = true then Oper.wp P o a w K Q else E := by
  obtain ⟨i, hi, hzz⟩ := Option.map_eq_some_iff.1 hinfo
  simp only [Prod.mk.injEq] at hzz
  obtain ⟨hz, hs1, hb1⟩ := hzz
  refine step_append_lies _ hgd s x t ho base e i z size bytes ht hi hz hs1 hb1 hzs hsz v n xs hs hown ⟨g, 0, none⟩ m c news hx hl ?_ h1 hm h63 hbytes hbase w.heap.size rfl (fun g' cap w' a1 a2 _ _ => h g' cap w' a1 a2)
  intro j u hu
  have hadd : (⟨g, 0, none⟩ : Addr).add j = ⟨g, j, none⟩ := by unfold Addr.add; split <;> simp_all
  rw [hadd, cell_of_row _ g j news.toArray e (0, 0) hg]
  simpa using hu
theorem infoI64 : (Tryz.prog.info? 3).map (fun i => (i.zero, i.size, i.bytes)) = some (some (.int .i64 0), 1, 8) := by kernel_rfl
theorem infoI32 : (Tryz.prog.info? 21).map (fun i => (i.zero, i.size, i.bytes)) = some (some (.int .i32 0), 1, 4) := by kernel_rfl
theorem ulInt : Tryz.prog.underlying 38 = some (.slice 3) := by kernel_rfl
theorem ulI32 : Tryz.prog.underlying 226 = some (.slice 21) := by kernel_rfl
theorem oneI64 (a : Int) : ∀ u ∈ [Value.int .i64 a], u.oneCell' = true := by
  intro u hu; simp only [List.mem_cons, List.not_mem_nil, or_false] at hu; subst hu; rfl
theorem oneI32 (a : Int) : ∀ u ∈ [Value.int .i32 a], u.oneCell' = true := by
  intro u hu; simp only [List.mem_cons, List.not_mem_nil, or_false] at hu; subst hu; rfl
theorem i64L_cons (x : Int) (l : List Int) : i64L (x :: l) = i64L l ++ [.int .i64 x] := by simp [i64L]
theorem i32L_cons (x : Int) (l : List Int) : i32L (x :: l) = i32L l ++ [.int .i32 x] := by simp [i32L]
theorem far_of {w w' : World} {v : Value} {a : Addr} {u : Value} (hg : w.grownBy w' v.ownBlock) (h : w.cell? a = some u) (hne : some a.block ≠ v.ownBlock) : w'.cell? a = some u := by
  rw [World.cell?_of_block (hg.block a.block (World.block_lt_of_cell? w a h) hne)]; exact h
theorem frz_of {w w' : World} {v : Value} {a : Addr} (hg : w.grownBy w' v.ownBlock) (h : w.frozen? a = false) (hl : a.block < w.heap.size) (hne : some a.block ≠ v.ownBlock) : w'.frozen? a = false := by
  rw [World.frozen?_of_block (hg.block a.block hl hne)]; exact h
theorem new_at {w : World} {o : Obj} {g : Nat} (h : g = w.heap.size) : (w.alloc o).drew.heap[g]? = some o := by subst h; exact heap_alloc_new w o
set_option maxRecDepth 100000 in
theorem doFor_any {K : Rc} (hK : RcOk K) {dn : Int} {q : Sc} {S : List Int} {w : World} (h : RS K dn q S w) (v0 v1 : Value) (arg cnt lp to_ a b : Int) (hL : q.Lf.length ≤ 10) (R : Ending → World → Prop)
    (fin : ∀ w', RS K dn { q with Lf := arg :: q.Lf } S w' → R (.returned (.tuple #[.int .i32 (0), .int .i64 (0)])) w') :
    Calls Tryz.prog 179 #[.pointer (some ⟨K.br, 0, none⟩), .agg #[v0, v1, .int .i64 arg, .int .i64 cnt, .int .i64 lp, .int .i64 to_], .int .i32 a, .int .i32 b] w R := by
  obtain ⟨sv, rv, hm, hs, hr⟩ := h.ex
  have hlt := hm.run.lt
  replace fin := hd fin
  replace h := hd h
  have c4 := hm.c114
  have f4 := hm.run.frozen 114
  have hbr := hK.br
  have hbsz := hm.fr.size
  have nb1 : some K.br ≠ rv.ownBlock := fun e => by have := (hr.lt K.br e.symm).1; omega
  have nb2 : some w.heap.size ≠ rv.ownBlock := fun e => by have := (hr.lt w.heap.size e.symm).2; omega
  obtain ⟨ao, cp, rfl⟩ := own_sl hr
  have s2 := hd (show (w.alloc (Obj.cells #[v0, v1, .int .i64 arg, .int .i64 cnt, .int .i64 lp, .int .i64 to_] 254)).cell? ⟨w.heap.size, 2, none⟩ = some (.int .i64 arg) from (cell_of_row _ _ 2 _ _ (0, 0) (heap_alloc_new w _)).trans rfl)
  replace nb1 := hd nb1
  replace nb2 := hd nb2
  replace hr := hd hr
  replace hs := hd hs
  replace hm := hd hm
  go_enter Tryz.func179, Tryz.ntmps179
  go_wp2_with (fail)
  go_region_law
    ((refine step_app (by rfl) _ _ 38 (by rfl) K.base 3 _ 1 8 ulInt infoI64 rfl (by omega) _ q.Lf.length (i64L q.Lf) (by rfl) (by exact ((hr.out.alloc _).alloc _).drew) (w.heap.size + 1) 1 1 [.int .i64 arg] (by rfl) (by exact new_at (by simp)) rfl (oneI64 arg) (by omega) (by unfold maxLen; omega) (by omega) (by simp; omega) ?_; intro g1 cap1 w1 hown1 hgr1; have cx : w1.cell? ⟨K.br, 114, none⟩ = some (.slice ao q.Lf.length cp) := far_of hgr1 (by exact cell_al (cell_al c4 _) _) nb1.out; have fx : w1.frozen? ⟨K.br, 114, none⟩ = false := frz_of hgr1 (by exact frozen_al (frozen_al f4 hlt _) (by simp; omega) _) (by simp; omega) nb1.out; replace hown1 := hd hown1; replace hgr1 := hd hgr1))
  all_goals
    go_wp2
    have hm1 := ((hm.out.alloc hK (Obj.cells #[v0, v1, .int .i64 arg, .int .i64 cnt, .int .i64 lp, .int .i64 to_] 254)).alloc hK (Obj.cells #[.int .i64 arg] 3)).drew hK
    have hg : Below K.base ((w.alloc (Obj.cells #[v0, v1, .int .i64 arg, .int .i64 cnt, .int .i64 lp, .int .i64 to_] 254)).alloc (Obj.cells #[.int .i64 arg] 3)).drew w1 := ⟨hgr1.out.os, hgr1.out.tape, hgr1.out.output, hgr1.out.size, fun k hk => hgr1.out.block k (by have := hm1.fr.size; omega) (fun e => by have := (hr.out.lt k e.symm).1; omega)⟩
    have hs1 := (((hs.out.alloc (Obj.cells #[v0, v1, .int .i64 arg, .int .i64 cnt, .int .i64 lp, .int .i64 to_] 254)).alloc (Obj.cells #[.int .i64 arg] 3)).drew).kept hgr1.out (own_two hr.out hs.out (by decide))
    have hL1 := hown1.out
    rw [← i64L_cons] at hL1
    exact cl1 (fin.out _ (RS.mk (q := { q with Lf := arg :: q.Lf }) ⟨sv, _, (hm1.below hK hg).setRv hK _, own_set hs1 hK.br _, own_set hL1 hK.br _⟩ h.out.hC h.out.hS)) rfl

end Go.Proofs.YtidhiaaicmfabaaGreatDoor

/- What is popped; what the functions of the table are to do. -/
namespace Go.Proofs.YtidhiaaicmfabaaGreatDoor
open Go.RowKit Go.Proofs Go.Deep

def popA (p : Nat) (S : List Int) : Int := if p = 1 then S.getD 0 0 else if p = 2 then S.getD 1 0 else 0
def popB (p : Nat) (S : List Int) : Int := if p = 2 then S.getD 0 0 else 0
theorem RS.setS {K : Rc} (hK : RcOk K) {dn : Int} {q : Sc} {S : List Int} {w : World} (h : RS K dn q S w) {p : Nat} (hp : p ≤ S.length) {sv rv : Value} (hm : RM K sv rv q.nx dn q.ov q.C w) (hs : w.ownsRow K.base 21 1 sv S.length (i32L S)) (hr : w.ownsRow K.base 3 1 rv q.Lf.length (i64L q.Lf))
    {ao : Option Addr} {cap : Nat} (hv : sv = .slice ao S.length cap) : RS K dn q (S.drop p) (w.setCell ⟨K.br, 113, none⟩ (.slice ao (S.length - p) cap)) := by
  subst hv
  have h2 := own_take (m := S.length - p) hs (by omega)
  rw [i32L_take S p hp] at h2
  have e : S.length - p = (S.drop p).length := by simp
  refine ⟨⟨_, rv, hm.setSv hK _, ?_, own_set hr hK.br _⟩, h.hC, fun x hx => h.hS x (List.mem_of_mem_drop hx)⟩
  rw [← e]
  exact own_set h2 hK.br _
set_option maxRecDepth 100000 in
theorem take_any {K : Rc} (hK : RcOk K) {dn : Int} {q : Sc} {S : List Int} {w : World} (h : RS K dn q S w) (p : Nat) (hp2 : p ≤ 2) (hp : p ≤ S.length) (h32 : S.length ≤ 40) (R : Ending → World → Prop)
    (fin : ∀ w', RS K dn q (S.drop p) w' → Only K.br w w' → R (.returned (.tuple #[.int .i32 (popA p S), .int .i32 (popB p S)])) w') :
    Calls Tryz.prog 218 #[.pointer (some ⟨K.br, 0, none⟩), .int .i64 (p : Int)] w R := by
  obtain ⟨sv, rv, hm, hs, hr⟩ := h.ex
  have hlt := hm.run.lt
  have c3 := hm.c113
  have f3 := hm.run.frozen 113
  replace fin := hd fin
  by_cases h0 : p = 0
  · subst h0
    obtain ⟨ao, cap, rfl⟩ := own_sl hs
    have h1 := hd (h.setS hK hp hm hs hr rfl)
    have hc : S.length ≤ cap := by
      rcases hs.2 with ⟨e, _⟩ | ⟨g, cap', cur, e, _, _, hc, _⟩
      · injection e; omega
      · injection e; omega
    have hao : 0 < S.length → ∃ g, ao = some ⟨g, 0, none⟩ := fun h0 => by obtain ⟨g, c, e, _⟩ := own_one hs h0; injection e with e; exact ⟨g, e⟩
    clear hm hs hr
    go_enter Tryz.func218, Tryz.ntmps218
    go_wp2
    exact cl1 (fin.out _ h1.out ((Only.refl _ _).setCell (a := ⟨K.br, 113, none⟩) (.inl rfl) _)) rfl
  · obtain ⟨g, cap, rfl, hc, hbg, hgl, hgf, hgc⟩ := own_one hs (by omega)
    have h1 := h.setS hK hp hm hs hr rfl
    by_cases hp1 : p = 1
    · subst hp1
      obtain ⟨m, hlen⟩ : ∃ m, S.length = m + 1 := ⟨S.length - 1, by omega⟩
      have g0 := hgc m (by omega)
      have e0 := i32L_at S 0 (by omega)
      rw [show S.length - 1 - 0 = m by omega] at e0
      rw [e0] at g0
      rw [hlen] at c3 h1 hc
      replace h1 := hd h1
      clear hm hs hr h hgc hgf e0
      rw [show popA 1 S = S.getD 0 0 from rfl, show popB 1 S = 0 from rfl] at fin
      generalize S.getD 0 0 = x0 at g0 fin
      go_enter Tryz.func218, Tryz.ntmps218
      go_wp2
      exact cl1 (fin.out _ h1.out ((Only.refl _ _).setCell (a := ⟨K.br, 113, none⟩) (.inl rfl) _)) rfl
    · have hp2' : p = 2 := by omega
      subst hp2'
      obtain ⟨m, hlen⟩ : ∃ m, S.length = m + 2 := ⟨S.length - 2, by omega⟩
      have g0 := hgc (m + 1) (by omega)
      have e0 := i32L_at S 0 (by omega)
      rw [show S.length - 1 - 0 = m + 1 by omega] at e0
      rw [e0] at g0
      have g1 := hgc m (by omega)
      have e1 := i32L_at S 1 (by omega)
      rw [show S.length - 1 - 1 = m by omega] at e1
      rw [e1] at g1
      rw [hlen] at c3 h1 hc
      have h2 := hd (h1.drewN hK)
      replace h1 := hd h1
      have j0 : (0 : Int) ≤ (m : Int) := by omega
      have j1 : 0 ≤ (m : Int) + 1 ∧ (m : Int) + 1 < (m : Int) + 2 := by omega
      have j2 : (m : Int) < (m : Int) + 2 := by omega
      have hwm : IntKind.i64.wrap ((m : Int) + 1) = (m : Int) + 1 := IntWalk.i64_in _ (by omega)
      clear hm hs hr h hgc hgf e0 e1
      rw [show popA 2 S = S.getD 1 0 from rfl, show popB 2 S = S.getD 0 0 from rfl] at fin
      generalize S.getD 0 0 = x0 at g0 fin
      generalize S.getD 1 0 = x1 at g1 fin
      go_enter Tryz.func218, Tryz.ntmps218
      go_wp2
      go_quiet (fail)
      go_wp2
      exact cl1 (fin.out _ (h2.out _) (((Only.refl _ _).drewN _).setCell (a := ⟨K.br, 113, none⟩) (.inl rfl) _)) rfl

/-- What must hold of a step that is to be done. -/
structure Side (K : Rc) (i : Nat) (q : Sc) : Prop where
  cell : (K.op i = 2 ∨ K.op i = 3 ∨ K.op i = 21) → ∃ c : Nat, K.arg i = (c : Int) ∧ c < K.nC
  cells : (K.op i = 4 ∨ K.op i = 5) → ∃ c n : Nat, K.arg i = (c : Int) ∧ K.cnt i = (n : Int) ∧ c + n ≤ K.nC
  opn : K.op i = 19 → q.Lf.length ≤ 10
  nxt : K.op i = 20 → ∃ c r, q.Lf = c :: r ∧ 1 ≤ c ∧ c ≤ 65535 ∧ r.length ≤ 10 ∧ -1 ≤ K.lp i ∧ K.lp i ≤ 8000
def doesK (K : Rc) (i : Nat) (a b : Int) (q : Sc) : Sc × Int × Int := doesV (K.op i) (K.arg i) (K.cnt i) (K.lp i) (K.to_ i) K.kd K.delta a b q
theorem in_ite {c : Prop} [Decidable c] {A B : Sc × Int × Int} (ha : c → in32 A.2.1) (hb : ¬ c → in32 B.2.1) : in32 (if c then A else B).2.1 := by
  split
  · exact ha (by assumption)
  · exact hb (by assumption)
theorem doesK_in (K : Rc) (i : Nat) (a b : Int) (q : Sc) (hC : ∀ j, in32 (q.C j)) (hb : in32 b) : in32 (doesK K i a b q).2.1 := by
  have z : in32 0 := by unfold in32; omega
  have ht : ∀ x, in32 (tr x) := tr_in
  have hw : ∀ x, in32 (wrap32 x) := w32_bd
  have hs : ∀ x, in32 (IntKind.i16.wrap x) := fun x => by have := i16_bd x; unfold in32; omega
  have hm : b ≠ 0 → in32 (a.tmod b) := fun h0 => by
    unfold in32 at *
    have h1 := Int.natAbs_tmod a b
    have h2 : a.natAbs % b.natAbs < b.natAbs := Nat.mod_lt _ (by omega)
    omega
  unfold doesK doesV
  repeat' (refine in_ite (fun _ => ?_) (fun _ => ?_))
  all_goals first | exact z | exact ht _ | exact hw _ | exact hs _ | exact hC _ | exact hm (by assumption) | skip
  cases q.Lf with
  | nil => exact z
  | cons c r => exact in_ite (fun _ => z) (fun _ => z)
/-- The functions of the table do what their instructions say. -/
def FvOk (K : Rc) : Prop := ∀ o, o < 22 → ∃ F cs, K.fv o = .func (.func F) #[] cs ∧ (∀ args w, (callFunc F args).run Tryz.prog w = .ok (.enter F args) w) ∧
  ∀ i dn q S w a b R, i < K.n → K.op i = o → RS K dn q S w → in32 a → in32 b → Side K i q →
    (∀ w', RS K dn (doesK K i a b q).1 S w' → R (.returned (.tuple #[.int .i32 (doesK K i a b q).2.1, .int .i64 (doesK K i a b q).2.2])) w') →
    Calls Tryz.prog F (#[.pointer (some ⟨K.br, 0, none⟩), .agg #[.int .u8 (K.op i : Int), .int .i64 (K.at_ i : Int), .int .i64 (K.arg i), .int .i64 (K.cnt i), .int .i64 (K.lp i), .int .i64 (K.to_ i)], .int .i32 a, .int .i32 b] ++ cs) w R
theorem pop_in {S : List Int} (h : ∀ x ∈ S, in32 x) (p : Nat) : in32 (popA p S) ∧ in32 (popB p S) := by
  have z : in32 0 := by unfold in32; omega
  have g : ∀ k, in32 (S.getD k 0) := fun k => by
    rw [List.getD_eq_getElem?_getD]
    cases e : S[k]? with
    | none => exact z
    | some x => exact h x (List.mem_of_getElem? e)
  unfold popA popB
  constructor <;> (repeat' split) <;> first | exact z | exact g _

end Go.Proofs.YtidhiaaicmfabaaGreatDoor

/- One step of a scan: advance. -/
namespace Go.Proofs.YtidhiaaicmfabaaGreatDoor
open Go.RowKit Go.Proofs Go.Deep

attribute [local go_sem ↓] Go.wp_at_zero Go.wp_at_succ
def pushS (o : Nat) (v : Int) (S : List Int) : List Int := if 0 < pushesOf o then v :: S else S
set_option maxRecDepth 100000 in
set_option maxHeartbeats 4000000 in
theorem advance_any {K : Rc} (hK : RcOk K) (hF : FvOk K) {dn : Int} {q : Sc} {S : List Int} {w : World} (h : RS K dn q S w) (i : Nat) (hi : i < K.n) (hnx : q.nx = (i : Int)) (hop : K.op i < 22) (hp : popsOf (K.op i) ≤ S.length) (h32 : S.length ≤ 40) (hdn : 0 ≤ dn ∧ dn ≤ 300000)
    (hside : Side K i q) (R : Ending → World → Prop)
    (fin : ∀ w', RS K (dn + 1) (doesK K i (popA (popsOf (K.op i)) S) (popB (popsOf (K.op i)) S) { q with nx := (i : Int) + 1 }).1 (pushS (K.op i) (doesK K i (popA (popsOf (K.op i)) S) (popB (popsOf (K.op i)) S) { q with nx := (i : Int) + 1 }).2.1 (S.drop (popsOf (K.op i)))) w' →
      R (.returned (.int .i64 (doesK K i (popA (popsOf (K.op i)) S) (popB (popsOf (K.op i)) S) { q with nx := (i : Int) + 1 }).2.2)) w') :
    Calls Tryz.prog 189 #[.pointer (some ⟨K.br, 0, none⟩)] w R := by
  obtain ⟨sv, rv, hm, hs, hr⟩ := h.ex
  have hlt := hm.run.lt
  have hst := hm.steps hK
  have hbs := hst.lt
  obtain ⟨x0, x1, x2, x3, x4, x5⟩ := hst.six hi
  have c110 := hm.c110
  have c115 := hm.c115
  rw [hnx] at c115
  have hn := hK.n
  have j0 : (0 : Int) ≤ (i : Int) := by omega
  have j1 : (i : Int) < (K.n : Int) := by omega
  replace fin := hd fin
  replace h := hd h
  clear hm hs hr hst
  go_enter Tryz.func189, Tryz.ntmps189
  go_wp2_with (fail)
  go_region
  have h5 := new_at (w := w) (o := Obj.cells #[Value.int .u8 (K.op i : Int), .int .i64 (K.at_ i : Int), .int .i64 (K.arg i), .int .i64 (K.cnt i), .int .i64 (K.lp i), .int .i64 (K.to_ i)] 254) rfl
  have hW := (h.out.alloc hK (Obj.cells #[Value.int .u8 (K.op i : Int), .int .i64 (K.at_ i : Int), .int .i64 (K.arg i), .int .i64 (K.cnt i), .int .i64 (K.lp i), .int .i64 (K.to_ i)] 254)).drew hK
  have hng : w.heap.size ≠ K.br := by omega
  generalize (w.alloc (Obj.cells #[Value.int .u8 (K.op i : Int), .int .i64 (K.at_ i : Int), .int .i64 (K.arg i), .int .i64 (K.cnt i), .int .i64 (K.lp i), .int .i64 (K.to_ i)] 254)).drew = W1 at h5 hW ⊢
  generalize w.heap.size = g5 at h5 hng ⊢
  clear x0 x1 x2 x3 x4 x5 c110 c115 hlt hbs h j0 j1
  obtain ⟨s0, s1, s2, s3, s4, s5, sf⟩ := six h5
  have l5 := (Array.getElem?_eq_some_iff.1 h5).1
  obtain ⟨sv1, rv1, hm1, _, _⟩ := hW.ex
  have c5 := hm1.c115
  rw [hnx] at c5
  have f5 := hm1.run.frozen 115
  have c6 := hm1.c116
  have f6 := hm1.run.frozen 116
  obtain ⟨r2, r3, r4⟩ := hm1.row hop
  have hlt1 := hm1.run.lt
  have jo : (K.op i : Int) < 22 := by omega
  have jo0 : (0 : Int) ≤ (K.op i : Int) := by omega
  replace hW := hd hW
  replace h5 := hd h5
  clear hm1
  go_wp2_with (fail)
  go_quiet (fail)
  go_wp2_with (fail)
  refine take_any hK (((hW.out.drewN hK _).setNx hK _).setDn hK _) _ (by unfold popsOf; (repeat' split) <;> omega) hp h32 _ ?_
  intro w2 hw2 ho2
  obtain ⟨F, cs, hfv, hcf, hdo⟩ := hF (K.op i) hop
  obtain ⟨sv2, rv2, hm2, _, _⟩ := hw2.ex
  obtain ⟨z2, z3, z4⟩ := hm2.row hop
  rw [hfv] at z4
  have hlt2 := hm2.run.lt
  obtain ⟨y0, y1, y2, y3, y4, y5, _⟩ := six (w := w2) (((ho2.block g5 (by simp; omega) hng).trans (by simp [World.setCell, Array.getElem?_modify, Ne.symm hng]; exact h5.out)))
  have l52 : g5 < w2.heap.size := by have := ho2.size; simp at this; omega
  have hin := hd (pop_in hw2.hS)
  have hinp := hd (pop_in (S := S) (fun x hx => hW.out.hS x hx) (popsOf (K.op i)))
  have hside2 := hd (show Side K i { q with nx := (i : Int) + 1 } from ⟨hside.cell, hside.cells, hside.opn, hside.nxt⟩)
  have hdi := hd (fun (a b : Int) (hb : in32 b) => doesK_in K i a b { q with nx := (i : Int) + 1 } hW.out.hC hb)
  replace hw2 := hd hw2
  replace hdo := hd hdo
  clear hm2 ho2 h5 s0 s1 s2 s3 s4 s5 sf c5 f5 c6 f6 r2 r3 r4 hW hside hF
  generalize hpa : popA (popsOf (K.op i)) S = pa at *
  generalize hpb : popB (popsOf (K.op i)) S = pb at *
  clear hpa hpb
  have hlen := hd (show (S.drop (popsOf (K.op i))).length ≤ 40 by simp; omega)
  generalize S.drop (popsOf (K.op i)) = S2 at *
  go_wp2_with (fail)
  go_region_with (refine hdo.out i (dn + 1) { q with nx := (i : Int) + 1 } S2 _ pa pb _ hi rfl (by first | exact hw2.out | exact hw2.out.drew hK) hinp.out.1 hinp.out.2 hside2.out ?_; intro w3 hw3)
  all_goals
    obtain ⟨sv3, rv3, hm3, hs3, hr3⟩ := hw3.ex
    obtain ⟨_, q3, _⟩ := hm3.row hop
    have d113 := hm3.c113
    have g113 := hm3.run.frozen 113
    have hlt3 := hm3.run.lt
    have hbsz3 := hm3.fr.size
    have hbr := hK.br
    have nb1 := hd (show some K.br ≠ sv3.ownBlock from fun e => by have := (hs3.lt K.br e.symm).1; omega)
    generalize hr : doesK K i pa pb { q with nx := (i : Int) + 1 } = r at *
    replace hm3 := hd hm3
    replace hs3 := hd hs3
    replace hr3 := hd hr3
    replace hw3 := hd hw3
    clear z2 z3 z4 y0 y1 y2 y3 y4 y5 hdo
    by_cases hpu : 0 < pushesOf (K.op i)
    · have dp : decide ((0 : Int) < (pushesOf (K.op i) : Nat)) = true := by simp; omega
      have ep : pushS (K.op i) r.2.1 S2 = r.2.1 :: S2 := by unfold pushS; rw [if_pos hpu]
      rw [ep] at fin
      go_wp2_with (first | (at_builtin; refine wpList_app _ rfl _ _ 226 rfl K.base 21 _ 1 4 ulI32 infoI32 rfl (by decide) _ _ _ rfl (by exact hs3.out.alloc _) _ 1 1 [.int .i32 r.2.1] rfl (by exact alloc_at rfl) rfl (oneI32 _) (by have := hlen.out; unfold maxLen; omega) (by have := hlen.out; omega) (by simp; omega) ?_; intro v4 w4 hown4 hgr4; obtain ⟨ao4, cp4, rfl⟩ := own_sl hown4; have d4 : w4.cell? ⟨K.br, 113, none⟩ = some sv3 := far_of hgr4 (by exact cell_al d113 _) nb1.out; have f4 : w4.frozen? ⟨K.br, 113, none⟩ = false := frz_of hgr4 (by exact frozen_al g113 hlt3 _) (by simp; omega) nb1.out; replace hown4 := hd hown4; replace hgr4 := hd hgr4))
      have hm4 := hm3.out.alloc hK (Obj.cells #[.int .i32 r.2.1] 21)
      have hg : Below K.base (w3.alloc (Obj.cells #[.int .i32 r.2.1] 21)) w4 := ⟨hgr4.out.os, hgr4.out.tape, hgr4.out.output, hgr4.out.size, fun k hk => hgr4.out.block k (by have := hm4.fr.size; omega) (fun e => by have := (hs3.out.lt k e.symm).1; omega)⟩
      have hr4 := (hr3.out.alloc (Obj.cells #[.int .i32 r.2.1] 21)).kept hgr4.out (own_two hs3.out hr3.out (by decide))
      have hL1 := hown4.out
      rw [← i32L_cons] at hL1
      refine cl1 (fin.out _ (RS.mk ⟨_, rv3, (hm4.below hK hg).setSv hK _, own_set hL1 hK.br _, own_set hr4 hK.br _⟩ hw3.out.hC (fun x hx => ?_))) rfl
      rcases List.mem_cons.1 hx with e | e
      · rw [e, ← hr]; exact hdi.out pa pb hinp.out.2
      · exact hw3.out.hS x e
    · have dp : decide ((0 : Int) < (pushesOf (K.op i) : Nat)) = false := by simp; omega
      have ep : pushS (K.op i) r.2.1 S2 = S2 := by unfold pushS; rw [if_neg hpu]
      rw [ep] at fin
      go_wp2
      exact cl1 (fin.out _ hw3.out) rfl

end Go.Proofs.YtidhiaaicmfabaaGreatDoor
