/- The memory of the document's machine, its small functions. -/
import Derived.Test.YtidhiaaicmfabaaGreatMem
import Derived.Test.YtidhiaaicmfabaaGreatSpec
import Derived.Test.YtidhiaaicmfabaaGreatRefA
import Derived.Test.YtidhiaaicmfabaaGreatRefC
import Derived.Test.YtidhiaaicmfabaaGreatSpec2
import Derived.WalkKit
import Derived.WalkSpells
import Derived.WalkLawsBesides
import Derived.Deep.OwnRows
import Derived.BigQuiet
import Derived.Handy
import Derived.Deep.Light
import Derived.Deep.RegionHeld3
import Derived.Deep.RegionWith
import Derived.Test.YtidhiaaicmfabaaGreatSemA
import Derived.Test.YtidhiaaicmfabaaGreatSemD
import Derived.Deep.RegionHeldLaw
import Derived.Maps.AppendAt
import Derived.ArgAppend
import Derived.Test.YtidhiaaicmfabaaGreatJnA
import Derived.Test.YtidhiaaicmfabaaGreatSemI
import Derived.Test.YtidhiaaicmfabaaGreatRefF

/- Small functions of the document's machine: truth, Lay, two, pop; pick of the statements (seats .Z, .ZD alone). -/
namespace Go.Proofs.YtidhiaaicmfabaaGreat
open Go.RowKit Go.Proofs Go.Deep

theorem rtruth_any (w : World) (b : Bool) (R : Ending → World → Prop) (fin : R (.returned (.int .i64 (tr b))) w) : Calls Tryz.prog 99 #[.bool b] w R := by
  replace fin := hd fin
  cases b
  · go_enter Tryz.func99, Tryz.ntmps99
    go_wp2
    exact cl1 fin.out rfl
  · go_enter Tryz.func99, Tryz.ntmps99
    go_wp2
    exact cl1 fin.out rfl
theorem wr16 (n : Int) : wrap64 (IntKind.i16.wrap n) = IntKind.i16.wrap n := by
  have e : IntKind.i16.wrap n = if n % 65536 ≥ 32768 then n % 65536 - 65536 else n % 65536 := by
    unfold IntKind.wrap
    by_cases h : n % 65536 ≥ 32768 <;> simp [IntKind.bits, IntKind.signed, h]
  have : -32768 ≤ IntKind.i16.wrap n ∧ IntKind.i16.wrap n ≤ 32767 := by rw [e]; split <;> omega
  exact IntWalk.wrap64_in _ (by omega)
theorem wr32 (n : Int) : wrap64 (wrap32 n) = wrap32 n := by
  have : -2147483648 ≤ wrap32 n ∧ wrap32 n ≤ 2147483647 := by unfold wrap32; omega
  exact IntWalk.wrap64_in _ (by omega)
/-- Lay, of every number and kind. -/
theorem rlay_any (w : World) (n : Int) (k : Nat) (hk : k ≤ 2) (R : Ending → World → Prop) (fin : R (.returned (.int .i64 (layK k n))) w) : Calls Tryz.prog 47 #[.int .i64 n, .int .i64 (k : Int)] w R := by
  replace fin := hd fin
  obtain rfl | rfl | rfl : k = 0 ∨ k = 1 ∨ k = 2 := by omega
  · by_cases h : n = 0
    · have d : (n == 0) = true := by simpa using h
      go_enter Tryz.func47, Tryz.ntmps47
      go_wp2
      exact cl1 fin.out (by simp [layK, tr, h])
    · have d : (n == 0) = false := by simpa using h
      go_enter Tryz.func47, Tryz.ntmps47
      go_wp2
      exact cl1 fin.out (by simp [layK, tr, h])
  · go_enter Tryz.func47, Tryz.ntmps47
    go_wp2
    exact cl1 fin.out (by show Value.int _ _ = Value.int _ _; rw [wr16]; rfl)
  · go_enter Tryz.func47, Tryz.ntmps47
    go_wp2
    exact cl1 fin.out (by show Value.int _ _ = Value.int _ _; rw [wr32]; rfl)
/-- Of two numbers: the number; the error. -/
def twoV (o : Nat) (a b : Int) : Int × Int :=
  if o = 6 then (a + b, 0) else if o = 7 then (a - b, 0) else if o = 8 then (a * b, 0) else if o = 9 then (if b = 0 then (0, 4) else (wrap32 (a.tdiv b), 0))
  else if o = 10 then (if b = 0 then (0, 4) else (a - b * wrap32 (a.tdiv b), 0)) else if o = 11 then (tr (a == b), 0) else if o = 12 then (tr (decide (a < b)), 0)
  else if o = 14 then (tr (a != 0 && b != 0), 0) else (tr (a != 0 || b != 0), 0)
theorem rtwo_any (w : World) (o : Nat) (a b : Int) (ha : -2147483648 ≤ a ∧ a ≤ 2147483647) (hb : -2147483648 ≤ b ∧ b ≤ 2147483647) (ho : o = 6 ∨ o = 7 ∨ o = 8 ∨ o = 9 ∨ o = 10 ∨ o = 11 ∨ o = 12 ∨ o = 14 ∨ o = 15) (R : Ending → World → Prop)
    (fin : R (.returned (.tuple #[.int .i64 (twoV o a b).1, .int .i64 (twoV o a b).2])) w) : Calls Tryz.prog 100 #[.int .i64 (o : Int), .int .i64 a, .int .i64 b] w R := by
  replace fin := hd fin
  have hm : -4611686018427387904 ≤ a * b ∧ a * b ≤ 4611686018427387904 := by
    have h1 : (a * b).natAbs ≤ 2147483648 * 2147483648 := by rw [Int.natAbs_mul]; exact Nat.mul_le_mul (by omega) (by omega)
    omega
  rcases ho with rfl | rfl | rfl | rfl | rfl | rfl | rfl | rfl | rfl
  · go_enter Tryz.func100, Tryz.ntmps100
    go_wp2
    exact cl1 fin.out (by simp [twoV])
  · go_enter Tryz.func100, Tryz.ntmps100
    go_wp2
    exact cl1 fin.out (by simp [twoV])
  · go_enter Tryz.func100, Tryz.ntmps100
    go_wp2
    exact cl1 fin.out (by simp [twoV])
  · by_cases hb0 : b = 0
    · have d : (b == 0) = true := by simpa using hb0
      go_enter Tryz.func100, Tryz.ntmps100
      go_wp2
      exact cl1 fin.out (by simp [twoV, hb0])
    · have d : (b == 0) = false := by simpa using hb0
      have hq : -2147483648 ≤ wrap32 (a.tdiv b) ∧ wrap32 (a.tdiv b) ≤ 2147483647 := by unfold wrap32; omega
      have ht : wrap64 (a.tdiv b) = a.tdiv b := IntWalk.wrap64_in _ (by
        have h1 : (a.tdiv b).natAbs ≤ a.natAbs := by rw [Int.natAbs_tdiv]; exact Nat.div_le_self _ _
        omega)
      go_enter Tryz.func100, Tryz.ntmps100
      go_wp2_with (fail)
      refine rlay_any _ _ 2 (by omega) _ ?_
      rw [show layK 2 (a.tdiv b) = wrap32 (a.tdiv b) from rfl]
      have hbq : -4611686018427387904 ≤ b * wrap32 (a.tdiv b) ∧ b * wrap32 (a.tdiv b) ≤ 4611686018427387904 := by
        have h1 : (b * wrap32 (a.tdiv b)).natAbs ≤ 2147483648 * 2147483648 := by rw [Int.natAbs_mul]; exact Nat.mul_le_mul (by omega) (by omega)
        omega
      go_wp2
      exact cl1 fin.out (by simp [twoV, hb0])
  · by_cases hb0 : b = 0
    · have d : (b == 0) = true := by simpa using hb0
      go_enter Tryz.func100, Tryz.ntmps100
      go_wp2
      exact cl1 fin.out (by simp [twoV, hb0])
    · have d : (b == 0) = false := by simpa using hb0
      have hq : -2147483648 ≤ wrap32 (a.tdiv b) ∧ wrap32 (a.tdiv b) ≤ 2147483647 := by unfold wrap32; omega
      have ht : wrap64 (a.tdiv b) = a.tdiv b := IntWalk.wrap64_in _ (by
        have h1 : (a.tdiv b).natAbs ≤ a.natAbs := by rw [Int.natAbs_tdiv]; exact Nat.div_le_self _ _
        omega)
      go_enter Tryz.func100, Tryz.ntmps100
      go_wp2_with (fail)
      refine rlay_any _ _ 2 (by omega) _ ?_
      rw [show layK 2 (a.tdiv b) = wrap32 (a.tdiv b) from rfl]
      have hbq : -4611686018427387904 ≤ b * wrap32 (a.tdiv b) ∧ b * wrap32 (a.tdiv b) ≤ 4611686018427387904 := by
        have h1 : (b * wrap32 (a.tdiv b)).natAbs ≤ 2147483648 * 2147483648 := by rw [Int.natAbs_mul]; exact Nat.mul_le_mul (by omega) (by omega)
        omega
      go_wp2
      exact cl1 fin.out (by simp [twoV, hb0])
  · go_enter Tryz.func100, Tryz.ntmps100
    go_wp2_with (first | (go_at_call 99; refine rtruth_any _ _ _ ?_))
    exact cl1 fin.out (by simp [twoV])
  · go_enter Tryz.func100, Tryz.ntmps100
    go_wp2_with (first | (go_at_call 99; refine rtruth_any _ _ _ ?_))
    exact cl1 fin.out (by simp [twoV])
  · cases h : (a != 0)
    all_goals
      go_enter Tryz.func100, Tryz.ntmps100
      go_wp2_with (fail)
      refine rtruth_any _ _ _ ?_
      go_wp2
      exact cl1 fin.out (by simp [twoV, h])
  · cases h : (a != 0)
    all_goals
      go_enter Tryz.func100, Tryz.ntmps100
      go_wp2_with (fail)
      refine rtruth_any _ _ _ ?_
      go_wp2
      exact cl1 fin.out (by simp [twoV, h])
def lpickV (c n : Int) : Int := (if c < 0 then -(c + 1) else c) % n
theorem lpick_any (w : World) (c n : Int) (hc : -9223372036854775808 ≤ c ∧ c ≤ 9223372036854775807) (hn : 0 < n ∧ n ≤ 9223372036854775807) (R : Ending → World → Prop) (fin : R (.returned (.int .i64 (lpickV c n))) w) :
    Calls Tryz.prog 21 #[.int .i64 c, .int .i64 n] w R := by
  have n0 : ¬ n = 0 := by omega
  have nb : (n == 0) = false := by simpa using n0
  unfold lpickV at fin
  by_cases h : c < 0
  · rw [if_pos h] at fin
    have d : decide (c < 0) = true := by simpa using h
    have e1 : 0 ≤ -(c + 1) := by omega
    replace fin := hd fin
    go_enter Tryz.func21, Tryz.ntmps21
    go_wp2
    exact cl1 fin.out (by show Value.int _ _ = Value.int _ _; rw [← Int.neg_tmod, Int.tmod_eq_emod_of_nonneg e1])
  · rw [if_neg h] at fin
    have d : decide (c < 0) = false := by simpa using h
    replace fin := hd fin
    go_enter Tryz.func21, Tryz.ntmps21
    go_wp2
    exact cl1 fin.out (by first | rfl | (show Value.int _ _ = Value.int _ _; rw [Int.tmod_eq_emod_of_nonneg (by omega)]))
theorem rpop_any (w : World) (bm g n cap : Nat) (x : Int) (hx : w.cell? ⟨bm, 5, none⟩ = some (.slice (some ⟨g, 0, none⟩) (n + 1) cap)) (fx : w.frozen? ⟨bm, 5, none⟩ = false) (hc : n + 1 ≤ cap) (hm : cap ≤ maxLen) (ht : w.cell? ⟨g, n, none⟩ = some (.int .i64 x))
    (R : Ending → World → Prop) (fin : ∀ W, Below w.heap.size w W → R (.returned (.int .i64 x)) (W.setCell ⟨bm, 5, none⟩ (.slice (some ⟨g, 0, none⟩) n cap))) :
    Calls Tryz.prog 98 #[.pointer (some ⟨bm, 0, none⟩)] w R := by
  replace fin := hd fin
  unfold maxLen at hm
  have a0 : ((n + 1 : Nat) : Int) - 1 = (n : Int) := by omega
  have i0 : (0 : Int) ≤ (n : Int) ∧ (n : Int) < ((n + 1 : Nat) : Int) := by omega
  have i1 : (0 : Int) ≤ (n : Int) ∧ (n : Int) ≤ (cap : Int) := by omega
  go_enter Tryz.func98, Tryz.ntmps98
  go_wp2
  go_quiet (fail)
  go_wp2
  go_region
  go_wp2
  exact cl1 (fin.out _ (by repeat (first | with_reducible exact Below.refl _ _ | with_reducible refine below_drewN ?_ _ | with_reducible refine Below.drew ?_ | with_reducible refine Below.alloc ?_ (by simp) _ | with_reducible refine Below.setCell ?_ (by simp) _))) rfl

end Go.Proofs.YtidhiaaicmfabaaGreat

/- The document's machine pushes a number (seats .Z, .ZD alone). -/
namespace Go.Proofs.YtidhiaaicmfabaaGreat
open Go.RowKit Go.Proofs Go.Deep

/-- As step_app, and where the new row lies. -/
theorem step_app2 {P : Program} {w : World} {ops : Array Oper} {o : Oper} {a : Act} {K : Act → World → Prop} {Q : Exit → Act → World → Prop} {E : Prop} (hgd : o.guard = none) (s x : Operand) (t : TypeId)
    (ho : o.op = .call { callee := .builtin .append, args := #[s, x], argTypes := #[t, t] })
    (base : Nat) (e : TypeId) (z : Value) (size bytes : Nat) (ht : P.underlying t = some (.slice e)) (hinfo : (P.info? e).map (fun i => (i.zero, i.size, i.bytes)) = some (some z, size, bytes)) (hzs : z.cells.size = size) (hsz : 0 < size)
    (v : Value) (n : Nat) (xs : List Value) (hs : a.eval s = v) (hown : w.ownsRow base e size v n xs)
    (g m c : Nat) (news : List Value) (hx : a.eval x = .slice (some ⟨g, 0, none⟩) m c) (hg : w.heap[g]? = some (.cells news.toArray e)) (hl : news.length = m * size) (h1 : ∀ u ∈ news, u.oneCell' = true)
    (hm : 0 < m) (h63 : n + m ≤ maxLen) (hbytes : (n + m) * bytes ≤ 140737488355328) (hbase : base ≤ w.heap.size)
    (h : ∀ g' cap w', w'.ownsRow base e size (.slice (some ⟨g', 0, none⟩) (n + m) cap) (n + m) (xs ++ news) → w.grownBy w' v.ownBlock → (v.ownBlock = some g' ∨ g' = w.heap.size) → K (a.put o.dst (.slice (some ⟨g', 0, none⟩) (n + m) cap)) w') :
    if Region.wanted o (yielded ops a.tmps) = true then Oper.wp P o a w K Q else E := by
  obtain ⟨i, hi, hzz⟩ := Option.map_eq_some_iff.1 hinfo
  simp only [Prod.mk.injEq] at hzz
  obtain ⟨hz, hs1, hb1⟩ := hzz
  refine step_append_lies _ hgd s x t ho base e i z size bytes ht hi hz hs1 hb1 hzs hsz v n xs hs hown ⟨g, 0, none⟩ m c news hx hl ?_ h1 hm h63 hbytes hbase w.heap.size rfl (fun g' cap w' a1 a2 a3 _ => h g' cap w' a1 a2 a3)
  intro j u hu
  have hadd : (⟨g, 0, none⟩ : Addr).add j = ⟨g, j, none⟩ := by unfold Addr.add; split <;> simp_all
  rw [hadd, cell_of_row _ g j news.toArray e (0, 0) hg]
  simpa using hu
set_option maxHeartbeats 1000000 in
set_option maxRecDepth 100000 in
theorem rpush_any (w : World) (bm base : Nat) (sv : Value) (S : List Int) (n : Int) (hbm : bm < base) (hbs : base ≤ w.heap.size) (hx : w.cell? ⟨bm, 5, none⟩ = some sv) (fx : w.frozen? ⟨bm, 5, none⟩ = false) (hS : S.length ≤ 40)
    (hr : w.ownsRow base 3 1 sv S.length (i64L S)) (R : Ending → World → Prop)
    (fin : ∀ W v', W.ownsRow base 3 1 v' (S.length + 1) (i64L (wrap32 n :: S)) → w.grownBy W sv.ownBlock → (v'.ownBlock = sv.ownBlock ∨ ∃ g, v'.ownBlock = some g ∧ w.heap.size ≤ g) → R (.returned (.tuple #[])) (W.setCell ⟨bm, 5, none⟩ v')) :
    Calls Tryz.prog 97 #[.pointer (some ⟨bm, 0, none⟩), .int .i64 n] w R := by
  replace fin := hd fin
  have hlt : bm < w.heap.size := by omega
  have nb1 : some bm ≠ sv.ownBlock := fun e => by have := (hr.lt bm e.symm).1; omega
  obtain ⟨ao, cp, rfl⟩ := own_sl hr
  replace nb1 := hd nb1
  replace hr := hd hr
  go_enter Tryz.func97, Tryz.ntmps97
  go_wp2_with (fail)
  go_region_law
    (first
      | (go_simp; go_at_call 47; refine rlay_any _ _ 2 (by omega) _ ?_; go_simp; rw [show layK 2 n = wrap32 n from rfl])
      | (refine step_app2 (by rfl) _ _ 42 (by rfl) base 3 _ 1 8 ulInt infoI64 rfl (by omega) _ S.length (i64L S) (by rfl) (by first | exact (hr.out.alloc _).drew | exact hr.out.alloc _) w.heap.size 1 1 [.int .i64 (wrap32 n)] (by rfl) (by exact new_at (by simp)) rfl (oneI64 _) (by omega) (by unfold maxLen; omega) (by omega) (by simp; omega) ?_; intro g1 cap1 w1 hown1 hgr1 hat1; have cx : w1.cell? ⟨bm, 5, none⟩ = some (.slice ao S.length cp) := far_of hgr1 (by exact cell_al hx _) nb1.out; have fx : w1.frozen? ⟨bm, 5, none⟩ = false := frz_of hgr1 (by exact frozen_al fx hlt _) (by simp; omega) nb1.out; replace hat1 := hd hat1; replace hown1 := hd hown1; replace hgr1 := hd hgr1))
  all_goals
    go_wp2
    have hL1 := hown1.out
    rw [← i64L_cons] at hL1
    have hz := hgr1.out.size
    have hg : w.grownBy w1 (Value.slice ao S.length cp).ownBlock := ⟨hgr1.out.os, hgr1.out.tape, hgr1.out.output, by simp at hz; omega, fun k hk hne => (hgr1.out.block k (by simp; omega) hne).trans (by first | exact Below.heap_alloc _ _ _ hk | exact Below.heap_alloc w _ _ hk)⟩
    go_end0
    refine fin.out _ _ hL1 hg ?_
    rcases hat1.out with e | e
    · exact .inl e.symm
    · exact .inr ⟨g1, rfl, by rw [e]; simp⟩

end Go.Proofs.YtidhiaaicmfabaaGreat

/- append onto a row of numbers: where the new one lies; lists that are full of one mark (seats .Z, .ZD alone). -/
namespace Go.Proofs.YtidhiaaicmfabaaGreat
open Go.RowKit Go.Proofs Go.Deep

/-- append onto an owned row: where the new one lies, and what is left alone. -/
theorem run_app4 {P : Program} (w : World) (base : Nat) (t ty e : TypeId) (i : TypeInfo) (z : Value) (size bytes : Nat) (ht : P.underlying t = some (.slice e)) (hi : P.info? e = some i) (hz : i.zero = some z)
    (hsize : i.size = size) (hby : i.bytes = bytes) (hzs : z.cells.size = size) (hsz : 0 < size)
    (v : Value) (n : Nat) (xs : List Value) (hown : w.ownsRow base e size v n xs)
    (a : Addr) (m c : Nat) (news : List Value) (hl : news.length = m * size) (hnews : ∀ j u, news[j]? = some u → w.cell? (a.add j) = some u) (h1 : ∀ u ∈ news, u.oneCell' = true)
    (h63 : n + m ≤ maxLen) (hbytes : (n + m) * bytes ≤ 140737488355328) (hbase : base ≤ w.heap.size) :
    ∃ v' w', (Builtin.append_ #[t, t] ty #[v, .slice (some a) m c]).run P w = .ok v' w' ∧ w'.ownsRow base e size v' (n + m) (xs ++ news) ∧ w.grownBy w' v.ownBlock ∧
      (v'.ownBlock = v.ownBlock ∨ (v'.ownBlock = some w.heap.size ∧ w.grownBy w' none)) := by
  obtain ⟨v', w', hr, h2, h3, _, h5⟩ := run_append_own_at (P := P) w base t ty e i z size bytes ht hi hz hsize hby hzs hsz v n xs hown a m c news hl hnews h1 h63 hbytes hbase
  refine ⟨v', w', hr, h2, h3, ?_⟩
  rcases h5 with e | e
  · exact .inl e
  rcases hown.2 with ⟨rfl, rfl⟩ | ⟨g, cap, cur, rfl, hbg, hg, hnc, hcm, hcs, htake⟩
  · exact .inr ⟨e, h3⟩
  · by_cases hroom : n + m ≤ cap
    · subst hsize
      have hfit : n * i.size + news.length ≤ cur.size := by rw [hl, hcs, ← Nat.add_mul]; exact Nat.mul_le_mul_right _ hroom
      have hr2 := run_append_room (P := P) w t ty _ i ht hi g n cap cur hg a m c news hl hnews h1 hroom hfit
      rw [hr2] at hr
      injection hr with e1 e2
      left
      rw [← e1]; rfl
    · have holds : ∀ j u, xs[j]? = some u → w.cell? ((⟨g, 0, none⟩ : Addr).add j) = some u := hown.cells (g := g) rfl
      obtain ⟨v2, w2, hr2, _, h7⟩ := run_append_arg_grows (P := P) w t ty _ i z size bytes ht hi hz hsize hby hzs hsz ⟨g, 0, none⟩ n cap xs hown.1 holds a m c news hl hnews (by omega) h63 hbytes
      rw [hr2] at hr
      injection hr with e1 e2
      subst e2
      exact .inr ⟨e, h7⟩
theorem news_at {w : World} {g e : Nat} {news : List Value} (hg : w.heap[g]? = some (.cells news.toArray e)) : ∀ j u, news[j]? = some u → w.cell? ((⟨g, 0, none⟩ : Addr).add j) = some u := by
  intro j u hu
  have hadd : (⟨g, 0, none⟩ : Addr).add j = ⟨g, j, none⟩ := by unfold Addr.add; split <;> simp_all
  rw [hadd, cell_of_row _ g j news.toArray e (0, 0) hg]
  simpa using hu
theorem wpList_app4 {P : Program} (w0 : World) {ops : Array Oper} {rest : List Oper} {o : Oper} {a : Act} {Q : Exit → Act → World → Prop} (hgd : o.guard = none) (s x : Operand) (t : TypeId)
    (ho : o.op = .call { callee := .builtin .append, args := #[s, x], argTypes := #[t, t] })
    (base : Nat) (e : TypeId) (z : Value) (size bytes : Nat) (ht : P.underlying t = some (.slice e))
    (hinfo : (P.info? e).map (fun i => (i.zero, i.size, i.bytes)) = some (some z, size, bytes)) (hzs : z.cells.size = size) (hsz : 0 < size)
    (v : Value) (n : Nat) (xs : List Value) (hs : a.eval s = v) (hown : w0.ownsRow base e size v n xs)
    (ad : Addr) (m c : Nat) (news : List Value) (hx : a.eval x = .slice (some ad) m c) (hl : news.length = m * size) (hg : ∀ j u, news[j]? = some u → w0.cell? (ad.add j) = some u) (h1 : ∀ u ∈ news, u.oneCell' = true)
    (h63 : n + m ≤ maxLen) (hbytes : (n + m) * bytes ≤ 140737488355328) (hbase : base ≤ w0.heap.size)
    (h : ∀ v' w', w'.ownsRow base e size v' (n + m) (xs ++ news) → w0.grownBy w' v.ownBlock → (v'.ownBlock = v.ownBlock ∨ (v'.ownBlock = some w0.heap.size ∧ w0.grownBy w' none)) → wpList P ops Q rest (a.put o.dst v') w') :
    wpList P ops Q (o :: rest) a w0 := by
  obtain ⟨i, hi, hzz⟩ := Option.map_eq_some_iff.1 hinfo
  simp only [Prod.mk.injEq] at hzz
  obtain ⟨hz, hs1, hb1⟩ := hzz
  refine wpList_plain hgd fun K hK => ?_
  obtain ⟨v', w', hr, h2, h3, h5⟩ := run_app4 (P := P) w0 base t o.type e i z size bytes ht hi hz hs1 hb1 hzs hsz v n xs hown ad m c news hl hg h1 h63 hbytes hbase
  unfold Oper.wp execOp
  simp only [ho, resolve, invoke, builtin, Sem.run_bind, Sem.run_pure, Result.andThen_ok, List.map_toArray, List.map_cons, List.map_nil, hs, hx, hr]
  exact hK _ _ (h v' w' h2 h3 h5)
theorem step_app4 {P : Program} {w : World} {ops : Array Oper} {o : Oper} {a : Act} {K : Act → World → Prop} {Q : Exit → Act → World → Prop} {E : Prop} (hgd : o.guard = none) (s x : Operand) (t : TypeId)
    (ho : o.op = .call { callee := .builtin .append, args := #[s, x], argTypes := #[t, t] })
    (base : Nat) (e : TypeId) (z : Value) (size bytes : Nat) (ht : P.underlying t = some (.slice e)) (hinfo : (P.info? e).map (fun i => (i.zero, i.size, i.bytes)) = some (some z, size, bytes)) (hzs : z.cells.size = size) (hsz : 0 < size)
    (v : Value) (n : Nat) (xs : List Value) (hs : a.eval s = v) (hown : w.ownsRow base e size v n xs)
    (ad : Addr) (m c : Nat) (news : List Value) (hx : a.eval x = .slice (some ad) m c) (hl : news.length = m * size) (hg : ∀ j u, news[j]? = some u → w.cell? (ad.add j) = some u) (h1 : ∀ u ∈ news, u.oneCell' = true)
    (h63 : n + m ≤ maxLen) (hbytes : (n + m) * bytes ≤ 140737488355328) (hbase : base ≤ w.heap.size)
    (h : ∀ v' w', w'.ownsRow base e size v' (n + m) (xs ++ news) → w.grownBy w' v.ownBlock → (v'.ownBlock = v.ownBlock ∨ (v'.ownBlock = some w.heap.size ∧ w.grownBy w' none)) → K (a.put o.dst v') w') :
    if Region.wanted o (yielded ops a.tmps) = true then Oper.wp P o a w K Q else E := by
  have hw : Region.wanted o (yielded ops a.tmps) = true := by simp [Region.wanted, hgd]
  rw [if_pos hw]
  obtain ⟨i, hi, hzz⟩ := Option.map_eq_some_iff.1 hinfo
  simp only [Prod.mk.injEq] at hzz
  obtain ⟨hz, hs1, hb1⟩ := hzz
  obtain ⟨v', w', hr, h2, h3, h5⟩ := run_app4 (P := P) w base t o.type e i z size bytes ht hi hz hs1 hb1 hzs hsz v n xs hown ad m c news hl hg h1 h63 hbytes hbase
  unfold Oper.wp execOp
  simp only [ho, resolve, invoke, builtin, Sem.run_bind, Sem.run_pure, Result.andThen_ok, List.map_toArray, List.map_cons, List.map_nil, hs, hx, hr]
  exact h v' w' h2 h3 h5
/-- A list that reads as its owner wrote it: full of one mark; it lies at or behind B. -/
def Mrk (B : Nat) (w : World) (n : Int) (v : Value) : Prop :=
  ∃ ao len cap, v = .slice ao len cap ∧ len ≤ cap ∧ cap ≤ maxLen ∧ (len = 0 ∨ ∃ g cur, ao = some ⟨g, 0, none⟩ ∧ B ≤ g ∧ w.heap[g]? = some (.cells cur 3 (0, 0)) ∧ ∀ j, j < len → cur[j]? = some (.int .i64 (-n)))
theorem Mrk.of_own {B : Nat} {w : World} {v : Value} {len : Nat} {n : Int} {xs : List Value} (h : w.ownsRow B 3 1 v len xs) (hx : ∀ u ∈ xs, u = .int .i64 (-n)) : Mrk B w n v := by
  have hl := h.1
  rcases h.2 with ⟨rfl, rfl⟩ | ⟨g, cap, cur, rfl, hb, hg, hn, hc, _, ht⟩
  · exact ⟨none, 0, 0, rfl, Nat.le_refl _, Nat.zero_le _, .inl rfl⟩
  · refine ⟨_, len, cap, rfl, hn, hc, .inr ⟨g, cur, rfl, hb, hg, fun j hj => ?_⟩⟩
    have h1 : (cur.toList.take (len * 1))[j]? = xs[j]? := by rw [ht]
    have hjx : j < xs.length := by rw [hl]; omega
    rw [List.getElem?_take, if_pos (by omega), List.getElem?_eq_getElem hjx, hx _ (List.getElem_mem hjx)] at h1
    simpa using h1
theorem Mrk.keep {B : Nat} {w w' : World} {n : Int} {v : Value} (h : Mrk B w n v) (hk : ∀ g cur, B ≤ g → w.heap[g]? = some (.cells cur 3 (0, 0)) → w'.heap[g]? = w.heap[g]?) : Mrk B w' n v := by
  obtain ⟨ao, len, cap, h1, h2, h2', h3⟩ := h
  refine ⟨ao, len, cap, h1, h2, h2', ?_⟩
  rcases h3 with h3 | ⟨g, cur, a, b, c, d⟩
  · exact .inl h3
  · exact .inr ⟨g, cur, a, b, (hk g cur b c).trans c, d⟩
/-- The others that lie in the same row are marked still when their row is written longer than they are. -/
theorem Mrk.app {B : Nat} {w w' : World} {n : Int} {u v v' : Value} {len m : Nat} {xs news : List Value} (h : Mrk B w n u) (hle : ∀ ao k cap, u = .slice ao k cap → k ≤ len + m)
    (hown : w'.ownsRow B 3 1 v' (len + m) (xs ++ news)) (hx : ∀ y ∈ xs ++ news, y = .int .i64 (-n)) (hg : w.grownBy w' v.ownBlock) (hat : v'.ownBlock = v.ownBlock ∨ (v'.ownBlock = some w.heap.size ∧ w.grownBy w' none)) : Mrk B w' n u := by
  obtain ⟨ao, k, cap, h1, h2, h2', h3⟩ := h
  have hk := hle _ _ _ h1
  refine ⟨ao, k, cap, h1, h2, h2', ?_⟩
  rcases h3 with h3 | ⟨g, cur, a, b, c, d⟩
  · exact .inl h3
  by_cases hk0 : k = 0
  · exact .inl hk0
  refine .inr ?_
  have hgl : g < w.heap.size := (Array.getElem?_eq_some_iff.1 c).1
  rcases hat with e | ⟨_, e⟩
  · by_cases hgv : some g = v.ownBlock
    · obtain ⟨ao2, len2, cap2, q1, _, _, q3⟩ := Mrk.of_own hown hx
      have q1' : Value.ownBlock (.slice ao2 len2 cap2) = some g := by rw [← q1, e, hgv]
      have hlen2 : len2 = len + m := by
        rcases hown.2 with ⟨r, r2⟩ | ⟨g3, cap3, cur3, r, _⟩
        · rw [q1] at r; injection r with _ r _; omega
        · rw [q1] at r; injection r with _ r _
      rcases q3 with q3 | ⟨g2, cur2, p1, p2, p3, p4⟩
      · omega
      · subst p1
        have : g2 = g := by simpa [Value.ownBlock] using q1'
        subst this
        exact ⟨g2, cur2, a, p2, p3, fun j hj => p4 j (by omega)⟩
    · exact ⟨g, cur, a, b, (hg.block g hgl hgv).trans c, d⟩
  · exact ⟨g, cur, a, b, (e.block g hgl (by simp)).trans c, d⟩
theorem own_cap {w : World} {base e : Nat} {v : Value} {n : Nat} {xs : List Value} (h : w.ownsRow base e 1 v n xs) {ao : Option Addr} {m cap : Nat} (hv : v = .slice ao m cap) : cap ≤ maxLen := by
  rcases h.2 with ⟨rfl, _⟩ | ⟨g, cap', cur, rfl, _, _, _, hc, _⟩
  · injection hv with _ _ h3; subst h3; exact Nat.zero_le _
  · injection hv with _ _ h3; subst h3; exact hc

end Go.Proofs.YtidhiaaicmfabaaGreat

/- The document's machine in a scan: its memory; pop and push (seats .Z, .ZD alone). -/
namespace Go.Proofs.YtidhiaaicmfabaaGreat
open Go.RowKit Go.Proofs Go.Deep

/-- A machine of the document's: what stands still in a scan. -/
structure Dk where
  w0 : World
  bm : Nat
  bx : Nat
  bd : Nat
  capD : Nat
  bc : Nat
  acc : Option Addr
  capc : Nat
  base : Nat
  c : Nat → Nat
  N : Nat → Int
  To : Nat → Int
  inn : Nat → Int
  M : Md
  ov : Value
  delta : Int
def docG (bx bc nC : Nat) (ov : Value) (e dl : Int) (sv rv : Value) (dn : Int) (j : Nat) : Value :=
  if j = 0 then .pointer (some ⟨bx, 0, none⟩) else if j = 1 then .slice (some ⟨bc, 0, none⟩) nC nC else if j = 2 then ov else if j = 3 then .int .i64 e
  else if j = 4 then .int .i64 dn else if j = 5 then sv else if j = 6 then rv else .int .i64 dl
def docF (D : Dk) (sv rv : Value) (dn : Int) : Nat → Value := docG D.bx D.bc D.M.nC D.ov 0 D.delta sv rv dn
def cintV (C : Nat → Int) (i _f : Nat) : Value := .int .i64 (C i)
def kindA (rl kd : Nat → Nat) (i f : Nat) : Value := if f = 0 then .int .i64 (rl i : Int) else .int .i64 (kd i : Int)
theorem kindA_0 {rl kd : Nat → Nat} {i : Nat} : kindA rl kd i 0 = .int .i64 (rl i : Int) := rfl
theorem kindA_1 {rl kd : Nat → Nat} {i : Nat} : kindA rl kd i 1 = .int .i64 (kd i : Int) := rfl
theorem Tab.int {w : World} {b n cap : Nat} {C : Nat → Int} (h : Tab w b 3 1 n cap (cintV C)) {i : Nat} (hi : i < n) : w.cell? ⟨b, i, none⟩ = some (.int .i64 (C i)) := by
  have := h.cell hi (f := 0) (by omega)
  rwa [Nat.mul_one, Nat.add_zero] at this
structure DkOk (D : Dk) : Prop where
  bm : D.bm < D.base
  bx : D.bx < D.base
  bd : D.bd < D.base
  bc : D.bc < D.base
  mc : D.bm ≠ D.bc
  xm : D.bx ≠ D.bm
  xc : D.bx ≠ D.bc
  dm : D.bd ≠ D.bm
  dc : D.bd ≠ D.bc
  size : D.base ≤ D.w0.heap.size
  n : D.M.n ≤ 8000
  nC : D.M.nC ≤ 100
  dl : 0 ≤ D.delta ∧ D.delta ≤ 1000000
  blk : Blk D.w0 D.bx #[.slice D.acc D.M.nC D.capc, .slice (some ⟨D.bd, 0, none⟩) D.M.n D.capD, .int .i64 D.M.bd] 65
  tab : Tab D.w0 D.bd 109 6 D.M.n D.capD (codeA D.M.at_ D.M.op D.c D.N D.To D.inn)
  kinds : 0 < D.M.nC → ∃ bk, D.acc = some ⟨bk, 0, none⟩ ∧ bk < D.base ∧ bk ≠ D.bm ∧ bk ≠ D.bc ∧ Tab D.w0 bk 104 2 D.M.nC D.capc (kindA D.M.rl D.M.kd)
  kd : ∀ i, D.M.kd i ≤ 2
  a1 : ∀ i, i < D.M.n → (D.M.op i = 1 ∨ D.M.op i = 19) → D.M.arg i = D.N i
  ac : ∀ i, i < D.M.n → (D.M.op i = 2 ∨ D.M.op i = 3 ∨ D.M.op i = 4 ∨ D.M.op i = 5 ∨ D.M.op i = 21) → D.M.arg i = (D.c i : Int)
  an : ∀ i, i < D.M.n → (D.M.op i = 4 ∨ D.M.op i = 5) → D.M.cnt i = D.N i ∧ ∀ k : Nat, (k : Int) < D.N i → D.M.kd (D.c i + k) = D.M.kd (D.c i)
  at_ : ∀ i, i < D.M.n → (D.M.op i = 17 ∨ D.M.op i = 18) → D.M.to_ i = D.To i
  al : ∀ i, i < D.M.n → D.M.op i = 20 → D.M.lp i = D.To i
  hN : ∀ i, in32 (D.N i)
  n1 : ∀ i, i < D.M.n → (D.M.op i = 4 ∨ D.M.op i = 5) → 1 ≤ D.N i
/-- The memory of a scan of the document's machine, less its stack and its open FORs. -/
structure DM (D : Dk) (sv rv : Value) (dn : Int) (C : Nat → Int) (w : World) : Prop where
  fr : Twain D.bm D.bc D.base D.w0 w
  row : w.rowIs D.bm 67 8 (docF D sv rv dn)
  cel : Tab w D.bc 3 1 D.M.nC D.M.nC (cintV C)
/-- A scan of the document's machine on its way. -/
structure DS (D : Dk) (dn : Int) (C : Nat → Int) (Lf S : List Int) (w : World) : Prop where
  ex : ∃ sv rv, DM D sv rv dn C w ∧ w.ownsRow D.base 3 1 sv S.length (i64L S) ∧ w.ownsRow D.base 3 1 rv Lf.length (i64L Lf) ∧ (sv.ownBlock = none ∨ sv.ownBlock ≠ rv.ownBlock)
  hC : ∀ j, in32 (C j)
  hS : ∀ x ∈ S, in32 x
section
variable {D : Dk} {sv rv : Value} {dn : Int} {C : Nat → Int} {w w' : World}
theorem DM.below (hD : DkOk D) (h : DM D sv rv dn C w) (hb : Below D.base w w') : DM D sv rv dn C w' :=
  ⟨⟨hb.os.trans h.fr.os, hb.tape.trans h.fr.tape, hb.output.trans h.fr.output, Nat.le_trans h.fr.size hb.size, fun k hk h1 h2 => (hb.block k hk).trans (h.fr.block k hk h1 h2)⟩,
    h.row.of_block (hb.block _ hD.bm), h.cel.of_block (hb.block _ hD.bc)⟩
theorem DM.alloc (hD : DkOk D) (h : DM D sv rv dn C w) (o : Obj) : DM D sv rv dn C (w.alloc o) := h.below hD ((Below.refl _ _).alloc h.fr.size o)
theorem DM.drew (hD : DkOk D) (h : DM D sv rv dn C w) : DM D sv rv dn C w.drew := h.below hD (Below.refl _ _).drew
theorem DM.setRow (hD : DkOk D) (h : DM D sv rv dn C w) (j : Nat) (v : Value) {sv' rv' : Value} {dn' : Int} (e : ∀ i, i < 8 → (if i = j then v else docF D sv rv dn i) = docF D sv' rv' dn' i) :
    DM D sv' rv' dn' C (w.setCell ⟨D.bm, j, none⟩ v) :=
  ⟨⟨h.fr.os, h.fr.tape, h.fr.output, by rw [World.size_setCell]; exact h.fr.size, fun k hk h1 h2 => by rw [Below.heap_setCell _ _ _ _ h1]; exact h.fr.block k hk h1 h2⟩,
    (h.row.set j v).congr e, h.cel.setOther (Ne.symm hD.mc) _⟩
theorem DM.setDn (hD : DkOk D) (h : DM D sv rv dn C w) (x : Int) : DM D sv rv x C (w.setCell ⟨D.bm, 4, none⟩ (.int .i64 x)) := h.setRow hD 4 _ (fun i _ => by unfold docF docG; by_cases e : i = 4 <;> simp [e])
theorem DM.setSv (hD : DkOk D) (h : DM D sv rv dn C w) (x : Value) : DM D x rv dn C (w.setCell ⟨D.bm, 5, none⟩ x) := h.setRow hD 5 _ (fun i _ => by unfold docF docG; by_cases e : i = 5 <;> simp [e])
theorem DM.setRv (hD : DkOk D) (h : DM D sv rv dn C w) (x : Value) : DM D sv x dn C (w.setCell ⟨D.bm, 6, none⟩ x) := h.setRow hD 6 _ (fun i _ => by unfold docF docG; by_cases e : i = 6 <;> simp [e])
theorem DM.setC (h : DM D sv rv dn C w) (hD : DkOk D) (c : Nat) (x : Int) : DM D sv rv dn (upd C c x) (w.setCell ⟨D.bc, c, none⟩ (.int .i64 x)) :=
  ⟨⟨h.fr.os, h.fr.tape, h.fr.output, by rw [World.size_setCell]; exact h.fr.size, fun k hk h1 h2 => by rw [Below.heap_setCell _ _ _ _ h2]; exact h.fr.block k hk h1 h2⟩,
    h.row.setOther hD.mc _, by
      have h1 := h.cel.set c 0 (by omega) (.int .i64 x)
      rw [Nat.mul_one, Nat.add_zero] at h1
      refine h1.congr (fun j _ g hg => ?_)
      have hg0 : g = 0 := by omega
      subst hg0
      by_cases e : j = c <;> simp [cintV, upd, e]⟩
theorem DM.c0 (h : DM D sv rv dn C w) : w.cell? ⟨D.bm, 0, none⟩ = some (.pointer (some ⟨D.bx, 0, none⟩)) := h.row.cell (i := 0) (by omega)
theorem DM.c1 (h : DM D sv rv dn C w) : w.cell? ⟨D.bm, 1, none⟩ = some (.slice (some ⟨D.bc, 0, none⟩) D.M.nC D.M.nC) := h.row.cell (i := 1) (by omega)
theorem DM.c2 (h : DM D sv rv dn C w) : w.cell? ⟨D.bm, 2, none⟩ = some D.ov := h.row.cell (i := 2) (by omega)
theorem DM.c3 (h : DM D sv rv dn C w) : w.cell? ⟨D.bm, 3, none⟩ = some (.int .i64 0) := h.row.cell (i := 3) (by omega)
theorem DM.c4 (h : DM D sv rv dn C w) : w.cell? ⟨D.bm, 4, none⟩ = some (.int .i64 dn) := h.row.cell (i := 4) (by omega)
theorem DM.c5 (h : DM D sv rv dn C w) : w.cell? ⟨D.bm, 5, none⟩ = some sv := h.row.cell (i := 5) (by omega)
theorem DM.c6 (h : DM D sv rv dn C w) : w.cell? ⟨D.bm, 6, none⟩ = some rv := h.row.cell (i := 6) (by omega)
theorem DM.c7 (h : DM D sv rv dn C w) : w.cell? ⟨D.bm, 7, none⟩ = some (.int .i64 D.delta) := h.row.cell (i := 7) (by omega)
theorem DM.img (h : DM D sv rv dn C w) (hD : DkOk D) : w.cell? ⟨D.bx, 0, none⟩ = some (.slice D.acc D.M.nC D.capc) ∧ w.cell? ⟨D.bx, 1, none⟩ = some (.slice (some ⟨D.bd, 0, none⟩) D.M.n D.capD) := by
  have hb := hD.blk.of_block (h.fr.block _ hD.bx hD.xm hD.xc)
  exact ⟨hb.cell rfl, hb.cell rfl⟩
theorem DM.code (h : DM D sv rv dn C w) (hD : DkOk D) : Tab w D.bd 109 6 D.M.n D.capD (codeA D.M.at_ D.M.op D.c D.N D.To D.inn) := hD.tab.of_block (h.fr.block _ hD.bd hD.dm hD.dc)
theorem DM.kinds (h : DM D sv rv dn C w) (hD : DkOk D) (h0 : 0 < D.M.nC) : ∃ bk, D.acc = some ⟨bk, 0, none⟩ ∧ Tab w bk 104 2 D.M.nC D.capc (kindA D.M.rl D.M.kd) := by
  obtain ⟨bk, h1, h2, h3, h4, h5⟩ := hD.kinds h0
  exact ⟨bk, h1, h5.of_block (h.fr.block _ h2 h3 h4)⟩
theorem DM.cell (h : DM D sv rv dn C w) {c : Nat} (hc : c < D.M.nC) : w.cell? ⟨D.bc, c, none⟩ = some (.int .i64 (C c)) := by
  have := h.cel.cell hc (f := 0) (by omega)
  rwa [Nat.mul_one, Nat.add_zero] at this
variable {Lf S : List Int}
theorem DS.below (hD : DkOk D) (h : DS D dn C Lf S w) (hb : Below w.heap.size w w') : DS D dn C Lf S w' := by
  obtain ⟨sv, rv, hm, hs, hr, ha⟩ := h.ex
  have hsz := hm.fr.size
  have hb' : Below D.base w w' := ⟨hb.os, hb.tape, hb.output, hb.size, fun k hk => hb.block k (by omega)⟩
  exact ⟨⟨sv, rv, hm.below hD hb', own_below hs hb, own_below hr hb, ha⟩, h.hC, h.hS⟩
theorem DS.drew (hD : DkOk D) (h : DS D dn C Lf S w) : DS D dn C Lf S w.drew := h.below hD (Below.refl _ _).drew
theorem DS.drewN (hD : DkOk D) (h : DS D dn C Lf S w) (k : Nat) : DS D dn C Lf S (w.drewN k) := h.below hD (below_drewN (Below.refl _ _) k)
theorem DS.setC (hD : DkOk D) (h : DS D dn C Lf S w) (c : Nat) (x : Int) (hx : in32 x) : DS D dn (upd C c x) Lf S (w.setCell ⟨D.bc, c, none⟩ (.int .i64 x)) := by
  obtain ⟨sv, rv, hm, hs, hr, ha⟩ := h.ex
  refine ⟨⟨sv, rv, hm.setC hD c x, own_set hs hD.bc _, own_set hr hD.bc _, ha⟩, fun j => ?_, h.hS⟩
  unfold upd; split
  · exact hx
  · exact h.hC j
theorem DS.setDn (hD : DkOk D) (h : DS D dn C Lf S w) (x : Int) : DS D x C Lf S (w.setCell ⟨D.bm, 4, none⟩ (.int .i64 x)) := by
  obtain ⟨sv, rv, hm, hs, hr, ha⟩ := h.ex
  exact ⟨⟨sv, rv, hm.setDn hD x, own_set hs hD.bm _, own_set hr hD.bm _, ha⟩, h.hC, h.hS⟩
end
/-- Blocks that are neither rows of numbers nor machines stay. -/
def Kp (w w' : World) : Prop := ∀ (k : Nat) (cur : Array Value) (T : TypeId) (fr : Nat × Nat), w.heap[k]? = some (.cells cur T fr) → T ≠ 3 → T ≠ 67 → w'.heap[k]? = w.heap[k]?
theorem Kp.refl (w : World) : Kp w w := fun _ _ _ _ _ _ _ => rfl
theorem Kp.trans {w w1 w2 : World} (h : Kp w w1) (h' : Kp w1 w2) : Kp w w2 := fun k cur T fr e n1 n2 => by
  have e1 := h k cur T fr e n1 n2
  exact (h' k cur T fr (e1.trans e) n1 n2).trans e1
theorem Kp.below {w w' : World} (h : Below w.heap.size w w') : Kp w w' := fun k _ _ _ e _ _ => h.block k (Array.getElem?_eq_some_iff.1 e).1
theorem Kp.set {w w' : World} {bm : Nat} {f : Nat → Value} {n : Nat} (h : Kp w w') (hr : w.rowIs bm 67 n f) (o : Nat) (v : Value) : Kp w (w'.setCell ⟨bm, o, none⟩ v) := fun k cur T fr e n1 n2 => by
  refine (Below.heap_setCell _ _ _ _ ?_).trans (h k cur T fr e n1 n2)
  rintro rfl
  obtain ⟨c, h1, _⟩ := hr
  rw [e] at h1
  injection h1 with h1
  injection h1 with _ h3
  exact n2 h3
theorem six_codeA {w : World} {b T n cap : Nat} {at_ op c : Nat → Nat} {N To In : Nat → Int} (h : Tab w b T 6 n cap (codeA at_ op c N To In)) {i : Nat} (hi : i < n) :
    w.cell? ⟨b, i * 6, none⟩ = some (.int .i64 (at_ i : Int)) ∧ w.cell? ⟨b, i * 6 + 1, none⟩ = some (.int .i64 (op i : Int)) ∧ w.cell? ⟨b, i * 6 + 2, none⟩ = some (.int .i64 (c i : Int)) ∧
    w.cell? ⟨b, i * 6 + 3, none⟩ = some (.int .i64 (N i)) ∧ w.cell? ⟨b, i * 6 + 4, none⟩ = some (.int .i64 (To i)) ∧ w.cell? ⟨b, i * 6 + 5, none⟩ = some (.int .i64 (In i)) :=
  ⟨h.cell0 hi (by omega), h.cell hi (f := 1) (by omega), h.cell hi (f := 2) (by omega), h.cell hi (f := 3) (by omega), h.cell hi (f := 4) (by omega), h.cell hi (f := 5) (by omega)⟩
set_option maxRecDepth 100000 in
theorem dpop_any {D : Dk} (hD : DkOk D) {dn : Int} {C : Nat → Int} {Lf S : List Int} {x : Int} {w : World} (h : DS D dn C Lf (x :: S) w) (R : Ending → World → Prop)
    (fin : ∀ w', DS D dn C Lf S w' → Kp w w' → R (.returned (.int .i64 x)) w') : Calls Tryz.prog 98 #[.pointer (some ⟨D.bm, 0, none⟩)] w R := by
  obtain ⟨sv, rv, hm, hs, hr, ha⟩ := h.ex
  obtain ⟨g, cap, rfl, hc, hbg, hgl, hgf, hgc⟩ := own_one hs (by simp)
  have c5 := hm.c5
  have hcap := own_cap hs rfl
  have g0 := hgc S.length (by simp)
  have e0 : (i64L (x :: S))[S.length]? = some (.int .i64 x) := by have := i64L_at (x :: S) 0 (by simp); simpa using this
  rw [e0] at g0
  refine rpop_any w D.bm g S.length cap x c5 (hm.row.frozen 5) hc hcap g0 R ?_
  intro W hW
  have hsz := hm.fr.size
  refine fin _ ⟨⟨_, rv, (hm.below hD ⟨hW.os, hW.tape, hW.output, hW.size, fun k hk => hW.block k (by omega)⟩).setSv hD _, own_set ?_ hD.bm _, own_set (own_below hr hW) hD.bm _, ha⟩, h.hC, fun y hy => h.hS y (List.mem_cons_of_mem _ hy)⟩ ((Kp.below hW).set hm.row _ _)
  have h2 := own_take (m := S.length) (own_below hs hW) (by simp)
  have e2 : (i64L (x :: S)).take S.length = i64L S := by have := i64L_take (x :: S) 1 (by simp); simpa using this
  rwa [e2] at h2
theorem dpush_any {D : Dk} (hD : DkOk D) {dn : Int} {C : Nat → Int} {Lf S : List Int} {w : World} (h : DS D dn C Lf S w) (h40 : S.length ≤ 40) (n : Int) (R : Ending → World → Prop)
    (fin : ∀ w', DS D dn C Lf (wrap32 n :: S) w' → Kp w w' → R (.returned (.tuple #[])) w') : Calls Tryz.prog 97 #[.pointer (some ⟨D.bm, 0, none⟩), .int .i64 n] w R := by
  obtain ⟨sv, rv, hm, hs, hr, ha⟩ := h.ex
  have hsz := hm.fr.size
  refine rpush_any w D.bm D.base sv S n hD.bm hm.fr.size hm.c5 (hm.row.frozen 5) h40 hs R ?_
  intro W v' hv hg hat
  have hB : Below D.base w W := ⟨hg.os, hg.tape, hg.output, hg.size, fun k hk => hg.block k (by omega) (fun e => by have := (hs.lt k e.symm).1; omega)⟩
  have har : rv.ownBlock = none ∨ rv.ownBlock ≠ sv.ownBlock := by
    rcases ha with e | e
    · rw [e]; cases rv.ownBlock with
      | none => exact .inl rfl
      | some k => exact .inr (by simp)
    · exact .inr (Ne.symm e)
  refine fin _ ⟨⟨v', rv, (hm.below hD hB).setSv hD _, own_set hv hD.bm _, own_set (hr.kept hg har) hD.bm _, ?_⟩, h.hC, fun y hy => ?_⟩ (Kp.set (w := w) ?_ hm.row _ _)
  · rcases hat with e | ⟨g, e, hge⟩
    · rw [e]; exact ha
    · refine .inr (fun e' => ?_)
      have := (hr.lt g (by rw [← e', e])).2
      omega
  · rcases List.mem_cons.1 hy with rfl | hy
    · exact w32_bd n
    · exact h.hS y hy
  · intro k cur T fr e n1 n2
    refine hg.block k (Array.getElem?_eq_some_iff.1 e).1 (fun e' => ?_)
    rcases hs.2 with ⟨rfl, _⟩ | ⟨g, cap, cur', rfl, _, hg', _⟩
    · cases e'
    · have : k = g := by simpa [Value.ownBlock] using e'
      subst this
      rw [e] at hg'
      injection hg' with hg'
      injection hg' with _ h3
      exact n1 h3
theorem apart_sym {a b : Value} (h : a.ownBlock = none ∨ a.ownBlock ≠ b.ownBlock) : b.ownBlock = none ∨ b.ownBlock ≠ a.ownBlock := by
  rcases h with e | e
  · rw [e]; cases b.ownBlock with
    | none => exact .inl rfl
    | some k => exact .inr (by simp)
  · exact .inr (Ne.symm e)
theorem ds_left {D : Dk} (hD : DkOk D) {sv rv rv' : Value} {dn : Int} {C : Nat → Int} {S Lf Lf' : List Int} {w W : World} (hm : DM D sv rv dn C w) (hs : w.ownsRow D.base 3 1 sv S.length (i64L S)) (hr : w.ownsRow D.base 3 1 rv Lf.length (i64L Lf))
    (ha : sv.ownBlock = none ∨ sv.ownBlock ≠ rv.ownBlock) (hC : ∀ j, in32 (C j)) (hS : ∀ x ∈ S, in32 x) (hg : w.grownBy W rv.ownBlock) (hv : W.ownsRow D.base 3 1 rv' Lf'.length (i64L Lf')) (hat : rv'.ownBlock = rv.ownBlock ∨ ∃ g, rv'.ownBlock = some g ∧ w.heap.size ≤ g) :
    DS D dn C Lf' S (W.setCell ⟨D.bm, 6, none⟩ rv') := by
  have hsz := hm.fr.size
  have hB : Below D.base w W := ⟨hg.os, hg.tape, hg.output, hg.size, fun k hk => hg.block k (by omega) (fun e => by have := (hr.lt k e.symm).1; omega)⟩
  refine ⟨⟨sv, rv', (hm.below hD hB).setRv hD _, own_set (hs.kept hg ha) hD.bm _, own_set hv hD.bm _, ?_⟩, hC, hS⟩
  rcases hat with e | ⟨g, e, hge⟩
  · rw [e]; exact ha
  · rw [e]
    cases hq : sv.ownBlock with
    | none => exact .inl rfl
    | some k =>
      refine .inr (fun e' => ?_)
      have := (hs.lt k hq).2
      have : k = g := by simpa using e'
      omega
theorem ds_setL {D : Dk} (hD : DkOk D) {sv : Value} {dn : Int} {C : Nat → Int} {S : List Int} {c : Int} {r : List Int} {g cap : Nat} {w : World} (hm : DM D sv (.slice (some ⟨g, 0, none⟩) (c :: r).length cap) dn C w)
    (hs : w.ownsRow D.base 3 1 sv S.length (i64L S)) (hr : w.ownsRow D.base 3 1 (.slice (some ⟨g, 0, none⟩) (c :: r).length cap) (c :: r).length (i64L (c :: r)))
    (ha : sv.ownBlock = none ∨ sv.ownBlock ≠ (Value.slice (some ⟨g, 0, none⟩) (c :: r).length cap).ownBlock) (x : Int) :
    DM D sv (.slice (some ⟨g, 0, none⟩) (c :: r).length cap) dn C (w.setCell ⟨g, r.length, none⟩ (.int .i64 x)) ∧ (w.setCell ⟨g, r.length, none⟩ (.int .i64 x)).ownsRow D.base 3 1 sv S.length (i64L S) ∧
    (w.setCell ⟨g, r.length, none⟩ (.int .i64 x)).ownsRow D.base 3 1 (.slice (some ⟨g, 0, none⟩) (c :: r).length cap) (c :: r).length (i64L (x :: r)) := by
  obtain ⟨h1, h2⟩ := hr.stored r.length (.int .i64 x)
  have hbg := (hr.lt g rfl).1
  have e : (i64L (c :: r)).set r.length (.int .i64 x) = i64L (x :: r) := by
    unfold i64L
    simp
  rw [e] at h1
  exact ⟨hm.below hD ((Below.refl _ _).setCell (p := ⟨g, r.length, none⟩) hbg _), hs.kept h2 ha, h1⟩
theorem cell_far {w : World} {b b' o o' : Nat} {v u : Value} (h : w.cell? ⟨b, o, none⟩ = some v) (hne : b' ≠ b) : (w.setCell ⟨b', o', none⟩ u).cell? ⟨b, o, none⟩ = some v := by
  rw [World.cell?_setCell_other _ _ _ _ (by intro e; injection e with e; exact hne e)]; exact h
theorem tab_blk {w : World} {b g T T' sz n cap : Nat} {A : Nat → Nat → Value} {cur : Array Value} {fr : Nat × Nat} (h : Tab w b T sz n cap A) (h' : w.heap[g]? = some (.cells cur T' fr)) (hT : T ≠ T') : b ≠ g := by
  rintro rfl
  obtain ⟨c, h1, _⟩ := h
  rw [h1] at h'
  injection h' with h'
  injection h' with _ h3
  exact hT h3

end Go.Proofs.YtidhiaaicmfabaaGreat
