/- The functions of the table do what their instructions say. -/
import Derived.Test.YtidhiaaicmfabaaGreatMem
import Derived.Test.YtidhiaaicmfabaaGreatSpec
import Derived.Test.YtidhiaaicmfabaaGreatRefA
import Derived.Test.YtidhiaaicmfabaaGreatRefC
import Derived.Test.YtidhiaaicmfabaaGreatSpec2
import Derived.WalkKit
import Derived.WalkSpells
import Derived.WalkLawsBesides
import Derived.Deep.OwnRows
import Derived.BigQuiet
import Derived.Handy
import Derived.Deep.Light
import Derived.Deep.RegionHeld3
import Derived.Deep.RegionWith
import Derived.Test.YtidhiaaicmfabaaGreatSemG
import Derived.Test.YtidhiaaicmfabaaGreatSemF
namespace Go.Proofs.YtidhiaaicmfabaaGreat
open Go.RowKit Go.Proofs Go.Deep

theorem cf_doEnd (args : Array Value) (w : World) : (callFunc 63 args).run Tryz.prog w = .ok (.enter 63 args) w := by kernel_rfl
theorem cf_doNum (args : Array Value) (w : World) : (callFunc 64 args).run Tryz.prog w = .ok (.enter 64 args) w := by kernel_rfl
theorem cf_doGet (args : Array Value) (w : World) : (callFunc 65 args).run Tryz.prog w = .ok (.enter 65 args) w := by kernel_rfl
theorem cf_doSet (args : Array Value) (w : World) : (callFunc 66 args).run Tryz.prog w = .ok (.enter 66 args) w := by kernel_rfl
theorem cf_doGetX (args : Array Value) (w : World) : (callFunc 67 args).run Tryz.prog w = .ok (.enter 67 args) w := by kernel_rfl
theorem cf_doSetX (args : Array Value) (w : World) : (callFunc 68 args).run Tryz.prog w = .ok (.enter 68 args) w := by kernel_rfl
theorem cf_doJump (args : Array Value) (w : World) : (callFunc 84 args).run Tryz.prog w = .ok (.enter 84 args) w := by kernel_rfl
theorem cf_doUnless (args : Array Value) (w : World) : (callFunc 85 args).run Tryz.prog w = .ok (.enter 85 args) w := by kernel_rfl
theorem cf_doFor (args : Array Value) (w : World) : (callFunc 86 args).run Tryz.prog w = .ok (.enter 86 args) w := by kernel_rfl
theorem cf_doNext (args : Array Value) (w : World) : (callFunc 87 args).run Tryz.prog w = .ok (.enter 87 args) w := by kernel_rfl
theorem cf_doTimer (args : Array Value) (w : World) : (callFunc 88 args).run Tryz.prog w = .ok (.enter 88 args) w := by kernel_rfl
theorem cf_reckoned_1 (args : Array Value) (w : World) : (callFunc 110 args).run Tryz.prog w = .ok (.enter 110 args) w := by kernel_rfl
theorem cf_divided_1 (args : Array Value) (w : World) : (callFunc 111 args).run Tryz.prog w = .ok (.enter 111 args) w := by kernel_rfl
/-- Where the table's closures lie, nothing turns while a scan is run. -/
def Apart (K : Rc) (lo : Nat) (W : World) : Prop := ∀ k, lo ≤ k → k < W.heap.size → K.w0.heap[k]? = W.heap[k]? ∧ k < K.base ∧ k ≠ K.br ∧ k ≠ K.bc
theorem Rk.now {K : Rc} {lo : Nat} {W w : World} {v : Value} {G F : Nat} {dn : Int} {q : Sc} {S : List Int} (h : Rk lo W v G F) (ha : Apart K lo W) (hr : RS K dn q S w) :
    ∃ g, v = .func (.func G) #[] #[.pointer (some ⟨g, 0, none⟩)] ∧ w.cell? ⟨g, 0, none⟩ = some (.func (.func F) #[] #[]) := by
  obtain ⟨g, h1, h2, h3, h4⟩ := h
  obtain ⟨a1, a2, a3, a4⟩ := ha g h1 h2
  obtain ⟨sv, rv, hm, _⟩ := hr.ex
  refine ⟨g, h3, ?_⟩
  rw [World.cell?_of_block (w := W) (a := ⟨g, 0, none⟩) ((hm.fr.block g a2 a3 a4).trans a1)]
  exact h4
theorem RS.q {K : Rc} {dn : Int} {q q' : Sc} {S : List Int} {w : World} (h : RS K dn q S w) (e : q = q') : RS K dn q' S w := e ▸ h
section
variable {K : Rc} (hK : RcOk K) {lo : Nat} {W : World} (hat : FvAt lo W K.fv) (ha : Apart K lo W)
include hK hat in
theorem fv0 : ∃ F cs, K.fv 0 = .func (.func F) #[] cs ∧ (∀ args w, (callFunc F args).run Tryz.prog w = .ok (.enter F args) w) ∧
  ∀ i dn q S w a b R, i < K.n → K.op i = 0 → RS K dn q S w → in32 a → in32 b → Side K i q →
    (∀ w', RS K dn (doesK K i a b q).1 S w' → R (.returned (.tuple #[.int .i32 (doesK K i a b q).2.1, .int .i64 (doesK K i a b q).2.2])) w') →
    Calls Tryz.prog F (#[.pointer (some ⟨K.br, 0, none⟩), .agg #[.int .u8 (K.op i : Int), .int .i64 (K.at_ i : Int), .int .i64 (K.arg i), .int .i64 (K.cnt i), .int .i64 (K.lp i), .int .i64 (K.to_ i)], .int .i32 a, .int .i32 b] ++ cs) w R := by
  refine ⟨63, #[], hat.f0, cf_doEnd, fun i dn q S w a b R hi ho hr ha hb hs fin => ?_⟩
  have e : doesK K i a b q = ({ q with ov := true }, 0, 0) := by
    unfold doesK doesV
    rw [ho]
    simp []
  rw [e] at fin
  exact doEnd_any hK hr _ _ (K.arg i) (K.cnt i) (K.lp i) (K.to_ i) a b R fin
include hK hat in
theorem fv1 : ∃ F cs, K.fv 1 = .func (.func F) #[] cs ∧ (∀ args w, (callFunc F args).run Tryz.prog w = .ok (.enter F args) w) ∧
  ∀ i dn q S w a b R, i < K.n → K.op i = 1 → RS K dn q S w → in32 a → in32 b → Side K i q →
    (∀ w', RS K dn (doesK K i a b q).1 S w' → R (.returned (.tuple #[.int .i32 (doesK K i a b q).2.1, .int .i64 (doesK K i a b q).2.2])) w') →
    Calls Tryz.prog F (#[.pointer (some ⟨K.br, 0, none⟩), .agg #[.int .u8 (K.op i : Int), .int .i64 (K.at_ i : Int), .int .i64 (K.arg i), .int .i64 (K.cnt i), .int .i64 (K.lp i), .int .i64 (K.to_ i)], .int .i32 a, .int .i32 b] ++ cs) w R := by
  refine ⟨64, #[], hat.f1, cf_doNum, fun i dn q S w a b R hi ho hr ha hb hs fin => ?_⟩
  have e : doesK K i a b q = (q, wrap32 (K.arg i), 0) := by
    unfold doesK doesV
    rw [ho]
    simp []
  rw [e] at fin
  exact doNum_any hK hr _ _ (K.arg i) (K.cnt i) (K.lp i) (K.to_ i) a b R fin
include hK hat in
theorem fv2 : ∃ F cs, K.fv 2 = .func (.func F) #[] cs ∧ (∀ args w, (callFunc F args).run Tryz.prog w = .ok (.enter F args) w) ∧
  ∀ i dn q S w a b R, i < K.n → K.op i = 2 → RS K dn q S w → in32 a → in32 b → Side K i q →
    (∀ w', RS K dn (doesK K i a b q).1 S w' → R (.returned (.tuple #[.int .i32 (doesK K i a b q).2.1, .int .i64 (doesK K i a b q).2.2])) w') →
    Calls Tryz.prog F (#[.pointer (some ⟨K.br, 0, none⟩), .agg #[.int .u8 (K.op i : Int), .int .i64 (K.at_ i : Int), .int .i64 (K.arg i), .int .i64 (K.cnt i), .int .i64 (K.lp i), .int .i64 (K.to_ i)], .int .i32 a, .int .i32 b] ++ cs) w R := by
  refine ⟨65, #[], hat.f2, cf_doGet, fun i dn q S w a b R hi ho hr ha hb hs fin => ?_⟩
  obtain ⟨c, hc, hcn⟩ := hs.cell (by omega)
  have e : doesK K i a b q = (q, q.C c, 0) := by
    unfold doesK doesV
    rw [ho]
    simp [hc]
  rw [e] at fin
  exact doGet_any hK hr _ _ (K.arg i) (K.cnt i) (K.lp i) (K.to_ i) a b c hc hcn R fin
include hK hat in
theorem fv3 : ∃ F cs, K.fv 3 = .func (.func F) #[] cs ∧ (∀ args w, (callFunc F args).run Tryz.prog w = .ok (.enter F args) w) ∧
  ∀ i dn q S w a b R, i < K.n → K.op i = 3 → RS K dn q S w → in32 a → in32 b → Side K i q →
    (∀ w', RS K dn (doesK K i a b q).1 S w' → R (.returned (.tuple #[.int .i32 (doesK K i a b q).2.1, .int .i64 (doesK K i a b q).2.2])) w') →
    Calls Tryz.prog F (#[.pointer (some ⟨K.br, 0, none⟩), .agg #[.int .u8 (K.op i : Int), .int .i64 (K.at_ i : Int), .int .i64 (K.arg i), .int .i64 (K.cnt i), .int .i64 (K.lp i), .int .i64 (K.to_ i)], .int .i32 a, .int .i32 b] ++ cs) w R := by
  refine ⟨66, #[], hat.f3, cf_doSet, fun i dn q S w a b R hi ho hr ha hb hs fin => ?_⟩
  obtain ⟨c, hc, hcn⟩ := hs.cell (by omega)
  have e : doesK K i a b q = ({ q with C := upd q.C c (layK (K.kd c) a) }, 0, 0) := by
    unfold doesK doesV
    rw [ho]
    simp [hc]
  rw [e] at fin
  exact doSet_any hK hr _ _ (K.arg i) (K.cnt i) (K.lp i) (K.to_ i) a b c hc hcn ha R fin
include hK hat in
theorem fv4 : ∃ F cs, K.fv 4 = .func (.func F) #[] cs ∧ (∀ args w, (callFunc F args).run Tryz.prog w = .ok (.enter F args) w) ∧
  ∀ i dn q S w a b R, i < K.n → K.op i = 4 → RS K dn q S w → in32 a → in32 b → Side K i q →
    (∀ w', RS K dn (doesK K i a b q).1 S w' → R (.returned (.tuple #[.int .i32 (doesK K i a b q).2.1, .int .i64 (doesK K i a b q).2.2])) w') →
    Calls Tryz.prog F (#[.pointer (some ⟨K.br, 0, none⟩), .agg #[.int .u8 (K.op i : Int), .int .i64 (K.at_ i : Int), .int .i64 (K.arg i), .int .i64 (K.cnt i), .int .i64 (K.lp i), .int .i64 (K.to_ i)], .int .i32 a, .int .i32 b] ++ cs) w R := by
  refine ⟨67, #[], hat.f4, cf_doGetX, fun i dn q S w a b R hi ho hr ha hb hs fin => ?_⟩
  obtain ⟨c, n, hc, hn, hcn⟩ := hs.cells (by omega)
  have e : doesK K i a b q = (q, if 0 ≤ a ∧ a < K.cnt i then q.C (K.arg i + a).toNat else 0, if 0 ≤ a ∧ a < K.cnt i then 0 else 5) := by
    unfold doesK doesV
    rw [ho]
    by_cases h : 0 ≤ a ∧ a < K.cnt i
    · rw [if_pos h, if_pos h]; simp [h]
    · rw [if_neg h, if_neg h]; simp only [h, if_false]; rfl
  rw [e] at fin
  exact doGetX_any hK hr _ _ (K.arg i) (K.cnt i) (K.lp i) (K.to_ i) a b c n hc hn hcn ha R fin
include hK hat in
theorem fv5 : ∃ F cs, K.fv 5 = .func (.func F) #[] cs ∧ (∀ args w, (callFunc F args).run Tryz.prog w = .ok (.enter F args) w) ∧
  ∀ i dn q S w a b R, i < K.n → K.op i = 5 → RS K dn q S w → in32 a → in32 b → Side K i q →
    (∀ w', RS K dn (doesK K i a b q).1 S w' → R (.returned (.tuple #[.int .i32 (doesK K i a b q).2.1, .int .i64 (doesK K i a b q).2.2])) w') →
    Calls Tryz.prog F (#[.pointer (some ⟨K.br, 0, none⟩), .agg #[.int .u8 (K.op i : Int), .int .i64 (K.at_ i : Int), .int .i64 (K.arg i), .int .i64 (K.cnt i), .int .i64 (K.lp i), .int .i64 (K.to_ i)], .int .i32 a, .int .i32 b] ++ cs) w R := by
  refine ⟨68, #[], hat.f5, cf_doSetX, fun i dn q S w a b R hi ho hr ha hb hs fin => ?_⟩
  obtain ⟨c, n, hc, hn, hcn⟩ := hs.cells (by omega)
  have e : doesK K i a b q = ((if 0 ≤ a ∧ a < K.cnt i then { q with C := upd q.C (K.arg i + a).toNat (layK (K.kd (K.arg i + a).toNat) b) } else q), 0, if 0 ≤ a ∧ a < K.cnt i then 0 else 5) := by
    unfold doesK doesV
    rw [ho]
    by_cases h : 0 ≤ a ∧ a < K.cnt i
    · rw [if_pos h, if_pos h]; simp [h]
    · rw [if_neg h, if_neg h]; simp only [h, if_false]; rfl
  rw [e] at fin
  exact doSetX_any hK hr _ _ (K.arg i) (K.cnt i) (K.lp i) (K.to_ i) a b c n hc hn hcn ha hb R fin
include hK hat ha in
theorem fv6 : ∃ F cs, K.fv 6 = .func (.func F) #[] cs ∧ (∀ args w, (callFunc F args).run Tryz.prog w = .ok (.enter F args) w) ∧
  ∀ i dn q S w a b R, i < K.n → K.op i = 6 → RS K dn q S w → in32 a → in32 b → Side K i q →
    (∀ w', RS K dn (doesK K i a b q).1 S w' → R (.returned (.tuple #[.int .i32 (doesK K i a b q).2.1, .int .i64 (doesK K i a b q).2.2])) w') →
    Calls Tryz.prog F (#[.pointer (some ⟨K.br, 0, none⟩), .agg #[.int .u8 (K.op i : Int), .int .i64 (K.at_ i : Int), .int .i64 (K.arg i), .int .i64 (K.cnt i), .int .i64 (K.lp i), .int .i64 (K.to_ i)], .int .i32 a, .int .i32 b] ++ cs) w R := by
  have hrk := hat.f6
  obtain ⟨g, _, _, hv, _⟩ := id hrk
  refine ⟨110, #[.pointer (some ⟨g, 0, none⟩)], hv, cf_reckoned_1, fun i dn q S w a b R hi ho hr hia hb hs fin => ?_⟩
  obtain ⟨g', hv', hg⟩ := hrk.now ha hr
  rw [hv] at hv'
  have eg : g = g' := by simpa using hv'
  subst eg
  have e : doesK K i a b q = (q, wrap32 (a + b), 0) := by
    unfold doesK doesV
    rw [ho]
    simp
  rw [e] at fin
  exact rk_any w K.br g _ _ _ _ _ _ a b 70 hg (wrap32 (a + b)) cf_t1 (fun w R hR => t1_any w a b R hR) R (fun w' hb' => fin w' (hr.below hK hb'))
include hK hat ha in
theorem fv7 : ∃ F cs, K.fv 7 = .func (.func F) #[] cs ∧ (∀ args w, (callFunc F args).run Tryz.prog w = .ok (.enter F args) w) ∧
  ∀ i dn q S w a b R, i < K.n → K.op i = 7 → RS K dn q S w → in32 a → in32 b → Side K i q →
    (∀ w', RS K dn (doesK K i a b q).1 S w' → R (.returned (.tuple #[.int .i32 (doesK K i a b q).2.1, .int .i64 (doesK K i a b q).2.2])) w') →
    Calls Tryz.prog F (#[.pointer (some ⟨K.br, 0, none⟩), .agg #[.int .u8 (K.op i : Int), .int .i64 (K.at_ i : Int), .int .i64 (K.arg i), .int .i64 (K.cnt i), .int .i64 (K.lp i), .int .i64 (K.to_ i)], .int .i32 a, .int .i32 b] ++ cs) w R := by
  have hrk := hat.f7
  obtain ⟨g, _, _, hv, _⟩ := id hrk
  refine ⟨110, #[.pointer (some ⟨g, 0, none⟩)], hv, cf_reckoned_1, fun i dn q S w a b R hi ho hr hia hb hs fin => ?_⟩
  obtain ⟨g', hv', hg⟩ := hrk.now ha hr
  rw [hv] at hv'
  have eg : g = g' := by simpa using hv'
  subst eg
  have e : doesK K i a b q = (q, wrap32 (a - b), 0) := by
    unfold doesK doesV
    rw [ho]
    simp
  rw [e] at fin
  exact rk_any w K.br g _ _ _ _ _ _ a b 71 hg (wrap32 (a - b)) cf_t2 (fun w R hR => t2_any w a b R hR) R (fun w' hb' => fin w' (hr.below hK hb'))
include hK hat ha in
theorem fv8 : ∃ F cs, K.fv 8 = .func (.func F) #[] cs ∧ (∀ args w, (callFunc F args).run Tryz.prog w = .ok (.enter F args) w) ∧
  ∀ i dn q S w a b R, i < K.n → K.op i = 8 → RS K dn q S w → in32 a → in32 b → Side K i q →
    (∀ w', RS K dn (doesK K i a b q).1 S w' → R (.returned (.tuple #[.int .i32 (doesK K i a b q).2.1, .int .i64 (doesK K i a b q).2.2])) w') →
    Calls Tryz.prog F (#[.pointer (some ⟨K.br, 0, none⟩), .agg #[.int .u8 (K.op i : Int), .int .i64 (K.at_ i : Int), .int .i64 (K.arg i), .int .i64 (K.cnt i), .int .i64 (K.lp i), .int .i64 (K.to_ i)], .int .i32 a, .int .i32 b] ++ cs) w R := by
  have hrk := hat.f8
  obtain ⟨g, _, _, hv, _⟩ := id hrk
  refine ⟨110, #[.pointer (some ⟨g, 0, none⟩)], hv, cf_reckoned_1, fun i dn q S w a b R hi ho hr hia hb hs fin => ?_⟩
  obtain ⟨g', hv', hg⟩ := hrk.now ha hr
  rw [hv] at hv'
  have eg : g = g' := by simpa using hv'
  subst eg
  have e : doesK K i a b q = (q, wrap32 (a * b), 0) := by
    unfold doesK doesV
    rw [ho]
    simp
  rw [e] at fin
  exact rk_any w K.br g _ _ _ _ _ _ a b 72 hg (wrap32 (a * b)) cf_t3 (fun w R hR => t3_any w a b R hR) R (fun w' hb' => fin w' (hr.below hK hb'))
include hK hat ha in
theorem fv9 : ∃ F cs, K.fv 9 = .func (.func F) #[] cs ∧ (∀ args w, (callFunc F args).run Tryz.prog w = .ok (.enter F args) w) ∧
  ∀ i dn q S w a b R, i < K.n → K.op i = 9 → RS K dn q S w → in32 a → in32 b → Side K i q →
    (∀ w', RS K dn (doesK K i a b q).1 S w' → R (.returned (.tuple #[.int .i32 (doesK K i a b q).2.1, .int .i64 (doesK K i a b q).2.2])) w') →
    Calls Tryz.prog F (#[.pointer (some ⟨K.br, 0, none⟩), .agg #[.int .u8 (K.op i : Int), .int .i64 (K.at_ i : Int), .int .i64 (K.arg i), .int .i64 (K.cnt i), .int .i64 (K.lp i), .int .i64 (K.to_ i)], .int .i32 a, .int .i32 b] ++ cs) w R := by
  have hrk := hat.f9
  obtain ⟨g, _, _, hv, _⟩ := id hrk
  refine ⟨111, #[.pointer (some ⟨g, 0, none⟩)], hv, cf_divided_1, fun i dn q S w a b R hi ho hr hia hb hs fin => ?_⟩
  obtain ⟨g', hv', hg⟩ := hrk.now ha hr
  rw [hv] at hv'
  have eg : g = g' := by simpa using hv'
  subst eg
  have e : doesK K i a b q = (q, (if b = 0 then 0 else wrap32 (a.tdiv b)), (if b = 0 then 4 else 0)) := by
    unfold doesK doesV
    rw [ho]
    by_cases h : b = 0 <;> simp [h]
  rw [e] at fin
  exact dv_any w K.br g _ _ _ _ _ _ a b 74 hg (wrap32 (a.tdiv b)) cf_t4 (fun h0 w R hR => t4_any w a b h0 R hR) R (fun w' hb' => fin w' (hr.below hK hb'))
include hK hat ha in
theorem fv10 : ∃ F cs, K.fv 10 = .func (.func F) #[] cs ∧ (∀ args w, (callFunc F args).run Tryz.prog w = .ok (.enter F args) w) ∧
  ∀ i dn q S w a b R, i < K.n → K.op i = 10 → RS K dn q S w → in32 a → in32 b → Side K i q →
    (∀ w', RS K dn (doesK K i a b q).1 S w' → R (.returned (.tuple #[.int .i32 (doesK K i a b q).2.1, .int .i64 (doesK K i a b q).2.2])) w') →
    Calls Tryz.prog F (#[.pointer (some ⟨K.br, 0, none⟩), .agg #[.int .u8 (K.op i : Int), .int .i64 (K.at_ i : Int), .int .i64 (K.arg i), .int .i64 (K.cnt i), .int .i64 (K.lp i), .int .i64 (K.to_ i)], .int .i32 a, .int .i32 b] ++ cs) w R := by
  have hrk := hat.f10
  obtain ⟨g, _, _, hv, _⟩ := id hrk
  refine ⟨111, #[.pointer (some ⟨g, 0, none⟩)], hv, cf_divided_1, fun i dn q S w a b R hi ho hr hia hb hs fin => ?_⟩
  obtain ⟨g', hv', hg⟩ := hrk.now ha hr
  rw [hv] at hv'
  have eg : g = g' := by simpa using hv'
  subst eg
  have e : doesK K i a b q = (q, (if b = 0 then 0 else a.tmod b), (if b = 0 then 4 else 0)) := by
    unfold doesK doesV
    rw [ho]
    by_cases h : b = 0 <;> simp [h]
  rw [e] at fin
  exact dv_any w K.br g _ _ _ _ _ _ a b 75 hg (a.tmod b) cf_t5 (fun h0 w R hR => t5_any w a b h0 R hR) R (fun w' hb' => fin w' (hr.below hK hb'))
include hK hat ha in
theorem fv11 : ∃ F cs, K.fv 11 = .func (.func F) #[] cs ∧ (∀ args w, (callFunc F args).run Tryz.prog w = .ok (.enter F args) w) ∧
  ∀ i dn q S w a b R, i < K.n → K.op i = 11 → RS K dn q S w → in32 a → in32 b → Side K i q →
    (∀ w', RS K dn (doesK K i a b q).1 S w' → R (.returned (.tuple #[.int .i32 (doesK K i a b q).2.1, .int .i64 (doesK K i a b q).2.2])) w') →
    Calls Tryz.prog F (#[.pointer (some ⟨K.br, 0, none⟩), .agg #[.int .u8 (K.op i : Int), .int .i64 (K.at_ i : Int), .int .i64 (K.arg i), .int .i64 (K.cnt i), .int .i64 (K.lp i), .int .i64 (K.to_ i)], .int .i32 a, .int .i32 b] ++ cs) w R := by
  have hrk := hat.f11
  obtain ⟨g, _, _, hv, _⟩ := id hrk
  refine ⟨110, #[.pointer (some ⟨g, 0, none⟩)], hv, cf_reckoned_1, fun i dn q S w a b R hi ho hr hia hb hs fin => ?_⟩
  obtain ⟨g', hv', hg⟩ := hrk.now ha hr
  rw [hv] at hv'
  have eg : g = g' := by simpa using hv'
  subst eg
  have e : doesK K i a b q = (q, tr (a == b), 0) := by
    unfold doesK doesV
    rw [ho]
    simp
  rw [e] at fin
  exact rk_any w K.br g _ _ _ _ _ _ a b 76 hg (tr (a == b)) cf_t6 (fun w R hR => t6_any w a b R hR) R (fun w' hb' => fin w' (hr.below hK hb'))
include hK hat ha in
theorem fv12 : ∃ F cs, K.fv 12 = .func (.func F) #[] cs ∧ (∀ args w, (callFunc F args).run Tryz.prog w = .ok (.enter F args) w) ∧
  ∀ i dn q S w a b R, i < K.n → K.op i = 12 → RS K dn q S w → in32 a → in32 b → Side K i q →
    (∀ w', RS K dn (doesK K i a b q).1 S w' → R (.returned (.tuple #[.int .i32 (doesK K i a b q).2.1, .int .i64 (doesK K i a b q).2.2])) w') →
    Calls Tryz.prog F (#[.pointer (some ⟨K.br, 0, none⟩), .agg #[.int .u8 (K.op i : Int), .int .i64 (K.at_ i : Int), .int .i64 (K.arg i), .int .i64 (K.cnt i), .int .i64 (K.lp i), .int .i64 (K.to_ i)], .int .i32 a, .int .i32 b] ++ cs) w R := by
  have hrk := hat.f12
  obtain ⟨g, _, _, hv, _⟩ := id hrk
  refine ⟨110, #[.pointer (some ⟨g, 0, none⟩)], hv, cf_reckoned_1, fun i dn q S w a b R hi ho hr hia hb hs fin => ?_⟩
  obtain ⟨g', hv', hg⟩ := hrk.now ha hr
  rw [hv] at hv'
  have eg : g = g' := by simpa using hv'
  subst eg
  have e : doesK K i a b q = (q, tr (decide (a < b)), 0) := by
    unfold doesK doesV
    rw [ho]
    simp
  rw [e] at fin
  exact rk_any w K.br g _ _ _ _ _ _ a b 78 hg (tr (decide (a < b))) cf_t7 (fun w R hR => t7_any w a b R hR) R (fun w' hb' => fin w' (hr.below hK hb'))
include hK hat ha in
theorem fv13 : ∃ F cs, K.fv 13 = .func (.func F) #[] cs ∧ (∀ args w, (callFunc F args).run Tryz.prog w = .ok (.enter F args) w) ∧
  ∀ i dn q S w a b R, i < K.n → K.op i = 13 → RS K dn q S w → in32 a → in32 b → Side K i q →
    (∀ w', RS K dn (doesK K i a b q).1 S w' → R (.returned (.tuple #[.int .i32 (doesK K i a b q).2.1, .int .i64 (doesK K i a b q).2.2])) w') →
    Calls Tryz.prog F (#[.pointer (some ⟨K.br, 0, none⟩), .agg #[.int .u8 (K.op i : Int), .int .i64 (K.at_ i : Int), .int .i64 (K.arg i), .int .i64 (K.cnt i), .int .i64 (K.lp i), .int .i64 (K.to_ i)], .int .i32 a, .int .i32 b] ++ cs) w R := by
  have hrk := hat.f13
  obtain ⟨g, _, _, hv, _⟩ := id hrk
  refine ⟨110, #[.pointer (some ⟨g, 0, none⟩)], hv, cf_reckoned_1, fun i dn q S w a b R hi ho hr hia hb hs fin => ?_⟩
  obtain ⟨g', hv', hg⟩ := hrk.now ha hr
  rw [hv] at hv'
  have eg : g = g' := by simpa using hv'
  subst eg
  have e : doesK K i a b q = (q, tr (a == 0), 0) := by
    unfold doesK doesV
    rw [ho]
    simp
  rw [e] at fin
  exact rk_any w K.br g _ _ _ _ _ _ a b 79 hg (tr (a == 0)) cf_t8 (fun w R hR => t8_any w a b R hR) R (fun w' hb' => fin w' (hr.below hK hb'))
include hK hat ha in
theorem fv14 : ∃ F cs, K.fv 14 = .func (.func F) #[] cs ∧ (∀ args w, (callFunc F args).run Tryz.prog w = .ok (.enter F args) w) ∧
  ∀ i dn q S w a b R, i < K.n → K.op i = 14 → RS K dn q S w → in32 a → in32 b → Side K i q →
    (∀ w', RS K dn (doesK K i a b q).1 S w' → R (.returned (.tuple #[.int .i32 (doesK K i a b q).2.1, .int .i64 (doesK K i a b q).2.2])) w') →
    Calls Tryz.prog F (#[.pointer (some ⟨K.br, 0, none⟩), .agg #[.int .u8 (K.op i : Int), .int .i64 (K.at_ i : Int), .int .i64 (K.arg i), .int .i64 (K.cnt i), .int .i64 (K.lp i), .int .i64 (K.to_ i)], .int .i32 a, .int .i32 b] ++ cs) w R := by
  have hrk := hat.f14
  obtain ⟨g, _, _, hv, _⟩ := id hrk
  refine ⟨110, #[.pointer (some ⟨g, 0, none⟩)], hv, cf_reckoned_1, fun i dn q S w a b R hi ho hr hia hb hs fin => ?_⟩
  obtain ⟨g', hv', hg⟩ := hrk.now ha hr
  rw [hv] at hv'
  have eg : g = g' := by simpa using hv'
  subst eg
  have e : doesK K i a b q = (q, tr (a != 0 && b != 0), 0) := by
    unfold doesK doesV
    rw [ho]
    simp
  rw [e] at fin
  exact rk_any w K.br g _ _ _ _ _ _ a b 80 hg (tr (a != 0 && b != 0)) cf_t9 (fun w R hR => t9_any w a b R hR) R (fun w' hb' => fin w' (hr.below hK hb'))
include hK hat ha in
theorem fv15 : ∃ F cs, K.fv 15 = .func (.func F) #[] cs ∧ (∀ args w, (callFunc F args).run Tryz.prog w = .ok (.enter F args) w) ∧
  ∀ i dn q S w a b R, i < K.n → K.op i = 15 → RS K dn q S w → in32 a → in32 b → Side K i q →
    (∀ w', RS K dn (doesK K i a b q).1 S w' → R (.returned (.tuple #[.int .i32 (doesK K i a b q).2.1, .int .i64 (doesK K i a b q).2.2])) w') →
    Calls Tryz.prog F (#[.pointer (some ⟨K.br, 0, none⟩), .agg #[.int .u8 (K.op i : Int), .int .i64 (K.at_ i : Int), .int .i64 (K.arg i), .int .i64 (K.cnt i), .int .i64 (K.lp i), .int .i64 (K.to_ i)], .int .i32 a, .int .i32 b] ++ cs) w R := by
  have hrk := hat.f15
  obtain ⟨g, _, _, hv, _⟩ := id hrk
  refine ⟨110, #[.pointer (some ⟨g, 0, none⟩)], hv, cf_reckoned_1, fun i dn q S w a b R hi ho hr hia hb hs fin => ?_⟩
  obtain ⟨g', hv', hg⟩ := hrk.now ha hr
  rw [hv] at hv'
  have eg : g = g' := by simpa using hv'
  subst eg
  have e : doesK K i a b q = (q, tr (a != 0 || b != 0), 0) := by
    unfold doesK doesV
    rw [ho]
    simp
  rw [e] at fin
  exact rk_any w K.br g _ _ _ _ _ _ a b 81 hg (tr (a != 0 || b != 0)) cf_t10 (fun w R hR => t10_any w a b R hR) R (fun w' hb' => fin w' (hr.below hK hb'))
include hK hat ha in
theorem fv16 : ∃ F cs, K.fv 16 = .func (.func F) #[] cs ∧ (∀ args w, (callFunc F args).run Tryz.prog w = .ok (.enter F args) w) ∧
  ∀ i dn q S w a b R, i < K.n → K.op i = 16 → RS K dn q S w → in32 a → in32 b → Side K i q →
    (∀ w', RS K dn (doesK K i a b q).1 S w' → R (.returned (.tuple #[.int .i32 (doesK K i a b q).2.1, .int .i64 (doesK K i a b q).2.2])) w') →
    Calls Tryz.prog F (#[.pointer (some ⟨K.br, 0, none⟩), .agg #[.int .u8 (K.op i : Int), .int .i64 (K.at_ i : Int), .int .i64 (K.arg i), .int .i64 (K.cnt i), .int .i64 (K.lp i), .int .i64 (K.to_ i)], .int .i32 a, .int .i32 b] ++ cs) w R := by
  have hrk := hat.f16
  obtain ⟨g, _, _, hv, _⟩ := id hrk
  refine ⟨110, #[.pointer (some ⟨g, 0, none⟩)], hv, cf_reckoned_1, fun i dn q S w a b R hi ho hr hia hb hs fin => ?_⟩
  obtain ⟨g', hv', hg⟩ := hrk.now ha hr
  rw [hv] at hv'
  have eg : g = g' := by simpa using hv'
  subst eg
  have e : doesK K i a b q = (q, IntKind.i16.wrap a, 0) := by
    unfold doesK doesV
    rw [ho]
    simp
  rw [e] at fin
  exact rk_any w K.br g _ _ _ _ _ _ a b 82 hg (IntKind.i16.wrap a) cf_t11 (fun w R hR => t11_any w a b hia R hR) R (fun w' hb' => fin w' (hr.below hK hb'))
include hK hat in
theorem fv17 : ∃ F cs, K.fv 17 = .func (.func F) #[] cs ∧ (∀ args w, (callFunc F args).run Tryz.prog w = .ok (.enter F args) w) ∧
  ∀ i dn q S w a b R, i < K.n → K.op i = 17 → RS K dn q S w → in32 a → in32 b → Side K i q →
    (∀ w', RS K dn (doesK K i a b q).1 S w' → R (.returned (.tuple #[.int .i32 (doesK K i a b q).2.1, .int .i64 (doesK K i a b q).2.2])) w') →
    Calls Tryz.prog F (#[.pointer (some ⟨K.br, 0, none⟩), .agg #[.int .u8 (K.op i : Int), .int .i64 (K.at_ i : Int), .int .i64 (K.arg i), .int .i64 (K.cnt i), .int .i64 (K.lp i), .int .i64 (K.to_ i)], .int .i32 a, .int .i32 b] ++ cs) w R := by
  refine ⟨84, #[], hat.f17, cf_doJump, fun i dn q S w a b R hi ho hr ha hb hs fin => ?_⟩
  have e : doesK K i a b q = ({ q with nx := K.to_ i }, 0, 0) := by
    unfold doesK doesV
    rw [ho]
    simp []
  rw [e] at fin
  exact doJump_any hK hr _ _ (K.arg i) (K.cnt i) (K.lp i) (K.to_ i) a b R fin
include hK hat in
theorem fv18 : ∃ F cs, K.fv 18 = .func (.func F) #[] cs ∧ (∀ args w, (callFunc F args).run Tryz.prog w = .ok (.enter F args) w) ∧
  ∀ i dn q S w a b R, i < K.n → K.op i = 18 → RS K dn q S w → in32 a → in32 b → Side K i q →
    (∀ w', RS K dn (doesK K i a b q).1 S w' → R (.returned (.tuple #[.int .i32 (doesK K i a b q).2.1, .int .i64 (doesK K i a b q).2.2])) w') →
    Calls Tryz.prog F (#[.pointer (some ⟨K.br, 0, none⟩), .agg #[.int .u8 (K.op i : Int), .int .i64 (K.at_ i : Int), .int .i64 (K.arg i), .int .i64 (K.cnt i), .int .i64 (K.lp i), .int .i64 (K.to_ i)], .int .i32 a, .int .i32 b] ++ cs) w R := by
  refine ⟨85, #[], hat.f18, cf_doUnless, fun i dn q S w a b R hi ho hr ha hb hs fin => ?_⟩
  have e : doesK K i a b q = ((if a = 0 then { q with nx := K.to_ i } else q), 0, 0) := by
    unfold doesK doesV
    rw [ho]
    by_cases h : a = 0 <;> simp [h]
  rw [e] at fin
  exact doUnless_any hK hr _ _ (K.arg i) (K.cnt i) (K.lp i) (K.to_ i) a b R fin
include hK hat in
theorem fv19 : ∃ F cs, K.fv 19 = .func (.func F) #[] cs ∧ (∀ args w, (callFunc F args).run Tryz.prog w = .ok (.enter F args) w) ∧
  ∀ i dn q S w a b R, i < K.n → K.op i = 19 → RS K dn q S w → in32 a → in32 b → Side K i q →
    (∀ w', RS K dn (doesK K i a b q).1 S w' → R (.returned (.tuple #[.int .i32 (doesK K i a b q).2.1, .int .i64 (doesK K i a b q).2.2])) w') →
    Calls Tryz.prog F (#[.pointer (some ⟨K.br, 0, none⟩), .agg #[.int .u8 (K.op i : Int), .int .i64 (K.at_ i : Int), .int .i64 (K.arg i), .int .i64 (K.cnt i), .int .i64 (K.lp i), .int .i64 (K.to_ i)], .int .i32 a, .int .i32 b] ++ cs) w R := by
  refine ⟨86, #[], hat.f19, cf_doFor, fun i dn q S w a b R hi ho hr ha hb hs fin => ?_⟩
  have hl := hs.opn ho
  have e : doesK K i a b q = ({ q with Lf := K.arg i :: q.Lf }, 0, 0) := by
    unfold doesK doesV
    rw [ho]
    simp []
  rw [e] at fin
  exact doFor_any hK hr _ _ (K.arg i) (K.cnt i) (K.lp i) (K.to_ i) a b hl R fin
include hK hat in
theorem fv20 : ∃ F cs, K.fv 20 = .func (.func F) #[] cs ∧ (∀ args w, (callFunc F args).run Tryz.prog w = .ok (.enter F args) w) ∧
  ∀ i dn q S w a b R, i < K.n → K.op i = 20 → RS K dn q S w → in32 a → in32 b → Side K i q →
    (∀ w', RS K dn (doesK K i a b q).1 S w' → R (.returned (.tuple #[.int .i32 (doesK K i a b q).2.1, .int .i64 (doesK K i a b q).2.2])) w') →
    Calls Tryz.prog F (#[.pointer (some ⟨K.br, 0, none⟩), .agg #[.int .u8 (K.op i : Int), .int .i64 (K.at_ i : Int), .int .i64 (K.arg i), .int .i64 (K.cnt i), .int .i64 (K.lp i), .int .i64 (K.to_ i)], .int .i32 a, .int .i32 b] ++ cs) w R := by
  refine ⟨87, #[], hat.f20, cf_doNext, fun i dn q S w a b R hi ho hr ha hb hs fin => ?_⟩
  obtain ⟨c, r, hL, h1, h2, h3, h4, h5⟩ := hs.nxt ho
  have e : doesK K i a b q = ((if 0 < c - 1 then { q with Lf := (c - 1) :: r, nx := K.lp i + 1 } else { q with Lf := r }), 0, 0) := by
    unfold doesK doesV
    rw [ho]
    by_cases h : 1 < c
    · have h' : 0 < c - 1 := by omega
      rw [if_pos h']; simp [hL, h]
    · have h' : ¬ 0 < c - 1 := by omega
      rw [if_neg h']; simp [hL, h]
  rw [e] at fin
  exact doNext_any hK hr _ _ (K.arg i) (K.cnt i) (K.lp i) (K.to_ i) a b c r hL ⟨h1, h2⟩ h3 ⟨h4, h5⟩ R fin
include hK hat in
theorem fv21 : ∃ F cs, K.fv 21 = .func (.func F) #[] cs ∧ (∀ args w, (callFunc F args).run Tryz.prog w = .ok (.enter F args) w) ∧
  ∀ i dn q S w a b R, i < K.n → K.op i = 21 → RS K dn q S w → in32 a → in32 b → Side K i q →
    (∀ w', RS K dn (doesK K i a b q).1 S w' → R (.returned (.tuple #[.int .i32 (doesK K i a b q).2.1, .int .i64 (doesK K i a b q).2.2])) w') →
    Calls Tryz.prog F (#[.pointer (some ⟨K.br, 0, none⟩), .agg #[.int .u8 (K.op i : Int), .int .i64 (K.at_ i : Int), .int .i64 (K.arg i), .int .i64 (K.cnt i), .int .i64 (K.lp i), .int .i64 (K.to_ i)], .int .i32 a, .int .i32 b] ++ cs) w R := by
  refine ⟨88, #[], hat.f21, cf_doTimer, fun i dn q S w a b R hi ho hr ha hb hs fin => ?_⟩
  obtain ⟨c, hc, hcn⟩ := hs.cell (by omega)
  have e : doesK K i a b q = ((if a = 0 then { q with C := upd q.C c 0 } else { q with C := upd q.C c (min (q.C c + K.delta) 2147483647) }), if a = 0 then 0 else tr (decide (b ≤ min (q.C c + K.delta) 2147483647)), 0) := by
    unfold doesK doesV
    rw [ho]
    by_cases h : a = 0 <;> simp [hc, h]
  rw [e] at fin
  exact doTimer_any hK hr _ _ (K.arg i) (K.cnt i) (K.lp i) (K.to_ i) a b c hc hcn R fin
include hK hat ha in
theorem fv_ok : FvOk K := by
  intro o ho
  have hc : o = 0 ∨ o = 1 ∨ o = 2 ∨ o = 3 ∨ o = 4 ∨ o = 5 ∨ o = 6 ∨ o = 7 ∨ o = 8 ∨ o = 9 ∨ o = 10 ∨ o = 11 ∨ o = 12 ∨ o = 13 ∨ o = 14 ∨ o = 15 ∨ o = 16 ∨ o = 17 ∨ o = 18 ∨ o = 19 ∨ o = 20 ∨ o = 21 := by omega
  rcases hc with rfl | rfl | rfl | rfl | rfl | rfl | rfl | rfl | rfl | rfl | rfl | rfl | rfl | rfl | rfl | rfl | rfl | rfl | rfl | rfl | rfl | rfl
  · exact fv0 hK hat
  · exact fv1 hK hat
  · exact fv2 hK hat
  · exact fv3 hK hat
  · exact fv4 hK hat
  · exact fv5 hK hat
  · exact fv6 hK hat ha
  · exact fv7 hK hat ha
  · exact fv8 hK hat ha
  · exact fv9 hK hat ha
  · exact fv10 hK hat ha
  · exact fv11 hK hat ha
  · exact fv12 hK hat ha
  · exact fv13 hK hat ha
  · exact fv14 hK hat ha
  · exact fv15 hK hat ha
  · exact fv16 hK hat ha
  · exact fv17 hK hat
  · exact fv18 hK hat
  · exact fv19 hK hat
  · exact fv20 hK hat
  · exact fv21 hK hat
end

end Go.Proofs.YtidhiaaicmfabaaGreat
