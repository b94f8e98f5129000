/- What is popped; what the functions of the table are to do. -/
import Derived.Test.YtidhiaaicmfabaaGreatMem
import Derived.Test.YtidhiaaicmfabaaGreatSpec
import Derived.Test.YtidhiaaicmfabaaGreatRefA
import Derived.Test.YtidhiaaicmfabaaGreatRefC
import Derived.Test.YtidhiaaicmfabaaGreatSpec2
import Derived.WalkKit
import Derived.WalkSpells
import Derived.WalkLawsBesides
import Derived.Deep.OwnRows
import Derived.BigQuiet
import Derived.Handy
import Derived.Deep.Light
import Derived.Deep.RegionHeld3
import Derived.Deep.RegionWith
import Derived.Test.YtidhiaaicmfabaaGreatSemD
namespace Go.Proofs.YtidhiaaicmfabaaGreat
open Go.RowKit Go.Proofs Go.Deep

def popA (p : Nat) (S : List Int) : Int := if p = 1 then S.getD 0 0 else if p = 2 then S.getD 1 0 else 0
def popB (p : Nat) (S : List Int) : Int := if p = 2 then S.getD 0 0 else 0
theorem RS.setS {K : Rc} (hK : RcOk K) {dn : Int} {q : Sc} {S : List Int} {w : World} (h : RS K dn q S w) {p : Nat} (hp : p ≤ S.length) {sv rv : Value} (hm : RM K sv rv q.nx dn q.ov q.C w) (hs : w.ownsRow K.base 21 1 sv S.length (i32L S)) (hr : w.ownsRow K.base 3 1 rv q.Lf.length (i64L q.Lf))
    {ao : Option Addr} {cap : Nat} (hv : sv = .slice ao S.length cap) : RS K dn q (S.drop p) (w.setCell ⟨K.br, 113, none⟩ (.slice ao (S.length - p) cap)) := by
  subst hv
  have h2 := own_take (m := S.length - p) hs (by omega)
  rw [i32L_take S p hp] at h2
  have e : S.length - p = (S.drop p).length := by simp
  refine ⟨⟨_, rv, hm.setSv hK _, ?_, own_set hr hK.br _⟩, h.hC, fun x hx => h.hS x (List.mem_of_mem_drop hx)⟩
  rw [← e]
  exact own_set h2 hK.br _
set_option maxRecDepth 100000 in
theorem take_any {K : Rc} (hK : RcOk K) {dn : Int} {q : Sc} {S : List Int} {w : World} (h : RS K dn q S w) (p : Nat) (hp2 : p ≤ 2) (hp : p ≤ S.length) (h32 : S.length ≤ 40) (R : Ending → World → Prop)
    (fin : ∀ w', RS K dn q (S.drop p) w' → Only K.br w w' → R (.returned (.tuple #[.int .i32 (popA p S), .int .i32 (popB p S)])) w') :
    Calls Tryz.prog 114 #[.pointer (some ⟨K.br, 0, none⟩), .int .i64 (p : Int)] w R := by
  obtain ⟨sv, rv, hm, hs, hr⟩ := h.ex
  have hlt := hm.run.lt
  have c3 := hm.c113
  have f3 := hm.run.frozen 113
  replace fin := hd fin
  by_cases h0 : p = 0
  · subst h0
    obtain ⟨ao, cap, rfl⟩ := own_sl hs
    have h1 := hd (h.setS hK hp hm hs hr rfl)
    have hc : S.length ≤ cap := by
      rcases hs.2 with ⟨e, _⟩ | ⟨g, cap', cur, e, _, _, hc, _⟩
      · injection e; omega
      · injection e; omega
    have hao : 0 < S.length → ∃ g, ao = some ⟨g, 0, none⟩ := fun h0 => by obtain ⟨g, c, e, _⟩ := own_one hs h0; injection e with e; exact ⟨g, e⟩
    clear hm hs hr
    go_enter Tryz.func114, Tryz.ntmps114
    go_wp2
    exact cl1 (fin.out _ h1.out ((Only.refl _ _).setCell (a := ⟨K.br, 113, none⟩) (.inl rfl) _)) rfl
  · obtain ⟨g, cap, rfl, hc, hbg, hgl, hgf, hgc⟩ := own_one hs (by omega)
    have h1 := h.setS hK hp hm hs hr rfl
    by_cases hp1 : p = 1
    · subst hp1
      obtain ⟨m, hlen⟩ : ∃ m, S.length = m + 1 := ⟨S.length - 1, by omega⟩
      have g0 := hgc m (by omega)
      have e0 := i32L_at S 0 (by omega)
      rw [show S.length - 1 - 0 = m by omega] at e0
      rw [e0] at g0
      rw [hlen] at c3 h1 hc
      replace h1 := hd h1
      clear hm hs hr h hgc hgf e0
      rw [show popA 1 S = S.getD 0 0 from rfl, show popB 1 S = 0 from rfl] at fin
      generalize S.getD 0 0 = x0 at g0 fin
      go_enter Tryz.func114, Tryz.ntmps114
      go_wp2
      exact cl1 (fin.out _ h1.out ((Only.refl _ _).setCell (a := ⟨K.br, 113, none⟩) (.inl rfl) _)) rfl
    · have hp2' : p = 2 := by omega
      subst hp2'
      obtain ⟨m, hlen⟩ : ∃ m, S.length = m + 2 := ⟨S.length - 2, by omega⟩
      have g0 := hgc (m + 1) (by omega)
      have e0 := i32L_at S 0 (by omega)
      rw [show S.length - 1 - 0 = m + 1 by omega] at e0
      rw [e0] at g0
      have g1 := hgc m (by omega)
      have e1 := i32L_at S 1 (by omega)
      rw [show S.length - 1 - 1 = m by omega] at e1
      rw [e1] at g1
      rw [hlen] at c3 h1 hc
      have h2 := hd (h1.drewN hK)
      replace h1 := hd h1
      have j0 : (0 : Int) ≤ (m : Int) := by omega
      have j1 : 0 ≤ (m : Int) + 1 ∧ (m : Int) + 1 < (m : Int) + 2 := by omega
      have j2 : (m : Int) < (m : Int) + 2 := by omega
      have hwm : IntKind.i64.wrap ((m : Int) + 1) = (m : Int) + 1 := IntWalk.i64_in _ (by omega)
      clear hm hs hr h hgc hgf e0 e1
      rw [show popA 2 S = S.getD 1 0 from rfl, show popB 2 S = S.getD 0 0 from rfl] at fin
      generalize S.getD 0 0 = x0 at g0 fin
      generalize S.getD 1 0 = x1 at g1 fin
      go_enter Tryz.func114, Tryz.ntmps114
      go_wp2
      go_quiet (fail)
      go_wp2
      exact cl1 (fin.out _ (h2.out _) (((Only.refl _ _).drewN _).setCell (a := ⟨K.br, 113, none⟩) (.inl rfl) _)) rfl

/-- What must hold of a step that is to be done. -/
structure Side (K : Rc) (i : Nat) (q : Sc) : Prop where
  cell : (K.op i = 2 ∨ K.op i = 3 ∨ K.op i = 21) → ∃ c : Nat, K.arg i = (c : Int) ∧ c < K.nC
  cells : (K.op i = 4 ∨ K.op i = 5) → ∃ c n : Nat, K.arg i = (c : Int) ∧ K.cnt i = (n : Int) ∧ c + n ≤ K.nC
  opn : K.op i = 19 → q.Lf.length ≤ 10
  nxt : K.op i = 20 → ∃ c r, q.Lf = c :: r ∧ 1 ≤ c ∧ c ≤ 65535 ∧ r.length ≤ 10 ∧ -1 ≤ K.lp i ∧ K.lp i ≤ 8000
def doesK (K : Rc) (i : Nat) (a b : Int) (q : Sc) : Sc × Int × Int := doesV (K.op i) (K.arg i) (K.cnt i) (K.lp i) (K.to_ i) K.kd K.delta a b q
theorem in_ite {c : Prop} [Decidable c] {A B : Sc × Int × Int} (ha : c → in32 A.2.1) (hb : ¬ c → in32 B.2.1) : in32 (if c then A else B).2.1 := by
  split
  · exact ha (by assumption)
  · exact hb (by assumption)
theorem doesK_in (K : Rc) (i : Nat) (a b : Int) (q : Sc) (hC : ∀ j, in32 (q.C j)) (hb : in32 b) : in32 (doesK K i a b q).2.1 := by
  have z : in32 0 := by unfold in32; omega
  have ht : ∀ x, in32 (tr x) := tr_in
  have hw : ∀ x, in32 (wrap32 x) := w32_bd
  have hs : ∀ x, in32 (IntKind.i16.wrap x) := fun x => by have := i16_bd x; unfold in32; omega
  have hm : b ≠ 0 → in32 (a.tmod b) := fun h0 => by
    unfold in32 at *
    have h1 := Int.natAbs_tmod a b
    have h2 : a.natAbs % b.natAbs < b.natAbs := Nat.mod_lt _ (by omega)
    omega
  unfold doesK doesV
  repeat' (refine in_ite (fun _ => ?_) (fun _ => ?_))
  all_goals first | exact z | exact ht _ | exact hw _ | exact hs _ | exact hC _ | exact hm (by assumption) | skip
  cases q.Lf with
  | nil => exact z
  | cons c r => exact in_ite (fun _ => z) (fun _ => z)
/-- The functions of the table do what their instructions say. -/
def FvOk (K : Rc) : Prop := ∀ o, o < 22 → ∃ F cs, K.fv o = .func (.func F) #[] cs ∧ (∀ args w, (callFunc F args).run Tryz.prog w = .ok (.enter F args) w) ∧
  ∀ i dn q S w a b R, i < K.n → K.op i = o → RS K dn q S w → in32 a → in32 b → Side K i q →
    (∀ w', RS K dn (doesK K i a b q).1 S w' → R (.returned (.tuple #[.int .i32 (doesK K i a b q).2.1, .int .i64 (doesK K i a b q).2.2])) w') →
    Calls Tryz.prog F (#[.pointer (some ⟨K.br, 0, none⟩), .agg #[.int .u8 (K.op i : Int), .int .i64 (K.at_ i : Int), .int .i64 (K.arg i), .int .i64 (K.cnt i), .int .i64 (K.lp i), .int .i64 (K.to_ i)], .int .i32 a, .int .i32 b] ++ cs) w R
theorem pop_in {S : List Int} (h : ∀ x ∈ S, in32 x) (p : Nat) : in32 (popA p S) ∧ in32 (popB p S) := by
  have z : in32 0 := by unfold in32; omega
  have g : ∀ k, in32 (S.getD k 0) := fun k => by
    rw [List.getD_eq_getElem?_getD]
    cases e : S[k]? with
    | none => exact z
    | some x => exact h x (List.mem_of_getElem? e)
  unfold popA popB
  constructor <;> (repeat' split) <;> first | exact z | exact g _

end Go.Proofs.YtidhiaaicmfabaaGreat
