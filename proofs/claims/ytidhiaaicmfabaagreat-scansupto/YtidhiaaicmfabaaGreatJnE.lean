/- A machine and the document's, side by side: one round. -/
import Derived.Test.YtidhiaaicmfabaaGreatMem
import Derived.Test.YtidhiaaicmfabaaGreatSpec
import Derived.Test.YtidhiaaicmfabaaGreatRefA
import Derived.Test.YtidhiaaicmfabaaGreatRefC
import Derived.Test.YtidhiaaicmfabaaGreatSpec2
import Derived.WalkKit
import Derived.WalkSpells
import Derived.WalkLawsBesides
import Derived.Deep.OwnRows
import Derived.BigQuiet
import Derived.Handy
import Derived.Deep.Light
import Derived.Deep.RegionHeld3
import Derived.Deep.RegionWith
import Derived.Test.YtidhiaaicmfabaaGreatJnD
import Derived.Test.YtidhiaaicmfabaaGreatJnC

/- kinds and fit (seats .Z, .ZD alone). -/
namespace Go.Proofs.YtidhiaaicmfabaaGreat
open Go.RowKit Go.Proofs Go.Deep

theorem InpAt.of_own {B nb : Nat} {w : World} {v : Value} {L : List Int} (h : w.ownsRow B 3 1 v L.length (intV L)) (hnb : nb < B) : InpAt nb w v L := by
  obtain ⟨ao, cp, rfl⟩ := own_sl h
  by_cases h0 : 0 < L.length
  · obtain ⟨g, cq, e, e1, e2, e3, _, e5⟩ := own_one h h0
    injection e with e _ e'
    subst e e'
    refine ⟨_, cp, rfl, e1, .inl ⟨g, 0, rfl, by omega, fun j x hj => ?_⟩⟩
    rw [Nat.zero_add, e5 j (List.getElem?_eq_some_iff.1 hj).1]; exact intV_at hj
  · have : L = [] := List.eq_nil_of_length_eq_zero (by omega)
    subst this
    exact ⟨_, cp, rfl, by simp, .inr rfl⟩
set_option maxRecDepth 100000 in
set_option maxHeartbeats 1000000 in
theorem kinds_any (w : World) (bm bx nC capc : Nat) (acc : Option Addr) (rl kd : Nat → Nat) (hn : nC ≤ 100) (c0 : w.cell? ⟨bm, 0, none⟩ = some (.pointer (some ⟨bx, 0, none⟩)))
    (x0 : w.cell? ⟨bx, 0, none⟩ = some (.slice acc nC capc)) (hk : 0 < nC → ∃ bk, acc = some ⟨bk, 0, none⟩ ∧ Tab w bk 104 2 nC capc (kindA rl kd)) (R : Ending → World → Prop)
    (fin : ∀ v w', Below w.heap.size w w' → w'.ownsRow w.heap.size 3 1 v ((atF rl nC 0).map kd).length (natV ((atF rl nC 0).map kd)) → R (.returned v) w') :
    Calls Tryz.prog 19 #[.pointer (some ⟨bm, 0, none⟩), .int .i64 0] w R := by
  have hbm := World.block_lt_of_cell? w _ c0
  have hbx := World.block_lt_of_cell? w _ x0
  replace fin := hd fin
  replace hk := hd hk
  go_enter Tryz.func19, Tryz.ntmps19
  go_wp2
  go_loopw [5, 6] (fun v i wr => ∃ (k : Nat), k ≤ nC ∧ i = .int .i64 k ∧ wr.ownsRow w.heap.size 3 1 v ((atF rl k 0).map kd).length (natV ((atF rl k 0).map kd)) ∧ Below w.heap.size w wr) (fun _ i _ => nC - (intOf i).toNat)
  case atStart => exact ⟨0, by omega, rfl, World.ownsRow_nil _ _ _ _, Below.refl _ _⟩
  case round =>
    rename_i u3 u11
    obtain ⟨k, hk0, rfl, hown, hbel⟩ := hrel
    obtain ⟨ao, cp, rfl⟩ := own_sl hown
    have hlen := atF_len (rl := rl) k 0
    rw [← List.length_map (f := kd)] at hlen
    have d0 : wr.cell? ⟨bm, 0, none⟩ = some (.pointer (some ⟨bx, 0, none⟩)) := (hbel.cell (p := ⟨bm, 0, none⟩) hbm).trans c0
    have y0 : wr.cell? ⟨bx, 0, none⟩ = some (.slice acc nC capc) := (hbel.cell (p := ⟨bx, 0, none⟩) hbx).trans x0
    have hwr := hbel.size
    by_cases hlt : k < nC
    · obtain ⟨bk, rfl, htk⟩ := hk.out (by omega)
      have htr := htk.of_block (w' := wr) (hbel.block bk htk.lt)
      have k0 := htr.cell0 hlt (by omega)
      rw [kindA_0] at k0
      have k1 := htr.cell hlt (f := 1) (by omega)
      rw [kindA_1] at k1
      have hbk := htr.lt
      have j0 : (0 : Int) ≤ (k : Int) ∧ (k : Int) < (nC : Int) := by omega
      clear htr htk
      replace hbel := hd hbel
      have hsn := atF_snoc (rl := rl) k 0
      rw [Nat.zero_add] at hsn
      by_cases h1 : rl k = 0
      · have t1 : ((rl k : Int) == 0) = true := by simp [h1]
        rw [if_pos h1] at hsn
        replace hsn := hd hsn
        replace h1 := hd h1
        replace hown := hd hown
        go_wp2_with (first | (at_builtin; refine wpList_app _ rfl _ _ 42 rfl w.heap.size 3 _ 1 8 ulInt infoI64 rfl (by decide) _ _ _ rfl (by exact hown.out.alloc _) _ 1 1 [.int .i64 (kd k : Int)] rfl (by exact alloc_at (by simp)) rfl (oneI64 _) (by unfold maxLen; omega) (by omega) (by simp; omega) ?_; intro v1 w1 hown1 hgr1; obtain ⟨ao1, cp1, rfl⟩ := own_sl hown1; replace hown1 := hd hown1; replace hgr1 := hd hgr1))
        refine ⟨⟨k + 1, by omega, by go_num, ?_, ?_⟩, by simp [intOf]; omega⟩
        · rw [hsn.out]
          have := hown1.out
          simpa [natV] using this
        · exact (hbel.out.alloc hwr _).grown hgr1.out (by simp; omega) (fun k hk => (hown.out.lt k hk).1)
      · have t1 : ((rl k : Int) == 0) = false := by simp; omega
        rw [if_neg h1, List.append_nil] at hsn
        replace hsn := hd hsn
        replace hown := hd hown
        go_wp2
        exact ⟨⟨k + 1, by omega, by go_num, by rw [hsn.out]; exact hown.out, hbel.out⟩, by simp [intOf]; omega⟩
    · have hkn : k = nC := by omega
      subst hkn
      replace hown := hd hown
      replace hbel := hd hbel
      go_wp2
      exact cl1 (fin.out _ _ hbel.out hown.out) rfl
/-- Inputs of these kinds, out of raw ones. -/
def fitV (l : List Int) (K : List Nat) (n : Nat) : List Int := (List.range n).map (fun i => layK (K.getD i 0) (l.getD i 0))
theorem fitV_len (l : List Int) (K : List Nat) (n : Nat) : (fitV l K n).length = n := by simp [fitV]
theorem fitV_snoc (l : List Int) (K : List Nat) (n : Nat) : fitV l K (n + 1) = fitV l K n ++ [layK (K.getD n 0) (l.getD n 0)] := by simp [fitV, List.range_succ]
set_option maxRecDepth 100000 in
set_option maxHeartbeats 1000000 in
theorem fit_any (w : World) (v kv : Value) (l : List Int) (K : List Nat) {nb : Nat} (hv : InpAt nb w v l) {B : Nat} (hkv : w.ownsRow B 3 1 kv K.length (natV K)) (hK : K.length ≤ 1000) (hk2 : ∀ k ∈ K, k ≤ 2) (R : Ending → World → Prop)
    (fin : ∀ v' w', Below w.heap.size w w' → w'.ownsRow w.heap.size 3 1 v' K.length (intV (fitV l K K.length)) → R (.returned v') w') :
    Calls Tryz.prog 20 #[v, kv] w R := by
  obtain ⟨va, vcap, rfl, hvc, hvcs⟩ := hv
  have hkcell : 0 < K.length → ∃ g cp, kv = .slice (some ⟨g, 0, none⟩) K.length cp ∧ K.length ≤ cp ∧ ∀ (j a : Nat), K[j]? = some a → w.cell? ⟨g, j, none⟩ = some (.int .i64 (a : Int)) := fun h0 => by
    obtain ⟨g, cq, e, e1, e2, e3, _, e5⟩ := own_one hkv h0
    refine ⟨g, cq, e, e1, fun j x hj => ?_⟩
    rw [e5 j (List.getElem?_eq_some_iff.1 hj).1]; exact natV_at hj
  have hvcell : 0 < l.length → ∃ g o, va = some ⟨g, o, none⟩ ∧ ∀ (j : Nat) (x : Int), l[j]? = some x → w.cell? ⟨g, o + j, none⟩ = some (.int .i64 x) := fun h0 => by
    rcases hvcs with ⟨g, o, e1, _, e3⟩ | e
    · exact ⟨g, o, e1, e3⟩
    · rw [e] at h0; simp at h0
  obtain ⟨kao, kcp, rfl⟩ := own_sl hkv
  replace hkcell := hd hkcell
  replace hvcell := hd hvcell
  replace fin := hd fin
  replace hk2 := hd hk2
  clear hvcs hkv
  go_enter Tryz.func20, Tryz.ntmps20
  go_wp2
  go_loopw [5, 6] (fun o i wr => ∃ (k : Nat), k ≤ K.length ∧ i = .int .i64 k ∧ wr.ownsRow w.heap.size 3 1 o k (intV (fitV l K k)) ∧ Below w.heap.size w wr) (fun _ i _ => K.length - (intOf i).toNat)
  case atStart => exact ⟨0, by omega, rfl, World.ownsRow_nil _ _ _ _, Below.refl _ _⟩
  case round =>
    rename_i u5 u6
    obtain ⟨k, hk0, rfl, hown, hbel⟩ := hrel
    obtain ⟨ao, cp, rfl⟩ := own_sl hown
    have hwr := hbel.size
    by_cases hlt : k < K.length
    · obtain ⟨g, cq, e, hcq, hgc⟩ := hkcell.out (by omega)
      injection e with e _ e'
      subst e e'
      obtain ⟨a, ha⟩ : ∃ a, K[k]? = some a := ⟨_, List.getElem?_eq_getElem hlt⟩
      have gc : wr.cell? ⟨g, k, none⟩ = some (.int .i64 (a : Int)) := (hbel.cell (p := ⟨g, k, none⟩) (World.block_lt_of_cell? _ _ (hgc k a ha))).trans (hgc k a ha)
      have lg := World.block_lt_of_cell? _ _ gc
      have ha2 := hk2.out a (List.mem_of_getElem? ha)
      have j0 : (0 : Int) ≤ (k : Int) ∧ (k : Int) < (K.length : Int) := by omega
      have hsn := fitV_snoc l K k
      have eK : K.getD k 0 = a := by rw [List.getD_eq_getElem?_getD, ha]; rfl
      rw [eK] at hsn
      clear hgc
      by_cases hl : k < l.length
      · obtain ⟨x, hx⟩ : ∃ x, l[k]? = some x := ⟨_, List.getElem?_eq_getElem hl⟩
        have el : l.getD k 0 = x := by rw [List.getD_eq_getElem?_getD, hx]; rfl
        rw [el] at hsn
        obtain ⟨g2, o2, rfl, hvx⟩ := hvcell.out (by omega)
        have vc : wr.cell? ⟨g2, o2 + k, none⟩ = some (.int .i64 x) := (hbel.cell (p := ⟨g2, o2 + k, none⟩) (World.block_lt_of_cell? _ _ (hvx k x hx))).trans (hvx k x hx)
        have lg2 := World.block_lt_of_cell? _ _ vc
        have j1 : (0 : Int) ≤ (k : Int) ∧ (k : Int) < (l.length : Int) := by omega
        have td : decide ((k : Int) < (l.length : Int)) = true := by simp; omega
        replace hsn := hd hsn
        replace hown := hd hown
        replace hbel := hd hbel
        clear hvx
        go_wp2_with (first | (go_at_call 47; refine rlay_any _ _ a ha2 _ ?_) | (at_builtin; refine wpList_app _ rfl _ _ 42 rfl w.heap.size 3 _ 1 8 ulInt infoI64 rfl (by decide) _ _ _ rfl (by exact hown.out.alloc _) _ 1 1 [.int .i64 (layK a x)] rfl (by exact alloc_at (by simp)) rfl (oneI64 _) (by unfold maxLen; omega) (by omega) (by simp; omega) ?_; intro v1 w1 hown1 hgr1; obtain ⟨ao1, cp1, rfl⟩ := own_sl hown1; replace hown1 := hd hown1; replace hgr1 := hd hgr1))
        refine ⟨⟨k + 1, by omega, by go_num, ?_, ?_⟩, by simp [intOf]; omega⟩
        · rw [hsn.out]
          have := hown1.out
          simpa [intV] using this
        · exact (hbel.out.alloc hwr _).grown hgr1.out (by simp; omega) (fun k hk => (hown.out.lt k hk).1)
      · have el : l.getD k 0 = 0 := by rw [List.getD_eq_getElem?_getD, List.getElem?_eq_none (by omega)]; rfl
        rw [el] at hsn
        have td : decide ((k : Int) < (l.length : Int)) = false := by simp; omega
        replace hsn := hd hsn
        replace hown := hd hown
        replace hbel := hd hbel
        go_wp2_with (first | (go_at_call 47; refine rlay_any _ _ a ha2 _ ?_) | (at_builtin; refine wpList_app _ rfl _ _ 42 rfl w.heap.size 3 _ 1 8 ulInt infoI64 rfl (by decide) _ _ _ rfl (by exact hown.out.alloc _) _ 1 1 [.int .i64 (layK a 0)] rfl (by exact alloc_at (by simp)) rfl (oneI64 _) (by unfold maxLen; omega) (by omega) (by simp; omega) ?_; intro v1 w1 hown1 hgr1; obtain ⟨ao1, cp1, rfl⟩ := own_sl hown1; replace hown1 := hd hown1; replace hgr1 := hd hgr1))
        refine ⟨⟨k + 1, by omega, by go_num, ?_, ?_⟩, by simp [intOf]; omega⟩
        · rw [hsn.out]
          have := hown1.out
          simpa [intV] using this
        · exact (hbel.out.alloc hwr _).grown hgr1.out (by simp; omega) (fun k hk => (hown.out.lt k hk).1)
    · have hkn : k = K.length := by omega
      rw [hkn] at hown
      replace hown := hd hown
      replace hbel := hd hbel
      go_wp2
      exact cl1 (fin.out _ _ hbel.out hown.out) (by rw [hkn]; rfl)

end Go.Proofs.YtidhiaaicmfabaaGreat

/- A machine and the document's, side by side: a scan of both (seats .Z, .ZD alone). -/
namespace Go.Proofs.YtidhiaaicmfabaaGreat
open Go.RowKit Go.Proofs Go.Deep

/-- The document's outputs. -/
def OutAt (Pg : Nat → Prop) (w : World) (v : Value) (L : List Int) : Prop :=
  ∃ ao cap, v = .slice ao L.length cap ∧ L.length ≤ cap ∧ (L = [] ∨ ∃ g cur, ao = some ⟨g, 0, none⟩ ∧ Pg g ∧ w.heap[g]? = some (.cells cur 3 (0, 0)) ∧ ∀ (j : Nat) (x : Int), L[j]? = some x → cur[j]? = some (.int .i64 x))
theorem OutAt.keep {Pg Pg' : Nat → Prop} {w w' : World} {v : Value} {L : List Int} (h : OutAt Pg w v L) (hk : ∀ g cur, Pg g → w.heap[g]? = some (.cells cur 3 (0, 0)) → w'.heap[g]? = w.heap[g]? ∧ Pg' g) : OutAt Pg' w' v L := by
  obtain ⟨ao, cap, e, hc, h3⟩ := h
  refine ⟨ao, cap, e, hc, ?_⟩
  rcases h3 with h3 | ⟨g, cur, a, b, c, d⟩
  · exact .inl h3
  · obtain ⟨e1, e2⟩ := hk g cur b c
    exact .inr ⟨g, cur, a, e2, e1.trans c, d⟩
theorem OutAt.inp {Pg : Nat → Prop} {w : World} {v : Value} {L : List Int} (h : OutAt Pg w v L) : ∃ nb, InpAt nb w v L := by
  obtain ⟨ao, cap, e, hc, h3⟩ := h
  rcases h3 with h3 | ⟨g, cur, a, b, c, d⟩
  · exact ⟨0, ao, cap, e, hc, .inr h3⟩
  · refine ⟨g + 1, ao, cap, e, hc, .inl ⟨g, 0, a, by omega, fun j x hx => ?_⟩⟩
    rw [Nat.zero_add, cell_of_row w g j cur _ (0, 0) c]; exact d j x hx
theorem OutAt.of_own {Pg : Nat → Prop} {B : Nat} {w : World} {v : Value} {L : List Int} (h : w.ownsRow B 3 1 v L.length (intV L)) (hP : ∀ g, B ≤ g → g < w.heap.size → Pg g) : OutAt Pg w v L := by
  have hl := h.1
  rcases h.2 with ⟨e, e0⟩ | ⟨g, cap, cur, e, hb, hg, hn, hc, _, ht⟩
  · exact ⟨none, 0, by rw [e, e0], by omega, .inl (List.eq_nil_of_length_eq_zero e0)⟩
  · refine ⟨_, cap, e, hn, .inr ⟨g, cur, rfl, hP g hb (Array.getElem?_eq_some_iff.1 hg).1, hg, fun j x hx => ?_⟩⟩
    have hjl := (List.getElem?_eq_some_iff.1 hx).1
    have h1 : (cur.toList.take (L.length * 1))[j]? = (intV L)[j]? := by rw [ht]
    rw [List.getElem?_take, if_pos (by omega), intV_at hx] at h1
    simpa using h1
theorem i64L_intV (L : List Int) : i64L L = intV L.reverse := by simp [i64L, intV]
structure Pz where
  bp : Nat
  M : Md
  bc : Nat
  X : Dx
  lo : Nat
  hi : Nat
  To : Nat → Nat
  H : Nat → Int
  L : Nat → Int
structure PzOk (p : Pz) (B : Nat) : Prop where
  hX : DxOk p.X
  hM : p.X.M = p.M
  kw : ∀ w0 br bc base nm fv d, KW (mkK p.M w0 br bc base nm fv d) p.To p.M.bd p.H p.L
  bd : p.M.bd ≤ 200000
  r1 : p.lo ≤ p.M.bx ∧ p.M.bx < p.hi
  r2 : p.lo ≤ p.bc ∧ p.bc < p.hi
  r3 : p.lo ≤ p.X.bm ∧ p.X.bm < p.hi
  r4 : p.lo ≤ p.X.bc ∧ p.X.bc < p.hi
  hi : p.hi ≤ B
  rp : p.hi ≤ p.bp ∧ p.bp < B
def Pz.zone (p : Pz) (B k : Nat) : Prop := (p.lo ≤ k ∧ k < p.hi) ∨ B ≤ k
def PzSt (p : Pz) (B : Nat) (Q : Nat → Prop) (C : Nat → Int) (dn e : Int) (w : World) : Prop :=
  ∃ ov, OutAt (fun g => p.zone B g ∧ g ≠ p.X.bc ∧ Q g) w ov (outsL p.M.rl C p.M.nC).reverse ∧
    ((e = 0 ∧ Live p.M p.bc C dn w ∧ DSt p.X 0 C ov dn w) ∨ (e ≠ 0 ∧ ∃ cv C', Dead p.M cv C dn e w ∧ (∀ b k c, cv = .slice (some ⟨b, 0, none⟩) k c → B ≤ b) ∧ DSt p.X e C' ov dn w))
structure PzAt (p : Pz) (B : Nat) (w : World) : Prop where
  blk : Blk w p.bp #[.pointer (some ⟨p.M.bx, 0, none⟩), .pointer (some ⟨p.X.bm, 0, none⟩)] 40
  size : B ≤ w.heap.size
  st : ∃ C dn e, PzSt p B (fun _ => True) C dn e w
/-- What is kept of a pair: every block of it. -/
def KeepZ (z : TypeId → Nat → Prop) (w w' : World) : Prop := ∀ (k : Nat) (cur : Array Value) (T : TypeId), w.heap[k]? = some (.cells cur T (0, 0)) → T ≠ 76 → T ≠ 28 →
  ((T = 58 ∨ T = 79 ∨ T = 67 ∨ T = 3) → z T k) → w'.heap[k]? = w.heap[k]?
theorem KeepZ.below {z : TypeId → Nat → Prop} {w w' : World} (h : Below w.heap.size w w') : KeepZ z w w' := fun k _ _ e _ _ _ => h.block k (Array.getElem?_eq_some_iff.1 e).1
section
variable {w w' : World} {z : TypeId → Nat → Prop}
theorem Live.keepZ {M : Md} {bc : Nat} {C : Nat → Int} {dn : Int} (h : Live M bc C dn w) (hk : KeepZ z w w') (h1 : z 58 M.bx) (h2 : z 79 bc) : Live M bc C dn w' := by
  have hr := h.row
  have hc := h.cel
  have hs := h.steps
  obtain ⟨c1, e1, _⟩ := hr
  obtain ⟨c2, e2, _⟩ := hc
  obtain ⟨c3, e3, _⟩ := hs
  exact ⟨h.row.of_block (hk _ _ _ e1 (by decide) (by decide) (fun _ => h1)), h.cel.of_block (hk _ _ _ e2 (by decide) (by decide) (fun _ => h2)), h.steps.of_block (hk _ _ _ e3 (by decide) (by decide) (fun e => by rcases e with e | e | e | e <;> exact absurd e (by decide))), h.hC, h.n, h.nC⟩
theorem Dead.keepZ {M : Md} {cv : Value} {C : Nat → Int} {dn e : Int} (h : Dead M cv C dn e w) (hk : KeepZ z w w') (h1 : z 58 M.bx) (h2 : ∀ b k c, cv = .slice (some ⟨b, 0, none⟩) k c → z 79 b) : Dead M cv C dn e w' := by
  have hr := h.row
  obtain ⟨c1, e1, _⟩ := hr
  refine ⟨h.row.of_block (hk _ _ _ e1 (by decide) (by decide) (fun _ => h1)), ?_, h.hC, h.ne⟩
  rcases h.cel with ⟨bc, cap, e2, ht⟩ | h3
  · have ht' := ht
    obtain ⟨c2, e3, _⟩ := ht'
    exact .inl ⟨bc, cap, e2, ht.of_block (hk _ _ _ e3 (by decide) (by decide) (fun _ => h2 bc _ _ e2))⟩
  · exact .inr h3
theorem DSt.keepZ {X : Dx} {e : Int} {C : Nat → Int} {ov : Value} {dn : Int} (h : DSt X e C ov dn w) (hk : KeepZ z w w') (h1 : z 67 X.bm) (h2 : z 3 X.bc) : DSt X e C ov dn w' := by
  obtain ⟨dl, sv, rv, hr⟩ := h.row
  have hr' := hr
  obtain ⟨c1, e1, _⟩ := hr'
  have hc := h.cel
  obtain ⟨c2, e2, _⟩ := hc
  have ht := h.tab
  obtain ⟨c3, e3, _⟩ := ht
  have hb := h.blk
  refine ⟨⟨dl, sv, rv, hr.of_block (hk _ _ _ e1 (by decide) (by decide) (fun _ => h1))⟩, h.cel.of_block (hk _ _ _ e2 (by decide) (by decide) (fun _ => h2)), h.blk.of_block (hk _ _ _ hb (by decide) (by decide) (fun e => by rcases e with e | e | e | e <;> exact absurd e (by decide))), h.tab.of_block (hk _ _ _ e3 (by decide) (by decide) (fun e => by rcases e with e | e | e | e <;> exact absurd e (by decide))), fun h0 => ?_, h.hC⟩
  obtain ⟨bk, e4, htk⟩ := h.kinds h0
  have htk' := htk
  obtain ⟨c5, e5, _⟩ := htk'
  exact ⟨bk, e4, htk.of_block (hk _ _ _ e5 (by decide) (by decide) (fun e => by rcases e with e | e | e | e <;> exact absurd e (by decide)))⟩
theorem OutAt.keepZ {Pg : Nat → Prop} {v : Value} {L : List Int} (h : OutAt Pg w v L) (hk : KeepZ z w w') (h1 : ∀ g, Pg g → z 3 g) : OutAt Pg w' v L := h.keep (fun g cur hp e => ⟨hk g cur _ e (by decide) (by decide) (fun _ => h1 g hp), hp⟩)
theorem PzSt.keepZ {p : Pz} {B : Nat} {Q : Nat → Prop} {C : Nat → Int} {dn e : Int} (h : PzSt p B Q C dn e w) (ho : PzOk p B) (hq : Q p.X.bc) (hk : KeepZ (fun T k => p.zone B k ∧ (T = 3 → Q k)) w w') : PzSt p B Q C dn e w' := by
  obtain ⟨ov, ho', hs⟩ := h
  refine ⟨ov, ho'.keepZ hk (fun g hg => ⟨hg.1, fun _ => hg.2.2⟩), ?_⟩
  rcases hs with ⟨e0, hl, hd⟩ | ⟨e0, cv, C', hdd, hcv, hd⟩
  · exact .inl ⟨e0, hl.keepZ hk ⟨.inl ho.r1, fun e => absurd e (by decide)⟩ ⟨.inl ho.r2, fun e => absurd e (by decide)⟩, hd.keepZ hk ⟨.inl ho.r3, fun e => absurd e (by decide)⟩ ⟨.inl ho.r4, fun _ => hq⟩⟩
  · exact .inr ⟨e0, cv, C', hdd.keepZ hk ⟨.inl ho.r1, fun e => absurd e (by decide)⟩ (fun b k c e => ⟨.inr (hcv b k c e), fun e => absurd e (by decide)⟩), hcv, hd.keepZ hk ⟨.inl ho.r3, fun e => absurd e (by decide)⟩ ⟨.inl ho.r4, fun _ => hq⟩⟩
theorem PzAt.keepZ {p : Pz} {B : Nat} (h : PzAt p B w) (ho : PzOk p B) (hs : w.heap.size ≤ w'.heap.size) (hk : KeepZ (fun _ k => p.zone B k) w w') : PzAt p B w' := by
  obtain ⟨C, dn, e, hst⟩ := h.st
  have hb := h.blk
  exact ⟨h.blk.of_block (hk _ _ _ hb (by decide) (by decide) (fun e => by rcases e with e | e | e | e <;> exact absurd e (by decide))), Nat.le_trans h.size hs, C, dn, e, hst.keepZ ho trivial (fun k cur T e1 e2 e3 e4 => hk k cur T e1 e2 e3 (fun h => (e4 h).1))⟩
end
/-- A scan of the program's machine, in one. -/
def VRes (M : Md) (bc : Nat) (C : Nat → Int) (l : List Int) (d : Int) (w : World) (e : Int) (w' : World) : Prop :=
  ((fitsL M.rl M.kd M.nC 0 l = false ∨ d < 0 ∨ 1000000 < d) ∧ e = 3 ∧ Below w.heap.size w w') ∨
  ((fitsL M.rl M.kd M.nC 0 l = true ∧ 0 ≤ d ∧ d ≤ 1000000) ∧ ∃ q dn, runM M w d (layL M.rl M.kd M.nC 0 l C) = (q, dn, e) ∧ Twain M.bx bc w.heap.size w w' ∧
    ((e = 0 ∧ Live M bc q.C dn w') ∨ (e ≠ 0 ∧ ∃ cv, Dead M cv C dn e w' ∧ ∀ b k c, cv = .slice (some ⟨b, 0, none⟩) k c → w.heap.size ≤ b)))
theorem vscan_one (w : World) (M : Md) (bc : Nat) (C : Nat → Int) (dn0 : Int) (h : Live M bc C dn0 w) (v : Value) (l : List Int) (d : Int) (hv : InpAt bc w v l) {To : Nat → Nat} {H L : Nat → Int} (hkw : ∀ w0 br bc base nm fv d, KW (mkK M w0 br bc base nm fv d) To M.bd H L) (hbd : M.bd ≤ 200000) (R : Ending → World → Prop)
    (fin : ∀ e w', VRes M bc C l d w e w' → R (.returned (.int .i64 e)) w') : Calls Tryz.prog 11 #[.pointer (some ⟨M.bx, 0, none⟩), v, .int .i64 d] w R :=
  scan_full w M bc C dn0 h v l d hv hkw hbd R (fun hb w' hw => fin 3 w' (.inl ⟨hb, rfl, hw⟩)) (fun hf hd w' q dn hr hl ht _ _ => fin 0 w' (.inr ⟨⟨hf, hd⟩, q, dn, hr, ht, .inl ⟨rfl, hl⟩⟩))
    (fun hf hd w' q dn e cv hr he hl hcv ht _ _ => fin e w' (.inr ⟨⟨hf, hd⟩, q, dn, hr, ht, .inr ⟨he, cv, hl, hcv⟩⟩))
def DRes (X : Dx) (C : Nat → Int) (ov : Value) (l : List Int) (d : Int) (w : World) (e : Int) (w' : World) : Prop :=
  ((fitsL X.M.rl X.M.kd X.M.nC 0 l = false ∨ d < 0 ∨ 1000000 < d) ∧ e = 3 ∧ Below w.heap.size w w') ∨
  ((fitsL X.M.rl X.M.kd X.M.nC 0 l = true ∧ 0 ≤ d ∧ d ≤ 1000000) ∧ ∃ q dn, runM X.M w d (layL X.M.rl X.M.kd X.M.nC 0 l C) = (q, dn, e) ∧ Twain X.bm X.bc w.heap.size w w' ∧
    ((e = 0 ∧ ∃ ov', DSt X 0 q.C ov' dn w' ∧ w'.ownsRow w.heap.size 3 1 ov' (outsL X.M.rl q.C X.M.nC).length (i64L (outsL X.M.rl q.C X.M.nC))) ∨ (e ≠ 0 ∧ ∃ C', DSt X e C' ov dn w')))
theorem dscan_one (w : World) (X : Dx) (hX : DxOk X) {C : Nat → Int} {ov : Value} {dn0 : Int} (h : DSt X 0 C ov dn0 w) (v : Value) (l : List Int) (hv : InpAt X.bc w v l) (d : Int) {To : Nat → Nat} {H L : Nat → Int}
    (hkw : ∀ w0 br bc base nm fv d, KW (mkK X.M w0 br bc base nm fv d) To X.M.bd H L) (hbd : X.M.bd ≤ 200000) (R : Ending → World → Prop)
    (fin : ∀ e w', DRes X C ov l d w e w' → R (.returned (.int .i64 e)) w') : Calls Tryz.prog 23 #[.pointer (some ⟨X.bm, 0, none⟩), v, .int .i64 d] w R :=
  rscan_any w X hX h v l hv d hkw hbd R (fun hb w' hw => fin 3 w' (.inl ⟨hb, rfl, hw⟩)) (fun hf hd w' q dn ov' hr hl ht ho => fin 0 w' (.inr ⟨⟨hf, hd⟩, q, dn, hr, ht, .inl ⟨rfl, ov', hl, ho⟩⟩))
    (fun hf hd w' q dn e C' hr he hl ht => fin e w' (.inr ⟨⟨hf, hd⟩, q, dn, hr, ht, .inr ⟨he, C', hl⟩⟩))
/-- The blocks that the scans of a pair may turn. -/
def four (p : Pz) (k : Nat) : Prop := k = p.M.bx ∨ k = p.bc ∨ k = p.X.bm ∨ k = p.X.bc
theorem fr_twain {b c : Nat} {P : Nat → Prop} {w w' : World} (h : Twain b c w.heap.size w w') (h1 : P b) (h2 : P c) : Fr P w w' :=
  ⟨h.os, h.tape, h.output, h.size, fun k hk hn => h.block k hk (fun e => hn (e ▸ h1)) (fun e => hn (e ▸ h2))⟩
theorem keepZ_twain {b c Tb Tc : Nat} {cb cc : Array Value} {w w' : World} (ht : Twain b c w.heap.size w w') (hb : w.heap[b]? = some (.cells cb Tb (0, 0))) (hc : w.heap[c]? = some (.cells cc Tc (0, 0)))
    (h1 : Tb = 58 ∨ Tb = 79 ∨ Tb = 67 ∨ Tb = 3) (h2 : Tc = 58 ∨ Tc = 79 ∨ Tc = 67 ∨ Tc = 3) : KeepZ (fun _ k => k ≠ b ∧ k ≠ c) w w' := by
  intro k cur T e _ _ hz
  refine ht.block k (Array.getElem?_eq_some_iff.1 e).1 (fun ek => ?_) (fun ek => ?_)
  · subst ek
    rw [hb] at e
    injection e with e
    injection e with _ e3
    subst e3
    exact (hz h1).1 rfl
  · subst ek
    rw [hc] at e
    injection e with e
    injection e with _ e3
    subst e3
    exact (hz h2).2 rfl
theorem live_after {p : Pz} {B : Nat} {Q : Nat → Prop} (ho : PzOk p B) {C : Nat → Int} {dn : Int} {ov : Value} {w2 w3 w4 : World} {l : List Int} {d e e' : Int} (hB : B ≤ w2.heap.size) (hQ : ∀ k, w2.heap.size ≤ k → Q k) (hL : Live p.M p.bc C dn w2) (hD : DSt p.X 0 C ov dn w2)
    (hO : OutAt (fun g => p.zone B g ∧ g ≠ p.X.bc ∧ Q g) w2 ov (outsL p.M.rl C p.M.nC).reverse) (hv : VRes p.M p.bc C l d w2 e w3) (hd : DRes p.X C ov l d w3 e' w4) : e' = e ∧ (∃ C2 dn2 e2, PzSt p B Q C2 dn2 e2 w4) ∧ Fr (four p) w2 w4 := by
  obtain ⟨mc, em, _⟩ := id hL.row
  obtain ⟨cc, ec, _⟩ := id hL.cel
  obtain ⟨sc, es, _⟩ := id hL.steps
  obtain ⟨_, _, _, xm, exm, _⟩ := id hD.row
  obtain ⟨xc, exc, _⟩ := id hD.cel
  have n1 : p.X.bm ≠ p.M.bx := blk_ne exm em (by decide)
  have n2 : p.X.bm ≠ p.bc := blk_ne exm ec (by decide)
  have n3 : p.X.bc ≠ p.M.bx := blk_ne exc em (by decide)
  have n4 : p.X.bc ≠ p.bc := blk_ne exc ec (by decide)
  have hM := ho.hM
  unfold DRes at hd
  rw [hM] at hd
  rcases hv with ⟨hb, rfl, hw⟩ | ⟨hf, q, dn2, hr, ht, hs⟩
  · rcases hd with ⟨_, rfl, hw'⟩ | ⟨hf, _⟩
    · refine ⟨rfl, ⟨C, dn, 0, ?_⟩, (Fr.of_below hw).trans (Fr.of_below hw')⟩
      have hbel : Below w2.heap.size w2 w4 := hw.trans (hw'.mono hw.size)
      have hk : KeepZ (fun _ _ => True) w2 w4 := KeepZ.below hbel
      exact ⟨ov, hO.keepZ hk (fun _ _ => trivial), .inl ⟨rfl, hL.keepZ hk trivial trivial, hD.keepZ hk trivial trivial⟩⟩
    · exfalso
      rcases hb with h | h | h
      · rw [hf.1] at h; cases h
      · omega
      · omega
  · rcases hd with ⟨hb, _⟩ | ⟨_, q', dn', hr', ht', hs'⟩
    · exfalso
      rcases hb with h | h | h
      · rw [hf.1] at h; cases h
      · omega
      · omega
    · rw [runM_w p.M w3 w2, hr] at hr'
      injection hr' with e1 e2
      injection e2 with e2 e3
      subst e1 e2 e3
      have k3 := keepZ_twain ht em ec (.inl rfl) (.inr (.inl rfl))
      have hD3 : DSt p.X 0 C ov dn w3 := hD.keepZ k3 ⟨n1, n2⟩ ⟨n3, n4⟩
      obtain ⟨_, _, _, xm3, exm3, _⟩ := id hD3.row
      obtain ⟨xc3, exc3, _⟩ := id hD3.cel
      have k4 := keepZ_twain ht' exm3 exc3 (.inr (.inr (.inl rfl))) (.inr (.inr (.inr rfl)))
      have hfr : Fr (four p) w2 w4 := (fr_twain ht (.inl rfl) (.inr (.inl rfl))).trans (fr_twain ht' (.inr (.inr (.inl rfl))) (.inr (.inr (.inr rfl))))
      refine ⟨rfl, ?_, hfr⟩
      have hsz3 := ht.size
      have r4 := ho.r4
      have hhi := ho.hi
      rcases hs with ⟨he, hl⟩ | ⟨he, cv, hl, hcv⟩
      · rcases hs' with ⟨_, ov', hd', hown'⟩ | ⟨he', _⟩
        · refine ⟨q.C, dn2, 0, ov', ?_, .inl ⟨rfl, hl.keepZ k4 ⟨Ne.symm n1, Ne.symm n3⟩ ⟨Ne.symm n2, Ne.symm n4⟩, hd'⟩⟩
          rw [i64L_intV, ← List.length_reverse] at hown'
          exact OutAt.of_own hown' (fun g hg _ => ⟨.inr (by omega), by omega, hQ g (by omega)⟩)
        · exact absurd he he'
      · rcases hs' with ⟨he', _⟩ | ⟨_, C', hd'⟩
        · exact absurd he' he
        · refine ⟨C, dn2, _, ov, ?_, .inr ⟨he, cv, C', hl.keepZ k4 ⟨Ne.symm n1, Ne.symm n3⟩ (fun b k c eb => ?_), fun b k c eb => Nat.le_trans hB (hcv b k c eb), hd'⟩⟩
          · have h3 : OutAt (fun g => p.zone B g ∧ g ≠ p.X.bc ∧ Q g) w3 ov (outsL p.M.rl C p.M.nC).reverse := hO.keep (fun g cur hp eg => ⟨k3 g cur _ eg (by decide) (by decide) (fun _ => ⟨blk_ne eg em (by decide), blk_ne eg ec (by decide)⟩), hp⟩)
            exact h3.keep (fun g cur hp eg => ⟨k4 g cur _ eg (by decide) (by decide) (fun _ => ⟨blk_ne eg exm3 (by decide), hp.2.1⟩), hp⟩)
          · have hbb := hcv b k c eb
            have l1 : p.X.bm < w2.heap.size := (Array.getElem?_eq_some_iff.1 exm).1
            have l2 : p.X.bc < w2.heap.size := (Array.getElem?_eq_some_iff.1 exc).1
            exact ⟨by omega, by omega⟩

theorem VRes.drew {M : Md} {bc : Nat} {C : Nat → Int} {l : List Int} {d : Int} {w : World} {e : Int} {w' : World} (h : VRes M bc C l d w.drew e w') : VRes M bc C l d w e w' := by
  rcases h with ⟨h1, h2, h3⟩ | ⟨h1, q, dn, h2, h3, h4⟩
  · exact .inl ⟨h1, h2, ⟨h3.os, h3.tape, h3.output, h3.size, h3.block⟩⟩
  · exact .inr ⟨h1, q, dn, by rw [runM_w M w w.drew]; exact h2, ⟨h3.os, h3.tape, h3.output, h3.size, h3.block⟩, h4⟩
def VAny (p : Pz) (C : Nat → Int) (e0 : Int) (l : List Int) (d : Int) (w : World) (e : Int) (w' : World) : Prop :=
  (e0 = 0 ∧ VRes p.M p.bc C l d w e w') ∨ (e0 ≠ 0 ∧ e = e0 ∧ Below w.heap.size w w')
theorem VAny.drew {p : Pz} {C : Nat → Int} {e0 : Int} {l : List Int} {d : Int} {w : World} {e : Int} {w' : World} (h : VAny p C e0 l d w.drew e w') : VAny p C e0 l d w e w' := by
  rcases h with ⟨h1, h2⟩ | ⟨h1, h2, h3⟩
  · exact .inl ⟨h1, h2.drew⟩
  · exact .inr ⟨h1, h2, ⟨h3.os, h3.tape, h3.output, h3.size, h3.block⟩⟩
theorem vscan_st (w : World) {p : Pz} {B : Nat} (ho : PzOk p B) {Q : Nat → Prop} {C : Nat → Int} {dn e0 : Int} (h : PzSt p B Q C dn e0 w) (v : Value) (l : List Int) (d : Int) (hv : InpAt p.bc w v l) (R : Ending → World → Prop)
    (fin : ∀ e w', VAny p C e0 l d w e w' → R (.returned (.int .i64 e)) w') : Calls Tryz.prog 11 #[.pointer (some ⟨p.M.bx, 0, none⟩), v, .int .i64 d] w R := by
  obtain ⟨ov, _, hs⟩ := h
  rcases hs with ⟨h0, hl, _⟩ | ⟨h0, cv, C', hd, _, _⟩
  · exact vscan_one w p.M p.bc C dn hl v l d hv ho.kw ho.bd R (fun e w' hr => fin e w' (.inl ⟨h0, hr⟩))
  · exact scan_dead w p.M cv C dn e0 hd v d R (fin e0 w (.inr ⟨h0, rfl, Below.refl _ _⟩))
theorem InpAt.frame {nb : Nat} {P : Nat → Prop} {w w' : World} {v : Value} {l : List Int} (h : InpAt nb w v l) (hP : ∀ k, P k → InpAt k w v l) (hf : Fr P w w') : InpAt nb w' v l := by
  obtain ⟨ao, cap, e, hc, h3⟩ := h
  refine ⟨ao, cap, e, hc, ?_⟩
  rcases h3 with ⟨g, o, eg, hne, hq⟩ | h3
  · by_cases h0 : l = []
    · exact .inr h0
    · have hn : ¬ P g := fun hp => by
        obtain ⟨ao2, cap2, e2, _, h4⟩ := hP g hp
        rcases h4 with ⟨g2, o2, e4, hne2, _⟩ | h4
        · rw [e] at e2
          injection e2 with e2 _ _
          rw [eg, e4] at e2
          injection e2 with e2
          injection e2 with e2 _
          exact hne2 e2.symm
        · exact h0 h4
      exact .inl ⟨g, o, eg, hne, fun j x hx => (World.cell?_of_block (a := ⟨g, o + j, none⟩) (hf.block g (World.block_lt_of_cell? w _ (hq j x hx)) hn)).trans (hq j x hx)⟩
  · exact .inr h3
theorem InpAt.fresh {nb g : Nat} {w : World} {v : Value} {l : List Int} (h : InpAt nb w v l) (hg : w.heap.size ≤ g) : InpAt g w v l := by
  obtain ⟨ao, cap, e, hc, h3⟩ := h
  refine ⟨ao, cap, e, hc, ?_⟩
  rcases h3 with ⟨g', o, eg, hne, hq⟩ | h3
  · by_cases h0 : l = []
    · exact .inr h0
    · refine .inl ⟨g', o, eg, fun e' => ?_, hq⟩
      cases l with
      | nil => exact h0 rfl
      | cons x t =>
        have := World.block_lt_of_cell? w _ (hq 0 x rfl)
        have : g' < w.heap.size := this
        omega
  · exact .inr h3
def tyL (w : World) (k : Nat) : Prop := ∃ (cur : Array Value) (T : TypeId), w.heap[k]? = some (.cells cur T (0, 0)) ∧ (T = 58 ∨ T = 79 ∨ T = 67 ∨ T = 3)
theorem dscan_st {w2 w3 : World} {p : Pz} {B : Nat} (ho : PzOk p B) {Q : Nat → Prop} {C : Nat → Int} {dn e0 : Int} (hB : B ≤ w2.heap.size) (hQ : ∀ k, w2.heap.size ≤ k → Q k) (hq : Q p.X.bc) (h : PzSt p B Q C dn e0 w2) (v : Value) (l : List Int) (d e : Int) (hv : ∀ nb, four p nb → InpAt nb w2 v l) (hr : VAny p C e0 l d w2 e w3) (R : Ending → World → Prop)
    (fin : ∀ w4, (∃ C2 dn2 e2, PzSt p B Q C2 dn2 e2 w4) → Fr (fun k => four p k ∧ tyL w2 k) w2 w4 → R (.returned (.int .i64 e)) w4) : Calls Tryz.prog 23 #[.pointer (some ⟨p.X.bm, 0, none⟩), v, .int .i64 d] w3 R := by
  obtain ⟨ov, hO, hs⟩ := h
  rcases hs with ⟨h0, hl, hd⟩ | ⟨h0, cv, C', hdd, hcv, hd⟩
  · rcases hr with ⟨_, hr⟩ | ⟨h1, _⟩
    · obtain ⟨mc, em, _⟩ := id hl.row
      obtain ⟨cc, ec, _⟩ := id hl.cel
      obtain ⟨_, _, _, xm, exm, _⟩ := id hd.row
      obtain ⟨xc, exc, _⟩ := id hd.cel
      have hfr : Fr (fun k => k = p.M.bx ∨ k = p.bc) w2 w3 ∧ KeepZ (fun _ k => k ≠ p.M.bx ∧ k ≠ p.bc) w2 w3 := by
        rcases hr with ⟨_, _, hb⟩ | ⟨_, q, dn2, _, ht, _⟩
        · exact ⟨Fr.of_below hb, KeepZ.below hb⟩
        · exact ⟨fr_twain ht (.inl rfl) (.inr rfl), keepZ_twain ht em ec (.inl rfl) (.inr (.inl rfl))⟩
      have hd3 := hd.keepZ hfr.2 ⟨blk_ne exm em (by decide), blk_ne exm ec (by decide)⟩ ⟨blk_ne exc em (by decide), blk_ne exc ec (by decide)⟩
      have hv3 : InpAt p.X.bc w3 v l := (hv p.X.bc (.inr (.inr (.inr rfl)))).frame (fun k hk => hv k (by rcases hk with hk | hk; exact .inl hk; exact .inr (.inl hk))) hfr.1
      have hkw := ho.kw
      have hbd := ho.bd
      rw [← ho.hM] at hkw hbd
      refine dscan_one w3 p.X ho.hX hd3 v l hv3 d hkw hbd R (fun e' w4 hdr => ?_)
      obtain ⟨rfl, hst, hf⟩ := live_after ho hB hQ hl hd hO hr hdr
      refine fin w4 hst (hf.mono (fun k hk => ⟨hk, ?_⟩))
      rcases hk with rfl | rfl | rfl | rfl
      · exact ⟨_, _, em, .inl rfl⟩
      · exact ⟨_, _, ec, .inr (.inl rfl)⟩
      · exact ⟨_, _, exm, .inr (.inr (.inl rfl))⟩
      · exact ⟨_, _, exc, .inr (.inr (.inr rfl))⟩
    · exact absurd h0 h1
  · rcases hr with ⟨h1, _⟩ | ⟨_, rfl, hb⟩
    · exact absurd h1 h0
    · have hk : KeepZ (fun T k => p.zone B k ∧ (T = 3 → Q k)) w2 w3 := KeepZ.below hb
      have hst3 : PzSt p B Q C dn e w3 := PzSt.keepZ (w := w2) ⟨ov, hO, .inr ⟨h0, cv, C', hdd, hcv, hd⟩⟩ ho hq hk
      have hd3 := hd.keepZ (z := fun _ _ => True) (KeepZ.below hb) trivial trivial
      exact rscan_dead hd3 h0 v d R (fin w3 ⟨C, dn, e, hst3⟩ (Fr.of_below hb))

end Go.Proofs.YtidhiaaicmfabaaGreat

/- Outputs of a pair; what a scan leaves alone (seats .Z, .ZD alone). -/
namespace Go.Proofs.YtidhiaaicmfabaaGreat
open Go.RowKit Go.Proofs Go.Deep

theorem outputs_zero (w : World) (bx cap : Nat) (ao : Option Addr) (hx : w.cell? ⟨bx, 0, none⟩ = some (.slice ao 0 cap)) (R : Ending → World → Prop) (fin : R (.returned (.slice none 0 0)) w) :
    Calls Tryz.prog 12 #[.pointer (some ⟨bx, 0, none⟩)] w R := by
  replace fin := hd fin
  go_enter Tryz.func12, Tryz.ntmps12
  go_wp2
  go_loopw [3, 11] (fun v i wr => v = .slice none 0 0 ∧ i = .int .i64 0 ∧ wr = w) (fun _ _ _ => 0)
  case atStart => exact ⟨rfl, rfl, rfl⟩
  case round =>
    obtain ⟨rfl, rfl, rfl⟩ := hrel
    go_wp2
    exact cl1 fin.out rfl
theorem vouts_st (w : World) {p : Pz} {B : Nat} (ho : PzOk p B) {Q : Nat → Prop} {C : Nat → Int} {dn e0 : Int} (h : PzSt p B Q C dn e0 w) (R : Ending → World → Prop)
    (fin : ∀ v w', Below w.heap.size w w' → w'.ownsRow w.heap.size 3 1 v (outsL p.M.rl C p.M.nC).reverse.length (intV (outsL p.M.rl C p.M.nC).reverse) → R (.returned v) w') :
    Calls Tryz.prog 12 #[.pointer (some ⟨p.M.bx, 0, none⟩)] w R := by
  have hn : p.M.nC ≤ 100 := by have := ho.hX.nC; rw [ho.hM] at this; exact this
  have fin2 : ∀ v w', Below w.heap.size w w' → w'.ownsRow w.heap.size 3 1 v (outsL p.M.rl C p.M.nC).length (i64L (outsL p.M.rl C p.M.nC)) → R (.returned v) w' := fun v w' hb hown => fin v w' hb (by rw [List.length_reverse, ← i64L_intV]; exact hown)
  obtain ⟨ov, _, hs⟩ := h
  rcases hs with ⟨_, hl, _⟩ | ⟨_, cv, C', hd, _, _⟩
  · exact outputs_any w p.M.bx p.bc p.M.nC p.M.nC p.M.rl p.M.kd C hn hl.hC (hl.row.cell (i := 0) (by omega)) hl.cel R fin2
  · have c0 : w.cell? ⟨p.M.bx, 0, none⟩ = some cv := hd.row.cell (i := 0) (by omega)
    rcases hd.cel with ⟨bc, cap, e, ht⟩ | ⟨h0, ao, cap, e⟩
    · rw [e] at c0
      exact outputs_any w p.M.bx bc p.M.nC cap p.M.rl p.M.kd C hn hd.hC c0 ht R fin2
    · rw [e] at c0
      refine outputs_zero w p.M.bx cap ao c0 R (fin2 _ _ (Below.refl _ _) ?_)
      rw [h0]
      exact World.ownsRow_nil _ _ _ _
theorem st_cells {w : World} {p : Pz} {B : Nat} {Q : Nat → Prop} {C : Nat → Int} {dn e0 : Int} (h : PzSt p B Q C dn e0 w) : w.cell? ⟨p.M.bx, 3, none⟩ = some (.int .i64 dn) ∧ w.cell? ⟨p.X.bm, 4, none⟩ = some (.int .i64 dn) ∧
    ∃ ov, w.cell? ⟨p.X.bm, 2, none⟩ = some ov ∧ OutAt (fun g => p.zone B g ∧ g ≠ p.X.bc ∧ Q g) w ov (outsL p.M.rl C p.M.nC).reverse := by
  obtain ⟨ov, hO, hs⟩ := h
  rcases hs with ⟨_, hl, hd⟩ | ⟨_, cv, C', hdd, _, hd⟩
  · obtain ⟨dl, sv, rv, hr⟩ := hd.row
    exact ⟨hl.row.cell (i := 3) (by omega), hr.cell (i := 4) (by omega), ov, hr.cell (i := 2) (by omega), hO⟩
  · obtain ⟨dl, sv, rv, hr⟩ := hd.row
    exact ⟨hdd.row.cell (i := 3) (by omega), hr.cell (i := 4) (by omega), ov, hr.cell (i := 2) (by omega), hO⟩
theorem own_fr {w w' : World} {P : Nat → Prop} {B e sz n : Nat} {v : Value} {xs : List Value} (h : w.ownsRow B e sz v n xs) (hf : Fr P w w') (hP : ∀ k, P k → k < B) : w'.ownsRow B e sz v n xs := by
  refine ⟨h.1, ?_⟩
  rcases h.2 with h2 | ⟨g, cap, cur, e1, hb, hg, r⟩
  · exact .inl h2
  · exact .inr ⟨g, cap, cur, e1, hb, (hf.block g (Array.getElem?_eq_some_iff.1 hg).1 (fun hp => by have := hP g hp; omega)).trans hg, r⟩
theorem four_lt {p : Pz} {B : Nat} (ho : PzOk p B) {k : Nat} (h : four p k) : p.lo ≤ k ∧ k < p.hi := by
  rcases h with rfl | rfl | rfl | rfl
  · exact ho.r1
  · exact ho.r2
  · exact ho.r3
  · exact ho.r4
theorem Wa.four {B bw : Nat} {n : Int} {kv : Value} {ks : List (Int × Value)} {w w' : World} {p : Pz} (h : Wa B bw n kv ks w) (ho : PzOk p B) (hb : ¬ (p.lo ≤ bw ∧ bw < p.hi)) {w2 : World} (hf : Fr (fun k => four p k ∧ tyL w2 k) w w') : Wa B bw n kv ks w' :=
  ⟨h.lt, Nat.le_trans h.size hf.size, h.row.of_block (hf.block bw h.row.lt (fun hp => hb (four_lt ho hp.1))), own_fr h.own hf (fun k hk => Nat.lt_of_lt_of_le (four_lt ho hk.1).2 ho.hi),
    fun q hq => ⟨(h.mark q hq).1.keep (fun g cur hg e => hf.block g (Array.getElem?_eq_some_iff.1 e).1 (fun hp => by have := (four_lt ho hp.1).2; have := ho.hi; omega)), (h.mark q hq).2⟩⟩
theorem PzSt.fresh {p : Pz} {B : Nat} {Q : Nat → Prop} {C : Nat → Int} {dn e : Int} {w : World} (h : PzSt p B Q C dn e w) (Q' : Nat → Prop) (hq : ∀ k, k < w.heap.size → Q' k) : PzSt p B Q' C dn e w := by
  obtain ⟨ov, hO, hs⟩ := h
  exact ⟨ov, hO.keep (fun g cur hp e => ⟨rfl, hp.1, hp.2.1, hq g (Array.getElem?_eq_some_iff.1 e).1⟩), hs⟩
theorem kept_type {w : World} {B bw : Nat} {n : Int} {kv : Value} {ks : List (Int × Value)} (h : Wa B bw n kv ks w) {k : Nat} {cur : Array Value} {T : TypeId} (e : w.heap[k]? = some (.cells cur T (0, 0))) (h1 : T ≠ 76) (h2 : T ≠ 28) : k ≠ bw ∧ kv.ownBlock ≠ some k := by
  refine ⟨?_, fun ek => ?_⟩
  · rintro rfl
    obtain ⟨c, e1, _⟩ := h.row
    rw [e] at e1
    injection e1 with e1
    injection e1 with _ e3
    exact h2 e3
  · obtain ⟨c, e1⟩ := own_type h.own ek
    rw [e] at e1
    injection e1 with e1
    injection e1 with _ e3
    exact h1 e3

end Go.Proofs.YtidhiaaicmfabaaGreat

/- A round of the statement: one scan of a machine and of the document's (seats .Z, .ZD alone). -/
namespace Go.Proofs.YtidhiaaicmfabaaGreat
open Go.RowKit Go.Proofs Go.Deep

set_option maxRecDepth 100000 in
set_option maxHeartbeats 8000000 in
theorem scan_pair (w : World) {B bw W0 : Nat} {n : Int} {kv : Value} {ks : List (Int × Value)} (hW : Wa B bw n kv ks w) (hn : 0 ≤ n ∧ n ≤ 10000000000000) (hks : ks.length ≤ 100000000000) {p : Pz} (ho : PzOk p B) (hp : PzAt p B w) (hbw : ¬ (p.lo ≤ bw ∧ bw < p.hi)) (hlo : W0 ≤ p.lo) (hW0 : W0 ≤ bw)
    (v : Value) (l : List Int) (hv : ∀ nb, W0 ≤ nb → InpAt nb w v l) (hl : l.length ≤ 10000000000) (d : Int) (hd1 : -9223372036854775808 ≤ d ∧ d ≤ 9223372036854775807) (fit : Bool) (R : Ending → World → Prop)
    (fin : ∀ w' n' kv' ks', Wa B bw n' kv' ks' w' → n ≤ n' → n' ≤ n + 2 → ks'.length ≤ ks.length + 5 → PzAt p B w' → KeepZ (fun _ k => ¬ (p.lo ≤ k ∧ k < p.hi)) w w' → Below W0 w w' → R (.returned (.bool true)) w') :
    Calls Tryz.prog 8 #[.pointer (some ⟨bw, 0, none⟩), .pointer (some ⟨p.bp, 0, none⟩), .agg #[v, .int .i64 d, .bool fit]] w R := by
  obtain ⟨ia, icap, rfl, _, _⟩ := id (hv bw hW0)
  have q0 : w.cell? ⟨p.bp, 0, none⟩ = some (.pointer (some ⟨p.M.bx, 0, none⟩)) := hp.blk.cell rfl
  have q1 : w.cell? ⟨p.bp, 1, none⟩ = some (.pointer (some ⟨p.X.bm, 0, none⟩)) := hp.blk.cell rfl
  have lbp0 := hp.blk.lt
  replace hW := hd hW
  replace hp := hd hp
  replace hv := hd hv
  replace fin := hd fin
  cases fit
  · go_enter Tryz.func8, Tryz.ntmps8
    go_wp2_with (fail)
    have hb1 := hd ((Below.refl w.heap.size w).alloc (Nat.le_refl _) (Obj.cells #[.slice ia l.length icap, .int .i64 d, .bool false] 44))
    have hin := hd (fun nb (h1 : W0 ≤ nb) (_ : nb < w.heap.size) => (hv.out nb h1).below hb1.out)
    generalize w.alloc (Obj.cells #[.slice ia l.length icap, .int .i64 d, .bool false] 44) = w1 at *
    generalize hli : l = li at *
    generalize hdi : d = di at *
    clear q0 q1
    have lbw := hW.out.row.lt
    have hB1 := hb1.out
    have hs1 := hb1.out.size
    have hBw := hp.out.size
    have r4 := ho.r4
    have hhi := ho.hi
    refine lend_any _ _ li (hin.out bw hW0 lbw) (by omega) _ ?_
    intro lv w2 hb2 hown2
    obtain ⟨g, gcap, rfl, hgc, hgb, hgl, _, _⟩ := own_one hown2 (by omega)
    have hB2 : Below w.heap.size w w2 := hb1.out.trans (hb2.mono hb1.out.size)
    have hs2 := hb2.size
    obtain ⟨C, dn, e0, hst⟩ := hp.out.st
    have hst2 : PzSt p B (fun k => k < w1.heap.size ∨ w2.heap.size ≤ k) C dn e0 w2 :=
      (((hst.keepZ ho trivial (KeepZ.below hB1)).fresh _ (fun k hk => .inl hk)).keepZ ho (.inl (by omega)) (KeepZ.below hb2))
    have x0 : w2.cell? ⟨p.bp, 0, none⟩ = some (.pointer (some ⟨p.M.bx, 0, none⟩)) := (hp.out.blk.of_block (hB2.block _ hp.out.blk.lt)).cell rfl
    have x1 : w2.cell? ⟨p.bp, 1, none⟩ = some (.pointer (some ⟨p.X.bm, 0, none⟩)) := (hp.out.blk.of_block (hB2.block _ hp.out.blk.lt)).cell rfl
    have lbp := hp.out.blk.lt
    have hi2 : InpAt p.bc w2 (.slice (some ⟨g, 0, none⟩) li.length gcap) li := by
      have h1 := own_take (m := li.length) hown2 (by omega)
      rw [List.take_left' (by simp [intV])] at h1
      exact InpAt.of_own h1 (by have := ho.r2; omega)
    have hin2 := hd (fun nb (h : four p nb) => (hin.out nb (Nat.le_trans hlo (four_lt ho h).1) (by have := (four_lt ho h).2; omega)).below hb2)
    have jl : (0 : Int) ≤ (li.length : Int) ∧ (li.length : Int) ≤ (gcap : Int) := by omega
    have hsd := hd (hst2.keepZ (w' := w2.drew) ho (.inl (by omega)) (KeepZ.below (Below.refl _ _).drew))
    have hid := hd (hi2.below (w' := w2.drew) (Below.refl _ _).drew)
    replace hst2 := hd hst2
    replace hi2 := hd hi2
    replace hB2 := hd hB2
    replace hb2 := hd hb2
    replace hown2 := hd hown2
    clear hst hB1
    go_wp2_with (fail)
    go_region_with (go_at_call 11; refine vscan_st _ ho (by first | exact hst2.out | exact hsd.out) _ li di (by first | exact hi2.out | exact hid.out) _ ?_; intro e w3 hr3)
    all_goals
      have hr4 : VAny p C e0 li di w2 e w3 := by first | exact hr3 | exact hr3.drew
      have hx3 : w3.cell? ⟨p.bp, 0, none⟩ = some (.pointer (some ⟨p.M.bx, 0, none⟩)) ∧ w3.cell? ⟨p.bp, 1, none⟩ = some (.pointer (some ⟨p.X.bm, 0, none⟩)) := by
        have hbl : w3.heap[p.bp]? = w2.heap[p.bp]? := by
          have rp := ho.rp
          have r1 := ho.r1
          have r2 := ho.r2
          rcases hr4 with ⟨_, hr4⟩ | ⟨_, _, hb⟩
          · rcases hr4 with ⟨_, _, hb⟩ | ⟨_, q, dn2, _, ht, _⟩
            · exact hb.block _ (by omega)
            · exact ht.block _ (by omega) (by omega) (by omega)
          · exact hb.block _ (by omega)
        exact ⟨(World.cell?_of_block hbl).trans x0, (World.cell?_of_block hbl).trans x1⟩
      obtain ⟨x30, x31⟩ := hx3
      replace hr4 := hd hr4
      clear hr3
      go_wp2_with (fail)
      refine dscan_st ho (by omega) (fun k hk => .inr hk) (.inl (by omega)) hst2.out _ li di e hin2.out hr4.out _ ?_
      intro w4 hst4 hf4
      obtain ⟨C4, dn4, e4, hst4⟩ := hst4
      have hW4 := (hW.out.below hB2.out).four ho hbw hf4
      have hs4 := hf4.size
      have hbp4 : w4.heap[p.bp]? = w2.heap[p.bp]? := hf4.block _ (by omega) (fun h => by have := (four_lt ho h.1).2; have := ho.rp; omega)
      have x40 := (World.cell?_of_block (a := ⟨p.bp, 0, none⟩) hbp4).trans x0
      have x41 := (World.cell?_of_block (a := ⟨p.bp, 1, none⟩) hbp4).trans x1
      have own4 : w4.ownsRow B 3 1 (.slice (some ⟨g, 0, none⟩) (li.length + 2) gcap) (li.length + 2) (lentV li) := own_fr (own_base hown2.out (show B ≤ w1.heap.size by omega)) hf4 (fun k hk => by have := (four_lt ho hk.1).2; omega)
      have hP2 : ∀ k, four p k ∧ tyL w2 k → InpAt k w2 (.slice ia li.length icap) li := fun k hk => hin2.out k hk.1
      have in4g : InpAt g w4 (.slice ia li.length icap) li := (((hin.out bw hW0 lbw).fresh hgb).below hb2.out).frame hP2 hf4
      have in4b : InpAt bw w4 (.slice ia li.length icap) li := ((hin.out bw hW0 lbw).below hb2.out).frame hP2 hf4
      have hap4 : ∀ q ∈ ks, Aprt g q.2 := fun q hq => ((hW.out.below hb1.out).mark q hq).1.apart hgb
      have l4 := hst4
      replace hst4 := hd hst4
      clear l4
      have hF4 : KeepZ (fun _ k => ¬ (p.lo ≤ k ∧ k < p.hi)) w w4 := fun k cur T ek n1 n2 hz => by
        have hkl := (Array.getElem?_eq_some_iff.1 ek).1
        have ek2 := (hB2.out.block k hkl).trans ek
        refine (hf4.block k (by omega) (fun h => ?_)).trans (hB2.out.block k hkl)
        obtain ⟨h1, cur2, T2, e2, h3⟩ := h
        rw [ek2] at e2
        injection e2 with e2
        injection e2 with _ e3
        subst e3
        exact hz h3 (four_lt ho h1)
      have hG4 : Below W0 w w4 := ⟨hf4.os.trans hB2.out.os, hf4.tape.trans hB2.out.tape, hf4.output.trans hB2.out.output, by omega, fun k hk => (hf4.block k (by omega) (fun h => by have := (four_lt ho h.1).1; omega)).trans (hB2.out.block k (by omega))⟩
      replace hF4 := hd hF4
      replace hG4 := hd hG4
      replace hf4 := hd hf4
      clear x30 x31 hr4
      go_wp2_with (fail)
      refine back_any _ hW4 ⟨by omega, by omega⟩ (by omega) g gcap li (by omega) own4 _ in4g in4b hap4 _ ?_
      intro w5 kv5 hW5 hf5
      have hs5 := hf5.size
      have k5 : ∀ (k : Nat) (cur : Array Value) (T : TypeId), w4.heap[k]? = some (.cells cur T (0, 0)) → T ≠ 76 → T ≠ 28 → k ≠ g → w5.heap[k]? = w4.heap[k]? := fun k cur T ek n1 n2 n3 => by
        obtain ⟨m1, m2⟩ := kept_type hW4 ek n1 n2
        exact hf5.block k (Array.getElem?_eq_some_iff.1 ek).1 (fun h => by rcases h with h | h | h; exact m1 h; exact n3 h; exact m2 h)
      have htg := own_type own4 (k := g) rfl
      have hst5 : PzSt p B (fun k => k < w1.heap.size ∨ w2.heap.size ≤ k) C4 dn4 e4 w5 := hst4.out.keepZ ho (.inl (by omega)) (fun k cur T ek n1 n2 hz => k5 k cur T ek n1 n2 (fun eg => by
        subst eg
        obtain ⟨cg, eg2⟩ := htg
        rw [ek] at eg2
        injection eg2 with eg2
        injection eg2 with _ e3
        have := (hz (.inr (.inr (.inr e3)))).2 e3
        omega))
      have hbp5 : w5.heap[p.bp]? = w4.heap[p.bp]? := hf5.block _ (by omega) (fun h => by
        have hb4 := hbp4.trans (hp.out.blk.of_block (hB2.out.block _ lbp))
        obtain ⟨m1, m2⟩ := kept_type hW4 hb4 (by decide) (by decide)
        rcases h with h | h | h
        · exact m1 h
        · have := ho.rp; omega
        · exact m2 h)
      have x50 := (World.cell?_of_block (a := ⟨p.bp, 0, none⟩) hbp5).trans x40
      have x51 := (World.cell?_of_block (a := ⟨p.bp, 1, none⟩) hbp5).trans x41
      have lbp5 : p.bp < w5.heap.size := by omega
      obtain ⟨z3, _, _⟩ := st_cells hst5
      replace hst5 := hd hst5
      replace hW5 := hd hW5
      replace k5 := hd k5
      clear own4 in4g in4b hap4
      go_wp2_with (fail)
      refine steps_any _ p.M.bx dn4 z3 _ ?_
      go_wp2_with (fail)
      refine vouts_st _ ho hst5.out _ ?_
      intro ov6 w6 hb6 hown6
      obtain ⟨oa6, oc6, rfl⟩ := own_sl hown6
      have hs6 := hb6.size
      have hst6 : PzSt p B (fun k => k < w5.heap.size) C4 dn4 e4 w6 := (hst5.out.fresh (fun k => k < w5.heap.size) (fun k hk => hk)).keepZ ho (by omega) (KeepZ.below hb6)
      obtain ⟨_, y4, ov, y2, hO⟩ := st_cells hst6
      obtain ⟨nbo, hio⟩ := hO.inp
      obtain ⟨aoo, capo, hov, _⟩ := id hO
      have hW6 := hW5.out.below hb6
      have x60 := (hb6.cell (p := ⟨p.bp, 0, none⟩) lbp5).trans x50
      have x61 := (hb6.cell (p := ⟨p.bp, 1, none⟩) lbp5).trans x51
      have lxm : p.X.bm < w6.heap.size := World.block_lt_of_cell? _ _ y4
      have lout : (outsL p.M.rl C4 p.M.nC).reverse.length ≤ 1000 := by
        rw [List.length_reverse]
        have h1 := outsL_len p.M.rl C4 p.M.nC
        have h2 := ho.hX.nC
        rw [ho.hM] at h2
        omega
      rw [hov] at y2 hio
      have hap6 : ∀ q, (Value.slice oa6 (outsL p.M.rl C4 p.M.nC).reverse.length oc6).ownBlock = some q → ∀ t ∈ ks ++ [(n + 1, Value.slice (some ⟨g, 0, none⟩) (li.length + 2) gcap)], Aprt q t.2 := fun q hq t ht => (hW5.out.mark t ht).1.apart (hown6.lt q hq).1
      have own6 := own_base hown6 (show B ≤ w5.heap.size by omega)
      have hv6 := hd (fun q (hq : (Value.slice oa6 (outsL p.M.rl C4 p.M.nC).reverse.length oc6).ownBlock = some q) => (hown6.lt q hq).1)
      replace hst6 := hd hst6
      replace hb6 := hd hb6
      clear hown6 hO
      clear hov
      replace hW6 := hd hW6
      replace own6 := hd own6
      replace hap6 := hd hap6
      replace hio := hd hio
      replace hbp4 := hd hbp4
      replace hbp5 := hd hbp5
      replace lout := hd lout
      have lks : (ks ++ [(n + 1, Value.slice (some ⟨g, 0, none⟩) (li.length + 2) gcap)]).length ≤ 1000000000000 := by simp; omega
      replace lks := hd lks
      have hn2 : 0 ≤ n + 1 ∧ n + 1 ≤ 100000000000000 := ⟨by omega, by omega⟩
      replace hn2 := hd hn2
      generalize (outsL p.M.rl C4 p.M.nC).reverse = OL at *
      go_wp2_with (fail)
      refine ints_any w6 hW6.out hn2.out lks.out _ OL lout.out own6.out _ hio.out hap6.out _ ?_
      intro w7 kv7 a7 b7 c7 hW7 hf7
      have k7 : ∀ (k : Nat) (cur : Array Value) (T : TypeId), w6.heap[k]? = some (.cells cur T (0, 0)) → T ≠ 76 → T ≠ 28 → k < w5.heap.size → w7.heap[k]? = w6.heap[k]? := fun k cur T ek n1 n2 n3 => by
        obtain ⟨m1, m2⟩ := kept_type hW6.out ek n1 n2
        exact hf7.block k (Array.getElem?_eq_some_iff.1 ek).1 (fun h => by rcases h with h | h | h; exact m1 h; (have := hv6.out k h; omega); exact m2 h)
      have hs7 := hf7.size
      have hst7 : PzSt p B (fun k => k < w5.heap.size) C4 dn4 e4 w7 := hst6.out.keepZ ho (by omega) (fun k cur T ek n1 n2 hz => by
        by_cases hk5 : k < w5.heap.size
        · exact k7 k cur T ek n1 n2 hk5
        · obtain ⟨m1, m2⟩ := kept_type hW6.out ek n1 n2
          refine hf7.block k (Array.getElem?_eq_some_iff.1 ek).1 (fun h => ?_)
          rcases h with h | h | h
          · exact m1 h
          · obtain ⟨cg, eg2⟩ := own_type own6.out h
            rw [ek] at eg2
            injection eg2 with eg2
            injection eg2 with _ e3
            exact hk5 ((hz (.inr (.inr (.inr e3)))).2 e3)
          · exact m2 h)
      have hbp7 : w7.heap[p.bp]? = w6.heap[p.bp]? := k7 p.bp _ _ (((hb6.out.block _ lbp5).trans hbp5.out).trans (hbp4.out.trans (hp.out.blk.of_block (hB2.out.block _ lbp)))) (by decide) (by decide) lbp5
      have x71 := (World.cell?_of_block (a := ⟨p.bp, 1, none⟩) hbp7).trans x61
      obtain ⟨_, y74, _⟩ := st_cells hst7
      have hfin := hd (fin.out w7 (n + 1 + 1) kv7 _ hW7 (by omega) (by omega) (by simp) ⟨(hp.out.blk.of_block (hB2.out.block _ lbp)).of_block (hbp7.trans ((hb6.out.block _ lbp5).trans (hbp5.out.trans hbp4.out))), by omega, C4, dn4, e4, hst7.fresh _ (fun _ _ => trivial)⟩
        (fun k cur T ek n1 n2 hz => by
          have e4' := hF4.out k cur T ek n1 n2 hz
          have hkl := (Array.getElem?_eq_some_iff.1 ek).1
          have e5' := (k5.out k cur T (e4'.trans ek) n1 n2 (by omega)).trans e4'
          have e6' := (hb6.out.block k (by omega)).trans e5'
          exact (k7 k cur T (e6'.trans ek) n1 n2 (by omega)).trans e6')
        (by
          refine ⟨hf7.os.trans (hb6.out.os.trans (hf5.os.trans hG4.out.os)), hf7.tape.trans (hb6.out.tape.trans (hf5.tape.trans hG4.out.tape)), hf7.output.trans (hb6.out.output.trans (hf5.output.trans hG4.out.output)), by omega, fun k hk => ?_⟩
          have hlo' := ho.r1
          have e5' : w5.heap[k]? = w4.heap[k]? := hf5.block k (by omega) (fun h => by
            rcases h with h | h | h
            · omega
            · omega
            · have := (hW4.own.lt k h).1; omega)
          have e7' : w7.heap[k]? = w6.heap[k]? := hf7.block k (by omega) (fun h => by
            rcases h with h | h | h
            · omega
            · have := hv6.out k h; omega
            · have := (hW6.out.own.lt k h).1; omega)
          exact e7'.trans ((hb6.out.block k (by omega)).trans (e5'.trans (hG4.out.block k hk)))))
      clear hW7 hf7 hst7 hW6
      go_wp2_with (first | (go_at_call 7; refine num_call _ _ _ ?_))
      exact cl1 hfin.out (by first | rfl | simp)
  · go_enter Tryz.func8, Tryz.ntmps8
    go_wp2_with (fail)
    have hbq := (Below.refl w.heap.size w).alloc (Nat.le_refl _) (Obj.cells #[.slice ia l.length icap, .int .i64 d, .bool true] 44)
    have g5 := alloc_at (W := w) (o := Obj.cells #[.slice ia l.length icap, .int .i64 d, .bool true] 44) rfl
    generalize w.alloc (Obj.cells #[.slice ia l.length icap, .int .i64 d, .bool true] 44) = wq at *
    obtain ⟨C, dn, e0, ov, _, hs⟩ := hp.out.st
    have hDD : ∃ e C', DSt p.X e C' ov dn wq := by
      rcases hs with ⟨_, _, h⟩ | ⟨_, _, C', _, _, h⟩
      · exact ⟨0, C, h.below hbq⟩
      · exact ⟨e0, C', h.below hbq⟩
    obtain ⟨e1, C1, hD⟩ := hDD
    obtain ⟨dl, sv, rv, hr⟩ := hD.row
    have c0 : wq.cell? ⟨p.X.bm, 0, none⟩ = some (.pointer (some ⟨p.X.bx, 0, none⟩)) := hr.cell (i := 0) (by omega)
    have cx : wq.cell? ⟨p.X.bx, 0, none⟩ = some (.slice p.X.acc p.X.M.nC p.X.capc) := hD.blk.cell rfl
    have hkk := hD.kinds
    have hnC := ho.hX.nC
    have hkd := ho.hX.kd
    have o0 : wq.cell? ⟨w.heap.size, 0, none⟩ = some (.slice ia l.length icap) := (cell_of_row _ _ 0 _ _ (0, 0) g5).trans rfl
    have o1 : wq.cell? ⟨w.heap.size, 1, none⟩ = some (.int .i64 d) := (cell_of_row _ _ 1 _ _ (0, 0) g5).trans rfl
    have lo0 := World.block_lt_of_cell? _ _ o0
    have hvq := hd (fun nb h => (hv.out nb h).below hbq)
    have hsq := hbq.size
    replace hbq := hd hbq
    clear hs hr hD g5
    refine kinds_any _ p.X.bm p.X.bx p.X.M.nC p.X.capc p.X.acc p.X.M.rl p.X.M.kd hnC c0 cx hkk _ ?_
    intro kv1 wk hbk hownk
    obtain ⟨ka, kc, rfl⟩ := own_sl hownk
    have hK2 : ∀ k ∈ (atF p.X.M.rl p.X.M.nC 0).map p.X.M.kd, k ≤ 2 := fun k hk => by
      obtain ⟨a, _, rfl⟩ := List.mem_map.1 hk
      exact hkd a
    have hKl : ((atF p.X.M.rl p.X.M.nC 0).map p.X.M.kd).length ≤ 1000 := by rw [List.length_map]; have := atF_len (rl := p.X.M.rl) p.X.M.nC 0; omega
    generalize (atF p.X.M.rl p.X.M.nC 0).map p.X.M.kd = K at *
    have k0 := (hbk.cell (p := ⟨w.heap.size, 0, none⟩) lo0).trans o0
    have k1 := (hbk.cell (p := ⟨w.heap.size, 1, none⟩) lo0).trans o1
    have lk0 : w.heap.size < wk.heap.size := World.block_lt_of_cell? _ _ k0
    have hsk := hbk.size
    have hvk := hd (fun nb h => (hvq.out nb h).below hbk)
    replace hbk := hd hbk
    replace hownk := hd hownk
    clear c0 cx hkk o0 o1
    go_wp2_with (fail)
    refine fit_any _ _ _ l K (hvk.out bw hW0) hownk.out hKl hK2 _ ?_
    intro fv wf hbf hownf
    obtain ⟨fa, fc, rfl⟩ := own_sl hownf
    have m1 := (hbf.cell (p := ⟨w.heap.size, 1, none⟩) lk0).trans k1
    have hb1 := hd (hbq.out.trans ((hbk.out.mono hsq).trans (hbf.mono (Nat.le_trans hsq hsk))))
    obtain ⟨li, hli⟩ : ∃ li, li = fitV l K K.length := ⟨_, rfl⟩
    have hlen : K.length = li.length := by rw [hli, fitV_len]
    rw [← hli] at hownf
    clear hli hownk hK2
    generalize K.length = kl at *
    subst hlen
    have hin := hd (fun nb (_ : W0 ≤ nb) (h2 : nb < w.heap.size) => InpAt.of_own (nb := nb) hownf (by omega))
    have hli2 : li.length ≤ 10000000000 := by omega
    clear hbf hownf hbk k0 k1
    clear hvk hvq hbq
    generalize wf = w1 at *
    go_wp2_with (fail)
    refine lpick_any _ d 1000001 hd1 ⟨by omega, by omega⟩ _ ?_
    have hdr : 0 ≤ lpickV d 1000001 ∧ lpickV d 1000001 < 1000001 := ⟨Int.emod_nonneg _ (by omega), Int.emod_lt_of_pos _ (by omega)⟩
    generalize lpickV d 1000001 = di at *
    generalize fa = ia2 at *
    generalize fc = icap2 at *
    go_wp2_with (fail)
    have lbw := hW.out.row.lt
    have hB1 := hb1.out
    have hs1 := hb1.out.size
    have hBw := hp.out.size
    have r4 := ho.r4
    have hhi := ho.hi
    refine lend_any _ _ li (hin.out bw hW0 lbw) (by omega) _ ?_
    intro lv w2 hb2 hown2
    obtain ⟨g, gcap, rfl, hgc, hgb, hgl, _, _⟩ := own_one hown2 (by omega)
    have hB2 : Below w.heap.size w w2 := hb1.out.trans (hb2.mono hb1.out.size)
    have hs2 := hb2.size
    obtain ⟨C, dn, e0, hst⟩ := hp.out.st
    have hst2 : PzSt p B (fun k => k < w1.heap.size ∨ w2.heap.size ≤ k) C dn e0 w2 :=
      (((hst.keepZ ho trivial (KeepZ.below hB1)).fresh _ (fun k hk => .inl hk)).keepZ ho (.inl (by omega)) (KeepZ.below hb2))
    have x0 : w2.cell? ⟨p.bp, 0, none⟩ = some (.pointer (some ⟨p.M.bx, 0, none⟩)) := (hp.out.blk.of_block (hB2.block _ hp.out.blk.lt)).cell rfl
    have x1 : w2.cell? ⟨p.bp, 1, none⟩ = some (.pointer (some ⟨p.X.bm, 0, none⟩)) := (hp.out.blk.of_block (hB2.block _ hp.out.blk.lt)).cell rfl
    have lbp := hp.out.blk.lt
    have hi2 : InpAt p.bc w2 (.slice (some ⟨g, 0, none⟩) li.length gcap) li := by
      have h1 := own_take (m := li.length) hown2 (by omega)
      rw [List.take_left' (by simp [intV])] at h1
      exact InpAt.of_own h1 (by have := ho.r2; omega)
    have hin2 := hd (fun nb (h : four p nb) => (hin.out nb (Nat.le_trans hlo (four_lt ho h).1) (by have := (four_lt ho h).2; omega)).below hb2)
    have jl : (0 : Int) ≤ (li.length : Int) ∧ (li.length : Int) ≤ (gcap : Int) := by omega
    have hsd := hd (hst2.keepZ (w' := w2.drew) ho (.inl (by omega)) (KeepZ.below (Below.refl _ _).drew))
    have hid := hd (hi2.below (w' := w2.drew) (Below.refl _ _).drew)
    replace hst2 := hd hst2
    replace hi2 := hd hi2
    replace hB2 := hd hB2
    replace hb2 := hd hb2
    replace hown2 := hd hown2
    clear hst hB1
    go_wp2_with (fail)
    go_region_with (go_at_call 11; refine vscan_st _ ho (by first | exact hst2.out | exact hsd.out) _ li di (by first | exact hi2.out | exact hid.out) _ ?_; intro e w3 hr3)
    all_goals
      have hr4 : VAny p C e0 li di w2 e w3 := by first | exact hr3 | exact hr3.drew
      have hx3 : w3.cell? ⟨p.bp, 0, none⟩ = some (.pointer (some ⟨p.M.bx, 0, none⟩)) ∧ w3.cell? ⟨p.bp, 1, none⟩ = some (.pointer (some ⟨p.X.bm, 0, none⟩)) := by
        have hbl : w3.heap[p.bp]? = w2.heap[p.bp]? := by
          have rp := ho.rp
          have r1 := ho.r1
          have r2 := ho.r2
          rcases hr4 with ⟨_, hr4⟩ | ⟨_, _, hb⟩
          · rcases hr4 with ⟨_, _, hb⟩ | ⟨_, q, dn2, _, ht, _⟩
            · exact hb.block _ (by omega)
            · exact ht.block _ (by omega) (by omega) (by omega)
          · exact hb.block _ (by omega)
        exact ⟨(World.cell?_of_block hbl).trans x0, (World.cell?_of_block hbl).trans x1⟩
      obtain ⟨x30, x31⟩ := hx3
      replace hr4 := hd hr4
      clear hr3
      go_wp2_with (fail)
      refine dscan_st ho (by omega) (fun k hk => .inr hk) (.inl (by omega)) hst2.out _ li di e hin2.out hr4.out _ ?_
      intro w4 hst4 hf4
      obtain ⟨C4, dn4, e4, hst4⟩ := hst4
      have hW4 := (hW.out.below hB2.out).four ho hbw hf4
      have hs4 := hf4.size
      have hbp4 : w4.heap[p.bp]? = w2.heap[p.bp]? := hf4.block _ (by omega) (fun h => by have := (four_lt ho h.1).2; have := ho.rp; omega)
      have x40 := (World.cell?_of_block (a := ⟨p.bp, 0, none⟩) hbp4).trans x0
      have x41 := (World.cell?_of_block (a := ⟨p.bp, 1, none⟩) hbp4).trans x1
      have own4 : w4.ownsRow B 3 1 (.slice (some ⟨g, 0, none⟩) (li.length + 2) gcap) (li.length + 2) (lentV li) := own_fr (own_base hown2.out (show B ≤ w1.heap.size by omega)) hf4 (fun k hk => by have := (four_lt ho hk.1).2; omega)
      have hP2 : ∀ k, four p k ∧ tyL w2 k → InpAt k w2 (.slice ia2 li.length icap2) li := fun k hk => hin2.out k hk.1
      have in4g : InpAt g w4 (.slice ia2 li.length icap2) li := (((hin.out bw hW0 lbw).fresh hgb).below hb2.out).frame hP2 hf4
      have in4b : InpAt bw w4 (.slice ia2 li.length icap2) li := ((hin.out bw hW0 lbw).below hb2.out).frame hP2 hf4
      have hap4 : ∀ q ∈ ks, Aprt g q.2 := fun q hq => ((hW.out.below hb1.out).mark q hq).1.apart hgb
      have l4 := hst4
      replace hst4 := hd hst4
      clear l4
      have hF4 : KeepZ (fun _ k => ¬ (p.lo ≤ k ∧ k < p.hi)) w w4 := fun k cur T ek n1 n2 hz => by
        have hkl := (Array.getElem?_eq_some_iff.1 ek).1
        have ek2 := (hB2.out.block k hkl).trans ek
        refine (hf4.block k (by omega) (fun h => ?_)).trans (hB2.out.block k hkl)
        obtain ⟨h1, cur2, T2, e2, h3⟩ := h
        rw [ek2] at e2
        injection e2 with e2
        injection e2 with _ e3
        subst e3
        exact hz h3 (four_lt ho h1)
      have hG4 : Below W0 w w4 := ⟨hf4.os.trans hB2.out.os, hf4.tape.trans hB2.out.tape, hf4.output.trans hB2.out.output, by omega, fun k hk => (hf4.block k (by omega) (fun h => by have := (four_lt ho h.1).1; omega)).trans (hB2.out.block k (by omega))⟩
      replace hF4 := hd hF4
      replace hG4 := hd hG4
      replace hf4 := hd hf4
      clear x30 x31 hr4
      go_wp2_with (fail)
      refine back_any _ hW4 ⟨by omega, by omega⟩ (by omega) g gcap li (by omega) own4 _ in4g in4b hap4 _ ?_
      intro w5 kv5 hW5 hf5
      have hs5 := hf5.size
      have k5 : ∀ (k : Nat) (cur : Array Value) (T : TypeId), w4.heap[k]? = some (.cells cur T (0, 0)) → T ≠ 76 → T ≠ 28 → k ≠ g → w5.heap[k]? = w4.heap[k]? := fun k cur T ek n1 n2 n3 => by
        obtain ⟨m1, m2⟩ := kept_type hW4 ek n1 n2
        exact hf5.block k (Array.getElem?_eq_some_iff.1 ek).1 (fun h => by rcases h with h | h | h; exact m1 h; exact n3 h; exact m2 h)
      have htg := own_type own4 (k := g) rfl
      have hst5 : PzSt p B (fun k => k < w1.heap.size ∨ w2.heap.size ≤ k) C4 dn4 e4 w5 := hst4.out.keepZ ho (.inl (by omega)) (fun k cur T ek n1 n2 hz => k5 k cur T ek n1 n2 (fun eg => by
        subst eg
        obtain ⟨cg, eg2⟩ := htg
        rw [ek] at eg2
        injection eg2 with eg2
        injection eg2 with _ e3
        have := (hz (.inr (.inr (.inr e3)))).2 e3
        omega))
      have hbp5 : w5.heap[p.bp]? = w4.heap[p.bp]? := hf5.block _ (by omega) (fun h => by
        have hb4 := hbp4.trans (hp.out.blk.of_block (hB2.out.block _ lbp))
        obtain ⟨m1, m2⟩ := kept_type hW4 hb4 (by decide) (by decide)
        rcases h with h | h | h
        · exact m1 h
        · have := ho.rp; omega
        · exact m2 h)
      have x50 := (World.cell?_of_block (a := ⟨p.bp, 0, none⟩) hbp5).trans x40
      have x51 := (World.cell?_of_block (a := ⟨p.bp, 1, none⟩) hbp5).trans x41
      have lbp5 : p.bp < w5.heap.size := by omega
      obtain ⟨z3, _, _⟩ := st_cells hst5
      replace hst5 := hd hst5
      replace hW5 := hd hW5
      replace k5 := hd k5
      clear own4 in4g in4b hap4
      go_wp2_with (fail)
      refine steps_any _ p.M.bx dn4 z3 _ ?_
      go_wp2_with (fail)
      refine vouts_st _ ho hst5.out _ ?_
      intro ov6 w6 hb6 hown6
      obtain ⟨oa6, oc6, rfl⟩ := own_sl hown6
      have hs6 := hb6.size
      have hst6 : PzSt p B (fun k => k < w5.heap.size) C4 dn4 e4 w6 := (hst5.out.fresh (fun k => k < w5.heap.size) (fun k hk => hk)).keepZ ho (by omega) (KeepZ.below hb6)
      obtain ⟨_, y4, ov, y2, hO⟩ := st_cells hst6
      obtain ⟨nbo, hio⟩ := hO.inp
      obtain ⟨aoo, capo, hov, _⟩ := id hO
      have hW6 := hW5.out.below hb6
      have x60 := (hb6.cell (p := ⟨p.bp, 0, none⟩) lbp5).trans x50
      have x61 := (hb6.cell (p := ⟨p.bp, 1, none⟩) lbp5).trans x51
      have lxm : p.X.bm < w6.heap.size := World.block_lt_of_cell? _ _ y4
      have lout : (outsL p.M.rl C4 p.M.nC).reverse.length ≤ 1000 := by
        rw [List.length_reverse]
        have h1 := outsL_len p.M.rl C4 p.M.nC
        have h2 := ho.hX.nC
        rw [ho.hM] at h2
        omega
      rw [hov] at y2 hio
      have hap6 : ∀ q, (Value.slice oa6 (outsL p.M.rl C4 p.M.nC).reverse.length oc6).ownBlock = some q → ∀ t ∈ ks ++ [(n + 1, Value.slice (some ⟨g, 0, none⟩) (li.length + 2) gcap)], Aprt q t.2 := fun q hq t ht => (hW5.out.mark t ht).1.apart (hown6.lt q hq).1
      have own6 := own_base hown6 (show B ≤ w5.heap.size by omega)
      have hv6 := hd (fun q (hq : (Value.slice oa6 (outsL p.M.rl C4 p.M.nC).reverse.length oc6).ownBlock = some q) => (hown6.lt q hq).1)
      replace hst6 := hd hst6
      replace hb6 := hd hb6
      clear hown6 hO
      clear hov
      replace hW6 := hd hW6
      replace own6 := hd own6
      replace hap6 := hd hap6
      replace hio := hd hio
      replace hbp4 := hd hbp4
      replace hbp5 := hd hbp5
      replace lout := hd lout
      have lks : (ks ++ [(n + 1, Value.slice (some ⟨g, 0, none⟩) (li.length + 2) gcap)]).length ≤ 1000000000000 := by simp; omega
      replace lks := hd lks
      have hn2 : 0 ≤ n + 1 ∧ n + 1 ≤ 100000000000000 := ⟨by omega, by omega⟩
      replace hn2 := hd hn2
      generalize (outsL p.M.rl C4 p.M.nC).reverse = OL at *
      go_wp2_with (fail)
      refine ints_any w6 hW6.out hn2.out lks.out _ OL lout.out own6.out _ hio.out hap6.out _ ?_
      intro w7 kv7 a7 b7 c7 hW7 hf7
      have k7 : ∀ (k : Nat) (cur : Array Value) (T : TypeId), w6.heap[k]? = some (.cells cur T (0, 0)) → T ≠ 76 → T ≠ 28 → k < w5.heap.size → w7.heap[k]? = w6.heap[k]? := fun k cur T ek n1 n2 n3 => by
        obtain ⟨m1, m2⟩ := kept_type hW6.out ek n1 n2
        exact hf7.block k (Array.getElem?_eq_some_iff.1 ek).1 (fun h => by rcases h with h | h | h; exact m1 h; (have := hv6.out k h; omega); exact m2 h)
      have hs7 := hf7.size
      have hst7 : PzSt p B (fun k => k < w5.heap.size) C4 dn4 e4 w7 := hst6.out.keepZ ho (by omega) (fun k cur T ek n1 n2 hz => by
        by_cases hk5 : k < w5.heap.size
        · exact k7 k cur T ek n1 n2 hk5
        · obtain ⟨m1, m2⟩ := kept_type hW6.out ek n1 n2
          refine hf7.block k (Array.getElem?_eq_some_iff.1 ek).1 (fun h => ?_)
          rcases h with h | h | h
          · exact m1 h
          · obtain ⟨cg, eg2⟩ := own_type own6.out h
            rw [ek] at eg2
            injection eg2 with eg2
            injection eg2 with _ e3
            exact hk5 ((hz (.inr (.inr (.inr e3)))).2 e3)
          · exact m2 h)
      have hbp7 : w7.heap[p.bp]? = w6.heap[p.bp]? := k7 p.bp _ _ (((hb6.out.block _ lbp5).trans hbp5.out).trans (hbp4.out.trans (hp.out.blk.of_block (hB2.out.block _ lbp)))) (by decide) (by decide) lbp5
      have x71 := (World.cell?_of_block (a := ⟨p.bp, 1, none⟩) hbp7).trans x61
      obtain ⟨_, y74, _⟩ := st_cells hst7
      have hfin := hd (fin.out w7 (n + 1 + 1) kv7 _ hW7 (by omega) (by omega) (by simp) ⟨(hp.out.blk.of_block (hB2.out.block _ lbp)).of_block (hbp7.trans ((hb6.out.block _ lbp5).trans (hbp5.out.trans hbp4.out))), by omega, C4, dn4, e4, hst7.fresh _ (fun _ _ => trivial)⟩
        (fun k cur T ek n1 n2 hz => by
          have e4' := hF4.out k cur T ek n1 n2 hz
          have hkl := (Array.getElem?_eq_some_iff.1 ek).1
          have e5' := (k5.out k cur T (e4'.trans ek) n1 n2 (by omega)).trans e4'
          have e6' := (hb6.out.block k (by omega)).trans e5'
          exact (k7 k cur T (e6'.trans ek) n1 n2 (by omega)).trans e6')
        (by
          refine ⟨hf7.os.trans (hb6.out.os.trans (hf5.os.trans hG4.out.os)), hf7.tape.trans (hb6.out.tape.trans (hf5.tape.trans hG4.out.tape)), hf7.output.trans (hb6.out.output.trans (hf5.output.trans hG4.out.output)), by omega, fun k hk => ?_⟩
          have hlo' := ho.r1
          have e5' : w5.heap[k]? = w4.heap[k]? := hf5.block k (by omega) (fun h => by
            rcases h with h | h | h
            · omega
            · omega
            · have := (hW4.own.lt k h).1; omega)
          have e7' : w7.heap[k]? = w6.heap[k]? := hf7.block k (by omega) (fun h => by
            rcases h with h | h | h
            · omega
            · have := hv6.out k h; omega
            · have := (hW6.out.own.lt k h).1; omega)
          exact e7'.trans ((hb6.out.block k (by omega)).trans (e5'.trans (hG4.out.block k hk)))))
      clear hW7 hf7 hst7 hW6
      go_wp2_with (first | (go_at_call 7; refine num_call _ _ _ ?_))
      exact cl1 hfin.out (by first | rfl | simp)

end Go.Proofs.YtidhiaaicmfabaaGreat
