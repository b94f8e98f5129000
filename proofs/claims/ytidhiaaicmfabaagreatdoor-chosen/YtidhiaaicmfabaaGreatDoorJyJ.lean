/- A whole text is read; the map of names. -/
import Derived.Test.YtidhiaaicmfabaaGreatDoorKaA
import Derived.WalkKit
import Derived.WalkSpells
import Derived.WalkLawsBesides
import Derived.Deep.OwnRows
import Derived.BigQuiet
import Derived.Handy
import Derived.Deep.Light
import Derived.Deep.RegionHeld3
import Derived.Deep.RegionWith
import Derived.Test.YtidhiaaicmfabaaGreatDoorJyI
import Derived.Deep.LoopGhost
import Derived.Maps.OwnSet
import Derived.Maps.Views
import Derived.StringKeys

/- Roles; variables in memory (seat .ZD alone). -/
namespace Go.Proofs.YtidhiaaicmfabaaGreatDoor
open Go.RowKit Go.Proofs Go.Deep

set_option maxRecDepth 100000 in
theorem role_var (w : World) {bp : Nat} {pv : Value} {L : List ByteArray} {k : Nat} {d : Int} {uv : Value} {bad : Bool} (h : Pa bp pv L k d uv bad w) (hs : nextS L k = wVAR) (R : Ending → World → Prop)
    (fin : ∀ w', Pa bp pv L (k + 1) d uv bad w' → Only bp w w' → R (.returned (.tuple #[.int .u8 2, .bool true])) w') : Calls Tryz.prog 130 #[.pointer (some ⟨bp, 0, none⟩)] w R := by
  have n1 : ((nextS L k).toList == wIN.toList) = false := by rw [hs]; kernel_rfl
  have n2 : ((nextS L k).toList == wOUT.toList) = false := by rw [hs]; kernel_rfl
  replace fin := hd fin
  go_enter Tryz.func130, Tryz.ntmps130
  go_wp2_with (fail)
  refine accept_no _ h wIN n1 _ ?_
  intro w1 h1 ho1
  replace ho1 := hd ho1
  go_wp2_with (fail)
  refine accept_no _ h1 wOUT n2 _ ?_
  intro w2 h2 ho2
  replace ho2 := hd ho2
  go_wp2_with (fail)
  refine accept_yes _ h2 wVAR hs (by unfold wVAR; intro e; injection e with e; exact absurd e (by decide)) _ ?_
  intro w3 h3 ho3
  replace h3 := hd h3
  replace ho3 := hd ho3
  go_wp2
  exact cl1 (fin.out _ h3.out ((ho1.out.step ho2.out).step ho3.out)) rfl
def RoleP (B bp : Nat) (pv : Value) (L : List ByteArray) (d : Int) (r : List Vd) (k : Nat) (us : List ByteArray) (w : World) (rv : Int) (ok : Bool) (uv : Value) : Prop :=
  (r = [] ∧ ok = false ∧ Ps B bp pv L k d us uv w) ∨ (∃ v t, r = v :: t ∧ ok = true ∧ rv = (v.role : Int) ∧ Ps B bp pv L (k + 1) d us uv w)
/-- Variables as they are written. -/
def toksD : List Vd → List ByteArray
  | [] => []
  | v :: t => rW v.role :: (toksV v ++ toksD t)
theorem toksD_app : ∀ a b : List Vd, toksD (a ++ b) = toksD a ++ toksD b
  | [], _ => rfl
  | v :: t, b => by simp only [List.cons_append, toksD, toksD_app t b, List.append_assoc]
theorem role_head {r : List Vd} (hr : ∀ v ∈ r, v.role < 3) {w : World} {B bp : Nat} {pv : Value} {L : List ByteArray} {k : Nat} {d : Int} {us : List ByteArray} {uv : Value} (h : Ps B bp pv L k d us uv w) (ht : TokAt L k (toksD r)) (hst : nextS L (k + (toksD r).length) = wBEGIN)
    (R : Ending → World → Prop) (fin : ∀ w' rv ok, RoleP B bp pv L d r k us w' rv ok uv → Fu bp uv uv w w' → R (.returned (.tuple #[.int .u8 rv, .bool ok])) w') : Calls Tryz.prog 130 #[.pointer (some ⟨bp, 0, none⟩)] w R := by
  cases r with
  | nil =>
    have hs : nextS L k = wBEGIN := hst
    have n1 : ((nextS L k).toList == wIN.toList) = false := by rw [hs]; kernel_rfl
    have n2 : ((nextS L k).toList == wOUT.toList) = false := by rw [hs]; kernel_rfl
    have n3 : ((nextS L k).toList == wVAR.toList) = false := by rw [hs]; kernel_rfl
    exact role_no _ h.pa n1 n2 n3 R (fun w' h1 ho => fin w' _ _ (.inl ⟨rfl, rfl, h.only h1 ho (by omega)⟩) (Fu.of_only ho))
  | cons v t =>
    have hs : nextS L k = rW v.role := ht.head
    have hv : v.role = 0 ∨ v.role = 1 ∨ v.role = 2 := by have := hr v (List.mem_cons_self ..); omega
    rcases hv with e | e | e
    · exact role_in _ h.pa (by rw [hs, e]; rfl) R (fun w' h1 ho => fin w' _ _ (.inr ⟨v, t, rfl, rfl, by rw [e]; rfl, h.only h1 ho (by omega)⟩) (Fu.of_only ho))
    · exact role_out _ h.pa (by rw [hs, e]; rfl) R (fun w' h1 ho => fin w' _ _ (.inr ⟨v, t, rfl, rfl, by rw [e]; rfl, h.only h1 ho (by omega)⟩) (Fu.of_only ho))
    · exact role_var _ h.pa (by rw [hs, e]; rfl) R (fun w' h1 ho => fin w' _ _ (.inr ⟨v, t, rfl, rfl, by rw [e]; rfl, h.only h1 ho (by omega)⟩) (Fu.of_only ho))
def ptzV (bs : List Nat) : List Value := bs.map (fun b => .pointer (some ⟨b, 0, none⟩))
/-- The variables of a text in memory, with their first cells. -/
structure VarsIn (fst : Nat → Int) (lo : Nat) (w : World) (vs : List Vd) (bs : List Nat) : Prop where
  len : bs.length = vs.length
  inc : bs.Pairwise (· < ·)
  row : ∀ (i : Nat) (v : Vd) (b : Nat), vs[i]? = some v → bs[i]? = some b → lo ≤ b ∧ w.rowIs b 147 6 (vdF v (fst i))
theorem VarsIn.keep {fst : Nat → Int} {lo : Nat} {w w' : World} {vs : List Vd} {bs : List Nat} (h : VarsIn fst lo w vs bs) (hk : ∀ b cur, lo ≤ b → w.heap[b]? = some (.cells cur 147 (0, 0)) → w'.heap[b]? = w.heap[b]?) : VarsIn fst lo w' vs bs :=
  ⟨h.len, h.inc, fun i v b hv hb => by
    obtain ⟨h1, h2⟩ := h.row i v b hv hb
    obtain ⟨c, hc, h3⟩ := h2
    exact ⟨h1, c, (hk b c h1 hc).trans hc, h3⟩⟩
theorem VarsIn.snoc {fst : Nat → Int} {lo : Nat} {w : World} {vs : List Vd} {bs : List Nat} (h : VarsIn fst lo w vs bs) {v : Vd} {b : Nat} (hf : fst vs.length = 0) (hlo : lo ≤ b) (hb : ∀ x ∈ bs, x < b) (hr : w.rowIs b 147 6 (vdF v 0)) : VarsIn fst lo w (vs ++ [v]) (bs ++ [b]) := by
  refine ⟨by simp [h.len], ?_, fun i u c hu hc => ?_⟩
  · rw [List.pairwise_append]
    exact ⟨h.inc, List.pairwise_singleton _ _, fun x hx y hy => by simp only [List.mem_singleton] at hy; subst hy; exact hb x hx⟩
  · by_cases hi : i < vs.length
    · rw [List.getElem?_append_left hi] at hu
      rw [List.getElem?_append_left (by rw [h.len]; exact hi)] at hc
      exact h.row i u c hu hc
    · have hi2 : i = vs.length := by
        have := (List.getElem?_eq_some_iff.1 hu).1
        simp at this
        omega
      subst hi2
      rw [List.getElem?_append_right (Nat.le_refl _)] at hu
      rw [List.getElem?_append_right (by rw [h.len]; exact Nat.le_refl _)] at hc
      simp only [Nat.sub_self, h.len, List.getElem?_cons_zero, Option.some.injEq] at hu hc
      subst hu; subst hc
      rw [hf]
      exact ⟨hlo, hr⟩
theorem ulPtrs : Tryz.prog.underlying 84 = some (.slice 144) := by kernel_rfl
theorem infoPtr : (Tryz.prog.info? 144).map (fun i => (i.zero, i.size, i.bytes)) = some (some (.pointer none), 1, 8) := by kernel_rfl
theorem onePtr (a : Option Addr) : ∀ x ∈ [Value.pointer a], x.oneCell' = true := by
  intro x hx; simp only [List.mem_cons, List.not_mem_nil, or_false] at hx; subst hx; rfl
theorem lenD_le : ∀ l : List Vd, l.length ≤ (toksD l).length
  | [] => Nat.le_refl _
  | v :: t => by have := lenD_le t; simp only [toksD, List.length_append, List.length_cons]; omega

end Go.Proofs.YtidhiaaicmfabaaGreatDoor

/- A whole text is read (seat .ZD alone). -/
namespace Go.Proofs.YtidhiaaicmfabaaGreatDoor
open Go.RowKit Go.Proofs Go.Deep

/-- Where the reader stands in the loop over variables. -/
def LoopD (B bp : Nat) (pv : Value) (L : List ByteArray) (d : Int) (l : List Vd) (k : Nat) (us : List ByteArray) (uv : Value) (w0 : World) (lv : Value) (rv : Int) (ok : Bool) (wr : World) (rest : List Vd) : Prop :=
  ∃ done bs, l = done ++ rest ∧ RoleP B bp pv L d rest (k + (toksD done).length) us wr rv ok uv ∧ Fu bp uv uv w0 wr ∧ wr.ownsRow w0.heap.size 144 1 lv done.length (ptzV bs) ∧ VarsIn (fun _ => 0) w0.heap.size wr done bs ∧ (∀ x ∈ bs, x < wr.heap.size)
theorem own_apart {B bp : Nat} {pv : Value} {L : List ByteArray} {k : Nat} {d : Int} {us : List ByteArray} {uv uv' : Value} {w w' : World} (hp : Ps B bp pv L k d us uv w) (hf : Fu bp uv uv' w w') {base T sz n : Nat} {lv : Value} {xs : List Value} (h : w.ownsRow base T sz lv n xs) (hT : T ≠ 9) (hb : bp < base) : w'.ownsRow base T sz lv n xs :=
  own_keep h (fun j hj hB _ => by
    obtain ⟨cur, hcur⟩ : ∃ cur, w.heap[j]? = some (.cells cur T (0, 0)) := by
      rcases h.2 with ⟨e1, _⟩ | ⟨g, cap, cur, e1, _, hg, _⟩
      · rw [e1] at hj; simp [Value.ownBlock] at hj
      · rw [e1] at hj
        simp only [Value.ownBlock, Option.some.injEq] at hj
        subst hj
        exact ⟨cur, hg⟩
    exact (hp.apart hcur hT (by omega) hf).trans hcur.symm)
theorem VarsIn.fu {fst : Nat → Int} {lo : Nat} {vs : List Vd} {bs : List Nat} {B bp : Nat} {pv : Value} {L : List ByteArray} {k : Nat} {d : Int} {us : List ByteArray} {uv uv' : Value} {w w' : World} (h : VarsIn fst lo w vs bs) (hp : Ps B bp pv L k d us uv w) (hf : Fu bp uv uv' w w') (hb : bp < lo) : VarsIn fst lo w' vs bs :=
  h.keep (fun b cur h1 hc => (hp.apart hc (by decide) (by omega) hf).trans hc.symm)
theorem own_tag {w w' : World} {base T sz n : Nat} {lv : Value} {xs : List Value} (h : w.ownsRow base T sz lv n xs) (hk : ∀ (b : Nat) (cur : Array Value), w.heap[b]? = some (.cells cur T (0, 0)) → w'.heap[b]? = w.heap[b]?) : w'.ownsRow base T sz lv n xs := by
  refine ⟨h.1, ?_⟩
  rcases h.2 with h2 | ⟨g, cap, cur, rfl, hb, hg, r⟩
  · exact .inl h2
  · exact .inr ⟨g, cap, cur, rfl, hb, (hk g cur hg).trans hg, r⟩
/-- What the reader gives for a whole text. -/
structure ProgIn (w0 w : World) (B : Nat) (vs : List Vd) (bs : List Nat) (us : List ByteArray) (body : Sl) (xs : List Value) (vv uv bv : Value) : Prop where
  vown : w.ownsRow w0.heap.size 144 1 vv vs.length (ptzV bs)
  vars : VarsIn (fun _ => 0) w0.heap.size w vs bs
  used : w.ownsRow B 9 1 uv us.length (strV us)
  bown : w.ownsRow w0.heap.size 240 1 bv body.len xs
  body : ∃ lo, w0.heap.size ≤ lo ∧ SlIn (fun _ => 0) bv.ownBlock body lo w.heap.size w xs
set_option maxRecDepth 100000 in
set_option maxHeartbeats 4000000 in
theorem program_ok {l : List Vd} {body : Sl} (hv : ∀ v ∈ l, v.role < 3 ∧ VarOk v) (hb : AllOk body) (hdep : depL body ≤ 10) {w : World} {B bp : Nat} {pv : Value} {L : List ByteArray} {us : List ByteArray} {uv : Value} (h : Ps B bp pv L 0 0 us uv w) (ht : TokAt L 0 (toksD l ++ wBEGIN :: (toksL body ++ [wEND]))) (hlen : L.length = (toksD l ++ wBEGIN :: (toksL body ++ [wEND])).length)
    (R : Ending → World → Prop) (fin : ∀ w' bs xs vv uv' bv, Fu bp uv uv' w w' → (∃ k, Pa bp pv L k 0 uv' false w') → ProgIn w w' B l bs (us ++ namesL body) body xs vv uv' bv → R (.returned (.agg #[vv, uv', bv])) w') :
    Calls Tryz.prog 68 #[.pointer (some ⟨bp, 0, none⟩)] w R := by
  have hbw := h.pa.row.lt
  have hne : bp ≠ w.heap.size := by omega
  have hB0 := h.le
  replace fin := hd fin
  go_enter Tryz.func68, Tryz.ntmps68
  go_wp2_with (fail)
  refine role_head (r := l) (fun v hm => (hv v hm).1) (h.alloc _) ht.left (by exact ht.right.head) _ ?_
  intro w1 rv ok h1 hf1
  have hb1 := (h.alloc (Obj.cells #[.slice none 0 0, .slice none 0 0, .slice none 0 0] 87)).apart allocCells (by decide) hne hf1
  have hL1 : LoopD B bp pv L 0 l 0 us uv w (.slice none 0 0) rv ok w1 l := ⟨[], [], rfl, by simpa [toksD] using h1, (Fu.of_below ((Below.refl _ w).alloc (Nat.le_refl _) _)).trans hf1, World.ownsRow_nil _ _ _ _, ⟨rfl, List.Pairwise.nil, fun i v b hv _ => by simp at hv⟩, fun x hx => by simp at hx⟩
  replace hL1 := hd hL1
  replace hb1 := hd hb1
  clear h1 hf1
  go_wp2
  go_loopg [3, 4, 5] l.length (fun gk lv rvv okv wr => ∃ rv ok rest, rvv = .int .u8 rv ∧ okv = .bool ok ∧ gk = rest.length ∧ LoopD B bp pv L 0 l 0 us uv w lv rv ok wr rest ∧ wr.heap[w.heap.size]? = some (.cells #[.slice none 0 0, .slice none 0 0, .slice none 0 0] 87))
  case atStart => exact ⟨rv, ok, l, rfl, rfl, rfl, hL1.out, hb1.out⟩
  case round =>
    obtain ⟨rv2, ok2, rest, rfl, rfl, hgk, ⟨done, bs, happ, hh, hfu, hown, hvars, hbs⟩, hbr⟩ := hrel
    clear hL1 hb1
    rcases hh with ⟨rfl, rfl, hps⟩ | ⟨v, t, rfl, rfl, rfl, hps⟩
    · rw [List.append_nil] at happ
      subst happ
      obtain ⟨ao, cp, rfl⟩ := own_slS hown
      replace hown := hd hown
      replace hfu := hd hfu
      go_wp2_with (fail)
      refine pExp (s := wBEGIN) hps (by exact ht.right.head) (by decide) _ ?_
      intro w2 h2 hf2
      have hown2 := own_apart hps hf2 hown.out (by decide) hbw
      have hvars2 := hvars.fu hps hf2 hbw
      have hb2 := hps.apart hbr (by decide) hne hf2
      have hfuA := hfu.out.trans hf2
      have hz2 : w.heap.size ≤ w2.heap.size := hfuA.size
      have hzs : w.heap.size < w2.heap.size := (Array.getElem?_eq_some_iff.1 hb2).1
      clear hown hvars hbr hfu hf2 hps hbs
      go_wp2_with (fail)
      have e1 : 0 + (toksD l).length + 1 + (toksL body).length = 0 + (toksD l).length + 1 + (toksL body).length := rfl
      refine stmts_ok hb h2 (by exact ht.right.tail.left) (by rw [ht.right.tail.right.head]; exact stop_END) (Int.le_refl _) (by omega) _ ?_
      intro w3 bv xs uv3 h3 hf3 hrow3 hsl3
      obtain ⟨bo, bc, rfl⟩ := own_slS hrow3.1
      have hown3 := own_apart h2 hf3 hown2 (by decide) hbw
      have hvars3 := hvars2.fu h2 hf3 hbw
      have hb3 := h2.apart hb2 (by decide) hne hf3
      have hfuB := hfuA.trans hf3
      have hz3 := hf3.size
      clear hown2 hvars2 hb2 hfuA hf3 h2
      go_wp2_with (fail)
      refine pExp (s := wEND) h3 (by exact ht.right.tail.right.head) (by decide) _ ?_
      intro w4 h4 hf4
      have hown4 := own_apart h3 hf4 hown3 (by decide) hbw
      have hvars4 := hvars3.fu h3 hf4 hbw
      have hb4 := h3.apart hb3 (by decide) hne hf4
      have hfuC := hfuB.trans hf4
      have hbo4 := own_apart h3 hf4 hrow3.1 (by decide) (show bp < w2.heap.size by omega)
      have hsl4 := hsl3.keep (hf4.same h3 (show bp < w2.heap.size by omega) _)
      have hz4 := hf4.size
      clear hown3 hvars3 hb3 hfuB hf4 h3 hrow3 hsl3
      go_wp2_with (fail)
      refine pNext h4 _ ?_
      intro w5 h5 hf5
      have hend : nextS L (0 + (toksD l).length + 1 + (toksL body).length + 1) = ⟨#[]⟩ := nextS_end (by rw [hlen]; simp only [List.length_append, List.length_cons, List.length_nil]; omega)
      rw [hend]
      have tn : ((⟨#[]⟩ : ByteArray).toList != []) = false := by kernel_rfl
      have hown5 := hd (own_apart h4 hf5 hown4 (by decide) hbw)
      have hvars5 := hd (hvars4.fu h4 hf5 hbw)
      have hb5 := h4.apart hb4 (by decide) hne hf5
      have hfuD := hd (hfuC.trans hf5)
      have hbo5 := hd (own_apart h4 hf5 hbo4 (by decide) (show bp < w2.heap.size by omega))
      have hsl5 := hd (hsl4.keep (hf5.same h4 (show bp < w2.heap.size by omega) _))
      have hz5 := hf5.size
      have c3 : w5.cell? ⟨bp, 3, none⟩ = some uv3 := h5.pa.row.cell (i := 3) (by omega)
      have a0 := cellOf (i := 0) hb5 rfl
      have a1 := cellOf (i := 1) hb5 rfl
      have a2 := cellOf (i := 2) hb5 rfl
      have fz := fun i => frozOf (i := i) hb5
      have lb5 := h5.pa.row.lt
      obtain ⟨uo, uc, rfl⟩ := own_slS h5.own
      clear hown4 hvars4 hb4 hfuC hf5 h4 hbo4 hsl4
      replace h5 := hd h5
      generalize hz : w.heap.size = z at *
      replace hz := hd hz
      replace hb5 := hd hb5
      go_wp2
      have hbz := heapSet (i := 2) (heapSet (i := 1) (heapSet (i := 0) hb5.out (.slice ao l.length cp)) (.slice uo (us.length + (namesL body).length) uc)) (.slice bo body.len bc)
      have r0 := cellOf (i := 0) hbz rfl
      have r1 := cellOf (i := 1) hbz rfl
      have r2 := cellOf (i := 2) hbz rfl
      have hps6 := ((h5.out.setNew hb5.out (by decide) hB0 0 (.slice ao l.length cp)).setNew (heapSet hb5.out _) (by decide) hB0 1 (.slice uo (us.length + (namesL body).length) uc)).setNew (heapSet (heapSet hb5.out _) _) (by decide) hB0 2 (.slice bo body.len bc)
      have hfu6 := ((hfuD.out.setNew (Nat.le_of_eq hz.out) 0 (.slice ao l.length cp)).setNew (Nat.le_of_eq hz.out) 1 (.slice uo (us.length + (namesL body).length) uc)).setNew (Nat.le_of_eq hz.out) 2 (.slice bo body.len bc)
      have hk : ∀ (b : Nat) (cur : Array Value) (T : Nat), T ≠ 87 → w5.heap[b]? = some (.cells cur T (0, 0)) → (((w5.setCell ⟨z, 0, none⟩ (.slice ao l.length cp)).setCell ⟨z, 1, none⟩ (.slice uo (us.length + (namesL body).length) uc)).setCell ⟨z, 2, none⟩ (.slice bo body.len bc)).heap[b]? = w5.heap[b]? := fun b cur T hT hc => by
        have hbz : b ≠ z := fun e => by
          rw [e, hb5.out] at hc
          injection hc with e1
          injection e1 with _ e2
          exact hT e2.symm
        exact ((Below.heap_setCell _ _ _ _ hbz).trans (Below.heap_setCell _ _ _ _ hbz)).trans (Below.heap_setCell _ _ _ _ hbz)
      refine bodyPost_ret (v := .agg #[.slice ao l.length cp, .slice uo (us.length + (namesL body).length) uc, .slice bo body.len bc]) (by simp [results, Tryz.results68, go_sem, r0, r1, r2]) rfl ?_
      have hu := hps6.own
      have hz' := hz.out
      subst hz'
      refine fin.out _ bs xs _ _ _ (by simpa using hfu6) ⟨_, by simpa using hps6.pa⟩ ⟨own_tag hown5.out (fun b cur hc => hk b cur _ (by decide) hc), hvars5.out.keep (fun b cur _ hc => hk b cur _ (by decide) hc), by simpa using hu, ?_, w2.heap.size, hz2, ?_⟩
      · have := own_tag hbo5.out (fun b cur hc => hk b cur _ (by decide) hc)
        exact ⟨this.1, by
          rcases this.2 with h2 | ⟨g, cap, cur, e, hb, r⟩
          · exact .inl h2
          · exact .inr ⟨g, cap, cur, e, by omega, r⟩⟩
      · have hsz : (((w5.setCell ⟨w.heap.size, 0, none⟩ (.slice ao l.length cp)).setCell ⟨w.heap.size, 1, none⟩ (.slice uo (us.length + (namesL body).length) uc)).setCell ⟨w.heap.size, 2, none⟩ (.slice bo body.len bc)).heap.size = w5.heap.size := by simp
        rw [hsz]
        exact (hsl5.out.keep (fun b cur T hT hlo _ _ hc => ((Below.heap_setCell _ _ _ _ (show b ≠ w.heap.size by omega)).trans (Below.heap_setCell _ _ _ _ (show b ≠ w.heap.size by omega))).trans (Below.heap_setCell _ _ _ _ (show b ≠ w.heap.size by omega)))).wide (Nat.le_refl _) (by omega)
    · have hvv := hv v (by rw [happ]; simp)
      have hwr := hfu.size
      have hlt := hps.pa.row.lt
      have hlen2 : done.length ≤ 1000000 := by
        have h1 := hps.pa.le
        have h2 := hps.pa.sm
        have h3 := lenD_le done
        omega
      obtain ⟨ao, cp, rfl⟩ := own_slS hown
      have ht1 : TokAt L (0 + (toksD done).length) (rW v.role :: (toksV v ++ toksD t) ++ wBEGIN :: (toksL body ++ [wEND])) := by
        have := ht
        rw [happ, toksD_app] at this
        simp only [List.append_assoc] at this
        exact this.right
      have ht2 : TokAt L (0 + (toksD done).length + 1) (toksV v ++ (toksD t ++ wBEGIN :: (toksL body ++ [wEND]))) := by
        have this : TokAt L (0 + (toksD done).length + 1) ((toksV v ++ toksD t) ++ (wBEGIN :: (toksL body ++ [wEND]))) := ht1.tail
        rw [List.append_assoc] at this
        exact this
      replace hfu := hd hfu
      replace hown := hd hown
      go_wp2_with (fail)
      refine hvv.2 hps ht2.left _ ?_
      intro w2 b h2 hf2 hb0 hrow
      have hown2 := own_apart hps hf2 hown.out (by decide) hbw
      have hvars2 := hvars.fu hps hf2 hbw
      have hb2 := hps.apart hbr (by decide) hne hf2
      have hfuA := hfu.out.trans hf2
      have hz2 := hf2.size
      have hbs2 : ∀ x ∈ bs, x < b := fun x hx => by have := hbs x hx; omega
      have hbw2 : b < w2.heap.size := hrow.lt
      clear hown hvars hbr hfu hf2 hps hbs
      have hwz : w.heap.size ≤ w2.heap.size := hfuA.size
      have hr := hd hown2
      replace h2 := hd h2
      replace hb2 := hd hb2
      replace hvars2 := hd hvars2
      replace hfuA := hd hfuA
      replace hrow := hd hrow
      clear hown2
      go_wp2_with (first | (at_builtin; refine wpList_appZ _ rfl _ _ 84 rfl w.heap.size 144 _ 1 8 ulPtrs infoPtr rfl (by decide) _ done.length (ptzV bs) rfl (by exact hr.out.alloc _) ⟨w2.heap.size, 0, none⟩ 1 1 [.pointer (some ⟨b, 0, none⟩)] rfl rfl (by exact news_atZ (newZ (by simp))) (onePtr _) (by unfold maxLen; omega) (by omega) (by simp; omega) ?_; intro v3 w3 hown3 hgr3 hl3; obtain ⟨ao3, cp3, rfl⟩ := own_slS hown3; replace hown3 := hd hown3; replace hgr3 := hd hgr3; replace hl3 := hd hl3))
      have hk2 : ∀ b, b < w2.heap.size → (Value.slice ao done.length cp).ownBlock ≠ some b → w3.heap[b]? = w2.heap[b]? := fun i hi hne => (hgr3.out.block i (by simp; omega) (fun e => hne e.symm)).trans (Below.heap_alloc _ _ _ hi)
      have hz3 : w2.heap.size + 1 ≤ w3.heap.size := by have := hgr3.out.size; simp at this; omega
      have hps2 := h2.out.grow (w' := w3) hr.out (by decide) (Nat.le_trans h.le (Nat.le_refl _)) (by omega) hk2
      have hfu2 := hfuA.out.grow (w' := w3) hgr3.out.os hgr3.out.tape hgr3.out.output (by omega) hk2 (fun b hb => (hr.out.lt b hb).1)
      have hkT : ∀ (c : Nat) (cur : Array Value) (T : Nat), T ≠ 144 → w2.heap[c]? = some (.cells cur T (0, 0)) → w3.heap[c]? = w2.heap[c]? := fun c cur T hT hc => hk2 c (Array.getElem?_eq_some_iff.1 hc).1 (fun e => by
        rcases hr.out.2 with ⟨e1, _⟩ | ⟨g, cap, cur2, e1, _, hg, _⟩
        · rw [e1] at e; simp [Value.ownBlock] at e
        · rw [e1] at e
          simp only [Value.ownBlock, Option.some.injEq] at e
          subst e
          rw [hg] at hc
          injection hc with e1
          injection e1 with _ e2
          exact hT e2.symm)
      have hvars3 := hvars2.out.keep (w' := w3) (fun c cur _ hc => hkT c cur _ (by decide) hc)
      have hrow3 : w3.rowIs b 147 6 (vdF v 0) := by
        obtain ⟨c, hc, hr2⟩ := hrow.out
        exact ⟨c, (hkT b c _ (by decide) hc).trans hc, hr2⟩
      have hvars4 := hvars3.snoc (v := v) rfl (show w.heap.size ≤ b by omega) hbs2 hrow3
      have hb3 : w3.heap[w.heap.size]? = some (.cells #[.slice none 0 0, .slice none 0 0, .slice none 0 0] 87) := (hkT _ _ _ (by decide) hb2.out).trans hb2.out
      have hown4 : w3.ownsRow w.heap.size 144 1 (.slice ao3 (done.length + 1) cp3) (done ++ [v]).length (ptzV (bs ++ [b])) := by
        have := hown3.out
        rw [List.length_append]
        simpa [ptzV] using this
      have hbs3 : ∀ x ∈ bs ++ [b], x < w3.heap.size := fun x hx => by
        rcases List.mem_append.1 hx with hx | hx
        · have := hbs2 x hx; omega
        · simp only [List.mem_singleton] at hx; omega
      clear hvars3 hrow3 hkT hk2 hgr3 hl3 hown3 hr hrow hvars2 hb2 hfuA h2
      refine role_head (r := t) (fun u hu => (hv u (by rw [happ]; simp [hu])).1) hps2 ht2.right.left (by exact ht2.right.right.head) _ ?_
      intro w4 rv4 ok4 h4 hf4
      have hloop : LoopD B bp pv L 0 l 0 us uv w (.slice ao3 (done.length + 1) cp3) rv4 ok4 w4 t := by
        refine ⟨done ++ [v], bs ++ [b], by rw [happ]; simp, ?_, hfu2.trans hf4, own_apart hps2 hf4 hown4 (by decide) hbw, hvars4.fu hps2 hf4 hbw, fun x hx => Nat.lt_of_lt_of_le (hbs3 x hx) hf4.size⟩
        rw [toksD_app]
        simp only [toksD, List.append_nil, List.length_append, List.length_cons]
        rw [show 0 + ((toksD done).length + ((toksV v).length + 1)) = 0 + (toksD done).length + 1 + (toksV v).length by omega]
        exact h4
      have hb4 := hps2.apart hb3 (by decide) hne hf4
      replace hloop := hd hloop
      replace hb4 := hd hb4
      clear h4 hf4 hfu2 hps2 hown4 hvars4 hb3 hbs3
      go_wp2
      go_roundg (gk - 1)
      case measure => rw [hgk]; simp
      case rel => exact ⟨rv4, ok4, t, rfl, rfl, by rw [hgk]; simp, hloop.out, hb4.out⟩

end Go.Proofs.YtidhiaaicmfabaaGreatDoor

/- readProgram at a right text (seat .ZD alone). -/
namespace Go.Proofs.YtidhiaaicmfabaaGreatDoor
open Go.RowKit Go.Proofs Go.Deep

theorem own_low {w : World} {base base' T sz n : Nat} {v : Value} {xs : List Value} (h : w.ownsRow base T sz v n xs) (hb : base' ≤ base) : w.ownsRow base' T sz v n xs := by
  refine ⟨h.1, ?_⟩
  rcases h.2 with h2 | ⟨g, cap, cur, rfl, h3, r⟩
  · exact .inl h2
  · exact .inr ⟨g, cap, cur, rfl, by omega, r⟩
/-- A text, read: all that is its own lies at lo and behind. -/
structure PgIn (lo : Nat) (w : World) (vs : List Vd) (bs : List Nat) (us : List ByteArray) (body : Sl) (xs : List Value) (vv uv bv : Value) : Prop where
  vown : w.ownsRow lo 144 1 vv vs.length (ptzV bs)
  vars : VarsIn (fun _ => 0) lo w vs bs
  used : w.ownsRow lo 9 1 uv us.length (strV us)
  bown : w.ownsRow lo 240 1 bv body.len xs
  body : SlIn (fun _ => 0) bv.ownBlock body lo w.heap.size w xs
theorem VarsIn.low {fst : Nat → Int} {lo lo' : Nat} {w : World} {vs : List Vd} {bs : List Nat} (h : VarsIn fst lo w vs bs) (hl : lo' ≤ lo) : VarsIn fst lo' w vs bs := ⟨h.len, h.inc, fun i v b a1 a2 => ⟨by have := (h.row i v b a1 a2).1; omega, (h.row i v b a1 a2).2⟩⟩
theorem PgIn.keep {lo : Nat} {w w' : World} {vs : List Vd} {bs : List Nat} {us : List ByteArray} {body : Sl} {xs : List Value} {vv uv bv : Value} (h : PgIn lo w vs bs us body xs vv uv bv) (hb : Below w.heap.size w w') : PgIn lo w' vs bs us body xs vv uv bv :=
  ⟨own_keep h.vown (fun j _ _ hj => hb.block j hj), h.vars.keep (fun b _ _ hc => hb.block b (Array.getElem?_eq_some_iff.1 hc).1), own_keep h.used (fun j _ _ hj => hb.block j hj), own_keep h.bown (fun j _ _ hj => hb.block j hj), (h.body.keep (fun b _ _ _ _ h2 _ _ => hb.block b h2)).wide (Nat.le_refl _) hb.size⟩
theorem PgIn.set {lo : Nat} {w : World} {vs : List Vd} {bs : List Nat} {us : List ByteArray} {body : Sl} {xs : List Value} {vv uv bv : Value} (h : PgIn lo w vs bs us body xs vv uv bv) {g : Nat} (hg : g < lo) (i : Nat) (v : Value) : PgIn lo (w.setCell ⟨g, i, none⟩ v) vs bs us body xs vv uv bv := by
  have hk : ∀ b, lo ≤ b → (w.setCell ⟨g, i, none⟩ v).heap[b]? = w.heap[b]? := fun b hb => Below.heap_setCell _ _ _ _ (show b ≠ g by omega)
  refine ⟨own_keep h.vown (fun j _ hj _ => hk j hj), h.vars.keep (fun b _ hb _ => hk b hb), own_keep h.used (fun j _ hj _ => hk j hj), own_keep h.bown (fun j _ hj _ => hk j hj), ?_⟩
  rw [World.size_setCell]
  exact h.body.keep (fun b _ _ _ h1 _ _ _ => hk b h1)
/-- What a text says, as parts. -/
def toksP (vs : List Vd) (body : Sl) : List ByteArray := toksD vs ++ wBEGIN :: (toksL body ++ [wEND])
theorem nextS_get (L : List ByteArray) (k : Nat) (s : ByteArray) (h : L[k]? = some s) : nextS L k = s := by unfold nextS; rw [List.getD_eq_getElem?_getD, h]; rfl
theorem tokAll (L : List ByteArray) : TokAt L 0 L := fun j s h => by rw [Nat.zero_add]; exact nextS_get L j s h
set_option maxRecDepth 100000 in
set_option maxHeartbeats 4000000 in
theorem read_ok {vs : List Vd} {body : Sl} (hv : ∀ v ∈ vs, v.role < 3 ∧ VarOk v) (hb : AllOk body) (hdep : depL body ≤ 10) (s : ByteArray) (hs : s.size ≤ 700) (hsp : spF s.size s = some (toksP vs body)) (w : World) (hops : ∀ i v, opC[i]? = some v → w.cell? ⟨4, i, none⟩ = some v)
    (R : Ending → World → Prop) (fin : ∀ w' bs xs vv uv bv, Below w.heap.size w w' → PgIn w.heap.size w' vs bs (namesL body) body xs vv uv bv → R (.returned (.tuple #[.agg #[vv, uv, bv], .bool true])) w') :
    Calls Tryz.prog 41 #[.string s] w R := by
  have t7 : decide (700 < (s.size : Int)) = false := by simp; omega
  have h4 : 4 < w.heap.size := World.block_lt_of_cell? w ⟨4, 0, none⟩ (hops 0 _ rfl)
  replace fin := hd fin
  go_enter Tryz.func41, Tryz.ntmps41
  go_wp2_with (fail)
  refine splitz_any _ s (by omega) _ (fun hn => by rw [hsp] at hn; cases hn) ?_
  intro l hl hlm pv w1 hb1 hown1
  rw [hsp] at hl
  injection hl with hl
  subst hl
  have hb0 : w1.heap[w.heap.size]? = some (.cells #[.slice none 0 0, .slice none 0 0, .slice none 0 0] 87) := (hb1.block _ (by simp)).trans allocCells
  have hbel : Below w.heap.size w w1 := ((Below.refl _ w).alloc (Nat.le_refl _) _).trans (hb1.mono (by simp))
  have hz1 := hb1.size
  rw [World.size_alloc] at hz1
  obtain ⟨po, pc, rfl⟩ := own_slS hown1
  have hps : Ps (w1.heap.size + 1) w1.heap.size (.slice po (toksP vs body).length pc) (toksP vs body) 0 0 [] (.slice none 0 0) (w1.alloc (Obj.cells #[.slice po (toksP vs body).length pc, .int .i64 0, .int .i64 0, .slice none 0 0, .bool false] 142)) := by
    refine ⟨⟨rowOf allocCells rfl (fun i hi => ?_), Nat.zero_le _, hlm, po, pc, rfl, ?_, fun h0 => ?_⟩, World.ownsRow_nil _ _ _ _, Nat.lt_succ_self _, by simp, Nat.zero_le _, fun g cp e => ?_, fun i v hv => ?_, by omega, by omega⟩
    · have : i = 0 ∨ i = 1 ∨ i = 2 ∨ i = 3 ∨ i = 4 := by omega
      rcases this with rfl | rfl | rfl | rfl | rfl <;> rfl
    · rcases hown1.2 with ⟨e1, e2⟩ | ⟨g, cap, cur, e1, hbg, hg, hnc, _⟩
      · omega
      · injection e1 with _ _ e3
        omega
    · rcases hown1.2 with ⟨e1, e2⟩ | ⟨g, cap, cur, e1, hbg, hg, hnc, hcm, hcs, htk⟩
      · omega
      · injection e1 with e3 _ e4
        have hgl : g < w1.heap.size := (Array.getElem?_eq_some_iff.1 hg).1
        refine ⟨g, e3, by omega, by simp; omega, fun j x hj => ?_⟩
        have hcell := hown1.cells (g := g) (by rw [e3]; rfl) j (.string x) (by unfold strV; rw [List.getElem?_map, hj]; rfl)
        have hadd : (⟨g, 0, none⟩ : Addr).add j = ⟨g, j, none⟩ := by unfold Addr.add; split <;> simp_all
        rw [hadd] at hcell
        exact cellZ hcell _
    · have hgl := (hown1.lt g (by rw [e]; rfl)).2
      omega
    · exact cellZ ((hbel.cell (p := ⟨4, i, none⟩) h4).trans (hops i v hv)) _
  have hne : w1.heap.size ≠ w.heap.size := by omega
  have hlz : w.heap.size < w1.heap.size := by omega
  replace hown1 := hd hown1
  go_wp2_with (fail)
  refine program_ok hv hb hdep hps (tokAll _) rfl _ ?_
  intro w2 bs xs vv uv bv hf2 hpa2 hpg2
  have hb2 : w2.heap[w.heap.size]? = some (.cells #[.slice none 0 0, .slice none 0 0, .slice none 0 0] 87) := hps.apart ((Below.heap_alloc _ _ _ hlz).trans hb0) (by decide) hne hf2
  obtain ⟨vo, vc, rfl⟩ := own_slS hpg2.vown
  obtain ⟨uo, uc, rfl⟩ := own_slS hpg2.used
  obtain ⟨bo, bc, rfl⟩ := own_slS hpg2.bown
  have hz2 := hf2.size
  rw [World.size_alloc] at hz2
  obtain ⟨kk, hpa2⟩ := hpa2
  have cb : w2.cell? ⟨w1.heap.size, 4, none⟩ = some (.bool false) := hpa2.row.cell (i := 4) (by omega)
  have hbelow2 : Below w.heap.size w w2 := ⟨hf2.os.trans hbel.os, hf2.tape.trans hbel.tape, hf2.output.trans hbel.output, Nat.le_trans hbel.size (by omega), fun j hj => ((hf2.block j (by simp; omega) (by omega) (by simp [Value.ownBlock])).trans (Below.heap_alloc _ _ _ (by omega))).trans (hbel.block j hj)⟩
  have hpg : PgIn (w.heap.size + 1) w2 vs bs (namesL body) body xs (.slice vo vs.length vc) (.slice uo ([] ++ namesL body).length uc) (.slice bo body.len bc) := by
    obtain ⟨lo, hlo1, hlo2⟩ := hpg2.body
    rw [World.size_alloc] at hlo1
    have h1 := hpg2.vown
    have h2 := hpg2.vars
    have h3 := hpg2.used
    have h4 := hpg2.bown
    rw [World.size_alloc] at h1 h2 h4
    exact ⟨own_low h1 (by omega), h2.low (by omega), own_low h3 (by omega), own_low h4 (by omega), hlo2.wide (by omega) (Nat.le_refl _)⟩
  have a0 := cellOf (i := 0) hb2 rfl
  have a1 := cellOf (i := 1) hb2 rfl
  have a2 := cellOf (i := 2) hb2 rfl
  have fz := fun i => frozOf (i := i) hb2
  have hz3 : w.heap.size < w2.heap.size := by omega
  have hz4 : w1.heap.size < w2.heap.size := by omega
  replace hpg := hd hpg
  replace hbelow2 := hd hbelow2
  replace hb2 := hd hb2
  clear hpa2 hpg2 hf2 hps hbel hb0 hb1 hops
  generalize hzz : w.heap.size = z at *
  replace hzz := hd hzz
  generalize w1.heap.size = z1 at *
  go_wp2_with (fail)
  go_region
  go_wp2
  have hbz := heapSet (i := 2) (heapSet (i := 1) (heapSet (i := 0) hb2.out (.slice vo vs.length vc)) (.slice uo (namesL body).length uc)) (.slice bo body.len bc)
  have r0 := cellZ (cellOf (i := 0) hbz rfl) (Obj.cells #[.slice vo vs.length vc, .slice uo (namesL body).length uc, .slice bo body.len bc] 87)
  have r1 := cellZ (cellOf (i := 1) hbz rfl) (Obj.cells #[.slice vo vs.length vc, .slice uo (namesL body).length uc, .slice bo body.len bc] 87)
  have r2 := cellZ (cellOf (i := 2) hbz rfl) (Obj.cells #[.slice vo vs.length vc, .slice uo (namesL body).length uc, .slice bo body.len bc] 87)
  have hzz' := hzz.out
  subst hzz'
  have hpg3 := (((hpg.out.set (Nat.lt_succ_self _) 0 (.slice vo vs.length vc)).set (Nat.lt_succ_self _) 1 (.slice uo (namesL body).length uc)).set (Nat.lt_succ_self _) 2 (.slice bo body.len bc)).keep (below_drewN ((Below.refl _ _).alloc (Nat.le_refl _) (Obj.cells #[.slice vo vs.length vc, .slice uo (namesL body).length uc, .slice bo body.len bc] 87)) 1)
  have hbel3 := below_drewN ((((hbelow2.out.setCell (p := ⟨w.heap.size, 0, none⟩) (Nat.le_refl _) (.slice vo vs.length vc)).setCell (p := ⟨w.heap.size, 1, none⟩) (Nat.le_refl _) (.slice uo (namesL body).length uc)).setCell (p := ⟨w.heap.size, 2, none⟩) (Nat.le_refl _) (.slice bo body.len bc)).alloc (by simp; omega) (Obj.cells #[.slice vo vs.length vc, .slice uo (namesL body).length uc, .slice bo body.len bc] 87)) 1
  refine bodyPost_ret (v := .tuple #[.agg #[.slice vo vs.length vc, .slice uo (namesL body).length uc, .slice bo body.len bc], .bool true]) ?_ rfl ?_
  · simp [results, Tryz.results41, go_sem, r0, r1, r2]
  · exact fin.out _ bs xs _ _ _ hbel3 ⟨own_low hpg3.vown (by omega), hpg3.vars.low (by omega), own_low hpg3.used (by omega), own_low hpg3.bown (by omega), hpg3.body.wide (by omega) (Nat.le_refl _)⟩

end Go.Proofs.YtidhiaaicmfabaaGreatDoor

/- The map of names (seat .ZD alone). -/
namespace Go.Proofs.YtidhiaaicmfabaaGreatDoor
open Go.RowKit Go.Proofs Go.Deep

open Go.Maps
/-- How a pointer reads in the map of names. -/
def ptElem : Value → Option (DataW Unit × List MemPlace)
  | .pointer none => some (.lit (.int .i64 (-1)), [])
  | .pointer (some ⟨b, 0, none⟩) => some (.lit (.int .i64 (b : Int)), [])
  | _ => none
def encB : Option Nat → DataW Unit
  | none => .lit (.int .i64 (-1))
  | some b => .lit (.int .i64 (b : Int))
def ptrOf (o : Option Nat) : Value := .pointer (o.map (fun b => ⟨b, 0, none⟩))
theorem ptElem_of (o : Option Nat) : ptElem (ptrOf o) = some (encB o, []) := by cases o <;> rfl
theorem ptElem_inv {v : Value} {o : Option Nat} {ps : List MemPlace} (h : ptElem v = some (encB o, ps)) : v = ptrOf o := by
  unfold ptElem at h
  split at h
  · injection h with h
    injection h with h1 _
    cases o with
    | none => rfl
    | some b =>
      simp only [encB] at h1
      injection h1 with h1
      injection h1 with _ h1
      omega
  · injection h with h
    injection h with h1 _
    cases o with
    | none =>
      simp only [encB] at h1
      injection h1 with h1
      injection h1 with _ h1
      omega
    | some b =>
      simp only [encB] at h1
      injection h1 with h1
      injection h1 with _ h1
      unfold ptrOf
      rw [← show _ = b from Int.ofNat.inj h1]
      rfl
  · cases h
/-- Block bm is the map of names: it gives f. -/
def NmAt (w : World) (bm n : Nat) (f : ByteArray → Option Nat) : Prop :=
  ∃ D : DataW Unit, w.ownsMap Tryz.prog 9 ptElem bm n D ∧ ∀ s : ByteArray, s.size ≤ maxLen → D.atKey (.string s.data.toList) (encB none) = encB (f s)
theorem lawStr : Keyed Tryz.prog 9 := string_keyed Tryz.underlying9
theorem ulMap : Tryz.prog.underlying 90 = some (.map 9 144) := by kernel_rfl
theorem zeroPtr (w : World) : (zeroValue 144).run Tryz.prog w = .ok (.pointer none) w := by kernel_rfl
theorem NmAt.made (w : World) : NmAt (w.alloc (.map #[] 0)) w.heap.size 0 (fun _ => none) := ⟨.map [], World.ownsMap_made _ _ _ _, fun _ _ => rfl⟩
theorem NmAt.look {w : World} {bm n : Nat} {f : ByteArray → Option Nat} (h : NmAt w bm n f) (s : ByteArray) (hs : s.size ≤ maxLen) : (Instr.lookup 90 (.map (some bm)) (.string s) false).run Tryz.prog w = .ok (ptrOf (f s)) w := by
  obtain ⟨D, hD, hf⟩ := h
  obtain ⟨v, ps, hrun, hv⟩ := hD.lookup lawStr ulMap (zeroPtr w) (ptElem_of none) (WideMaps.keyOf_string_mk Tryz.underlying9 hs)
  rw [hf s hs] at hv
  rw [hrun, ptElem_inv hv]
theorem NmAt.lt {w : World} {bm n : Nat} {f : ByteArray → Option Nat} (h : NmAt w bm n f) : bm < w.heap.size := by
  obtain ⟨D, hD, _⟩ := h
  exact hD.lt
theorem NmAt.keep {w w' : World} {bm n : Nat} {f : ByteArray → Option Nat} (h : NmAt w bm n f) (hk : w'.heap[bm]? = w.heap[bm]?) : NmAt w' bm n f := by
  obtain ⟨D, ⟨es, c, h1, h2⟩, h3⟩ := h
  exact ⟨D, ⟨es, c, hk.trans h1, h2⟩, h3⟩
theorem list_ne {s t : ByteArray} (h : s ≠ t) : s.data.toList ≠ t.data.toList := fun e => h (by
  cases s; cases t
  simp only at e
  congr 1
  exact Array.toList_inj.1 e)
theorem NmAt.put {w : World} {bm n : Nat} {f : ByteArray → Option Nat} (h : NmAt w bm n f) (hn : n < maxLen) (s : ByteArray) (hs : s.size ≤ maxLen) (b : Nat) : ∃ w', (Instr.mapUpdate 90 (.map (some bm)) (.string s) (.pointer (some ⟨b, 0, none⟩))).run Tryz.prog w = .ok () w' ∧ NmAt w' bm (n + 1) (fun t => if t = s then some b else f t) ∧ w.grownBy w' (some bm) := by
  obtain ⟨D, hD, hf⟩ := h
  obtain ⟨w', hrun, h1, h2⟩ := hD.update lawStr ulMap hn (WideMaps.keyOf_string_mk Tryz.underlying9 hs) (ptElem_of (some b))
  refine ⟨w', hrun, ⟨_, h1, fun t ht => ?_⟩, h2⟩
  by_cases e : t = s
  · subst e
    show _ = encB (if t = t then some b else f t)
    rw [if_pos rfl]
    exact atKey_put_same hD.isMap (by simp [WideAt.IsKeyLit]) _ _
  · show _ = encB (if t = s then some b else f t)
    rw [if_neg e, atKey_put_other (fun e2 => by injection e2 with e2; exact list_ne e e2)]
    exact hf t ht

end Go.Proofs.YtidhiaaicmfabaaGreatDoor

/- declared at a right text (seat .ZD alone). -/
namespace Go.Proofs.YtidhiaaicmfabaaGreatDoor
open Go.RowKit Go.Proofs Go.Deep

/-- Which block a name stands for. -/
def findB : List Vd → List Nat → ByteArray → Option Nat
  | v :: vs, b :: bs, s => if s = v.name then some b else findB vs bs s
  | _, _, _ => none
theorem findB_none : ∀ (vs : List Vd) (bs : List Nat) (s : ByteArray), (∀ v ∈ vs, s ≠ v.name) → findB vs bs s = none
  | [], _, _, _ => rfl
  | _ :: _, [], _, _ => rfl
  | v :: vs, b :: bs, s, h => by
    simp only [findB]
    rw [if_neg (h v (List.mem_cons_self ..)), findB_none vs bs s (fun u hu => h u (List.mem_cons_of_mem _ hu))]
theorem findB_snoc : ∀ (vs : List Vd) (bs : List Nat) (v : Vd) (b : Nat) (s : ByteArray), bs.length = vs.length → (∀ u ∈ vs, v.name ≠ u.name) → findB (vs ++ [v]) (bs ++ [b]) s = if s = v.name then some b else findB vs bs s
  | [], [], v, b, s, _, _ => rfl
  | [], _ :: _, _, _, _, h, _ => by simp at h
  | _ :: _, [], _, _, _, h, _ => by simp at h
  | u :: vs, c :: bs, v, b, s, h, hn => by
    simp only [List.cons_append, findB]
    rw [findB_snoc vs bs v b s (by simpa using h) (fun x hx => hn x (List.mem_cons_of_mem _ hx))]
    by_cases e : s = u.name
    · rw [if_pos e, if_neg (fun e2 => hn u (List.mem_cons_self ..) (e2.symm.trans e)), if_pos e]
    · simp only [if_neg e]
theorem findB_some : ∀ (vs : List Vd) (bs : List Nat) (s : ByteArray), bs.length = vs.length → (∃ v ∈ vs, s = v.name) → ∃ b, findB vs bs s = some b
  | [], _, _, _, h => by obtain ⟨v, hv, _⟩ := h; simp at hv
  | _ :: _, [], _, h, _ => by simp at h
  | v :: vs, b :: bs, s, h, hx => by
    simp only [findB]
    by_cases e : s = v.name
    · exact ⟨b, if_pos e⟩
    · rw [if_neg e]
      refine findB_some vs bs s (by simpa using h) ?_
      obtain ⟨u, hu, e2⟩ := hx
      rcases List.mem_cons.1 hu with rfl | hu
      · exact absurd e2 e
      · exact ⟨u, hu, e2⟩
theorem take_snoc {α : Type} {l : List α} {i : Nat} {x : α} (h : l[i]? = some x) : l.take (i + 1) = l.take i ++ [x] := by rw [List.take_add_one, h]; rfl
theorem run_mkMap : ∀ (w : World), (Instr.makeMap 90 none).run Tryz.prog w = .ok (.map (some w.heap.size)) (w.alloc (.map #[] 0)) := fun w => by kernel_rfl
set_option maxRecDepth 100000 in
set_option maxHeartbeats 4000000 in
theorem declared_ok {lo : Nat} {w : World} {vs : List Vd} {bs : List Nat} {us : List ByteArray} {body : Sl} {xs : List Value} {vv uv bv : Value} (h : PgIn lo w vs bs us body xs vv uv bv) (hnm : ∀ v ∈ vs, LowName v.name) (hdis : (vs.map (·.name)).Nodup) (hus : ∀ u ∈ us, ∃ v ∈ vs, u = v.name) (hvl : vs.length ≤ 1000000) (hul : us.length ≤ 1000000)
    (R : Ending → World → Prop) (fin : ∀ w' bm, Below w.heap.size w w' → w.heap.size ≤ bm → NmAt w' bm vs.length (findB vs bs) → R (.returned (.tuple #[.map (some bm), .bool true])) w') :
    Calls Tryz.prog 42 #[.agg #[vv, uv, bv]] w R := by
  obtain ⟨vo, vc, rfl, hvc, hvo⟩ := own_form h.vown
  obtain ⟨uo, uc, rfl, huc, huo⟩ := own_form h.used
  obtain ⟨bo, bc, rfl⟩ := own_slS h.bown
  have hmm := run_mkMap
  replace fin := hd fin
  replace hvo := hd hvo
  replace huo := hd huo
  go_enter Tryz.func42, Tryz.ntmps42
  go_wp2
  go_loopw [6, 13] (fun _ iv wr => ∃ i : Nat, i ≤ vs.length ∧ iv = .int .i64 (i : Int) ∧ NmAt wr (w.heap.size + 1) i (findB (vs.take i) (bs.take i)) ∧ Below w.heap.size w wr ∧ wr.heap[w.heap.size]? = some (.cells #[.slice vo vs.length vc, .slice uo us.length uc, .slice bo body.len bc] 87)) (fun _ iv _ => vs.length - (intOf iv).toNat)
  case atStart => exact ⟨0, Nat.zero_le _, rfl, by have := NmAt.made (w.alloc (Obj.cells #[.slice vo vs.length vc, .slice uo us.length uc, .slice bo body.len bc] 87)); rw [show findB (vs.take 0) (bs.take 0) = fun _ => none from by funext s; rfl]; simpa using this, ((Below.refl _ w).alloc (Nat.le_refl _) _).alloc (by simp) _, (Below.heap_alloc _ _ _ (by simp)).trans allocCells⟩
  case round =>
    obtain ⟨i, hi, rfl, hna, hbel, hbx⟩ := hrel
    by_cases hlt : i < vs.length
    · have td : decide ((i : Int) < (vs.length : Int)) = true := by simp; omega
      obtain ⟨v, hv⟩ : ∃ v, vs[i]? = some v := ⟨_, List.getElem?_eq_getElem hlt⟩
      obtain ⟨b, hb⟩ : ∃ b, bs[i]? = some b := ⟨_, List.getElem?_eq_getElem (by rw [h.vars.len]; exact hlt)⟩
      obtain ⟨g, rfl, hgl, hgs, hg⟩ := hvo.out (by omega)
      obtain ⟨hblo, hbr⟩ := h.vars.row i v b hv hb
      have hblt := hbr.lt
      have c1 : wr.cell? ⟨g, i, none⟩ = some (.pointer (some ⟨b, 0, none⟩)) := (hbel.cell (p := ⟨g, i, none⟩) hgs).trans (hg i _ (by unfold ptzV; rw [List.getElem?_map, hb]; rfl))
      have c2 : wr.cell? ⟨b, 0, none⟩ = some (.string v.name) := (hbel.cell (p := ⟨b, 0, none⟩) hblt).trans (hbr.cell (i := 0) (by omega))
      have j0 : (0 : Int) ≤ (i : Int) ∧ (i : Int) < (vs.length : Int) := by omega
      have hmem : v ∈ vs := List.mem_of_getElem? hv
      have hsz : v.name.size ≤ maxLen := by have := (hnm v hmem).le; unfold maxLen; omega
      have hnot : ∀ u ∈ vs.take i, v.name ≠ u.name := fun u hu e => by
        obtain ⟨j, hj⟩ := List.mem_iff_getElem?.1 hu
        rw [List.getElem?_take] at hj
        split at hj
        · rename_i hji
          have h1 : (vs.map (·.name))[j]? = some u.name := by rw [List.getElem?_map, hj]; rfl
          have h2 : (vs.map (·.name))[i]? = some v.name := by rw [List.getElem?_map, hv]; rfl
          rw [e] at h2
          have hij := (List.getElem?_inj (i := j) (j := i) (by rw [List.length_map]; omega) hdis).1 (h1.trans h2.symm)
          omega
        · cases hj
      have hl := hna.look v.name hsz
      rw [findB_none _ _ _ hnot] at hl
      replace hl : (Instr.lookup 90 (.map (some (w.heap.size + 1))) (.string v.name) false).run Tryz.prog wr = .ok (.pointer none) wr := hl
      obtain ⟨w2, hp, hna2, hgr⟩ := hna.put (by unfold maxLen; omega) v.name hsz b
      have hfe : (fun t => if t = v.name then some b else findB (vs.take i) (bs.take i) t) = findB (vs.take (i + 1)) (bs.take (i + 1)) := by
        funext t
        rw [take_snoc hv, take_snoc hb, findB_snoc _ _ _ _ _ (by rw [List.length_take, List.length_take, h.vars.len]) hnot]
      rw [hfe] at hna2
      have hbel2 : Below w.heap.size w w2 := hbel.grown hgr hbel.size (fun k hk => by injection hk with hk; omega)
      have hbx2 : w2.heap[w.heap.size]? = some (.cells #[.slice (some ⟨g, 0, none⟩) vs.length vc, .slice uo us.length uc, .slice bo body.len bc] 87) := (hgr.block _ (Array.getElem?_eq_some_iff.1 hbx).1 (by simp)).trans hbx
      clear hfe hnot hna hg hbr
      generalize v.name = s at *
      replace hna2 := hd hna2
      replace hbel2 := hd hbel2
      replace hbx2 := hd hbx2
      replace hbel := hd hbel
      replace hgr := hd hgr
      replace hbx := hd hbx
      replace hv := hd hv
      replace hb := hd hb
      go_wp2
      exact ⟨⟨i + 1, by omega, by go_num, hna2.out, hbel2.out, hbx2.out⟩, by simp [intOf]; omega⟩
    · have hie : i = vs.length := by omega
      subst hie
      have td : decide ((vs.length : Int) < (vs.length : Int)) = false := by simp
      rw [List.take_length, ← h.vars.len, List.take_length] at hna
      have u1 := cellOf (i := 1) hbx rfl
      replace hna := hd hna
      replace hbel := hd hbel
      replace hbx := hd hbx
      go_wp2
      go_loopw [8, 34] (fun _ iv wq => ∃ i : Nat, i ≤ us.length ∧ iv = .int .i64 (i : Int) ∧ wq = wr) (fun _ iv _ => us.length - (intOf iv).toNat)
      case atStart => exact ⟨0, Nat.zero_le _, rfl, rfl⟩
      case round =>
        obtain ⟨i, hi, rfl, rfl⟩ := hrel
        by_cases hlt : i < us.length
        · have td2 : decide ((i : Int) < (us.length : Int)) = true := by simp; omega
          obtain ⟨u, hu⟩ : ∃ u, us[i]? = some u := ⟨_, List.getElem?_eq_getElem hlt⟩
          obtain ⟨g, rfl, hgl, hgs, hg⟩ := huo.out (by omega)
          have c1 : wr.cell? ⟨g, i, none⟩ = some (.string u) := (hbel.out.cell (p := ⟨g, i, none⟩) hgs).trans (hg i _ (by unfold strV; rw [List.getElem?_map, hu]; rfl))
          have j0 : (0 : Int) ≤ (i : Int) ∧ (i : Int) < (us.length : Int) := by omega
          obtain ⟨v, hvm, hvu⟩ := hus u (List.mem_of_getElem? hu)
          have hsz : u.size ≤ maxLen := by rw [hvu]; have := (hnm v hvm).le; unfold maxLen; omega
          obtain ⟨b, hb⟩ := findB_some vs bs u h.vars.len ⟨v, hvm, hvu⟩
          have hl := hna.out.look u hsz
          rw [hb] at hl
          replace hl : (Instr.lookup 90 (.map (some (w.heap.size + 1))) (.string u) false).run Tryz.prog wr = .ok (.pointer (some ⟨b, 0, none⟩)) wr := hl
          clear hg hvu hb hvm
          go_wp2
          exact ⟨⟨i + 1, by omega, by go_num, by first | rfl | trivial⟩, by simp [intOf]; omega⟩
        · have td2 : decide ((i : Int) < (us.length : Int)) = false := by simp; omega
          go_wp2
          exact cl1 (fin.out _ _ hbel.out (by omega) (by rw [← h.vars.len]; exact hna.out)) rfl

end Go.Proofs.YtidhiaaicmfabaaGreatDoor
