/- The image of a text; Compile. -/
import Derived.Test.YtidhiaaicmfabaaGreatDoorKaA
import Derived.WalkKit
import Derived.WalkSpells
import Derived.WalkLawsBesides
import Derived.Deep.OwnRows
import Derived.BigQuiet
import Derived.Handy
import Derived.Deep.Light
import Derived.Deep.RegionHeld3
import Derived.Deep.RegionWith
import Derived.Test.YtidhiaaicmfabaaGreatDoorJyN
import Derived.Test.YtidhiaaicmfabaaGreatDoorJyI

/- Cells are given out (seat .ZD alone). -/
namespace Go.Proofs.YtidhiaaicmfabaaGreatDoor
open Go.RowKit Go.Proofs Go.Deep

/-- The byte of a variable's cells. -/
def cellB (v : Vd) : Int := 3 * (v.role : Int) + (if v.kind = 3 then 2 else (v.kind : Int))
def cellsB : List Vd → List Int
  | [] => []
  | v :: t => List.replicate v.len.toNat (cellB v) ++ cellsB t
theorem cellsB_app : ∀ a b : List Vd, cellsB (a ++ b) = cellsB a ++ cellsB b
  | [], _ => rfl
  | v :: t, b => by simp only [List.cons_append, cellsB, cellsB_app t b, List.append_assoc]
theorem cellsB_take {vs : List Vd} {i : Nat} {v : Vd} (h : vs[i]? = some v) : cellsB (vs.take (i + 1)) = cellsB (vs.take i) ++ List.replicate v.len.toNat (cellB v) := by
  rw [take_snoc h, cellsB_app]; simp only [cellsB, List.append_nil]
theorem cellsB_len : ∀ (vs : List Vd), (∀ v ∈ vs, wtV v = true) → ((cellsB vs).length : Int) = lenV vs
  | [], _ => rfl
  | v :: t, h => by
    have h1 := cellsB_len t (fun u hu => h u (List.mem_cons_of_mem _ hu))
    have h2 := h v (List.mem_cons_self ..)
    simp only [wtV, Bool.and_eq_true, decide_eq_true_eq] at h2
    simp only [cellsB, lenV, List.length_append, List.length_replicate]
    omega
theorem cellByte_ok (w : World) (r k : Int) (hr : 0 ≤ r ∧ r ≤ 2) (hk : 0 ≤ k ∧ k ≤ 3) (R : Ending → World → Prop) (fin : R (.returned (.int .u8 (3 * r + k))) w) : Calls Tryz.prog 75 #[.int .u8 r, .int .u8 k] w R := by
  have j1 : IntKind.u8.wrap (3 * r) = 3 * r := by simp [IntKind.wrap, IntKind.signed, IntKind.bits]; omega
  have j2 : IntKind.u8.wrap (3 * r + k) = 3 * r + k := by simp [IntKind.wrap, IntKind.signed, IntKind.bits]; omega
  replace fin := hd fin
  go_enter Tryz.func75, Tryz.ntmps75
  go_wp2
  exact cl1 fin.out rfl
set_option maxRecDepth 100000 in
set_option maxHeartbeats 2000000 in
theorem varcell_ok (w : World) {b : Nat} {v : Vd} {x : Int} (h : w.rowIs b 147 6 (vdF v x)) (hr : v.role < 3) (hk : v.kind ≤ 3) (R : Ending → World → Prop) (fin : ∀ n, R (.returned (.int .u8 (cellB v))) (w.drewN n)) : Calls Tryz.prog 136 #[.pointer (some ⟨b, 0, none⟩)] w R := by
  have c1 : w.cell? ⟨b, 1, none⟩ = some (.int .u8 (v.role : Int)) := h.cell (i := 1) (by omega)
  have c2 : w.cell? ⟨b, 2, none⟩ = some (.int .u8 (v.kind : Int)) := h.cell (i := 2) (by omega)
  have lb := h.lt
  unfold cellB at fin
  by_cases e : v.kind = 3
  · rw [if_pos e] at fin
    rw [e] at c2
    replace fin := hd fin
    replace h := hd h
    go_enter Tryz.func136, Tryz.ntmps136
    go_wp2_with (first | (go_at_call 75; refine cellByte_ok _ _ _ (by omega) (by omega) _ ?_))
    exact cl1 (fin.out 0) rfl
  · rw [if_neg e] at fin
    have t1 : ((v.kind : Int) == 3) = false := beq_eq_false_iff_ne.2 (by omega)
    replace fin := hd fin
    replace h := hd h
    go_enter Tryz.func136, Tryz.ntmps136
    go_wp2_with (fail)
    go_quiet (first | (go_at_call 75; exact cellByte_ok _ _ _ (by omega) (by omega) _ ⟨rfl, _, rfl⟩))
    go_wp2
    exact cl1 (fin.out _) rfl
/-- What is left alone but for variables. -/
structure Vf (lo : Nat) (w w' : World) : Prop where
  os : w'.os = w.os
  tape : w'.tape = w.tape
  output : w'.output = w.output
  size : w.heap.size ≤ w'.heap.size
  block : ∀ b, b < w.heap.size → (∀ cur, w.heap[b]? = some (.cells cur 147 (0, 0)) → b < lo) → w'.heap[b]? = w.heap[b]?
theorem Vf.refl (lo : Nat) (w : World) : Vf lo w w := ⟨rfl, rfl, rfl, Nat.le_refl _, fun _ _ _ => rfl⟩
theorem Vf.trans {lo : Nat} {w w' w'' : World} (h : Vf lo w w') (k : Vf lo w' w'') : Vf lo w w'' :=
  ⟨k.os.trans h.os, k.tape.trans h.tape, k.output.trans h.output, Nat.le_trans h.size k.size, fun b hb hp => by
    have h1 := h.block b hb hp
    exact (k.block b (Nat.lt_of_lt_of_le hb h.size) (fun cur hc => hp cur (h1.symm.trans hc))).trans h1⟩
theorem Vf.of_below {lo : Nat} {w w' : World} (h : Below w.heap.size w w') : Vf lo w w' := ⟨h.os, h.tape, h.output, h.size, fun b hb _ => h.block b hb⟩
theorem Vf.set {lo : Nat} {w w' : World} (h : Vf lo w w') {b : Nat} {cur : Array Value} (hb : w.heap[b]? = some (.cells cur 147 (0, 0))) (hlo : lo ≤ b) (i : Nat) (v : Value) : Vf lo w (w'.setCell ⟨b, i, none⟩ v) :=
  ⟨h.os, h.tape, h.output, by rw [World.size_setCell]; exact h.size, fun c hc hp => by
    by_cases e : c = b
    · subst e
      have := hp cur hb
      omega
    · exact (Below.heap_setCell _ _ _ _ e).trans (h.block c hc hp)⟩
theorem Vf.tag {lo : Nat} {w w' : World} (h : Vf lo w w') {b T : Nat} {cur : Array Value} {fz : Nat × Nat} (hb : w.heap[b]? = some (.cells cur T fz)) (hT : T ≠ 147) : w'.heap[b]? = w.heap[b]? :=
  h.block b (Array.getElem?_eq_some_iff.1 hb).1 (fun c hc => by
    rw [hb] at hc
    injection hc with e
    injection e with _ e2
    exact absurd e2 hT)
theorem inc_ne {bs : List Nat} (h : bs.Pairwise (· < ·)) {i j b c : Nat} (hi : bs[i]? = some b) (hj : bs[j]? = some c) (hij : i ≠ j) : b ≠ c := by
  obtain ⟨h1, e1⟩ := List.getElem?_eq_some_iff.1 hi
  obtain ⟨h2, e2⟩ := List.getElem?_eq_some_iff.1 hj
  rw [List.pairwise_iff_getElem] at h
  rcases Nat.lt_or_gt_of_ne hij with hl | hl
  · have := h i j h1 h2 hl; omega
  · have := h j i h2 h1 hl; omega
theorem VarsIn.setFirst {fst fst' : Nat → Int} {lo : Nat} {w : World} {vs : List Vd} {bs : List Nat} (h : VarsIn fst lo w vs bs) {i b : Nat} (hb : bs[i]? = some b) (x : Int) (he : fst' i = x) (ho : ∀ j, j ≠ i → fst' j = fst j) : VarsIn fst' lo (w.setCell ⟨b, 5, none⟩ (.int .u8 x)) vs bs :=
  ⟨h.len, h.inc, fun j u c hu hc => by
    obtain ⟨h1, h2⟩ := h.row j u c hu hc
    refine ⟨h1, ?_⟩
    by_cases e : j = i
    · subst e
      rw [hb] at hc
      injection hc with hc
      subst hc
      rw [he]
      refine (h2.set 5 _).congr (fun k hk => ?_)
      have : k = 0 ∨ k = 1 ∨ k = 2 ∨ k = 3 ∨ k = 4 ∨ k = 5 := by omega
      rcases this with rfl | rfl | rfl | rfl | rfl | rfl <;> rfl
    · rw [ho j e]
      exact h2.of_block (Below.heap_setCell _ _ _ _ (inc_ne h.inc hc hb e))⟩
/-- The variables before the i-th have their cells. -/
def fstTo (vs : List Vd) (i j : Nat) : Int := if j < i then fstV vs j else 0
theorem u8wrap {n : Int} (h0 : 0 ≤ n) (h1 : n ≤ 255) : IntKind.u8.wrap n = n := by simp [IntKind.wrap, IntKind.signed, IntKind.bits]; omega
set_option maxRecDepth 100000 in
set_option maxHeartbeats 4000000 in
theorem layCells_ok {lo : Nat} {w : World} {vs : List Vd} {bs : List Nat} {vo uo bo : Option Addr} {vc n2 c2 n3 c3 : Nat} (hown : w.ownsRow lo 144 1 (.slice vo vs.length vc) vs.length (ptzV bs)) (hvars : VarsIn (fun _ => 0) lo w vs bs) (hwv : ∀ v ∈ vs, wtV v = true ∧ v.role < 3 ∧ v.kind ≤ 3) (hvl : lenV vs ≤ 255)
    (R : Ending → World → Prop) (fin : ∀ w' cv, Vf lo w w' → VarsIn (fstV vs) lo w' vs bs → w'.ownsRow w.heap.size 5 1 cv (cellsB vs).length (u8V (cellsB vs)) → R (.returned cv) w') :
    Calls Tryz.prog 72 #[.agg #[.slice vo vs.length vc, .slice uo n2 c2, .slice bo n3 c3]] w R := by
  obtain ⟨vo', vc', e0, hvc, hvo⟩ := own_form hown
  injection e0 with e1 _ e2
  subst e1 e2
  have hwv1 : ∀ v ∈ vs, wtV v = true := fun v hv => (hwv v hv).1
  have hvlen : vs.length ≤ 255 := by
    have hall : ∀ (l : List Vd), (∀ v ∈ l, wtV v = true) → (l.length : Int) ≤ lenV l := by
      intro l
      induction l with
      | nil => intro _; simp [lenV]
      | cons v t ih =>
        intro h
        have h1 := ih (fun u hu => h u (List.mem_cons_of_mem _ hu))
        have h2 := h v (List.mem_cons_self ..)
        simp only [wtV, Bool.and_eq_true, decide_eq_true_eq] at h2
        simp only [lenV, List.length_cons]
        omega
    have := hall vs hwv1
    omega
  obtain ⟨W0, hW0⟩ : ∃ W0, W0 = w.alloc (Obj.cells #[.slice vo vs.length vc, .slice uo n2 c2, .slice bo n3 c3] 87) := ⟨_, rfl⟩
  have hbel : Below w.heap.size w W0 := by rw [hW0]; exact (Below.refl _ w).alloc (Nat.le_refl _) _
  have hv0 : VarsIn (fstTo vs 0) lo W0 vs bs := hvars.keep (fun b _ _ hc => hbel.block b (Array.getElem?_eq_some_iff.1 hc).1)
  have hrowtag : ∀ g, vo = some ⟨g, 0, none⟩ → 0 < vs.length → ∃ cur, w.heap[g]? = some (.cells cur 144 (0, 0)) := fun g hg h0 => by
    rcases hown.2 with ⟨e1, e2⟩ | ⟨g', cap, cur, e1, _, hg', _⟩
    · omega
    · injection e1 with e1 _ _
      rw [hg] at e1
      injection e1 with e1
      injection e1 with e1
      subst e1
      exact ⟨cur, hg'⟩
  replace hW0 := hd hW0
  replace fin := hd fin
  replace hvo := hd hvo
  replace hbel := hd hbel
  replace hv0 := hd hv0
  replace hrowtag := hd hrowtag
  go_enter Tryz.func72, Tryz.ntmps72
  go_wp2
  go_loopw [3, 5, 9] (fun cv _ iv wr => ∃ i : Nat, i ≤ vs.length ∧ iv = .int .i64 (i : Int) ∧ VarsIn (fstTo vs i) lo wr vs bs ∧ wr.ownsRow w.heap.size 5 1 cv (cellsB (vs.take i)).length (u8V (cellsB (vs.take i))) ∧ Vf lo w wr) (fun _ _ iv _ => vs.length - (intOf iv).toNat)
  case atStart => exact ⟨0, Nat.zero_le _, rfl, by rw [← hW0.out]; exact hv0.out, World.ownsRow_nil _ _ _ _, by rw [← hW0.out]; exact Vf.of_below hbel.out⟩
  case round =>
    obtain ⟨i, hi, rfl, hva, hrow, hvf⟩ := hrel
    by_cases hlt : i < vs.length
    · have td : decide ((i : Int) < (vs.length : Int)) = true := by simp; omega
      obtain ⟨v, hv⟩ : ∃ v, vs[i]? = some v := ⟨_, List.getElem?_eq_getElem hlt⟩
      obtain ⟨b, hb⟩ : ∃ b, bs[i]? = some b := ⟨_, List.getElem?_eq_getElem (by rw [hvars.len]; exact hlt)⟩
      obtain ⟨g, rfl, hgl, hgs, hg⟩ := hvo.out (by omega)
      obtain ⟨gcur, hgc⟩ := hrowtag.out g rfl (by omega)
      obtain ⟨hblo, hbr⟩ := hva.row i v b hv hb
      have hmem := List.mem_of_getElem? hv
      obtain ⟨hw1, hw2, hw3⟩ := hwv v hmem
      have hwt := hw1
      simp only [wtV, Bool.and_eq_true, decide_eq_true_eq] at hwt
      have c1 : wr.cell? ⟨g, i, none⟩ = some (.pointer (some ⟨b, 0, none⟩)) := (World.cell?_of_block (w := w) (a := ⟨g, i, none⟩) (hvf.tag hgc (by decide))).trans (hg i _ (by unfold ptzV; rw [List.getElem?_map, hb]; rfl))
      have c5 : wr.cell? ⟨b, 5, none⟩ = some (.int .u8 (fstTo vs i i)) := hbr.cell (i := 5) (by omega)
      have f5 := hbr.frozen 5
      have c4 : wr.cell? ⟨b, 4, none⟩ = some (.int .i64 v.len) := hbr.cell (i := 4) (by omega)
      have lb := hbr.lt
      have j0 : (0 : Int) ≤ (i : Int) ∧ (i : Int) < (vs.length : Int) := by omega
      have hcl := cellsB_len (vs.take i) (fun u hu => hwv1 u (List.mem_of_mem_take hu))
      have hbd := (lenV_bound (vs.take i) (fun u hu => hwv1 u (List.mem_of_mem_take hu))).1
      have hnx := lenV_take hv
      have hle : lenV (vs.take (i + 1)) ≤ lenV vs := by
        have e := lenV_app (vs.take (i + 1)) (vs.drop (i + 1))
        rw [List.take_append_drop] at e
        have := (lenV_bound (vs.drop (i + 1)) (fun u hu => hwv1 u (List.mem_of_mem_drop hu))).1
        omega
      have j1 : IntKind.u8.wrap ((cellsB (vs.take i)).length : Int) = ((cellsB (vs.take i)).length : Int) := u8wrap (by omega) (by omega)
      obtain ⟨ao, cp, rfl⟩ := own_slS hrow
      obtain ⟨bcur, hbc⟩ : ∃ cur, w.heap[b]? = some (.cells cur 147 (0, 0)) := by
        obtain ⟨_, c, hc, _⟩ := hvars.row i v b hv hb
        exact ⟨c, hc⟩
      have hva2 : VarsIn (fstTo vs (i + 1)) lo (wr.setCell ⟨b, 5, none⟩ (.int .u8 ((cellsB (vs.take i)).length : Int))) vs bs := hva.setFirst hb _ (by unfold fstTo fstV; rw [if_pos (by omega), hcl]) (fun j hj => by unfold fstTo; by_cases h1 : j < i; rw [if_pos h1, if_pos (by omega)]; rw [if_neg h1, if_neg (by omega)])
      have hrow2 : (wr.setCell ⟨b, 5, none⟩ (.int .u8 ((cellsB (vs.take i)).length : Int))).ownsRow w.heap.size 5 1 (.slice ao (cellsB (vs.take i)).length cp) (cellsB (vs.take i)).length (u8V (cellsB (vs.take i))) := ownsRow_setCell_below (a := ⟨b, 5, none⟩) hrow (Array.getElem?_eq_some_iff.1 hbc).1 _
      have hvf2 : Vf lo w (wr.setCell ⟨b, 5, none⟩ (.int .u8 ((cellsB (vs.take i)).length : Int))) := hvf.set hbc hblo 5 _
      have c4' : (wr.setCell ⟨b, 5, none⟩ (.int .u8 ((cellsB (vs.take i)).length : Int))).cell? ⟨b, 4, none⟩ = some (.int .i64 v.len) := by
        rw [World.cell?_setCell_other _ _ _ _ (by simp)]; exact c4
      have hct := cellsB_take hv
      generalize cellsB (vs.take i) = L0 at *
      replace hva := hd hva
      replace hva2 := hd hva2
      replace hrow := hd hrow
      replace hrow2 := hd hrow2
      replace hvf := hd hvf
      replace hvf2 := hd hvf2
      replace hbr := hd hbr
      replace hct := hd hct
      replace hcl := hd hcl
      replace hnx := hd hnx
      replace hle := hd hle
      replace hbc := hd hbc
      replace hgc := hd hgc
      replace hb := hd hb
      replace hv := hd hv
      clear hg
      go_wp2
      go_loopw [3, 23] (fun cv kv wq => ∃ k : Nat, (k : Int) ≤ v.len ∧ kv = .int .i64 (k : Int) ∧ VarsIn (fstTo vs (i + 1)) lo wq vs bs ∧ wq.ownsRow w.heap.size 5 1 cv (L0.length + k) (u8V (L0 ++ List.replicate k (cellB v))) ∧ Vf lo w wq) (fun _ kv _ => v.len.toNat - (intOf kv).toNat)
      case atStart => exact ⟨0, by omega, rfl, hva2.out, by simpa using hrow2.out, hvf2.out⟩
      case round =>
        obtain ⟨k, hk, rfl, hva3, hrow3, hvf3⟩ := hrel
        obtain ⟨ao3, cp3, rfl⟩ := own_slS hrow3
        by_cases hkl : (k : Int) < v.len
        · have tk : decide ((k : Int) < v.len) = true := by simpa using hkl
          obtain ⟨_, hbr3⟩ := hva3.row i v b hv.out hb.out
          have hwrs := hvf3.size
          have hbnd : L0.length + k + 1 ≤ 1000000 := by
            have hL := hcl.out
            have hN := hnx.out
            have hM := hle.out
            omega
          replace hva3 := hd hva3
          replace hvf3 := hd hvf3
          have hr := hd hrow3
          clear hrow3
          go_wp2_with (fail)
          refine varcell_ok _ hbr3 hw2 hw3 _ ?_
          intro n
          have hr2 : (wr.drewN n).ownsRow w.heap.size 5 1 (.slice ao3 (L0.length + k) cp3) (L0.length + k) (u8V (L0 ++ List.replicate k (cellB v))) := hr.out
          replace hr2 := hd hr2
          go_wp2_with (first | (at_builtin; refine wpList_appZ _ rfl _ _ 133 rfl w.heap.size 5 _ 1 1 ulBytes infoU8 rfl (by decide) (.slice ao3 (L0.length + k) cp3) (L0.length + k) (u8V (L0 ++ List.replicate k (cellB v))) rfl (by exact hr2.out.alloc _) ⟨wr.heap.size, 0, none⟩ 1 1 (u8V [cellB v]) rfl rfl (by exact news_atZ (newZ rfl)) (oneU8 [cellB v]) (by unfold maxLen; omega) (by omega) (by simp; omega) ?_; intro v2 w2 hown2 hgr2 hl2; obtain ⟨ao2, cp2, rfl⟩ := own_slS hown2; replace hown2 := hd hown2; replace hgr2 := hd hgr2; replace hl2 := hd hl2))
          have hk2 : ∀ (c : Nat) (cur : Array Value) (T : Nat), T ≠ 5 → wr.heap[c]? = some (.cells cur T (0, 0)) → w2.heap[c]? = wr.heap[c]? := fun c cur T hT hc => by
            have hcl2 : c < wr.heap.size := (Array.getElem?_eq_some_iff.1 hc).1
            refine (hgr2.out.block c (by show c < (wr.alloc _).heap.size; simp; omega) (fun e => ?_)).trans (Below.heap_alloc _ _ _ hcl2)
            rcases hr.out.2 with ⟨e1, _⟩ | ⟨g', cap, cur', e1, _, hg', _⟩
            · rw [e1] at e; simp [Value.ownBlock] at e
            · rw [e1] at e
              simp only [Value.ownBlock, Option.some.injEq] at e
              subst e
              rw [hc] at hg'
              injection hg' with e2
              injection e2 with _ e3
              exact hT e3
          have hva4 := hva3.out.keep (w' := w2) (fun c cur _ hc => hk2 c cur _ (by decide) hc)
          have hvf4 : Vf lo w w2 := ⟨hgr2.out.os.trans hvf3.out.os, hgr2.out.tape.trans hvf3.out.tape, hgr2.out.output.trans hvf3.out.output, Nat.le_trans hvf3.out.size (Nat.le_trans (by show wr.heap.size ≤ (wr.alloc _).heap.size; simp) hgr2.out.size), fun c hc hp => by
            have hcw : c < wr.heap.size := by omega
            refine ((hgr2.out.block c (by show c < (wr.alloc _).heap.size; simp; omega) (fun e => ?_)).trans (Below.heap_alloc _ _ _ hcw)).trans (hvf3.out.block c hc hp)
            have := (hr.out.lt c e.symm).1
            omega⟩
          exact ⟨⟨k + 1, by omega, by go_num, hva4, by rw [List.replicate_succ', ← List.append_assoc]; have := hown2.out; unfold u8V at this ⊢; rw [List.map_append]; exact this, hvf4⟩, by simp [intOf]; omega⟩
        · have tk : decide ((k : Int) < v.len) = false := by simpa using hkl
          have hke : k = v.len.toNat := by omega
          subst hke
          rw [← hct.out] at hrow3
          have hlen : (cellsB (vs.take (i + 1))).length = L0.length + v.len.toNat := by rw [hct.out]; simp
          rw [← hlen] at hrow3 ⊢
          replace hva3 := hd hva3
          replace hvf3 := hd hvf3
          replace hrow3 := hd hrow3
          clear hlen
          go_wp2
          exact ⟨⟨i + 1, by omega, by go_num, hva3.out, hrow3.out, hvf3.out⟩, by simp [intOf]; omega⟩
    · have td : decide ((i : Int) < (vs.length : Int)) = false := by simp; omega
      have hie : i = vs.length := by omega
      subst hie
      rw [List.take_length] at hrow
      obtain ⟨ao, cp, rfl⟩ := own_slS hrow
      have hva2 : VarsIn (fstV vs) lo wr vs bs := ⟨hva.len, hva.inc, fun j u c hu hc => by
        have := hva.row j u c hu hc
        have hj : j < vs.length := (List.getElem?_eq_some_iff.1 hu).1
        rw [show fstTo vs vs.length j = fstV vs j from by unfold fstTo; rw [if_pos hj]] at this
        exact this⟩
      replace hva := hd hva
      replace hva2 := hd hva2
      replace hrow := hd hrow
      replace hvf := hd hvf
      go_wp2
      exact cl1 (fin.out _ _ hvf.out hva2.out hrow.out) rfl

end Go.Proofs.YtidhiaaicmfabaaGreatDoor

/- Parts of what is laid for strings.ToLower: the builder's own functions (seat .ZD alone). -/
namespace Go.Proofs
open Go.Shelf
theorem Tryz.bl240 : Go.Proofs.Lays.n240 Tryz.prog Tryz.lays159_ren := {
  mixed := Tryz.lays159.mixed
  f240 := Tryz.lays159.f240
  f276 := Tryz.lays159.f276
  t0 := Tryz.lays159.t0
  a0 := Tryz.lays159.a0
  z0 := Tryz.lays159.z0
  v0 := Tryz.lays159.v0
  t4 := Tryz.lays159.t4
  a4 := Tryz.lays159.a4
  z4 := Tryz.lays159.z4
  v4 := Tryz.lays159.v4
  t9 := Tryz.lays159.t9
  a9 := Tryz.lays159.a9
  z9 := Tryz.lays159.z9
  v9 := Tryz.lays159.v9
  t20 := Tryz.lays159.t20
  a20 := Tryz.lays159.a20
  z20 := Tryz.lays159.z20
  v20 := Tryz.lays159.v20
  t70 := Tryz.lays159.t70
  a70 := Tryz.lays159.a70
  z70 := Tryz.lays159.z70
  v70 := Tryz.lays159.v70
  t72 := Tryz.lays159.t72
  a72 := Tryz.lays159.a72
  z72 := Tryz.lays159.z72
  v72 := Tryz.lays159.v72
  t164 := Tryz.lays159.t164
  a164 := Tryz.lays159.a164
  z164 := Tryz.lays159.z164
  v164 := Tryz.lays159.v164 }
theorem Tryz.bl166 : Go.Proofs.Lays.n166 Tryz.prog Tryz.lays159_ren := {
  mixed := Tryz.lays159.mixed
  f166 := Tryz.lays159.f166
  f240 := Tryz.lays159.f240
  f276 := Tryz.lays159.f276
  t0 := Tryz.lays159.t0
  a0 := Tryz.lays159.a0
  z0 := Tryz.lays159.z0
  v0 := Tryz.lays159.v0
  t3 := Tryz.lays159.t3
  a3 := Tryz.lays159.a3
  z3 := Tryz.lays159.z3
  v3 := Tryz.lays159.v3
  t4 := Tryz.lays159.t4
  a4 := Tryz.lays159.a4
  z4 := Tryz.lays159.z4
  v4 := Tryz.lays159.v4
  t9 := Tryz.lays159.t9
  a9 := Tryz.lays159.a9
  z9 := Tryz.lays159.z9
  v9 := Tryz.lays159.v9
  t20 := Tryz.lays159.t20
  a20 := Tryz.lays159.a20
  z20 := Tryz.lays159.z20
  v20 := Tryz.lays159.v20
  t37 := Tryz.lays159.t37
  a37 := Tryz.lays159.a37
  z37 := Tryz.lays159.z37
  v37 := Tryz.lays159.v37
  t70 := Tryz.lays159.t70
  a70 := Tryz.lays159.a70
  z70 := Tryz.lays159.z70
  v70 := Tryz.lays159.v70
  t72 := Tryz.lays159.t72
  a72 := Tryz.lays159.a72
  z72 := Tryz.lays159.z72
  v72 := Tryz.lays159.v72
  t75 := Tryz.lays159.t75
  a75 := Tryz.lays159.a75
  z75 := Tryz.lays159.z75
  v75 := Tryz.lays159.v75
  t164 := Tryz.lays159.t164
  a164 := Tryz.lays159.a164
  z164 := Tryz.lays159.z164
  v164 := Tryz.lays159.v164 }
theorem Tryz.bl167 : Go.Proofs.Lays.n167 Tryz.prog Tryz.lays159_ren := {
  mixed := Tryz.lays159.mixed
  f167 := Tryz.lays159.f167
  f240 := Tryz.lays159.f240
  f276 := Tryz.lays159.f276
  t0 := Tryz.lays159.t0
  a0 := Tryz.lays159.a0
  z0 := Tryz.lays159.z0
  v0 := Tryz.lays159.v0
  t4 := Tryz.lays159.t4
  a4 := Tryz.lays159.a4
  z4 := Tryz.lays159.z4
  v4 := Tryz.lays159.v4
  t5 := Tryz.lays159.t5
  a5 := Tryz.lays159.a5
  z5 := Tryz.lays159.z5
  v5 := Tryz.lays159.v5
  t9 := Tryz.lays159.t9
  a9 := Tryz.lays159.a9
  z9 := Tryz.lays159.z9
  v9 := Tryz.lays159.v9
  t20 := Tryz.lays159.t20
  a20 := Tryz.lays159.a20
  z20 := Tryz.lays159.z20
  v20 := Tryz.lays159.v20
  t37 := Tryz.lays159.t37
  a37 := Tryz.lays159.a37
  z37 := Tryz.lays159.z37
  v37 := Tryz.lays159.v37
  t70 := Tryz.lays159.t70
  a70 := Tryz.lays159.a70
  z70 := Tryz.lays159.z70
  v70 := Tryz.lays159.v70
  t72 := Tryz.lays159.t72
  a72 := Tryz.lays159.a72
  z72 := Tryz.lays159.z72
  v72 := Tryz.lays159.v72
  t75 := Tryz.lays159.t75
  a75 := Tryz.lays159.a75
  z75 := Tryz.lays159.z75
  v75 := Tryz.lays159.v75
  t164 := Tryz.lays159.t164
  a164 := Tryz.lays159.a164
  z164 := Tryz.lays159.z164
  v164 := Tryz.lays159.v164 }
theorem Tryz.bl169 : Go.Proofs.Lays.n169 Tryz.prog Tryz.lays159_ren := {
  mixed := Tryz.lays159.mixed
  f169 := Tryz.lays159.f169
  t0 := Tryz.lays159.t0
  a0 := Tryz.lays159.a0
  z0 := Tryz.lays159.z0
  v0 := Tryz.lays159.v0
  t3 := Tryz.lays159.t3
  a3 := Tryz.lays159.a3
  z3 := Tryz.lays159.z3
  v3 := Tryz.lays159.v3
  t9 := Tryz.lays159.t9
  a9 := Tryz.lays159.a9
  z9 := Tryz.lays159.z9
  v9 := Tryz.lays159.v9
  t37 := Tryz.lays159.t37
  a37 := Tryz.lays159.a37
  z37 := Tryz.lays159.z37
  v37 := Tryz.lays159.v37
  t70 := Tryz.lays159.t70
  a70 := Tryz.lays159.a70
  z70 := Tryz.lays159.z70
  v70 := Tryz.lays159.v70
  t72 := Tryz.lays159.t72
  a72 := Tryz.lays159.a72
  z72 := Tryz.lays159.z72
  v72 := Tryz.lays159.v72
  t127 := Tryz.lays159.t127
  a127 := Tryz.lays159.a127
  z127 := Tryz.lays159.z127
  v127 := Tryz.lays159.v127 }
end Go.Proofs

/- The builder; two bytes (seat .ZD alone). -/
namespace Go.Proofs.YtidhiaaicmfabaaGreatDoor
open Go.RowKit Go.Proofs Go.Deep

theorem bNew (w : World) : Lib.IsBuilder 160 5 w.heap.size w.heap.size [] (w.alloc (Obj.cells #[.pointer none, .slice none 0 0] 160)) :=
  .inl ⟨Nat.le_refl _, _, allocCells, World.ownsRow_nil _ _ _ _, by simp [Value.ownBlock]⟩
theorem bStr (B b : Nat) (bs : List Value) (s : ByteArray) (w : World) (h : Lib.IsBuilder 160 5 B b bs w) (hlen : bs.length + s.size ≤ 140737488355328) (hBw : B ≤ w.heap.size) (R : Ending → World → Prop)
    (fin : ∀ w', Lib.BuilderAt 160 5 B b (.pointer (some ⟨b, 0, none⟩)) (bs ++ Lib.strCells s) w' → Below B w w' → R (.returned (.tuple #[.int .i64 s.size, .nilIface])) w') : Calls Tryz.prog 76 #[.pointer (some ⟨b, 0, none⟩), .string s] w R :=
  (Any.Builder_WriteString Tryz.bl166 Tryz.Builder_Extra_159 B b bs s w h hlen hBw).mono (fun _ w' ⟨he, h1, h2⟩ => he ▸ fin w' h1 h2)
theorem bByte (B b : Nat) (bs : List Value) (c : Int) (w : World) (h : Lib.BuilderAt 160 5 B b (.pointer (some ⟨b, 0, none⟩)) bs w) (hlen : bs.length + 1 ≤ 140737488355328) (hBw : B ≤ w.heap.size) (R : Ending → World → Prop)
    (fin : ∀ w', Lib.BuilderAt 160 5 B b (.pointer (some ⟨b, 0, none⟩)) (bs ++ [.int .u8 c]) w' → Below B w w' → R (.returned .nilIface) w') : Calls Tryz.prog 77 #[.pointer (some ⟨b, 0, none⟩), .int .u8 c] w R :=
  (Any.Builder_WriteByte Tryz.bl167 Tryz.Builder_Extra_159 B b bs c w (.inr h) hlen hBw).mono (fun _ w' ⟨he, h1, h2⟩ => he ▸ fin w' h1 h2)
theorem bString (B b : Nat) (l : List UInt8) (w : World) (h : Lib.BuilderAt 160 5 B b (.pointer (some ⟨b, 0, none⟩)) (Lib.byteCells l) w) (hBw : B ≤ w.heap.size) (R : Ending → World → Prop)
    (fin : ∀ w', Below B w w' → R (.returned (.string ⟨l.toArray⟩)) w') : Calls Tryz.prog 80 #[.pointer (some ⟨b, 0, none⟩)] w R :=
  (Any.Builder_String_any Tryz.bl169 Tryz.Builder_Extra_159 B b l w (.inr h) hBw).mono (fun _ w' ⟨he, h1⟩ => he ▸ fin w' h1)
set_option maxRecDepth 100000 in
set_option maxHeartbeats 2000000 in
theorem bWrite (B b : Nat) (bs : List Value) (w : World) (h : Lib.BuilderAt 160 5 B b (.pointer (some ⟨b, 0, none⟩)) bs w) (g m c : Nat) (ns : List Int) (hm : m = ns.length) (hg : ∀ j u, (u8V ns)[j]? = some u → w.cell? ⟨g, j, none⟩ = some u) (hlen : bs.length + m ≤ 1000000) (hBw : B ≤ w.heap.size) (R : Ending → World → Prop)
    (fin : ∀ w', Lib.BuilderAt 160 5 B b (.pointer (some ⟨b, 0, none⟩)) (bs ++ u8V ns) w' → Below B w w' → R (.returned (.tuple #[.int .i64 m, .nilIface])) w') : Calls Tryz.prog 78 #[.pointer (some ⟨b, 0, none⟩), .slice (some ⟨g, 0, none⟩) m c] w R := by
  subst hm
  have hc0 := h.cell0
  obtain ⟨hBb, v, hblk, hown, hne⟩ := h
  obtain ⟨ao, cp, rfl⟩ := own_slS hown
  have c1 : w.cell? ⟨b, 1, none⟩ = some (.slice ao bs.length cp) := cellOf hblk rfl
  have f1 : w.frozen? ⟨b, 1, none⟩ = false := frozOf hblk
  have lb : b < w.heap.size := (Array.getElem?_eq_some_iff.1 hblk).1
  have nb1 : some b ≠ (Value.slice ao bs.length cp).ownBlock := fun e => hne e.symm
  have hr := hd hown
  have hnews : ∀ j u, (u8V ns)[j]? = some u → w.cell? ((⟨g, 0, none⟩ : Addr).add j) = some u := fun j u hu => by
    have hadd : (⟨g, 0, none⟩ : Addr).add j = ⟨g, j, none⟩ := by unfold Addr.add; split <;> simp_all
    rw [hadd]; exact hg j u hu
  have hln : (u8V ns).length = ns.length * 1 := by unfold u8V; simp
  replace nb1 := hd nb1
  replace fin := hd fin
  replace hnews := hd hnews
  clear hg
  go_enter Tryz.func78, Tryz.ntmps78
  go_wp2_with (fail)
  refine (Any.Builder_copyCheck_used Tryz.bl240 Tryz.Builder_Extra_159.toX72 b w hc0).mono ?_
  rintro e w' ⟨rfl, rfl⟩
  go_wp2_with (first | (at_builtin; refine wpList_appZ _ rfl _ _ 133 rfl B 5 _ 1 1 ulBytes infoU8 rfl (by decide) (.slice ao bs.length cp) bs.length bs rfl (by exact hr.out) ⟨g, 0, none⟩ ns.length c (u8V ns) rfl hln (by exact hnews.out) (oneU8 ns) (by unfold maxLen; omega) (by omega) (by omega) ?_; intro v2 w2 hown2 hgr2 hl2; obtain ⟨ao2, cp2, rfl⟩ := own_slS hown2; have cx : w2.cell? ⟨b, 1, none⟩ = some (.slice ao bs.length cp) := farZ hgr2 c1 nb1.out; have fx : w2.frozen? ⟨b, 1, none⟩ = false := frzZ hgr2 f1 lb nb1.out; replace hown2 := hd hown2; replace hgr2 := hd hgr2; replace hl2 := hd hl2))
  have hblk2 : w2.heap[b]? = some (.cells #[.pointer (some ⟨b, 0, none⟩), .slice ao bs.length cp] 160 (0, 0)) := (hgr2.out.block b lb nb1.out).trans hblk
  have hB2 : Lib.BuilderAt 160 5 B b (.pointer (some ⟨b, 0, none⟩)) (bs ++ u8V ns) (w2.setCell ⟨b, 1, none⟩ (.slice ao2 (bs.length + ns.length) cp2)) := by
    refine Lib.BuilderAt.put hBb hblk2 ?_ (by decide)
    have := hown2.out
    rw [List.length_append]
    rw [hln, Nat.mul_one]
    exact this
  have hbel : Below B w' (w2.setCell ⟨b, 1, none⟩ (.slice ao2 (bs.length + ns.length) cp2)) := by
    have h0 : Below B w' w2 := (Below.refl B w').grown hgr2.out hBw (fun k hk => (hr.out.lt k hk).1)
    exact h0.setCell (p := ⟨b, 1, none⟩) hBb _
  exact cl1 (fin.out _ hB2 hbel) rfl
def two (n : Nat) : List Int := [(n / 256 % 256 : Nat), (n % 256 : Nat)]
set_option maxRecDepth 100000 in
theorem twoBytes_ok (w : World) (n : Nat) (hn : n < 65536) (R : Ending → World → Prop) (fin : R (.returned (.slice (some ⟨w.heap.size, 0, none⟩) 2 2)) (w.alloc (Obj.cells (u8V (two n)).toArray 5))) : Calls Tryz.prog 79 #[.int .i64 (n : Int)] w R := by
  replace fin := hd fin
  go_enter Tryz.func79, Tryz.ntmps79
  go_wp2
  have e : (u8V (two n)).toArray = #[.int .u8 ((n : Int) / 256), .int .u8 ((n : Int) % 256)] := by
    unfold u8V two
    simp only [List.map_cons, List.map_nil]
    have h1 : ((n / 256 % 256 : Nat) : Int) = (n : Int) / 256 := by omega
    have h2 : ((n % 256 : Nat) : Int) = (n : Int) % 256 := by omega
    rw [h1, h2]
  have := fin.out
  rw [e] at this
  exact cl1 this rfl

end Go.Proofs.YtidhiaaicmfabaaGreatDoor

/- The image of a text (seat .ZD alone). -/
namespace Go.Proofs.YtidhiaaicmfabaaGreatDoor
open Go.RowKit Go.Proofs Go.Deep

/-- A text with its kinds: all that the writer looks at. -/
structure PgK (lo hi : Nat) (w : World) (vs : List Vd) (bs : List Nat) (body : Sl) (xs : List Value) (vv bv : Value) : Prop where
  vown : w.ownsRow lo 144 1 vv vs.length (ptzV bs)
  vars : VarsIn (fun _ => 0) lo w vs bs
  bown : w.ownsRow lo 240 1 bv body.len xs
  body : SlIn (kE vs) bv.ownBlock body lo hi w xs
def mkB : List UInt8 := [83, 76, 85, 73, 67, 69]
/-- The bytes of an image. -/
def imgI (cs code : List Int) : List Int := (cs.length : Int) :: (cs ++ (two code.length ++ code))
def u8L (l : List Int) : List UInt8 := l.map (fun n => UInt8.ofNat n.toNat)
theorem u8L_cells {l : List Int} (h : ∀ n ∈ l, 0 ≤ n ∧ n ≤ 255) : u8V l = Lib.byteCells (u8L l) := by
  unfold u8V Lib.byteCells u8L
  rw [List.map_map]
  apply List.map_congr_left
  intro n hn
  have := h n hn
  show Value.int .u8 n = Value.int .u8 (((UInt8.ofNat n.toNat).toNat : Nat) : Int)
  rw [UInt8.toNat_ofNat']
  congr 1
  omega
/-- Blocks that are as they were, but for variables. -/
def Same2 (w w' : World) (lo hi : Nat) (g : Option Nat) : Prop := ∀ b cur T, T ≠ 9 → T ≠ 147 → lo ≤ b → b < hi → g ≠ some b → w.heap[b]? = some (.cells cur T (0, 0)) → w'.heap[b]? = w.heap[b]?
theorem Same2.sub {w w' : World} {lo hi lo' hi' : Nat} {g g' : Option Nat} (h : Same2 w w' lo hi g) (h1 : lo ≤ lo') (h2 : hi' ≤ hi) (h3 : ∀ b, lo' ≤ b → b < hi' → g' ≠ some b → g ≠ some b) : Same2 w w' lo' hi' g' :=
  fun b cur T a0 a0' a1 a2 a3 a4 => h b cur T a0 a0' (by omega) (by omega) (h3 b a1 a2 a3) a4
theorem RowIn.keep2 {w w' : World} {lo hi T sz n : Nat} {v : Value} {xs : List Value} (h : RowIn w lo hi T sz v n xs) (hT : T ≠ 9) (hT' : T ≠ 147) (k : Same2 w w' lo hi none) : RowIn w' lo hi T sz v n xs := by
  refine ⟨⟨h.1.1, ?_⟩, h.2⟩
  rcases h.1.2 with h2 | ⟨g, cap, cur, rfl, hb, hg, r⟩
  · exact .inl h2
  · exact .inr ⟨g, cap, cur, rfl, hb, (k g cur T hT hT' hb (h.2 g rfl) (by simp) hg).trans hg, r⟩
theorem ExIn.keep2 {kk : Ex → Int} {w w' : World} {e : Ex} {lo hi : Nat} {v : Value} (h : ExIn kk e lo hi w v) (k : Same2 w w' lo hi none) : ExIn kk e lo hi w' v := h.keep (fun b cur a1 a2 a3 => k b cur _ (by decide) (by decide) a1 a2 (by simp) a3)
mutual
theorem StIn.keep2 {kk : Ex → Int} {w w' : World} : ∀ {s : Stz} {lo hi : Nat} {v : Value}, StIn kk s lo hi w v → Same2 w w' lo hi none → StIn kk s lo hi w' v
  | .set _ _, _, _, _, ⟨ve, e1, h⟩, k => ⟨ve, e1, h.keep2 k⟩
  | .setx _ _ _, _, _, _, ⟨vi, ve, m, e1, h1, h2, h3, h4⟩, k => ⟨vi, ve, m, e1, h1, h2, h3.keep2 (k.sub (by omega) (by omega) (by simp)), h4.keep2 (k.sub (by omega) (by omega) (by simp))⟩
  | .ife _ _ _, _, _, _, ⟨vc, vt, vo, m1, m2, e1, h1, h2, h3, h4, ⟨xs, h5, h6⟩, ⟨ys, h7, h8⟩⟩, k => ⟨vc, vt, vo, m1, m2, e1, h1, h2, h3, h4.keep2 (k.sub (by omega) (by omega) (by simp)), ⟨xs, h5.keep2 (by decide) (by decide) (k.sub (by omega) (by omega) (by simp)), h6.keep2 (k.sub (by omega) (by omega) (by simp))⟩, ⟨ys, h7.keep2 (by decide) (by decide) (k.sub (by omega) (by omega) (by simp)), h8.keep2 (k.sub (by omega) (by omega) (by simp))⟩⟩
  | .cas _ _ _, _, _, _, ⟨vc, vt, vo, m1, m2, e1, h1, h2, h3, h4, ⟨n, xs, h5, h6⟩, ⟨ys, h7, h8⟩⟩, k => ⟨vc, vt, vo, m1, m2, e1, h1, h2, h3, h4.keep2 (k.sub (by omega) (by omega) (by simp)), ⟨n, xs, h5.keep2 (by decide) (by decide) (k.sub (by omega) (by omega) (by simp)), h6.keep2 (k.sub (by omega) (by omega) (by simp))⟩, ⟨ys, h7.keep2 (by decide) (by decide) (k.sub (by omega) (by omega) (by simp)), h8.keep2 (k.sub (by omega) (by omega) (by simp))⟩⟩
  | .loop _ _ _ _, _, _, _, ⟨vb, e1, ⟨xs, h5, h6⟩⟩, k => ⟨vb, e1, ⟨xs, h5.keep2 (by decide) (by decide) k, h6.keep2 (k.sub (by omega) (by omega) (by simp))⟩⟩
theorem SlIn.keep2 {kk : Ex → Int} {w w' : World} {g : Option Nat} : ∀ {l : Sl} {lo hi : Nat} {xs : List Value}, SlIn kk g l lo hi w xs → Same2 w w' lo hi g → SlIn kk g l lo hi w' xs
  | .nil, _, _, _, h, _ => h
  | .cons _ _, _, _, _, ⟨v, ys, a, b, m, e1, h1, h2, h3, h4, h5, h6, h7⟩, k => ⟨v, ys, a, b, m, e1, h1, h2, h3, h4, h5, h6.keep2 (k.sub (by omega) (by omega) (fun c c1 c2 _ e => by have := h5 c e; omega)), h7.keep2 (k.sub (by omega) (by omega) (fun c c1 c2 c3 => c3))⟩
theorem WlIn.keep2 {kk : Ex → Int} {w w' : World} {g : Option Nat} : ∀ {l : Wl} {lo hi : Nat} {xs : List Value}, WlIn kk g l lo hi w xs → Same2 w w' lo hi g → WlIn kk g l lo hi w' xs
  | .nil, _, _, _, h, _ => h
  | .cons _ _ _, _, _, _, ⟨vn, vb, ys, a, m1, c, m, e1, h1, h2, h3, h4, h5, h6, h7, ⟨zs, h8, h9⟩, h10⟩, k => ⟨vn, vb, ys, a, m1, c, m, e1, h1, h2, h3, h4, h5, h6, h7.keep2 (by decide) (by decide) (k.sub (by omega) (by omega) (fun d d1 d2 _ e => by have := h6 d e; omega)), ⟨zs, h8.keep2 (by decide) (by decide) (k.sub (by omega) (by omega) (fun d d1 d2 _ e => by have := h6 d e; omega)), h9.keep2 (k.sub (by omega) (by omega) (fun d d1 d2 _ e => by have := h6 d e; omega))⟩, h10.keep2 (k.sub (by omega) (by omega) (fun c c1 c2 c3 => c3))⟩
end
theorem Vf.nm {lo : Nat} {w w' : World} (h : Vf lo w w') {bm n : Nat} {f : ByteArray → Option Nat} (hr : NmAt w bm n f) : NmAt w' bm n f := by
  refine hr.keep (h.block bm hr.lt (fun cur hc => ?_))
  obtain ⟨D, ⟨es, c, h1, _⟩, _⟩ := hr
  rw [h1] at hc
  cases hc
theorem Vf.more {lo : Nat} {w w2 w3 : World} (h : Vf lo w w2) (ho : w3.os = w2.os) (ht : w3.tape = w2.tape) (hp : w3.output = w2.output) (hs : w2.heap.size ≤ w3.heap.size) (hk : ∀ b, b < w.heap.size → w3.heap[b]? = w2.heap[b]?) : Vf lo w w3 :=
  ⟨ho.trans h.os, ht.trans h.tape, hp.trans h.output, Nat.le_trans h.size hs, fun b hb hq => (hk b hb).trans (h.block b hb hq)⟩
theorem strCells_mark : Lib.strCells (⟨#[83, 76, 85, 73, 67, 69]⟩ : ByteArray) = Lib.byteCells mkB := by
  unfold Lib.strCells Lib.byteCells mkB; rfl
end Go.Proofs.YtidhiaaicmfabaaGreatDoor

/- Compile at a right text (seat .ZD alone). -/
namespace Go.Proofs.YtidhiaaicmfabaaGreatDoor
open Go.RowKit Go.Proofs Go.Deep

/-- A right text without CASE; f: its code. -/
structure Tx (vs : List Vd) (body : Sl) (f : Nat → List Int) : Prop where
  vr : ∀ v ∈ vs, v.role < 3 ∧ VarOk v
  rd : AllOk body
  dep : depL body ≤ 10
  low : ∀ v ∈ vs, LowName v.name
  dis : (vs.map (·.name)).Nodup
  us : ∀ u ∈ namesL body, ∃ v ∈ vs, u = v.name
  wv : ∀ v ∈ vs, wtV v = true ∧ v.role < 3 ∧ v.kind ≤ 3
  ck : AllCk vs [] body
  co : AllCo (kE vs) body
  cost : costL body ≤ 3999
  wr : AllW vs ((cellsB vs).length : Int) body f false
  ln : 0 < vs.length ∧ vs.length ≤ 1000 ∧ lenV vs ≤ 60
  bl : body.len ≤ 1000 ∧ (namesL body).length ≤ 1000
  cd : (f 0).length ≤ 60000
  ci : ∀ n ∈ f 0, 0 ≤ n ∧ n ≤ 255
def imgS (vs : List Vd) (f : Nat → List Int) : ByteArray := ⟨(mkB ++ u8L (imgI (cellsB vs) (f 0 ++ [0]))).toArray⟩
theorem Kf.low {lo hi : Nat} {w w' : World} (h : Kf lo hi w w') : Below lo w w' ∨ w.heap.size < lo := by
  by_cases hl : lo ≤ w.heap.size
  · exact .inl ⟨h.os, h.tape, h.output, h.size, fun k hk => h.block k (by omega) (fun _ _ => .inl hk)⟩
  · exact .inr (by omega)
theorem Kf.below {lo hi : Nat} {w w' : World} (h : Kf lo hi w w') (hl : lo ≤ w.heap.size) : Below lo w w' := ⟨h.os, h.tape, h.output, h.size, fun k hk => h.block k (by omega) (fun _ _ => .inl hk)⟩
theorem Vf.below {lo : Nat} {w w' : World} (h : Vf lo w w') (hl : lo ≤ w.heap.size) : Below lo w w' := ⟨h.os, h.tape, h.output, h.size, fun k hk => h.block k (by omega) (fun _ _ => hk)⟩
end Go.Proofs.YtidhiaaicmfabaaGreatDoor
