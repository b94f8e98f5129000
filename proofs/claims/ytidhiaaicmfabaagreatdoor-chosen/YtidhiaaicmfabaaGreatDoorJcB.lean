/- IF and CASE are read; CASE is checked. -/
import Derived.Test.YtidhiaaicmfabaaGreatDoorKaA
import Derived.WalkKit
import Derived.WalkSpells
import Derived.WalkLawsBesides
import Derived.Deep.OwnRows
import Derived.BigQuiet
import Derived.Handy
import Derived.Deep.Light
import Derived.Deep.RegionHeld3
import Derived.Deep.RegionWith
import Derived.Test.YtidhiaaicmfabaaGreatDoorJyQ
import Derived.Test.YtidhiaaicmfabaaGreatDoorJyI
import Derived.WalkSmall
import Derived.Deep.AppendLies
import Derived.Deep.RegionLaw
import Derived.Laws.CopyOwn
import Derived.Test.YtidhiaaicmfabaaGreatDoorJyO
import Derived.Test.YtidhiaaicmfabaaGreatDoorJyN
import Derived.Test.YtidhiaaicmfabaaGreatDoorJyL

/- FOR is read (seat .ZD alone). -/
namespace Go.Proofs.YtidhiaaicmfabaaGreatDoor
open Go.RowKit Go.Proofs Go.Deep

theorem Fu.slIn {B bp : Nat} {pv : Value} {L : List ByteArray} {k : Nat} {d : Int} {us : List ByteArray} {uv uv' : Value} {w w' : World} (hf : Fu bp uv uv' w w') (hp : Ps B bp pv L k d us uv w) {g : Option Nat} {l : Sl} {lo hi : Nat} {xs : List Value} (h : SlIn (fun _ => 0) g l lo hi w xs) (hb : bp < lo) : SlIn (fun _ => 0) g l lo hi w' xs := h.keep (hf.same hp hb _)
theorem Fu.rowIn {B bp : Nat} {pv : Value} {L : List ByteArray} {k : Nat} {d : Int} {us : List ByteArray} {uv uv' : Value} {w w' : World} (hf : Fu bp uv uv' w w') (hp : Ps B bp pv L k d us uv w) {lo hi T sz n : Nat} {v : Value} {xs : List Value} (h : RowIn w lo hi T sz v n xs) (hT : T ≠ 9) (hb : bp < lo) : RowIn w' lo hi T sz v n xs := h.keep hT (hf.same hp hb _)
theorem samz_set {w : World} {lo hi b : Nat} {g : Option Nat} {i : Nat} {v : Value} (hb : b < lo ∨ hi ≤ b) : Samz w (w.setCell ⟨b, i, none⟩ v) lo hi g := fun c _ _ _ h1 h2 _ _ => Below.heap_setCell _ _ _ _ (show c ≠ b by omega)
theorem RowIn.wide {w : World} {lo hi lo' hi' T sz n : Nat} {v : Value} {xs : List Value} (h : RowIn w lo hi T sz v n xs) (h1 : lo' ≤ lo) (h2 : hi ≤ hi') : RowIn w lo' hi' T sz v n xs := by
  refine ⟨⟨h.1.1, ?_⟩, fun g hg => Nat.lt_of_lt_of_le (h.2 g hg) h2⟩
  rcases h.1.2 with h3 | ⟨g, cap, cur, rfl, hb, r⟩
  · exact .inl h3
  · exact .inr ⟨g, cap, cur, rfl, by omega, r⟩
end Go.Proofs.YtidhiaaicmfabaaGreatDoor

/- IF is read (seat .ZD alone). -/
namespace Go.Proofs.YtidhiaaicmfabaaGreatDoor
open Go.RowKit Go.Proofs Go.Deep

def othT (o : Sl) : List ByteArray := (if o.isNil then [] else wELSE :: toksL o) ++ [wEND]
set_option maxRecDepth 100000 in
set_option maxHeartbeats 2000000 in
theorem otherwise_ok {o : Sl} (ho : AllOk o) {w : World} {B bp : Nat} {pv : Value} {L : List ByteArray} {k : Nat} {d : Int} {us : List ByteArray} {uv : Value} (h : Ps B bp pv L k d us uv w) (ht : TokAt L k (othT o)) (hd0 : 0 ≤ d) (hd1 : d + depL o ≤ 10)
    (R : Ending → World → Prop) (fin : ∀ w' ao cp xs uv', Ps B bp pv L (k + (othT o).length) d (us ++ namesL o) uv' w' → Fu bp uv uv' w w' → RowIn w' w.heap.size w'.heap.size 240 1 (.slice ao o.len cp) o.len xs → SlIn (fun _ => 0) (Value.slice ao o.len cp).ownBlock o w.heap.size w'.heap.size w' xs → R (.returned (.slice ao o.len cp)) w') :
    Calls Tryz.prog 236 #[.pointer (some ⟨bp, 0, none⟩)] w R := by
  have hw0 := h.pa.row.lt
  unfold othT at ht fin
  cases o with
  | nil =>
    simp only [Sl.isNil, if_true, List.nil_append, List.length_cons, List.length_nil, namesL, List.append_nil, Sl.len] at ht fin
    have hs := ht.head
    replace fin := hd fin
    go_enter Tryz.func236, Tryz.ntmps236
    go_wp2_with (fail)
    refine pNot (s := wELSE) h (by rw [hs]; kernel_rfl) _ ?_
    intro w1 h1 hf1
    go_wp2_with (fail)
    refine pExp (s := wEND) h1 hs (by decide) _ ?_
    intro w2 h2 hf2
    have hfA := hd (hf1.trans hf2)
    replace h2 := hd h2
    clear hf1 hf2
    go_wp2
    exact cl1 (fin.out _ none 0 [] uv h2.out hfA.out ⟨World.ownsRow_nil _ _ _ _, by simp [Value.ownBlock]⟩ rfl) rfl
  | cons s t =>
    obtain ⟨o, ho'⟩ : ∃ o, o = Sl.cons s t := ⟨_, rfl⟩
    have hnil : (Sl.cons s t).isNil = false := rfl
    rw [hnil] at ht fin
    rw [← ho'] at ht fin ho hd1
    simp only [Bool.false_eq_true, if_false, List.cons_append] at ht fin
    have hs := ht.head
    have tB := ht.tail.left
    have tE := ht.tail.right.head
    clear ho'
    replace fin := hd fin
    go_enter Tryz.func236, Tryz.ntmps236
    go_wp2_with (fail)
    refine pAcc (s := wELSE) h hs (by decide) _ ?_
    intro w1 h1 hf1
    go_wp2_with (fail)
    refine stmts_ok ho h1 (by exact tB) (by rw [show nextS L _ = wEND from tE]; exact stop_END) (by omega) (by omega) _ ?_
    intro w2 v xs uv2 h2 g2 hr2 hsl2
    obtain ⟨ao, cp, rfl⟩ := own_slS hr2.1
    have hz1 := hf1.size
    have hz2 := g2.size
    have hf2 := hd (hf1.trans g2)
    replace hr2 := hd hr2
    replace hsl2 := hd hsl2
    clear g2 hf1
    go_wp2_with (fail)
    refine pExp (s := wEND) h2 (by exact tE) (by decide) _ ?_
    intro w3 h3 g3
    have hrA := hd ((g3.rowIn h2 hr2.out (by decide) (by omega)).wide hz1 g3.size)
    have hslA := hd ((g3.slIn h2 hsl2.out (by omega)).wide hz1 g3.size)
    have hfA := hd (hf2.out.trans g3)
    rw [show k + 1 + (toksL o).length + 1 = k + (wELSE :: (toksL o ++ [wEND])).length by simp only [List.length_cons, List.length_append, List.length_nil]; omega] at h3
    replace h3 := hd h3
    clear g3 hr2 hsl2 hf2
    go_wp2
    exact cl1 (fin.out _ ao cp xs uv2 h3.out hfA.out hrA.out hslA.out) rfl
set_option maxRecDepth 100000 in
set_option maxHeartbeats 2000000 in
theorem choice_ok {c : Ex} {t o : Sl} (hc : ExprOk c) (hto : AllOk t) (ho : AllOk o) {w : World} {B bp : Nat} {pv : Value} {L : List ByteArray} {k : Nat} {d : Int} {us : List ByteArray} {uv : Value} (h : Ps B bp pv L k d us uv w) (ht : TokAt L k (toks c ++ wTHEN :: (toksL t ++ othT o))) (hd0 : 0 ≤ d) (hd1 : d + (max (depE c) (max (depL t) (depL o)) + 1) ≤ 10)
    (R : Ending → World → Prop) (fin : ∀ w' v uv', Ps B bp pv L (k + (toks c ++ wTHEN :: (toksL t ++ othT o)).length) d (us ++ (namesE c ++ (namesL t ++ namesL o))) uv' w' → Fu bp uv uv' w w' → StIn (fun _ => 0) (.ife c t o) w.heap.size w'.heap.size w' v → R (.returned v) w') :
    Calls Tryz.prog 225 #[.pointer (some ⟨bp, 0, none⟩)] w R := by
  have d1 := depE_nonneg c
  have d2 := depL_nonneg t
  have d3 := depL_nonneg o
  have tC := ht.left
  have tTH := ht.right.head
  have tT := ht.right.tail.left
  have tO := ht.right.tail.right
  have n1 : ((nextS L (k + (toks c).length)).toList == wLB.toList) = false := by rw [tTH]; kernel_rfl
  have hst : StopW (nextS L (k + (toks c).length + 1 + (toksL t).length)) := by
    cases o with
    | nil =>
      have := tO.head (s := wEND) (l := [])
      rw [this]; exact stop_END
    | cons s r =>
      have := tO.head (s := wELSE) (l := toksL (.cons s r) ++ [wEND])
      rw [this]; exact stop_ELSE
  have hw0 := h.pa.row.lt
  replace fin := hd fin
  go_enter_defers Tryz.func225, Tryz.ntmps225
  go_wp2_with (fail)
  refine pEnter h ⟨hd0, by omega⟩ _ ?_
  intro w1 h1 hf1
  go_wp2_with (fail)
  refine hc h1 (by exact tC) n1 (by omega) (by omega) _ ?_
  intro w3 vc uv3 h3 g3 hx3
  obtain ⟨tc, uc, rfl⟩ := hx3.iface
  have hz1 := hf1.size
  have hz3 := g3.size
  have hlt3 := h3.pa.row.lt
  have hB3 := h3.le
  have hne : bp ≠ w3.heap.size := by omega
  have hf3 := hd (hf1.trans g3)
  have hxa := hd (hx3.keep (w' := w3.alloc (.cells #[.iface tc uc, .slice none 0 0, .slice none 0 0] 311)) (fun b _ _ h2 _ => ((Below.refl w3.heap.size w3).alloc (Nat.le_refl _) _).block b h2))
  clear hf1 g3
  go_wp2_with (fail)
  refine pExp (s := wTHEN) (h3.alloc _) (by exact tTH) (by decide) _ ?_
  intro w4 h4 g4
  have hb4 := (h3.alloc _).apart allocCells (by decide) hne g4
  have hx4 := hd (g4.exIn (h3.alloc _) hxa.out (by omega))
  have hz4 := g4.size
  rw [World.size_alloc] at hz4
  have hf4 := hd (hf3.out.trans ((Fu.of_below ((Below.refl _ w3).alloc (Nat.le_refl _) _)).trans g4))
  clear g4 hf3 hxa hx3
  generalize hg : w3.heap.size = q at *
  replace hg := hd hg
  replace hb4 := hd hb4
  go_wp2_with (fail)
  refine stmts_ok hto h4 (by exact tT) hst (by omega) (by omega) _ ?_
  intro w5 v xs uv5 h5 g5 hr5 hsl5
  obtain ⟨ao, cp, rfl⟩ := own_slS hr5.1
  have hb5 := h4.apart hb4.out (by decide) hne g5
  have hx5 := g5.exIn h4 hx4.out (by omega)
  have hz5 := g5.size
  have a1 := cellOf (i := 1) hb5 rfl
  have f1 := frozOf (i := 1) hb5
  have hb6 := hd (heapSet (i := 1) hb5 (.slice ao t.len cp))
  have h6 := hd (h5.setNew hb5 (by decide) hB3 1 (.slice ao t.len cp))
  have hf6 := hd ((hf4.out.trans g5).setNew (show w.heap.size ≤ q by omega) 1 (.slice ao t.len cp))
  have hr6 := hd (hr5.keep (by decide) (samz_set (b := q) (i := 1) (v := .slice ao t.len cp) (.inl (by omega))))
  have hsl6 := hd (hsl5.keep (samz_set (b := q) (i := 1) (v := .slice ao t.len cp) (.inl (by omega))))
  have hx6 := hd (hx5.keep (w' := w5.setCell ⟨q, 1, none⟩ (.slice ao t.len cp)) (fun c cur hc hc2 _ => (Below.heap_setCell _ _ _ _ (show c ≠ q by omega))))
  clear g5 hb5 hf4 hr5 hsl5 hx5 hx4
  replace h5 := hd h5
  go_wp2_with (fail)
  refine otherwise_ok ho h6.out (by exact tO) (by omega) (by omega) _ ?_
  intro w8 ao8 cp8 ys uv8 h8 g8 hr8 hsl8
  have hb8 := h6.out.apart hb6.out (by decide) hne g8
  have hx8 := g8.exIn h6.out hx6.out (by omega)
  have hr9 := g8.rowIn h6.out hr6.out (by decide) (by omega)
  have hsl9 := g8.slIn h6.out hsl6.out (by omega)
  have hz8 := g8.size
  rw [World.size_setCell] at hz8 hr8 hsl8
  have a2 := cellOf (i := 2) hb8 rfl
  have f2 := frozOf (i := 2) hb8
  have hbA := hd (heapSet (i := 2) hb8 (.slice ao8 o.len cp8))
  have hA := hd (h8.setNew hb8 (by decide) hB3 2 (.slice ao8 o.len cp8))
  have hfA := hd ((hf6.out.trans g8).setNew (show w.heap.size ≤ q by omega) 2 (.slice ao8 o.len cp8))
  have hrA := hd (hr8.keep (by decide) (samz_set (b := q) (i := 2) (v := .slice ao8 o.len cp8) (.inl (by omega))))
  have hslA := hd (hsl8.keep (samz_set (b := q) (i := 2) (v := .slice ao8 o.len cp8) (.inl (by omega))))
  have hrB := hd (hr9.keep (by decide) (samz_set (b := q) (i := 2) (v := .slice ao8 o.len cp8) (.inl (by omega))))
  have hslB := hd (hsl9.keep (samz_set (b := q) (i := 2) (v := .slice ao8 o.len cp8) (.inl (by omega))))
  have hxA := hd (hx8.keep (w' := w8.setCell ⟨q, 2, none⟩ (.slice ao8 o.len cp8)) (fun c cur hc hc2 _ => (Below.heap_setCell _ _ _ _ (show c ≠ q by omega))))
  have r0 := cellOf (i := 0) hbA.out rfl
  have r1 := cellOf (i := 1) hbA.out rfl
  have r2 := cellOf (i := 2) hbA.out rfl
  have c2 : (w8.setCell ⟨q, 2, none⟩ (.slice ao8 o.len cp8)).cell? ⟨bp, 2, none⟩ = some (.int .i64 (d + 1)) := hA.out.pa.row.cell (i := 2) (by omega)
  have fz2 := hA.out.pa.row.frozen 2
  clear g8 hb8 hf6 hr8 hsl8 hr9 hsl9 hx8 hr6 hsl6 hx6
  replace h8 := hd h8
  go_wp2
  generalize hW : w8.setCell ⟨q, 2, none⟩ (.slice ao8 o.len cp8) = W at *
  have hzW : W.heap.size = w8.heap.size := by rw [← hW]; exact World.size_setCell _ _ _
  refine leaves_cons (f := 235) (args := #[.pointer (some ⟨bp, 0, none⟩)]) (by simp) (by simp [go_sem]) ?_
  refine (leave_d _ bp (d + 1) (by omega) c2 fz2 .returning).mono ?_
  rintro e u' wz ⟨rfl, rfl, rfl⟩
  refine ⟨_, results_tmp rfl _ _ _, ?_⟩
  have ed : d + 1 - 1 = d := by omega
  rw [ed]
  have hzz : (W.setCell ⟨bp, 2, none⟩ (.int .i64 d)).heap.size = w8.heap.size := (World.size_setCell _ _ _).trans hzW
  have hps : Ps B bp pv L (k + (toks c).length + 1 + (toksL t).length + (othT o).length) d (us ++ namesE c ++ namesL t ++ namesL o) uv8 (W.setCell ⟨bp, 2, none⟩ (.int .i64 d)) := hA.out.only (hA.out.pa.setDep d) ((Only.refl bp W).setCell (a := ⟨bp, 2, none⟩) (.inl rfl) _) (by omega)
  refine cl1 (fin.out _ (.iface 311 (.agg #[.iface tc uc, .slice ao t.len cp, .slice ao8 o.len cp8])) uv8 ?_ (hfA.out.trans (Fu.of_only ((Only.refl bp W).setCell (a := ⟨bp, 2, none⟩) (.inl rfl) _))) ⟨_, _, _, w4.heap.size, w5.heap.size, rfl, by omega, by omega, by omega, ?_, ⟨xs, ?_, ?_⟩, ⟨ys, ?_, ?_⟩⟩) rfl
  · simp only [List.length_append, List.length_cons]
    simp only [List.append_assoc] at hps
    rw [show k + ((toks c).length + ((toksL t).length + (othT o).length + 1)) = k + (toks c).length + 1 + (toksL t).length + (othT o).length by omega]
    exact hps
  · exact (hxA.out.wide (by omega) (by omega)).keep (fun c cur hc _ _ => Below.heap_setCell _ _ _ _ (show c ≠ bp by omega))
  · exact hrB.out.keep (by decide) (samz_set (.inl (by omega)))
  · exact hslB.out.keep (samz_set (.inl (by omega)))
  · rw [hzz]
    exact hrA.out.keep (by decide) (samz_set (.inl (by omega)))
  · rw [hzz]
    exact hslA.out.keep (samz_set (.inl (by omega)))
set_option maxRecDepth 100000 in
set_option maxHeartbeats 2000000 in
theorem stmt_ife {c : Ex} {t o : Sl} (hc : ExprOk c) (hto : AllOk t) (ho : AllOk o) : StmtOk (.ife c t o) := by
  intro w B bp pv L k d us uv h ht hfo hd0 hd1 R fin
  simp only [toksS, depS, namesS] at ht hfo hd1 fin
  have hs := ht.head
  have ek : ∀ X : List ByteArray, k + 1 + X.length = k + (wIF :: X).length := fun X => by simp only [List.length_cons]; omega
  replace fin := hd fin
  go_enter Tryz.func200, Tryz.ntmps200
  go_wp2_with (fail)
  refine pNext h _ ?_
  intro w1 h1 hf1
  rw [hs]
  go_wp2_with (fail)
  refine isName_capW _ wIF cap_IF _ ?_
  intro w2 hb2
  have h2 := h1.only (h1.pa.below hb2) (Only.of_below hb2) (by omega)
  have hf2 := hf1.trans (Fu.of_below hb2)
  clear hf1 hb2 h1
  go_wp2_with (fail)
  refine pAcc (s := wIF) h2 hs (by decide) _ ?_
  intro w5 h5 hf5
  have hfA := hd (hf2.trans hf5)
  have hz5 := hfA.out.size
  clear hf2 hf5 h2
  go_wp2_with (fail)
  refine choice_ok hc hto ho h5 (by exact ht.tail) hd0 hd1 _ ?_
  intro w6 v uv6 h6 hf6 hx6
  obtain ⟨vc, vt, vo, m1, m2, rfl, q1, q2, q3, hx, hrt, hro⟩ := hx6
  rw [ek] at h6
  have hfB := hd (hfA.out.trans hf6)
  replace hx := hd (hx.wide hz5 (Nat.le_refl _))
  replace hrt := hd hrt
  replace hro := hd hro
  replace h6 := hd h6
  clear hf6
  go_wp2
  exact cl1 (fin.out _ _ uv6 h6.out hfB.out ⟨vc, vt, vo, m1, m2, rfl, by omega, q2, q3, hx.out, hrt.out, hro.out⟩) rfl

end Go.Proofs.YtidhiaaicmfabaaGreatDoor

/- Rows of statements in memory that stays (seat .ZD alone). -/
namespace Go.Proofs.YtidhiaaicmfabaaGreatDoor
open Go.RowKit Go.Proofs Go.Deep

theorem step_appL {P : Program} {w : World} {ops : Array Oper} {o : Oper} {a : Act} {K : Act → World → Prop} {Q : Exit → Act → World → Prop} {E : Prop} (hgd : o.guard = none) (s x : Operand) (t : TypeId)
    (ho : o.op = .call { callee := .builtin .append, args := #[s, x], argTypes := #[t, t] })
    (base : Nat) (e : TypeId) (z : Value) (size bytes : Nat) (ht : P.underlying t = some (.slice e)) (hinfo : (P.info? e).map (fun i => (i.zero, i.size, i.bytes)) = some (some z, size, bytes)) (hzs : z.cells.size = size) (hsz : 0 < size)
    (v : Value) (n : Nat) (xs : List Value) (hs : a.eval s = v) (hown : w.ownsRow base e size v n xs)
    (g m c : Nat) (news : List Value) (hx : a.eval x = .slice (some ⟨g, 0, none⟩) m c) (hg : w.heap[g]? = some (.cells news.toArray e)) (hl : news.length = m * size) (h1 : ∀ u ∈ news, u.oneCell' = true)
    (hm : 0 < m) (h63 : n + m ≤ maxLen) (hbytes : (n + m) * bytes ≤ 140737488355328) (hbase : base ≤ w.heap.size)
    (h : ∀ g' cap w', w'.ownsRow base e size (.slice (some ⟨g', 0, none⟩) (n + m) cap) (n + m) (xs ++ news) → w.grownBy w' v.ownBlock → (v.ownBlock = some g' ∨ g' = w.heap.size) → K (a.put o.dst (.slice (some ⟨g', 0, none⟩) (n + m) cap)) w') :
    if Region.wanted o (yielded ops a.tmps) = true then Oper.wp P o a w K Q else E := by
  obtain ⟨i, hi, hzz⟩ := Option.map_eq_some_iff.1 hinfo
  simp only [Prod.mk.injEq] at hzz
  obtain ⟨hz, hs1, hb1⟩ := hzz
  refine step_append_lies _ hgd s x t ho base e i z size bytes ht hi hz hs1 hb1 hzs hsz v n xs hs hown ⟨g, 0, none⟩ m c news hx hl ?_ h1 hm h63 hbytes hbase w.heap.size rfl (fun g' cap w' a1 a2 a3 _ => h g' cap w' a1 a2 a3)
  intro j u hu
  have hadd : (⟨g, 0, none⟩ : Addr).add j = ⟨g, j, none⟩ := by unfold Addr.add; split <;> simp_all
  rw [hadd, cell_of_row _ g j news.toArray e (0, 0) hg]
  simpa using hu
theorem RowIn.below {w w' : World} {lo hi T sz n : Nat} {v : Value} {xs : List Value} (h : RowIn w lo hi T sz v n xs) (hb : Below w.heap.size w w') : RowIn w' lo hi T sz v n xs := by
  refine ⟨⟨h.1.1, ?_⟩, h.2⟩
  rcases h.1.2 with h2 | ⟨g, cap, cur, rfl, hbb, hg, r⟩
  · exact .inl h2
  · exact .inr ⟨g, cap, cur, rfl, hbb, (hb.block g (Array.getElem?_eq_some_iff.1 hg).1).trans hg, r⟩
theorem SlIn.belowZ {kk : Ex → Int} {g : Option Nat} {l : Sl} {lo hi : Nat} {w w' : World} {xs : List Value} (h : SlIn kk g l lo hi w xs) (hb : Below w.heap.size w w') : SlIn kk g l lo hi w' xs := h.keep (fun b _ _ _ _ _ _ hc => hb.block b (Array.getElem?_eq_some_iff.1 hc).1)
theorem RowIn.tagZ {w w' : World} {lo hi T sz n : Nat} {v : Value} {xs : List Value} (h : RowIn w lo hi T sz v n xs) (hk : ∀ (b : Nat) (cur : Array Value), w.heap[b]? = some (Obj.cells cur T (0, 0)) → w'.heap[b]? = w.heap[b]?) : RowIn w' lo hi T sz v n xs := by
  refine ⟨⟨h.1.1, ?_⟩, h.2⟩
  rcases h.1.2 with h2 | ⟨g, cap, cur, rfl, hbb, hg, r⟩
  · exact .inl h2
  · exact .inr ⟨g, cap, cur, rfl, hbb, (hk g cur hg).trans hg, r⟩

end Go.Proofs.YtidhiaaicmfabaaGreatDoor

/- Jumps are written ahead and landed (seat .ZD alone). -/
namespace Go.Proofs.YtidhiaaicmfabaaGreatDoor
open Go.RowKit Go.Proofs Go.Deep

theorem splice_two {α : Type} {L A C : List α} {x y p q : α} {n : Nat} (h : L.take n = A ++ x :: y :: C) (hn : n ≤ L.length) : (splice L A.length [p, q]).take n = A ++ p :: q :: C := by
  have hL : L = A ++ x :: y :: C ++ L.drop n := by rw [← h]; exact (List.take_append_drop n L).symm
  have hlen : n = (A ++ x :: y :: C).length := by rw [← h, List.length_take]; omega
  generalize L.drop n = T at hL
  subst hL
  have e1 : splice (A ++ x :: y :: C ++ T) A.length [p, q] = (A ++ p :: q :: C) ++ T := by
    unfold splice
    simp [List.drop_append]
  rw [e1, hlen, show (A ++ x :: y :: C).length = (A ++ p :: q :: C).length by simp]
  exact List.take_left' rfl
theorem splice_len {α : Type} {L cs : List α} {off : Nat} (h : off + cs.length ≤ L.length) : (splice L off cs).length = L.length := by unfold splice; simp only [List.length_append, List.length_take, List.length_drop]; omega
theorem step_copyZ {P : Program} {ops : Array Oper} {o : Oper} {a : Act} {w : World} {K : Act → World → Prop} {Q : Exit → Act → World → Prop} {E : Prop} (hgd : o.guard = none) (d s : Operand) (dT sT : TypeId)
    (ho : o.op = .call { callee := .builtin .copy, args := #[d, s], argTypes := #[dT, sT] }) (elem : TypeId) (hu : P.underlying dT = some (.slice elem)) (hsz : (P.info? elem).map (·.size) = some 1)
    (g off dLen dCap : Nat) (ad : Addr) (sLen sCap : Nat) (hd : a.eval d = .slice (some ⟨g, off, none⟩) dLen dCap) (hs : a.eval s = .slice (some ad) sLen sCap)
    (cur : List Value) (t : TypeId) (hg : w.heap[g]? = some (.cells cur.toArray t (0, 0))) (cs : List Value) (hn : cs.length = Nat.min sLen dLen)
    (hsrc : ∀ j v, cs[j]? = some v → w.cell? (ad.add j) = some v)
    (hfit : off + cs.length ≤ cur.length) (h1 : ∀ v ∈ cs, v.oneCell' = true)
    (h : ∀ w', w'.heap[g]? = some (.cells (splice cur off cs).toArray t (0, 0)) → (∀ b : Nat, b ≠ g → w'.heap[b]? = w.heap[b]?) → w'.os = w.os → w'.tape = w.tape → w'.output = w.output → w'.heap.size = w.heap.size → K (a.put o.dst (goInt cs.length)) w') :
    if Region.wanted o (yielded ops a.tmps) = true then Oper.wp P o a w K Q else E := by
  have hw : Region.wanted o (yielded ops a.tmps) = true := by simp [Region.wanted, hgd]
  rw [if_pos hw]
  have hrun := run_copy_row (P := P) w dT sT o.type elem g off dLen dCap ad sLen sCap cur.toArray t cs hu hsz hg hn hsrc (by simpa using hfit) h1
  unfold Oper.wp
  simp [execOp, ho, resolve, invoke, builtin, hd, hs, hrun, Result.andThen]
  exact h _ (by simpa [splice] using setRow_heap w g _ _ t _ hg) (fun b hb => setRow_other w g b _ hb) rfl rfl rfl (by simp [World.setRow])
theorem own_blk {w : World} {base e sz n : Nat} {v : Value} {xs : List Value} (h : w.ownsRow base e sz v n xs) {j : Nat} (hj : v.ownBlock = some j) : ∃ cur, w.heap[j]? = some (.cells cur e (0, 0)) := by
  rcases h.2 with ⟨e1, e2⟩ | ⟨g, cap, cur, e1, _, hg, _⟩
  · rw [e1] at hj; cases hj
  · rw [e1] at hj
    simp only [Value.ownBlock, Option.some.injEq] at hj
    subst hj
    exact ⟨cur, hg⟩
theorem twoLen (n : Nat) : (two n).length = 2 := rfl
theorem szU8 : (Tryz.prog.info? 5).map (·.size) = some 1 := by kernel_rfl
set_option maxRecDepth 100000 in
set_option maxHeartbeats 2000000 in
theorem ahead_ok {B bw bm : Nat} {fst : Nat → Int} {vs : List Vd} {bs : List Nat} {sp : Int} {kp : Bool} {cv : Value} {code : List Int} {w : World} (h : Wr B bw bm fst vs bs sp kp cv code w) (n : Int) (hc : code.length + 3 ≤ 1000000) (R : Ending → World → Prop)
    (fin : ∀ w' cv', Wr B bw bm fst vs bs sp kp cv' (code ++ [n, 0, 0]) w' → Fu bw cv cv' w w' → R (.returned (.int .i64 ((code.length + 1 : Nat) : Int))) w') : Calls Tryz.prog 318 #[.pointer (some ⟨bw, 0, none⟩), .int .u8 n] w R := by
  replace fin := hd fin
  have lb := h.row.lt
  go_enter Tryz.func318, Tryz.ntmps318
  go_wp2_with (fail)
  have hgg : (w.alloc (Obj.cells #[.int .u8 n, .int .u8 0, .int .u8 0] 5)).heap[w.heap.size]? = some (.cells (u8V [n, 0, 0]).toArray 5) := allocCells
  refine put_ok (h.alloc _) [n, 0, 0] w.heap.size 3 3 rfl hgg (by simp only [List.length_cons, List.length_nil]; omega) _ ?_
  intro w3 cv3 h3 hf3
  have hF3 := hd (Fu.pre ((Below.refl _ w).alloc (Nat.le_refl _) _) hf3)
  have hsl := own_slS h3.own
  obtain ⟨ao, cp, rfl⟩ := hsl
  have c1 : w3.cell? ⟨bw, 1, none⟩ = some (.slice ao (code ++ [n, 0, 0]).length cp) := h3.row.cell (i := 1) (by omega)
  rw [show (code ++ [n, 0, 0]).length = code.length + 3 by simp] at c1
  have lb3 := h3.row.lt
  have j0 : IntKind.i64.wrap (((code.length + 3 : Nat) : Int) - 2) = ((code.length + 1 : Nat) : Int) := by rw [IntWalk.i64_in _ (by omega)]; omega
  replace h3 := hd h3
  clear hf3 hgg
  go_wp2
  exact cl1 (fin.out _ _ h3.out hF3.out) (by show Value.int .i64 ((code.length + 1 : Nat) : Int) = Value.int .i64 ((code.length : Int) + 3 - 2); congr 1; omega)
set_option maxRecDepth 100000 in
theorem twoBytes_big (w : World) (n : Nat) (_hn : n ≤ 1000000) (R : Ending → World → Prop) (fin : R (.returned (.slice (some ⟨w.heap.size, 0, none⟩) 2 2)) (w.alloc (Obj.cells (u8V (two n)).toArray 5))) : Calls Tryz.prog 79 #[.int .i64 (n : Int)] w R := by
  replace fin := hd fin
  go_enter Tryz.func79, Tryz.ntmps79
  go_wp2
  have e : (u8V (two n)).toArray = #[.int .u8 ((n : Int) / 256 % 256), .int .u8 ((n : Int) % 256)] := by
    unfold u8V two
    simp only [List.map_cons, List.map_nil]
    have h1 : ((n / 256 % 256 : Nat) : Int) = (n : Int) / 256 % 256 := by omega
    have h2 : ((n % 256 : Nat) : Int) = (n : Int) % 256 := by omega
    rw [h1, h2]
  have := fin.out
  rw [e] at this
  exact cl1 this rfl
set_option maxRecDepth 100000 in
set_option maxHeartbeats 2000000 in
theorem land_ok {B bw bm : Nat} {fst : Nat → Int} {vs : List Vd} {bs : List Nat} {sp : Int} {kp : Bool} {cv : Value} {code : List Int} {w : World} (h : Wr B bw bm fst vs bs sp kp cv code w) (A C : List Int) (x y : Int) (hc : code = A ++ x :: y :: C) (hl : code.length ≤ 1000000) (R : Ending → World → Prop)
    (fin : ∀ w', Wr B bw bm fst vs bs sp kp cv (A ++ two code.length ++ C) w' → Fu bw cv cv w w' → R (.returned (.tuple #[])) w') : Calls Tryz.prog 306 #[.pointer (some ⟨bw, 0, none⟩), .int .i64 (A.length : Nat)] w R := by
  have hlen : code.length = A.length + 2 + C.length := by rw [hc]; simp; omega
  have c1 : w.cell? ⟨bw, 1, none⟩ = some cv := h.row.cell (i := 1) (by omega)
  have lb := h.row.lt
  obtain ⟨hol, hor⟩ := h.own
  rcases hor with ⟨_, e0⟩ | ⟨g, cap, cur, rfl, hBg, hg, hcap, hmax, hsz, htk⟩
  · omega
  have hgw : g < w.heap.size := (Array.getElem?_eq_some_iff.1 hg).1
  have hgb : g ≠ bw := by have := h.lt; omega
  have hcl : cur.toList.length = cap := by simpa using hsz
  obtain ⟨cl, hcle⟩ : ∃ cl, cl = cur.toList := ⟨_, rfl⟩
  have hcur : cur = cl.toArray := by rw [hcle]
  rw [← hcle] at hcl htk
  rw [hcur] at hg
  rw [Nat.mul_one] at htk
  have hN2 : A.length + 2 ≤ code.length := by omega
  have hNc : code.length ≤ cap := by omega
  have hspl : (splice cl A.length (u8V (two code.length))).take code.length = u8V (A ++ two code.length ++ C) := by
    have e1 : u8V (two code.length) = [.int .u8 ((code.length / 256 % 256 : Nat) : Int), .int .u8 ((code.length % 256 : Nat) : Int)] := rfl
    have e2 : A.length = (u8V A).length := by unfold u8V; simp
    have htk2 : cl.take code.length = u8V A ++ .int .u8 x :: .int .u8 y :: u8V C := by
      rw [htk]
      conv => lhs; rw [hc]
      unfold u8V
      simp
    rw [e1, e2, splice_two htk2 (by omega)]
    unfold u8V two
    simp
  have hlen2 : (A ++ two code.length ++ C).length = code.length := by simp only [List.length_append, twoLen]; omega
  have hsrc : ∀ n j v, (u8V (two code.length))[j]? = some v → (((w.drewN n).alloc (Obj.cells (u8V (two code.length)).toArray 5))).cell? ((⟨w.heap.size, 0, none⟩ : Addr).add j) = some v := fun n => news_atZ (allocCells (w := w.drewN n))
  have ho1 := oneU8 (two code.length)
  have hll : (u8V (two code.length)).length = 2 := rfl
  generalize hTB : u8V (two code.length) = TB at *
  generalize hNN : code.length = N at *
  generalize hAA : A.length = a at *
  have t1 : (a : Int) ≤ (N : Int) := by omega
  have t2 : ¬ cap = a := by omega
  have t3 : (0 : Int) ≤ (a : Int) := by omega
  have hfit : a + TB.length ≤ cl.length := by omega
  have hmin : TB.length = Nat.min 2 (N - a) := by rw [hll]; simp only [Nat.min_def]; split <;> omega
  replace fin := hd fin
  replace h := hd h
  replace hg := hd hg
  replace hsrc := hd hsrc
  replace hspl := hd hspl
  replace hc := hd hc
  replace hlen2 := hd hlen2
  replace hfit := hd hfit
  replace hmin := hd hmin
  replace ho1 := hd ho1
  replace hcl := hd hcl
  clear hsz hol htk hlen hN2 hNc hll hcle hcur
  replace hTB := hd hTB
  replace hNN := hd hNN
  replace hAA := hd hAA
  go_enter Tryz.func306, Tryz.ntmps306
  go_wp2_with (fail)
  go_region_law
    (first
      | (go_simp; go_at_call 79; refine twoBytes_big _ N (by omega) _ ?_; rw [hTB.out]; go_simp)
      | (refine step_copyZ (by rfl) _ _ 133 133 (by rfl) 5 ulBytes szU8 g a (N - a) (cap - a) ⟨w.heap.size, 0, none⟩ 2 2 (by rfl) (by rfl) cl 5 (by exact (Below.heap_alloc _ _ _ hgw).trans hg.out) TB hmin.out (by exact hsrc.out 1) hfit.out ho1.out ?_; intro w4 hg4 hb4 o4 t4 u4 s4; replace hg4 := hd hg4; replace hb4 := hd hb4; replace s4 := hd s4))
  all_goals
    go_wp2
    go_end0
    have hkb : ∀ b : Nat, b < w.heap.size → b ≠ g → w4.heap[b]? = w.heap[b]? := fun b hb hne => (hb4.out b hne).trans (Below.heap_alloc _ _ _ hb)
    have hsz4 : w.heap.size ≤ w4.heap.size := by rw [s4.out]; simp
    have hF : Fu bw (.slice (some ⟨g, 0, none⟩) N cap) (.slice (some ⟨g, 0, none⟩) N cap) w w4 := ⟨o4, t4, u4, hsz4, fun b hb _ hne => hkb b hb (fun e => hne (by rw [e]; rfl)), .inl rfl⟩
    refine fin.out _ ⟨h.out.row.of_block (hkb bw lb (Ne.symm hgb)), ?_, h.out.lt, Nat.le_trans h.out.le hsz4, h.out.nm' hF, h.out.vars' hF, h.out.names, by rw [hlen2.out]; exact hl⟩ hF
    rw [hlen2.out]
    refine ⟨by unfold u8V; rw [List.length_map, hlen2.out, Nat.mul_one], .inr ⟨g, cap, _, rfl, hBg, hg4.out, hcap, hmax, ?_, ?_⟩⟩
    · have := splice_len (hfit.out)
      simp only [List.size_toArray]
      rw [this, hcl.out, Nat.mul_one]
    · rw [Nat.mul_one]
      exact hspl.out
theorem land_at {B bw bm : Nat} {fst : Nat → Int} {vs : List Vd} {bs : List Nat} {sp : Int} {kp : Bool} {cv : Value} {code : List Int} {w : World} (h : Wr B bw bm fst vs bs sp kp cv code w) (n : Nat) (A C : List Int) (x y : Int) (hc : code = A ++ x :: y :: C) (hn : A.length = n) (hl : code.length ≤ 1000000) (R : Ending → World → Prop)
    (fin : ∀ w', Wr B bw bm fst vs bs sp kp cv (A ++ two code.length ++ C) w' → Fu bw cv cv w w' → R (.returned (.tuple #[])) w') : Calls Tryz.prog 306 #[.pointer (some ⟨bw, 0, none⟩), .int .i64 (n : Int)] w R := by
  subst hn
  exact land_ok h A C x y hc hl R fin

end Go.Proofs.YtidhiaaicmfabaaGreatDoor

/- The numbers and the body behind WHEN are read (seat .ZD alone). -/
namespace Go.Proofs.YtidhiaaicmfabaaGreatDoor
open Go.RowKit Go.Proofs Go.Deep

theorem ulI64s : Tryz.prog.underlying 315 = some (.slice 2) := by kernel_rfl
theorem infoI64s : (Tryz.prog.info? 2).map (fun i => (i.zero, i.size, i.bytes)) = some (some (.int .i64 0), 1, 8) := by kernel_rfl
theorem oneI (m : Int) : ∀ x ∈ [Value.int .i64 m], x.oneCell' = true := by
  intro x hx; simp only [List.mem_cons, List.not_mem_nil, or_false] at hx; subst hx; rfl
theorem litsW_app : ∀ a b : List Int, litsW (a ++ b) = litsW a ++ litsW b
  | [], _ => rfl
  | n :: r, b => by simp only [List.cons_append, litsW, litsW_app r b, List.append_assoc]
theorem litsW_len : ∀ a : List Int, a.length ≤ (litsW a).length
  | [] => Nat.le_refl _
  | n :: r => by have := litsW_len r; simp only [litsW, List.length_cons, List.length_append]; omega
/-- Where the reader stands in the numbers behind WHEN. -/
structure WhenL (B bp : Nat) (pv : Value) (L : List ByteArray) (d : Int) (n : Int) (r : List Int) (k : Nat) (us : List ByteArray) (uv : Value) (w : World) (z : Nat) (wr : World) (rest : List Int) : Prop where
  ex : ∃ done ao cp, r = done ++ rest ∧ Ps B bp pv L (k + (litW n).length + (litsW done).length) d us uv wr ∧ wr.ownsRow w.heap.size 2 1 (.slice ao (done.length + 1) cp) (done.length + 1) (litV (n :: done)) ∧ wr.heap[z]? = some (.cells #[.slice ao (done.length + 1) cp, .slice none 0 0] 317)
  fu : Fu bp uv uv w wr
  res : wr.heap[w.heap.size]? = some (.cells #[.slice none 0 0, .slice none 0 0] 317)
set_option maxRecDepth 100000 in
set_option maxHeartbeats 4000000 in
theorem when_ok {n : Int} {r : List Int} {b : Sl} (hns : ∀ m ∈ n :: r, -9223372036854775808 ≤ m ∧ m ≤ 9223372036854775807) (hbd : AllOk b) {w : World} {B bp : Nat} {pv : Value} {L : List ByteArray} {k : Nat} {d : Int} {us : List ByteArray} {uv : Value} (h : Ps B bp pv L k d us uv w) (ht : TokAt L k (litW n ++ (litsW r ++ wCO :: toksL b))) (hst : StopW (nextS L (k + (litW n ++ (litsW r ++ wCO :: toksL b)).length))) (hd0 : 0 ≤ d) (hd1 : d + depL b ≤ 10)
    (R : Ending → World → Prop) (fin : ∀ w' vn vb zs uv' m, Ps B bp pv L (k + (litW n ++ (litsW r ++ wCO :: toksL b)).length) d (us ++ namesL b) uv' w' → Fu bp uv uv' w w' → w.heap.size ≤ m → m ≤ w'.heap.size → RowIn w' w.heap.size m 2 1 vn (r.length + 1) (litV (n :: r)) → RowIn w' m w'.heap.size 240 1 vb b.len zs → SlIn (fun _ => 0) vb.ownBlock b m w'.heap.size w' zs → R (.returned (.agg #[vn, vb])) w') :
    Calls Tryz.prog 237 #[.pointer (some ⟨bp, 0, none⟩)] w R := by
  have tN := ht.left
  have tR := ht.right
  have hw0 := h.pa.row.lt
  have hB0 := h.le
  have hn := hns n (List.mem_cons_self ..)
  have hne0 : bp ≠ w.heap.size := by omega
  replace fin := hd fin
  go_enter Tryz.func237, Tryz.ntmps237
  go_wp2_with (fail)
  refine literal_ok (h.alloc _) n hn (by exact tN) _ ?_
  intro w1 h1 g1
  have hr1 := (h.alloc _).apart allocCells (by decide) hne0 g1
  have hz1 := g1.size
  rw [World.size_alloc] at hz1
  have hf1 : Fu bp uv uv w w1 := (Fu.of_below ((Below.refl _ w).alloc (Nat.le_refl _) _)).trans g1
  have hlt1 := h1.pa.row.lt
  clear g1
  obtain ⟨W2, hW2⟩ : ∃ W2, W2 = (w1.alloc (Obj.cells #[.int .i64 n] 2)).alloc (Obj.cells #[.slice (some ⟨w1.heap.size, 0, none⟩) 1 1, .slice none 0 0] 317) := ⟨_, rfl⟩
  have hb2 : Below w1.heap.size w1 W2 := by rw [hW2]; exact ((Below.refl _ w1).alloc (Nat.le_refl _) _).alloc (by simp) _
  have hzb2 : W2.heap[w1.heap.size + 1]? = some (.cells #[.slice (some ⟨w1.heap.size, 0, none⟩) 1 1, .slice none 0 0] 317) := by
    have := allocCells (w := w1.alloc (Obj.cells #[.int .i64 n] 2)) (cur := #[.slice (some ⟨w1.heap.size, 0, none⟩) 1 1, .slice none 0 0]) (T := 317) (fz := (0, 0))
    rw [World.size_alloc] at this
    rw [hW2]
    exact this
  have hnb2 : W2.heap[w1.heap.size]? = some (.cells #[.int .i64 n] 2) := by
    rw [hW2]
    exact (Below.heap_alloc _ _ _ (by simp)).trans allocCells
  have hstart : WhenL B bp pv L d n r k us uv w (w1.heap.size + 1) W2 r := by
    refine ⟨⟨[], some ⟨w1.heap.size, 0, none⟩, 1, rfl, by rw [hW2]; exact (h1.alloc _).alloc _, ⟨rfl, .inr ⟨w1.heap.size, 1, _, rfl, by omega, hnb2, Nat.le_refl _, by decide, rfl, rfl⟩⟩, hzb2⟩, hf1.trans (Fu.of_below hb2), (hb2.block _ (by omega)).trans hr1⟩
  have hzw : w.heap.size < w1.heap.size + 1 := by omega
  replace hstart := hd hstart
  clear hzb2 hnb2 hb2 hr1 h1 hf1
  go_wp2
  rw [← hW2]
  generalize hzq : w1.heap.size + 1 = z at *
  clear hW2 hzq
  go_loopg [9] r.length (fun gk _ wr => ∃ rest, gk = rest.length ∧ WhenL B bp pv L d n r k us uv w z wr rest)
  case atStart => exact ⟨r, rfl, hstart.out⟩
  case round =>
    obtain ⟨rest, hgk, ⟨done, ao, cp, hrd, hps, hown, hzb⟩, hfu, hres⟩ := hrel
    clear hstart
    have hszr := hfu.size
    have hlt := hps.pa.row.lt
    have hle := hps.le
    have hnez : bp ≠ z := by omega
    have hzlt := (Array.getElem?_eq_some_iff.1 hzb).1
    cases rest with
    | nil =>
      rw [List.append_nil] at hrd
      subst hrd
      have tCO := tR.right.head
      have tB := tR.right.tail
      replace hfu := hd hfu
      have hrow := hd (show RowIn wr w.heap.size wr.heap.size 2 1 (.slice ao (r.length + 1) cp) (r.length + 1) (litV (n :: r)) from ⟨hown, fun g hg => (hown.lt g hg).2⟩)
      clear hown
      go_wp2_with (fail)
      refine pNot (s := wCM) hps (by rw [tCO]; kernel_rfl) _ ?_
      intro w2 h2 g2
      have hb2 := hps.apart hzb (by decide) hnez g2
      have hs2 := hps.apart hres (by decide) hne0 g2
      have hr2 := hd (g2.rowIn hps hrow.out (by decide) (by omega))
      have f2 := hd (hfu.out.trans g2)
      have hz2 := g2.size
      clear g2 hrow
      go_wp2_with (fail)
      refine pExp (s := wCO) h2 tCO (by decide) _ ?_
      intro w3 h3 g3
      have hb3 := h2.apart hb2 (by decide) hnez g3
      have hs3 := h2.apart hs2 (by decide) hne0 g3
      have hr3 := hd ((g3.rowIn h2 hr2.out (by decide) (by omega)).wide (Nat.le_refl _) (by have := g3.size; omega : wr.heap.size ≤ w3.heap.size))
      have f3 := hd (f2.out.trans g3)
      have hz3 := g3.size
      clear g3 hr2 f2 hb2 hs2
      go_wp2_with (fail)
      refine stmts_ok hbd h3 (by exact tB) (by
        have := hst
        simp only [List.length_append, List.length_cons] at this
        rw [show k + (litW n).length + (litsW r).length + 1 + (toksL b).length = k + ((litW n).length + ((litsW r).length + ((toksL b).length + 1))) by omega]
        exact this) (by omega) (by omega) _ ?_
      intro w4 v zs uv4 h4 g4 hrs4 hsl4
      obtain ⟨ab, cb, rfl⟩ := own_slS hrs4.1
      have hb4 := h3.apart hb3 (by decide) hnez g4
      have hs4 := h3.apart hs3 (by decide) hne0 g4
      have hr4 := hd (g4.rowIn h3 hr3.out (by decide) (by omega))
      have f4 := hd (f3.out.trans g4)
      have hz4 := g4.size
      have a1 := cellOf (i := 1) hb4 rfl
      have fz1 := frozOf (i := 1) hb4
      have hzs : z ≠ w.heap.size := by omega
      have hb5 := heapSet (i := 1) hb4 (.slice ab b.len cb)
      have a50 : (w4.setCell ⟨z, 1, none⟩ (.slice ab b.len cb)).cell? ⟨z, 0, none⟩ = some (.slice ao (r.length + 1) cp) := cellOf (i := 0) hb5 rfl
      have a51 : (w4.setCell ⟨z, 1, none⟩ (.slice ab b.len cb)).cell? ⟨z, 1, none⟩ = some (.slice ab b.len cb) := cellOf (i := 1) hb5 rfl
      have hs5 : (w4.setCell ⟨z, 1, none⟩ (.slice ab b.len cb)).heap[w.heap.size]? = some (.cells #[.slice none 0 0, .slice none 0 0] 317) := (Below.heap_setCell _ _ _ _ (Ne.symm hzs)).trans hs4
      have s0 := cellOf (i := 0) hs5 rfl
      have s1 := cellOf (i := 1) hs5 rfl
      have sf0 := frozOf (i := 0) hs5
      have sf1 := frozOf (i := 1) hs5
      have h5 := hd (h4.setNew hb4 (by decide) (by omega) 1 (.slice ab b.len cb))
      have f5 := hd (f4.out.setNew (show w.heap.size ≤ z by omega) 1 (.slice ab b.len cb))
      replace hrs4 := hd hrs4
      replace hsl4 := hd hsl4
      replace hb5 := hd hb5
      replace hs5 := hd hs5
      replace h4 := hd h4
      clear g4 hr3 f3 hb3 hs3 f4
      go_wp2
      obtain ⟨W6, hW6⟩ : ∃ W6, W6 = (((w4.setCell ⟨z, 1, none⟩ (.slice ab b.len cb)).setCell ⟨w.heap.size, 0, none⟩ (.slice ao (r.length + 1) cp)).setCell ⟨w.heap.size, 1, none⟩ (.slice ab b.len cb)) := ⟨_, rfl⟩
      have hb6 : W6.heap[w.heap.size]? = some (.cells #[.slice ao (r.length + 1) cp, .slice ab b.len cb] 317) := by
        rw [hW6]
        exact heapSet (i := 1) (heapSet (i := 0) hs5.out (.slice ao (r.length + 1) cp)) (.slice ab b.len cb)
      have r0 : W6.cell? ⟨w.heap.size, 0, none⟩ = some (.slice ao (r.length + 1) cp) := cellOf (i := 0) hb6 rfl
      have r1 : W6.cell? ⟨w.heap.size, 1, none⟩ = some (.slice ab b.len cb) := cellOf (i := 1) hb6 rfl
      have h6 : Ps B bp pv L (k + (litW n).length + (litsW r).length + 1 + (toksL b).length) d (us ++ namesL b) uv4 W6 := by
        rw [hW6]
        exact (h5.out.setNew hs5.out (by decide) (by omega) 0 _).setNew (heapSet (i := 0) hs5.out _) (by decide) (by omega) 1 _
      have f6 : Fu bp uv uv4 w W6 := by
        rw [hW6]
        exact (f5.out.setNew (Nat.le_refl _) 0 _).setNew (Nat.le_refl _) 1 _
      have hsz6 : W6.heap.size = w4.heap.size := by rw [hW6]; simp only [World.size_setCell]
      have hk6 : ∀ lo hi g, z < lo → Samz w4 W6 lo hi g := fun lo hi g hl b cur T _ h1 h2 _ _ => by
        rw [hW6, Below.heap_setCell _ _ _ _ (show b ≠ w.heap.size by omega), Below.heap_setCell _ _ _ _ (show b ≠ w.heap.size by omega), Below.heap_setCell _ _ _ _ (show b ≠ z by omega)]
      have hr6 : RowIn W6 w.heap.size w3.heap.size 2 1 (.slice ao (r.length + 1) cp) (r.length + 1) (litV (n :: r)) := hr4.out.tagZ (fun b cur hc => by
        have hbz : b ≠ z := fun e => by subst e; rw [hb4] at hc; injection hc with hc; injection hc with _ hc; exact absurd hc (by decide)
        have hbw : b ≠ w.heap.size := fun e => by subst e; rw [hs4] at hc; injection hc with hc; injection hc with _ hc; exact absurd hc (by decide)
        rw [hW6, Below.heap_setCell _ _ _ _ hbw, Below.heap_setCell _ _ _ _ hbw, Below.heap_setCell _ _ _ _ hbz])
      rw [← hW6]
      refine bodyPost_ret (v := .agg #[.slice ao (r.length + 1) cp, .slice ab b.len cb]) (by simp [results, Tryz.results237, go_sem, r0, r1]) rfl ?_
      refine fin.out _ _ _ zs uv4 w3.heap.size ?_ f6 (by omega) (by omega) hr6 ?_ ?_
      · simp only [List.length_append, List.length_cons]
        rw [show k + ((litW n).length + ((litsW r).length + ((toksL b).length + 1))) = k + (litW n).length + (litsW r).length + 1 + (toksL b).length by omega]
        exact h6
      · rw [hsz6]
        exact hrs4.out.keep (by decide) (hk6 _ _ _ (by omega))
      · rw [hsz6]
        exact hsl4.out.keep (hk6 _ _ _ (by omega))
    | cons m rest2 =>
      have tAll : TokAt L (k + (litW n).length + (litsW done).length) (litsW (m :: rest2) ++ wCO :: toksL b) := by
        have := tR
        rw [hrd, litsW_app, List.append_assoc] at this
        exact this.right
      have tCM : nextS L (k + (litW n).length + (litsW done).length) = wCM := tAll.left.head
      have tM : TokAt L (k + (litW n).length + (litsW done).length + 1) (litW m) := tAll.left.tail.left
      have hm := hns m (by rw [hrd]; simp)
      have hlen : done.length ≤ 1000000 := by
        have h1 := hps.pa.le
        have h2 := hps.pa.sm
        have h3 := litsW_len done
        omega
      replace hfu := hd hfu
      replace hown := hd hown
      go_wp2_with (fail)
      refine pAcc (s := wCM) hps tCM (by decide) _ ?_
      intro w2 h2 g2
      have hb2 := hps.apart hzb (by decide) hnez g2
      have hs2 := hd (hps.apart hres (by decide) hne0 g2)
      have ho2 : w2.ownsRow w.heap.size 2 1 (.slice ao (done.length + 1) cp) (done.length + 1) (litV (n :: done)) := own_keep hown.out (fun j hj _ _ => by
        obtain ⟨cur, hcur⟩ := own_blk hown.out hj
        exact (hps.apart hcur (by decide) (by have := (hown.out.lt j hj).1; omega) g2).trans hcur.symm)
      have f2 := hd (hfu.out.trans g2)
      have hz2 := g2.size
      have a0 := cellOf (i := 0) hb2 rfl
      have fz0 := frozOf (i := 0) hb2
      replace hb2 := hd hb2
      replace ho2 := hd ho2
      have hnbz : (Value.slice ao (done.length + 1) cp).ownBlock ≠ some z := fun e => by
        obtain ⟨cur, hcur⟩ := own_blk ho2.out e
        rw [hb2.out] at hcur
        injection hcur with hcur
        injection hcur with _ hcur
        exact absurd hcur (by decide)
      replace hnbz := hd hnbz
      have hPD := hd (h2.bel (below_drewN (Below.refl _ w2) 1))
      have hnb1 : some z ≠ (Value.slice ao (done.length + 1) cp).ownBlock := fun e => hnbz.out e.symm
      replace hnb1 := hd hnb1
      clear g2 hown hfu hzb
      have hzl2 : z < w2.heap.size := by omega
      have hk5 : ∀ w5, Fu bp uv uv (w2.drewN 1) w5 → w5.heap[z]? = some (.cells #[.slice ao (done.length + 1) cp, .slice none 0 0] 317) ∧ w5.ownsRow w.heap.size 2 1 (.slice ao (done.length + 1) cp) (done.length + 1) (litV (n :: done)) := fun w5 g5 =>
        ⟨hPD.out.apart (w' := w5) hb2.out (by decide) hnez g5, own_keep (w := w2.drewN 1) ho2.out (fun j hj _ _ => by
          obtain ⟨cur, hcur⟩ := own_blk ho2.out hj
          exact (hPD.out.apart (w' := w5) hcur (by decide) (by have := (ho2.out.lt j hj).1; omega) g5).trans hcur.symm)⟩
      replace hk5 := hd hk5
      go_wp2_with (fail)
      go_region_law
        (first
          | (go_simp; go_at_call 239; refine literal_ok hPD.out m hm (by exact tM) _ ?_; intro w5 h5 g5; have c50 : w5.cell? ⟨z, 0, none⟩ = some (.slice ao (done.length + 1) cp) := cellOf (i := 0) (hk5.out _ g5).1 rfl; have fz5 : w5.frozen? ⟨z, 0, none⟩ = false := frozOf (i := 0) (hk5.out _ g5).1; have hz5 : z < w5.heap.size := Nat.lt_of_lt_of_le hzl2 g5.size; have c5a : (w5.alloc (Obj.cells #[.int .i64 m] 2)).heap[z]? = some (.cells #[.slice ao (done.length + 1) cp, .slice none 0 0] 317) := (Below.heap_alloc _ _ _ hz5).trans (hk5.out _ g5).1; replace c5a := hd c5a; replace g5 := hd g5; replace h5 := hd h5; go_simp)
          | (refine step_appL (by rfl) _ _ 315 (by rfl) w.heap.size 2 _ 1 8 ulI64s infoI64s rfl (by omega) _ (done.length + 1) (litV (n :: done)) (by rfl) (by exact (hk5.out _ g5.out).2.alloc _) w5.heap.size 1 1 [.int .i64 m] (by rfl) (by exact allocCells) rfl (oneI m) (by omega) (by unfold maxLen; omega) (by omega) (by simp; omega) ?_; intro g1 cap1 w6 hown6 hgr6 hat6; have cx : w6.cell? ⟨z, 0, none⟩ = some (.slice ao (done.length + 1) cp) := farZ hgr6 (cellOf (i := 0) c5a.out rfl) hnb1.out; have fx : w6.frozen? ⟨z, 0, none⟩ = false := frzZ hgr6 (frozOf (i := 0) c5a.out) (by simp; omega) hnb1.out; replace hown6 := hd hown6; replace hgr6 := hd hgr6; replace hat6 := hd hat6))
      all_goals
        have hk6 : ∀ j, j < w5.heap.size → (Value.slice ao (done.length + 1) cp).ownBlock ≠ some j → w6.heap[j]? = w5.heap[j]? := fun j hj hne => (hgr6.out.block j (by simp; omega) (fun e => hne e.symm)).trans (Below.heap_alloc _ _ _ hj)
        have hz6 : w5.heap.size + 1 ≤ w6.heap.size := by have := hgr6.out.size; simp at this; omega
        have h6 := h5.out.grow (w' := w6) (hk5.out _ g5.out).2 (by decide) (by omega) (by omega) hk6
        have f6 : Fu bp uv uv w w6 := (f2.out.trans (Fu.pre (below_drewN (Below.refl _ w2) 1) g5.out)).grow (w' := w6) (lv := Value.slice ao (done.length + 1) cp) hgr6.out.os hgr6.out.tape hgr6.out.output (by omega) hk6 (fun b hb => ((hk5.out _ g5.out).2.lt b hb).1)
        have hb6 : w6.heap[z]? = some (.cells #[.slice ao (done.length + 1) cp, .slice none 0 0] 317) := (hk6 z hz5 hnbz.out).trans (hk5.out _ g5.out).1
        have hs5 : w5.heap[w.heap.size]? = some (.cells #[.slice none 0 0, .slice none 0 0] 317) := hPD.out.apart (w' := w5) hs2.out (by decide) hne0 g5.out
        have hs6 : w6.heap[w.heap.size]? = some (.cells #[.slice none 0 0, .slice none 0 0] 317) := (hk6 _ (by omega) (fun e => by
          obtain ⟨cur, hcur⟩ := own_blk (hk5.out _ g5.out).2 e
          rw [hs5] at hcur
          injection hcur with hcur
          injection hcur with _ hcur
          exact absurd hcur (by decide))).trans hs5
        have hne : WhenL B bp pv L d n r k us uv w z (w6.setCell ⟨z, 0, none⟩ (.slice (some ⟨g1, 0, none⟩) (done.length + 1 + 1) cap1)) rest2 := by
          refine ⟨⟨done ++ [m], some ⟨g1, 0, none⟩, cap1, ?_, ?_, ?_, ?_⟩, f6.setNew (by omega) 0 _, ?_⟩
          · rw [hrd, List.append_assoc]; rfl
          · have := h6.setNew hb6 (by decide) (by omega) 0 (.slice (some ⟨g1, 0, none⟩) (done.length + 1 + 1) cap1)
            rw [litsW_app]
            simp only [litsW, List.append_nil, List.length_append, List.length_cons]
            rw [show k + (litW n).length + ((litsW done).length + ((litW m).length + 1)) = k + (litW n).length + (litsW done).length + 1 + (litW m).length by omega]
            exact this
          · have hg1 : g1 ≠ z := fun e => by
              obtain ⟨cur, hcur⟩ := own_blk hown6.out (j := g1) rfl
              rw [e, hb6] at hcur
              injection hcur with hcur
              injection hcur with _ hcur
              exact absurd hcur (by decide)
            have ho := own_keep (w' := w6.setCell ⟨z, 0, none⟩ (.slice (some ⟨g1, 0, none⟩) (done.length + 1 + 1) cap1)) hown6.out (fun j hj _ _ => Below.heap_setCell _ _ _ _ (by
              simp only [Value.ownBlock, Option.some.injEq] at hj
              show j ≠ z
              omega))
            rw [List.length_append, List.length_cons, List.length_nil, ← List.cons_append]
            unfold litV at ho ⊢
            rw [List.map_append]
            exact ho
          · have := heapSet (i := 0) hb6 (.slice (some ⟨g1, 0, none⟩) (done.length + 1 + 1) cap1)
            rw [List.length_append]
            exact this
          · exact (Below.heap_setCell _ _ _ _ (show w.heap.size ≠ z by omega)).trans hs6
        replace hne := hd hne
        clear h6 f6 hb6 hs5 hs6 hk6 hown6 hgr6 hat6 cx fx c50 fz5
        go_wp2
        go_roundg (gk - 1)
        case measure => rw [hgk]; simp only [List.length_cons]; omega
        case rel => exact ⟨rest2, by rw [hgk]; simp only [List.length_cons]; omega, hne.out⟩

end Go.Proofs.YtidhiaaicmfabaaGreatDoor

/- Right statements, where FORs turn the checker (seat .ZD alone). -/
namespace Go.Proofs.YtidhiaaicmfabaaGreatDoor
open Go.RowKit Go.Proofs Go.Deep

/-- In memory nothing has turned but the checker, the row of its FORs, and pairs in the blocks from lo to hi. -/
structure Kc (bc lo hi : Nat) (u u' : Value) (w w' : World) : Prop where
  os : w'.os = w.os
  tape : w'.tape = w.tape
  output : w'.output = w.output
  size : w.heap.size ≤ w'.heap.size
  block : ∀ b, b < w.heap.size → b ≠ bc → u.ownBlock ≠ some b → (∀ cur, w.heap[b]? = some (.cells cur 351 (0, 0)) → b < lo ∨ hi ≤ b) → w'.heap[b]? = w.heap[b]?
  own : u'.ownBlock = u.ownBlock ∨ ∃ k, u'.ownBlock = some k ∧ w.heap.size ≤ k
section
variable {bc lo hi : Nat} {u u' u'' : Value} {w w' w'' : World}
theorem Kc.of_kf (h : Kf lo hi w w') : Kc bc lo hi u u w w' := ⟨h.os, h.tape, h.output, h.size, fun b hb _ _ hp => h.block b hb hp, .inl rfl⟩
theorem Kc.refl (bc lo hi : Nat) (u : Value) (w : World) : Kc bc lo hi u u w w := Kc.of_kf (Kf.refl _ _ _)
theorem Kc.notold (h : Kc bc lo hi u u' w w') {k : Nat} (hk : k < w.heap.size) (hu : u.ownBlock ≠ some k) : u'.ownBlock ≠ some k := by
  rcases h.own with e | ⟨x, e, hx⟩
  · rw [e]; exact hu
  · rw [e]; intro e2; injection e2 with e2; omega
theorem Kc.trans (h : Kc bc lo hi u u' w w') (k : Kc bc lo hi u' u'' w' w'') : Kc bc lo hi u u'' w w'' := by
  refine ⟨k.os.trans h.os, k.tape.trans h.tape, k.output.trans h.output, Nat.le_trans h.size k.size, fun b hb h1 h2 h3 => ?_, ?_⟩
  · have e := h.block b hb h1 h2 h3
    exact (k.block b (Nat.lt_of_lt_of_le hb h.size) h1 (h.notold hb h2) (fun cur hc => h3 cur (e.symm.trans hc))).trans e
  · rcases k.own with e | ⟨x, e, hx⟩
    · rw [e]; exact h.own
    · exact .inr ⟨x, e, Nat.le_trans h.size hx⟩
theorem Kc.wide {lo' hi' : Nat} (h : Kc bc lo hi u u' w w') (h1 : lo' ≤ lo) (h2 : hi ≤ hi') : Kc bc lo' hi' u u' w w' := ⟨h.os, h.tape, h.output, h.size, fun b hb a1 a2 hp => h.block b hb a1 a2 (fun cur hc => by have := hp cur hc; omega), h.own⟩
end
theorem Env.own_str {bc bm : Nat} {fst : Nat → Int} {vs : List Vd} {bs : List Nat} {lv : Value} {ls : List ByteArray} {w : World} (h : Env bc bm fst vs bs lv ls w) {b : Nat} (hb : lv.ownBlock = some b) : ∃ cur, w.heap[b]? = some (.cells cur 9 (0, 0)) := by
  rcases h.loops.2 with ⟨e1, _⟩ | ⟨g, cap, cur, e1, _, hg, _⟩
  · rw [e1] at hb; cases hb
  · rw [e1] at hb
    simp only [Value.ownBlock, Option.some.injEq] at hb
    subst hb
    exact ⟨cur, hg⟩
theorem Env.not_own {bc bm : Nat} {fst : Nat → Int} {vs : List Vd} {bs : List Nat} {lv : Value} {ls : List ByteArray} {w : World} (h : Env bc bm fst vs bs lv ls w) {b T : Nat} {cur : Array Value} {fz : Nat × Nat} (hb : w.heap[b]? = some (.cells cur T fz)) (hT : T ≠ 9) : lv.ownBlock ≠ some b := fun e => by
  obtain ⟨cur2, h2⟩ := h.own_str e
  rw [hb] at h2
  injection h2 with h2
  injection h2 with _ h2
  exact hT h2
theorem Env.not_ck {bc bm : Nat} {fst : Nat → Int} {vs : List Vd} {bs : List Nat} {lv : Value} {ls : List ByteArray} {w : World} (h : Env bc bm fst vs bs lv ls w) {b T : Nat} {cur : Array Value} {fz : Nat × Nat} (hb : w.heap[b]? = some (.cells cur T fz)) (hT : T ≠ 149) : b ≠ bc := fun e => by
  subst e
  obtain ⟨cur2, h2, _⟩ := h.ck
  rw [hb] at h2
  injection h2 with h2
  injection h2 with _ h2
  exact hT h2
theorem Kc.tag {bc bm lo hi : Nat} {fst : Nat → Int} {vs : List Vd} {bs : List Nat} {lv lv' : Value} {ls : List ByteArray} {w w' : World} (k : Kc bc lo hi lv lv' w w') (h : Env bc bm fst vs bs lv ls w) {b T : Nat} {cur : Array Value} {fz : Nat × Nat} (hb : w.heap[b]? = some (.cells cur T fz)) (h1 : T ≠ 149) (h2 : T ≠ 9) (h3 : T ≠ 351) : w'.heap[b]? = w.heap[b]? :=
  k.block b (Array.getElem?_eq_some_iff.1 hb).1 (h.not_ck hb h1) (h.not_own hb h2) (fun cur2 hc => by
    rw [hb] at hc
    injection hc with hc
    injection hc with _ hc
    exact absurd hc h3)
/-- What lies in other blocks ahead of the checker stays. -/
theorem Kc.same {bc bm lo hi : Nat} {fst : Nat → Int} {vs : List Vd} {bs : List Nat} {lv lv' : Value} {ls : List ByteArray} {w w' : World} (k : Kc bc lo hi lv lv' w w') (h : Env bc bm fst vs bs lv ls w) {lo2 hi2 : Nat} {g : Option Nat} (hd : hi ≤ lo2 ∨ hi2 ≤ lo) (hb : hi2 ≤ bc) : Samz w w' lo2 hi2 g :=
  fun b cur T hT h1 h2 _ hc => k.block b (Array.getElem?_eq_some_iff.1 hc).1 (by omega) (h.not_own hc hT) (fun _ _ => by omega)
/-- The checker finds a statement right; the row of its FORs may lie elsewhere then. -/
def CheckOkL (vs : List Vd) (ls : List ByteArray) (s : Stz) : Prop := ∀ {bc bm lo hi t : Nat} {fst : Nat → Int} {bs : List Nat} {lv u : Value} {w : World}, hi ≤ bc → Env bc bm fst vs bs lv ls w → StIn (fun _ => 0) s lo hi w (.iface t u) →
    ∀ (R : Ending → World → Prop), (∀ w' lv', Env bc bm fst vs bs lv' ls w' → Kc bc lo hi lv lv' w w' → StIn (kE vs) s lo hi w' (.iface t u) → R (.returned (.tuple #[])) w') → Calls Tryz.prog (sfn s) #[u, .pointer (some ⟨bc, 0, none⟩)] w R
theorem CheckOk.toL {vs : List Vd} {ls : List ByteArray} {s : Stz} (h : CheckOk vs ls s) : CheckOkL vs ls s := fun _ h1 h2 R fin => h h1 h2 R (fun w' k hx => fin w' _ (h1.kf k) (Kc.of_kf k) hx)
def AllCkL (vs : List Vd) (ls : List ByteArray) : Sl → Prop
  | .nil => True
  | .cons h t => CheckOkL vs ls h ∧ AllCkL vs ls t
/-- Where the checker stands in a list of statements. -/
structure CkLL (vs : List Vd) (ls : List ByteArray) (bc bm : Nat) (fst : Nat → Int) (bs : List Nat) (lv0 lv : Value) (g : Option Nat) (l : Sl) (lo hi : Nat) (xs : List Value) (w : World) (i : Nat) (wr : World) (rest : Sl) : Prop where
  ex : ∃ done xs1 xs2 m, l = done.app rest ∧ xs = xs1 ++ xs2 ∧ i = done.len ∧ SlIn (kE vs) g done lo m wr xs1 ∧ SlIn (fun _ => 0) g rest m hi wr xs2 ∧ lo ≤ m ∧ m ≤ hi
  env : Env bc bm fst vs bs lv ls wr
  kf : Kc bc lo hi lv0 lv w wr
  ok : AllCkL vs ls rest
set_option maxRecDepth 100000 in
set_option maxHeartbeats 4000000 in
theorem checks_okL {vs : List Vd} {ls : List ByteArray} {l : Sl} (hl : AllCkL vs ls l) (hlen : l.len ≤ 1000000) {bc bm lo hi base : Nat} {fst : Nat → Int} {bs : List Nat} {lv bv : Value} {g : Option Nat} {xs : List Value} {w : World} (h : Env bc bm fst vs bs lv ls w) (hown : w.ownsRow base 240 1 bv l.len xs) (hx : SlIn (fun _ => 0) g l lo hi w xs) (hlh : lo ≤ hi) (hib : hi ≤ bc)
    (R : Ending → World → Prop) (fin : ∀ w' lv', Env bc bm fst vs bs lv' ls w' → Kc bc lo hi lv lv' w w' → SlIn (kE vs) g l lo hi w' xs → R (.returned (.tuple #[])) w') : Calls Tryz.prog 70 #[.pointer (some ⟨bc, 0, none⟩), bv] w R := by
  obtain ⟨bo, bcp, rfl, hcp, hbo⟩ := own_form hown
  have hstart : CkLL vs ls bc bm fst bs lv lv g l lo hi xs w 0 w l := ⟨⟨.nil, [], xs, lo, rfl, rfl, rfl, rfl, hx, Nat.le_refl _, hlh⟩, h, Kc.refl _ _ _ _ _, hl⟩
  have henv0 := hd h
  replace fin := hd fin
  replace hstart := hd hstart
  replace hbo := hd hbo
  replace hown := hd hown
  clear hx h
  go_enter Tryz.func70, Tryz.ntmps70
  go_wp2
  go_loopw [5, 8] (fun _ iv wr => ∃ (i : Nat) (rest : Sl) (lvr : Value), iv = .int .i64 (i : Int) ∧ CkLL vs ls bc bm fst bs lv lvr g l lo hi xs w i wr rest) (fun _ iv _ => l.len - (intOf iv).toNat)
  case atStart => exact ⟨0, l, lv, rfl, hstart.out⟩
  case round =>
    obtain ⟨i, rest, lvr, rfl, ⟨done, xs1, xs2, m, happ, hxs, hie, hs1, hs2, hm1, hm2⟩, henv, hkf, hok⟩ := hrel
    have hll : l.len = done.len + rest.len := by rw [happ, Sl.len_app]
    cases rest with
    | nil =>
      simp only [Sl.len] at hll
      have td : decide ((i : Int) < (l.len : Int)) = false := by simp; omega
      have hnl : ¬ i < l.len := by omega
      rw [show xs2 = [] from hs2, List.append_nil] at hxs
      rw [Sl.app_nil] at happ
      subst happ
      subst hxs
      have hs3 := hd (hs1.wide (Nat.le_refl _) hm2)
      replace hkf := hd hkf
      replace henv := hd henv
      clear hs1 hs2 hll hie hm1 hm2
      go_wp2
      go_end0
      exact fin.out _ _ henv.out hkf.out hs3.out
    | cons s t =>
      simp only [Sl.len] at hll
      have td : decide ((i : Int) < (l.len : Int)) = true := by simp; omega
      have hnl : i < l.len := by omega
      obtain ⟨v, ys, a, b, m2, hx2, p1, p2, p3, p4, p5, p6, p7⟩ := hs2
      obtain ⟨tv, uv, rfl⟩ := p6.iface
      have mc := meth_check p6
      have mc1 := mc.m
      have mc2 := mc.c
      obtain ⟨gb, rfl, hgl, hgs, hg⟩ := hbo.out (by omega)
      have hlen1 : xs1.length = done.len := hs1.len
      have hxi : xs[i]? = some (.iface tv uv) := by rw [hxs, hx2, hie, ← hlen1, List.getElem?_append_right (Nat.le_refl _), Nat.sub_self]; rfl
      have hcw := hg i _ hxi
      obtain ⟨gcur, hgc⟩ : ∃ cur, w.heap[gb]? = some (.cells cur 240 (0, 0)) := by
        rcases hown.out.2 with ⟨e1, e2⟩ | ⟨g', cap, cur, e1, _, hg', _⟩
        · injection e1 with e1; cases e1
        · injection e1 with e1 _ _
          injection e1 with e1
          injection e1 with e1
          subst e1
          exact ⟨cur, hg'⟩
      have c1 : wr.cell? ⟨gb, i, none⟩ = some (.iface tv uv) := by
        rw [World.cell?_of_block (w := w) (a := ⟨gb, i, none⟩) (hkf.tag henv0.out hgc (by decide) (by decide) (by decide))]
        exact hcw
      have j0 : (0 : Int) ≤ (i : Int) ∧ (i : Int) < (l.len : Int) := by omega
      have hck : CheckOkL vs ls s := hok.1
      have cC := hd (fun (W : World) => @hck bc bm a b tv fst bs lvr uv W)
      generalize sfn s = FS at *
      replace henv := hd henv
      replace hkf := hd hkf
      replace p6 := hd p6
      replace p7 := hd p7
      replace hs1 := hd hs1
      replace hll := hd hll
      replace hie := hd hie
      replace happ := hd happ
      replace hxs := hd hxs
      replace hx2 := hd hx2
      clear hg hgc hcw mc hck
      go_wp2_with (fail)
      refine cC.out _ (by omega) henv.out p6.out _ ?_
      intro w1 lv1 env1 k1 hx1
      have hd1 := hs1.out.keep (k1.same henv.out (.inr (by omega)) (by omega))
      have hd2 := p7.out.keep (k1.same henv.out (.inl (by omega)) (by omega))
      have hne : CkLL vs ls bc bm fst bs lv lv1 g l lo hi xs w (i + 1) w1 t := by
        refine ⟨⟨done.app (.cons s .nil), xs1 ++ [.iface tv uv], ys, m2, ?_, ?_, ?_, SlIn.snoc hx1 p2 p3 p5 (by omega) (hd1.wide (Nat.le_refl _) p1), hd2, by omega, p4⟩, env1, hkf.out.trans (k1.wide (by omega) (by omega)), hok.2⟩
        · rw [happ.out, Sl.app_assoc]; rfl
        · rw [hxs.out, hx2.out, List.append_assoc]; rfl
        · rw [Sl.len_app, hie.out]; rfl
      replace hne := hd hne
      clear hd1 hd2 hx1 k1 hs1 p6 p7 henv hkf
      go_wp2
      exact ⟨⟨i + 1, t, lv1, by go_num, hne.out⟩, by have := hll.out; have := hie.out; simp [intOf]; omega⟩

end Go.Proofs.YtidhiaaicmfabaaGreatDoor

/- Branches of a CASE in memory (seat .ZD alone). -/
namespace Go.Proofs.YtidhiaaicmfabaaGreatDoor
open Go.RowKit Go.Proofs Go.Deep

def Wl.app : Wl → Wl → Wl
  | .nil, r => r
  | .cons ns b t, r => .cons ns b (t.app r)
def Wl.len : Wl → Nat
  | .nil => 0
  | .cons _ _ t => t.len + 1
theorem Wl.app_nil : ∀ l : Wl, l.app .nil = l
  | .nil => rfl
  | .cons ns b t => by simp only [Wl.app]; rw [Wl.app_nil t]
theorem Wl.app_assoc : ∀ a b c : Wl, (a.app b).app c = a.app (b.app c)
  | .nil, _, _ => rfl
  | .cons ns h t, b, c => by simp only [Wl.app]; rw [Wl.app_assoc t b c]
theorem Wl.len_app : ∀ a b : Wl, (a.app b).len = a.len + b.len
  | .nil, b => by simp [Wl.app, Wl.len]
  | .cons _ _ t, b => by simp only [Wl.app, Wl.len, Wl.len_app t b]; omega
theorem WlIn.len {kk : Ex → Int} {w : World} {g : Option Nat} : ∀ {l : Wl} {lo hi : Nat} {xs : List Value}, WlIn kk g l lo hi w xs → xs.length = l.len * 2
  | .nil, _, _, _, h => by rw [h]; rfl
  | .cons _ _ _, _, _, _, ⟨_, _, ys, _, _, _, _, e1, _, _, _, _, _, _, _, _, h10⟩ => by rw [e1]; simp only [List.length_cons, Wl.len, h10.len]; omega
theorem WlIn.wide {kk : Ex → Int} {w : World} {g : Option Nat} : ∀ {l : Wl} {lo hi lo' hi' : Nat} {xs : List Value}, WlIn kk g l lo hi w xs → lo' ≤ lo → hi ≤ hi' → WlIn kk g l lo' hi' w xs
  | .nil, _, _, _, _, _, h, _, _ => h
  | .cons _ _ _, _, _, _, _, _, ⟨vn, vb, ys, a, m1, c, m, e1, h1, h2, h3, h4, h5, h6, h7, h8, h10⟩, p, q => ⟨vn, vb, ys, a, m1, c, m, e1, by omega, h2, h3, h4, by omega, h6, h7, h8, h10.wide (Nat.le_refl _) q⟩
theorem WlIn.belowZ {kk : Ex → Int} {g : Option Nat} {l : Wl} {lo hi : Nat} {w w' : World} {xs : List Value} (h : WlIn kk g l lo hi w xs) (hb : Below w.heap.size w w') : WlIn kk g l lo hi w' xs := h.keep (fun b _ _ _ _ _ _ hc => hb.block b (Array.getElem?_eq_some_iff.1 hc).1)
/-- The branch behind those that are done. -/
theorem WlIn.at {kk : Ex → Int} {g : Option Nat} {w : World} {ns : List Int} {b : Sl} {t : Wl} : ∀ {done : Wl} {lo hi : Nat} {xs : List Value}, WlIn kk g (done.app (.cons ns b t)) lo hi w xs → ∃ vn vb a m c zs, xs[done.len * 2]? = some vn ∧ xs[done.len * 2 + 1]? = some vb ∧ lo ≤ a ∧ a ≤ m ∧ m ≤ c ∧ c ≤ hi ∧ RowIn w a m 2 1 vn ns.length (litV ns) ∧ RowIn w m c 240 1 vb b.len zs ∧ SlIn kk vb.ownBlock b m c w zs
  | .nil, lo, hi, xs, ⟨vn, vb, ys, a, m1, c, m, e1, h1, h2, h3, h4, h5, h6, h7, ⟨zs, h8, h9⟩, h10⟩ => ⟨vn, vb, a, m1, c, zs, by rw [e1]; rfl, by rw [e1]; rfl, h1, h2, h3, by omega, h7, h8, h9⟩
  | .cons _ _ d, lo, hi, xs, ⟨_, _, ys, a, m1, c, m, e1, h1, h2, h3, h4, h5, h6, h7, _, h10⟩ => by
    obtain ⟨vn, vb, a', m', c', zs, q1, q2, q3, q4, q5, q6, q7⟩ := WlIn.at (done := d) h10
    refine ⟨vn, vb, a', m', c', zs, ?_, ?_, by omega, q4, q5, q6, q7⟩
    · rw [e1, Wl.len, show (d.len + 1) * 2 = d.len * 2 + 1 + 1 by omega, List.getElem?_cons_succ, List.getElem?_cons_succ]; exact q1
    · rw [e1, Wl.len, show (d.len + 1) * 2 + 1 = d.len * 2 + 1 + 1 + 1 by omega, List.getElem?_cons_succ, List.getElem?_cons_succ]; exact q2
theorem RowIn.nW {kk : Ex → Int} {w : World} {g : Option Nat} {l : Wl} {lo hi n : Nat} {v : Value} {xs : List Value} (h : RowIn w lo hi 317 2 v n xs) (hx : WlIn kk g l lo hi w xs) : n = l.len := by
  have h1 := h.1.1
  have h2 := hx.len
  omega
/-- The cells of a row of branches. -/
theorem RowIn.two {w : World} {lo hi n : Nat} {v : Value} {xs : List Value} (h : RowIn w lo hi 317 2 v n xs) (hn : n ≠ 0) : ∃ g cap cur, v = .slice (some ⟨g, 0, none⟩) n cap ∧ g < hi ∧ g < w.heap.size ∧ w.heap[g]? = some (.cells cur 317 (0, 0)) ∧ ∀ (i : Nat) (x : Value), xs[i]? = some x → cur[i]? = some x := by
  rcases h.1.2 with ⟨_, e⟩ | ⟨g, cap, cur, rfl, _, hg, hc, _, hs, ht⟩
  · exact absurd e hn
  · refine ⟨g, cap, cur, rfl, h.2 g rfl, (Array.getElem?_eq_some_iff.1 hg).1, hg, fun i x hx => ?_⟩
    rw [← ht] at hx
    have hi : i < n * 2 := by
      have := (List.getElem?_eq_some_iff.1 hx).1
      rw [List.length_take] at this
      omega
    rw [List.getElem?_take_of_lt hi] at hx
    simpa using hx

end Go.Proofs.YtidhiaaicmfabaaGreatDoor

/- CASE is checked (seat .ZD alone). -/
namespace Go.Proofs.YtidhiaaicmfabaaGreatDoor
open Go.RowKit Go.Proofs Go.Deep

theorem WlIn.snoc {kk : Ex → Int} {w : World} {g : Option Nat} {ns : List Int} {b : Sl} {vn vb : Value} {zs : List Value} {a m1 c hi : Nat} (h1 : RowIn w a m1 2 1 vn ns.length (litV ns)) (h2 : RowIn w m1 c 240 1 vb b.len zs) (h3 : SlIn kk vb.ownBlock b m1 c w zs) (q1 : a ≤ m1) (q2 : m1 ≤ c) (q3 : c ≤ hi) (ho : Off g a c) : ∀ {l : Wl} {lo : Nat} {xs : List Value}, lo ≤ a → WlIn kk g l lo a w xs → WlIn kk g (l.app (.cons ns b .nil)) lo hi w (xs ++ [vn, vb])
  | .nil, lo, xs, p1, h => by
    rw [show xs = [] from h]
    exact ⟨vn, vb, [], a, m1, c, c, rfl, p1, q1, q2, Nat.le_refl _, q3, ho, h1, ⟨zs, h2, h3⟩, rfl⟩
  | .cons _ _ _, lo, xs, p1, ⟨vn', vb', ys, a', m1', c', m, e1, r1, r2, r3, r4, r5, r6, r7, r8, r9⟩ => by
    rw [e1]
    exact ⟨vn', vb', ys ++ [vn, vb], a', m1', c', m, rfl, r1, r2, r3, r4, by omega, r6, r7, r8, WlIn.snoc h1 h2 h3 q1 q2 q3 ho r5 r9⟩
/-- Branches that are right. -/
def AllCkW (vs : List Vd) (ls : List ByteArray) : Wl → Prop
  | .nil => True
  | .cons ns b t => (∀ n ∈ ns, inD n = true) ∧ ns.length ≤ 1000 ∧ AllCkL vs ls b ∧ b.len ≤ 1000000 ∧ AllCkW vs ls t
/-- Where the checker stands in the branches of a CASE. -/
structure CkW (vs : List Vd) (ls : List ByteArray) (bc bm : Nat) (fst : Nat → Int) (bs : List Nat) (lv0 lv : Value) (g : Option Nat) (l : Wl) (lo m1 m2 hi : Nat) (xs : List Value) (w : World) (i : Nat) (wr : World) (rest : Wl) : Prop where
  ex : ∃ done xs1 xs2 m, l = done.app rest ∧ xs = xs1 ++ xs2 ∧ i = done.len ∧ WlIn (kE vs) g done m1 m wr xs1 ∧ WlIn (fun _ => 0) g rest m m2 wr xs2 ∧ m1 ≤ m ∧ m ≤ m2
  env : Env bc bm fst vs bs lv ls wr
  kf : Kc bc lo hi lv0 lv w wr
  ok : AllCkW vs ls rest
set_option maxRecDepth 100000 in
set_option maxHeartbeats 4000000 in
theorem check_cas {vs : List Vd} {ls : List ByteArray} {e : Ex} {ws : Wl} {o : Sl} (he : KindOk vs e) (hk : isNum (kE vs e) = true) (hw : AllCkW vs ls ws) (hwl : ws.len ≤ 1000) (ho : AllCkL vs ls o) (hol : o.len ≤ 1000000) : CheckOkL vs ls (.cas e ws o) := by
  intro bc bm lo hi tt fst bs lv u w hib h hx R fin
  obtain ⟨vc, vw, vo, m1, m2, hv, q1, q2, q3, hxc, ⟨n, xs, hrw, hsw⟩, ⟨ys, hro, hso⟩⟩ := hx
  obtain rfl := hrw.nW hsw
  injection hv with e1 e2
  subst e1 e2
  obtain ⟨tc, uc, rfl⟩ := hxc.iface
  obtain ⟨wa, wcp, rfl⟩ := own_slS hrw.1
  obtain ⟨oa, ocp, rfl⟩ := own_slS hro.1
  simp only [sfn]
  have me := meth_kind hxc
  have me1 := me.m
  have me2 := me.c
  have cE := hd (fun (W : World) => @he bc bm lo m1 tc fst bs lv uc ls W)
  generalize kE vs e = κ at cE hk
  generalize kfn e = FE at *
  obtain ⟨Z, hZ⟩ : ∃ Z, Z = w.alloc (Obj.cells #[.iface tc uc, .slice wa ws.len wcp, .slice oa o.len ocp] 314) := ⟨_, rfl⟩
  have hbZ : Below w.heap.size w Z := by rw [hZ]; exact (Below.refl _ w).alloc (Nat.le_refl _) _
  have hnewb : Z.heap[w.heap.size]? = some (.cells #[.iface tc uc, .slice wa ws.len wcp, .slice oa o.len ocp] 314) := by rw [hZ]; exact allocCells
  have envZ := h.kf (lo := 0) (hi := 0) (Kf.of_below hbZ)
  have p0 : Z.cell? ⟨w.heap.size, 0, none⟩ = some (.iface tc uc) := cellOf (i := 0) hnewb rfl
  have hxZ := hxc.keep (w' := Z) (fun b cur _ _ hc => hbZ.block b (Array.getElem?_eq_some_iff.1 hc).1)
  have hrwZ := hd (hrw.below hbZ)
  have hroZ := hd (hro.below hbZ)
  have hswZ := hd (hsw.belowZ hbZ)
  have hsoZ := hd (hso.belowZ hbZ)
  replace fin := hd fin
  replace envZ := hd envZ
  replace hxZ := hd hxZ
  clear hrw hro hsw hso hxc
  go_enter Tryz.func319, Tryz.ntmps319
  go_wp2_with (fail)
  rw [← hZ]
  replace hZ := hd hZ
  generalize hz : w.heap.size = z at *
  replace hz := hd hz
  refine cE.out _ envZ.out hxZ.out _ ?_
  intro w1 k1 hx1
  have env1 := envZ.out.kf k1
  have hn1 := (k1.tag hnewb (by decide)).trans hnewb
  have p11 : w1.cell? ⟨z, 1, none⟩ = some (.slice wa ws.len wcp) := cellOf (i := 1) hn1 rfl
  have hrw1 := hd (hrwZ.out.tagZ (w' := w1) (fun b cur hc => k1.tag hc (by decide)))
  have hro1 := hd (hroZ.out.tagZ (w' := w1) (fun b cur hc => k1.tag hc (by decide)))
  have hsw1 := hd (hswZ.out.keep (w' := w1) (fun b cur T _ h1 _ _ hc => k1.block b (Array.getElem?_eq_some_iff.1 hc).1 (fun _ _ => by omega)))
  have hso1 := hd (hsoZ.out.keep (w' := w1) (fun b cur T _ h1 _ _ hc => k1.block b (Array.getElem?_eq_some_iff.1 hc).1 (fun _ _ => by omega)))
  have hz1 : z < w1.heap.size := (Array.getElem?_eq_some_iff.1 hn1).1
  have hstart : CkW vs ls bc bm fst bs lv lv (Value.slice wa ws.len wcp).ownBlock ws m1 m1 m2 m2 xs w1 0 w1 ws := ⟨⟨.nil, [], xs, m1, rfl, rfl, rfl, rfl, hsw1.out, Nat.le_refl _, q2⟩, env1, Kc.refl _ _ _ _ _, hw⟩
  replace hstart := hd hstart
  replace env1 := hd env1
  replace hn1 := hd hn1
  replace hx1 := hd hx1
  replace k1 := hd k1
  clear hrwZ hroZ hswZ hsoZ
  go_wp2_with (first | (go_at_call 299; refine isNumber_any _ _ _ ?_; rw [hk]) | (go_at_call 69; refine want_ok _ _ _ ?_))
  go_loopw [5, 7, 18] (fun _ _ iv wr => ∃ (i : Nat) (rest : Wl) (lvr : Value), iv = .int .i64 (i : Int) ∧ CkW vs ls bc bm fst bs lv lvr (Value.slice wa ws.len wcp).ownBlock ws m1 m1 m2 m2 xs w1 i wr rest) (fun _ _ iv _ => ws.len - (intOf iv).toNat)
  case atStart => exact ⟨0, ws, lv, rfl, hstart.out⟩
  case round =>
    obtain ⟨i, rest, lvr, rfl, ⟨done, xs1, xs2, m, happ, hxs, hie, hs1, hs2, hm1, hm2⟩, henv, hkf, hok⟩ := hrel
    have hll : ws.len = done.len + rest.len := by rw [happ, Wl.len_app]
    clear hstart
    cases rest with
    | nil =>
      simp only [Wl.len] at hll
      have td : decide ((i : Int) < (ws.len : Int)) = false := by simp; omega
      have hnl : ¬ i < ws.len := by omega
      rw [show xs2 = [] from hs2, List.append_nil] at hxs
      rw [Wl.app_nil] at happ
      subst happ
      subst hxs
      have hn2 := (hkf.tag env1.out hn1.out (by decide) (by decide) (by decide)).trans hn1.out
      have p22 : wr.cell? ⟨z, 2, none⟩ = some (.slice oa o.len ocp) := cellOf (i := 2) hn2 rfl
      have hrw2 := hd (hrw1.out.tagZ (w' := wr) (fun b cur hc => hkf.tag env1.out hc (by decide) (by decide) (by decide)))
      have hro2 := hd (hro1.out.tagZ (w' := wr) (fun b cur hc => hkf.tag env1.out hc (by decide) (by decide) (by decide)))
      have hsw2 := hd (hs1.wide (Nat.le_refl _) hm2)
      have hso2 := hd (hso1.out.keep (hkf.same env1.out (.inl (Nat.le_refl _)) hib))
      have hx2 := hd (hx1.out.keep' (hkf.same env1.out (.inr (Nat.le_refl _)) (by omega)))
      replace henv := hd henv
      replace hkf := hd hkf
      replace hn2 := hd hn2
      clear hs1 hs2 hll hie
      go_wp2_with (fail)
      refine checks_okL ho hol henv.out hro2.out.1 hso2.out q3 (by omega) _ ?_
      intro w3 lv3 env3 k3 hso3
      have hrw3 := hd (hrw2.out.tagZ (w' := w3) (fun b cur hc => k3.tag henv.out hc (by decide) (by decide) (by decide)))
      have hro3 := hd (hro2.out.tagZ (w' := w3) (fun b cur hc => k3.tag henv.out hc (by decide) (by decide) (by decide)))
      have hsw3 := hd (hsw2.out.keep (k3.same henv.out (.inr (Nat.le_refl _)) (by omega)))
      have hx3 := hd (hx2.out.keep' (k3.same henv.out (.inr (by omega)) (by omega)))
      have hkA : Kc bc lo hi lv lv3 w w3 := (Kc.of_kf (Kf.of_below (by have e := hz.out; rw [e]; exact hbZ))).trans ((Kc.of_kf (k1.out.wide (Nat.le_refl _) (by omega))).trans ((hkf.out.wide (by omega) (by omega)).trans (k3.wide (by omega) (Nat.le_refl _))))
      replace env3 := hd env3
      replace hkA := hd hkA
      replace hso3 := hd hso3
      clear k3
      go_wp2
      go_end0
      exact fin.out _ _ env3.out hkA.out ⟨_, _, _, m1, m2, rfl, q1, q2, q3, hx3.out, ⟨_, _, hrw3.out, hsw3.out⟩, ⟨ys, hro3.out, hso3.out⟩⟩
    | cons ns b t =>
      simp only [Wl.len] at hll
      have td : decide ((i : Int) < (ws.len : Int)) = true := by simp; omega
      have hnl : i < ws.len := by omega
      obtain ⟨k2, k3, k4, k5, k6⟩ := hok
      obtain ⟨vn, vb, xs3, a, mm, c, m', hx2, y1, y2, y3, y4, y5, y6, hrn, ⟨zs, hrb, hsb⟩, hrest⟩ := hs2
      have hrwX := hrw1.out.tagZ (w' := wr) (fun b cur hc => hkf.tag env1.out hc (by decide) (by decide) (by decide))
      obtain ⟨g, cap, cur, hge, hgh, hgs, hgc, hgx⟩ := hrwX.two (by omega)
      injection hge with e1' _ e2'
      subst e1' e2'
      obtain ⟨na, ncp, rfl⟩ := own_slS hrn.1
      obtain ⟨ba, bcp, rfl⟩ := own_slS hrb.1
      have hxl : xs1.length = i * 2 := by rw [hie]; exact hs1.len
      have x1 : xs[i * 2]? = some (.slice na ns.length ncp) := by rw [hxs, hx2, List.getElem?_append_right (by omega), hxl, Nat.sub_self]; rfl
      have x2 : xs[i * 2 + 1]? = some (.slice ba b.len bcp) := by rw [hxs, hx2, List.getElem?_append_right (by omega), hxl, show i * 2 + 1 - i * 2 = 1 by omega]; rfl
      have c1 : wr.cell? ⟨g, i * 2, none⟩ = some (.slice na ns.length ncp) := cellOf hgc (hgx _ _ x1)
      have c2 : wr.cell? ⟨g, i * 2 + 1, none⟩ = some (.slice ba b.len bcp) := cellOf hgc (hgx _ _ x2)
      have j0 : (0 : Int) ≤ (i : Int) ∧ (i : Int) < (ws.len : Int) := by omega
      obtain ⟨W, hW⟩ : ∃ W, W = wr.alloc (Obj.cells #[.slice na ns.length ncp, .slice ba b.len bcp] 317) := ⟨_, rfl⟩
      have hba : Below wr.heap.size wr W := by rw [hW]; exact (Below.refl _ wr).alloc (Nat.le_refl _) _
      have hbl0 : W.heap[wr.heap.size]? = some (.cells #[.slice na ns.length ncp, .slice ba b.len bcp] 317) := by rw [hW]; exact allocCells
      have p51 : W.cell? ⟨wr.heap.size, 1, none⟩ = some (.slice ba b.len bcp) := cellOf (i := 1) hbl0 rfl
      have envW := hd (henv.kf (lo := 0) (hi := 0) (Kf.of_below hba))
      have hrnW := hd (hrn.below hba)
      have hrbW := hd (hrb.below hba)
      have hsbW := hd (hsb.belowZ hba)
      have hs1W := hd (hs1.belowZ hba)
      have hrestW := hd (hrest.belowZ hba)
      have hkW := hd (hkf.trans (Kc.of_kf (bc := bc) (u := lvr) (Kf.of_below hba)))
      obtain ⟨bo, bcp', hbe, hcp, hbo⟩ := own_form hrnW.out.1
      injection hbe with e1' _ e2'
      subst e1' e2'
      replace hbo := hd hbo
      replace k2 := hd k2
      replace hbl0 := hd hbl0
      replace hll := hd hll
      replace hie := hd hie
      replace happ := hd happ
      replace hxs := hd hxs
      replace hx2 := hd hx2
      replace henv := hd henv
      replace hkf := hd hkf
      replace hs1 := hd hs1
      replace hrest := hd hrest
      replace y6 := hd y6
      clear hgx hrwX x1 x2 hrn hrb hsb hgc hxl
      go_wp2
      rw [← hW]
      replace hW := hd hW
      generalize hq : wr.heap.size = q at *
      go_loopw [7, 25] (fun _ jv wj => ∃ j : Nat, jv = .int .i64 (j : Int) ∧ j ≤ ns.length ∧ wj = W) (fun _ jv _ => ns.length - (intOf jv).toNat)
      case atStart => exact ⟨0, rfl, Nat.zero_le _, rfl⟩
      case round =>
        obtain ⟨j, rfl, hj, rfl⟩ := hrel
        by_cases hlt : j < ns.length
        · have tj : decide ((j : Int) < (ns.length : Int)) = true := by simp; omega
          obtain ⟨x, hx⟩ : ∃ x, ns[j]? = some x := ⟨_, List.getElem?_eq_getElem hlt⟩
          obtain ⟨g2, rfl, hgl2, hgs2, hg2⟩ := hbo.out (by omega)
          have d1 : wr.cell? ⟨g2, j, none⟩ = some (.int .i64 x) := hg2 j _ (by unfold litV; rw [List.getElem?_map, hx]; rfl)
          have jj : (0 : Int) ≤ (j : Int) ∧ (j : Int) < (ns.length : Int) := by omega
          have hin := k2.out x (List.mem_of_getElem? hx)
          clear hg2
          go_wp2_with (first | (go_at_call 322; refine holds_dint _ x hin _ ?_) | (go_at_call 69; refine want_ok _ _ _ ?_))
          exact ⟨⟨j + 1, by go_num, by omega, by first | rfl | trivial⟩, by simp [intOf]; omega⟩
        · have tj : decide ((j : Int) < (ns.length : Int)) = false := by simp; omega
          have hnj : ¬ j < ns.length := by omega
          go_wp2_with (fail)
          refine checks_okL k4 k5 envW.out hrbW.out.1 hsbW.out y3 (by omega) _ ?_
          intro w5 lv5 env5 k7 hsb5
          have hne : CkW vs ls bc bm fst bs lv lv5 (Value.slice (some ⟨g, 0, none⟩) ws.len wcp).ownBlock ws m1 m1 m2 m2 xs w1 (i + 1) w5 t := by
            refine ⟨⟨done.app (.cons ns b .nil), xs1 ++ [.slice na ns.length ncp, .slice ba b.len bcp], xs3, m', ?_, ?_, ?_, ?_, ?_, by omega, y5⟩, env5, hkW.out.trans (k7.wide (by omega) (by omega)), k6⟩
            · rw [happ.out, Wl.app_assoc]; rfl
            · rw [hxs.out, hx2.out, List.append_assoc]; rfl
            · rw [Wl.len_app, hie.out]; rfl
            · refine WlIn.snoc (hrnW.out.tagZ (fun b cur hc => k7.tag envW.out hc (by decide) (by decide) (by decide))) (hrbW.out.tagZ (fun b cur hc => k7.tag envW.out hc (by decide) (by decide) (by decide))) hsb5 y2 y3 y4 y6.out (by omega) ?_
              exact (hs1W.out.keep (k7.same envW.out (.inr (by omega)) (by omega))).wide (Nat.le_refl _) y1
            · exact hrestW.out.keep (k7.same envW.out (.inl (by omega)) (by omega))
          replace hne := hd hne
          clear env5 k7 hsb5
          go_wp2
          exact ⟨⟨i + 1, t, lv5, by go_num, hne.out⟩, by have := hll.out; have := hie.out; simp [intOf]; omega⟩

end Go.Proofs.YtidhiaaicmfabaaGreatDoor

/- CASE is read (seat .ZD alone). -/
namespace Go.Proofs.YtidhiaaicmfabaaGreatDoor
open Go.RowKit Go.Proofs Go.Deep

theorem toksW_app : ∀ a b : Wl, toksW (a.app b) = toksW a ++ toksW b
  | .nil, _ => rfl
  | .cons ns h t, b => by simp only [Wl.app, toksW, toksW_app t b, List.append_assoc, List.cons_append]
theorem namesW_app : ∀ a b : Wl, namesW (a.app b) = namesW a ++ namesW b
  | .nil, _ => rfl
  | .cons ns h t, b => by simp only [Wl.app, namesW, namesW_app t b, List.append_assoc]
theorem depW_nonneg : ∀ w : Wl, 0 ≤ depW w
  | .nil => Int.le_refl _
  | .cons _ _ t => by have := depW_nonneg t; simp only [depW]; omega
theorem lenW_le : ∀ l : Wl, l.len ≤ (toksW l).length
  | .nil => Nat.le_refl _
  | .cons _ _ t => by have := lenW_le t; simp only [Wl.len, toksW, List.length_append, List.length_cons]; omega
theorem WlIn.hole {kk : Ex → Int} {w : World} {g g' : Option Nat} : ∀ {l : Wl} {lo hi : Nat} {xs : List Value}, WlIn kk g l lo hi w xs → Off g' lo hi → WlIn kk g' l lo hi w xs
  | .nil, _, _, _, h, _ => h
  | .cons _ _ _, _, _, _, ⟨vn, vb, ys, a, m1, c, m, e1, h1, h2, h3, h4, h5, h6, h7, h8, h9⟩, k => ⟨vn, vb, ys, a, m1, c, m, e1, h1, h2, h3, h4, h5, fun x e => by have := k x e; omega, h7, h8, h9.hole (fun x e => by have := k x e; omega)⟩
/-- Branches that can be read. -/
def AllOkW : Wl → Prop
  | .nil => True
  | .cons ns b t => (∃ n r, ns = n :: r) ∧ (∀ m ∈ ns, -9223372036854775808 ≤ m ∧ m ≤ 9223372036854775807) ∧ AllOk b ∧ AllOkW t
theorem ulWhens : Tryz.prog.underlying 312 = some (.slice 317) := by kernel_rfl
theorem infoWhen : (Tryz.prog.info? 317).map (fun i => (i.zero, i.size, i.bytes)) = some (some (.agg #[.slice none 0 0, .slice none 0 0]), 2, 48) := by kernel_rfl
theorem oneW (a b : Option Addr) (m n c d : Nat) : ∀ x ∈ [Value.slice a m c, Value.slice b n d], x.oneCell' = true := by
  intro x hx
  simp only [List.mem_cons, List.not_mem_nil, or_false] at hx
  rcases hx with rfl | rfl <;> rfl
/-- The way of no panic. -/
def nrm (Q : Exit → Act → World → Prop) : Exit → Act → World → Prop := fun e a w => match e with
  | .normal => Q .normal a w
  | _ => False
theorem wp_nrm {P : Program} {c : Code} {Q : Exit → Act → World → Prop} {a : Act} {w : World} (h : c.wp P (nrm Q) a w) : c.wp P Q a w := wp_mono h (fun e _ _ hq => by cases e <;> first | exact hq | exact False.elim hq)
theorem when_okS {n : Int} {r : List Int} {b : Sl} (hns : ∀ m ∈ n :: r, -9223372036854775808 ≤ m ∧ m ≤ 9223372036854775807) (hbd : AllOk b) {w : World} {B bp : Nat} {pv : Value} {L : List ByteArray} {k : Nat} {d : Int} {us : List ByteArray} {uv : Value} (h : Ps B bp pv L k d us uv w) (ht : TokAt L k (litW n ++ (litsW r ++ wCO :: toksL b))) (hst : StopW (nextS L (k + (litW n ++ (litsW r ++ wCO :: toksL b)).length))) (hd0 : 0 ≤ d) (hd1 : d + depL b ≤ 10)
    (R : Ending → World → Prop) (fin : ∀ w' na ncp ba bcp zs uv' m, Ps B bp pv L (k + (litW n ++ (litsW r ++ wCO :: toksL b)).length) d (us ++ namesL b) uv' w' → Fu bp uv uv' w w' → w.heap.size ≤ m → m ≤ w'.heap.size → RowIn w' w.heap.size m 2 1 (.slice na (r.length + 1) ncp) (r.length + 1) (litV (n :: r)) → RowIn w' m w'.heap.size 240 1 (.slice ba b.len bcp) b.len zs → SlIn (fun _ => 0) (Value.slice ba b.len bcp).ownBlock b m w'.heap.size w' zs → R (.returned (.agg #[.slice na (r.length + 1) ncp, .slice ba b.len bcp])) w') :
    Calls Tryz.prog 237 #[.pointer (some ⟨bp, 0, none⟩)] w R :=
  when_ok hns hbd h ht hst hd0 hd1 R (fun w' vn vb zs uv' m a1 a2 a3 a4 a5 a6 a7 => by
    obtain ⟨na, ncp, rfl⟩ := own_slS a5.1
    obtain ⟨ba, bcp, rfl⟩ := own_slS a6.1
    exact fin w' na ncp ba bcp zs uv' m a1 a2 a3 a4 a5 a6 a7)
/-- Where the reader stands in the branches of a CASE. -/
structure SelL (B bp : Nat) (pv : Value) (L : List ByteArray) (d : Int) (e : Ex) (ws : Wl) (k : Nat) (us : List ByteArray) (uv : Value) (w : World) (z lo0 lo : Nat) (vc : Value) (wr : World) (rest : Wl) : Prop where
  ex : ∃ done ao cp xs uv', ws = done.app rest ∧ Ps B bp pv L (k + (toksW done).length) d (us ++ namesW done) uv' wr ∧ Fu bp uv uv' w wr ∧ wr.ownsRow lo 317 2 (.slice ao done.len cp) done.len xs ∧ WlIn (fun _ => 0) (Value.slice ao done.len cp).ownBlock done lo wr.heap.size wr xs ∧ wr.heap[z]? = some (.cells #[vc, .slice ao done.len cp, .slice none 0 0] 314) ∧ ExIn (fun _ => 0) e lo0 z wr vc ∧ lo ≤ wr.heap.size
  ok : AllOkW rest
  dep : d + depW rest ≤ 10
set_option maxRecDepth 100000 in
set_option maxHeartbeats 4000000 in
theorem selection_ok {e : Ex} {ws : Wl} {o : Sl} (he : ExprOk e) (hw : AllOkW ws) (ho : AllOk o) {w : World} {B bp : Nat} {pv : Value} {L : List ByteArray} {k : Nat} {d : Int} {us : List ByteArray} {uv : Value} (h : Ps B bp pv L k d us uv w) (ht : TokAt L k (toks e ++ wOF :: (toksW ws ++ othT o))) (hd0 : 0 ≤ d) (hd1 : d + (max (depE e) (max (depW ws) (depL o)) + 1) ≤ 10)
    (R : Ending → World → Prop) (fin : ∀ w' v uv', Ps B bp pv L (k + (toks e ++ wOF :: (toksW ws ++ othT o)).length) d (us ++ (namesE e ++ (namesW ws ++ namesL o))) uv' w' → Fu bp uv uv' w w' → StIn (fun _ => 0) (.cas e ws o) w.heap.size w'.heap.size w' v → R (.returned v) w') :
    Calls Tryz.prog 226 #[.pointer (some ⟨bp, 0, none⟩)] w R := by
  have d1 := depE_nonneg e
  have d2 := depW_nonneg ws
  have d3 := depL_nonneg o
  have tC := ht.left
  have tOF := ht.right.head
  have tW := ht.right.tail.left
  have tO := ht.right.tail.right
  have n1 : ((nextS L (k + (toks e).length)).toList == wLB.toList) = false := by rw [tOF]; kernel_rfl
  have hoth : ∃ x, (x = wELSE ∨ x = wEND) ∧ nextS L (k + (toks e).length + 1 + (toksW ws).length) = x := by
    cases o with
    | nil => exact ⟨_, .inr rfl, tO.head (s := wEND) (l := [])⟩
    | cons s r => exact ⟨_, .inl rfl, tO.head (s := wELSE) (l := toksL (.cons s r) ++ [wEND])⟩
  have hw0 := h.pa.row.lt
  replace fin := hd fin
  replace hoth := hd hoth
  go_enter_defers Tryz.func226, Tryz.ntmps226
  go_wp2_with (fail)
  refine pEnter h ⟨hd0, by omega⟩ _ ?_
  intro w1 h1 hf1
  go_wp2_with (fail)
  refine he h1 (by exact tC) n1 (by omega) (by omega) _ ?_
  intro w3 vc uv3 h3 g3 hx3
  obtain ⟨tc, uc, rfl⟩ := hx3.iface
  have hz1 := hf1.size
  have hz3 := g3.size
  have hlt3 := h3.pa.row.lt
  have hB3 := h3.le
  have hne : bp ≠ w3.heap.size := by omega
  have hf3 := hd (hf1.trans g3)
  have hxa := hd (hx3.keep (w' := w3.alloc (.cells #[.iface tc uc, .slice none 0 0, .slice none 0 0] 314)) (fun b _ _ h2 _ => ((Below.refl w3.heap.size w3).alloc (Nat.le_refl _) _).block b h2))
  clear hf1 g3
  go_wp2_with (fail)
  refine pExp (s := wOF) (h3.alloc _) (by exact tOF) (by decide) _ ?_
  intro w4 h4 g4
  have hb4 := (h3.alloc _).apart allocCells (by decide) hne g4
  have hx4 := hd (g4.exIn (h3.alloc _) hxa.out (by omega))
  have hz4 := g4.size
  rw [World.size_alloc] at hz4
  have hf4 := hd (hf3.out.trans ((Fu.of_below ((Below.refl _ w3).alloc (Nat.le_refl _) _)).trans g4))
  clear g4 hf3 hxa hx3
  generalize hg : w3.heap.size = q at *
  have hstart : SelL B bp pv L (d + 1) e ws (k + (toks e).length + 1) (us ++ namesE e) uv w q w.heap.size w4.heap.size (.iface tc uc) w4 ws := by
    refine ⟨⟨.nil, none, 0, [], uv3, rfl, ?_, hf4.out, World.ownsRow_nil _ _ _ _, rfl, hb4, hx4.out.wide (by omega) (by omega), Nat.le_refl _⟩, hw, by omega⟩
    simpa [toksW, namesW] using h4
  replace hstart := hd hstart
  replace hg := hd hg
  have hql : q < w4.heap.size := by omega
  clear hb4 h4 hx4 hf4
  generalize w4.heap.size = lo at *
  go_wp2
  go_loopg [13] ws.len (fun gk _ wr => ∃ rest, gk = rest.len ∧ SelL B bp pv L (d + 1) e ws (k + (toks e).length + 1) (us ++ namesE e) uv w q w.heap.size lo (.iface tc uc) wr rest)
  case atStart => exact ⟨ws, rfl, hstart.out⟩
  case round =>
    obtain ⟨rest, hgk, ⟨done, ao, cp, xs, uvr, hwd, hps, hfu, hown, hwl, hqb, hxr, hlo⟩, hok, hdep⟩ := hrel
    clear hstart
    have hszr := hfu.size
    have hlt := hps.pa.row.lt
    have hle := hps.le
    have hneq : bp ≠ q := by omega
    have hqlt := (Array.getElem?_eq_some_iff.1 hqb).1
    cases rest with
    | nil =>
      rw [Wl.app_nil] at hwd
      subst hwd
      obtain ⟨xo, hxo, hnx⟩ := hoth.out
      replace hfu := hd hfu
      have hrow := hd (show RowIn wr lo wr.heap.size 317 2 (.slice ao ws.len cp) ws.len xs from ⟨hown, fun g hg => (hown.lt g hg).2⟩)
      replace hwl := hd hwl
      replace hxr := hd hxr
      clear hown
      go_wp2_with (fail)
      refine pNot (s := wWHEN) hps (by rw [hnx]; rcases hxo with rfl | rfl <;> kernel_rfl) _ ?_
      intro w5 h5 g5
      have hb5 := hps.apart hqb (by decide) hneq g5
      have hx5 := hd (g5.exIn hps hxr.out (by omega))
      have hr5 := hd (g5.rowIn hps hrow.out (by decide) (by omega))
      have hw5 := hd (hwl.out.keep (g5.same hps (by omega) _))
      have f5 := hd (hfu.out.trans g5)
      have hz5 := g5.size
      clear g5 hrow hwl hxr hfu
      go_wp2_with (fail)
      refine otherwise_ok ho h5 (by exact tO) (by omega) (by omega) _ ?_
      intro w8 ao8 cp8 ys uv8 h8 g8 hr8 hsl8
      have hb8 := h5.apart hb5 (by decide) hneq g8
      have hx8 := g8.exIn h5 hx5.out (by omega)
      have hr9 := g8.rowIn h5 hr5.out (by decide) (by omega)
      have hw9 := hw5.out.keep (g8.same h5 (by omega) _)
      have hz8 := g8.size
      have a2 := cellOf (i := 2) hb8 rfl
      have f2 := frozOf (i := 2) hb8
      have hbA := hd (heapSet (i := 2) hb8 (.slice ao8 o.len cp8))
      have hA := hd (h8.setNew hb8 (by decide) (by omega) 2 (.slice ao8 o.len cp8))
      have hfA := hd ((f5.out.trans g8).setNew (show w.heap.size ≤ q by omega) 2 (.slice ao8 o.len cp8))
      have hrA := hd (hr8.keep (by decide) (samz_set (b := q) (i := 2) (v := .slice ao8 o.len cp8) (.inl (by omega))))
      have hslA := hd (hsl8.keep (samz_set (b := q) (i := 2) (v := .slice ao8 o.len cp8) (.inl (by omega))))
      have hrB := hd (hr9.keep (by decide) (samz_set (b := q) (i := 2) (v := .slice ao8 o.len cp8) (.inl (by omega))))
      have hwB := hd (hw9.keep (samz_set (b := q) (i := 2) (v := .slice ao8 o.len cp8) (.inl (by omega))))
      have hxA := hd (hx8.keep (w' := w8.setCell ⟨q, 2, none⟩ (.slice ao8 o.len cp8)) (fun c cur hc hc2 _ => (Below.heap_setCell _ _ _ _ (show c ≠ q by omega))))
      have r0 := cellOf (i := 0) hbA.out rfl
      have r1 := cellOf (i := 1) hbA.out rfl
      have r2 := cellOf (i := 2) hbA.out rfl
      have c2 : (w8.setCell ⟨q, 2, none⟩ (.slice ao8 o.len cp8)).cell? ⟨bp, 2, none⟩ = some (.int .i64 (d + 1)) := hA.out.pa.row.cell (i := 2) (by omega)
      have fz2 := hA.out.pa.row.frozen 2
      clear g8 hb8 f5 hr8 hsl8 hr9 hw9 hx8 hr5 hw5 hx5
      replace h8 := hd h8
      go_wp2
      generalize hW : w8.setCell ⟨q, 2, none⟩ (.slice ao8 o.len cp8) = W at *
      have hzW : W.heap.size = w8.heap.size := by rw [← hW]; exact World.size_setCell _ _ _
      refine leaves_cons (f := 235) (args := #[.pointer (some ⟨bp, 0, none⟩)]) (by simp) (by simp [go_sem]) ?_
      refine (leave_d _ bp (d + 1) (by omega) c2 fz2 .returning).mono ?_
      rintro e' u' wz ⟨rfl, rfl, rfl⟩
      refine ⟨_, results_tmp rfl _ _ _, ?_⟩
      have ed : d + 1 - 1 = d := by omega
      rw [ed]
      have hzz : (W.setCell ⟨bp, 2, none⟩ (.int .i64 d)).heap.size = w8.heap.size := (World.size_setCell _ _ _).trans hzW
      have hps2 : Ps B bp pv L (k + (toks e).length + 1 + (toksW ws).length + (othT o).length) d (us ++ namesE e ++ namesW ws ++ namesL o) uv8 (W.setCell ⟨bp, 2, none⟩ (.int .i64 d)) := hA.out.only (hA.out.pa.setDep d) ((Only.refl bp W).setCell (a := ⟨bp, 2, none⟩) (.inl rfl) _) (by omega)
      refine cl1 (fin.out _ (.iface 314 (.agg #[.iface tc uc, .slice ao ws.len cp, .slice ao8 o.len cp8])) uv8 ?_ (hfA.out.trans (Fu.of_only ((Only.refl bp W).setCell (a := ⟨bp, 2, none⟩) (.inl rfl) _))) ⟨_, _, _, lo, w5.heap.size, rfl, by omega, by omega, by omega, ?_, ⟨ws.len, xs, ?_, ?_⟩, ⟨ys, ?_, ?_⟩⟩) rfl
      · simp only [List.length_append, List.length_cons]
        simp only [List.append_assoc] at hps2
        rw [show k + ((toks e).length + ((toksW ws).length + (othT o).length + 1)) = k + (toks e).length + 1 + (toksW ws).length + (othT o).length by omega]
        exact hps2
      · exact (hxA.out.wide (Nat.le_refl _) (by omega)).keep (fun c cur hc _ _ => Below.heap_setCell _ _ _ _ (show c ≠ bp by omega))
      · exact (hrB.out.wide (Nat.le_refl _) hz5).keep (by decide) (samz_set (.inl (by omega)))
      · exact (hwB.out.wide (Nat.le_refl _) hz5).keep (samz_set (.inl (by omega)))
      · rw [hzz]
        exact hrA.out.keep (by decide) (samz_set (.inl (by omega)))
      · rw [hzz]
        exact hslA.out.keep (samz_set (.inl (by omega)))
    | cons ns b t =>
      obtain ⟨⟨n, r, rfl⟩, k2, k3, k4⟩ := hok
      have tAll : TokAt L (k + (toks e).length + 1 + (toksW done).length) (toksW (.cons (n :: r) b t)) := by
        have := tW
        rw [hwd, toksW_app] at this
        exact this.right
      have hfe : toksW (.cons (n :: r) b t) = wWHEN :: ((litW n ++ (litsW r ++ wCO :: toksL b)) ++ toksW t) := by
        simp only [toksW, litsW, List.drop_succ_cons, List.drop_zero, List.append_assoc, List.cons_append]
      rw [hfe] at tAll
      have tWH : nextS L (k + (toks e).length + 1 + (toksW done).length) = wWHEN := tAll.head
      have tN := tAll.tail.left
      have hst : StopW (nextS L (k + (toks e).length + 1 + (toksW done).length + 1 + (litW n ++ (litsW r ++ wCO :: toksL b)).length)) := by
        cases t with
        | nil =>
          obtain ⟨xo, hxo, hnx⟩ := hoth.out
          have e1 : k + (toks e).length + 1 + (toksW done).length + 1 + (litW n ++ (litsW r ++ wCO :: toksL b)).length = k + (toks e).length + 1 + (toksW ws).length := by
            rw [hwd, toksW_app, hfe]
            simp only [toksW, List.append_nil, List.length_append, List.length_cons]
            omega
          rw [e1, hnx]
          rcases hxo with rfl | rfl
          · exact stop_ELSE
          · exact stop_END
        | cons ns2 b2 t2 =>
          have := tAll.tail.right
          simp only [toksW] at this
          rw [this.head]
          exact stop_WHEN
      have hdb : d + 1 + depL b ≤ 10 ∧ d + 1 + depW t ≤ 10 := by
        have h1 := hdep
        simp only [depW] at h1
        omega
      have hlen : done.len ≤ 1000000 := by
        have h1 := hps.pa.le
        have h2 := hps.pa.sm
        have h3 := lenW_le done
        omega
      replace hfu := hd hfu
      replace hwl := hd hwl
      replace hxr := hd hxr
      replace hown := hd hown
      go_wp2_with (fail)
      refine pAcc (s := wWHEN) hps tWH (by decide) _ ?_
      intro w2 h2 g2
      have hb2 := hps.apart hqb (by decide) hneq g2
      have ho2 : w2.ownsRow lo 317 2 (.slice ao done.len cp) done.len xs := own_keep hown.out (fun j hj _ _ => by
        obtain ⟨cur, hcur⟩ := own_blk hown.out hj
        exact (hps.apart hcur (by decide) (by have := (hown.out.lt j hj).1; omega) g2).trans hcur.symm)
      have hw2 := hwl.out.keep (g2.same hps (by omega) _)
      have hx2 := g2.exIn hps hxr.out (by omega)
      have f2 := hd (hfu.out.trans g2)
      have hz2 := g2.size
      have a0 := cellOf (i := 1) hb2 rfl
      have fz0 := frozOf (i := 1) hb2
      have hnbz : (Value.slice ao done.len cp).ownBlock ≠ some q := fun e => by
        obtain ⟨cur, hcur⟩ := own_blk ho2 e
        rw [hb2] at hcur
        injection hcur with hcur
        injection hcur with _ hcur
        exact absurd hcur (by decide)
      have hnb1 : some q ≠ (Value.slice ao done.len cp).ownBlock := fun e => hnbz e.symm
      have hPD := h2.bel (below_drewN (Below.refl _ w2) 1)
      have hql2 : q < w2.heap.size := by omega
      have hown2 : ∀ g, (Value.slice ao done.len cp).ownBlock = some g → g < wr.heap.size := fun g hg => (hown.out.lt g hg).2
      have hk5 : ∀ w5 uv5, Fu bp uvr uv5 (w2.drewN 1) w5 → w5.heap[q]? = some (.cells #[.iface tc uc, .slice ao done.len cp, .slice none 0 0] 314) ∧ w5.ownsRow lo 317 2 (.slice ao done.len cp) done.len xs ∧ WlIn (fun _ => 0) (Value.slice ao done.len cp).ownBlock done lo wr.heap.size w5 xs ∧ ExIn (fun _ => 0) e w.heap.size q w5 (.iface tc uc) := fun w5 uv5 g5 =>
        ⟨hPD.apart (w' := w5) hb2 (by decide) hneq g5, own_keep (w := w2.drewN 1) ho2 (fun j hj _ _ => by
          obtain ⟨cur, hcur⟩ := own_blk ho2 hj
          exact (hPD.apart (w' := w5) hcur (by decide) (by have := (ho2.lt j hj).1; omega) g5).trans hcur.symm), WlIn.keep (w := w2.drewN 1) (WlIn.keep (w := w2) (w' := w2.drewN 1) hw2 (fun _ _ _ _ _ _ _ _ => rfl)) (g5.same hPD (by omega) _), g5.exIn hPD (ExIn.keep (w := w2) hx2 (fun _ _ _ _ _ => rfl)) (by omega)⟩
      replace hk5 := hd hk5
      replace hnbz := hd hnbz
      replace hnb1 := hd hnb1
      replace hPD := hd hPD
      replace hb2 := hd hb2
      replace hown2 := hd hown2
      replace hst := hd hst
      clear g2 hown hfu hqb hwl hxr hw2 hx2 ho2
      go_wp2_with (fail)
      refine wp_nrm ?_
      go_region_law
        (first
          | (go_simp; go_at_call 237; refine when_okS k2 k3 hPD.out (by exact tN) (by exact hst.out) (by omega) hdb.1 _ ?_; intro w5 na ncp ba bcp zs uv5 mm h5 g5 y1 y2 hrn hrb hsb; have c50 : w5.cell? ⟨q, 1, none⟩ = some (.slice ao done.len cp) := cellOf (i := 1) (hk5.out _ _ g5).1 rfl; have fz5 : w5.frozen? ⟨q, 1, none⟩ = false := frozOf (i := 1) (hk5.out _ _ g5).1; have hz5 : q < w5.heap.size := Nat.lt_of_lt_of_le hql2 g5.size; have hz52 : w2.heap.size ≤ w5.heap.size := g5.size; have c5a : (w5.alloc (Obj.cells #[.slice na (r.length + 1) ncp, .slice ba b.len bcp] 317)).heap[q]? = some (.cells #[.iface tc uc, .slice ao done.len cp, .slice none 0 0] 314) := (Below.heap_alloc _ _ _ hz5).trans (hk5.out _ _ g5).1; replace c5a := hd c5a; replace g5 := hd g5; replace h5 := hd h5; replace hrn := hd hrn; replace hrb := hd hrb; replace hsb := hd hsb; go_simp)
          | (refine step_appL (by rfl) _ _ 312 (by rfl) lo 317 _ 2 48 ulWhens infoWhen rfl (by omega) _ done.len xs (by rfl) (by exact (hk5.out _ _ g5.out).2.1.alloc _) w5.heap.size 1 1 [.slice na (r.length + 1) ncp, .slice ba b.len bcp] (by rfl) (by exact allocCells) rfl (oneW _ _ _ _ _ _) (by omega) (by unfold maxLen; omega) (by omega) (by simp; omega) ?_; intro g1 cap1 w6 hown6 hgr6 hat6; have cx : w6.cell? ⟨q, 1, none⟩ = some (.slice ao done.len cp) := farZ hgr6 (cellOf (i := 1) c5a.out rfl) hnb1.out; have fx : w6.frozen? ⟨q, 1, none⟩ = false := frzZ hgr6 (frozOf (i := 1) c5a.out) (by simp; omega) hnb1.out; replace hown6 := hd hown6; replace hgr6 := hd hgr6; replace hat6 := hd hat6))
      all_goals
        have hk6 : ∀ j, j < w5.heap.size → (Value.slice ao done.len cp).ownBlock ≠ some j → w6.heap[j]? = w5.heap[j]? := fun j hj hne => (hgr6.out.block j (by simp; omega) (fun e => hne e.symm)).trans (Below.heap_alloc _ _ _ hj)
        have hz6 : w5.heap.size + 1 ≤ w6.heap.size := by have := hgr6.out.size; simp at this; omega
        obtain ⟨kq5, ko5, kw5, kx5⟩ := hk5.out _ _ g5.out
        have h6 := h5.out.grow (w' := w6) ko5 (by decide) (by omega) (by omega) hk6
        have f6 : Fu bp uv uv5 w w6 := (f2.out.trans (Fu.pre (below_drewN (Below.refl _ w2) 1) g5.out)).grow (w' := w6) (lv := Value.slice ao done.len cp) hgr6.out.os hgr6.out.tape hgr6.out.output (by omega) hk6 (fun b hb => by have := (ko5.lt b hb).1; omega)
        have hb6 : w6.heap[q]? = some (.cells #[.iface tc uc, .slice ao done.len cp, .slice none 0 0] 314) := (hk6 q hz5 hnbz.out).trans kq5
        have hsame : ∀ l2 h2, h2 ≤ w5.heap.size → Samz w5 w6 l2 h2 (Value.slice ao done.len cp).ownBlock := fun l2 h2 hh b cur T _ _ hb2 hb3 _ => hk6 b (by omega) hb3
        have hown5 := hown2.out
        have hsm0 : Samz w5 w6 w2.heap.size w5.heap.size none := fun b cur T _ hb1 hb2 _ _ => hk6 b hb2 (fun e => by have := hown5 b e; omega)
        have hne : SelL B bp pv L (d + 1) e ws (k + (toks e).length + 1) (us ++ namesE e) uv w q w.heap.size lo (.iface tc uc) (w6.setCell ⟨q, 1, none⟩ (.slice (some ⟨g1, 0, none⟩) (done.len + 1) cap1)) t := by
          have hoff : Off (some g1) w2.heap.size w5.heap.size ∧ (WlIn (fun _ => 0) (some g1) done lo wr.heap.size w6 xs) := by
            have kw6 := kw5.keep (hsame lo wr.heap.size (by omega))
            rcases hat6.out with e1 | e1
            · have e2 : (Value.slice ao done.len cp).ownBlock = some g1 := e1
              rw [e2] at kw6
              exact ⟨fun x hx => .inl (by injection hx with hx; have := hown5 g1 e2; omega), kw6⟩
            · have : g1 = w5.heap.size + 1 := by simpa using e1
              exact ⟨fun x hx => .inr (by injection hx with hx; omega), kw6.hole (fun x hx => .inr (by injection hx with hx; omega))⟩
          have hrn6 := hrn.out.keep (by decide) (hsm0.sub (Nat.le_refl _) (show mm ≤ w5.heap.size by omega) (by simp))
          have hrb6 := hrb.out.keep (by decide) (hsm0.sub (show w2.heap.size ≤ mm by exact y1) (Nat.le_refl _) (by simp))
          have hsb6 := hsb.out.keep (hsm0.sub (g' := (Value.slice ba b.len bcp).ownBlock) (show w2.heap.size ≤ mm by exact y1) (Nat.le_refl _) (by simp))
          have hsn := WlIn.snoc (hi := w6.heap.size) (ns := n :: r) (b := b) hrn6 hrb6 hsb6 y1 y2 (by omega) hoff.1 (show lo ≤ w2.heap.size by omega) (hoff.2.wide (Nat.le_refl _) hz2)
          refine ⟨⟨done.app (.cons (n :: r) b .nil), some ⟨g1, 0, none⟩, cap1, xs ++ [.slice na (r.length + 1) ncp, .slice ba b.len bcp], uv5, ?_, ?_, f6.setNew (by omega) 1 _, ?_, ?_, ?_, ?_, ?_⟩, k4, hdb.2⟩
          · rw [hwd, Wl.app_assoc]; rfl
          · have := h6.setNew hb6 (by decide) (by omega) 1 (.slice (some ⟨g1, 0, none⟩) (done.len + 1) cap1)
            rw [toksW_app, namesW_app]
            rw [show toksW (.cons (n :: r) b .nil) = wWHEN :: (litW n ++ (litsW r ++ wCO :: toksL b)) by simp only [toksW, litsW, List.drop_succ_cons, List.drop_zero, List.append_assoc, List.append_nil]]
            rw [show namesW (.cons (n :: r) b .nil) = namesL b by simp only [namesW, List.append_nil], show us ++ namesE e ++ (namesW done ++ namesL b) = us ++ namesE e ++ namesW done ++ namesL b by simp only [List.append_assoc]]
            rw [List.length_append, List.length_cons, show k + (toks e).length + 1 + ((toksW done).length + ((litW n ++ (litsW r ++ wCO :: toksL b)).length + 1)) = k + (toks e).length + 1 + (toksW done).length + 1 + (litW n ++ (litsW r ++ wCO :: toksL b)).length by omega]
            exact this
          · have hg1 : g1 ≠ q := fun e => by
              obtain ⟨cur, hcur⟩ := own_blk hown6.out (j := g1) rfl
              rw [e, hb6] at hcur
              injection hcur with hcur
              injection hcur with _ hcur
              exact absurd hcur (by decide)
            have ho := own_keep (w' := w6.setCell ⟨q, 1, none⟩ (.slice (some ⟨g1, 0, none⟩) (done.len + 1) cap1)) hown6.out (fun j hj _ _ => Below.heap_setCell _ _ _ _ (by
              simp only [Value.ownBlock, Option.some.injEq] at hj
              show j ≠ q
              omega))
            rw [Wl.len_app]
            exact ho
          · rw [World.size_setCell, Wl.len_app]
            exact hsn.keep (samz_set (.inl (by omega)))
          · have := heapSet (i := 1) hb6 (.slice (some ⟨g1, 0, none⟩) (done.len + 1) cap1)
            rw [Wl.len_app]
            exact this
          · exact (kx5.keep' (fun b cur T hT h1 h2 _ hc => hk6 b (by omega) (fun e => by have := (ko5.lt b e).1; omega))).keep (fun c cur hc hc2 _ => Below.heap_setCell _ _ _ _ (show c ≠ q by omega))
          · rw [World.size_setCell]; omega
        replace hne := hd hne
        clear h6 f6 hb6 hk6 hown6 hgr6 hat6 cx fx c50 fz5 hsm0 hsame kq5 ko5 kw5 kx5
        simp only [nrm]
        go_wp2
        go_roundg (gk - 1)
        case measure => rw [hgk]; simp only [Wl.len]; omega
        case rel => exact ⟨t, by rw [hgk]; simp only [Wl.len]; omega, hne.out⟩
set_option maxRecDepth 100000 in
set_option maxHeartbeats 2000000 in
theorem stmt_cas {e : Ex} {ws : Wl} {o : Sl} (he : ExprOk e) (hw : AllOkW ws) (ho : AllOk o) : StmtOk (.cas e ws o) := by
  intro w B bp pv L k d us uv h ht hfo hd0 hd1 R fin
  simp only [toksS, depS, namesS] at ht hfo hd1 fin
  have hs := ht.head
  have ek : ∀ X : List ByteArray, k + 1 + X.length = k + (wCASE :: X).length := fun X => by simp only [List.length_cons]; omega
  replace fin := hd fin
  go_enter Tryz.func200, Tryz.ntmps200
  go_wp2_with (fail)
  refine pNext h _ ?_
  intro w1 h1 hf1
  rw [hs]
  go_wp2_with (fail)
  refine isName_capW _ wCASE cap_CASE _ ?_
  intro w2 hb2
  have h2 := h1.only (h1.pa.below hb2) (Only.of_below hb2) (by omega)
  have hf2 := hf1.trans (Fu.of_below hb2)
  clear hf1 hb2 h1
  go_wp2_with (fail)
  refine pNot (s := wIF) h2 (by rw [hs]; kernel_rfl) _ ?_
  intro w3 h3 hf3
  go_wp2_with (fail)
  refine pAcc (s := wCASE) h3 hs (by decide) _ ?_
  intro w5 h5 hf5
  have hfA := hd ((hf2.trans hf3).trans hf5)
  have hz5 := hfA.out.size
  clear hf2 hf3 hf5 h2 h3
  go_wp2_with (fail)
  refine selection_ok he hw ho h5 (by exact ht.tail) hd0 hd1 _ ?_
  intro w6 v uv6 h6 hf6 hx6
  obtain ⟨vc, vt, vo, m1, m2, rfl, q1, q2, q3, hx, hrt, hro⟩ := hx6
  rw [ek] at h6
  have hfB := hd (hfA.out.trans hf6)
  replace hx := hd (hx.wide hz5 (Nat.le_refl _))
  replace hrt := hd hrt
  replace hro := hd hro
  replace h6 := hd h6
  clear hf6
  go_wp2
  exact cl1 (fin.out _ _ uv6 h6.out hfB.out ⟨vc, vt, vo, m1, m2, rfl, by omega, q2, q3, hx.out, hrt.out, hro.out⟩) rfl

end Go.Proofs.YtidhiaaicmfabaaGreatDoor
