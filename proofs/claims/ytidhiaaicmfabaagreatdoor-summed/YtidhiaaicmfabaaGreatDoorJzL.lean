/- Right statements. -/
import Derived.Test.YtidhiaaicmfabaaGreatDoorKaA
import Derived.WalkKit
import Derived.WalkSpells
import Derived.WalkLawsBesides
import Derived.Deep.OwnRows
import Derived.BigQuiet
import Derived.Handy
import Derived.Deep.Light
import Derived.Deep.RegionHeld3
import Derived.Deep.RegionWith
import Derived.Test.YtidhiaaicmfabaaGreatDoorJzK

/- A setting is right (seat .ZD alone). -/
namespace Go.Proofs.YtidhiaaicmfabaaGreatDoor
open Go.RowKit Go.Proofs Go.Deep

/-- A name that stands in no loop around. -/
theorem contains_no (w : World) {lv : Value} {ls : List ByteArray} (h : w.ownsRow 0 9 1 lv ls.length (strV ls)) (s : ByteArray) (hs : ∀ x ∈ ls, (s.toList == x.toList) = false) (hl : ls.length ≤ 1000) (R : Ending → World → Prop) (fin : R (.returned (.bool false)) w) : Calls Tryz.prog 313 #[lv, .string s] w R := by
  obtain ⟨ao, cp, rfl, hc, ho⟩ := own_form h
  replace fin := hd fin
  replace ho := hd ho
  go_enter Tryz.func313, Tryz.ntmps313
  go_wp2_with (fail)
  go_enter Tryz.func314, Tryz.ntmps314
  go_wp2
  go_loopw [5, 8] (fun _ iv wr => ∃ i : Nat, i ≤ ls.length ∧ iv = .int .i64 (i : Int) ∧ wr = w) (fun _ iv _ => ls.length - (intOf iv).toNat)
  case atStart => exact ⟨0, Nat.zero_le _, rfl, rfl⟩
  case round =>
    obtain ⟨i, hi, rfl, rfl⟩ := hrel
    by_cases hlt : i < ls.length
    · have td : decide ((i : Int) < (ls.length : Int)) = true := by simp; omega
      obtain ⟨x, hx⟩ : ∃ x, ls[i]? = some x := ⟨_, List.getElem?_eq_getElem hlt⟩
      obtain ⟨g, rfl, _, hgs, hg⟩ := ho.out (by omega)
      have c1 : wr.cell? ⟨g, i, none⟩ = some (.string x) := hg i _ (by unfold strV; rw [List.getElem?_map, hx]; rfl)
      have j0 : (0 : Int) ≤ (i : Int) ∧ (i : Int) < (ls.length : Int) := by omega
      have tx := hs x (List.mem_of_getElem? hx)
      clear hg h hs
      go_wp2
      exact ⟨⟨i + 1, by omega, by go_num, by first | rfl | trivial⟩, by simp [intOf]; omega⟩
    · have td : decide ((i : Int) < (ls.length : Int)) = false := by simp; omega
      go_wp2
      exact cl1 fin.out rfl
theorem beq_ne {s t : ByteArray} (h : s ≠ t) : (s.toList == t.toList) = false := beq_eq_false_iff_ne.2 (fun e => h (by
  rw [ByteArray.toList_eq, ByteArray.toList_eq] at e
  cases s; cases t
  congr 1
  exact Array.toList_inj.1 e))
/-- Whether a statement is right; ls: the names of the loops around. -/
def wtSet (vs : List Vd) (ls : List ByteArray) (s : ByteArray) (e : Ex) : Bool :=
  match lookV vs s with
  | some v => !v.arr && wtE vs e && (decide (kE vs e = (v.kind : Int)) || (decide (kE vs e = 1) && decide (v.kind = 2))) && decide (v.kind ≠ 3) && decide (v.role ≠ 0) && !(ls.any (fun x => decide (s = x)))
  | none => false
def sfn : Stz → Nat
  | .set _ _ => 310
  | .setx _ _ _ => 310
  | .ife _ _ _ => 315
  | .cas _ _ _ => 319
  | .loop _ _ _ _ => 325
theorem meth_check {kk : Ex → Int} {s : Stz} {lo hi t : Nat} {w : World} {u : Value} (h : StIn kk s lo hi w (.iface t u)) : Meth "sluice/sluice.check" t u (sfn s) := by
  cases s with
  | set n e => obtain ⟨_, h, _⟩ := h; injection h with h1 h2; subst h1; exact ⟨fun _ => by kernel_rfl, fun _ _ => by kernel_rfl⟩
  | setx n i e => obtain ⟨_, _, _, h, _⟩ := h; injection h with h1 h2; subst h1; exact ⟨fun _ => by kernel_rfl, fun _ _ => by kernel_rfl⟩
  | ife c a b => obtain ⟨_, _, _, _, _, h, _⟩ := h; injection h with h1 h2; subst h1; exact ⟨fun _ => by kernel_rfl, fun _ _ => by kernel_rfl⟩
  | cas c a b => obtain ⟨_, _, _, _, _, h, _⟩ := h; injection h with h1 h2; subst h1; exact ⟨fun _ => by kernel_rfl, fun _ _ => by kernel_rfl⟩
  | loop c a b d => obtain ⟨_, h, _⟩ := h; injection h with h1 h2; subst h1; exact ⟨fun _ => by kernel_rfl, fun _ _ => by kernel_rfl⟩
/-- The checker finds a statement right. -/
def CheckOk (vs : List Vd) (ls : List ByteArray) (s : Stz) : Prop := ∀ {bc bm lo hi t : Nat} {fst : Nat → Int} {bs : List Nat} {lv u : Value} {w : World}, Env bc bm fst vs bs lv ls w → StIn (fun _ => 0) s lo hi w (.iface t u) →
    ∀ (R : Ending → World → Prop), (∀ w', Kf lo hi w w' → StIn (kE vs) s lo hi w' (.iface t u) → R (.returned (.tuple #[])) w') → Calls Tryz.prog (sfn s) #[u, .pointer (some ⟨bc, 0, none⟩)] w R
set_option maxRecDepth 100000 in
set_option maxHeartbeats 4000000 in
theorem check_set {vs : List Vd} {ls : List ByteArray} {s : ByteArray} {e : Ex} (he : KindOk vs e) (hw : wtSet vs ls s e = true) (hls : ls.length ≤ 1000) : CheckOk vs ls (.set s e) := by
  intro bc bm lo hi t fst bs lv u w h hx R fin
  unfold wtSet at hw
  cases hv : lookV vs s with
  | none => rw [hv] at hw; cases hw
  | some v =>
    rw [hv] at hw
    simp only [Bool.and_eq_true, Bool.not_eq_true', Bool.or_eq_true, decide_eq_true_eq] at hw
    obtain ⟨⟨⟨⟨⟨hw1, hw2⟩, hw3⟩, hw4⟩, hw5⟩, hw6⟩ := hw
    obtain ⟨ve, hve, hxe⟩ := hx
    injection hve with e1 e2
    subst e1 e2
    obtain ⟨te, ue, rfl⟩ := hxe.iface
    have me := meth_kind hxe
    have me1 := me.m
    have me2 := me.c
    simp only [sfn]
    have cE := hd (fun (W : World) => @he bc bm lo hi te fst bs lv ue ls W)
    clear he me
    have hkk : ∃ kk, kE vs e = kk := ⟨_, rfl⟩
    obtain ⟨kk, hkk⟩ := hkk
    rw [hkk] at hw3 cE
    generalize kfn e = FE at *
    replace fin := hd fin
    have hA := hd (h.kf (lo := 0) (hi := 0) (Kf.of_below ((Below.refl _ w).alloc (Nat.le_refl _) (Obj.cells #[.string s, .nilIface, .iface te ue] 309))))
    have hxA := hd (hxe.keep (w' := w.alloc (Obj.cells #[.string s, .nilIface, .iface te ue] 309)) (fun b cur _ _ hc => Below.heap_alloc _ _ _ (Array.getElem?_eq_some_iff.1 hc).1))
    have hnewb : (w.alloc (Obj.cells #[.string s, .nilIface, .iface te ue] 309)).heap[w.heap.size]? = some (.cells #[.string s, .nilIface, .iface te ue] 309) := allocCells
    have q0 : (w.alloc (Obj.cells #[.string s, .nilIface, .iface te ue] 309)).cell? ⟨w.heap.size, 0, none⟩ = some (.string s) := cellOf (i := 0) hnewb rfl
    have q1 : (w.alloc (Obj.cells #[.string s, .nilIface, .iface te ue] 309)).cell? ⟨w.heap.size, 1, none⟩ = some .nilIface := cellOf (i := 1) hnewb rfl
    have q2 : (w.alloc (Obj.cells #[.string s, .nilIface, .iface te ue] 309)).cell? ⟨w.heap.size, 2, none⟩ = some (.iface te ue) := cellOf (i := 2) hnewb rfl
    have hzl : w.heap.size < (w.alloc (Obj.cells #[.string s, .nilIface, .iface te ue] 309)).heap.size := by simp
    replace hnewb := hd hnewb
    replace h := hd h
    replace hxe := hd hxe
    go_enter Tryz.func310, Tryz.ntmps310
    go_wp2_with (fail)
    generalize hZ : w.alloc (Obj.cells #[.string s, .nilIface, .iface te ue] 309) = Z at *
    generalize hz : w.heap.size = z at *
    replace hZ := hd hZ
    replace hz := hd hz
    have hkz : ∀ (X : World), X.heap[z]? = Z.heap[z]? → X.cell? ⟨z, 0, none⟩ = some (.string s) ∧ X.cell? ⟨z, 1, none⟩ = some .nilIface ∧ X.cell? ⟨z, 2, none⟩ = some (.iface te ue) := fun X hX => by
      rw [World.cell?_of_block (w := Z) (a := ⟨z, 0, none⟩) hX, World.cell?_of_block (w := Z) (a := ⟨z, 1, none⟩) hX, World.cell?_of_block (w := Z) (a := ⟨z, 2, none⟩) hX]
      exact ⟨q0, q1, q2⟩
    have hbz : ∀ (X : World), Below Z.heap.size Z.drew X → X.heap[z]? = Z.heap[z]? := fun X hX => hX.block z hzl
    have hkfz : ∀ (X Y : World), Kf lo hi X Y → X.heap[z]? = Z.heap[z]? → Y.heap[z]? = Z.heap[z]? := fun X Y hk hX => (hk.tag (hX.trans hnewb.out) (by decide)).trans hX
    replace hkz := hd hkz
    replace hbz := hd hbz
    replace hkfz := hd hkfz
    go_region_held3 (fun w' => w'.cell? ⟨z, 0, none⟩ = some (.string s) ∧ w'.cell? ⟨z, 1, none⟩ = some .nilIface ∧ w'.cell? ⟨z, 2, none⟩ = some (.iface te ue)) (first | exact hkz.out _ (hbz.out _ b1.out) | exact hkz.out _ (hkfz.out _ _ k2.out (hbz.out _ b1.out)) | go_keep)
      (first
        | (go_at_call 308; refine kind_plc (by exact hA.out.drew) hv hw1 _ ?_; intro w1 b1; replace b1 := hd b1)
        | (refine cE.out _ (by exact hA.out.drew.kf (lo := 0) (hi := 0) (Kf.of_below b1.out)) (by exact hxA.out.drew.kf (lo := 0) (hi := 0) (Kf.of_below b1.out) (.inl (Nat.zero_le _))) _ ?_; intro w2 k2 hx2; replace k2 := hd k2; replace hx2 := hd hx2))
    have hz2 := hkfz.out _ _ k2.out (hbz.out _ b1.out)
    obtain ⟨r0, r1, r2⟩ := hkz.out _ hz2
    have env1 := hA.out.drew.kf (lo := 0) (hi := 0) (Kf.of_below b1.out)
    have env2 := env1.kf k2.out
    obtain ⟨i, b, h1, h2, h3⟩ := look_find vs bs s v env2.vars.len hv
    obtain ⟨_, hrow⟩ := env2.vars.row i v b h1 h2
    obtain ⟨hm, hnm⟩ := lookV_mem vs s v hv
    have hsz : s.size ≤ maxLen := by rw [← hnm]; have := (env2.names v hm).le; unfold maxLen; omega
    have c0 : w2.cell? ⟨bc, 0, none⟩ = some (.map (some bm)) := env2.ck.cell (i := 0) (by omega)
    have c1 : w2.cell? ⟨bc, 1, none⟩ = some lv := env2.ck.cell (i := 1) (by omega)
    have lb := env2.ck.lt
    have b1' : w2.cell? ⟨b, 1, none⟩ = some (.int .u8 (v.role : Int)) := hrow.cell (i := 1) (by omega)
    have hl : ∀ n, (Instr.lookup 90 (.map (some bm)) (.string s) false).run Tryz.prog (w2.drewN n) = .ok (.pointer (some ⟨b, 0, none⟩)) (w2.drewN n) := fun n => by
      have hnm2 : NmAt (w2.drewN n) bm vs.length (findB vs bs) := env2.nm
      have hl := hnm2.look s hsz
      rw [h3] at hl
      exact hl
    have hcon : ∀ n (R : Ending → World → Prop), R (.returned (.bool false)) (w2.drewN n) → Calls Tryz.prog 313 #[lv, .string s] (w2.drewN n) R := fun n R hR => contains_no (w2.drewN n) env2.loops s (fun x hx => beq_ne (fun e => by
      subst e
      have : (ls.any (fun x => decide (s = x))) = true := List.any_eq_true.2 ⟨s, hx, by simp⟩
      rw [this] at hw6
      cases hw6)) hls R hR
    have t3 : ((v.kind : Int) != 3) = true := by simp; omega
    have t4 : ((v.role : Int) != 0) = true := by simp; omega
    have hKw : Kf lo hi w w2 := by
      have hb0 : Below w.heap.size w Z := by rw [← hZ.out]; exact (Below.refl _ w).alloc (Nat.le_refl _) _
      have hbZ : Below w.heap.size w w1 := hb0.trans ((below_drewN (Below.refl _ Z) 1).trans (b1.out.mono (show w.heap.size ≤ Z.heap.size by have := hz.out; omega)))
      exact (Kf.of_below hbZ).trans k2.out
    have hstw : StIn (kE vs) (.set s e) lo hi w2 (.iface 309 (.agg #[.string s, .nilIface, .iface te ue])) := ⟨_, rfl, hx2.out⟩
    replace hKw := hd hKw
    replace hstw := hd hstw
    replace hcon := hd hcon
    replace hrow := hd hrow
    replace env2 := hd env2
    have hgo : ∀ n m, R (.returned (.tuple #[])) ((w2.drewN n).drewN m) := fun n m => fin.out ((w2.drewN n).drewN m) (hKw.out.trans (Kf.of_below (below_drewN (below_drewN (Below.refl _ w2) n) m))) (hstw.out.keep (fun _ _ _ _ _ _ _ _ => rfl))
    replace hgo := hd hgo
    clear b1 k2 hx2 env1 hz2 hkz hbz hkfz h1 h2 h3 hm hnm q0 q1 q2 cE hv me1 me2 hnewb fin
    have hcase : (kk == (v.kind : Int)) = true ∨ ((kk == (v.kind : Int)) = false ∧ (kk == 1) = true ∧ ((v.kind : Int) == 2) = true) := by
      rcases hw3 with e | ⟨e1, e2⟩
      · left; simpa using e
      · right
        rw [e1, e2]
        decide
    rcases hcase with t1 | ⟨t1, t1', t1''⟩
    all_goals
      go_wp2_with (first | (go_at_call 69; refine want_ok _ _ _ ?_))
      go_quiet (first | (go_at_call 69; exact want_ok _ _ _ ⟨rfl, _, rfl⟩))
      go_wp2_with (fail)
      go_quiet (first | (go_at_call 313; exact hcon.out _ _ ⟨rfl, _, rfl⟩) | (go_at_call 69; exact want_ok _ _ _ ⟨rfl, _, rfl⟩))
      go_wp2
      go_end0
      exact hgo.out _ _

end Go.Proofs.YtidhiaaicmfabaaGreatDoor

/- Statements are right (seat .ZD alone). -/
namespace Go.Proofs.YtidhiaaicmfabaaGreatDoor
open Go.RowKit Go.Proofs Go.Deep

def AllCk (vs : List Vd) (ls : List ByteArray) : Sl → Prop
  | .nil => True
  | .cons h t => CheckOk vs ls h ∧ AllCk vs ls t
theorem SlIn.kf {kk : Ex → Int} {g : Option Nat} {l : Sl} {lo hi lo2 hi2 : Nat} {w w' : World} {xs : List Value} (h : SlIn kk g l lo2 hi2 w xs) (k : Kf lo hi w w') (hd : hi ≤ lo2 ∨ hi2 ≤ lo) : SlIn kk g l lo2 hi2 w' xs :=
  h.keep (fun b cur _ _ h1 h2 _ hc => k.block b (Array.getElem?_eq_some_iff.1 hc).1 (fun _ _ => by omega))
theorem Sl.len_app : ∀ a b : Sl, (a.app b).len = a.len + b.len
  | .nil, b => by simp only [Sl.app, Sl.len]; omega
  | .cons _ t, b => by simp only [Sl.app, Sl.len, Sl.len_app t b]; omega
/-- Where the checker stands in a list of statements. -/
structure CkL (vs : List Vd) (ls : List ByteArray) (bc bm : Nat) (fst : Nat → Int) (bs : List Nat) (lv : Value) (g : Option Nat) (l : Sl) (lo hi : Nat) (xs : List Value) (w : World) (i : Nat) (wr : World) (rest : Sl) : Prop where
  ex : ∃ done xs1 xs2 m, l = done.app rest ∧ xs = xs1 ++ xs2 ∧ i = done.len ∧ SlIn (kE vs) g done lo m wr xs1 ∧ SlIn (fun _ => 0) g rest m hi wr xs2 ∧ lo ≤ m ∧ m ≤ hi
  env : Env bc bm fst vs bs lv ls wr
  kf : Kf lo hi w wr
  ok : AllCk vs ls rest
set_option maxRecDepth 100000 in
set_option maxHeartbeats 4000000 in
theorem checks_ok {vs : List Vd} {ls : List ByteArray} {l : Sl} (hl : AllCk vs ls l) (hlen : l.len ≤ 1000000) {bc bm lo hi base : Nat} {fst : Nat → Int} {bs : List Nat} {lv bv : Value} {g : Option Nat} {xs : List Value} {w : World} (h : Env bc bm fst vs bs lv ls w) (hown : w.ownsRow base 240 1 bv l.len xs) (hx : SlIn (fun _ => 0) g l lo hi w xs) (hlh : lo ≤ hi)
    (R : Ending → World → Prop) (fin : ∀ w', Kf lo hi w w' → SlIn (kE vs) g l lo hi w' xs → R (.returned (.tuple #[])) w') : Calls Tryz.prog 70 #[.pointer (some ⟨bc, 0, none⟩), bv] w R := by
  obtain ⟨bo, bcp, rfl, hcp, hbo⟩ := own_form hown
  have hstart : CkL vs ls bc bm fst bs lv g l lo hi xs w 0 w l := ⟨⟨.nil, [], xs, lo, rfl, rfl, rfl, rfl, hx, Nat.le_refl _, hlh⟩, h, Kf.refl _ _ _, hl⟩
  replace fin := hd fin
  replace hstart := hd hstart
  replace hbo := hd hbo
  replace hown := hd hown
  clear hx h
  go_enter Tryz.func70, Tryz.ntmps70
  go_wp2
  go_loopw [5, 8] (fun _ iv wr => ∃ (i : Nat) (rest : Sl), iv = .int .i64 (i : Int) ∧ CkL vs ls bc bm fst bs lv g l lo hi xs w i wr rest) (fun _ iv _ => l.len - (intOf iv).toNat)
  case atStart => exact ⟨0, l, rfl, hstart.out⟩
  case round =>
    obtain ⟨i, rest, rfl, ⟨done, xs1, xs2, m, happ, hxs, hie, hs1, hs2, hm1, hm2⟩, henv, hkf, hok⟩ := hrel
    have hll : l.len = done.len + rest.len := by rw [happ, Sl.len_app]
    cases rest with
    | nil =>
      simp only [Sl.len] at hll
      have td : decide ((i : Int) < (l.len : Int)) = false := by simp; omega
      have hnl : ¬ i < l.len := by omega
      rw [show xs2 = [] from hs2, List.append_nil] at hxs
      rw [Sl.app_nil] at happ
      subst happ
      subst hxs
      have hs3 := hd (hs1.wide (Nat.le_refl _) hm2)
      replace hkf := hd hkf
      clear henv hs1 hs2 hll hie hm1 hm2
      go_wp2
      go_end0
      exact fin.out _ hkf.out hs3.out
    | cons s t =>
      simp only [Sl.len] at hll
      have td : decide ((i : Int) < (l.len : Int)) = true := by simp; omega
      have hnl : i < l.len := by omega
      obtain ⟨v, ys, a, b, m2, hx2, p1, p2, p3, p4, p5, p6, p7⟩ := hs2
      obtain ⟨tv, uv, rfl⟩ := p6.iface
      have mc := meth_check p6
      have mc1 := mc.m
      have mc2 := mc.c
      obtain ⟨gb, rfl, hgl, hgs, hg⟩ := hbo.out (by omega)
      have hlen1 : xs1.length = done.len := hs1.len
      have hxi : xs[i]? = some (.iface tv uv) := by rw [hxs, hx2, hie, ← hlen1, List.getElem?_append_right (Nat.le_refl _), Nat.sub_self]; rfl
      have hcw := hg i _ hxi
      obtain ⟨gcur, hgc⟩ : ∃ cur, w.heap[gb]? = some (.cells cur 240 (0, 0)) := by
        rcases hown.out.2 with ⟨e1, e2⟩ | ⟨g', cap, cur, e1, _, hg', _⟩
        · injection e1 with e1; cases e1
        · injection e1 with e1 _ _
          injection e1 with e1
          injection e1 with e1
          subst e1
          exact ⟨cur, hg'⟩
      have c1 : wr.cell? ⟨gb, i, none⟩ = some (.iface tv uv) := by
        rw [World.cell?_of_block (w := w) (a := ⟨gb, i, none⟩) (hkf.tag hgc (by decide))]
        exact hcw
      have j0 : (0 : Int) ≤ (i : Int) ∧ (i : Int) < (l.len : Int) := by omega
      have hck : CheckOk vs ls s := hok.1
      have cC := hd (fun (W : World) => @hck bc bm a b tv fst bs lv uv W)
      generalize sfn s = FS at *
      replace henv := hd henv
      replace hkf := hd hkf
      replace p6 := hd p6
      replace p7 := hd p7
      replace hs1 := hd hs1
      replace hll := hd hll
      replace hie := hd hie
      replace happ := hd happ
      replace hxs := hd hxs
      replace hx2 := hd hx2
      clear hg hgc hcw mc hck
      go_wp2_with (fail)
      refine cC.out _ henv.out p6.out _ ?_
      intro w1 k1 hx1
      have hd1 := hs1.out.kf k1 (.inr (by omega))
      have hd2 := p7.out.kf k1 (.inl (by omega))
      have hne : CkL vs ls bc bm fst bs lv g l lo hi xs w (i + 1) w1 t := by
        refine ⟨⟨done.app (.cons s .nil), xs1 ++ [.iface tv uv], ys, m2, ?_, ?_, ?_, SlIn.snoc hx1 p2 p3 p5 (by omega) (hd1.wide (Nat.le_refl _) p1), hd2, by omega, p4⟩, henv.out.kf k1, hkf.out.trans (k1.wide (by omega) (by omega)), hok.2⟩
        · rw [happ.out, Sl.app_assoc]; rfl
        · rw [hxs.out, hx2.out, List.append_assoc]; rfl
        · rw [Sl.len_app, hie.out]; rfl
      replace hne := hd hne
      clear hd1 hd2 hx1 k1 hs1 p6 p7 henv hkf
      go_wp2
      exact ⟨⟨i + 1, t, by go_num, hne.out⟩, by have := hll.out; have := hie.out; simp [intOf]; omega⟩

end Go.Proofs.YtidhiaaicmfabaaGreatDoor

/- wellTyped at a right text (seat .ZD alone). -/
namespace Go.Proofs.YtidhiaaicmfabaaGreatDoor
open Go.RowKit Go.Proofs Go.Deep

def wtV (v : Vd) : Bool := (decide (v.kind ≠ 3) || decide (v.role = 2)) && decide (1 ≤ v.len) && decide (v.len ≤ 16)
set_option maxRecDepth 100000 in
set_option maxHeartbeats 4000000 in
theorem typed_ok {lo bm : Nat} {w : World} {vs : List Vd} {bs : List Nat} {us : List ByteArray} {body : Sl} {xs : List Value} {vv uv bv : Value} (h : PgIn lo w vs bs us body xs vv uv bv) (hnm : NmAt w bm vs.length (findB vs bs)) (hlow : ∀ v ∈ vs, LowName v.name) (hwv : ∀ v ∈ vs, wtV v = true) (hck : AllCk vs [] body) (hvl : vs.length ≤ 1000000) (hbl : body.len ≤ 1000000) (hlo : lo ≤ w.heap.size)
    (R : Ending → World → Prop) (fin : ∀ w', Kf lo w.heap.size w w' → SlIn (kE vs) bv.ownBlock body lo w.heap.size w' xs → R (.returned (.bool true)) w') :
    Calls Tryz.prog 43 #[.agg #[vv, uv, bv], .map (some bm)] w R := by
  obtain ⟨vo, vc, rfl, hvc, hvo⟩ := own_form h.vown
  obtain ⟨uo, uc, rfl⟩ := own_slS h.used
  obtain ⟨bo, bc, rfl⟩ := own_slS h.bown
  replace fin := hd fin
  replace hvo := hd hvo
  obtain ⟨W0, hW0⟩ : ∃ W0, W0 = (w.alloc (Obj.cells #[.slice vo vs.length vc, .slice uo us.length uc, .slice bo body.len bc] 87)).alloc (Obj.cells #[.map (some bm), .slice none 0 0, .bool false] 149) := ⟨_, rfl⟩
  have hbel : Below w.heap.size w W0 := by rw [hW0]; exact ((Below.refl _ w).alloc (Nat.le_refl _) _).alloc (by simp) _
  have hbx : W0.heap[w.heap.size]? = some (.cells #[.slice vo vs.length vc, .slice uo us.length uc, .slice bo body.len bc] 87) := by rw [hW0]; exact (Below.heap_alloc _ _ _ (by simp)).trans allocCells
  have hck0 : W0.heap[w.heap.size + 1]? = some (.cells #[.map (some bm), .slice none 0 0, .bool false] 149) := by
    rw [hW0]
    have := allocCells (w := w.alloc (Obj.cells #[.slice vo vs.length vc, .slice uo us.length uc, .slice bo body.len bc] 87)) (cur := #[.map (some bm), .slice none 0 0, .bool false]) (T := 149) (fz := (0, 0))
    simpa using this
  replace hW0 := hd hW0
  go_enter Tryz.func43, Tryz.ntmps43
  go_wp2
  go_loopw [7, 13] (fun _ iv wr => ∃ i : Nat, i ≤ vs.length ∧ iv = .int .i64 (i : Int) ∧ wr = W0) (fun _ iv _ => vs.length - (intOf iv).toNat)
  case atStart => exact ⟨0, Nat.zero_le _, rfl, by rw [hW0.out]⟩
  case round =>
    obtain ⟨i, hi, rfl, rfl⟩ := hrel
    by_cases hlt : i < vs.length
    · have td : decide ((i : Int) < (vs.length : Int)) = true := by simp; omega
      obtain ⟨v, hv⟩ : ∃ v, vs[i]? = some v := ⟨_, List.getElem?_eq_getElem hlt⟩
      obtain ⟨b, hb⟩ : ∃ b, bs[i]? = some b := ⟨_, List.getElem?_eq_getElem (by rw [h.vars.len]; exact hlt)⟩
      obtain ⟨g, rfl, hgl, hgs, hg⟩ := hvo.out (by omega)
      obtain ⟨hblo, hbr⟩ := h.vars.row i v b hv hb
      have hblt := hbr.lt
      have hwt := hwv v (List.mem_of_getElem? hv)
      simp only [wtV, Bool.and_eq_true, Bool.or_eq_true, decide_eq_true_eq] at hwt
      obtain ⟨⟨hw1, hw2⟩, hw3⟩ := hwt
      have c1 : wr.cell? ⟨g, i, none⟩ = some (.pointer (some ⟨b, 0, none⟩)) := (hbel.cell (p := ⟨g, i, none⟩) hgs).trans (hg i _ (by unfold ptzV; rw [List.getElem?_map, hb]; rfl))
      have c2 : wr.cell? ⟨b, 2, none⟩ = some (.int .u8 (v.kind : Int)) := (hbel.cell (p := ⟨b, 2, none⟩) hblt).trans (hbr.cell (i := 2) (by omega))
      have c3 : wr.cell? ⟨b, 1, none⟩ = some (.int .u8 (v.role : Int)) := (hbel.cell (p := ⟨b, 1, none⟩) hblt).trans (hbr.cell (i := 1) (by omega))
      have c4 : wr.cell? ⟨b, 4, none⟩ = some (.int .i64 v.len) := (hbel.cell (p := ⟨b, 4, none⟩) hblt).trans (hbr.cell (i := 4) (by omega))
      have j0 : (0 : Int) ≤ (i : Int) ∧ (i : Int) < (vs.length : Int) := by omega
      have t1 : decide (1 ≤ v.len) = true := by simpa using hw2
      have t2 : decide (v.len ≤ 16) = true := by simpa using hw3
      have hcase : ((v.kind : Int) != 3) = true ∨ (((v.kind : Int) != 3) = false ∧ ((v.role : Int) == 2) = true) := by
        by_cases e : v.kind = 3
        · right
          refine ⟨by simp; omega, ?_⟩
          rcases hw1 with h | h
          · exact absurd e h
          · simp; omega
        · left; simp; omega
      clear hg hbr hv hb
      rcases hcase with t3 | ⟨t3, t4⟩
      all_goals
        go_wp2_with (first | (go_at_call 69; refine want_ok _ _ _ ?_))
        exact ⟨⟨i + 1, by omega, by go_num, by first | rfl | trivial⟩, by simp [intOf]; omega⟩
    · have td : decide ((i : Int) < (vs.length : Int)) = false := by simp; omega
      have u2 : wr.cell? ⟨w.heap.size, 2, none⟩ = some (.slice bo body.len bc) := cellOf (i := 2) hbx rfl
      have henv : Env (w.heap.size + 1) bm (fun _ => 0) vs bs (.slice none 0 0) [] wr := by
        refine ⟨rowOf hck0 rfl (fun i hi => ?_), hnm.keep (hbel.block _ hnm.lt), (h.vars.low (Nat.zero_le _)).keep (fun b _ _ hc => hbel.block b (Array.getElem?_eq_some_iff.1 hc).1), World.ownsRow_nil _ _ _ _, hlow⟩
        have : i = 0 ∨ i = 1 ∨ i = 2 := by omega
        rcases this with rfl | rfl | rfl <;> rfl
      have hbown : wr.ownsRow lo 240 1 (.slice bo body.len bc) body.len xs := own_keep h.bown (fun j _ _ hj => hbel.block j hj)
      have hbody : SlIn (fun _ => 0) (Value.slice bo body.len bc).ownBlock body lo w.heap.size wr xs := h.body.keep (fun b _ _ _ _ h2 _ _ => hbel.block b h2)
      replace hbx := hd hbx
      replace hck0 := hd hck0
      go_wp2_with (fail)
      refine checks_ok hck hbl henv hbown hbody hlo _ ?_
      intro w1 k1 hx1
      have cw : w1.cell? ⟨w.heap.size + 1, 2, none⟩ = some (.bool false) := by
        rw [World.cell?_of_block (w := wr) (a := ⟨w.heap.size + 1, 2, none⟩) (k1.tag hck0.out (by decide))]
        exact cellOf (i := 2) hck0.out rfl
      have hK := hd ((Kf.of_below hbel).trans k1)
      replace hx1 := hd hx1
      clear k1 henv hbown hbody
      go_wp2
      exact cl1 (fin.out _ hK.out hx1.out) rfl

end Go.Proofs.YtidhiaaicmfabaaGreatDoor
