/- Right statements. -/
import Derived.Test.YtidhiaaicmfabaaGreatDoorKaA
import Derived.WalkKit
import Derived.WalkSpells
import Derived.WalkLawsBesides
import Derived.Deep.OwnRows
import Derived.BigQuiet
import Derived.Handy
import Derived.Deep.Light
import Derived.Deep.RegionHeld3
import Derived.Deep.RegionWith
import Derived.Test.YtidhiaaicmfabaaGreatDoorJyK

/- A setting is right (seat .ZD alone). -/
namespace Go.Proofs.YtidhiaaicmfabaaGreatDoor
open Go.RowKit Go.Proofs Go.Deep

/-- A name that stands in no loop around. -/
theorem contains_no (w : World) {lv : Value} {ls : List ByteArray} (h : w.ownsRow 0 9 1 lv ls.length (strV ls)) (s : ByteArray) (hs : ∀ x ∈ ls, (s.toList == x.toList) = false) (hl : ls.length ≤ 1000) (R : Ending → World → Prop) (fin : R (.returned (.bool false)) w) : Calls Tryz.prog 313 #[lv, .string s] w R := by
  obtain ⟨ao, cp, rfl, hc, ho⟩ := own_form h
  replace fin := hd fin
  replace ho := hd ho
  go_enter Tryz.func313, Tryz.ntmps313
  go_wp2_with (fail)
  go_enter Tryz.func314, Tryz.ntmps314
  go_wp2
  go_loopw [5, 8] (fun _ iv wr => ∃ i : Nat, i ≤ ls.length ∧ iv = .int .i64 (i : Int) ∧ wr = w) (fun _ iv _ => ls.length - (intOf iv).toNat)
  case atStart => exact ⟨0, Nat.zero_le _, rfl, rfl⟩
  case round =>
    obtain ⟨i, hi, rfl, rfl⟩ := hrel
    by_cases hlt : i < ls.length
    · have td : decide ((i : Int) < (ls.length : Int)) = true := by simp; omega
      obtain ⟨x, hx⟩ : ∃ x, ls[i]? = some x := ⟨_, List.getElem?_eq_getElem hlt⟩
      obtain ⟨g, rfl, _, hgs, hg⟩ := ho.out (by omega)
      have c1 : wr.cell? ⟨g, i, none⟩ = some (.string x) := hg i _ (by unfold strV; rw [List.getElem?_map, hx]; rfl)
      have j0 : (0 : Int) ≤ (i : Int) ∧ (i : Int) < (ls.length : Int) := by omega
      have tx := hs x (List.mem_of_getElem? hx)
      clear hg h hs
      go_wp2
      exact ⟨⟨i + 1, by omega, by go_num, by first | rfl | trivial⟩, by simp [intOf]; omega⟩
    · have td : decide ((i : Int) < (ls.length : Int)) = false := by simp; omega
      go_wp2
      exact cl1 fin.out rfl
theorem beq_ne {s t : ByteArray} (h : s ≠ t) : (s.toList == t.toList) = false := beq_eq_false_iff_ne.2 (fun e => h (by
  rw [ByteArray.toList_eq, ByteArray.toList_eq] at e
  cases s; cases t
  congr 1
  exact Array.toList_inj.1 e))
/-- Whether a statement is right; ls: the names of the loops around. -/
def wtSet (vs : List Vd) (ls : List ByteArray) (s : ByteArray) (e : Ex) : Bool :=
  match lookV vs s with
  | some v => !v.arr && wtE vs e && (decide (kE vs e = (v.kind : Int)) || (decide (kE vs e = 1) && decide (v.kind = 2))) && decide (v.kind ≠ 3) && decide (v.role ≠ 0) && !(ls.any (fun x => decide (s = x)))
  | none => false
def sfn : Stz → Nat
  | .set _ _ => 310
  | .setx _ _ _ => 310
  | .ife _ _ _ => 315
  | .cas _ _ _ => 319
  | .loop _ _ _ _ => 325
theorem meth_check {kk : Ex → Int} {s : Stz} {lo hi t : Nat} {w : World} {u : Value} (h : StIn kk s lo hi w (.iface t u)) : Meth "sluice/sluice.check" t u (sfn s) := by
  cases s with
  | set n e => obtain ⟨_, h, _⟩ := h; injection h with h1 h2; subst h1; exact ⟨fun _ => by kernel_rfl, fun _ _ => by kernel_rfl⟩
  | setx n i e => obtain ⟨_, _, _, h, _⟩ := h; injection h with h1 h2; subst h1; exact ⟨fun _ => by kernel_rfl, fun _ _ => by kernel_rfl⟩
  | ife c a b => obtain ⟨_, _, _, _, _, h, _⟩ := h; injection h with h1 h2; subst h1; exact ⟨fun _ => by kernel_rfl, fun _ _ => by kernel_rfl⟩
  | cas c a b => obtain ⟨_, _, _, _, _, h, _⟩ := h; injection h with h1 h2; subst h1; exact ⟨fun _ => by kernel_rfl, fun _ _ => by kernel_rfl⟩
  | loop c a b d => obtain ⟨_, h, _⟩ := h; injection h with h1 h2; subst h1; exact ⟨fun _ => by kernel_rfl, fun _ _ => by kernel_rfl⟩
/-- The checker finds a statement right. -/
def CheckOk (vs : List Vd) (ls : List ByteArray) (s : Stz) : Prop := ∀ {bc bm lo hi t : Nat} {fst : Nat → Int} {bs : List Nat} {lv u : Value} {w : World}, Env bc bm fst vs bs lv ls w → StIn (fun _ => 0) s lo hi w (.iface t u) →
    ∀ (R : Ending → World → Prop), (∀ w', Kf lo hi w w' → StIn (kE vs) s lo hi w' (.iface t u) → R (.returned (.tuple #[])) w') → Calls Tryz.prog (sfn s) #[u, .pointer (some ⟨bc, 0, none⟩)] w R
set_option maxRecDepth 100000 in
set_option maxHeartbeats 4000000 in
theorem check_set {vs : List Vd} {ls : List ByteArray} {s : ByteArray} {e : Ex} (he : KindOk vs e) (hw : wtSet vs ls s e = true) (hls : ls.length ≤ 1000) : CheckOk vs ls (.set s e) := by
  intro bc bm lo hi t fst bs lv u w h hx R fin
  unfold wtSet at hw
  cases hv : lookV vs s with
  | none => rw [hv] at hw; cases hw
  | some v =>
    rw [hv] at hw
    simp only [Bool.and_eq_true, Bool.not_eq_true', Bool.or_eq_true, decide_eq_true_eq] at hw
    obtain ⟨⟨⟨⟨⟨hw1, hw2⟩, hw3⟩, hw4⟩, hw5⟩, hw6⟩ := hw
    obtain ⟨ve, hve, hxe⟩ := hx
    injection hve with e1 e2
    subst e1 e2
    obtain ⟨te, ue, rfl⟩ := hxe.iface
    have me := meth_kind hxe
    have me1 := me.m
    have me2 := me.c
    simp only [sfn]
    have cE := hd (fun (W : World) => @he bc bm lo hi te fst bs lv ue ls W)
    clear he me
    have hkk : ∃ kk, kE vs e = kk := ⟨_, rfl⟩
    obtain ⟨kk, hkk⟩ := hkk
    rw [hkk] at hw3 cE
    generalize kfn e = FE at *
    replace fin := hd fin
    have hA := hd (h.kf (lo := 0) (hi := 0) (Kf.of_below ((Below.refl _ w).alloc (Nat.le_refl _) (Obj.cells #[.string s, .nilIface, .iface te ue] 309))))
    have hxA := hd (hxe.keep (w' := w.alloc (Obj.cells #[.string s, .nilIface, .iface te ue] 309)) (fun b cur _ _ hc => Below.heap_alloc _ _ _ (Array.getElem?_eq_some_iff.1 hc).1))
    have hnewb : (w.alloc (Obj.cells #[.string s, .nilIface, .iface te ue] 309)).heap[w.heap.size]? = some (.cells #[.string s, .nilIface, .iface te ue] 309) := allocCells
    have q0 : (w.alloc (Obj.cells #[.string s, .nilIface, .iface te ue] 309)).cell? ⟨w.heap.size, 0, none⟩ = some (.string s) := cellOf (i := 0) hnewb rfl
    have q1 : (w.alloc (Obj.cells #[.string s, .nilIface, .iface te ue] 309)).cell? ⟨w.heap.size, 1, none⟩ = some .nilIface := cellOf (i := 1) hnewb rfl
    have q2 : (w.alloc (Obj.cells #[.string s, .nilIface, .iface te ue] 309)).cell? ⟨w.heap.size, 2, none⟩ = some (.iface te ue) := cellOf (i := 2) hnewb rfl
    have hzl : w.heap.size < (w.alloc (Obj.cells #[.string s, .nilIface, .iface te ue] 309)).heap.size := by simp
    replace hnewb := hd hnewb
    replace h := hd h
    replace hxe := hd hxe
    go_enter Tryz.func310, Tryz.ntmps310
    go_wp2_with (fail)
    generalize hZ : w.alloc (Obj.cells #[.string s, .nilIface, .iface te ue] 309) = Z at *
    generalize hz : w.heap.size = z at *
    replace hZ := hd hZ
    replace hz := hd hz
    have hkz : ∀ (X : World), X.heap[z]? = Z.heap[z]? → X.cell? ⟨z, 0, none⟩ = some (.string s) ∧ X.cell? ⟨z, 1, none⟩ = some .nilIface ∧ X.cell? ⟨z, 2, none⟩ = some (.iface te ue) := fun X hX => by
      rw [World.cell?_of_block (w := Z) (a := ⟨z, 0, none⟩) hX, World.cell?_of_block (w := Z) (a := ⟨z, 1, none⟩) hX, World.cell?_of_block (w := Z) (a := ⟨z, 2, none⟩) hX]
      exact ⟨q0, q1, q2⟩
    have hbz : ∀ (X : World), Below Z.heap.size Z.drew X → X.heap[z]? = Z.heap[z]? := fun X hX => hX.block z hzl
    have hkfz : ∀ (X Y : World), Kf lo hi X Y → X.heap[z]? = Z.heap[z]? → Y.heap[z]? = Z.heap[z]? := fun X Y hk hX => (hk.tag (hX.trans hnewb.out) (by decide)).trans hX
    replace hkz := hd hkz
    replace hbz := hd hbz
    replace hkfz := hd hkfz
    go_region_held3 (fun w' => w'.cell? ⟨z, 0, none⟩ = some (.string s) ∧ w'.cell? ⟨z, 1, none⟩ = some .nilIface ∧ w'.cell? ⟨z, 2, none⟩ = some (.iface te ue)) (first | exact hkz.out _ (hbz.out _ b1.out) | exact hkz.out _ (hkfz.out _ _ k2.out (hbz.out _ b1.out)) | go_keep)
      (first
        | (go_at_call 308; refine kind_plc (by exact hA.out.drew) hv hw1 _ ?_; intro w1 b1; replace b1 := hd b1)
        | (refine cE.out _ (by exact hA.out.drew.kf (lo := 0) (hi := 0) (Kf.of_below b1.out)) (by exact hxA.out.drew.kf (lo := 0) (hi := 0) (Kf.of_below b1.out) (.inl (Nat.zero_le _))) _ ?_; intro w2 k2 hx2; replace k2 := hd k2; replace hx2 := hd hx2))
    have hz2 := hkfz.out _ _ k2.out (hbz.out _ b1.out)
    obtain ⟨r0, r1, r2⟩ := hkz.out _ hz2
    have env1 := hA.out.drew.kf (lo := 0) (hi := 0) (Kf.of_below b1.out)
    have env2 := env1.kf k2.out
    obtain ⟨i, b, h1, h2, h3⟩ := look_find vs bs s v env2.vars.len hv
    obtain ⟨_, hrow⟩ := env2.vars.row i v b h1 h2
    obtain ⟨hm, hnm⟩ := lookV_mem vs s v hv
    have hsz : s.size ≤ maxLen := by rw [← hnm]; have := (env2.names v hm).le; unfold maxLen; omega
    have c0 : w2.cell? ⟨bc, 0, none⟩ = some (.map (some bm)) := env2.ck.cell (i := 0) (by omega)
    have c1 : w2.cell? ⟨bc, 1, none⟩ = some lv := env2.ck.cell (i := 1) (by omega)
    have lb := env2.ck.lt
    have b1' : w2.cell? ⟨b, 1, none⟩ = some (.int .u8 (v.role : Int)) := hrow.cell (i := 1) (by omega)
    have hl : ∀ n, (Instr.lookup 90 (.map (some bm)) (.string s) false).run Tryz.prog (w2.drewN n) = .ok (.pointer (some ⟨b, 0, none⟩)) (w2.drewN n) := fun n => by
      have hnm2 : NmAt (w2.drewN n) bm vs.length (findB vs bs) := env2.nm
      have hl := hnm2.look s hsz
      rw [h3] at hl
      exact hl
    have hcon : ∀ n (R : Ending → World → Prop), R (.returned (.bool false)) (w2.drewN n) → Calls Tryz.prog 313 #[lv, .string s] (w2.drewN n) R := fun n R hR => contains_no (w2.drewN n) env2.loops s (fun x hx => beq_ne (fun e => by
      subst e
      have : (ls.any (fun x => decide (s = x))) = true := List.any_eq_true.2 ⟨s, hx, by simp⟩
      rw [this] at hw6
      cases hw6)) hls R hR
    have t3 : ((v.kind : Int) != 3) = true := by simp; omega
    have t4 : ((v.role : Int) != 0) = true := by simp; omega
    have hKw : Kf lo hi w w2 := by
      have hb0 : Below w.heap.size w Z := by rw [← hZ.out]; exact (Below.refl _ w).alloc (Nat.le_refl _) _
      have hbZ : Below w.heap.size w w1 := hb0.trans ((below_drewN (Below.refl _ Z) 1).trans (b1.out.mono (show w.heap.size ≤ Z.heap.size by have := hz.out; omega)))
      exact (Kf.of_below hbZ).trans k2.out
    have hstw : StIn (kE vs) (.set s e) lo hi w2 (.iface 309 (.agg #[.string s, .nilIface, .iface te ue])) := ⟨_, rfl, hx2.out⟩
    replace hKw := hd hKw
    replace hstw := hd hstw
    replace hcon := hd hcon
    replace hrow := hd hrow
    replace env2 := hd env2
    have hgo : ∀ n m, R (.returned (.tuple #[])) ((w2.drewN n).drewN m) := fun n m => fin.out ((w2.drewN n).drewN m) (hKw.out.trans (Kf.of_below (below_drewN (below_drewN (Below.refl _ w2) n) m))) (hstw.out.keep (fun _ _ _ _ _ _ _ _ => rfl))
    replace hgo := hd hgo
    clear b1 k2 hx2 env1 hz2 hkz hbz hkfz h1 h2 h3 hm hnm q0 q1 q2 cE hv me1 me2 hnewb fin
    have hcase : (kk == (v.kind : Int)) = true ∨ ((kk == (v.kind : Int)) = false ∧ (kk == 1) = true ∧ ((v.kind : Int) == 2) = true) := by
      rcases hw3 with e | ⟨e1, e2⟩
      · left; simpa using e
      · right
        rw [e1, e2]
        decide
    rcases hcase with t1 | ⟨t1, t1', t1''⟩
    all_goals
      go_wp2_with (first | (go_at_call 69; refine want_ok _ _ _ ?_))
      go_quiet (first | (go_at_call 69; exact want_ok _ _ _ ⟨rfl, _, rfl⟩))
      go_wp2_with (fail)
      go_quiet (first | (go_at_call 313; exact hcon.out _ _ ⟨rfl, _, rfl⟩) | (go_at_call 69; exact want_ok _ _ _ ⟨rfl, _, rfl⟩))
      go_wp2
      go_end0
      exact hgo.out _ _

end Go.Proofs.YtidhiaaicmfabaaGreatDoor

/- Statements are right (seat .ZD alone). -/
namespace Go.Proofs.YtidhiaaicmfabaaGreatDoor
open Go.RowKit Go.Proofs Go.Deep

def AllCk (vs : List Vd) (ls : List ByteArray) : Sl → Prop
  | .nil => True
  | .cons h t => CheckOk vs ls h ∧ AllCk vs ls t
theorem SlIn.kf {kk : Ex → Int} {g : Option Nat} {l : Sl} {lo hi lo2 hi2 : Nat} {w w' : World} {xs : List Value} (h : SlIn kk g l lo2 hi2 w xs) (k : Kf lo hi w w') (hd : hi ≤ lo2 ∨ hi2 ≤ lo) : SlIn kk g l lo2 hi2 w' xs :=
  h.keep (fun b cur _ _ h1 h2 _ hc => k.block b (Array.getElem?_eq_some_iff.1 hc).1 (fun _ _ => by omega))
theorem Sl.len_app : ∀ a b : Sl, (a.app b).len = a.len + b.len
  | .nil, b => by simp only [Sl.app, Sl.len]; omega
  | .cons _ t, b => by simp only [Sl.app, Sl.len, Sl.len_app t b]; omega
/-- Where the checker stands in a list of statements. -/
structure CkL (vs : List Vd) (ls : List ByteArray) (bc bm : Nat) (fst : Nat → Int) (bs : List Nat) (lv : Value) (g : Option Nat) (l : Sl) (lo hi : Nat) (xs : List Value) (w : World) (i : Nat) (wr : World) (rest : Sl) : Prop where
  ex : ∃ done xs1 xs2 m, l = done.app rest ∧ xs = xs1 ++ xs2 ∧ i = done.len ∧ SlIn (kE vs) g done lo m wr xs1 ∧ SlIn (fun _ => 0) g rest m hi wr xs2 ∧ lo ≤ m ∧ m ≤ hi
  env : Env bc bm fst vs bs lv ls wr
  kf : Kf lo hi w wr
  ok : AllCk vs ls rest
end Go.Proofs.YtidhiaaicmfabaaGreatDoor

/- wellTyped at a right text (seat .ZD alone). -/
namespace Go.Proofs.YtidhiaaicmfabaaGreatDoor
open Go.RowKit Go.Proofs Go.Deep

def wtV (v : Vd) : Bool := (decide (v.kind ≠ 3) || decide (v.role = 2)) && decide (1 ≤ v.len) && decide (v.len ≤ 16)
end Go.Proofs.YtidhiaaicmfabaaGreatDoor
