/- FOR and elements of arrays: read, checked, costed, written; Compile. -/
import Derived.Test.YtidhiaaicmfabaaGreatDoorKaA
import Derived.WalkKit
import Derived.WalkSpells
import Derived.WalkLawsBesides
import Derived.Deep.OwnRows
import Derived.BigQuiet
import Derived.Handy
import Derived.Deep.Light
import Derived.Deep.RegionHeld3
import Derived.Deep.RegionWith
import Derived.Test.YtidhiaaicmfabaaGreatDoorJzL
import Derived.Test.YtidhiaaicmfabaaGreatDoorJzU
import Derived.Test.YtidhiaaicmfabaaGreatDoorJzN
import Derived.Test.YtidhiaaicmfabaaGreatDoorJzV
import Derived.Test.YtidhiaaicmfabaaGreatDoorJzO
import Derived.Test.YtidhiaaicmfabaaGreatDoorJzQ
import Derived.WalkSmall
import Derived.Test.YtidhiaaicmfabaaGreatDoorJzI

/- Right statements, where FORs turn the checker (seat .ZD alone). -/
namespace Go.Proofs.YtidhiaaicmfabaaGreatDoor
open Go.RowKit Go.Proofs Go.Deep

/-- In memory nothing has turned but the checker, the row of its FORs, and pairs in the blocks from lo to hi. -/
structure Kc (bc lo hi : Nat) (u u' : Value) (w w' : World) : Prop where
  os : w'.os = w.os
  tape : w'.tape = w.tape
  output : w'.output = w.output
  size : w.heap.size ≤ w'.heap.size
  block : ∀ b, b < w.heap.size → b ≠ bc → u.ownBlock ≠ some b → (∀ cur, w.heap[b]? = some (.cells cur 351 (0, 0)) → b < lo ∨ hi ≤ b) → w'.heap[b]? = w.heap[b]?
  own : u'.ownBlock = u.ownBlock ∨ ∃ k, u'.ownBlock = some k ∧ w.heap.size ≤ k
section
variable {bc lo hi : Nat} {u u' u'' : Value} {w w' w'' : World}
theorem Kc.of_kf (h : Kf lo hi w w') : Kc bc lo hi u u w w' := ⟨h.os, h.tape, h.output, h.size, fun b hb _ _ hp => h.block b hb hp, .inl rfl⟩
theorem Kc.refl (bc lo hi : Nat) (u : Value) (w : World) : Kc bc lo hi u u w w := Kc.of_kf (Kf.refl _ _ _)
theorem Kc.notold (h : Kc bc lo hi u u' w w') {k : Nat} (hk : k < w.heap.size) (hu : u.ownBlock ≠ some k) : u'.ownBlock ≠ some k := by
  rcases h.own with e | ⟨x, e, hx⟩
  · rw [e]; exact hu
  · rw [e]; intro e2; injection e2 with e2; omega
theorem Kc.trans (h : Kc bc lo hi u u' w w') (k : Kc bc lo hi u' u'' w' w'') : Kc bc lo hi u u'' w w'' := by
  refine ⟨k.os.trans h.os, k.tape.trans h.tape, k.output.trans h.output, Nat.le_trans h.size k.size, fun b hb h1 h2 h3 => ?_, ?_⟩
  · have e := h.block b hb h1 h2 h3
    exact (k.block b (Nat.lt_of_lt_of_le hb h.size) h1 (h.notold hb h2) (fun cur hc => h3 cur (e.symm.trans hc))).trans e
  · rcases k.own with e | ⟨x, e, hx⟩
    · rw [e]; exact h.own
    · exact .inr ⟨x, e, Nat.le_trans h.size hx⟩
theorem Kc.wide {lo' hi' : Nat} (h : Kc bc lo hi u u' w w') (h1 : lo' ≤ lo) (h2 : hi ≤ hi') : Kc bc lo' hi' u u' w w' := ⟨h.os, h.tape, h.output, h.size, fun b hb a1 a2 hp => h.block b hb a1 a2 (fun cur hc => by have := hp cur hc; omega), h.own⟩
end
theorem Env.own_str {bc bm : Nat} {fst : Nat → Int} {vs : List Vd} {bs : List Nat} {lv : Value} {ls : List ByteArray} {w : World} (h : Env bc bm fst vs bs lv ls w) {b : Nat} (hb : lv.ownBlock = some b) : ∃ cur, w.heap[b]? = some (.cells cur 9 (0, 0)) := by
  rcases h.loops.2 with ⟨e1, _⟩ | ⟨g, cap, cur, e1, _, hg, _⟩
  · rw [e1] at hb; cases hb
  · rw [e1] at hb
    simp only [Value.ownBlock, Option.some.injEq] at hb
    subst hb
    exact ⟨cur, hg⟩
theorem Env.not_own {bc bm : Nat} {fst : Nat → Int} {vs : List Vd} {bs : List Nat} {lv : Value} {ls : List ByteArray} {w : World} (h : Env bc bm fst vs bs lv ls w) {b T : Nat} {cur : Array Value} {fz : Nat × Nat} (hb : w.heap[b]? = some (.cells cur T fz)) (hT : T ≠ 9) : lv.ownBlock ≠ some b := fun e => by
  obtain ⟨cur2, h2⟩ := h.own_str e
  rw [hb] at h2
  injection h2 with h2
  injection h2 with _ h2
  exact hT h2
theorem Env.not_ck {bc bm : Nat} {fst : Nat → Int} {vs : List Vd} {bs : List Nat} {lv : Value} {ls : List ByteArray} {w : World} (h : Env bc bm fst vs bs lv ls w) {b T : Nat} {cur : Array Value} {fz : Nat × Nat} (hb : w.heap[b]? = some (.cells cur T fz)) (hT : T ≠ 149) : b ≠ bc := fun e => by
  subst e
  obtain ⟨cur2, h2, _⟩ := h.ck
  rw [hb] at h2
  injection h2 with h2
  injection h2 with _ h2
  exact hT h2
theorem Kc.tag {bc bm lo hi : Nat} {fst : Nat → Int} {vs : List Vd} {bs : List Nat} {lv lv' : Value} {ls : List ByteArray} {w w' : World} (k : Kc bc lo hi lv lv' w w') (h : Env bc bm fst vs bs lv ls w) {b T : Nat} {cur : Array Value} {fz : Nat × Nat} (hb : w.heap[b]? = some (.cells cur T fz)) (h1 : T ≠ 149) (h2 : T ≠ 9) (h3 : T ≠ 351) : w'.heap[b]? = w.heap[b]? :=
  k.block b (Array.getElem?_eq_some_iff.1 hb).1 (h.not_ck hb h1) (h.not_own hb h2) (fun cur2 hc => by
    rw [hb] at hc
    injection hc with hc
    injection hc with _ hc
    exact absurd hc h3)
/-- What lies in other blocks ahead of the checker stays. -/
theorem Kc.same {bc bm lo hi : Nat} {fst : Nat → Int} {vs : List Vd} {bs : List Nat} {lv lv' : Value} {ls : List ByteArray} {w w' : World} (k : Kc bc lo hi lv lv' w w') (h : Env bc bm fst vs bs lv ls w) {lo2 hi2 : Nat} {g : Option Nat} (hd : hi ≤ lo2 ∨ hi2 ≤ lo) (hb : hi2 ≤ bc) : Samz w w' lo2 hi2 g :=
  fun b cur T hT h1 h2 _ hc => k.block b (Array.getElem?_eq_some_iff.1 hc).1 (by omega) (h.not_own hc hT) (fun _ _ => by omega)
/-- The checker finds a statement right; the row of its FORs may lie elsewhere then. -/
def CheckOkL (vs : List Vd) (ls : List ByteArray) (s : Stz) : Prop := ∀ {bc bm lo hi t : Nat} {fst : Nat → Int} {bs : List Nat} {lv u : Value} {w : World}, hi ≤ bc → Env bc bm fst vs bs lv ls w → StIn (fun _ => 0) s lo hi w (.iface t u) →
    ∀ (R : Ending → World → Prop), (∀ w' lv', Env bc bm fst vs bs lv' ls w' → Kc bc lo hi lv lv' w w' → StIn (kE vs) s lo hi w' (.iface t u) → R (.returned (.tuple #[])) w') → Calls Tryz.prog (sfn s) #[u, .pointer (some ⟨bc, 0, none⟩)] w R
theorem CheckOk.toL {vs : List Vd} {ls : List ByteArray} {s : Stz} (h : CheckOk vs ls s) : CheckOkL vs ls s := fun _ h1 h2 R fin => h h1 h2 R (fun w' k hx => fin w' _ (h1.kf k) (Kc.of_kf k) hx)
def AllCkL (vs : List Vd) (ls : List ByteArray) : Sl → Prop
  | .nil => True
  | .cons h t => CheckOkL vs ls h ∧ AllCkL vs ls t
/-- Where the checker stands in a list of statements. -/
structure CkLL (vs : List Vd) (ls : List ByteArray) (bc bm : Nat) (fst : Nat → Int) (bs : List Nat) (lv0 lv : Value) (g : Option Nat) (l : Sl) (lo hi : Nat) (xs : List Value) (w : World) (i : Nat) (wr : World) (rest : Sl) : Prop where
  ex : ∃ done xs1 xs2 m, l = done.app rest ∧ xs = xs1 ++ xs2 ∧ i = done.len ∧ SlIn (kE vs) g done lo m wr xs1 ∧ SlIn (fun _ => 0) g rest m hi wr xs2 ∧ lo ≤ m ∧ m ≤ hi
  env : Env bc bm fst vs bs lv ls wr
  kf : Kc bc lo hi lv0 lv w wr
  ok : AllCkL vs ls rest
set_option maxRecDepth 100000 in
set_option maxHeartbeats 4000000 in
theorem checks_okL {vs : List Vd} {ls : List ByteArray} {l : Sl} (hl : AllCkL vs ls l) (hlen : l.len ≤ 1000000) {bc bm lo hi base : Nat} {fst : Nat → Int} {bs : List Nat} {lv bv : Value} {g : Option Nat} {xs : List Value} {w : World} (h : Env bc bm fst vs bs lv ls w) (hown : w.ownsRow base 240 1 bv l.len xs) (hx : SlIn (fun _ => 0) g l lo hi w xs) (hlh : lo ≤ hi) (hib : hi ≤ bc)
    (R : Ending → World → Prop) (fin : ∀ w' lv', Env bc bm fst vs bs lv' ls w' → Kc bc lo hi lv lv' w w' → SlIn (kE vs) g l lo hi w' xs → R (.returned (.tuple #[])) w') : Calls Tryz.prog 70 #[.pointer (some ⟨bc, 0, none⟩), bv] w R := by
  obtain ⟨bo, bcp, rfl, hcp, hbo⟩ := own_form hown
  have hstart : CkLL vs ls bc bm fst bs lv lv g l lo hi xs w 0 w l := ⟨⟨.nil, [], xs, lo, rfl, rfl, rfl, rfl, hx, Nat.le_refl _, hlh⟩, h, Kc.refl _ _ _ _ _, hl⟩
  have henv0 := hd h
  replace fin := hd fin
  replace hstart := hd hstart
  replace hbo := hd hbo
  replace hown := hd hown
  clear hx h
  go_enter Tryz.func70, Tryz.ntmps70
  go_wp2
  go_loopw [5, 8] (fun _ iv wr => ∃ (i : Nat) (rest : Sl) (lvr : Value), iv = .int .i64 (i : Int) ∧ CkLL vs ls bc bm fst bs lv lvr g l lo hi xs w i wr rest) (fun _ iv _ => l.len - (intOf iv).toNat)
  case atStart => exact ⟨0, l, lv, rfl, hstart.out⟩
  case round =>
    obtain ⟨i, rest, lvr, rfl, ⟨done, xs1, xs2, m, happ, hxs, hie, hs1, hs2, hm1, hm2⟩, henv, hkf, hok⟩ := hrel
    have hll : l.len = done.len + rest.len := by rw [happ, Sl.len_app]
    cases rest with
    | nil =>
      simp only [Sl.len] at hll
      have td : decide ((i : Int) < (l.len : Int)) = false := by simp; omega
      have hnl : ¬ i < l.len := by omega
      rw [show xs2 = [] from hs2, List.append_nil] at hxs
      rw [Sl.app_nil] at happ
      subst happ
      subst hxs
      have hs3 := hd (hs1.wide (Nat.le_refl _) hm2)
      replace hkf := hd hkf
      replace henv := hd henv
      clear hs1 hs2 hll hie hm1 hm2
      go_wp2
      go_end0
      exact fin.out _ _ henv.out hkf.out hs3.out
    | cons s t =>
      simp only [Sl.len] at hll
      have td : decide ((i : Int) < (l.len : Int)) = true := by simp; omega
      have hnl : i < l.len := by omega
      obtain ⟨v, ys, a, b, m2, hx2, p1, p2, p3, p4, p5, p6, p7⟩ := hs2
      obtain ⟨tv, uv, rfl⟩ := p6.iface
      have mc := meth_check p6
      have mc1 := mc.m
      have mc2 := mc.c
      obtain ⟨gb, rfl, hgl, hgs, hg⟩ := hbo.out (by omega)
      have hlen1 : xs1.length = done.len := hs1.len
      have hxi : xs[i]? = some (.iface tv uv) := by rw [hxs, hx2, hie, ← hlen1, List.getElem?_append_right (Nat.le_refl _), Nat.sub_self]; rfl
      have hcw := hg i _ hxi
      obtain ⟨gcur, hgc⟩ : ∃ cur, w.heap[gb]? = some (.cells cur 240 (0, 0)) := by
        rcases hown.out.2 with ⟨e1, e2⟩ | ⟨g', cap, cur, e1, _, hg', _⟩
        · injection e1 with e1; cases e1
        · injection e1 with e1 _ _
          injection e1 with e1
          injection e1 with e1
          subst e1
          exact ⟨cur, hg'⟩
      have c1 : wr.cell? ⟨gb, i, none⟩ = some (.iface tv uv) := by
        rw [World.cell?_of_block (w := w) (a := ⟨gb, i, none⟩) (hkf.tag henv0.out hgc (by decide) (by decide) (by decide))]
        exact hcw
      have j0 : (0 : Int) ≤ (i : Int) ∧ (i : Int) < (l.len : Int) := by omega
      have hck : CheckOkL vs ls s := hok.1
      have cC := hd (fun (W : World) => @hck bc bm a b tv fst bs lvr uv W)
      generalize sfn s = FS at *
      replace henv := hd henv
      replace hkf := hd hkf
      replace p6 := hd p6
      replace p7 := hd p7
      replace hs1 := hd hs1
      replace hll := hd hll
      replace hie := hd hie
      replace happ := hd happ
      replace hxs := hd hxs
      replace hx2 := hd hx2
      clear hg hgc hcw mc hck
      go_wp2_with (fail)
      refine cC.out _ (by omega) henv.out p6.out _ ?_
      intro w1 lv1 env1 k1 hx1
      have hd1 := hs1.out.keep (k1.same henv.out (.inr (by omega)) (by omega))
      have hd2 := p7.out.keep (k1.same henv.out (.inl (by omega)) (by omega))
      have hne : CkLL vs ls bc bm fst bs lv lv1 g l lo hi xs w (i + 1) w1 t := by
        refine ⟨⟨done.app (.cons s .nil), xs1 ++ [.iface tv uv], ys, m2, ?_, ?_, ?_, SlIn.snoc hx1 p2 p3 p5 (by omega) (hd1.wide (Nat.le_refl _) p1), hd2, by omega, p4⟩, env1, hkf.out.trans (k1.wide (by omega) (by omega)), hok.2⟩
        · rw [happ.out, Sl.app_assoc]; rfl
        · rw [hxs.out, hx2.out, List.append_assoc]; rfl
        · rw [Sl.len_app, hie.out]; rfl
      replace hne := hd hne
      clear hd1 hd2 hx1 k1 hs1 p6 p7 henv hkf
      go_wp2
      exact ⟨⟨i + 1, t, lv1, by go_num, hne.out⟩, by have := hll.out; have := hie.out; simp [intOf]; omega⟩

end Go.Proofs.YtidhiaaicmfabaaGreatDoor

/- Settings of elements: checked, costed (seat .ZD alone). -/
namespace Go.Proofs.YtidhiaaicmfabaaGreatDoor
open Go.RowKit Go.Proofs Go.Deep

def wtSetx (vs : List Vd) (ls : List ByteArray) (s : ByteArray) (i e : Ex) : Bool :=
  match lookV vs s with
  | some v => v.arr && wtE vs i && isNum (kE vs i) && wtE vs e && (decide (kE vs e = (v.kind : Int)) || (decide (kE vs e = 1) && decide (v.kind = 2))) && decide (v.kind ≠ 3) && decide (v.role ≠ 0) && !(ls.any (fun x => decide (s = x)))
  | none => false
set_option maxRecDepth 100000 in
set_option maxHeartbeats 4000000 in
theorem check_setx {vs : List Vd} {ls : List ByteArray} {s : ByteArray} {i e : Ex} (hi0 : KindOk vs i) (he : KindOk vs e) (hw : wtSetx vs ls s i e = true) (hls : ls.length ≤ 1000) : CheckOk vs ls (.setx s i e) := by
  intro bc bm lo hi t fst bs lv u w h hx R fin
  unfold wtSetx at hw
  cases hv : lookV vs s with
  | none => rw [hv] at hw; cases hw
  | some v =>
    rw [hv] at hw
    simp only [Bool.and_eq_true, Bool.not_eq_true', Bool.or_eq_true, decide_eq_true_eq] at hw
    obtain ⟨⟨⟨⟨⟨⟨⟨hw1, hwi⟩, hki⟩, hw2⟩, hw3⟩, hw4⟩, hw5⟩, hw6⟩ := hw
    obtain ⟨vi, ve, m, hve, hlm, hmh, hxi, hxe⟩ := hx
    injection hve with e1 e2
    subst e1 e2
    obtain ⟨te, ue, rfl⟩ := hxe.iface
    obtain ⟨ti, ui, rfl⟩ := hxi.iface
    have me := meth_kind hxe
    have me1 := me.m
    have me2 := me.c
    simp only [sfn]
    have cE := hd (fun (W : World) => @he bc bm m hi te fst bs lv ue ls W)
    clear he me
    have hkk : ∃ kk, kE vs e = kk := ⟨_, rfl⟩
    obtain ⟨kk, hkk⟩ := hkk
    rw [hkk] at hw3 cE
    generalize kfn e = FE at *
    replace fin := hd fin
    have hA := hd (h.kf (lo := 0) (hi := 0) (Kf.of_below ((Below.refl _ w).alloc (Nat.le_refl _) (Obj.cells #[.string s, .iface ti ui, .iface te ue] 309))))
    have hxA := hd (hxe.keep (w' := w.alloc (Obj.cells #[.string s, .iface ti ui, .iface te ue] 309)) (fun b cur _ _ hc => Below.heap_alloc _ _ _ (Array.getElem?_eq_some_iff.1 hc).1))
    have hxI := hd (hxi.keep (w' := w.alloc (Obj.cells #[.string s, .iface ti ui, .iface te ue] 309)) (fun b cur _ _ hc => Below.heap_alloc _ _ _ (Array.getElem?_eq_some_iff.1 hc).1))
    have hnewb : (w.alloc (Obj.cells #[.string s, .iface ti ui, .iface te ue] 309)).heap[w.heap.size]? = some (.cells #[.string s, .iface ti ui, .iface te ue] 309) := allocCells
    have q0 : (w.alloc (Obj.cells #[.string s, .iface ti ui, .iface te ue] 309)).cell? ⟨w.heap.size, 0, none⟩ = some (.string s) := cellOf (i := 0) hnewb rfl
    have q1 : (w.alloc (Obj.cells #[.string s, .iface ti ui, .iface te ue] 309)).cell? ⟨w.heap.size, 1, none⟩ = some (.iface ti ui) := cellOf (i := 1) hnewb rfl
    have q2 : (w.alloc (Obj.cells #[.string s, .iface ti ui, .iface te ue] 309)).cell? ⟨w.heap.size, 2, none⟩ = some (.iface te ue) := cellOf (i := 2) hnewb rfl
    have hzl : w.heap.size < (w.alloc (Obj.cells #[.string s, .iface ti ui, .iface te ue] 309)).heap.size := by simp
    replace hnewb := hd hnewb
    replace h := hd h
    replace hxe := hd hxe
    replace hxi := hd hxi
    go_enter Tryz.func310, Tryz.ntmps310
    go_wp2_with (fail)
    generalize hZ : w.alloc (Obj.cells #[.string s, .iface ti ui, .iface te ue] 309) = Z at *
    generalize hz : w.heap.size = z at *
    replace hZ := hd hZ
    replace hz := hd hz
    have hkz : ∀ (X : World), X.heap[z]? = Z.heap[z]? → X.cell? ⟨z, 0, none⟩ = some (.string s) ∧ X.cell? ⟨z, 1, none⟩ = some (.iface ti ui) ∧ X.cell? ⟨z, 2, none⟩ = some (.iface te ue) := fun X hX => by
      rw [World.cell?_of_block (w := Z) (a := ⟨z, 0, none⟩) hX, World.cell?_of_block (w := Z) (a := ⟨z, 1, none⟩) hX, World.cell?_of_block (w := Z) (a := ⟨z, 2, none⟩) hX]
      exact ⟨q0, q1, q2⟩
    have hkfz : ∀ (l h : Nat) (X Y : World), Kf l h X Y → X.heap[z]? = Z.heap[z]? → Y.heap[z]? = Z.heap[z]? := fun l h X Y hk hX => (hk.tag (hX.trans hnewb.out) (by decide)).trans hX
    replace hkz := hd hkz
    replace hkfz := hd hkfz
    go_region_held3 (fun w' => w'.cell? ⟨z, 0, none⟩ = some (.string s) ∧ w'.cell? ⟨z, 1, none⟩ = some (.iface ti ui) ∧ w'.cell? ⟨z, 2, none⟩ = some (.iface te ue)) (first | exact hkz.out _ (hkfz.out _ _ _ _ k1.out rfl) | exact hkz.out _ (hkfz.out _ _ _ _ k2.out (hkfz.out _ _ _ _ k1.out rfl)) | go_keep)
      (first
        | (go_at_call 308; refine kind_idxP (lo := lo) (hi' := m) hi0 (by exact hA.out.drew) hv hw1 hki (by exact hxI.out.drew) _ ?_; intro w1 k1 hx1; replace k1 := hd k1; replace hx1 := hd hx1)
        | (refine cE.out _ (by exact hA.out.drew.kf k1.out) (by exact hxA.out.drew.kf k1.out (.inl (Nat.le_refl _))) _ ?_; intro w2 k2 hx2; replace k2 := hd k2; replace hx2 := hd hx2))
    have hz2 := hkfz.out _ _ _ _ k2.out (hkfz.out _ _ _ _ k1.out rfl)
    obtain ⟨r0, r1, r2⟩ := hkz.out _ hz2
    have env1 := hA.out.drew.kf k1.out
    have env2 := env1.kf k2.out
    obtain ⟨j, b, h1, h2, h3⟩ := look_find vs bs s v env2.vars.len hv
    obtain ⟨_, hrow⟩ := env2.vars.row j v b h1 h2
    obtain ⟨hm, hnm⟩ := lookV_mem vs s v hv
    have hsz : s.size ≤ maxLen := by rw [← hnm]; have := (env2.names v hm).le; unfold maxLen; omega
    have c0 : w2.cell? ⟨bc, 0, none⟩ = some (.map (some bm)) := env2.ck.cell (i := 0) (by omega)
    have c1 : w2.cell? ⟨bc, 1, none⟩ = some lv := env2.ck.cell (i := 1) (by omega)
    have lb := env2.ck.lt
    have b1' : w2.cell? ⟨b, 1, none⟩ = some (.int .u8 (v.role : Int)) := hrow.cell (i := 1) (by omega)
    have hl : ∀ n, (Instr.lookup 90 (.map (some bm)) (.string s) false).run Tryz.prog (w2.drewN n) = .ok (.pointer (some ⟨b, 0, none⟩)) (w2.drewN n) := fun n => by
      have hnm2 : NmAt (w2.drewN n) bm vs.length (findB vs bs) := env2.nm
      have hl := hnm2.look s hsz
      rw [h3] at hl
      exact hl
    have hcon : ∀ n (R : Ending → World → Prop), R (.returned (.bool false)) (w2.drewN n) → Calls Tryz.prog 313 #[lv, .string s] (w2.drewN n) R := fun n R hR => contains_no (w2.drewN n) env2.loops s (fun x hx => beq_ne (fun e => by
      subst e
      have : (ls.any (fun x => decide (s = x))) = true := List.any_eq_true.2 ⟨s, hx, by simp⟩
      rw [this] at hw6
      cases hw6)) hls R hR
    have t3 : ((v.kind : Int) != 3) = true := by simp; omega
    have t4 : ((v.role : Int) != 0) = true := by simp; omega
    have hKw : Kf lo hi w w2 := by
      have hb0 : Below w.heap.size w Z := by rw [← hZ.out]; exact (Below.refl _ w).alloc (Nat.le_refl _) _
      exact (Kf.of_below hb0).trans ((k1.out.drew.wide (Nat.le_refl _) hmh).trans (k2.out.wide hlm (Nat.le_refl _)))
    have hstw : StIn (kE vs) (.setx s i e) lo hi w2 (.iface 309 (.agg #[.string s, .iface ti ui, .iface te ue])) := ⟨_, _, m, rfl, hlm, hmh, hx1.out.kf k2.out (.inr (Nat.le_refl _)), hx2.out⟩
    replace hKw := hd hKw
    replace hstw := hd hstw
    replace hcon := hd hcon
    replace hrow := hd hrow
    replace env2 := hd env2
    have hgo : ∀ n m, R (.returned (.tuple #[])) ((w2.drewN n).drewN m) := fun n m => fin.out ((w2.drewN n).drewN m) (hKw.out.trans (Kf.of_below (below_drewN (below_drewN (Below.refl _ w2) n) m))) (hstw.out.keep (fun _ _ _ _ _ _ _ _ => rfl))
    replace hgo := hd hgo
    clear k1 k2 hx1 hx2 env1 hz2 hkz hkfz h1 h2 h3 hm hnm q0 q1 q2 cE hv me1 me2 hnewb fin
    have hcase : (kk == (v.kind : Int)) = true ∨ ((kk == (v.kind : Int)) = false ∧ (kk == 1) = true ∧ ((v.kind : Int) == 2) = true) := by
      rcases hw3 with e | ⟨e1, e2⟩
      · left; simpa using e
      · right
        rw [e1, e2]
        decide
    rcases hcase with t1 | ⟨t1, t1', t1''⟩
    all_goals
      go_wp2_with (first | (go_at_call 69; refine want_ok _ _ _ ?_))
      go_quiet (first | (go_at_call 69; exact want_ok _ _ _ ⟨rfl, _, rfl⟩))
      go_wp2_with (fail)
      go_quiet (first | (go_at_call 313; exact hcon.out _ _ ⟨rfl, _, rfl⟩) | (go_at_call 69; exact want_ok _ _ _ ⟨rfl, _, rfl⟩))
      go_wp2
      go_end0
      exact hgo.out _ _
set_option maxRecDepth 100000 in
set_option maxHeartbeats 4000000 in
theorem scost_setx {kk : Ex → Int} {s : ByteArray} {i e : Ex} (hi0 : CostOk kk i) (he : CostOk kk e) : SCostOk kk (.setx s i e) := by
  intro lo hi t u w hx hh _ hc R fin
  obtain ⟨vi, ve, m, hve, hlm, hmh, hxi, hxe⟩ := hx
  injection hve with e1 e2
  subst e1 e2
  obtain ⟨te, ue, rfl⟩ := hxe.iface
  obtain ⟨ti, ui, rfl⟩ := hxi.iface
  have me := meth_cost hxe
  have me1 := me.m
  have me2 := me.c
  simp only [csfn]
  simp only [cS] at fin hc
  have pe := cE_pos e
  have pi := cE_pos i
  have cC := hd (fun (W : World) => @he m hi te ue W)
  obtain ⟨Z, hZ⟩ : ∃ Z, Z = w.alloc (Obj.cells #[.string s, .iface ti ui, .iface te ue] 309) := ⟨_, rfl⟩
  have hbZ : Below w.heap.size w Z := by rw [hZ]; exact (Below.refl _ w).alloc (Nat.le_refl _) _
  have hxZ : ExIn kk e m hi Z (.iface te ue) := hxe.below hbZ hh
  have hxI : ExIn kk i lo m Z (.iface ti ui) := hxi.below hbZ (by omega)
  have hzl : w.heap.size < Z.heap.size := by rw [hZ]; simp
  have hnewb : Z.heap[w.heap.size]? = some (.cells #[.string s, .iface ti ui, .iface te ue] 309) := by rw [hZ]; exact allocCells
  have q0 : Z.cell? ⟨w.heap.size, 0, none⟩ = some (.string s) := cellOf (i := 0) hnewb rfl
  have q1 : Z.cell? ⟨w.heap.size, 1, none⟩ = some (.iface ti ui) := cellOf (i := 1) hnewb rfl
  have q2 : Z.cell? ⟨w.heap.size, 2, none⟩ = some (.iface te ue) := cellOf (i := 2) hnewb rfl
  have cP := hd (fun (W : World) => @place_costx kk i hi0 lo m ti ui W s)
  replace fin := hd fin
  replace hxZ := hd hxZ
  replace hxI := hd hxI
  have hhZ : hi ≤ Z.heap.size := by omega
  clear he me hxe hxi hi0
  generalize cE e = kl at *
  generalize cE i = ki at *
  generalize cfn e = FL at *
  have hL1 : kl ≤ 100000 := by omega
  have hL2 : 1 + ki ≤ 100000 := by omega
  have j1 : IntKind.i64.wrap (1 + ki + kl) = 1 + ki + kl := IntWalk.i64_in _ (by omega)
  go_enter Tryz.func311, Tryz.ntmps311
  go_wp2_with (fail)
  rw [← hZ]
  replace hZ := hd hZ
  replace hbZ := hd hbZ
  replace hnewb := hd hnewb
  generalize hz : w.heap.size = z at *
  replace hz := hd hz
  go_region_held3 (fun w' => w'.cell? ⟨z, 0, none⟩ = some (.string s) ∧ w'.cell? ⟨z, 1, none⟩ = some (.iface ti ui) ∧ w'.cell? ⟨z, 2, none⟩ = some (.iface te ue)) (first | exact ⟨(b1.out.cell (p := ⟨z, 0, none⟩) hzl).trans q0, (b1.out.cell (p := ⟨z, 1, none⟩) hzl).trans q1, (b1.out.cell (p := ⟨z, 2, none⟩) hzl).trans q2⟩ | exact ⟨(b2.out.cell (p := ⟨z, 0, none⟩) (Nat.lt_of_lt_of_le hzl b1.out.size)).trans ((b1.out.cell (p := ⟨z, 0, none⟩) hzl).trans q0), (b2.out.cell (p := ⟨z, 1, none⟩) (Nat.lt_of_lt_of_le hzl b1.out.size)).trans ((b1.out.cell (p := ⟨z, 1, none⟩) hzl).trans q1), (b2.out.cell (p := ⟨z, 2, none⟩) (Nat.lt_of_lt_of_le hzl b1.out.size)).trans ((b1.out.cell (p := ⟨z, 2, none⟩) hzl).trans q2)⟩ | go_keep)
    (first
      | (go_at_call 307; refine cP.out _ (by exact hxI.out.drew) (by exact Nat.le_trans hmh hhZ) hL2 _ ?_; intro w1 b1; replace b1 := hd b1)
      | (refine cC.out _ (by exact hxZ.out.drew.below b1.out hhZ) (by exact Nat.le_trans hhZ b1.out.size) hL1 _ ?_; intro w2 b2; replace b2 := hd b2))
  have hB := hd (show Below w.heap.size w w2 from by
    have e := hz.out
    rw [e]
    exact hbZ.out.trans (((below_drewN (Below.refl _ Z) 1).trans (b1.out.trans (b2.out.mono b1.out.size))).mono (Nat.le_of_lt hzl)))
  go_wp2
  have e := hz.out
  first | exact cl1 (fin.out _ (by rw [← e]; exact hB.out)) rfl | (go_ret; exact cl1 (fin.out _ (by rw [← e]; exact hB.out)) rfl)

end Go.Proofs.YtidhiaaicmfabaaGreatDoor

/- The code of settings of elements (seat .ZD alone). -/
namespace Go.Proofs.YtidhiaaicmfabaaGreatDoor
open Go.RowKit Go.Proofs Go.Deep

set_option maxRecDepth 100000 in
set_option maxHeartbeats 4000000 in
theorem swrite_setx {vs : List Vd} {sp : Int} {s : ByteArray} {i e : Ex} {v : Vd} (hi0 : WriteOk vs i) (he : WriteOk vs e) (hv : lookV vs s = some v) (hlen : 0 ≤ v.len ∧ v.len ≤ 255) : SWriteOk vs sp (.setx s i e) (fun _ => codeE vs i ++ codeE vs e ++ [5, firstV vs 0 s, lenOf vs s]) false := by
  intro B bw bm lo hi t bs kp cv u code w h hx hc R fin
  obtain ⟨vi, ve, m, hve, hlm, hmh, hxi, hxe⟩ := hx
  injection hve with e1 e2
  subst e1 e2
  obtain ⟨te, ue, rfl⟩ := hxe.iface
  obtain ⟨ti, ui, rfl⟩ := hxi.iface
  have me := meth_write hxe
  have me1 := me.m
  have me2 := me.c
  have mi := meth_write hxi
  have mi1 := mi.m
  have mi2 := mi.c
  simp only [swfn]
  simp only [Bool.or_false] at fin
  have elen : lenOf vs s = v.len := by unfold lenOf; rw [hv]
  rw [elen] at fin hc
  simp only [List.length_append, List.length_cons, List.length_nil] at hc
  obtain ⟨j, b, h1, h2, h3, h4⟩ := look_first vs bs s v 0 h.vars.len hv
  obtain ⟨_, hrow⟩ := h.vars.row j v b h1 h2
  obtain ⟨cur, hcur, hcs, hcf⟩ := hrow
  obtain ⟨hm, hnm⟩ := lookV_mem vs s v hv
  have hsz : s.size ≤ maxLen := by rw [← hnm]; have := (h.names v hm).le; unfold maxLen; omega
  have c0 : w.cell? ⟨bw, 0, none⟩ = some (.map (some bm)) := h.row.cell (i := 0) (by omega)
  have lb := h.row.lt
  have lbb : b < w.heap.size := (Array.getElem?_eq_some_iff.1 hcur).1
  have hfv : fstV vs j = firstV vs 0 s := by unfold fstV; rw [← h4]; omega
  have hl : ∀ n, (Instr.lookup 90 (.map (some bm)) (.string s) false).run Tryz.prog ((w.alloc (Obj.cells #[.string s, .iface ti ui, .iface te ue] 309)).drewN n) = .ok (.pointer (some ⟨b, 0, none⟩)) ((w.alloc (Obj.cells #[.string s, .iface ti ui, .iface te ue] 309)).drewN n) := fun n => by
    have hnm2 : NmAt ((w.alloc (Obj.cells #[.string s, .iface ti ui, .iface te ue] 309)).drewN n) bm vs.length (findB vs bs) := h.nm.keep (Below.heap_alloc _ _ _ h.nm.lt)
    have hl := hnm2.look s hsz
    rw [h3] at hl
    exact hl
  have cI := hd (fun (W : World) => @hi0 B bw bm lo m ti bs sp kp cv ui code W)
  have cC := hd (fun (CV : Value) (W : World) => @he B bw bm m hi te bs sp kp CV ue (code ++ codeE vs i) W)
  replace fin := hd fin
  replace h := hd h
  replace hxe := hd hxe
  replace hxi := hd hxi
  clear he hi0 me mi h1 h2 h3 hm hnm hv h4
  generalize wfn e = FE at *
  generalize wfn i = FI at *
  go_enter Tryz.func312, Tryz.ntmps312
  go_wp2_with (fail)
  go_quiet (fail)
  have hbel : Below w.heap.size w ((w.alloc (Obj.cells #[.string s, .iface ti ui, .iface te ue] 309)).drewN nq) := below_drewN ((Below.refl _ w).alloc (Nat.le_refl _) _) nq
  have hW := h.out.below hbel
  have hxW : ExIn (kE vs) i lo m ((w.alloc (Obj.cells #[.string s, .iface ti ui, .iface te ue] 309)).drewN nq) (.iface ti ui) := hxi.out.keep (fun c _ _ _ hc => hbel.block c (Array.getElem?_eq_some_iff.1 hc).1)
  have hxE : ExIn (kE vs) e m hi ((w.alloc (Obj.cells #[.string s, .iface ti ui, .iface te ue] 309)).drewN nq) (.iface te ue) := hxe.out.keep (fun c _ _ _ hc => hbel.block c (Array.getElem?_eq_some_iff.1 hc).1)
  have hcurW : ((w.alloc (Obj.cells #[.string s, .iface ti ui, .iface te ue] 309)).drewN nq).heap[b]? = some (.cells cur 147) := (hbel.block b lbb).trans hcur
  have hnb : ((w.alloc (Obj.cells #[.string s, .iface ti ui, .iface te ue] 309)).drewN nq).heap[w.heap.size]? = some (.cells #[.string s, .iface ti ui, .iface te ue] 309) := allocCells
  replace hbel := hd hbel
  replace hcur := hd hcur
  replace hnb := hd hnb
  go_wp2_with (fail)
  refine cI.out _ hW hxW (by omega) _ ?_
  intro w1 cv1 g1 hf1
  have hcur1 := hW.tag hf1 hcurW (by decide) (by decide)
  have hnb1 := hW.tag hf1 hnb.out (by decide) (by decide)
  have hxE1 := hW.exIn hf1 hxE
  have hF1 := hd (Fu.pre hbel.out hf1)
  have q2 : w1.cell? ⟨w.heap.size, 2, none⟩ = some (.iface te ue) := cellOf (i := 2) hnb1 rfl
  have lz : w.heap.size < w1.heap.size := (Array.getElem?_eq_some_iff.1 hnb1).1
  replace g1 := hd g1
  replace hcur1 := hd hcur1
  replace hnb1 := hd hnb1
  replace hxE1 := hd hxE1
  clear hf1 hW hxW hxE hcurW hl hnb
  go_wp2_with (fail)
  refine cC.out _ _ g1.out hxE1.out (by rw [List.length_append]; omega) _ ?_
  intro w2 cv2 g2 hf2
  have hcur2 := g1.out.tag hf2 hcur1.out (by decide) (by decide)
  have q5 : w2.cell? ⟨b, 5, none⟩ = some (.int .u8 (firstV vs 0 s)) := by
    have := cellOf hcur2 (hcf 5 (by omega))
    rw [show vdF v (fstV vs j) 5 = .int .u8 (fstV vs j) from rfl, hfv] at this
    exact this
  have q4 : w2.cell? ⟨b, 4, none⟩ = some (.int .i64 v.len) := cellOf hcur2 (hcf 4 (by omega))
  have lb2 : b < w2.heap.size := (Array.getElem?_eq_some_iff.1 hcur2).1
  have hF2 := hd (hF1.out.trans hf2)
  have jl : IntKind.u8.wrap v.len = v.len := by
    unfold IntKind.wrap
    simp only [IntKind.signed, IntKind.bits]
    simp
    omega
  clear hf2 hcur2 hfv hcf
  generalize firstV vs 0 s = fv at *
  generalize v.len = ln at *
  have hW := hd ((g2.below (below_drewN (Below.refl _ w2) 1)).alloc (Obj.cells #[.int .u8 5, .int .u8 fv, .int .u8 ln] 5))
  have hgg : (w2.drew.alloc (Obj.cells #[.int .u8 5, .int .u8 fv, .int .u8 ln] 5)).heap[w2.heap.size]? = some (.cells (u8V [5, fv, ln]).toArray 5) := allocCells (w := w2.drew) (cur := #[.int .u8 5, .int .u8 fv, .int .u8 ln]) (T := 5) (fz := (0, 0))
  replace hgg := hd hgg
  replace g2 := hd g2
  go_wp2_with (fail)
  go_region_with (go_at_call 74; refine put_ok hW.out [5, fv, ln] w2.heap.size 3 3 rfl hgg.out (by simp only [List.length_append, List.length_cons, List.length_nil]; omega) _ ?_; intro w3 cv3 h3 hf3; replace h3 := hd h3; replace hf3 := hd hf3)
  all_goals
    have hF3 := hd (hF2.out.trans (Fu.pre ((below_drewN (Below.refl w2.heap.size w2) 1).trans (((Below.refl _ _).alloc (Nat.le_refl _) _).mono (Nat.le_refl _))) hf3.out))
    go_end0
    refine fin.out _ _ ?_ hF3.out
    have := h3.out
    simp only [List.append_assoc] at this ⊢
    exact this

end Go.Proofs.YtidhiaaicmfabaaGreatDoor

/- FOR: its rounds, its cost (seat .ZD alone). -/
namespace Go.Proofs.YtidhiaaicmfabaaGreatDoor
open Go.RowKit Go.Proofs Go.Deep

def rndN (f l : Int) : Nat := (max 0 (l - f + 1)).toNat
theorem rndN_int (f l : Int) : ((rndN f l : Nat) : Int) = max 0 (l - f + 1) := by unfold rndN; omega
theorem rounds_ok (w : World) (s : ByteArray) (f l : Int) (vb : Value) (hf : -4294967296 ≤ f ∧ f ≤ 4294967296) (hl : -4294967296 ≤ l ∧ l ≤ 4294967296) (R : Ending → World → Prop) (fin : ∀ w', Below w.heap.size w w' → R (.returned (.int .i64 (rndN f l : Nat))) w') :
    Calls Tryz.prog 328 #[.agg #[.string s, .int .i64 f, .int .i64 l, vb]] w R := by
  have e := rndN_int f l
  have b0 := hd ((Below.refl w.heap.size w).alloc (Nat.le_refl _) (Obj.cells #[.string s, .int .i64 f, .int .i64 l, vb] 320))
  replace fin := hd fin
  go_enter Tryz.func328, Tryz.ntmps328
  go_wp2
  exact cl1 (fin.out _ b0.out) (by show Value.int _ _ = Value.int _ _; rw [e])
theorem RowIn.below {w w' : World} {lo hi T sz n : Nat} {v : Value} {xs : List Value} (h : RowIn w lo hi T sz v n xs) (hb : Below w.heap.size w w') : RowIn w' lo hi T sz v n xs := by
  refine ⟨⟨h.1.1, ?_⟩, h.2⟩
  rcases h.1.2 with h2 | ⟨g, cap, cur, rfl, hbb, hg, r⟩
  · exact .inl h2
  · exact .inr ⟨g, cap, cur, rfl, hbb, (hb.block g (Array.getElem?_eq_some_iff.1 hg).1).trans hg, r⟩
theorem SlIn.belowZ {kk : Ex → Int} {g : Option Nat} {l : Sl} {lo hi : Nat} {w w' : World} {xs : List Value} (h : SlIn kk g l lo hi w xs) (hb : Below w.heap.size w w') : SlIn kk g l lo hi w' xs := h.keep (fun b _ _ _ _ _ _ hc => hb.block b (Array.getElem?_eq_some_iff.1 hc).1)
set_option maxRecDepth 100000 in
set_option maxHeartbeats 4000000 in
theorem scost_loop {kk : Ex → Int} {s : ByteArray} {f l : Int} {b : Sl} (hf : -2147483648 ≤ f ∧ f ≤ 2147483647) (hl : -2147483648 ≤ l ∧ l ≤ 2147483647) (hb : AllCo kk b) (hbl : b.len ≤ 1000000) (hbc : costL b ≤ 4000) : SCostOk kk (.loop s f l b) := by
  intro lo hi t u w hx hh hc0 hc R fin
  obtain ⟨vb, hv, xs, hrow, hsl⟩ := hx
  injection hv with e1 e2
  subst e1 e2
  simp only [csfn]
  simp only [cS] at fin hc hc0
  have hr := rndN_int f l
  rw [← hr] at fin hc hc0
  clear hr
  have hcn := cL_nonneg hb
  obtain ⟨ao, cp, rfl⟩ := own_slS hrow.1
  obtain ⟨Z, hZ⟩ : ∃ Z, Z = w.alloc (Obj.cells #[.string s, .int .i64 f, .int .i64 l, .slice ao b.len cp] 320) := ⟨_, rfl⟩
  have hbZ : Below w.heap.size w Z := by rw [hZ]; exact (Below.refl _ w).alloc (Nat.le_refl _) _
  have hrZ := hrow.below hbZ
  have hsZ := hsl.belowZ hbZ
  have hzl : w.heap.size < Z.heap.size := by rw [hZ]; simp
  have hnewb : Z.heap[w.heap.size]? = some (.cells #[.string s, .int .i64 f, .int .i64 l, .slice ao b.len cp] 320) := by rw [hZ]; exact allocCells
  have q0 : Z.cell? ⟨w.heap.size, 0, none⟩ = some (.string s) := cellOf (i := 0) hnewb rfl
  have q1 : Z.cell? ⟨w.heap.size, 1, none⟩ = some (.int .i64 f) := cellOf (i := 1) hnewb rfl
  have q2 : Z.cell? ⟨w.heap.size, 2, none⟩ = some (.int .i64 l) := cellOf (i := 2) hnewb rfl
  have q3 : Z.cell? ⟨w.heap.size, 3, none⟩ = some (.slice ao b.len cp) := cellOf (i := 3) hnewb rfl
  have hhZ : hi ≤ Z.heap.size := by omega
  have cC := hd (fun (W : World) (hW : Below Z.heap.size Z W) => costs_ok (kk := kk) hb hbl hbc (hrZ.below hW).1 (hsZ.belowZ hW) (Nat.le_trans hhZ hW.size))
  replace fin := hd fin
  clear hrow hsl hrZ hsZ
  generalize costL b = kb at *
  generalize hN : rndN f l = N at *
  have hmul : 0 ≤ (N : Int) * (1 + kb) := Int.mul_nonneg (by omega) (by omega)
  have j0 : IntKind.i64.wrap (1 + kb) = 1 + kb := IntWalk.i64_in _ (by omega)
  have j1 : IntKind.i64.wrap ((N : Int) * (1 + kb)) = (N : Int) * (1 + kb) := IntWalk.i64_in _ (by omega)
  have j2 : IntKind.i64.wrap (1 + (N : Int) * (1 + kb)) = 1 + (N : Int) * (1 + kb) := IntWalk.i64_in _ (by omega)
  go_enter Tryz.func326, Tryz.ntmps326
  go_wp2_with (fail)
  rw [← hZ]
  replace hZ := hd hZ
  replace hbZ := hd hbZ
  replace hnewb := hd hnewb
  generalize hz : w.heap.size = z at *
  replace hz := hd hz
  go_region_held3 (fun w' => w'.cell? ⟨z, 0, none⟩ = some (.string s) ∧ w'.cell? ⟨z, 1, none⟩ = some (.int .i64 f) ∧ w'.cell? ⟨z, 2, none⟩ = some (.int .i64 l) ∧ w'.cell? ⟨z, 3, none⟩ = some (.slice ao b.len cp)) (first | exact ⟨(b1.out.cell (p := ⟨z, 0, none⟩) hzl).trans q0, (b1.out.cell (p := ⟨z, 1, none⟩) hzl).trans q1, (b1.out.cell (p := ⟨z, 2, none⟩) hzl).trans q2, (b1.out.cell (p := ⟨z, 3, none⟩) hzl).trans q3⟩ | exact ⟨(b2.out.cell (p := ⟨z, 0, none⟩) (Nat.lt_of_lt_of_le hzl b1.out.size)).trans ((b1.out.cell (p := ⟨z, 0, none⟩) hzl).trans q0), (b2.out.cell (p := ⟨z, 1, none⟩) (Nat.lt_of_lt_of_le hzl b1.out.size)).trans ((b1.out.cell (p := ⟨z, 1, none⟩) hzl).trans q1), (b2.out.cell (p := ⟨z, 2, none⟩) (Nat.lt_of_lt_of_le hzl b1.out.size)).trans ((b1.out.cell (p := ⟨z, 2, none⟩) hzl).trans q2), (b2.out.cell (p := ⟨z, 3, none⟩) (Nat.lt_of_lt_of_le hzl b1.out.size)).trans ((b1.out.cell (p := ⟨z, 3, none⟩) hzl).trans q3)⟩ | go_keep)
    (first
      | (go_at_call 328; refine rounds_ok _ s f l (.slice ao b.len cp) (by omega) (by omega) _ ?_; intro w1 b1; rw [hN]; replace b1 := hd b1)
      | (go_at_call 71; refine cC.out _ (by exact (below_drewN (Below.refl _ Z) 1).trans b1.out) _ ?_; intro w2 b2; replace b2 := hd b2))
  have hB := hd (show Below w.heap.size w w2 from by
    have e := hz.out
    rw [e]
    exact hbZ.out.trans (((below_drewN (Below.refl _ Z) 1).trans (b1.out.trans (b2.out.mono b1.out.size))).mono (Nat.le_of_lt hzl)))
  go_wp2
  have e := hz.out
  first | exact cl1 (fin.out _ (by rw [← e]; exact hB.out)) rfl | (go_ret; exact cl1 (fin.out _ (by rw [← e]; exact hB.out)) rfl) | trace_state

end Go.Proofs.YtidhiaaicmfabaaGreatDoor

/- FOR is checked (seat .ZD alone). -/
namespace Go.Proofs.YtidhiaaicmfabaaGreatDoor
open Go.RowKit Go.Proofs Go.Deep

theorem step_appL {P : Program} {w : World} {ops : Array Oper} {o : Oper} {a : Act} {K : Act → World → Prop} {Q : Exit → Act → World → Prop} {E : Prop} (hgd : o.guard = none) (s x : Operand) (t : TypeId)
    (ho : o.op = .call { callee := .builtin .append, args := #[s, x], argTypes := #[t, t] })
    (base : Nat) (e : TypeId) (z : Value) (size bytes : Nat) (ht : P.underlying t = some (.slice e)) (hinfo : (P.info? e).map (fun i => (i.zero, i.size, i.bytes)) = some (some z, size, bytes)) (hzs : z.cells.size = size) (hsz : 0 < size)
    (v : Value) (n : Nat) (xs : List Value) (hs : a.eval s = v) (hown : w.ownsRow base e size v n xs)
    (g m c : Nat) (news : List Value) (hx : a.eval x = .slice (some ⟨g, 0, none⟩) m c) (hg : w.heap[g]? = some (.cells news.toArray e)) (hl : news.length = m * size) (h1 : ∀ u ∈ news, u.oneCell' = true)
    (hm : 0 < m) (h63 : n + m ≤ maxLen) (hbytes : (n + m) * bytes ≤ 140737488355328) (hbase : base ≤ w.heap.size)
    (h : ∀ g' cap w', w'.ownsRow base e size (.slice (some ⟨g', 0, none⟩) (n + m) cap) (n + m) (xs ++ news) → w.grownBy w' v.ownBlock → (v.ownBlock = some g' ∨ g' = w.heap.size) → K (a.put o.dst (.slice (some ⟨g', 0, none⟩) (n + m) cap)) w') :
    if Region.wanted o (yielded ops a.tmps) = true then Oper.wp P o a w K Q else E := by
  obtain ⟨i, hi, hzz⟩ := Option.map_eq_some_iff.1 hinfo
  simp only [Prod.mk.injEq] at hzz
  obtain ⟨hz, hs1, hb1⟩ := hzz
  refine step_append_lies _ hgd s x t ho base e i z size bytes ht hi hz hs1 hb1 hzs hsz v n xs hs hown ⟨g, 0, none⟩ m c news hx hl ?_ h1 hm h63 hbytes hbase w.heap.size rfl (fun g' cap w' a1 a2 a3 _ => h g' cap w' a1 a2 a3)
  intro j u hu
  have hadd : (⟨g, 0, none⟩ : Addr).add j = ⟨g, j, none⟩ := by unfold Addr.add; split <;> simp_all
  rw [hadd, cell_of_row _ g j news.toArray e (0, 0) hg]
  simpa using hu
/-- The checker's memory, its row of FORs turned. -/
theorem Env.turn {bc bm : Nat} {fst : Nat → Int} {vs : List Vd} {bs : List Nat} {lv lv' : Value} {ls ls' : List ByteArray} {w w' : World} (h : Env bc bm fst vs bs lv ls w) (hk : ∀ b, b < w.heap.size → b ≠ bc → lv.ownBlock ≠ some b → w'.heap[b]? = w.heap[b]?) (hck : w'.rowIs bc 149 3 (ckF bm lv')) (hl : w'.ownsRow 0 9 1 lv' ls'.length (strV ls')) : Env bc bm fst vs bs lv' ls' w' := by
  refine ⟨hck, ?_, h.vars.keep (fun b cur _ hc => hk b (Array.getElem?_eq_some_iff.1 hc).1 (h.not_ck hc (by decide)) (h.not_own hc (by decide))), hl, h.names⟩
  obtain ⟨D, ⟨es, c, h1, h2⟩, h3⟩ := h.nm
  refine h.nm.keep (hk bm h.nm.lt (fun e => ?_) (fun e => ?_))
  · subst e
    obtain ⟨cur, h4, _⟩ := h.ck
    rw [h1] at h4
    cases h4
  · obtain ⟨cur, h4⟩ := h.own_str e
    rw [h1] at h4
    cases h4
theorem ck_row {bc bm : Nat} {lv lv' : Value} {w : World} (h : w.rowIs bc 149 3 (ckF bm lv)) : (w.setCell ⟨bc, 1, none⟩ lv').rowIs bc 149 3 (ckF bm lv') :=
  (h.set 1 lv').congr (fun i _ => by unfold ckF; by_cases e : i = 1 <;> simp [e])
theorem RowIn.tagZ {w w' : World} {lo hi T sz n : Nat} {v : Value} {xs : List Value} (h : RowIn w lo hi T sz v n xs) (hk : ∀ (b : Nat) (cur : Array Value), w.heap[b]? = some (Obj.cells cur T (0, 0)) → w'.heap[b]? = w.heap[b]?) : RowIn w' lo hi T sz v n xs := by
  refine ⟨⟨h.1.1, ?_⟩, h.2⟩
  rcases h.1.2 with h2 | ⟨g, cap, cur, rfl, hbb, hg, r⟩
  · exact .inl h2
  · exact .inr ⟨g, cap, cur, rfl, hbb, (hk g cur hg).trans hg, r⟩
theorem Kc.any {bc lo hi lo' hi' : Nat} {u u' : Value} {w w' : World} (h : Kc bc lo hi u u' w w') (hn : hi ≤ lo) : Kc bc lo' hi' u u' w w' := ⟨h.os, h.tape, h.output, h.size, fun b hb a1 a2 _ => h.block b hb a1 a2 (fun _ _ => by omega), h.own⟩
set_option maxRecDepth 100000 in
set_option maxHeartbeats 4000000 in
theorem check_loop {vs : List Vd} {ls : List ByteArray} {s : ByteArray} {f l : Int} {b : Sl} {v : Vd} (hv : lookV vs s = some v) (hr : v.role = 2) (hk : (v.kind = 1 ∧ inI f = true ∧ inI l = true) ∨ (v.kind = 2 ∧ inD f = true ∧ inD l = true)) (ha : v.arr = false) (hns : (ls.any (fun x => decide (s = x))) = false) (hb : AllCkL vs (ls ++ [s]) b) (hbl : b.len ≤ 1000000) (hls : ls.length ≤ 1000) : CheckOkL vs ls (.loop s f l b) := by
  intro bc bm lo hi t fst bs lv u w hib h hx R fin
  obtain ⟨vb, hvb, xs, hrow, hsl⟩ := hx
  injection hvb with e1 e2
  subst e1 e2
  obtain ⟨ao, cp, rfl⟩ := own_slS hrow.1
  simp only [sfn]
  obtain ⟨j, bb, h1, h2, h3⟩ := look_find vs bs s v h.vars.len hv
  obtain ⟨_, hrw⟩ := h.vars.row j v bb h1 h2
  obtain ⟨hm, hnm⟩ := lookV_mem vs s v hv
  have hsz : s.size ≤ maxLen := by rw [← hnm]; have := (h.names v hm).le; unfold maxLen; omega
  have c0 : w.cell? ⟨bc, 0, none⟩ = some (.map (some bm)) := h.ck.cell (i := 0) (by omega)
  have c1 : w.cell? ⟨bc, 1, none⟩ = some lv := h.ck.cell (i := 1) (by omega)
  have f1 := h.ck.frozen 1
  have lb := h.ck.lt
  have b1 : w.cell? ⟨bb, 1, none⟩ = some (.int .u8 2) := by have := hrw.cell (i := 1) (by omega); rw [show vdF v (fst j) 1 = .int .u8 (v.role : Int) from rfl, hr] at this; exact this
  have b3 : w.cell? ⟨bb, 3, none⟩ = some (.bool false) := by have := hrw.cell (i := 3) (by omega); rw [show vdF v (fst j) 3 = .bool v.arr from rfl, ha] at this; exact this
  obtain ⟨κ, hκ⟩ : ∃ κ : Int, κ = (v.kind : Int) := ⟨_, rfl⟩
  have b2 : w.cell? ⟨bb, 2, none⟩ = some (.int .u8 κ) := by rw [hκ]; exact hrw.cell (i := 2) (by omega)
  have lbb := hrw.lt
  have hisn : isNum κ = true := by
    rcases hk with ⟨e, _⟩ | ⟨e, _⟩ <;> (rw [hκ, e]; rfl)
  have hH1 : ∀ (W : World) (R' : Ending → World → Prop), R' (.returned (.bool true)) W → Calls Tryz.prog 322 #[.int .u8 κ, .int .i64 f] W R' := fun W R' hR' => by
    rcases hk with ⟨e, e1, e2⟩ | ⟨e, e1, e2⟩
    · rw [hκ, e]; exact holds_int W f R' (by rw [e1]; exact hR')
    · rw [hκ, e]; exact holds_dint W f e1 R' hR'
  have hH2 : ∀ (W : World) (R' : Ending → World → Prop), R' (.returned (.bool true)) W → Calls Tryz.prog 322 #[.int .u8 κ, .int .i64 l] W R' := fun W R' hR' => by
    rcases hk with ⟨e, e1, e2⟩ | ⟨e, e1, e2⟩
    · rw [hκ, e]; exact holds_int W l R' (by rw [e2]; exact hR')
    · rw [hκ, e]; exact holds_dint W l e2 R' hR'
  obtain ⟨Z, hZ⟩ : ∃ Z, Z = w.alloc (Obj.cells #[.string s, .int .i64 f, .int .i64 l, .slice ao b.len cp] 320) := ⟨_, rfl⟩
  have hbZ : Below w.heap.size w Z := by rw [hZ]; exact (Below.refl _ w).alloc (Nat.le_refl _) _
  have envZ := h.kf (lo := 0) (hi := 0) (Kf.of_below hbZ)
  have hlk : ∀ n, (Instr.lookup 90 (.map (some bm)) (.string s) false).run Tryz.prog (Z.drewN n) = .ok (.pointer (some ⟨bb, 0, none⟩)) (Z.drewN n) := fun n => by
    have hnm2 : NmAt (Z.drewN n) bm vs.length (findB vs bs) := envZ.nm
    have hl := hnm2.look s hsz
    rw [h3] at hl
    exact hl
  have hcon : ∀ n (R' : Ending → World → Prop), R' (.returned (.bool false)) (Z.drewN n) → Calls Tryz.prog 313 #[lv, .string s] (Z.drewN n) R' := fun n R' hR => contains_no (Z.drewN n) envZ.loops s (fun x hx => beq_ne (fun e => by
      subst e
      have : (ls.any (fun x => decide (s = x))) = true := List.any_eq_true.2 ⟨s, hx, by simp⟩
      rw [this] at hns
      cases hns)) hls R' hR
  have hnewb : Z.heap[w.heap.size]? = some (.cells #[.string s, .int .i64 f, .int .i64 l, .slice ao b.len cp] 320) := by rw [hZ]; exact allocCells
  have p0 : Z.cell? ⟨w.heap.size, 0, none⟩ = some (.string s) := cellOf (i := 0) hnewb rfl
  have p1 : Z.cell? ⟨w.heap.size, 1, none⟩ = some (.int .i64 f) := cellOf (i := 1) hnewb rfl
  have p2 : Z.cell? ⟨w.heap.size, 2, none⟩ = some (.int .i64 l) := cellOf (i := 2) hnewb rfl
  have p3 : Z.cell? ⟨w.heap.size, 3, none⟩ = some (.slice ao b.len cp) := cellOf (i := 3) hnewb rfl
  have hzl : w.heap.size < Z.heap.size := by rw [hZ]; simp
  have c0 : Z.cell? ⟨bc, 0, none⟩ = some (.map (some bm)) := (hbZ.cell (p := ⟨bc, 0, none⟩) lb).trans c0
  have c1 : Z.cell? ⟨bc, 1, none⟩ = some lv := (hbZ.cell (p := ⟨bc, 1, none⟩) lb).trans c1
  have b1 : Z.cell? ⟨bb, 1, none⟩ = some (.int .u8 2) := (hbZ.cell (p := ⟨bb, 1, none⟩) lbb).trans b1
  have b2 : Z.cell? ⟨bb, 2, none⟩ = some (.int .u8 κ) := (hbZ.cell (p := ⟨bb, 2, none⟩) lbb).trans b2
  have b3 : Z.cell? ⟨bb, 3, none⟩ = some (.bool false) := (hbZ.cell (p := ⟨bb, 3, none⟩) lbb).trans b3
  have hrZ := hrow.below hbZ
  have hsZ := hsl.belowZ hbZ
  have lbZ : bc < Z.heap.size := by omega
  have lbbZ : bb < Z.heap.size := by omega
  replace fin := hd fin
  replace h := hd h
  replace hrow := hd hrow
  replace hsl := hd hsl
  replace hrw := hd hrw
  have hH : ∀ (x : Int) (W : World) (R' : Ending → World → Prop), (x = f ∨ x = l) → R' (.returned (.bool true)) W → Calls Tryz.prog 322 #[.int .u8 κ, .int .i64 x] W R' := fun x W R' hx hR' => by
    rcases hx with rfl | rfl
    · exact hH1 W R' hR'
    · exact hH2 W R' hR'
  replace hH := hd hH
  clear hH1 hH2
  replace hcon := hd hcon
  replace hrZ := hd hrZ
  replace hsZ := hd hsZ
  replace envZ := hd envZ
  replace hnewb := hd hnewb
  clear h1 h2 h3 hm hnm hk hκ
  go_enter Tryz.func325, Tryz.ntmps325
  go_wp2_with (fail)
  rw [← hZ]
  replace hZ := hd hZ
  replace hbZ := hd hbZ
  generalize hz : w.heap.size = z at *
  replace hz := hd hz
  go_quiet (fail)
  go_wp2_with (first | (go_at_call 299; refine isNumber_any _ _ _ ?_; rw [hisn]) | (go_at_call 69; refine want_ok _ _ _ ?_))
  go_quiet (first | (go_at_call 313; exact hcon.out _ _ ⟨rfl, _, rfl⟩) | (go_at_call 69; exact want_ok _ _ _ ⟨rfl, _, rfl⟩))
  go_wp2_with (fail)
  go_quiet (first | (go_at_call 322; exact hH.out _ _ _ (by first | exact .inl rfl | exact .inr rfl) ⟨rfl, _, rfl⟩) | (go_at_call 69; exact want_ok _ _ _ ⟨rfl, _, rfl⟩))
  go_wp2_with (fail)
  generalize hY : World.drewN _ _ = Y
  have hZY : Below Z.heap.size Z Y := by
    rw [← hY]
    first | exact below_drewN (Below.refl _ Z) _ | exact below_drewN (below_drewN (Below.refl _ Z) _) _ | exact below_drewN (below_drewN (below_drewN (Below.refl _ Z) _) _) _
  have hYh : ∀ k : Nat, Y.heap[k]? = Z.heap[k]? := fun k => by rw [← hY]; rfl
  have hYs : Y.heap.size = Z.heap.size := by rw [← hY]; rfl
  have envY : Env bc bm fst vs bs lv ls Y := envZ.out.kf (lo := 0) (hi := 0) (Kf.of_below hZY)
  have hbY : Below z w Y := hbZ.out.trans (hZY.mono (by omega))
  have hrY := hrZ.out.below hZY
  have hsY := hsZ.out.belowZ hZY
  have hnY : Y.heap[z]? = some (.cells #[.string s, .int .i64 f, .int .i64 l, .slice ao b.len cp] 320) := (hYh z).trans hnewb.out
  have y0 : Y.cell? ⟨z, 0, none⟩ = some (.string s) := cellOf (i := 0) hnY rfl
  have y3 : Y.cell? ⟨z, 3, none⟩ = some (.slice ao b.len cp) := cellOf (i := 3) hnY rfl
  have yc1 : Y.cell? ⟨bc, 1, none⟩ = some lv := envY.ck.cell (i := 1) (by omega)
  have yf1 := envY.ck.frozen 1
  have lY : bc < Y.heap.size := by omega
  have zY : z < Y.heap.size := by omega
  have nb1 : some bc ≠ lv.ownBlock := fun e => by
    obtain ⟨cur, h4⟩ := envY.own_str e.symm
    exact envY.not_ck h4 (by decide) rfl
  have nbz : some z ≠ lv.ownBlock := fun e => envY.not_own hnY (by decide) e.symm
  have hor := envY.loops
  obtain ⟨lo1, lc1, rfl⟩ := own_slS hor
  replace hYs := hd hYs
  replace hor := hd hor
  replace nb1 := hd nb1
  replace nbz := hd nbz
  replace envY := hd envY
  replace hYh := hd hYh
  replace hbY := hd hbY
  replace hrY := hd hrY
  replace hsY := hd hsY
  replace hnY := hd hnY
  clear hY hrZ hsZ envZ hnewb hcon hlk p0 p1 p2 p3 c0 c1 b1 b2 b3
  go_region_law
    ((refine step_appL (by rfl) _ _ 81 (by rfl) 0 9 _ 1 16 ulStrs infoStrZ rfl (by omega) _ ls.length (strV ls) (by rfl) (by exact (hor.out.alloc _).drew) Y.heap.size 1 1 [.string s] (by rfl) (by exact new_at rfl) rfl (oneStr s) (by omega) (by unfold maxLen; omega) (by omega) (by simp) ?_; intro g1 cap1 w1 hown1 hgr1 hat1; have cx : w1.cell? ⟨bc, 1, none⟩ = some (.slice lo1 ls.length lc1) := far_of hgr1 (by exact cell_al yc1 _) nb1.out; have fx : w1.frozen? ⟨bc, 1, none⟩ = false := frz_of hgr1 (by exact frozen_al yf1 lY _) (by simp; omega) nb1.out; replace hown1 := hd hown1; replace hgr1 := hd hgr1; replace hat1 := hd hat1))
  all_goals
    have hgb : ∀ k, k < Y.heap.size → k ≠ bc → (Value.slice lo1 ls.length lc1).ownBlock ≠ some k → (w1.setCell ⟨bc, 1, none⟩ (.slice (some ⟨g1, 0, none⟩) (ls.length + 1) cap1)).heap[k]? = Y.heap[k]? := fun k hk hne hno => by
      rw [Below.heap_setCell _ _ _ _ hne]
      exact (hgr1.out.block k (by simp; omega) (fun e => hno e.symm)).trans (Below.heap_alloc _ _ _ hk)
    have hg1 : g1 ≠ bc := by
      rcases hat1.out with e | e
      · intro e2; subst e2; exact nb1.out e.symm
      · have : g1 = Y.heap.size + 1 := by simpa using e
        omega
    have hsz1 : Y.heap.size + 1 ≤ w1.heap.size := by have := hgr1.out.size; simpa using this
    have env5 : Env bc bm fst vs bs (.slice (some ⟨g1, 0, none⟩) (ls.length + 1) cap1) (ls ++ [s]) (w1.setCell ⟨bc, 1, none⟩ (.slice (some ⟨g1, 0, none⟩) (ls.length + 1) cap1)) := by
      refine envY.out.turn hgb (ck_row (lv := .slice lo1 ls.length lc1) (envY.out.ck.of_block ((hgr1.out.block bc (by simp; omega) nb1.out).trans (Below.heap_alloc _ _ _ lY)))) ?_
      have ho := own_keep (w' := w1.setCell ⟨bc, 1, none⟩ (.slice (some ⟨g1, 0, none⟩) (ls.length + 1) cap1)) hown1.out (fun k hk _ _ => Below.heap_setCell _ _ _ _ (by
        simp only [Value.ownBlock, Option.some.injEq] at hk
        show k ≠ bc
        omega))
      rw [List.length_append]
      simpa [strV] using ho
    have k5 : ∀ lo hi, Kc bc lo hi (.slice lo1 ls.length lc1) (.slice (some ⟨g1, 0, none⟩) (ls.length + 1) cap1) Y (w1.setCell ⟨bc, 1, none⟩ (.slice (some ⟨g1, 0, none⟩) (ls.length + 1) cap1)) := by
      intro lo hi
      refine ⟨hgr1.out.os, hgr1.out.tape, hgr1.out.output, by rw [World.size_setCell]; omega, fun k hk h1 h2 _ => hgb k hk h1 h2, ?_⟩
      rcases hat1.out with e | e
      · exact .inl e.symm
      · exact .inr ⟨g1, rfl, by have : g1 = Y.heap.size + 1 := by simpa using e
                                omega⟩
    have hn5 := ((k5 0 0).tag envY.out hnY.out (by decide) (by decide) (by decide)).trans hnY.out
    have y3 : (w1.setCell ⟨bc, 1, none⟩ (.slice (some ⟨g1, 0, none⟩) (ls.length + 1) cap1)).cell? ⟨z, 3, none⟩ = some (.slice ao b.len cp) := cellOf (i := 3) hn5 rfl
    have sm5 := (k5 0 0).same (g := none) envY.out (lo2 := lo) (hi2 := hi) (.inl (Nat.zero_le _)) hib
    have hr5 := hrY.out.keep (by decide) sm5
    have hs5 := hsY.out.keep (fun b cur T h0 h1 h2 _ h4 => sm5 b cur T h0 h1 h2 (by simp) h4)
    have zb : z ≠ bc := by omega
    have z5 : z < (w1.setCell ⟨bc, 1, none⟩ (.slice (some ⟨g1, 0, none⟩) (ls.length + 1) cap1)).heap.size := by rw [World.size_setCell]; omega
    have hgo : ∀ (R' : Ending → World → Prop), (∀ w' lv', Env bc bm fst vs bs lv' (ls ++ [s]) w' → Kc bc lo hi (.slice (some ⟨g1, 0, none⟩) (ls.length + 1) cap1) lv' (w1.setCell ⟨bc, 1, none⟩ (.slice (some ⟨g1, 0, none⟩) (ls.length + 1) cap1)) w' → SlIn (kE vs) (Value.slice ao b.len cp).ownBlock b lo hi w' xs → R' (.returned (.tuple #[])) w') → Calls Tryz.prog 70 #[.pointer (some ⟨bc, 0, none⟩), .slice ao b.len cp] (w1.setCell ⟨bc, 1, none⟩ (.slice (some ⟨g1, 0, none⟩) (ls.length + 1) cap1)) R' := fun R' hR' => by
      by_cases hlh : lo ≤ hi
      · exact checks_okL hb hbl env5 hr5.1 hs5 hlh hib R' hR'
      · cases b with
        | nil =>
          have hx0 : xs = [] := hs5
          exact checks_okL (lo := 0) (hi := 0) (g := (Value.slice ao Sl.nil.len cp).ownBlock) hb hbl env5 hr5.1 (show SlIn _ _ Sl.nil 0 0 _ xs from hx0) (Nat.le_refl _) (Nat.zero_le _) R' (fun w' lv' e k _ => hR' w' lv' e (k.any (Nat.le_refl _)) hx0)
        | cons q r =>
          obtain ⟨_, _, _, _, _, _, q1, q2, q3, q4, _⟩ := hs5
          omega
    replace hgo := hd hgo
    replace env5 := hd env5
    replace k5 := hd k5
    replace hn5 := hd hn5
    replace hgb := hd hgb
    clear hr5 hs5 sm5 hown1 hgr1 hat1 cx fx
    generalize hW5 : w1.setCell ⟨bc, 1, none⟩ (.slice (some ⟨g1, 0, none⟩) (ls.length + 1) cap1) = W5 at *
    go_wp2_with (fail)
    refine hgo.out _ ?_
    intro w6 lv6 env6 k6 hs6
    have ho6 := env6.loops
    rw [List.length_append, List.length_cons, List.length_nil] at ho6
    obtain ⟨g6, cap6, rfl, hc6, _⟩ := own_one ho6 (by omega)
    rw [show strV (ls ++ [s]) = strV ls ++ [.string s] by simp [strV]] at ho6
    have hpop := ownsRow_pop (last := [.string s]) (xs := strV ls) (n := ls.length) (by simp [strV]) ho6
    have c61 : w6.cell? ⟨bc, 1, none⟩ = some (.slice (some ⟨g6, 0, none⟩) (ls.length + 1) cap6) := env6.ck.cell (i := 1) (by omega)
    have f61 := env6.ck.frozen 1
    have l6 := env6.ck.lt
    have hg6 : g6 ≠ bc := fun e => by
      obtain ⟨cur, h4⟩ := env6.own_str (b := g6) rfl
      exact env6.not_ck h4 (by decide) e
    replace env6 := hd env6
    replace k6 := hd k6
    replace hs6 := hd hs6
    replace hpop := hd hpop
    clear ho6 hgo
    go_wp2_with (fail)
    go_region
    all_goals
      have hk7 : ∀ k : Nat, k ≠ bc → ((w6.setCell ⟨bc, 1, none⟩ (.slice (some ⟨g6, 0, none⟩) ls.length cap6)).drew).heap[k]? = w6.heap[k]? := fun k hk => Below.heap_setCell _ _ _ _ hk
      have env7 : Env bc bm fst vs bs (.slice (some ⟨g6, 0, none⟩) ls.length cap6) ls ((w6.setCell ⟨bc, 1, none⟩ (.slice (some ⟨g6, 0, none⟩) ls.length cap6)).drew) :=
        env6.out.turn (fun k _ h1 _ => hk7 k h1) (ck_row env6.out.ck) (own_keep hpop.out (fun k hk _ _ => hk7 k (by
          simp only [Value.ownBlock, Option.some.injEq] at hk
          omega)))
      have k7 : Kc bc lo hi (.slice (some ⟨g6, 0, none⟩) (ls.length + 1) cap6) (.slice (some ⟨g6, 0, none⟩) ls.length cap6) w6 ((w6.setCell ⟨bc, 1, none⟩ (.slice (some ⟨g6, 0, none⟩) ls.length cap6)).drew) := ⟨rfl, rfl, rfl, by show w6.heap.size ≤ (w6.setCell _ _).heap.size; rw [World.size_setCell]; exact Nat.le_refl _, fun k _ h1 _ _ => hk7 k h1, .inl rfl⟩
      have k0 : Kc bc lo hi (.slice lo1 ls.length lc1) (.slice lo1 ls.length lc1) w Y := Kc.of_kf (Kf.of_below (by rw [hz.out]; exact hbY.out))
      have hs7 := hs6.out.keep (w' := (w6.setCell ⟨bc, 1, none⟩ (.slice (some ⟨g6, 0, none⟩) ls.length cap6)).drew) (fun k _ _ _ _ h2 _ _ => hk7 k (by omega))
      have hkA := k0.trans (((k5.out lo hi).trans k6.out).trans k7)
      have hr7 := hrow.out.tagZ (fun k cur hc => hkA.tag h.out hc (by decide) (by decide) (by decide))
      go_end0
      exact fin.out _ _ env7 hkA ⟨_, rfl, xs, hr7, hs7⟩

end Go.Proofs.YtidhiaaicmfabaaGreatDoor

/- Statements' code, where they lie ahead of the writer (seat .ZD alone). -/
namespace Go.Proofs.YtidhiaaicmfabaaGreatDoor
open Go.RowKit Go.Proofs Go.Deep

/-- The code of a statement is written, where the statement lies ahead of the writer. -/
def SWriteOkL (vs : List Vd) (sp : Int) (s : Stz) (f : Nat → List Int) (q : Bool) : Prop := ∀ {B bw bm lo hi t : Nat} {bs : List Nat} {kp : Bool} {cv u : Value} {code : List Int} {w : World}, hi ≤ bw → Wr B bw bm (fstV vs) vs bs sp kp cv code w → StIn (kE vs) s lo hi w (.iface t u) → code.length + (f code.length).length ≤ 1000000 →
    ∀ (R : Ending → World → Prop), (∀ w' cv', Wr B bw bm (fstV vs) vs bs sp (kp || q) cv' (code ++ f code.length) w' → Fu bw cv cv' w w' → R (.returned (.tuple #[])) w') → Calls Tryz.prog (swfn s) #[u, .pointer (some ⟨bw, 0, none⟩)] w R
theorem SWriteOk.toL {vs : List Vd} {sp : Int} {s : Stz} {f : Nat → List Int} {q : Bool} (h : SWriteOk vs sp s f q) : SWriteOkL vs sp s f q := fun _ h1 h2 h3 R fin => h h1 h2 h3 R fin
/-- Statements whose code can be written. -/
inductive AllWL (vs : List Vd) (sp : Int) : Sl → (Nat → List Int) → Bool → Prop where
  | nil : AllWL vs sp .nil (fun _ => []) false
  | cons {h : Stz} {t : Sl} {fh ft : Nat → List Int} {qh qt : Bool} (h1 : SWriteOkL vs sp h fh qh) (h2 : AllWL vs sp t ft qt) : AllWL vs sp (.cons h t) (fun a => fh a ++ ft (a + (fh a).length)) (qh || qt)
/-- What is left to write, and what is written. -/
structure WrLL (vs : List Vd) (sp : Int) (B bw bm : Nat) (bs : List Nat) (kp : Bool) (code : List Int) (cv : Value) (l : Sl) (f : Nat → List Int) (q : Bool) (w : World) (i : Nat) (wr : World) (rest : Sl) : Prop where
  ex : ∃ (done : Sl) (fr : Nat → List Int) (qr : Bool) (cv' : Value) (code' : List Int) (kp' : Bool), l = done.app rest ∧ i = done.len ∧ AllWL vs sp rest fr qr ∧ Wr B bw bm (fstV vs) vs bs sp kp' cv' code' wr ∧ Fu bw cv cv' w wr ∧ code' ++ fr code'.length = code ++ f code.length ∧ (kp' || qr) = (kp || q)
set_option maxRecDepth 100000 in
set_option maxHeartbeats 4000000 in
theorem writes_okL {vs : List Vd} {sp : Int} {l : Sl} {f : Nat → List Int} {q : Bool} (hl : AllWL vs sp l f q) (hlen : l.len ≤ 1000000) {B bw bm lo hi base : Nat} {bs : List Nat} {kp : Bool} {cv bv : Value} {code : List Int} {g : Option Nat} {xs : List Value} {w : World} (h : Wr B bw bm (fstV vs) vs bs sp kp cv code w) (hown : w.ownsRow base 240 1 bv l.len xs) (hx : SlIn (kE vs) g l lo hi w xs) (hh : hi ≤ bw) (hsz : (code ++ f code.length).length ≤ 1000000)
    (R : Ending → World → Prop) (fin : ∀ w' cv', Wr B bw bm (fstV vs) vs bs sp (kp || q) cv' (code ++ f code.length) w' → Fu bw cv cv' w w' → R (.returned (.tuple #[])) w') : Calls Tryz.prog 73 #[.pointer (some ⟨bw, 0, none⟩), bv] w R := by
  obtain ⟨bo, bcp, rfl, hcp, hbo⟩ := own_form hown
  have hstart : WrLL vs sp B bw bm bs kp code cv l f q w 0 w l := ⟨.nil, f, q, cv, code, kp, rfl, rfl, hl, h, Fu.refl _ _ _, rfl, rfl⟩
  replace fin := hd fin
  replace hstart := hd hstart
  replace hbo := hd hbo
  replace hown := hd hown
  replace hx := hd hx
  replace h := hd h
  replace hsz := hd hsz
  go_enter Tryz.func73, Tryz.ntmps73
  go_wp2
  go_loopw [5, 8] (fun _ iv wr => ∃ (i : Nat) (rest : Sl), iv = .int .i64 (i : Int) ∧ WrLL vs sp B bw bm bs kp code cv l f q w i wr rest) (fun _ iv _ => l.len - (intOf iv).toNat)
  case atStart => exact ⟨0, l, rfl, hstart.out⟩
  case round =>
    obtain ⟨i, rest, rfl, ⟨done, fr, qr, cv2, code2, kp2, happ, hie, hok, hwr, hfu, hcode, hkp⟩⟩ := hrel
    clear hstart
    have hll : l.len = done.len + rest.len := by rw [happ, Sl.len_app]
    cases hok with
    | nil =>
      simp only [Sl.len] at hll
      have td : decide ((i : Int) < (l.len : Int)) = false := by simp; omega
      have hnl : ¬ i < l.len := by omega
      rw [List.append_nil] at hcode
      rw [Bool.or_false] at hkp
      rw [hcode, hkp] at hwr
      replace hwr := hd hwr
      replace hfu := hd hfu
      clear hll hie happ hcode hkp
      go_wp2
      go_end0
      exact fin.out _ _ hwr.out hfu.out
    | @cons s t fh ft qh qt k1 k2 =>
      simp only [Sl.len] at hll
      have td : decide ((i : Int) < (l.len : Int)) = true := by simp; omega
      have hnl : i < l.len := by omega
      obtain ⟨v, a, b, p1, p2, p3, p4, p5⟩ := SlIn.at (done := done) (s := s) (t := t) (by rw [← happ]; exact hx.out)
      have hkeep : ∀ c, c < hi → wr.heap[c]? = w.heap[c]? := fun c hc => h.out.same hfu hc hh
      have p5w : StIn (kE vs) s a b wr v := p5.keep (fun c _ _ _ _ h2 _ _ => hkeep c (by omega))
      obtain ⟨tv, uv, rfl⟩ := p5.iface
      have mc := meth_swrite p5
      have mc1 := mc.m
      have mc2 := mc.c
      obtain ⟨gb, rfl, hgl, hgs, hg⟩ := hbo.out (by omega)
      rw [← hie] at p1
      obtain ⟨gcur, hgc⟩ : ∃ cur, w.heap[gb]? = some (.cells cur 240 (0, 0)) := by
        rcases hown.out.2 with ⟨e1, e2⟩ | ⟨g', cap, cur, e1, _, hg', _⟩
        · injection e1 with e1; cases e1
        · injection e1 with e1 _ _
          injection e1 with e1
          injection e1 with e1
          subst e1
          exact ⟨cur, hg'⟩
      have c1 : wr.cell? ⟨gb, i, none⟩ = some (.iface tv uv) := by
        have hgw := h.out.tag hfu hgc (by decide) (by decide)
        rw [World.cell?_of_block (w := w) (a := ⟨gb, i, none⟩) (hgw.trans hgc.symm)]
        exact hg i _ p1
      have j0 : (0 : Int) ≤ (i : Int) ∧ (i : Int) < (l.len : Int) := by omega
      have cC := hd (fun (W : World) => @k1 B bw bm a b tv bs kp2 cv2 uv code2 W)
      have hlen2 : code2.length + (fh code2.length).length ≤ 1000000 := by
        have h1 := hsz.out
        rw [← hcode] at h1
        simp only [List.length_append] at h1
        omega
      generalize swfn s = FS at *
      replace hll := hd hll
      replace hie := hd hie
      replace happ := hd happ
      replace hcode := hd hcode
      replace hkp := hd hkp
      replace hwr := hd hwr
      replace hfu := hd hfu
      replace p5w := hd p5w
      clear hg mc p5 p1 hgc k1 hkeep
      go_wp2_with (fail)
      refine cC.out _ (by omega) hwr.out p5w.out hlen2 _ ?_
      intro w1 cv3 h3 hf3
      have hne : WrLL vs sp B bw bm bs kp code cv l f q w (i + 1) w1 t := by
        refine ⟨done.app (.cons s .nil), ft, qt, cv3, code2 ++ fh code2.length, kp2 || qh, ?_, ?_, k2, h3, hfu.out.trans hf3, ?_, ?_⟩
        · rw [happ.out, Sl.app_assoc]; rfl
        · rw [Sl.len_app, hie.out]; rfl
        · rw [← hcode.out, List.length_append, List.append_assoc]
        · rw [Bool.or_assoc]; exact hkp.out
      replace hne := hd hne
      clear h3 hf3 hwr hfu p5w
      go_wp2
      exact ⟨⟨i + 1, t, by go_num, hne.out⟩, by have := hll.out; have := hie.out; simp [intOf]; omega⟩

end Go.Proofs.YtidhiaaicmfabaaGreatDoor

/- Compile at a right text with FORs (seat .ZD alone). -/
namespace Go.Proofs.YtidhiaaicmfabaaGreatDoor
open Go.RowKit Go.Proofs Go.Deep

set_option maxRecDepth 100000 in
set_option maxHeartbeats 4000000 in
theorem typed_okL {lo bm : Nat} {w : World} {vs : List Vd} {bs : List Nat} {us : List ByteArray} {body : Sl} {xs : List Value} {vv uv bv : Value} (h : PgIn lo w vs bs us body xs vv uv bv) (hnm : NmAt w bm vs.length (findB vs bs)) (hlow : ∀ v ∈ vs, LowName v.name) (hwv : ∀ v ∈ vs, wtV v = true) (hck : AllCkL vs [] body) (hvl : vs.length ≤ 1000000) (hbl : body.len ≤ 1000000) (hlo : lo ≤ w.heap.size)
    (R : Ending → World → Prop) (fin : ∀ w', Kf lo w.heap.size w w' → SlIn (kE vs) bv.ownBlock body lo w.heap.size w' xs → R (.returned (.bool true)) w') :
    Calls Tryz.prog 43 #[.agg #[vv, uv, bv], .map (some bm)] w R := by
  obtain ⟨vo, vc, rfl, hvc, hvo⟩ := own_form h.vown
  obtain ⟨uo, uc, rfl⟩ := own_slS h.used
  obtain ⟨bo, bc, rfl⟩ := own_slS h.bown
  replace fin := hd fin
  replace hvo := hd hvo
  obtain ⟨W0, hW0⟩ : ∃ W0, W0 = (w.alloc (Obj.cells #[.slice vo vs.length vc, .slice uo us.length uc, .slice bo body.len bc] 87)).alloc (Obj.cells #[.map (some bm), .slice none 0 0, .bool false] 149) := ⟨_, rfl⟩
  have hbel : Below w.heap.size w W0 := by rw [hW0]; exact ((Below.refl _ w).alloc (Nat.le_refl _) _).alloc (by simp) _
  have hbx : W0.heap[w.heap.size]? = some (.cells #[.slice vo vs.length vc, .slice uo us.length uc, .slice bo body.len bc] 87) := by rw [hW0]; exact (Below.heap_alloc _ _ _ (by simp)).trans allocCells
  have hck0 : W0.heap[w.heap.size + 1]? = some (.cells #[.map (some bm), .slice none 0 0, .bool false] 149) := by
    rw [hW0]
    have := allocCells (w := w.alloc (Obj.cells #[.slice vo vs.length vc, .slice uo us.length uc, .slice bo body.len bc] 87)) (cur := #[.map (some bm), .slice none 0 0, .bool false]) (T := 149) (fz := (0, 0))
    simpa using this
  replace hW0 := hd hW0
  go_enter Tryz.func43, Tryz.ntmps43
  go_wp2
  go_loopw [7, 13] (fun _ iv wr => ∃ i : Nat, i ≤ vs.length ∧ iv = .int .i64 (i : Int) ∧ wr = W0) (fun _ iv _ => vs.length - (intOf iv).toNat)
  case atStart => exact ⟨0, Nat.zero_le _, rfl, by rw [hW0.out]⟩
  case round =>
    obtain ⟨i, hi, rfl, rfl⟩ := hrel
    by_cases hlt : i < vs.length
    · have td : decide ((i : Int) < (vs.length : Int)) = true := by simp; omega
      obtain ⟨v, hv⟩ : ∃ v, vs[i]? = some v := ⟨_, List.getElem?_eq_getElem hlt⟩
      obtain ⟨b, hb⟩ : ∃ b, bs[i]? = some b := ⟨_, List.getElem?_eq_getElem (by rw [h.vars.len]; exact hlt)⟩
      obtain ⟨g, rfl, hgl, hgs, hg⟩ := hvo.out (by omega)
      obtain ⟨hblo, hbr⟩ := h.vars.row i v b hv hb
      have hblt := hbr.lt
      have hwt := hwv v (List.mem_of_getElem? hv)
      simp only [wtV, Bool.and_eq_true, Bool.or_eq_true, decide_eq_true_eq] at hwt
      obtain ⟨⟨hw1, hw2⟩, hw3⟩ := hwt
      have c1 : wr.cell? ⟨g, i, none⟩ = some (.pointer (some ⟨b, 0, none⟩)) := (hbel.cell (p := ⟨g, i, none⟩) hgs).trans (hg i _ (by unfold ptzV; rw [List.getElem?_map, hb]; rfl))
      have c2 : wr.cell? ⟨b, 2, none⟩ = some (.int .u8 (v.kind : Int)) := (hbel.cell (p := ⟨b, 2, none⟩) hblt).trans (hbr.cell (i := 2) (by omega))
      have c3 : wr.cell? ⟨b, 1, none⟩ = some (.int .u8 (v.role : Int)) := (hbel.cell (p := ⟨b, 1, none⟩) hblt).trans (hbr.cell (i := 1) (by omega))
      have c4 : wr.cell? ⟨b, 4, none⟩ = some (.int .i64 v.len) := (hbel.cell (p := ⟨b, 4, none⟩) hblt).trans (hbr.cell (i := 4) (by omega))
      have j0 : (0 : Int) ≤ (i : Int) ∧ (i : Int) < (vs.length : Int) := by omega
      have t1 : decide (1 ≤ v.len) = true := by simpa using hw2
      have t2 : decide (v.len ≤ 16) = true := by simpa using hw3
      have hcase : ((v.kind : Int) != 3) = true ∨ (((v.kind : Int) != 3) = false ∧ ((v.role : Int) == 2) = true) := by
        by_cases e : v.kind = 3
        · right
          refine ⟨by simp; omega, ?_⟩
          rcases hw1 with h | h
          · exact absurd e h
          · simp; omega
        · left; simp; omega
      clear hg hbr hv hb
      rcases hcase with t3 | ⟨t3, t4⟩
      all_goals
        go_wp2_with (first | (go_at_call 69; refine want_ok _ _ _ ?_))
        exact ⟨⟨i + 1, by omega, by go_num, by first | rfl | trivial⟩, by simp [intOf]; omega⟩
    · have td : decide ((i : Int) < (vs.length : Int)) = false := by simp; omega
      have u2 : wr.cell? ⟨w.heap.size, 2, none⟩ = some (.slice bo body.len bc) := cellOf (i := 2) hbx rfl
      have henv : Env (w.heap.size + 1) bm (fun _ => 0) vs bs (.slice none 0 0) [] wr := by
        refine ⟨rowOf hck0 rfl (fun i hi => ?_), hnm.keep (hbel.block _ hnm.lt), (h.vars.low (Nat.zero_le _)).keep (fun b _ _ hc => hbel.block b (Array.getElem?_eq_some_iff.1 hc).1), World.ownsRow_nil _ _ _ _, hlow⟩
        have : i = 0 ∨ i = 1 ∨ i = 2 := by omega
        rcases this with rfl | rfl | rfl <;> rfl
      have hbown : wr.ownsRow lo 240 1 (.slice bo body.len bc) body.len xs := own_keep h.bown (fun j _ _ hj => hbel.block j hj)
      have hbody : SlIn (fun _ => 0) (Value.slice bo body.len bc).ownBlock body lo w.heap.size wr xs := h.body.keep (fun b _ _ _ _ h2 _ _ => hbel.block b h2)
      replace hbx := hd hbx
      replace hck0 := hd hck0
      go_wp2_with (fail)
      refine checks_okL hck hbl henv hbown hbody hlo (by omega) _ ?_
      intro w1 lv1 env1 k1 hx1
      have cw : w1.cell? ⟨w.heap.size + 1, 2, none⟩ = some (.bool false) := env1.ck.cell (i := 2) (by omega)
      have hK : Kf lo w.heap.size w w1 := ⟨k1.os.trans hbel.os, k1.tape.trans hbel.tape, k1.output.trans hbel.output, Nat.le_trans hbel.size k1.size, fun b hb hp => (k1.block b (Nat.lt_of_lt_of_le hb hbel.size) (by omega) (by simp [Value.ownBlock]) (fun cur hc => hp cur ((hbel.block b hb).symm.trans hc))).trans (hbel.block b hb)⟩
      replace hK := hd hK
      replace hx1 := hd hx1
      clear k1 henv hbown hbody env1
      go_wp2
      exact cl1 (fin.out _ hK.out hx1.out) rfl
set_option maxRecDepth 100000 in
set_option maxHeartbeats 4000000 in
theorem image_plainL {lo bm : Nat} {w : World} {vs : List Vd} {bs : List Nat} {body : Sl} {xs : List Value} {vo uo bo : Option Addr} {vc n2 c2 bcp : Nat} {f : Nat → List Int} (h : PgK lo w.heap.size w vs bs body xs (.slice vo vs.length vc) (.slice bo body.len bcp)) (hnm : NmAt w bm vs.length (findB vs bs)) (hlow : ∀ v ∈ vs, LowName v.name) (hwv : ∀ v ∈ vs, wtV v = true ∧ v.role < 3 ∧ v.kind ≤ 3) (hvl : 0 < vs.length ∧ lenV vs ≤ 60) (hbl : body.len ≤ 1000000)
    (hw : AllWL vs ((cellsB vs).length : Int) body f false) (hcode : (f 0).length ≤ 60000) (hin : ∀ n ∈ f 0, 0 ≤ n ∧ n ≤ 255)
    (R : Ending → World → Prop) (fin : ∀ w', Vf lo w w' → R (.returned (.string ⟨(mkB ++ u8L (imgI (cellsB vs) (f 0 ++ [0]))).toArray⟩)) w') :
    Calls Tryz.prog 46 #[.agg #[.slice vo vs.length vc, .slice uo n2 c2, .slice bo body.len bcp], .map (some bm)] w R := by
  have hbel0 : Below w.heap.size w (w.alloc (Obj.cells #[.slice vo vs.length vc, .slice uo n2 c2, .slice bo body.len bcp] 87)) := (Below.refl _ w).alloc (Nat.le_refl _) _
  have hvown := own_keep h.vown (fun j _ _ hj => hbel0.block j hj)
  have hvars := h.vars.keep (fun b _ _ hc => hbel0.block b (Array.getElem?_eq_some_iff.1 hc).1)
  replace fin := hd fin
  have hcl := cellsB_len vs (fun v hv => (hwv v hv).1)
  have hlv := lenV_bound vs (fun v hv => (hwv v hv).1)
  go_enter Tryz.func46, Tryz.ntmps46
  go_wp2_with (fail)
  refine layCells_ok hvown hvars hwv (by omega) _ ?_
  intro w1 cv hvf1 hvars1 hcells1
  have hz1 := hvf1.size
  rw [World.size_alloc] at hz1
  have hbx1 : w1.heap[w.heap.size]? = some (.cells #[.slice vo vs.length vc, .slice uo n2 c2, .slice bo body.len bcp] 87) := (hvf1.tag allocCells (by decide)).trans allocCells
  have hvfA : Vf lo w w1 := (Vf.of_below hbel0).trans hvf1
  have hnm1 : NmAt w1 bm vs.length (findB vs bs) := hvfA.nm hnm
  have hbo1 : w1.ownsRow lo 240 1 (.slice bo body.len bcp) body.len xs := own_tag h.bown (fun b cur hc => hvfA.tag hc (by decide))
  have hbd1 : SlIn (kE vs) (Value.slice bo body.len bcp).ownBlock body lo w.heap.size w1 xs := h.body.keep2 (fun b cur T _ hT' _ _ _ hc => hvfA.tag hc hT')
  obtain ⟨co, cc, rfl, hcc, hco⟩ := own_form hcells1
  have j1 : IntKind.u8.wrap ((cellsB vs).length : Int) = ((cellsB vs).length : Int) := u8wrap (by omega) (by omega)
  have u2 : w1.cell? ⟨w.heap.size, 2, none⟩ = some (.slice bo body.len bcp) := cellOf hbx1 rfl
  have hcpos : 0 < (cellsB vs).length := by
    have h1 : ∀ (l : List Vd), (∀ v ∈ l, wtV v = true) → (l.length : Int) ≤ lenV l := by
      intro l
      induction l with
      | nil => intro _; simp [lenV]
      | cons v t ih =>
        intro h
        have h1 := ih (fun u hu => h u (List.mem_cons_of_mem _ hu))
        have h2 := h v (List.mem_cons_self ..)
        simp only [wtV, Bool.and_eq_true, decide_eq_true_eq] at h2
        simp only [lenV, List.length_cons]
        omega
    have := h1 vs (fun v hv => (hwv v hv).1)
    omega
  have hclen : (cellsB vs).length ≤ 60 := by omega
  obtain ⟨cg, rfl, hcg1, hcg2, hcg3⟩ := hco hcpos
  have hbin : ∀ n ∈ cellsB vs, 0 ≤ n ∧ n ≤ 255 := by
    have : ∀ (l : List Vd), (∀ v ∈ l, v.role < 3 ∧ v.kind ≤ 3) → ∀ n ∈ cellsB l, 0 ≤ n ∧ n ≤ 255 := by
      intro l
      induction l with
      | nil => intro _ n hn; simp [cellsB] at hn
      | cons v t ih =>
        intro hl n hn
        simp only [cellsB, List.mem_append] at hn
        rcases hn with hn | hn
        · have := List.eq_of_mem_replicate hn
          subst this
          have := hl v (List.mem_cons_self ..)
          unfold cellB
          split <;> omega
        · exact ih (fun u hu => hl u (List.mem_cons_of_mem _ hu)) n hn
    exact this vs (fun v hv => (hwv v hv).2)
  clear hcl hlv hvl
  generalize cellsB vs = CS at *
  have hlz : w.heap.size < w1.heap.size := by omega
  have hW0 : Wr (w1.heap.size + 1) w1.heap.size bm (fstV vs) vs bs (CS.length : Int) false (.slice none 0 0) [] (w1.alloc (Obj.cells #[.map (some bm), .slice none 0 0, .int .u8 (CS.length : Int), .bool false] 155)) := by
    refine ⟨rowOf allocCells rfl (fun i hi => ?_), World.ownsRow_nil _ _ _ _, Nat.lt_succ_self _, by simp, hnm1.keep (Below.heap_alloc _ _ _ hnm1.lt), (hvars1.low (Nat.zero_le _)).keep (fun b _ _ hc => Below.heap_alloc _ _ _ (Array.getElem?_eq_some_iff.1 hc).1), hlow, Nat.zero_le _⟩
    have : i = 0 ∨ i = 1 ∨ i = 2 ∨ i = 3 := by omega
    rcases this with rfl | rfl | rfl | rfl <;> rfl
  have hboW := own_keep (w' := w1.alloc (Obj.cells #[.map (some bm), .slice none 0 0, .int .u8 (CS.length : Int), .bool false] 155)) hbo1 (fun j _ _ hj => Below.heap_alloc _ _ _ hj)
  have hbdW := hbd1.keep (w' := w1.alloc (Obj.cells #[.map (some bm), .slice none 0 0, .int .u8 (CS.length : Int), .bool false] 155)) (fun b _ _ _ _ h2 _ _ => Below.heap_alloc _ _ _ (by omega))
  replace hcells1 := hd hcells1
  replace hcg3 := hd hcg3
  replace hbx1 := hd hbx1
  replace hvfA := hd hvfA
  clear hvf1 hvars1 hnm1 hbo1 hbd1 hvown hvars hbel0
  go_wp2_with (fail)
  refine writes_okL hw hbl hW0 hboW hbdW (by omega) (by simp only [List.nil_append, List.length_nil]; omega) _ ?_
  intro w2 cv2 h2 hf2
  simp only [List.nil_append, List.length_nil, Bool.or_false] at h2
  have hz2 := hf2.size
  rw [World.size_alloc] at hz2
  have hcgW : ∀ j u, (u8V CS)[j]? = some u → w2.cell? ⟨cg, j, none⟩ = some u := fun j u hu => by
    rw [World.cell?_of_block (w := w1.alloc (Obj.cells #[.map (some bm), .slice none 0 0, .int .u8 (CS.length : Int), .bool false] 155)) (a := ⟨cg, j, none⟩) (hf2.block cg (by simp; omega) (by omega) (by simp [Value.ownBlock]))]
    exact cellZ (hcg3.out j u hu) _
  have hvfB : Vf lo w w2 := hvfA.out.trans ⟨hf2.os, hf2.tape, hf2.output, by omega, fun b hb _ => (hf2.block b (by simp; omega) (by omega) (by simp [Value.ownBlock])).trans (Below.heap_alloc _ _ _ hb)⟩
  generalize hF : f 0 = F at *
  generalize hbw : w1.heap.size = bw at *
  replace hF := hd hF
  replace hbw := hd hbw
  clear hf2 hW0 hboW hbdW hw u2
  go_wp2_with (fail)
  have hgg : (w2.alloc (Obj.cells #[.int .u8 0] 5)).heap[w2.heap.size]? = some (.cells (u8V [0]).toArray 5) := allocCells
  refine put_ok (h2.alloc _) [0] w2.heap.size 1 1 rfl hgg (by simp only [List.length_cons, List.length_nil]; omega) _ ?_
  intro w3 cv3 h3 hf3
  have hz3 := hf3.size
  rw [World.size_alloc] at hz3
  have hcg4 : ∀ j u, (u8V CS)[j]? = some u → w3.cell? ⟨cg, j, none⟩ = some u := fun j u hu => by
    rw [World.cell?_of_block (w := w2.alloc (Obj.cells #[.int .u8 0] 5)) (a := ⟨cg, j, none⟩) (hf3.block cg (by simp; omega) (by omega) (fun e => by have := (h2.own.lt cg e).1; omega))]
    exact cellZ (hcgW j u hu) _
  have hvfC : Vf lo w w3 := hvfB.more hf3.os hf3.tape hf3.output (by omega) (fun b hb => (hf3.block b (by simp; omega) (by omega) (fun e => by have := (h2.own.lt b e).1; omega)).trans (Below.heap_alloc _ _ _ (by omega)))
  clear hf3 h2 hcgW hvfB hgg
  have k3 : w3.cell? ⟨bw, 3, none⟩ = some (.bool false) := h3.row.cell (i := 3) (by omega)
  have k1 : w3.cell? ⟨bw, 1, none⟩ = some cv3 := h3.row.cell (i := 1) (by omega)
  have lbw : bw < w3.heap.size := h3.row.lt
  obtain ⟨ko, kc, rfl, hkc, hko⟩ := own_form h3.own
  obtain ⟨kg, rfl, hkg1, hkg2, hkg3⟩ := hko (by simp)
  have hflen : (F ++ [0]).length = F.length + 1 := by simp
  replace h3 := hd h3
  replace hkg3 := hd hkg3
  replace hcg4 := hd hcg4
  replace hvfC := hd hvfC
  have hCode : ∃ CD, CD = F ++ [0] := ⟨_, rfl⟩
  obtain ⟨CD, hCD⟩ := hCode
  rw [← hCD] at hkc hflen k1 hkg3 h3
  replace hCD := hd hCD
  have hcd1 : CD.length < 65536 := by omega
  clear hflen
  go_wp2_with (fail)
  refine bStr w3.heap.size w3.heap.size [] ⟨#[83, 76, 85, 73, 67, 69]⟩ _ (bNew w3) (by decide) (by simp) _ ?_
  intro w4 h4 hb4
  rw [List.nil_append, strCells_mark] at h4
  have hb4' : Below w3.heap.size w3 w4 := ((Below.refl _ w3).alloc (Nat.le_refl _) _).trans hb4
  have hz4 := hb4'.size
  have m4 : (Lib.byteCells mkB).length = 6 := by decide
  replace hb4' := hd hb4'
  clear hb4
  go_wp2_with (fail)
  refine bByte _ _ _ _ _ h4 (by rw [m4]; decide) hz4 _ ?_
  intro w5 h5 hb5
  have hb5' : Below w3.heap.size w3 w5 := hb4'.out.trans hb5
  have hz5 := hb5'.size
  clear hb5 h4 hb4'
  have hcg5 : ∀ j u, (u8V CS)[j]? = some u → w5.cell? ⟨cg, j, none⟩ = some u := fun j u hu => (hb5'.cell (p := ⟨cg, j, none⟩) (show cg < w3.heap.size by omega)).trans (hcg4.out j u hu)
  replace hb5' := hd hb5'
  go_wp2_with (fail)
  refine bWrite _ _ _ _ h5 cg CS.length cc CS rfl hcg5 (by rw [List.length_append, m4]; simp; omega) hz5 _ ?_
  intro w6 h6 hb6
  have hb6' : Below w3.heap.size w3 w6 := hb5'.out.trans hb6
  have hz6 := hb6'.size
  have k16 : w6.cell? ⟨bw, 1, none⟩ = some (.slice (some ⟨kg, 0, none⟩) CD.length kc) := (hb6'.cell (p := ⟨bw, 1, none⟩) lbw).trans k1
  clear hb6 h5 hb5' hcg5
  replace hb6' := hd hb6'
  go_wp2_with (fail)
  refine twoBytes_ok _ CD.length hcd1 _ ?_
  have hb7' : Below w3.heap.size w3 (w6.alloc (Obj.cells (u8V (two CD.length)).toArray 5)) := hb6'.out.alloc hz6 _
  have h7 : Lib.BuilderAt 160 5 w3.heap.size w3.heap.size (.pointer (some ⟨w3.heap.size, 0, none⟩)) (Lib.byteCells mkB ++ [.int .u8 (CS.length : Int)] ++ u8V CS) (w6.alloc (Obj.cells (u8V (two CD.length)).toArray 5)) := by
    obtain ⟨p1, v, p2, p3, p4⟩ := h6
    exact ⟨p1, v, (Below.heap_alloc _ _ _ (Array.getElem?_eq_some_iff.1 p2).1).trans p2, p3.alloc _, p4⟩
  have hnews : ∀ j u, (u8V (two CD.length))[j]? = some u → (w6.alloc (Obj.cells (u8V (two CD.length)).toArray 5)).cell? ⟨w6.heap.size, j, none⟩ = some u := fun j u hu => cellOf allocCells (by simpa using hu)
  have k17 : (w6.alloc (Obj.cells (u8V (two CD.length)).toArray 5)).cell? ⟨bw, 1, none⟩ = some (.slice (some ⟨kg, 0, none⟩) CD.length kc) := cellZ k16 _
  have m7 : (Lib.byteCells mkB ++ [Value.int .u8 (CS.length : Int)] ++ u8V CS).length = 7 + CS.length := by
    rw [List.length_append, List.length_append, m4]; unfold u8V; simp
  generalize hW7 : w6.alloc (Obj.cells (u8V (two CD.length)).toArray 5) = w7 at *
  replace hb7' := hd hb7'
  replace hW7 := hd hW7
  have hz7 := hb7'.out.size
  clear h6 k16 hb6'
  go_wp2_with (fail)
  refine bWrite _ _ _ _ h7 w6.heap.size 2 2 (two CD.length) rfl hnews (by rw [m7]; omega) hz7 _ ?_
  intro w8 h8 hb8
  have hb8' : Below w3.heap.size w3 w8 := hb7'.out.trans hb8
  have hz8 := hb8'.size
  have k18 : w8.cell? ⟨bw, 1, none⟩ = some (.slice (some ⟨kg, 0, none⟩) CD.length kc) := (hb8'.cell (p := ⟨bw, 1, none⟩) lbw).trans k1
  have hkg8 : ∀ j u, (u8V CD)[j]? = some u → w8.cell? ⟨kg, j, none⟩ = some u := fun j u hu => (hb8'.cell (p := ⟨kg, j, none⟩) (show kg < w3.heap.size by omega)).trans (hkg3.out j u hu)
  replace hb8' := hd hb8'
  clear hb8 h7 hnews k17 hb7' hW7
  go_wp2_with (fail)
  refine bWrite _ _ _ _ h8 kg CD.length kc CD rfl hkg8 (by rw [List.length_append, m7]; unfold u8V two; simp; omega) hz8 _ ?_
  intro w9 h9 hb9
  have hb9' : Below w3.heap.size w3 w9 := hb8'.out.trans hb9
  have hz9 := hb9'.size
  clear hb9 h8 hkg8 k18 hb8'
  have hbytes : Lib.byteCells mkB ++ [Value.int .u8 (CS.length : Int)] ++ u8V CS ++ u8V (two CD.length) ++ u8V CD = Lib.byteCells (mkB ++ u8L (imgI CS CD)) := by
    have e1 : u8V (imgI CS CD) = Lib.byteCells (u8L (imgI CS CD)) := u8L_cells (fun n hn => by
      unfold imgI at hn
      simp only [List.mem_cons, List.mem_append] at hn
      rcases hn with rfl | hn | hn | hn
      · omega
      · exact hbin n hn
      · unfold two at hn
        simp only [List.mem_cons, List.not_mem_nil, or_false] at hn
        omega
      · rw [hCD.out] at hn
        simp only [List.mem_append, List.mem_cons, List.not_mem_nil, or_false] at hn
        rcases hn with hn | hn
        · exact hin n hn
        · omega)
    have e2 : Lib.byteCells (mkB ++ u8L (imgI CS CD)) = Lib.byteCells mkB ++ Lib.byteCells (u8L (imgI CS CD)) := by unfold Lib.byteCells; rw [List.map_append]
    rw [e2, ← e1]
    unfold imgI u8V
    simp only [List.map_cons, List.map_append, List.append_assoc, List.cons_append, List.nil_append]
  rw [hbytes] at h9
  replace hb9' := hd hb9'
  go_wp2_with (fail)
  refine bString _ _ _ _ h9 hz9 _ ?_
  intro w10 hb10
  have hvf := hd (hvfC.out.more (w3 := w10) (hb9'.out.trans hb10).os (hb9'.out.trans hb10).tape (hb9'.out.trans hb10).output (hb9'.out.trans hb10).size (fun b hb => (hb9'.out.trans hb10).block b (by omega)))
  clear hb10 h9
  go_wp2
  have e := hCD.out
  have e2 := hF.out
  refine cl1 (fin.out _ hvf.out) ?_
  rw [e]
  rfl
/-- A right text without CASE. -/
structure TxL (vs : List Vd) (body : Sl) (f : Nat → List Int) : Prop where
  vr : ∀ v ∈ vs, v.role < 3 ∧ VarOk v
  rd : AllOk body
  dep : depL body ≤ 10
  low : ∀ v ∈ vs, LowName v.name
  dis : (vs.map (·.name)).Nodup
  us : ∀ u ∈ namesL body, ∃ v ∈ vs, u = v.name
  wv : ∀ v ∈ vs, wtV v = true ∧ v.role < 3 ∧ v.kind ≤ 3
  ck : AllCkL vs [] body
  co : AllCo (kE vs) body
  cost : costL body ≤ 3999
  wr : AllWL vs ((cellsB vs).length : Int) body f false
  ln : 0 < vs.length ∧ vs.length ≤ 1000 ∧ lenV vs ≤ 60
  bl : body.len ≤ 1000 ∧ (namesL body).length ≤ 1000
  cd : (f 0).length ≤ 60000
  ci : ∀ n ∈ f 0, 0 ≤ n ∧ n ≤ 255
set_option maxRecDepth 100000 in
set_option maxHeartbeats 4000000 in
theorem compile_okL {vs : List Vd} {body : Sl} {f : Nat → List Int} (T : TxL vs body f) (s : ByteArray) (hs : s.size ≤ 700) (hsp : spF s.size s = some (toksP vs body)) (w : World) (hops : ∀ i v, opC[i]? = some v → w.cell? ⟨4, i, none⟩ = some v)
    (R : Ending → World → Prop) (fin : ∀ w', Below w.heap.size w w' → R (.returned (.tuple #[.string (imgS vs f), .int .i64 0])) w') :
    Calls Tryz.prog 12 #[.string s] w R := by
  replace fin := hd fin
  have h1000 := T.ln.2.1
  have hb1000 := T.bl.1
  have hu1000 := T.bl.2
  go_enter Tryz.func12, Tryz.ntmps12
  go_wp2_with (fail)
  refine read_ok T.vr T.rd T.dep s hs hsp _ hops _ ?_
  intro w1 bs xs vv uv bv hb1 hp1
  obtain ⟨vo, vc, rfl⟩ := own_slS hp1.vown
  obtain ⟨uo, uc, rfl⟩ := own_slS hp1.used
  obtain ⟨bo, bc, rfl⟩ := own_slS hp1.bown
  have hz1 := hb1.size
  obtain ⟨W1, hW1⟩ : ∃ W1, W1 = w1.alloc (Obj.cells #[.slice vo vs.length vc, .slice uo (namesL body).length uc, .slice bo body.len bc] 87) := ⟨_, rfl⟩
  have hbW : Below w1.heap.size w1 W1 := by rw [hW1]; exact (Below.refl _ w1).alloc (Nat.le_refl _) _
  have hbx : W1.heap[w1.heap.size]? = some (.cells #[.slice vo vs.length vc, .slice uo (namesL body).length uc, .slice bo body.len bc] 87) := by rw [hW1]; exact allocCells
  have hpW := hp1.keep hbW
  have hzW := hbW.size
  have hzWs : w1.heap.size < W1.heap.size := (Array.getElem?_eq_some_iff.1 hbx).1
  replace hb1 := hd hb1
  clear hp1
  generalize hbp : w1.heap.size = bp at *
  replace hbp := hd hbp
  have hrd : ∀ X : World, X.heap[bp]? = some (.cells #[.slice vo vs.length vc, .slice uo (namesL body).length uc, .slice bo body.len bc] 87) → X.cell? ⟨bp, 0, none⟩ = some (.slice vo vs.length vc) ∧ X.cell? ⟨bp, 1, none⟩ = some (.slice uo (namesL body).length uc) ∧ X.cell? ⟨bp, 2, none⟩ = some (.slice bo body.len bc) := fun X hX => ⟨cellOf hX rfl, cellOf hX rfl, cellOf hX rfl⟩
  replace hrd := hd hrd
  go_wp2_with (fail)
  rw [hbp.out, ← hW1]
  refine declared_ok hpW T.low T.dis T.us (by omega) (by omega) _ ?_
  intro w2 bm hb2 hbm hnm2
  have hbx2 := (hb2.block bp hzWs).trans hbx
  have hp2 := hpW.keep hb2
  have hz2 := hb2.size
  have hBel2 : Below w.heap.size w w2 := hb1.out.trans ((hbW.mono (by omega)).trans (hb2.mono (by omega)))
  obtain ⟨q0, q1, q2⟩ := hrd.out w2 hbx2
  replace hBel2 := hd hBel2
  clear hb1 hb2 hpW hbx hW1 hbW
  go_wp2_with (fail)
  refine typed_okL hp2 hnm2 T.low (fun v hv => (T.wv v hv).1) T.ck (by omega) (by omega) (by omega) _ ?_
  intro w3 k3 hbody3
  have hbx3 := (k3.tag hbx2 (by decide)).trans hbx2
  have hvown3 := k3.own hp2.vown (by decide)
  have hbown3 := k3.own hp2.bown (by decide)
  have hvars3 := k3.vars hp2.vars
  have hnm3 := k3.nm hnm2
  have hz3 := k3.size
  have hBel3 : Below w.heap.size w w3 := hBel2.out.trans (k3.below (by omega))
  obtain ⟨r0, r1, r2⟩ := hrd.out w3 hbx3
  replace hBel3 := hd hBel3
  clear k3 hp2 hnm2 hBel2 hbx2 q0 q1 q2
  go_wp2_with (fail)
  refine cells_ok hvown3 hvars3 (fun v hv => (T.wv v hv).1) (by omega) _ ?_
  intro w4 b4
  have hz4 := b4.size
  have hbx4 := (b4.block bp (by omega)).trans hbx3
  have hvown4 := own_keep hvown3 (fun j _ _ hj => b4.block j hj)
  have hbown4 := own_keep hbown3 (fun j _ _ hj => b4.block j hj)
  have hvars4 := hvars3.keep (fun b _ _ hc => b4.block b (Array.getElem?_eq_some_iff.1 hc).1)
  have hnm4 := hnm3.keep (b4.block _ hnm3.lt)
  have hbody4 := hbody3.below b4 (by omega)
  have hBel4 : Below w.heap.size w w4 := hBel3.out.trans (b4.mono (by omega))
  have t6 : decide (60 < lenV vs) = false := by have := T.ln.2.2; simp; omega
  obtain ⟨s0, s1, s2⟩ := hrd.out w4 hbx4
  replace hBel4 := hd hBel4
  clear b4 hvown3 hbown3 hvars3 hnm3 hbody3 hbx3 hBel3 r0 r1 r2
  go_wp2_with (fail)
  refine pcost_ok T.co (by omega) T.cost hbown4 hbody4 (by omega) _ ?_
  intro w5 b5
  have hz5 := b5.size
  have hbx5 := (b5.block bp (by omega)).trans hbx4
  have hvown5 := own_keep hvown4 (fun j _ _ hj => b5.block j hj)
  have hbown5 := own_keep hbown4 (fun j _ _ hj => b5.block j hj)
  have hvars5 := hvars4.keep (fun b _ _ hc => b5.block b (Array.getElem?_eq_some_iff.1 hc).1)
  have hnm5 := hnm4.keep (b5.block _ hnm4.lt)
  have hbody5 := hbody4.below b5 (by omega)
  have hBel5 : Below w.heap.size w w5 := hBel4.out.trans (b5.mono (by omega))
  have t7 : decide (4000 < 1 + costL body) = false := by have := T.cost; simp; omega
  have hpk : PgK w.heap.size w5.heap.size w5 vs bs body xs (.slice vo vs.length vc) (.slice bo body.len bc) := ⟨hvown5, hvars5, hbown5, hbody5.wide (Nat.le_refl _) (by omega)⟩
  obtain ⟨p0, p1, p2⟩ := hrd.out w5 hbx5
  replace hBel5 := hd hBel5
  clear b5 hvown4 hbown4 hvars4 hnm4 hbody4 hbx4 hBel4 s0 s1 s2 hvown5 hbown5 hvars5 hbody5
  go_wp2_with (fail)
  refine image_plainL hpk hnm5 T.low T.wv ⟨T.ln.1, T.ln.2.2⟩ (by omega) T.wr T.cd T.ci _ ?_
  intro w6 v6
  have hBel6 := hd (hBel5.out.trans (v6.below (by omega)))
  clear v6 hpk hnm5 hBel5
  go_wp2
  exact cl1 (fin.out _ hBel6.out) rfl

end Go.Proofs.YtidhiaaicmfabaaGreatDoor

/- FOR is read (seat .ZD alone). -/
namespace Go.Proofs.YtidhiaaicmfabaaGreatDoor
open Go.RowKit Go.Proofs Go.Deep

theorem Fu.slIn {B bp : Nat} {pv : Value} {L : List ByteArray} {k : Nat} {d : Int} {us : List ByteArray} {uv uv' : Value} {w w' : World} (hf : Fu bp uv uv' w w') (hp : Ps B bp pv L k d us uv w) {g : Option Nat} {l : Sl} {lo hi : Nat} {xs : List Value} (h : SlIn (fun _ => 0) g l lo hi w xs) (hb : bp < lo) : SlIn (fun _ => 0) g l lo hi w' xs := h.keep (hf.same hp hb _)
theorem Fu.rowIn {B bp : Nat} {pv : Value} {L : List ByteArray} {k : Nat} {d : Int} {us : List ByteArray} {uv uv' : Value} {w w' : World} (hf : Fu bp uv uv' w w') (hp : Ps B bp pv L k d us uv w) {lo hi T sz n : Nat} {v : Value} {xs : List Value} (h : RowIn w lo hi T sz v n xs) (hT : T ≠ 9) (hb : bp < lo) : RowIn w' lo hi T sz v n xs := h.keep hT (hf.same hp hb _)
theorem samz_set {w : World} {lo hi b : Nat} {g : Option Nat} {i : Nat} {v : Value} (hb : b < lo ∨ hi ≤ b) : Samz w (w.setCell ⟨b, i, none⟩ v) lo hi g := fun c _ _ _ h1 h2 _ _ => Below.heap_setCell _ _ _ _ (show c ≠ b by omega)
theorem RowIn.wide {w : World} {lo hi lo' hi' T sz n : Nat} {v : Value} {xs : List Value} (h : RowIn w lo hi T sz v n xs) (h1 : lo' ≤ lo) (h2 : hi ≤ hi') : RowIn w lo' hi' T sz v n xs := by
  refine ⟨⟨h.1.1, ?_⟩, fun g hg => Nat.lt_of_lt_of_le (h.2 g hg) h2⟩
  rcases h.1.2 with h3 | ⟨g, cap, cur, rfl, hb, r⟩
  · exact .inl h3
  · exact .inr ⟨g, cap, cur, rfl, by omega, r⟩
set_option maxRecDepth 100000 in
set_option maxHeartbeats 2000000 in
theorem loop_ok {s : ByteArray} {f l : Int} {b : Sl} (hn : LowName s) (hf0 : -9223372036854775808 ≤ f ∧ f ≤ 9223372036854775807) (hl0 : -9223372036854775808 ≤ l ∧ l ≤ 9223372036854775807) (hbd : AllOk b) {w : World} {B bp : Nat} {pv : Value} {L : List ByteArray} {k : Nat} {d : Int} {us : List ByteArray} {uv : Value} (h : Ps B bp pv L k d us uv w) (ht : TokAt L k (s :: wAS :: (litW f ++ wTO :: (litW l ++ wDO :: (toksL b ++ [wEND]))))) (hd0 : 0 ≤ d) (hd1 : d + (depL b + 1) ≤ 10)
    (R : Ending → World → Prop) (fin : ∀ w' v uv', Ps B bp pv L (k + (s :: wAS :: (litW f ++ wTO :: (litW l ++ wDO :: (toksL b ++ [wEND])))).length) d (us ++ (s :: namesL b)) uv' w' → Fu bp uv uv' w w' → StIn (fun _ => 0) (.loop s f l b) w.heap.size w'.heap.size w' v → R (.returned v) w') :
    Calls Tryz.prog 227 #[.pointer (some ⟨bp, 0, none⟩)] w R := by
  have hdl := depL_nonneg b
  have hs1 := ht.head
  have tF := ht.tail.tail.left
  have tTO := ht.tail.tail.right.head
  have tL := ht.tail.tail.right.tail.left
  have tDO := ht.tail.tail.right.tail.right.head
  have tB := ht.tail.tail.right.tail.right.tail.left
  have tE := ht.tail.tail.right.tail.right.tail.right.head
  have hw0 := h.pa.row.lt
  replace fin := hd fin
  go_enter_defers Tryz.func227, Tryz.ntmps227
  go_wp2_with (fail)
  refine pEnter h ⟨hd0, by omega⟩ _ ?_
  intro w1 h1 hf1
  go_wp2_with (fail)
  refine use_yes h1 (by rw [hs1]; exact hn) _ ?_
  intro w3 uv3 h3 g3
  rw [hs1] at h3 ⊢
  have hz3 := (hf1.trans g3).size
  have hlt3 := h3.pa.row.lt
  have hB3 := h3.le
  have hne : bp ≠ w3.heap.size := by omega
  have hf3 := hd (hf1.trans g3)
  clear hf1 g3
  go_wp2_with (fail)
  refine pExp (s := wAS) (h3.alloc _) (by exact ht.tail.head) (by decide) _ ?_
  intro w4 h4 g4
  have hb4 := (h3.alloc _).apart allocCells (by decide) hne g4
  have hz4 := g4.size
  rw [World.size_alloc] at hz4
  have hf4 := hd (hf3.out.trans ((Fu.of_below ((Below.refl _ w3).alloc (Nat.le_refl _) _)).trans g4))
  clear g4 hf3
  generalize hg : w3.heap.size = q at *
  replace hg := hd hg
  replace hb4 := hd hb4
  go_wp2_with (fail)
  refine literal_ok h4 f hf0 (by exact tF) _ ?_
  intro w5 h5 g5
  have hb5 := h4.apart hb4.out (by decide) hne g5
  have hz5 := g5.size
  have a1 := cellOf (i := 1) hb5 rfl
  have f1 := frozOf (i := 1) hb5
  have hb6 := hd (heapSet (i := 1) hb5 (.int .i64 f))
  have h6 := hd (h5.setNew hb5 (by decide) hB3 1 (.int .i64 f))
  have hf6 := hd ((hf4.out.trans g5).setNew (show w.heap.size ≤ q by omega) 1 (.int .i64 f))
  clear g5 hb5 hf4
  replace h5 := hd h5
  go_wp2_with (fail)
  refine pExp (s := wTO) h6.out (by exact tTO) (by decide) _ ?_
  intro w7 h7 g7
  have hb7 := h6.out.apart hb6.out (by decide) hne g7
  have hz7 := g7.size
  rw [World.size_setCell] at hz7
  have hf7 := hd (hf6.out.trans g7)
  clear g7 hf6 hb6 a1 f1
  replace hb7 := hd hb7
  go_wp2_with (fail)
  refine literal_ok h7 l hl0 (by exact tL) _ ?_
  intro w8 h8 g8
  have hb8 := h7.apart hb7.out (by decide) hne g8
  have hz8 := g8.size
  have a2 := cellOf (i := 2) hb8 rfl
  have f2 := frozOf (i := 2) hb8
  have hb9 := hd (heapSet (i := 2) hb8 (.int .i64 l))
  have h9 := hd (h8.setNew hb8 (by decide) hB3 2 (.int .i64 l))
  have hf9 := hd ((hf7.out.trans g8).setNew (show w.heap.size ≤ q by omega) 2 (.int .i64 l))
  clear g8 hb8 hf7
  replace h8 := hd h8
  go_wp2_with (fail)
  refine pExp (s := wDO) h9.out (by exact tDO) (by decide) _ ?_
  intro w10 h10 g10
  have hb10 := h9.out.apart hb9.out (by decide) hne g10
  have hz10 := g10.size
  rw [World.size_setCell] at hz10
  have hf10 := hd (hf9.out.trans g10)
  clear g10 hf9 hb9 a2 f2
  replace hb10 := hd hb10
  go_wp2_with (fail)
  refine stmts_ok hbd h10 (by exact tB) (by rw [show nextS L _ = wEND from tE]; exact stop_END) (by omega) (by omega) _ ?_
  intro w11 v xs uv11 h11 g11 hr11 hsl11
  obtain ⟨ao, cp, rfl⟩ := own_slS hr11.1
  have hb11 := h10.apart hb10.out (by decide) hne g11
  have hz11 := g11.size
  have a3 := cellOf (i := 3) hb11 rfl
  have f3 := frozOf (i := 3) hb11
  have hb12 := hd (heapSet (i := 3) hb11 (.slice ao b.len cp))
  have h12 := hd (h11.setNew hb11 (by decide) hB3 3 (.slice ao b.len cp))
  have hf12 := hd ((hf10.out.trans g11).setNew (show w.heap.size ≤ q by omega) 3 (.slice ao b.len cp))
  have hr12 := hd (hr11.keep (by decide) (samz_set (b := q) (i := 3) (v := .slice ao b.len cp) (.inl (by omega))))
  have hsl12 := hd (hsl11.keep (samz_set (b := q) (i := 3) (v := .slice ao b.len cp) (.inl (by omega))))
  clear g11 hb11 hf10 hr11 hsl11
  replace h11 := hd h11
  go_wp2_with (fail)
  refine pExp (s := wEND) h12.out (by exact tE) (by decide) _ ?_
  intro w13 h13 g13
  have hbA := h12.out.apart hb12.out (by decide) hne g13
  have hrA := g13.rowIn h12.out hr12.out (by decide) (by omega)
  have hslA := g13.slIn h12.out hsl12.out (by omega)
  have hzA := g13.size
  rw [World.size_setCell] at hzA
  have hfA := hd (hf12.out.trans g13)
  have r0 := cellOf (i := 0) hbA rfl
  have r1 := cellOf (i := 1) hbA rfl
  have r2 := cellOf (i := 2) hbA rfl
  have r3 := cellOf (i := 3) hbA rfl
  have c2 : w13.cell? ⟨bp, 2, none⟩ = some (.int .i64 (d + 1)) := h13.pa.row.cell (i := 2) (by omega)
  have fz2 := h13.pa.row.frozen 2
  clear g13 hb12 hr12 hsl12 hf12 a3 f3
  replace hbA := hd hbA
  replace hrA := hd hrA
  replace hslA := hd hslA
  replace h13 := hd h13
  go_wp2
  refine leaves_cons (f := 235) (args := #[.pointer (some ⟨bp, 0, none⟩)]) (by simp) (by simp [go_sem]) ?_
  refine (leave_d _ bp (d + 1) (by omega) c2 fz2 .returning).mono ?_
  rintro e u' wz ⟨rfl, rfl, rfl⟩
  refine ⟨_, results_tmp rfl _ _ _, ?_⟩
  have ed : d + 1 - 1 = d := by omega
  rw [ed]
  have hzz : (w13.setCell ⟨bp, 2, none⟩ (.int .i64 d)).heap.size = w13.heap.size := World.size_setCell _ _ _
  have hps : Ps B bp pv L (k + 1 + 1 + (litW f).length + 1 + (litW l).length + 1 + (toksL b).length + 1) d (us ++ [s] ++ namesL b) uv11 (w13.setCell ⟨bp, 2, none⟩ (.int .i64 d)) := h13.out.only (h13.out.pa.setDep d) ((Only.refl bp w13).setCell (a := ⟨bp, 2, none⟩) (.inl rfl) _) (by omega)
  refine cl1 (fin.out _ (.iface 320 (.agg #[.string s, .int .i64 f, .int .i64 l, .slice ao b.len cp])) uv11 ?_ (hfA.out.trans (Fu.of_only ((Only.refl bp w13).setCell (a := ⟨bp, 2, none⟩) (.inl rfl) _))) ⟨.slice ao b.len cp, rfl, xs, ?_, ?_⟩) rfl
  · simp only [List.length_append, List.length_cons, List.length_nil]
    simp only [List.append_assoc, List.singleton_append] at hps
    rw [show k + ((litW f).length + ((litW l).length + ((toksL b).length + (0 + 1) + 1) + 1) + 1 + 1) = k + 1 + 1 + (litW f).length + 1 + (litW l).length + 1 + (toksL b).length + 1 by omega]
    exact hps
  · rw [hzz]
    exact (hrA.out.wide (by omega) (by omega)).keep (by decide) (samz_set (.inl (by omega)))
  · rw [hzz]
    exact (hslA.out.wide (by omega) (by omega)).keep (samz_set (.inl (by omega)))
set_option maxRecDepth 100000 in
set_option maxHeartbeats 2000000 in
theorem stmt_loop {s : ByteArray} {f l : Int} {b : Sl} (hn : LowName s) (hf0 : -9223372036854775808 ≤ f ∧ f ≤ 9223372036854775807) (hl0 : -9223372036854775808 ≤ l ∧ l ≤ 9223372036854775807) (hbd : AllOk b) : StmtOk (.loop s f l b) := by
  intro w B bp pv L k d us uv h ht hfo hd0 hd1 R fin
  simp only [toksS, depS, namesS] at ht hfo hd1 fin
  have hs := ht.head
  have ek : ∀ X : List ByteArray, k + 1 + X.length = k + (wFOR :: X).length := fun X => by simp only [List.length_cons]; omega
  replace fin := hd fin
  go_enter Tryz.func200, Tryz.ntmps200
  go_wp2_with (fail)
  refine pNext h _ ?_
  intro w1 h1 hf1
  rw [hs]
  go_wp2_with (fail)
  refine isName_capW _ wFOR cap_FOR _ ?_
  intro w2 hb2
  have h2 := h1.only (h1.pa.below hb2) (Only.of_below hb2) (by omega)
  have hf2 := hf1.trans (Fu.of_below hb2)
  clear hf1 hb2 h1
  go_wp2_with (fail)
  refine pNot (s := wIF) h2 (by rw [hs]; kernel_rfl) _ ?_
  intro w3 h3 hf3
  go_wp2_with (fail)
  refine pNot (s := wCASE) h3 (by rw [hs]; kernel_rfl) _ ?_
  intro w4 h4 hf4
  go_wp2_with (fail)
  refine pAcc (s := wFOR) h4 hs (by decide) _ ?_
  intro w5 h5 hf5
  have hfA := hd (((hf2.trans hf3).trans hf4).trans hf5)
  have hz5 := hfA.out.size
  clear hf2 hf3 hf4 hf5 h2 h3 h4
  go_wp2_with (fail)
  refine loop_ok hn hf0 hl0 hbd h5 (by exact ht.tail) hd0 hd1 _ ?_
  intro w6 v uv6 h6 hf6 hx6
  obtain ⟨vb, rfl, xs, hr, hsl⟩ := hx6
  rw [ek] at h6
  have hfB := hd (hfA.out.trans hf6)
  replace hr := hd (hr.wide hz5 (Nat.le_refl _))
  replace hsl := hd (hsl.wide hz5 (Nat.le_refl _))
  replace h6 := hd h6
  clear hf6
  go_wp2
  exact cl1 (fin.out _ _ uv6 h6.out hfB.out ⟨vb, rfl, xs, hr.out, hsl.out⟩) rfl

end Go.Proofs.YtidhiaaicmfabaaGreatDoor

/- FOR: its code (seat .ZD alone). -/
namespace Go.Proofs.YtidhiaaicmfabaaGreatDoor
open Go.RowKit Go.Proofs Go.Deep

def loopB (vs : List Vd) (s : ByteArray) (f l : Int) : List Int := numB (f - 1) ++ [3, firstV vs 0 s, 19] ++ two (rndN f l) ++ [2, firstV vs 0 s] ++ numB 1 ++ [6, 3, firstV vs 0 s]
theorem loopB_len (vs : List Vd) (s : ByteArray) (f l : Int) : (loopB vs s f l).length = 20 := rfl
/-- What stands still while the code of a FOR is written. -/
structure LW (B bw bm z bb : Nat) (vs : List Vd) (bs : List Nat) (sp : Int) (kp : Bool) (cv0 cv : Value) (code : List Int) (Tb : Nat) (box cur : Array Value) (lo hi : Nat) (vb : Value) (b : Sl) (xs : List Value) (w W : World) : Prop where
  wr : Wr B bw bm (fstV vs) vs bs sp kp cv code W
  box : W.heap[z]? = some (.cells box Tb)
  var : W.heap[bb]? = some (.cells cur 147)
  row : RowIn W lo hi 240 1 vb b.len xs
  sl : SlIn (kE vs) vb.ownBlock b lo hi W xs
  fu : Fu bw cv0 cv w W
section
variable {B bw bm z bb : Nat} {vs : List Vd} {bs : List Nat} {sp : Int} {kp kp' : Bool} {cv0 cv cv' : Value} {code code' : List Int} {Tb : Nat} {box cur : Array Value} {lo hi : Nat} {vb : Value} {b : Sl} {xs : List Value} {w W W' : World}
theorem LW.step (h : LW B bw bm z bb vs bs sp kp cv0 cv code Tb box cur lo hi vb b xs w W) (hT : Tb ≠ 155 ∧ Tb ≠ 5) (hh : hi ≤ bw) (h' : Wr B bw bm (fstV vs) vs bs sp kp' cv' code' W') (hf : Fu bw cv cv' W W') : LW B bw bm z bb vs bs sp kp' cv0 cv' code' Tb box cur lo hi vb b xs w W' :=
  ⟨h', h.wr.tag hf h.box hT.1 hT.2, h.wr.tag hf h.var (by decide) (by decide), h.row.keep (by decide) (fun _ _ _ _ _ h2 _ _ => h.wr.same hf h2 hh), h.sl.keep (fun _ _ _ _ _ h2 _ _ => h.wr.same hf h2 hh), h.fu.trans hf⟩
theorem LW.below (h : LW B bw bm z bb vs bs sp kp cv0 cv code Tb box cur lo hi vb b xs w W) (hb : Below W.heap.size W W') : LW B bw bm z bb vs bs sp kp cv0 cv code Tb box cur lo hi vb b xs w W' :=
  ⟨h.wr.below hb, (hb.block _ (Array.getElem?_eq_some_iff.1 h.box).1).trans h.box, (hb.block _ (Array.getElem?_eq_some_iff.1 h.var).1).trans h.var, h.row.below hb, h.sl.belowZ hb, h.fu.trans (Fu.of_below hb)⟩
theorem LW.alloc (h : LW B bw bm z bb vs bs sp kp cv0 cv code Tb box cur lo hi vb b xs w W) (o : Obj) : LW B bw bm z bb vs bs sp kp cv0 cv code Tb box cur lo hi vb b xs w (W.alloc o) := h.below ((Below.refl _ W).alloc (Nat.le_refl _) o)
end
set_option maxRecDepth 100000 in
set_option maxHeartbeats 4000000 in
theorem swrite_loop {vs : List Vd} {sp : Int} {s : ByteArray} {f l : Int} {b : Sl} {v : Vd} {fb : Nat → List Int} {qb : Bool} (hf : -2147483648 ≤ f ∧ f ≤ 2147483647) (hl : -2147483648 ≤ l ∧ l ≤ 2147483647) (hN1 : 1 ≤ rndN f l) (hN2 : rndN f l < 65536) (hb : AllWL vs sp b fb qb) (hbl : b.len ≤ 1000000) (hv : lookV vs s = some v) :
    SWriteOkL vs sp (.loop s f l b) (fun p => loopB vs s f l ++ fb (p + 20) ++ [20]) qb := by
  intro B bw bm lo hi t bs kp cv u code w hh h hx hc R fin
  obtain ⟨vb, hvb, xs, hrow, hsl⟩ := hx
  injection hvb with e1 e2
  subst e1 e2
  obtain ⟨ao, cp, rfl⟩ := own_slS hrow.1
  simp only [swfn]
  simp only [List.length_append, List.length_cons, List.length_nil, loopB_len] at hc
  obtain ⟨j, bb, h1, h2, h3, h4⟩ := look_first vs bs s v 0 h.vars.len hv
  obtain ⟨_, hrw⟩ := h.vars.row j v bb h1 h2
  obtain ⟨cur, hcur, hcs, hcf⟩ := hrw
  obtain ⟨hm, hnm⟩ := lookV_mem vs s v hv
  have hsz : s.size ≤ maxLen := by rw [← hnm]; have := (h.names v hm).le; unfold maxLen; omega
  have c0 : w.cell? ⟨bw, 0, none⟩ = some (.map (some bm)) := h.row.cell (i := 0) (by omega)
  have lb := h.row.lt
  have lbb : bb < w.heap.size := (Array.getElem?_eq_some_iff.1 hcur).1
  have hfv : fstV vs j = firstV vs 0 s := by unfold fstV; rw [← h4]; omega
  have hl5 : ∀ (W : World), W.heap[bb]? = some (.cells cur 147) → W.cell? ⟨bb, 5, none⟩ = some (.int .u8 (firstV vs 0 s)) ∧ bb < W.heap.size := fun W hW => by
    have := cellOf hW (hcf 5 (by omega))
    rw [show vdF v (fstV vs j) 5 = .int .u8 (fstV vs j) from rfl, hfv] at this
    exact ⟨this, (Array.getElem?_eq_some_iff.1 hW).1⟩
  have hlk : ∀ n, (Instr.lookup 90 (.map (some bm)) (.string s) false).run Tryz.prog ((w.alloc (Obj.cells #[.string s, .int .i64 f, .int .i64 l, .slice ao b.len cp] 320)).drewN n) = .ok (.pointer (some ⟨bb, 0, none⟩)) ((w.alloc (Obj.cells #[.string s, .int .i64 f, .int .i64 l, .slice ao b.len cp] 320)).drewN n) := fun n => by
    have hnm2 : NmAt ((w.alloc (Obj.cells #[.string s, .int .i64 f, .int .i64 l, .slice ao b.len cp] 320)).drewN n) bm vs.length (findB vs bs) := h.nm.keep (Below.heap_alloc _ _ _ h.nm.lt)
    have hl := hnm2.look s hsz
    rw [h3] at hl
    exact hl
  have hl4 : ∀ (W : World), W.heap[w.heap.size]? = some (.cells #[.string s, .int .i64 f, .int .i64 l, .slice ao b.len cp] 320) → W.cell? ⟨w.heap.size, 0, none⟩ = some (.string s) ∧ W.cell? ⟨w.heap.size, 1, none⟩ = some (.int .i64 f) ∧ W.cell? ⟨w.heap.size, 2, none⟩ = some (.int .i64 l) ∧ W.cell? ⟨w.heap.size, 3, none⟩ = some (.slice ao b.len cp) ∧ w.heap.size < W.heap.size := fun W hW =>
    ⟨cellOf (i := 0) hW rfl, cellOf (i := 1) hW rfl, cellOf (i := 2) hW rfl, cellOf (i := 3) hW rfl, (Array.getElem?_eq_some_iff.1 hW).1⟩
  obtain ⟨N, hN⟩ : ∃ N, rndN f l = N := ⟨_, rfl⟩
  have hcode : ∀ p, (fun p => loopB vs s f l ++ fb (p + 20) ++ [20]) p = numB (f - 1) ++ ([3, firstV vs 0 s, 19] ++ (two N ++ ([2, firstV vs 0 s] ++ (numB 1 ++ ([6, 3, firstV vs 0 s] ++ (fb (p + 20) ++ [20])))))) := fun p => by
    simp only [loopB, hN, List.append_assoc]
  simp only [hcode] at fin
  rw [hN] at hN1 hN2
  have tn : ((N : Int) == 0) = false := by simp; omega
  have jf : IntKind.i64.wrap (f - 1) = f - 1 := IntWalk.i64_in _ (by omega)
  replace fin := hd fin
  replace h := hd h
  replace hrow := hd hrow
  replace hsl := hd hsl
  replace hl5 := hd hl5
  replace hl4 := hd hl4
  clear h1 h2 h3 hm hnm hv h4 hfv hcf hcode
  generalize firstV vs 0 s = fv at *
  go_enter Tryz.func327, Tryz.ntmps327
  go_wp2_with (fail)
  go_quiet (fail)
  have hbel : Below w.heap.size w ((w.alloc (Obj.cells #[.string s, .int .i64 f, .int .i64 l, .slice ao b.len cp] 320)).drewN nq) := below_drewN ((Below.refl _ w).alloc (Nat.le_refl _) _) nq
  have L0 : LW B bw bm w.heap.size bb vs bs sp kp cv cv code 320 #[.string s, .int .i64 f, .int .i64 l, .slice ao b.len cp] cur lo hi (.slice ao b.len cp) b xs w ((w.alloc (Obj.cells #[.string s, .int .i64 f, .int .i64 l, .slice ao b.len cp] 320)).drewN nq) :=
    ⟨h.out.below hbel, allocCells, (hbel.block bb lbb).trans hcur, hrow.out.below hbel, hsl.out.belowZ hbel, Fu.of_below hbel⟩
  generalize (w.alloc (Obj.cells #[.string s, .int .i64 f, .int .i64 l, .slice ao b.len cp] 320)).drewN nq = W0 at *
  obtain ⟨p0, p1, p2, p3, pz⟩ := hl4.out _ L0.box
  replace L0 := hd L0
  replace hcur := hd hcur
  clear hlk hbel
  have hTT : 320 ≠ 155 ∧ 320 ≠ 5 := by decide
  replace hTT := hd hTT
  go_wp2_with (fail)
  refine rounds_ok _ s f l (.slice ao b.len cp) (by omega) (by omega) _ ?_
  intro w1 b1
  rw [hN]
  have L1 := hd (L0.out.below b1)
  obtain ⟨p0, p1, p2, p3, pz⟩ := hl4.out _ L1.out.box
  obtain ⟨v5, vl⟩ := hl5.out _ L1.out.var
  clear b1
  go_wp2_with (fail)
  refine number_ok L1.out.wr (f - 1) (by omega) _ ?_
  intro w2 cv2 g2 hf2
  have L2 := hd (L1.out.step hTT.out hh g2 hf2)
  obtain ⟨p0, p1, p2, p3, pz⟩ := hl4.out _ L2.out.box
  obtain ⟨v5, vl⟩ := hl5.out _ L2.out.var
  clear g2 hf2
  go_wp2_with (fail)
  have M2 := hd (L2.out.alloc (Obj.cells #[.int .u8 3, .int .u8 fv, .int .u8 19] 5))
  refine put_ok M2.out.wr [3, fv, 19] w2.heap.size 3 3 rfl allocCells (by simp only [List.length_append, List.length_cons, List.length_nil, numB]; omega) _ ?_
  intro w3 cv3 g3 hf3
  have L3 := hd (M2.out.step hTT.out hh g3 hf3)
  obtain ⟨p0, p1, p2, p3, pz⟩ := hl4.out _ L3.out.box
  obtain ⟨v5, vl⟩ := hl5.out _ L3.out.var
  clear g3 hf3 M2
  go_wp2_with (fail)
  refine rounds_ok _ s f l (.slice ao b.len cp) (by omega) (by omega) _ ?_
  intro w4 b4
  rw [hN]
  have L4 := hd (L3.out.below b4)
  clear b4
  go_wp2_with (fail)
  refine twoBytes_ok _ N hN2 _ ?_
  have M4 := hd (L4.out.alloc (Obj.cells (u8V (two N)).toArray 5))
  go_wp2_with (fail)
  refine put_ok M4.out.wr (two N) w4.heap.size 2 2 rfl allocCells (by simp only [List.length_append, List.length_cons, List.length_nil, numB, two]; omega) _ ?_
  intro w5 cv5 g5 hf5
  have L5 := hd (M4.out.step hTT.out hh g5 hf5)
  obtain ⟨p0, p1, p2, p3, pz⟩ := hl4.out _ L5.out.box
  obtain ⟨v5, vl⟩ := hl5.out _ L5.out.var
  clear g5 hf5 M4
  go_wp2_with (fail)
  have M5 := hd (L5.out.alloc (Obj.cells #[.int .u8 2, .int .u8 fv] 5))
  refine put_ok M5.out.wr [2, fv] w5.heap.size 2 2 rfl allocCells (by simp only [List.length_append, List.length_cons, List.length_nil, numB, two]; omega) _ ?_
  intro w6 cv6 g6 hf6
  have L6 := hd (M5.out.step hTT.out hh g6 hf6)
  clear g6 hf6 M5
  go_wp2_with (fail)
  refine number_ok L6.out.wr 1 (by simp only [List.length_append, List.length_cons, List.length_nil, numB, two]; omega) _ ?_
  intro w7 cv7 g7 hf7
  have L7 := hd (L6.out.step hTT.out hh g7 hf7)
  obtain ⟨p0, p1, p2, p3, pz⟩ := hl4.out _ L7.out.box
  obtain ⟨v5, vl⟩ := hl5.out _ L7.out.var
  clear g7 hf7
  go_wp2_with (fail)
  have M7 := hd (L7.out.alloc (Obj.cells #[.int .u8 6, .int .u8 3, .int .u8 fv] 5))
  refine put_ok M7.out.wr [6, 3, fv] w7.heap.size 3 3 rfl allocCells (by simp only [List.length_append, List.length_cons, List.length_nil, numB, two]; omega) _ ?_
  intro w8 cv8 g8 hf8
  have L8 := hd (M7.out.step hTT.out hh g8 hf8)
  obtain ⟨p0, p1, p2, p3, pz⟩ := hl4.out _ L8.out.box
  clear g8 hf8 M7
  have hcl : (code ++ numB (f - 1) ++ [3, fv, 19] ++ two N ++ [2, fv] ++ numB 1 ++ [6, 3, fv]).length = code.length + 20 := by simp only [List.length_append, List.length_cons, List.length_nil, numB, two]
  go_wp2_with (fail)
  refine writes_okL hb hbl L8.out.wr L8.out.row.1 L8.out.sl hh (by rw [List.length_append, hcl]; omega) _ ?_
  intro w9 cv9 g9 hf9
  rw [hcl] at g9
  have L9 := hd (L8.out.step hTT.out hh g9 hf9)
  clear g9 hf9
  go_wp2_with (fail)
  have M9 := hd (L9.out.alloc (Obj.cells #[.int .u8 20] 5))
  refine put_ok M9.out.wr [20] w9.heap.size 1 1 rfl allocCells (by rw [List.length_append, hcl]; simp only [List.length_cons, List.length_nil]; omega) _ ?_
  intro w10 cv10 g10 hf10
  have hF := hd (M9.out.fu.trans hf10)
  replace g10 := hd g10
  clear hf10 M9
  go_wp2
  go_end0
  refine fin.out _ _ ?_ hF.out
  have := g10.out
  simp only [List.append_assoc] at this ⊢
  exact this

end Go.Proofs.YtidhiaaicmfabaaGreatDoor
