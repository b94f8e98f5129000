/- IF and CASE: their code, their cost. -/
import Derived.Test.YtidhiaaicmfabaaGreatDoorKaA
import Derived.WalkKit
import Derived.WalkSpells
import Derived.WalkLawsBesides
import Derived.Deep.OwnRows
import Derived.BigQuiet
import Derived.Handy
import Derived.Deep.Light
import Derived.Deep.RegionHeld3
import Derived.Deep.RegionWith
import Derived.Test.YtidhiaaicmfabaaGreatDoorJcB
import Derived.Test.YtidhiaaicmfabaaGreatDoorJyQ
import Derived.Test.YtidhiaaicmfabaaGreatDoorJyN
import Derived.Test.YtidhiaaicmfabaaGreatDoorJyM

/- Whether a number is one of some: the code (seat .ZD alone). -/
namespace Go.Proofs.YtidhiaaicmfabaaGreatDoor
open Go.RowKit Go.Proofs Go.Deep

/-- The code that asks whether the number that CASE keeps is one of some. -/
def isoT (sp : Int) : List Int → List Int
  | [] => []
  | n :: r => ([2, sp] ++ (numB n ++ [11, 15])) ++ isoT sp r
def isoB (sp : Int) : List Int → List Int
  | [] => []
  | n :: r => ([2, sp] ++ (numB n ++ [11])) ++ isoT sp r
theorem isoT_snoc (sp n : Int) : ∀ l : List Int, isoT sp (l ++ [n]) = isoT sp l ++ ([2, sp] ++ (numB n ++ [11, 15]))
  | [] => by simp [isoT]
  | m :: r => by simp only [List.cons_append, isoT, isoT_snoc sp n r, List.append_assoc]
theorem isoB_snoc (sp n m : Int) (l : List Int) : isoB sp (m :: l ++ [n]) = isoB sp (m :: l) ++ ([2, sp] ++ (numB n ++ [11, 15])) := by
  simp only [List.cons_append, isoB, isoT_snoc, List.append_assoc]
theorem isoT_len (sp : Int) : ∀ l : List Int, (isoT sp l).length = 9 * l.length
  | [] => rfl
  | m :: r => by simp only [isoT, List.length_append, isoT_len sp r, List.length_cons, List.length_nil, numB]; omega
theorem isoB_mono (sp : Int) : ∀ (l : List Int) (i : Nat), (isoB sp (l.take i)).length ≤ (isoB sp l).length
  | [], i => by simp
  | m :: r, 0 => by simp [isoB]
  | m :: r, i + 1 => by simp only [List.take_succ_cons, isoB, List.length_append, isoT_len, List.length_take]; omega
/-- One number more. -/
theorem isoB_next (sp x : Int) (ns : List Int) (i : Nat) (h : ns[i]? = some x) : isoB sp (ns.take (i + 1)) = isoB sp (ns.take i) ++ ([2, sp] ++ (numB x ++ (11 :: (if i = 0 then [] else [15])))) := by
  have hl : i < ns.length := (List.getElem?_eq_some_iff.1 h).1
  have e : ns.take (i + 1) = ns.take i ++ [x] := by rw [List.take_add_one, h]; rfl
  rw [e]
  cases i with
  | zero => simp [isoB, isoT]
  | succ j =>
    cases ns with
    | nil => simp at hl
    | cons m r =>
      rw [List.take_succ_cons, isoB_snoc]
      simp
set_option maxRecDepth 100000 in
set_option maxHeartbeats 4000000 in
theorem isOneOf_ok {vs : List Vd} {B bw bm a m : Nat} {bs : List Nat} {sp : Int} {kp : Bool} {cv vn : Value} {code ns : List Int} {w : World} (h : Wr B bw bm (fstV vs) vs bs sp kp cv code w) (hr : RowIn w a m 2 1 vn ns.length (litV ns)) (hlen : ns.length ≤ 1000) (hc : code.length + (isoB sp ns).length ≤ 1000000) (R : Ending → World → Prop)
    (fin : ∀ w' cv', Wr B bw bm (fstV vs) vs bs sp kp cv' (code ++ isoB sp ns) w' → Fu bw cv cv' w w' → R (.returned (.tuple #[])) w') : Calls Tryz.prog 323 #[.pointer (some ⟨bw, 0, none⟩), vn] w R := by
  obtain ⟨bo, bcp, rfl, hcp, hbo⟩ := own_form hr.1
  replace fin := hd fin
  replace hbo := hd hbo
  replace hr := hd hr
  replace h := hd h
  replace hc := hd hc
  go_enter Tryz.func323, Tryz.ntmps323
  go_wp2
  go_loopw [4, 5, 8] (fun _ _ iv wr => ∃ (i : Nat) (cv' : Value), iv = .int .i64 (i : Int) ∧ i ≤ ns.length ∧ Wr B bw bm (fstV vs) vs bs sp kp cv' (code ++ isoB sp (ns.take i)) wr ∧ Fu bw cv cv' w wr) (fun _ _ iv _ => ns.length - (intOf iv).toNat)
  case atStart => exact ⟨0, cv, rfl, Nat.zero_le _, by simpa [isoB] using h.out, Fu.refl _ _ _⟩
  case round =>
    obtain ⟨i, cv2, rfl, hi, hwr, hfu⟩ := hrel
    by_cases hlt : i < ns.length
    · have td : decide ((i : Int) < (ns.length : Int)) = true := by simp; omega
      obtain ⟨x, hx⟩ : ∃ x, ns[i]? = some x := ⟨_, List.getElem?_eq_getElem hlt⟩
      obtain ⟨g, rfl, hgl, hgs, hg⟩ := hbo.out (by omega)
      obtain ⟨gcur, hgc⟩ := own_blk hr.out.1 (j := g) rfl
      have c1 : wr.cell? ⟨g, i, none⟩ = some (.int .i64 x) := by
        rw [World.cell?_of_block (w := w) (a := ⟨g, i, none⟩) ((h.out.tag hfu hgc (by decide) (by decide)).trans hgc.symm)]
        exact hg i _ (by unfold litV; rw [List.getElem?_map, hx]; rfl)
      have j0 : (0 : Int) ≤ (i : Int) ∧ (i : Int) < (ns.length : Int) := by omega
      have csp : wr.cell? ⟨bw, 2, none⟩ = some (.int .u8 sp) := hwr.row.cell (i := 2) (by omega)
      have lb := hwr.row.lt
      have hnx := isoB_next sp x ns i hx
      have hmo := isoB_mono sp ns (i + 1)
      have hcl := hc.out
      rw [hnx] at hmo
      simp only [List.length_append, List.length_cons, List.length_nil, numB] at hmo
      replace hnx := hd hnx
      replace hwr := hd hwr
      replace hfu := hd hfu
      clear hg hgc
      go_wp2_with (fail)
      have hg1 : (wr.alloc (Obj.cells #[.int .u8 2, .int .u8 sp] 5)).heap[wr.heap.size]? = some (.cells (u8V [2, sp]).toArray 5) := allocCells
      refine put_ok (hwr.out.alloc _) [2, sp] wr.heap.size 2 2 rfl hg1 (by simp only [List.length_append, List.length_cons, List.length_nil]; omega) _ ?_
      intro w2 cv3 h2 f2
      have F2 := hd (hfu.out.trans (Fu.pre ((Below.refl _ wr).alloc (Nat.le_refl _) _) f2))
      clear f2 hg1 hwr hfu
      go_wp2_with (fail)
      refine number_ok h2 x (by simp only [List.length_append, List.length_cons, List.length_nil]; omega) _ ?_
      intro w3 cv4 h3 f3
      have F3 := hd (F2.out.trans f3)
      clear f3 F2 h2
      go_wp2_with (fail)
      have hg3 : (w3.alloc (Obj.cells #[.int .u8 11] 5)).heap[w3.heap.size]? = some (.cells (u8V [11]).toArray 5) := allocCells
      refine put_ok (h3.alloc _) [11] w3.heap.size 1 1 rfl hg3 (by simp only [List.length_append, List.length_cons, List.length_nil, numB]; omega) _ ?_
      intro w4 cv5 h4 f4
      have F4 := hd (F3.out.trans (Fu.pre ((Below.refl _ w3).alloc (Nat.le_refl _) _) f4))
      clear f4 F3 h3 hg3
      by_cases hi0 : i = 0
      · have t0 : decide ((0 : Int) < (i : Int)) = false := by simp; omega
        have hW : Wr B bw bm (fstV vs) vs bs sp kp cv5 (code ++ isoB sp (ns.take (i + 1))) w4 := by
          rw [hnx.out, if_pos hi0]
          simpa only [List.append_assoc] using h4
        replace hW := hd hW
        clear h4
        go_wp2
        exact ⟨⟨i + 1, cv5, by go_num, by omega, hW.out, F4.out⟩, by simp [intOf]; omega⟩
      · have t0 : decide ((0 : Int) < (i : Int)) = true := by simp; omega
        rw [if_neg hi0] at hmo
        simp only [List.length_cons, List.length_nil] at hmo
        replace h4 := hd h4
        go_wp2_with (fail)
        have hg4 : (w4.alloc (Obj.cells #[.int .u8 15] 5)).heap[w4.heap.size]? = some (.cells (u8V [15]).toArray 5) := allocCells
        refine put_ok (h4.out.alloc _) [15] w4.heap.size 1 1 rfl hg4 (by simp only [List.length_append, List.length_cons, List.length_nil, numB]; omega) _ ?_
        intro w5 cv6 h5 f5
        have F5 := hd (F4.out.trans (Fu.pre ((Below.refl _ w4).alloc (Nat.le_refl _) _) f5))
        have hW : Wr B bw bm (fstV vs) vs bs sp kp cv6 (code ++ isoB sp (ns.take (i + 1))) w5 := by
          rw [hnx.out, if_neg hi0]
          simpa only [List.append_assoc, List.cons_append, List.nil_append] using h5
        replace hW := hd hW
        clear h5 f5 hg4 F4 h4
        go_wp2
        exact ⟨⟨i + 1, cv6, by go_num, by omega, hW.out, F5.out⟩, by simp [intOf]; omega⟩
    · have td : decide ((i : Int) < (ns.length : Int)) = false := by simp; omega
      have ei : i = ns.length := by omega
      rw [ei, List.take_length] at hwr
      replace hwr := hd hwr
      replace hfu := hd hfu
      go_wp2
      go_end0
      exact fin.out _ _ hwr.out hfu.out

end Go.Proofs.YtidhiaaicmfabaaGreatDoor

/- Statements' code, where they lie ahead of the writer (seat .ZD alone). -/
namespace Go.Proofs.YtidhiaaicmfabaaGreatDoor
open Go.RowKit Go.Proofs Go.Deep

/-- The code of a statement is written, where the statement lies ahead of the writer. -/
def SWriteOkL (vs : List Vd) (sp : Int) (s : Stz) (f : Nat → List Int) (q : Bool) : Prop := ∀ {B bw bm lo hi t : Nat} {bs : List Nat} {kp : Bool} {cv u : Value} {code : List Int} {w : World}, hi ≤ bw → Wr B bw bm (fstV vs) vs bs sp kp cv code w → StIn (kE vs) s lo hi w (.iface t u) → code.length + (f code.length).length ≤ 1000000 →
    ∀ (R : Ending → World → Prop), (∀ w' cv', Wr B bw bm (fstV vs) vs bs sp (kp || q) cv' (code ++ f code.length) w' → Fu bw cv cv' w w' → R (.returned (.tuple #[])) w') → Calls Tryz.prog (swfn s) #[u, .pointer (some ⟨bw, 0, none⟩)] w R
theorem SWriteOk.toL {vs : List Vd} {sp : Int} {s : Stz} {f : Nat → List Int} {q : Bool} (h : SWriteOk vs sp s f q) : SWriteOkL vs sp s f q := fun _ h1 h2 h3 R fin => h h1 h2 h3 R fin
/-- Statements whose code can be written. -/
inductive AllWL (vs : List Vd) (sp : Int) : Sl → (Nat → List Int) → Bool → Prop where
  | nil : AllWL vs sp .nil (fun _ => []) false
  | cons {h : Stz} {t : Sl} {fh ft : Nat → List Int} {qh qt : Bool} (h1 : SWriteOkL vs sp h fh qh) (h2 : AllWL vs sp t ft qt) : AllWL vs sp (.cons h t) (fun a => fh a ++ ft (a + (fh a).length)) (qh || qt)
/-- What is left to write, and what is written. -/
structure WrLL (vs : List Vd) (sp : Int) (B bw bm : Nat) (bs : List Nat) (kp : Bool) (code : List Int) (cv : Value) (l : Sl) (f : Nat → List Int) (q : Bool) (w : World) (i : Nat) (wr : World) (rest : Sl) : Prop where
  ex : ∃ (done : Sl) (fr : Nat → List Int) (qr : Bool) (cv' : Value) (code' : List Int) (kp' : Bool), l = done.app rest ∧ i = done.len ∧ AllWL vs sp rest fr qr ∧ Wr B bw bm (fstV vs) vs bs sp kp' cv' code' wr ∧ Fu bw cv cv' w wr ∧ code' ++ fr code'.length = code ++ f code.length ∧ (kp' || qr) = (kp || q)
set_option maxRecDepth 100000 in
set_option maxHeartbeats 4000000 in
theorem writes_okL {vs : List Vd} {sp : Int} {l : Sl} {f : Nat → List Int} {q : Bool} (hl : AllWL vs sp l f q) (hlen : l.len ≤ 1000000) {B bw bm lo hi base : Nat} {bs : List Nat} {kp : Bool} {cv bv : Value} {code : List Int} {g : Option Nat} {xs : List Value} {w : World} (h : Wr B bw bm (fstV vs) vs bs sp kp cv code w) (hown : w.ownsRow base 240 1 bv l.len xs) (hx : SlIn (kE vs) g l lo hi w xs) (hh : hi ≤ bw) (hsz : (code ++ f code.length).length ≤ 1000000)
    (R : Ending → World → Prop) (fin : ∀ w' cv', Wr B bw bm (fstV vs) vs bs sp (kp || q) cv' (code ++ f code.length) w' → Fu bw cv cv' w w' → R (.returned (.tuple #[])) w') : Calls Tryz.prog 73 #[.pointer (some ⟨bw, 0, none⟩), bv] w R := by
  obtain ⟨bo, bcp, rfl, hcp, hbo⟩ := own_form hown
  have hstart : WrLL vs sp B bw bm bs kp code cv l f q w 0 w l := ⟨.nil, f, q, cv, code, kp, rfl, rfl, hl, h, Fu.refl _ _ _, rfl, rfl⟩
  replace fin := hd fin
  replace hstart := hd hstart
  replace hbo := hd hbo
  replace hown := hd hown
  replace hx := hd hx
  replace h := hd h
  replace hsz := hd hsz
  go_enter Tryz.func73, Tryz.ntmps73
  go_wp2
  go_loopw [5, 8] (fun _ iv wr => ∃ (i : Nat) (rest : Sl), iv = .int .i64 (i : Int) ∧ WrLL vs sp B bw bm bs kp code cv l f q w i wr rest) (fun _ iv _ => l.len - (intOf iv).toNat)
  case atStart => exact ⟨0, l, rfl, hstart.out⟩
  case round =>
    obtain ⟨i, rest, rfl, ⟨done, fr, qr, cv2, code2, kp2, happ, hie, hok, hwr, hfu, hcode, hkp⟩⟩ := hrel
    clear hstart
    have hll : l.len = done.len + rest.len := by rw [happ, Sl.len_app]
    cases hok with
    | nil =>
      simp only [Sl.len] at hll
      have td : decide ((i : Int) < (l.len : Int)) = false := by simp; omega
      have hnl : ¬ i < l.len := by omega
      rw [List.append_nil] at hcode
      rw [Bool.or_false] at hkp
      rw [hcode, hkp] at hwr
      replace hwr := hd hwr
      replace hfu := hd hfu
      clear hll hie happ hcode hkp
      go_wp2
      go_end0
      exact fin.out _ _ hwr.out hfu.out
    | @cons s t fh ft qh qt k1 k2 =>
      simp only [Sl.len] at hll
      have td : decide ((i : Int) < (l.len : Int)) = true := by simp; omega
      have hnl : i < l.len := by omega
      obtain ⟨v, a, b, p1, p2, p3, p4, p5⟩ := SlIn.at (done := done) (s := s) (t := t) (by rw [← happ]; exact hx.out)
      have hkeep : ∀ c, c < hi → wr.heap[c]? = w.heap[c]? := fun c hc => h.out.same hfu hc hh
      have p5w : StIn (kE vs) s a b wr v := p5.keep (fun c _ _ _ _ h2 _ _ => hkeep c (by omega))
      obtain ⟨tv, uv, rfl⟩ := p5.iface
      have mc := meth_swrite p5
      have mc1 := mc.m
      have mc2 := mc.c
      obtain ⟨gb, rfl, hgl, hgs, hg⟩ := hbo.out (by omega)
      rw [← hie] at p1
      obtain ⟨gcur, hgc⟩ : ∃ cur, w.heap[gb]? = some (.cells cur 240 (0, 0)) := by
        rcases hown.out.2 with ⟨e1, e2⟩ | ⟨g', cap, cur, e1, _, hg', _⟩
        · injection e1 with e1; cases e1
        · injection e1 with e1 _ _
          injection e1 with e1
          injection e1 with e1
          subst e1
          exact ⟨cur, hg'⟩
      have c1 : wr.cell? ⟨gb, i, none⟩ = some (.iface tv uv) := by
        have hgw := h.out.tag hfu hgc (by decide) (by decide)
        rw [World.cell?_of_block (w := w) (a := ⟨gb, i, none⟩) (hgw.trans hgc.symm)]
        exact hg i _ p1
      have j0 : (0 : Int) ≤ (i : Int) ∧ (i : Int) < (l.len : Int) := by omega
      have cC := hd (fun (W : World) => @k1 B bw bm a b tv bs kp2 cv2 uv code2 W)
      have hlen2 : code2.length + (fh code2.length).length ≤ 1000000 := by
        have h1 := hsz.out
        rw [← hcode] at h1
        simp only [List.length_append] at h1
        omega
      generalize swfn s = FS at *
      replace hll := hd hll
      replace hie := hd hie
      replace happ := hd happ
      replace hcode := hd hcode
      replace hkp := hd hkp
      replace hwr := hd hwr
      replace hfu := hd hfu
      replace p5w := hd p5w
      clear hg mc p5 p1 hgc k1 hkeep
      go_wp2_with (fail)
      refine cC.out _ (by omega) hwr.out p5w.out hlen2 _ ?_
      intro w1 cv3 h3 hf3
      have hne : WrLL vs sp B bw bm bs kp code cv l f q w (i + 1) w1 t := by
        refine ⟨done.app (.cons s .nil), ft, qt, cv3, code2 ++ fh code2.length, kp2 || qh, ?_, ?_, k2, h3, hfu.out.trans hf3, ?_, ?_⟩
        · rw [happ.out, Sl.app_assoc]; rfl
        · rw [Sl.len_app, hie.out]; rfl
        · rw [← hcode.out, List.length_append, List.append_assoc]
        · rw [Bool.or_assoc]; exact hkp.out
      replace hne := hd hne
      clear h3 hf3 hwr hfu p5w
      go_wp2
      exact ⟨⟨i + 1, t, by go_num, hne.out⟩, by have := hll.out; have := hie.out; simp [intOf]; omega⟩

end Go.Proofs.YtidhiaaicmfabaaGreatDoor

/- The code of an IF (seat .ZD alone). -/
namespace Go.Proofs.YtidhiaaicmfabaaGreatDoor
open Go.RowKit Go.Proofs Go.Deep

/-- The code of an IF with an ELSE. -/
def iteB (c : List Int) (ft fo : Nat → List Int) (p : Nat) : List Int :=
  c ++ ((18 :: two (p + c.length + 3 + (ft (p + c.length + 3)).length + 3)) ++ (ft (p + c.length + 3) ++ ((17 :: two (p + c.length + 3 + (ft (p + c.length + 3)).length + 3 + (fo (p + c.length + 3 + (ft (p + c.length + 3)).length + 3)).length)) ++ fo (p + c.length + 3 + (ft (p + c.length + 3)).length + 3))))
set_option maxRecDepth 100000 in
set_option maxHeartbeats 4000000 in
theorem swrite_ife {vs : List Vd} {sp : Int} {c : Ex} {t o : Sl} {ft fo : Nat → List Int} {qt qo : Bool} (hc : WriteOk vs c) (ht : AllWL vs sp t ft qt) (htl : t.len ≤ 1000000) (ho : AllWL vs sp o fo qo) (hol : o.len ≤ 1000000) (hon : o.len ≠ 0) : SWriteOkL vs sp (.ife c t o) (iteB (codeE vs c) ft fo) (qt || qo) := by
  intro B bw bm lo hi tt bs kp cv u code w hh h hx hsz R fin
  obtain ⟨vc, vt, vo, m1, m2, hv, q1, q2, q3, hxc, ⟨xs, hrt, hst⟩, ⟨ys, hro, hso⟩⟩ := hx
  injection hv with e1 e2
  subst e1 e2
  obtain ⟨tc, uc, rfl⟩ := hxc.iface
  obtain ⟨ta, tcp, rfl⟩ := own_slS hrt.1
  obtain ⟨oa, ocp, rfl⟩ := own_slS hro.1
  have me := meth_write hxc
  have me1 := me.m
  have me2 := me.c
  simp only [swfn]
  have hneZ : ((o.len : Int) == 0) = false := by simp; omega
  obtain ⟨Z, hZ⟩ : ∃ Z, Z = w.alloc (Obj.cells #[.iface tc uc, .slice ta t.len tcp, .slice oa o.len ocp] 311) := ⟨_, rfl⟩
  have hbZ : Below w.heap.size w Z := by rw [hZ]; exact (Below.refl _ w).alloc (Nat.le_refl _) _
  have hnewb : Z.heap[w.heap.size]? = some (.cells #[.iface tc uc, .slice ta t.len tcp, .slice oa o.len ocp] 311) := by rw [hZ]; exact allocCells
  have p0 : Z.cell? ⟨w.heap.size, 0, none⟩ = some (.iface tc uc) := cellOf (i := 0) hnewb rfl
  have hWZ := h.below hbZ
  have hxZ := hxc.keep (w' := Z) (fun b cur _ _ hc => hbZ.block b (Array.getElem?_eq_some_iff.1 hc).1)
  have cC := hd (fun (W : World) => @hc B bw bm lo m1 tc bs sp kp cv uc code W)
  have hkb : ∀ (X : World) (cv' : Value), Fu bw cv cv' Z X → X.cell? ⟨w.heap.size, 1, none⟩ = some (.slice ta t.len tcp) ∧ X.cell? ⟨w.heap.size, 2, none⟩ = some (.slice oa o.len ocp) := fun X cv' hF => by
    have hb := hWZ.tag hF hnewb (by decide) (by decide)
    exact ⟨cellOf (i := 1) hb rfl, cellOf (i := 2) hb rfl⟩
  have hkt : ∀ (X : World) (cv' : Value), Fu bw cv cv' Z X → RowIn X m1 m2 240 1 (.slice ta t.len tcp) t.len xs ∧ SlIn (kE vs) (Value.slice ta t.len tcp).ownBlock t m1 m2 X xs := fun X cv' hF =>
    ⟨(hrt.below hbZ).tagZ (fun b cur hc => (hWZ.tag hF hc (by decide) (by decide)).trans hc.symm), (hst.belowZ hbZ).keep (fun b _ _ _ _ h2 _ _ => hWZ.same hF (show b < hi by omega) hh)⟩
  have hko : ∀ (X : World) (cv' : Value), Fu bw cv cv' Z X → RowIn X m2 hi 240 1 (.slice oa o.len ocp) o.len ys ∧ SlIn (kE vs) (Value.slice oa o.len ocp).ownBlock o m2 hi X ys := fun X cv' hF =>
    ⟨(hro.below hbZ).tagZ (fun b cur hc => (hWZ.tag hF hc (by decide) (by decide)).trans hc.symm), (hso.belowZ hbZ).keep (fun b _ _ _ _ h2 _ _ => hWZ.same hF (show b < hi by omega) hh)⟩
  obtain ⟨cl, hcl⟩ : ∃ cl, cl = codeE vs c := ⟨_, rfl⟩
  rw [← hcl] at fin hsz cC
  replace hcl := hd hcl
  obtain ⟨n1, hn1⟩ : ∃ n1, n1 = code.length + cl.length + 3 := ⟨_, rfl⟩
  obtain ⟨tl, htl'⟩ : ∃ tl, tl = ft n1 := ⟨_, rfl⟩
  obtain ⟨n2, hn2⟩ : ∃ n2, n2 = n1 + tl.length + 3 := ⟨_, rfl⟩
  obtain ⟨ol, hol'⟩ : ∃ ol, ol = fo n2 := ⟨_, rfl⟩
  have hfe : iteB cl ft fo code.length = cl ++ ((18 :: two n2) ++ (tl ++ ((17 :: two (n2 + ol.length)) ++ ol))) := by
    unfold iteB
    rw [← hn1, ← htl', ← hn2, ← hol']
  rw [hfe] at fin hsz
  simp only [List.length_append, List.length_cons, twoLen] at hsz
  replace fin := hd fin
  replace hkb := hd hkb
  replace hkt := hd hkt
  replace hko := hd hko
  replace hWZ := hd hWZ
  replace hxZ := hd hxZ
  replace hnewb := hd hnewb
  clear hrt hro hst hso hxc hc me hfe
  generalize wfn c = FE at *
  go_enter Tryz.func317, Tryz.ntmps317
  go_wp2_with (fail)
  rw [← hZ]
  replace hZ := hd hZ
  replace hbZ := hd hbZ
  generalize hz : w.heap.size = z at *
  replace hz := hd hz
  refine cC.out _ hWZ.out hxZ.out (by omega) _ ?_
  intro w1 cv1 h1 f1
  replace f1 := hd f1
  go_wp2_with (fail)
  refine ahead_ok h1 18 (by simp only [List.length_append]; omega) _ ?_
  intro w2 cv2 h2 g2
  generalize hna : (code ++ cl).length + 1 = na
  have hnz : na ≤ 1000000 := by rw [← hna, List.length_append]; omega
  replace hna := hd hna
  have f2 := hd (f1.out.trans g2)
  obtain ⟨p1, p2⟩ := hkb.out _ _ f2.out
  obtain ⟨hr2, hs2⟩ := hkt.out _ _ f2.out
  clear g2 f1 p0
  have el2 : (code ++ cl ++ [18, 0, 0]).length = n1 := by simp only [List.length_append, List.length_cons, List.length_nil]; omega
  replace hr2 := hd hr2
  replace hs2 := hd hs2
  replace el2 := hd el2
  go_wp2_with (fail)
  refine writes_okL ht htl h2 hr2.out.1 hs2.out (by omega) (by rw [List.length_append, el2.out, ← htl']; omega) _ ?_
  intro w3 cv3 h3 g3
  rw [el2.out, ← htl'] at h3
  have f3 := hd (f2.out.trans g3)
  obtain ⟨p31, p32⟩ := hkb.out _ _ f3.out
  clear g3 f2 p1 p2
  go_wp2_with (fail)
  refine ahead_ok h3 17 (by simp only [List.length_append, List.length_cons, List.length_nil]; omega) _ ?_
  intro w4 cv4 h4 g4
  generalize hnb : (code ++ cl ++ [18, 0, 0] ++ tl).length + 1 = nb
  have f4 := hd (f3.out.trans g4)
  clear g4 f3 p31 p32
  have ec4 : code ++ cl ++ [18, 0, 0] ++ tl ++ [17, 0, 0] = (code ++ cl ++ [18]) ++ 0 :: 0 :: (tl ++ [17, 0, 0]) := by simp
  have el4 : (code ++ cl ++ [18, 0, 0] ++ tl ++ [17, 0, 0]).length = n2 := by simp only [List.length_append, List.length_cons, List.length_nil]; omega
  have hnbz : nb ≤ 1000000 := by rw [← hnb]; simp only [List.length_append, List.length_cons, List.length_nil]; omega
  replace ec4 := hd ec4
  replace el4 := hd el4
  replace hnb := hd hnb
  go_wp2_with (fail)
  refine land_at h4 na (code ++ cl ++ [18]) (tl ++ [17, 0, 0]) 0 0 ec4.out (by rw [← hna.out]; simp only [List.length_append, List.length_cons, List.length_nil]) (by rw [el4.out]; omega) _ ?_
  intro w5 h5 g5
  rw [el4.out] at h5
  have f5 := hd (f4.out.trans g5)
  obtain ⟨p51, p52⟩ := hkb.out _ _ f5.out
  obtain ⟨hr5, hs5⟩ := hko.out _ _ f5.out
  have el5 : (code ++ cl ++ [18] ++ two n2 ++ (tl ++ [17, 0, 0])).length = n2 := by simp only [List.length_append, List.length_cons, List.length_nil, twoLen]; omega
  replace hr5 := hd hr5
  replace hs5 := hd hs5
  replace el5 := hd el5
  clear g5 f4 ec4 el4
  go_wp2_with (fail)
  refine writes_okL ho hol h5 hr5.out.1 hs5.out (by omega) (by rw [List.length_append, el5.out, ← hol']; omega) _ ?_
  intro w6 cv6 h6 g6
  rw [el5.out, ← hol'] at h6
  have f6 := hd (f5.out.trans g6)
  have ec6 : code ++ cl ++ [18] ++ two n2 ++ (tl ++ [17, 0, 0]) ++ ol = (code ++ cl ++ [18] ++ two n2 ++ tl ++ [17]) ++ 0 :: 0 :: ol := by simp
  have el6 : (code ++ cl ++ [18] ++ two n2 ++ (tl ++ [17, 0, 0]) ++ ol).length = n2 + ol.length := by rw [List.length_append, el5.out]
  replace ec6 := hd ec6
  replace el6 := hd el6
  clear g6 f5 p51 p52
  go_wp2_with (fail)
  refine land_at h6 nb (code ++ cl ++ [18] ++ two n2 ++ tl ++ [17]) ol 0 0 ec6.out (by rw [← hnb.out]; simp only [List.length_append, List.length_cons, List.length_nil, twoLen]) (by rw [el6.out]; omega) _ ?_
  intro w7 h7 g7
  rw [el6.out] at h7
  have f7 := hd (Fu.pre (by have e := hz.out; rw [e]; exact hbZ.out) (f6.out.trans g7))
  replace h7 := hd h7
  clear g7 f6
  go_wp2
  go_end0
  refine fin.out _ _ ?_ f7.out
  have := h7.out
  simp only [List.append_assoc, List.cons_append, List.nil_append, Bool.or_assoc] at this ⊢
  exact this

end Go.Proofs.YtidhiaaicmfabaaGreatDoor

/- The code of a CASE (seat .ZD alone). -/
namespace Go.Proofs.YtidhiaaicmfabaaGreatDoor
open Go.RowKit Go.Proofs Go.Deep

/-- Where the code of a branch ends. -/
def wEnd (sp : Int) (p : Nat) (ns : List Int) (fb : Nat → List Int) : Nat := p + (isoB sp ns).length + 3 + (fb (p + (isoB sp ns).length + 3)).length + 3
/-- The code of branches; E: where they go on. -/
def whB (sp : Int) (E : List Int) : Nat → List (List Int × (Nat → List Int)) → List Int
  | _, [] => []
  | p, (ns, fb) :: l => isoB sp ns ++ ((18 :: two (wEnd sp p ns fb)) ++ (fb (p + (isoB sp ns).length + 3) ++ ((17 :: E) ++ whB sp E (wEnd sp p ns fb) l)))
def whE (sp : Int) : Nat → List (List Int × (Nat → List Int)) → Nat
  | p, [] => p
  | p, (ns, fb) :: l => whE sp (wEnd sp p ns fb) l
def whO (sp : Int) : Nat → List (List Int × (Nat → List Int)) → List Nat
  | _, [] => []
  | p, (ns, fb) :: l => (wEnd sp p ns fb - 2) :: whO sp (wEnd sp p ns fb) l
theorem whB_len (sp : Int) {E : List Int} (hE : E.length = 2) : ∀ (l : List (List Int × (Nat → List Int))) (p : Nat), p + (whB sp E p l).length = whE sp p l
  | [], p => by simp [whB, whE]
  | (ns, fb) :: l, p => by
    have h := whB_len sp hE l (wEnd sp p ns fb)
    simp only [whB, whE, List.length_append, List.length_cons, hE, twoLen]
    rw [← h]
    unfold wEnd
    omega
theorem whB_app (sp : Int) (E : List Int) : ∀ (a b : List (List Int × (Nat → List Int))) (p : Nat), whB sp E p (a ++ b) = whB sp E p a ++ whB sp E (whE sp p a) b
  | [], b, p => by simp [whB, whE]
  | (ns, fb) :: a, b, p => by simp only [List.cons_append, whB, whE, whB_app sp E a b, List.append_assoc]
theorem whE_app (sp : Int) : ∀ (a b : List (List Int × (Nat → List Int))) (p : Nat), whE sp p (a ++ b) = whE sp (whE sp p a) b
  | [], b, p => rfl
  | (ns, fb) :: a, b, p => by simp only [List.cons_append, whE, whE_app sp a b]
theorem whO_app (sp : Int) : ∀ (a b : List (List Int × (Nat → List Int))) (p : Nat), whO sp p (a ++ b) = whO sp p a ++ whO sp (whE sp p a) b
  | [], b, p => rfl
  | (ns, fb) :: a, b, p => by simp only [List.cons_append, whO, whE, whO_app sp a b]
theorem whO_len (sp : Int) : ∀ (a : List (List Int × (Nat → List Int))) (p : Nat), (whO sp p a).length = a.length
  | [], p => rfl
  | (ns, fb) :: a, p => by simp only [whO, List.length_cons, whO_len sp a]
theorem whE_le (sp : Int) : ∀ (a : List (List Int × (Nat → List Int))) (p : Nat), p ≤ whE sp p a
  | [], p => Nat.le_refl _
  | (ns, fb) :: a, p => by have := whE_le sp a (wEnd sp p ns fb); simp only [whE]; unfold wEnd at this ⊢; omega
/-- The code of a CASE. -/
def casB (sp : Int) (c : List Int) (l : List (List Int × (Nat → List Int))) (fo : Nat → List Int) (p : Nat) : List Int :=
  c ++ ([3, sp] ++ (whB sp (two (whE sp (p + c.length + 2) l + (fo (whE sp (p + c.length + 2) l)).length)) (p + c.length + 2) l ++ fo (whE sp (p + c.length + 2) l)))
/-- One jump more is landed. -/
theorem land_next (sp : Int) (P O E : List Int) (hE : E.length = 2) (d : List (List Int × (Nat → List Int))) (ns : List Int) (fb : Nat → List Int) (r : List (List Int × (Nat → List Int))) (p : Nat) (hp : P.length = p) :
    ∃ A C, P ++ (whB sp E p d ++ (whB sp [0, 0] (whE sp p d) ((ns, fb) :: r) ++ O)) = A ++ 0 :: 0 :: C ∧ A.length = wEnd sp (whE sp p d) ns fb - 2 ∧ A ++ E ++ C = P ++ (whB sp E p (d ++ [(ns, fb)]) ++ (whB sp [0, 0] (whE sp p (d ++ [(ns, fb)])) r ++ O)) := by
  have hl := whB_len sp hE d p
  refine ⟨P ++ (whB sp E p d ++ (isoB sp ns ++ ((18 :: two (wEnd sp (whE sp p d) ns fb)) ++ (fb (whE sp p d + (isoB sp ns).length + 3) ++ [17])))), whB sp [0, 0] (wEnd sp (whE sp p d) ns fb) r ++ O, ?_, ?_, ?_⟩
  · simp only [whB, List.append_assoc, List.cons_append, List.nil_append]
  · simp only [List.length_append, List.length_cons, List.length_nil, twoLen, hp]
    unfold wEnd
    omega
  · simp only [whB_app, whE_app, whB, whE, List.append_assoc, List.cons_append, List.nil_append]
/-- Branches whose code can be written. -/
inductive AllWW (vs : List Vd) (sp : Int) : Wl → List (List Int × (Nat → List Int)) → Prop where
  | nil : AllWW vs sp .nil []
  | cons {ns : List Int} {b : Sl} {t : Wl} {fb : Nat → List Int} {qb : Bool} {l : List (List Int × (Nat → List Int))} (h1 : AllWL vs sp b fb qb) (hb : b.len ≤ 1000000) (hn : ns.length ≤ 1000) (h2 : AllWW vs sp t l) : AllWW vs sp (.cons ns b t) ((ns, fb) :: l)
theorem AllWW.len {vs : List Vd} {sp : Int} {ws : Wl} {l : List (List Int × (Nat → List Int))} (h : AllWW vs sp ws l) : l.length = ws.len := by
  induction h with
  | nil => rfl
  | cons _ _ _ _ ih => simp only [List.length_cons, Wl.len, ih]
def nzV (l : List Nat) : List Value := l.map (fun n => .int .i64 ((n : Nat) : Int))
theorem ulInts : Tryz.prog.underlying 38 = some (.slice 3) := by kernel_rfl
theorem infoInt : (Tryz.prog.info? 3).map (fun i => (i.zero, i.size, i.bytes)) = some (some (.int .i64 0), 1, 8) := by kernel_rfl
theorem oneIn (m : Nat) : ∀ x ∈ [Value.int .i64 (m : Int)], x.oneCell' = true := by
  intro x hx; simp only [List.mem_cons, List.not_mem_nil, or_false] at hx; subst hx; rfl
theorem Wr.growI {B bw bm : Nat} {fst : Nat → Int} {vs : List Vd} {bs : List Nat} {sp : Int} {kp : Bool} {cv : Value} {code : List Int} {w w' : World} (h : Wr B bw bm fst vs bs sp kp cv code w) {base n : Nat} {lv : Value} {xs : List Value} (hown : w.ownsRow base 3 1 lv n xs) (hs : w.heap.size ≤ w'.heap.size) (hk : ∀ b, b < w.heap.size → lv.ownBlock ≠ some b → w'.heap[b]? = w.heap[b]?) : Wr B bw bm fst vs bs sp kp cv code w' := by
  have ko : ∀ (b : Nat) (o : Obj), w.heap[b]? = some o → (∀ cur, o ≠ .cells cur 3 (0, 0)) → w'.heap[b]? = some o := fun b o hb hne => by
    refine (hk b (Array.getElem?_eq_some_iff.1 hb).1 (fun e => ?_)).trans hb
    obtain ⟨cur, hc⟩ := own_blk hown e
    rw [hb] at hc
    injection hc with hc
    exact hne cur hc
  have kt : ∀ (b : Nat) (cur : Array Value) (T : Nat) (fz : Nat × Nat), w.heap[b]? = some (.cells cur T fz) → T ≠ 3 → w'.heap[b]? = w.heap[b]? := fun b cur T fz hb hT => (ko b _ hb (fun c e => by injection e with _ e; exact hT e)).trans hb.symm
  refine ⟨?_, own_keep h.own (fun j hj _ _ => ?_), h.lt, Nat.le_trans h.le hs, ?_, h.vars.keep (fun b cur _ hc => kt b _ _ _ hc (by decide)), h.names, h.few⟩
  · obtain ⟨cur, hc, hr⟩ := h.row
    exact World.rowIs.of_block (w := w) ⟨cur, hc, hr⟩ (kt bw _ _ _ hc (by decide))
  · obtain ⟨cur, hc⟩ := own_blk h.own hj
    exact kt j _ _ _ hc (by decide)
  · obtain ⟨D, ⟨es, c, h1, h2⟩, h3⟩ := h.nm
    exact ⟨D, ⟨es, c, ko _ _ h1 (fun _ e => by cases e), h2⟩, h3⟩
/-- What is left of a CASE's branches, and what is written. -/
structure CasL (vs : List Vd) (sp : Int) (B bw bm : Nat) (bs : List Nat) (P : List Int) (p : Nat) (cv0 : Value) (ws : Wl) (l : List (List Int × (Nat → List Int))) (Z : World) (i : Nat) (ov : Value) (wr : World) (rest : Wl) (r : List (List Int × (Nat → List Int))) : Prop where
  ex : ∃ (done : Wl) (dl : List (List Int × (Nat → List Int))) (cv' : Value), ws = done.app rest ∧ i = done.len ∧ l = dl ++ r ∧ dl.length = i ∧ Wr B bw bm (fstV vs) vs bs sp true cv' (P ++ whB sp [0, 0] p dl) wr ∧ Fu bw cv0 cv' Z wr ∧ wr.ownsRow Z.heap.size 3 1 ov i (nzV (whO sp p dl))
  ok : AllWW vs sp rest r
set_option maxRecDepth 100000 in
set_option maxHeartbeats 4000000 in
theorem swrite_cas {vs : List Vd} {sp : Int} {e : Ex} {ws : Wl} {o : Sl} {l : List (List Int × (Nat → List Int))} {fo : Nat → List Int} {qo : Bool} (he : WriteOk vs e) (hw : AllWW vs sp ws l) (hwl : ws.len ≤ 1000) (ho : AllWL vs sp o fo qo) (hol : o.len ≤ 1000000) : SWriteOkL vs sp (.cas e ws o) (casB sp (codeE vs e) l fo) true := by
  intro B bw bm lo hi tt bs kp cv u code w hh h hx hsz R fin
  obtain ⟨vc, vw, vo, m1, m2, hv, q1, q2, q3, hxc, ⟨n, xs, hrw, hsw⟩, ⟨ys, hro, hso⟩⟩ := hx
  obtain rfl := hrw.nW hsw
  injection hv with e1 e2
  subst e1 e2
  obtain ⟨tc, uc, rfl⟩ := hxc.iface
  obtain ⟨wa, wcp, rfl⟩ := own_slS hrw.1
  obtain ⟨oa, ocp, rfl⟩ := own_slS hro.1
  have me := meth_write hxc
  have me1 := me.m
  have me2 := me.c
  simp only [swfn]
  simp only [Bool.or_true] at fin
  obtain ⟨Z0, hZ0⟩ : ∃ Z, Z = w.alloc (Obj.cells #[.iface tc uc, .slice wa ws.len wcp, .slice oa o.len ocp] 314) := ⟨_, rfl⟩
  have hbZ : Below w.heap.size w Z0 := by rw [hZ0]; exact (Below.refl _ w).alloc (Nat.le_refl _) _
  have hnew0 : Z0.heap[w.heap.size]? = some (.cells #[.iface tc uc, .slice wa ws.len wcp, .slice oa o.len ocp] 314) := by rw [hZ0]; exact allocCells
  have hW0 := h.below hbZ
  have lb0 := hW0.row.lt
  have hlt0 := hW0.lt
  have f3 := hW0.row.frozen 3
  have c3 : Z0.cell? ⟨bw, 3, none⟩ = some (.bool kp) := hW0.row.cell (i := 3) (by omega)
  have hzb : w.heap.size ≠ bw := by have := h.row.lt; omega
  obtain ⟨Z, hZ⟩ : ∃ Z, Z = Z0.setCell ⟨bw, 3, none⟩ (.bool true) := ⟨_, rfl⟩
  have hF0 : Fu bw cv cv Z0 Z := by
    rw [hZ]
    exact ⟨rfl, rfl, rfl, by rw [World.size_setCell]; exact Nat.le_refl _, fun b _ hb _ => Below.heap_setCell _ _ _ _ hb, .inl rfl⟩
  have hWZ : Wr B bw bm (fstV vs) vs bs sp true cv code Z := by
    refine ⟨?_, ?_, hW0.lt, by rw [hZ, World.size_setCell]; exact hW0.le, hW0.nm' hF0, hW0.vars' hF0, hW0.names, hW0.few⟩
    · rw [hZ]
      refine (hW0.row.set 3 _).congr (fun i hi => ?_)
      have : i = 0 ∨ i = 1 ∨ i = 2 ∨ i = 3 := by omega
      rcases this with rfl | rfl | rfl | rfl <;> rfl
    · rw [hZ]
      exact ownsRow_setCell_below (a := ⟨bw, 3, none⟩) hW0.own hW0.lt _
  have hnewb : Z.heap[w.heap.size]? = some (.cells #[.iface tc uc, .slice wa ws.len wcp, .slice oa o.len ocp] 314) := hW0.tag hF0 hnew0 (by decide) (by decide)
  have p0 : Z.cell? ⟨w.heap.size, 0, none⟩ = some (.iface tc uc) := cellOf (i := 0) hnewb rfl
  have hxZ : ExIn (kE vs) e lo m1 Z (.iface tc uc) := hW0.exIn hF0 (hxc.keep (w' := Z0) (fun b cur _ _ hc => hbZ.block b (Array.getElem?_eq_some_iff.1 hc).1))
  have hFw : Fu bw cv cv w Z := Fu.pre hbZ hF0
  have cC := hd (fun (W : World) => @he B bw bm lo m1 tc bs sp true cv uc code W)
  have hkb : ∀ (X : World) (cv' : Value), Fu bw cv cv' Z X → X.cell? ⟨w.heap.size, 1, none⟩ = some (.slice wa ws.len wcp) ∧ X.cell? ⟨w.heap.size, 2, none⟩ = some (.slice oa o.len ocp) := fun X cv' hF => by
    have hb := hWZ.tag hF hnewb (by decide) (by decide)
    exact ⟨cellOf (i := 1) hb rfl, cellOf (i := 2) hb rfl⟩
  have hkw : ∀ (X : World) (cv' : Value), Fu bw cv cv' Z X → RowIn X m1 m2 317 2 (.slice wa ws.len wcp) ws.len xs ∧ WlIn (kE vs) (Value.slice wa ws.len wcp).ownBlock ws m1 m2 X xs := fun X cv' hF =>
    ⟨hrw.tagZ (fun b cur hc => (h.tag (hFw.trans hF) hc (by decide) (by decide)).trans hc.symm), hsw.keep (fun b _ _ _ _ h2 _ _ => h.same (hFw.trans hF) (show b < hi by omega) hh)⟩
  have hko : ∀ (X : World) (cv' : Value), Fu bw cv cv' Z X → RowIn X m2 hi 240 1 (.slice oa o.len ocp) o.len ys ∧ SlIn (kE vs) (Value.slice oa o.len ocp).ownBlock o m2 hi X ys := fun X cv' hF =>
    ⟨hro.tagZ (fun b cur hc => (h.tag (hFw.trans hF) hc (by decide) (by decide)).trans hc.symm), hso.keep (fun b _ _ _ _ h2 _ _ => h.same (hFw.trans hF) (show b < hi by omega) hh)⟩
  obtain ⟨cl, hcl⟩ : ∃ cl, cl = codeE vs e := ⟨_, rfl⟩
  rw [← hcl] at fin hsz cC
  obtain ⟨p, hp⟩ : ∃ p, p = code.length + cl.length + 2 := ⟨_, rfl⟩
  obtain ⟨pe, hpe⟩ : ∃ pe, pe = whE sp p l := ⟨_, rfl⟩
  obtain ⟨ol, hol'⟩ : ∃ ol, ol = fo pe := ⟨_, rfl⟩
  obtain ⟨P, hP⟩ : ∃ P, P = code ++ cl ++ [3, sp] := ⟨_, rfl⟩
  have hPl : P.length = p := by rw [hP]; simp only [List.length_append, List.length_cons, List.length_nil]; omega
  have hfe : code ++ casB sp cl l fo code.length = P ++ (whB sp (two (pe + ol.length)) p l ++ ol) := by
    unfold casB
    rw [← hp, ← hpe, ← hol', hP]
    simp only [List.append_assoc]
  have hln := whB_len sp (twoLen (pe + ol.length)) l p
  rw [← hpe] at hln
  have hsz2 : pe + ol.length ≤ 1000000 := by
    have h1 : (code ++ casB sp cl l fo code.length).length ≤ 1000000 := by rw [List.length_append]; exact hsz
    rw [hfe] at h1
    simp only [List.length_append] at h1
    omega
  rw [hfe] at fin
  have hle := whE_le sp l p
  rw [← hpe] at hle
  have f3' : (w.alloc (Obj.cells #[.iface tc uc, .slice wa ws.len wcp, .slice oa o.len ocp] 314)).frozen? ⟨bw, 3, none⟩ = false := by rw [← hZ0]; exact f3
  have c3' : (w.alloc (Obj.cells #[.iface tc uc, .slice wa ws.len wcp, .slice oa o.len ocp] 314)).cell? ⟨bw, 3, none⟩ = some (.bool kp) := by rw [← hZ0]; exact c3
  have p0' : ((w.alloc (Obj.cells #[.iface tc uc, .slice wa ws.len wcp, .slice oa o.len ocp] 314)).setCell ⟨bw, 3, none⟩ (.bool true)).cell? ⟨w.heap.size, 0, none⟩ = some (.iface tc uc) := by rw [← hZ0, ← hZ]; exact p0
  replace fin := hd fin
  replace hkb := hd hkb
  replace hkw := hd hkw
  replace hko := hd hko
  replace hWZ := hd hWZ
  replace hxZ := hd hxZ
  replace hnewb := hd hnewb
  replace hFw := hd hFw
  clear hrw hro hsw hso hxc he me hfe hsz hnew0 hW0 hF0 hln
  generalize wfn e = FE at *
  go_enter Tryz.func321, Tryz.ntmps321
  go_wp2_with (fail)
  rw [← hZ0, ← hZ]
  replace hZ0 := hd hZ0
  replace hZ := hd hZ
  clear f3' c3' p0' f3 c3 p0
  generalize hz : w.heap.size = z at *
  replace hz := hd hz
  have hcl2 : code.length + cl.length ≤ 1000000 := by omega
  replace hpe := hd hpe
  replace hcl := hd hcl
  replace hP := hd hP
  replace hol' := hd hol'
  replace hp := hd hp
  refine cC.out _ hWZ.out hxZ.out hcl2 _ ?_
  intro w1 cv1 h1 f1
  have csp : w1.cell? ⟨bw, 2, none⟩ = some (.int .u8 sp) := h1.row.cell (i := 2) (by omega)
  have lb1 := h1.row.lt
  replace f1 := hd f1
  go_wp2_with (fail)
  have hg1 : (w1.alloc (Obj.cells #[.int .u8 3, .int .u8 sp] 5)).heap[w1.heap.size]? = some (.cells (u8V [3, sp]).toArray 5) := allocCells
  refine put_ok (h1.alloc _) [3, sp] w1.heap.size 2 2 rfl hg1 (by have := hp.out; simp only [List.length_append, List.length_cons, List.length_nil]; omega) _ ?_
  intro w2 cv2 h2 g2
  have f2 := hd (f1.out.trans (Fu.pre ((Below.refl _ w1).alloc (Nat.le_refl _) _) g2))
  rw [← hP.out] at h2
  obtain ⟨p1, p2⟩ := hkb.out _ _ f2.out
  have hstart : CasL vs sp B bw bm bs P p cv ws l Z 0 (.slice none 0 0) w2 ws l := ⟨⟨.nil, [], cv2, rfl, rfl, rfl, rfl, by simpa [whB] using h2, f2.out, World.ownsRow_nil _ _ _ _⟩, hw⟩
  replace hstart := hd hstart
  clear h1 h2 f1 g2 hg1 csp
  go_wp2
  go_loopw [4, 6, 7, 27] (fun ov _ _ iv wr => ∃ (i : Nat) (rest : Wl) (r : List (List Int × (Nat → List Int))), iv = .int .i64 (i : Int) ∧ CasL vs sp B bw bm bs P p cv ws l Z i ov wr rest r) (fun _ _ _ iv _ => ws.len - (intOf iv).toNat)
  case atStart => exact ⟨0, ws, l, rfl, hstart.out⟩
  case round =>
    obtain ⟨i, rest, r, rfl, ⟨done, dl, cv3, happ, hie, hdl, hdi, hwr, hfu, hov⟩, hok⟩ := hrel
    have hll : ws.len = done.len + rest.len := by rw [happ, Wl.len_app]
    clear hstart
    cases hok with
    | nil =>
      simp only [Wl.len] at hll
      have td : decide ((i : Int) < (ws.len : Int)) = false := by simp; omega
      have hnl : ¬ i < ws.len := by omega
      rw [List.append_nil] at hdl
      subst hdl
      have hcd : (P ++ whB sp [0, 0] p l).length = pe := by rw [List.length_append, hPl, hpe.out]; exact whB_len sp rfl l p
      obtain ⟨cd, hcde⟩ : ∃ cd, cd = P ++ whB sp [0, 0] p l := ⟨_, rfl⟩
      rw [← hcde] at hcd hwr
      obtain ⟨q1', q2'⟩ := hkb.out _ _ hfu
      obtain ⟨hr9, hs9⟩ := hko.out _ _ hfu
      obtain ⟨oo, oc, rfl⟩ := own_slS hov
      have hi1000 : i ≤ 1000 := by omega
      replace hll := hd hll
      replace hie := hd hie
      replace happ := hd happ
      replace hdi := hd hdi
      replace hwr := hd hwr
      replace hfu := hd hfu
      replace hov := hd hov
      replace hr9 := hd hr9
      replace hs9 := hd hs9
      replace hcde := hd hcde
      go_wp2_with (fail)
      refine writes_okL ho hol hwr.out hr9.out.1 hs9.out (by omega) (by rw [List.length_append, hcd, ← hol'.out]; omega) _ ?_
      intro w3 cv4 h3 g3
      rw [hcd, ← hol'.out] at h3
      have f3 := hfu.out.trans g3
      have hov3 := own_keep (w' := w3) hov.out (fun k hk _ _ => by
        obtain ⟨cur2, hc2⟩ := own_blk hov.out hk
        exact (hwr.out.tag g3 hc2 (by decide) (by decide)).trans hc2.symm)
      have hst2 : ∃ d r2, l = d ++ r2 ∧ (0 : Nat) = d.length ∧ Wr B bw bm (fstV vs) vs bs sp true cv4 (P ++ (whB sp (two (pe + ol.length)) p d ++ (whB sp [0, 0] (whE sp p d) r2 ++ ol))) w3 := ⟨[], l, rfl, rfl, by rw [hcde.out] at h3; simpa [whB, whE] using h3⟩
      replace hst2 := hd hst2
      replace f3 := hd f3
      obtain ⟨bo, bcp, hbe, hcp, hbo⟩ := own_form hov3
      injection hbe with e1 _ e2
      subst e1 e2
      replace hov3 := hd hov3
      replace hbo := hd hbo
      have h3' := hd h3
      clear h3 g3 hwr hfu hov hr9 hs9
      go_wp2
      go_loopw [9, 56] (fun _ jv wj => ∃ (j : Nat) (d r2 : List (List Int × (Nat → List Int))), jv = .int .i64 (j : Int) ∧ l = d ++ r2 ∧ j = d.length ∧ Wr B bw bm (fstV vs) vs bs sp true cv4 (P ++ (whB sp (two (pe + ol.length)) p d ++ (whB sp [0, 0] (whE sp p d) r2 ++ ol))) wj ∧ Fu bw cv4 cv4 w3 wj) (fun _ jv _ => i - (intOf jv).toNat)
      case atStart =>
        obtain ⟨d, r2, a1, a2, a3⟩ := hst2.out
        exact ⟨0, d, r2, rfl, a1, a2, a3, Fu.refl _ _ _⟩
      case round =>
        obtain ⟨j, d, r2, rfl, hld, hjd, hwj, hfj⟩ := hrel
        clear hst2
        have hil : l.length = i := hdi.out
        have hsum : d.length + r2.length = i := by rw [← hil, hld, List.length_append]
        cases r2 with
        | nil =>
          simp only [List.length_nil, Nat.add_zero] at hsum
          have tj : decide ((j : Int) < (i : Int)) = false := by simp; omega
          have hnj : ¬ j < i := by omega
          have hF := hd (hFw.out.trans (f3.out.trans hfj))
          rw [List.append_nil] at hld
          subst hld
          simp only [whB, List.nil_append] at hwj
          replace hwj := hd hwj
          clear hfj hsum hjd hil
          go_wp2
          go_end0
          exact fin.out _ _ hwj.out hF.out
        | cons q r3 =>
          obtain ⟨ns, fb⟩ := q
          simp only [List.length_cons] at hsum
          have tj : decide ((j : Int) < (i : Int)) = true := by simp; omega
          have hji : j < i := by omega
          have j0 : (0 : Int) ≤ (j : Int) ∧ (j : Int) < (i : Int) := by omega
          obtain ⟨A, C, hA1, hA2, hA3⟩ := land_next sp P ol (two (pe + ol.length)) (twoLen _) d ns fb r3 p hPl
          have hoj : (whO sp p l)[j]? = some A.length := by
            rw [hld, whO_app, hA2, List.getElem?_append_right (by rw [whO_len]; omega), whO_len, hjd, Nat.sub_self]
            rfl
          obtain ⟨gg, rfl, hgl, hgs, hg⟩ := hbo.out (by omega)
          obtain ⟨gcur, hgc⟩ := own_blk hov3.out (j := gg) rfl
          have c1 : wr.cell? ⟨gg, j, none⟩ = some (.int .i64 ((A.length : Nat) : Int)) := by
            rw [World.cell?_of_block (w := w3) (a := ⟨gg, j, none⟩) ((h3'.out.tag hfj hgc (by decide) (by decide)).trans hgc.symm)]
            exact hg j _ (by unfold nzV; rw [List.getElem?_map, hoj]; rfl)
          have hlenA : (P ++ (whB sp (two (pe + ol.length)) p d ++ (whB sp [0, 0] (whE sp p d) ((ns, fb) :: r3) ++ ol))).length = pe + ol.length := by
            have h1 := whB_len sp (twoLen (pe + ol.length)) d p
            have h2 := whB_len sp (E := [0, 0]) rfl ((ns, fb) :: r3) (whE sp p d)
            have h3 : whE sp (whE sp p d) ((ns, fb) :: r3) = pe := by rw [← whE_app, ← hld, hpe.out]
            simp only [List.length_append]
            omega
          generalize hnaE : A.length = na at *
          replace hwj := hd hwj
          replace hlenA := hd hlenA
          replace hA1 := hd hA1
          replace hA2 := hd hA2
          replace hA3 := hd hA3
          replace hld := hd hld
          replace hjd := hd hjd
          replace hfj := hd hfj
          clear hg hgc hoj hsum hil
          go_wp2_with (fail)
          refine land_at hwj.out na A C 0 0 hA1.out (by assumption) (by rw [hlenA.out]; omega) _ ?_
          intro w8 h8 g8
          rw [hlenA.out, hA3.out] at h8
          have hF := hd (hfj.out.trans g8)
          replace h8 := hd h8
          clear g8 hfj hwj
          go_wp2
          exact ⟨⟨j + 1, d ++ [(ns, fb)], r3, by go_num, by rw [hld.out, List.append_assoc]; rfl, by rw [List.length_append, hjd.out]; rfl, h8.out, hF.out⟩, by simp [intOf]; omega⟩
    | @cons ns b t fb qb l2 k1 k2 k3 k4 =>
      simp only [Wl.len] at hll
      have td : decide ((i : Int) < (ws.len : Int)) = true := by simp; omega
      have hnl : i < ws.len := by omega
      obtain ⟨hrwX, hswX⟩ := hkw.out _ _ hfu
      obtain ⟨vn, vb, a, m, c, zs, x1, x2, y1, y2, y3, y4, hrn, hrb, hsb⟩ := WlIn.at (done := done) (ns := ns) (b := b) (t := t) (by rw [← happ]; exact hswX)
      obtain ⟨g, cap, cur, hge, hgh, hgs, hgc, hgx⟩ := hrwX.two (by omega)
      injection hge with e1 _ e2
      subst e1 e2
      obtain ⟨na, ncp, rfl⟩ := own_slS hrn.1
      obtain ⟨ba, bcp, rfl⟩ := own_slS hrb.1
      rw [← hie] at x1 x2
      have c1 : wr.cell? ⟨g, i * 2, none⟩ = some (.slice na ns.length ncp) := cellOf hgc (hgx _ _ x1)
      have c2 : wr.cell? ⟨g, i * 2 + 1, none⟩ = some (.slice ba b.len bcp) := cellOf hgc (hgx _ _ x2)
      have j0 : (0 : Int) ≤ (i : Int) ∧ (i : Int) < (ws.len : Int) := by omega
      replace hll := hd hll
      replace hie := hd hie
      replace happ := hd happ
      replace hdl := hd hdl
      replace hdi := hd hdi
      replace hwr := hd hwr
      replace hfu := hd hfu
      replace hov := hd hov
      replace hrn := hd hrn
      replace hrb := hd hrb
      replace hsb := hd hsb
      clear hgx hrwX hswX x1 x2
      replace hgc := hd hgc
      have hcd : (P ++ whB sp [0, 0] p dl).length = whE sp p dl := by rw [List.length_append, hPl]; exact whB_len sp rfl dl p
      obtain ⟨N1, hN1⟩ : ∃ N1, N1 = whE sp p dl := ⟨_, rfl⟩
      rw [← hN1] at hcd
      have hend : wEnd sp N1 ns fb ≤ pe := by
        rw [hpe.out, hdl.out, whE_app, ← hN1]
        simp only [whE]
        exact whE_le _ _ _
      obtain ⟨I, hI⟩ : ∃ I, I = (isoB sp ns).length := ⟨_, rfl⟩
      obtain ⟨bl, hbl⟩ : ∃ bl, bl = fb (N1 + I + 3) := ⟨_, rfl⟩
      have hwe : wEnd sp N1 ns fb = N1 + I + 3 + bl.length + 3 := by unfold wEnd; rw [← hI, ← hbl]
      have hB1 : N1 + I + 3 + bl.length + 3 ≤ 1000000 := by omega
      obtain ⟨cd, hcde⟩ : ∃ cd, cd = P ++ whB sp [0, 0] p dl := ⟨_, rfl⟩
      rw [← hcde] at hcd hwr
      have hWa := hd (hwr.out.alloc (Obj.cells #[.slice na ns.length ncp, .slice ba b.len bcp] 317))
      have hrnA := hd (hrn.out.below ((Below.refl _ wr).alloc (Nat.le_refl _) (Obj.cells #[.slice na ns.length ncp, .slice ba b.len bcp] 317)))
      have hbl0 : (wr.alloc (Obj.cells #[.slice na ns.length ncp, .slice ba b.len bcp] 317)).heap[wr.heap.size]? = some (.cells #[.slice na ns.length ncp, .slice ba b.len bcp] 317) := allocCells
      replace hbl0 := hd hbl0
      replace hcde := hd hcde
      replace hI := hd hI
      replace hbl := hd hbl
      replace hwe := hd hwe
      replace hN1 := hd hN1
      replace hend := hd hend
      go_wp2_with (fail)
      refine isOneOf_ok hWa.out hrnA.out k3 (by rw [hcd, ← hI.out]; omega) _ ?_
      intro w3 cv4 h3 g3
      have p31 := hWa.out.tag g3 hbl0.out (by decide) (by decide)
      have p31b : w3.cell? ⟨wr.heap.size, 1, none⟩ = some (.slice ba b.len bcp) := cellOf (i := 1) p31 rfl
      have f3 := hd (Fu.pre ((Below.refl _ wr).alloc (Nat.le_refl _) _) g3)
      have hz3 := g3.size
      rw [World.size_alloc] at hz3
      replace p31 := hd p31
      clear g3 hWa hrnA hbl0
      go_wp2_with (fail)
      refine ahead_ok h3 18 (by rw [List.length_append, hcd, ← hI.out]; omega) _ ?_
      intro w4 cv5 h4 g4
      generalize hna : (cd ++ isoB sp ns).length + 1 = nn
      have p41 := h3.tag g4 p31.out (by decide) (by decide)
      have p41b : w4.cell? ⟨wr.heap.size, 1, none⟩ = some (.slice ba b.len bcp) := cellOf (i := 1) p41 rfl
      have f4 := hd (f3.out.trans g4)
      have hnn : nn = N1 + I + 1 := by rw [← hna, List.length_append, hcd, ← hI.out]
      have el4 : (cd ++ isoB sp ns ++ [18, 0, 0]).length = N1 + I + 3 := by simp only [List.length_append, List.length_cons, List.length_nil]; rw [hcd, ← hI.out]
      have hz4 := g4.size
      have hrb4 := hd (hrb.out.tagZ (fun b cur hc => (hwr.out.tag f4.out hc (by decide) (by decide)).trans hc.symm))
      have hsb4 := hd (hsb.out.keep (w' := w4) (fun b _ _ _ _ h2 _ _ => hwr.out.same f4.out (show b < hi by omega) hh))
      replace el4 := hd el4
      replace hna := hd hna
      replace hnn := hd hnn
      clear g4 f3 h3 p31b
      replace p41 := hd p41
      go_wp2_with (fail)
      refine writes_okL k1 k2 h4 hrb4.out.1 hsb4.out (by omega) (by rw [List.length_append, el4.out, ← hbl.out]; omega) _ ?_
      intro w5 cv6 h5 g5
      rw [el4.out, ← hbl.out] at h5
      have f5 := hd (f4.out.trans g5)
      have hz5 := g5.size
      have el5 : (cd ++ isoB sp ns ++ [18, 0, 0] ++ bl).length = N1 + I + 3 + bl.length := by rw [List.length_append, el4.out]
      replace el5 := hd el5
      clear g5 f4 h4 p41b p41 hrb4 hsb4
      go_wp2_with (fail)
      refine ahead_ok h5 17 (by rw [el5.out]; omega) _ ?_
      intro w6 cv7 h6 g6
      rw [el5.out]
      generalize hnb : N1 + I + 3 + bl.length + 1 = nb
      have f6 := hd (f5.out.trans g6)
      have hz6 := g6.size
      have hov6 : w6.ownsRow Z.heap.size 3 1 u4 i (nzV (whO sp p dl)) := own_keep hov.out (fun k hk _ _ => by
        obtain ⟨cur2, hc2⟩ := own_blk hov.out hk
        exact (hwr.out.tag f6.out hc2 (by decide) (by decide)).trans hc2.symm)
      obtain ⟨oo, oc, rfl⟩ := own_slS hov6
      replace hov6 := hd hov6
      replace hnb := hd hnb
      replace h6 := hd h6
      clear g6 f5 h5
      have hzz : Z.heap.size ≤ w6.heap.size := by have := hfu.out.size; omega
      go_wp2_with (first | (at_builtin; refine wpList_appZ _ rfl _ _ 38 rfl Z.heap.size 3 _ 1 8 ulInts infoInt rfl (by decide) _ i (nzV (whO sp p dl)) rfl (by exact hov6.out.alloc _) ⟨w6.heap.size, 0, none⟩ 1 1 [.int .i64 (nb : Int)] rfl rfl (by exact news_atZ (newZ (by simp))) (oneIn nb) (by unfold maxLen; omega) (by omega) (by simp; omega) ?_; intro v2 w7 hown7 hgr7 hl7; obtain ⟨ao2, cp2, rfl⟩ := own_slS hown7; replace hown7 := hd hown7; replace hgr7 := hd hgr7; replace hl7 := hd hl7))
      have hk7 : ∀ b, b < w6.heap.size → (Value.slice oo i oc).ownBlock ≠ some b → w7.heap[b]? = w6.heap[b]? := fun j hj hne => (hgr7.out.block j (by simp; omega) (fun e => hne e.symm)).trans (Below.heap_alloc _ _ _ hj)
      have hz7 : w6.heap.size + 1 ≤ w7.heap.size := by have := hgr7.out.size; simp at this; omega
      have h7 := h6.out.growI (w' := w7) hov6.out (by omega) hk7
      have F7 : Fu bw cv cv7 Z w7 := (hfu.out.trans f6.out).grow (w' := w7) (lv := Value.slice oo i oc) hgr7.out.os hgr7.out.tape hgr7.out.output (by omega) hk7 (fun b hb => (hov6.out.lt b hb).1)
      replace F7 := hd F7
      have ec7 : cd ++ isoB sp ns ++ [18, 0, 0] ++ bl ++ [17, 0, 0] = (cd ++ isoB sp ns ++ [18]) ++ 0 :: 0 :: (bl ++ [17, 0, 0]) := by simp
      have el7 : (cd ++ isoB sp ns ++ [18, 0, 0] ++ bl ++ [17, 0, 0]).length = wEnd sp N1 ns fb := by rw [List.length_append, el5.out, hwe.out]; rfl
      clear hk7 hov6 h6 f6 hgr7 hl7
      refine land_at h7 nn (cd ++ isoB sp ns ++ [18]) (bl ++ [17, 0, 0]) 0 0 ec7 (by rw [hnn.out, List.length_append, List.length_append, hcd, ← hI.out]; rfl) (by rw [el7, hwe.out]; omega) _ ?_
      intro w8 h8 g8
      rw [el7] at h8
      have hov8 := own_keep (w' := w8) hown7.out (fun k hk _ _ => by
        obtain ⟨cur2, hc2⟩ := own_blk hown7.out hk
        exact (h7.tag g8 hc2 (by decide) (by decide)).trans hc2.symm)
      have hne : CasL vs sp B bw bm bs P p cv ws l Z (i + 1) (.slice ao2 (i + 1) cp2) w8 t l2 := by
        refine ⟨⟨done.app (.cons ns b .nil), dl ++ [(ns, fb)], cv7, ?_, ?_, ?_, ?_, ?_, F7.out.trans g8, ?_⟩, k4⟩
        · rw [happ.out, Wl.app_assoc]; rfl
        · rw [Wl.len_app, hie.out]; rfl
        · rw [hdl.out, List.append_assoc]; rfl
        · rw [List.length_append, hdi.out]; rfl
        · have e8 : cd ++ isoB sp ns ++ [18] ++ two (wEnd sp N1 ns fb) ++ (bl ++ [17, 0, 0]) = P ++ whB sp [0, 0] p (dl ++ [(ns, fb)]) := by
            rw [whB_app, ← hN1.out, hcde.out]
            simp only [whB]
            rw [← hI.out, ← hbl.out]
            simp only [List.append_assoc, List.cons_append, List.nil_append, List.append_nil]
          rw [← e8]
          exact h8
        · have e9 : nzV (whO sp p (dl ++ [(ns, fb)])) = nzV (whO sp p dl) ++ [.int .i64 (nb : Int)] := by
            rw [whO_app, ← hN1.out]
            simp only [whO, nzV, List.map_append, List.map_cons, List.map_nil]
            rw [hwe.out, ← hnb.out]
            congr 4
          rw [e9]
          exact hov8
      replace hne := hd hne
      clear h7 h8 g8 hov8 hown7 F7 ec7 el7
      go_wp2
      exact ⟨⟨i + 1, t, l2, by go_num, hne.out⟩, by have := hll.out; have := hie.out; simp [intOf]; omega⟩

end Go.Proofs.YtidhiaaicmfabaaGreatDoor

/- IF is checked (seat .ZD alone). -/
namespace Go.Proofs.YtidhiaaicmfabaaGreatDoor
open Go.RowKit Go.Proofs Go.Deep

set_option maxRecDepth 100000 in
set_option maxHeartbeats 4000000 in
theorem check_ife {vs : List Vd} {ls : List ByteArray} {c : Ex} {t o : Sl} (hc : KindOk vs c) (hk : kE vs c = 0) (ht : AllCkL vs ls t) (htl : t.len ≤ 1000000) (ho : AllCkL vs ls o) (hol : o.len ≤ 1000000) : CheckOkL vs ls (.ife c t o) := by
  intro bc bm lo hi tt fst bs lv u w hib h hx R fin
  obtain ⟨vc, vt, vo, m1, m2, hv, q1, q2, q3, hxc, ⟨xs, hrt, hst⟩, ⟨ys, hro, hso⟩⟩ := hx
  injection hv with e1 e2
  subst e1 e2
  obtain ⟨tc, uc, rfl⟩ := hxc.iface
  obtain ⟨ta, tcp, rfl⟩ := own_slS hrt.1
  obtain ⟨oa, ocp, rfl⟩ := own_slS hro.1
  simp only [sfn]
  have me := meth_kind hxc
  have me1 := me.m
  have me2 := me.c
  have cE := hd (fun (W : World) => @hc bc bm lo m1 tc fst bs lv uc ls W)
  rw [hk] at cE
  generalize kfn c = FE at *
  obtain ⟨Z, hZ⟩ : ∃ Z, Z = w.alloc (Obj.cells #[.iface tc uc, .slice ta t.len tcp, .slice oa o.len ocp] 311) := ⟨_, rfl⟩
  have hbZ : Below w.heap.size w Z := by rw [hZ]; exact (Below.refl _ w).alloc (Nat.le_refl _) _
  have hnewb : Z.heap[w.heap.size]? = some (.cells #[.iface tc uc, .slice ta t.len tcp, .slice oa o.len ocp] 311) := by rw [hZ]; exact allocCells
  have envZ := h.kf (lo := 0) (hi := 0) (Kf.of_below hbZ)
  have p0 : Z.cell? ⟨w.heap.size, 0, none⟩ = some (.iface tc uc) := cellOf (i := 0) hnewb rfl
  have hxZ := hxc.keep (w' := Z) (fun b cur _ _ hc => hbZ.block b (Array.getElem?_eq_some_iff.1 hc).1)
  have hrtZ := hrt.below hbZ
  have hroZ := hro.below hbZ
  have hstZ := hst.belowZ hbZ
  have hsoZ := hso.belowZ hbZ
  replace fin := hd fin
  replace hrtZ := hd hrtZ
  replace hroZ := hd hroZ
  replace hstZ := hd hstZ
  replace hsoZ := hd hsoZ
  replace envZ := hd envZ
  replace hxZ := hd hxZ
  clear hrt hro hst hso hxc
  go_enter Tryz.func315, Tryz.ntmps315
  go_wp2_with (fail)
  rw [← hZ]
  replace hZ := hd hZ
  generalize hz : w.heap.size = z at *
  replace hz := hd hz
  refine cE.out _ envZ.out hxZ.out _ ?_
  intro w1 k1 hx1
  have env1 := envZ.out.kf k1
  have hn1 := (k1.tag hnewb (by decide)).trans hnewb
  have p11 : w1.cell? ⟨z, 1, none⟩ = some (.slice ta t.len tcp) := cellOf (i := 1) hn1 rfl
  have hrt1 := hrtZ.out.tagZ (w' := w1) (fun b cur hc => k1.tag hc (by decide))
  have hro1 := hroZ.out.tagZ (w' := w1) (fun b cur hc => k1.tag hc (by decide))
  have hst1 := hstZ.out.keep (w' := w1) (fun b cur T _ h1 _ _ hc => k1.block b (Array.getElem?_eq_some_iff.1 hc).1 (fun _ _ => by omega))
  have hso1 := hsoZ.out.keep (w' := w1) (fun b cur T _ h1 _ _ hc => k1.block b (Array.getElem?_eq_some_iff.1 hc).1 (fun _ _ => by omega))
  replace env1 := hd env1
  replace hn1 := hd hn1
  replace hrt1 := hd hrt1
  replace hro1 := hd hro1
  replace hst1 := hd hst1
  replace hso1 := hd hso1
  replace hx1 := hd hx1
  replace k1 := hd k1
  clear hrtZ hroZ hstZ hsoZ
  go_wp2_with (first | (go_at_call 69; refine want_ok _ _ _ ?_))
  refine checks_okL ht htl env1.out hrt1.out.1 hst1.out q2 (by omega) _ ?_
  intro w2 lv2 env2 k2 hst2
  have hn2 := (k2.tag env1.out hn1.out (by decide) (by decide) (by decide)).trans hn1.out
  have p22 : w2.cell? ⟨z, 2, none⟩ = some (.slice oa o.len ocp) := cellOf (i := 2) hn2 rfl
  have hrt2 := hrt1.out.tagZ (w' := w2) (fun b cur hc => k2.tag env1.out hc (by decide) (by decide) (by decide))
  have hro2 := hro1.out.tagZ (w' := w2) (fun b cur hc => k2.tag env1.out hc (by decide) (by decide) (by decide))
  have hso2 := hso1.out.keep (k2.same env1.out (.inl (Nat.le_refl _)) hib)
  have hx2 := hx1.out.keep' (k2.same env1.out (.inr (Nat.le_refl _)) (by omega))
  replace env2 := hd env2
  replace hn2 := hd hn2
  replace hrt2 := hd hrt2
  replace hro2 := hd hro2
  replace hst2 := hd hst2
  replace hso2 := hd hso2
  replace hx2 := hd hx2
  replace k2 := hd k2
  clear hrt1 hro1 hst1 hso1 hx1 p11
  go_wp2_with (fail)
  refine checks_okL ho hol env2.out hro2.out.1 hso2.out q3 (by omega) _ ?_
  intro w3 lv3 env3 k3 hso3
  have hrt3 := hrt2.out.tagZ (w' := w3) (fun b cur hc => k3.tag env2.out hc (by decide) (by decide) (by decide))
  have hro3 := hro2.out.tagZ (w' := w3) (fun b cur hc => k3.tag env2.out hc (by decide) (by decide) (by decide))
  have hst3 := hst2.out.keep (k3.same env2.out (.inr (Nat.le_refl _)) (by omega))
  have hx3 := hx2.out.keep' (k3.same env2.out (.inr (by omega)) (by omega))
  have hkA : Kc bc lo hi lv lv3 w w3 := (Kc.of_kf (Kf.of_below (by have e := hz.out; rw [e]; exact hbZ))).trans ((Kc.of_kf (k1.out.wide (Nat.le_refl _) (by omega))).trans ((k2.out.wide (by omega) (by omega)).trans (k3.wide (by omega) (Nat.le_refl _))))
  replace env3 := hd env3
  replace hkA := hd hkA
  replace hst3 := hd hst3
  replace hso3 := hd hso3
  replace hrt3 := hd hrt3
  replace hro3 := hd hro3
  replace hx3 := hd hx3
  clear k3
  go_wp2
  go_end0
  exact fin.out _ _ env3.out hkA.out ⟨_, _, _, m1, m2, rfl, q1, q2, q3, hx3.out, ⟨xs, hrt3.out, hst3.out⟩, ⟨ys, hro3.out, hso3.out⟩⟩

end Go.Proofs.YtidhiaaicmfabaaGreatDoor

/- What an IF costs (seat .ZD alone). -/
namespace Go.Proofs.YtidhiaaicmfabaaGreatDoor
open Go.RowKit Go.Proofs Go.Deep

set_option maxRecDepth 100000 in
set_option maxHeartbeats 4000000 in
theorem scost_ife {kk : Ex → Int} {c : Ex} {t o : Sl} (hc : CostOk kk c) (ht : AllCo kk t) (htl : t.len ≤ 1000000) (htc : costL t ≤ 4000) (ho : AllCo kk o) (hol : o.len ≤ 1000000) (hoc : costL o ≤ 4000) : SCostOk kk (.ife c t o) := by
  intro lo hi tt u w hx hh hc0 hcc R fin
  obtain ⟨vc, vt, vo, m1, m2, hv, q1, q2, q3, hxc, ⟨xs, hrt, hst⟩, ⟨ys, hro, hso⟩⟩ := hx
  injection hv with e1 e2
  subst e1 e2
  obtain ⟨tc, uc, rfl⟩ := hxc.iface
  obtain ⟨ta, tcp, rfl⟩ := own_slS hrt.1
  obtain ⟨oa, ocp, rfl⟩ := own_slS hro.1
  have me := meth_cost hxc
  have me1 := me.m
  have me2 := me.c
  simp only [csfn]
  simp only [cS] at fin hcc hc0
  have pe := cE_pos c
  have pt := cL_nonneg ht
  have po := cL_nonneg ho
  have hL1 : cE c ≤ 100000 := by omega
  obtain ⟨Z, hZ⟩ : ∃ Z, Z = w.alloc (Obj.cells #[.iface tc uc, .slice ta t.len tcp, .slice oa o.len ocp] 311) := ⟨_, rfl⟩
  have hbZ : Below w.heap.size w Z := by rw [hZ]; exact (Below.refl _ w).alloc (Nat.le_refl _) _
  have hzl : w.heap.size < Z.heap.size := by rw [hZ]; simp
  have hnewb : Z.heap[w.heap.size]? = some (.cells #[.iface tc uc, .slice ta t.len tcp, .slice oa o.len ocp] 311) := by rw [hZ]; exact allocCells
  have hhZ : hi ≤ Z.heap.size := by omega
  have hxZ : ExIn kk c lo m1 Z (.iface tc uc) := hxc.below hbZ (by omega)
  have hrtZ := hrt.below hbZ
  have hroZ := hro.below hbZ
  have hstZ := hst.belowZ hbZ
  have hsoZ := hso.belowZ hbZ
  have hkz : ∀ (X : World), Below Z.heap.size Z X → X.cell? ⟨w.heap.size, 0, none⟩ = some (.iface tc uc) ∧ X.cell? ⟨w.heap.size, 1, none⟩ = some (.slice ta t.len tcp) ∧ X.cell? ⟨w.heap.size, 2, none⟩ = some (.slice oa o.len ocp) := fun X hX => by
    have hb := (hX.block _ hzl).trans hnewb
    exact ⟨cellOf (i := 0) hb rfl, cellOf (i := 1) hb rfl, cellOf (i := 2) hb rfl⟩
  obtain ⟨p0, p1, p2⟩ := hkz Z (Below.refl _ _)
  have c0 := hd (fun (W : World) (hW : Below Z.heap.size Z W) => @hc lo m1 tc uc W (hxZ.below hW (by omega)) (Nat.le_trans (by omega) hW.size) hL1)
  have cC := hd (fun (W : World) (hW : Below Z.heap.size Z W) (v : Value) (k : Int) (hvk : (v = .slice ta t.len tcp ∧ k = costL t) ∨ (v = .slice oa o.len ocp ∧ k = costL o)) (R' : Ending → World → Prop) (fin' : ∀ w', Below W.heap.size W w' → R' (.returned (.int .i64 k)) w') => show Calls Tryz.prog 71 #[v] W R' from by
    rcases hvk with ⟨rfl, rfl⟩ | ⟨rfl, rfl⟩
    · exact costs_ok (kk := kk) ht htl htc (hrtZ.below hW).1 (hstZ.belowZ hW) (Nat.le_trans (show m2 ≤ Z.heap.size by omega) hW.size) R' fin'
    · exact costs_ok (kk := kk) ho hol hoc (hroZ.below hW).1 (hsoZ.belowZ hW) (Nat.le_trans hhZ hW.size) R' fin')
  replace fin := hd fin
  replace hkz := hd hkz
  clear hrt hro hst hso hrtZ hroZ hstZ hsoZ hxZ hxc hc me
  generalize cfn c = FL at *
  generalize cE c = kc at *
  generalize costL t = kt at *
  generalize costL o = ko at *
  generalize t.len = nt at *
  generalize o.len = no at *
  have hmb : 0 ≤ max kt ko ∧ max kt ko ≤ 4000 := by omega
  have j1 : IntKind.i64.wrap (1 + kc) = 1 + kc := IntWalk.i64_in _ (by omega)
  have j2 : IntKind.i64.wrap (1 + kc + max kt ko) = 1 + kc + max kt ko := IntWalk.i64_in _ (by omega)
  clear hmb hcc hc0 htc hoc pe pt po hL1
  go_enter Tryz.func316, Tryz.ntmps316
  go_wp2_with (fail)
  rw [← hZ]
  replace hZ := hd hZ
  replace hbZ := hd hbZ
  replace hnewb := hd hnewb
  generalize hz : w.heap.size = z at *
  replace hz := hd hz
  go_region_held3 (fun w' => w'.cell? ⟨z, 0, none⟩ = some (.iface tc uc) ∧ w'.cell? ⟨z, 1, none⟩ = some (.slice ta nt tcp) ∧ w'.cell? ⟨z, 2, none⟩ = some (.slice oa no ocp)) (first | exact hkz.out _ ((below_drewN (Below.refl _ Z) 1).trans (b1.out.trans ((b2.out.trans (b3.out.mono b2.out.size)).mono b1.out.size))) | exact hkz.out _ ((below_drewN (Below.refl _ Z) 1).trans (b1.out.trans (b2.out.mono b1.out.size))) | exact hkz.out _ ((below_drewN (Below.refl _ Z) 1).trans b1.out) | go_keep)
    (first
      | (go_at_call 71; refine cC.out _ (by exact (below_drewN (Below.refl _ Z) 1).trans b1.out) _ _ (by exact .inl ⟨rfl, rfl⟩) _ ?_; intro w2 b2; replace b2 := hd b2)
      | (go_at_call 71; refine cC.out _ (by exact (below_drewN (Below.refl _ Z) 1).trans (b1.out.trans (b2.out.mono b1.out.size))) _ _ (by exact .inr ⟨rfl, rfl⟩) _ ?_; intro w3 b3; replace b3 := hd b3)
      | (refine c0.out _ (by exact below_drewN (Below.refl _ Z) 1) _ ?_; intro w1 b1; replace b1 := hd b1))
  have hB := hd (show Below w.heap.size w w3 from by
    have e := hz.out
    rw [e]
    exact hbZ.out.trans (((below_drewN (Below.refl _ Z) 1).trans (b1.out.trans ((b2.out.trans (b3.out.mono b2.out.size)).mono b1.out.size))).mono (Nat.le_of_lt hzl)))
  go_wp2
  have e := hz.out
  first | exact cl1 (fin.out _ (by rw [← e]; exact hB.out)) rfl | (go_ret; exact cl1 (fin.out _ (by rw [← e]; exact hB.out)) rfl)

end Go.Proofs.YtidhiaaicmfabaaGreatDoor

/- What a CASE costs (seat .ZD alone). -/
namespace Go.Proofs.YtidhiaaicmfabaaGreatDoor
open Go.RowKit Go.Proofs Go.Deep

/-- Branches whose cost can be reckoned. -/
def AllCoW (kk : Ex → Int) : Wl → Prop
  | .nil => True
  | .cons ns b t => AllCo kk b ∧ b.len ≤ 1000000 ∧ costL b ≤ 4000 ∧ ns.length ≤ 1000 ∧ AllCoW kk t
theorem cW_app : ∀ (a b : Wl) (m : Int), cW (a.app b) m = cW b (cW a m)
  | .nil, _, _ => rfl
  | .cons _ _ t, b, m => by simp only [Wl.app, cW, cW_app t b]
theorem cN_app : ∀ (a b : Wl), cN (a.app b) = cN a + cN b
  | .nil, _ => by simp [Wl.app, cN]
  | .cons _ _ t, b => by simp only [Wl.app, cN, cN_app t b]; omega
set_option maxRecDepth 100000 in
set_option maxHeartbeats 4000000 in
theorem scost_cas {kk : Ex → Int} {e : Ex} {ws : Wl} {o : Sl} (he : CostOk kk e) (hw : AllCoW kk ws) (hwl : ws.len ≤ 1000) (ho : AllCo kk o) (hol : o.len ≤ 1000000) (hoc : costL o ≤ 4000) : SCostOk kk (.cas e ws o) := by
  intro lo hi tt u w hx hh hc0 hcc R fin
  obtain ⟨vc, vw, vo, m1, m2, hv, q1, q2, q3, hxc, ⟨n, xs, hrw, hsw⟩, ⟨ys, hro, hso⟩⟩ := hx
  obtain rfl := hrw.nW hsw
  injection hv with e1 e2
  subst e1 e2
  obtain ⟨tc, uc, rfl⟩ := hxc.iface
  obtain ⟨wa, wcp, rfl⟩ := own_slS hrw.1
  obtain ⟨oa, ocp, rfl⟩ := own_slS hro.1
  have me := meth_cost hxc
  have me1 := me.m
  have me2 := me.c
  simp only [csfn]
  simp only [cS] at fin hcc hc0
  have pe := cE_pos e
  have po := cL_nonneg ho
  obtain ⟨Z, hZ⟩ : ∃ Z, Z = w.alloc (Obj.cells #[.iface tc uc, .slice wa ws.len wcp, .slice oa o.len ocp] 314) := ⟨_, rfl⟩
  have hbZ : Below w.heap.size w Z := by rw [hZ]; exact (Below.refl _ w).alloc (Nat.le_refl _) _
  have hzl : w.heap.size < Z.heap.size := by rw [hZ]; simp
  have hnewb : Z.heap[w.heap.size]? = some (.cells #[.iface tc uc, .slice wa ws.len wcp, .slice oa o.len ocp] 314) := by rw [hZ]; exact allocCells
  have hhZ : hi ≤ Z.heap.size := by omega
  have hxZ : ExIn kk e lo m1 Z (.iface tc uc) := hxc.below hbZ (by omega)
  have hrwZ := hrw.below hbZ
  have hroZ := hro.below hbZ
  have hswZ := hsw.belowZ hbZ
  have hsoZ := hso.belowZ hbZ
  have hkz : ∀ (X : World), Below Z.heap.size Z X → X.cell? ⟨w.heap.size, 0, none⟩ = some (.iface tc uc) ∧ X.cell? ⟨w.heap.size, 1, none⟩ = some (.slice wa ws.len wcp) ∧ X.cell? ⟨w.heap.size, 2, none⟩ = some (.slice oa o.len ocp) := fun X hX => by
    have hb := (hX.block _ hzl).trans hnewb
    exact ⟨cellOf (i := 0) hb rfl, cellOf (i := 1) hb rfl, cellOf (i := 2) hb rfl⟩
  obtain ⟨p0, p1, p2⟩ := hkz Z (Below.refl _ _)
  have cO := hd (fun (R' : Ending → World → Prop) fin' => costs_ok (kk := kk) ho hol hoc hroZ.1 hsoZ hhZ R' fin')
  replace fin := hd fin
  replace hkz := hd hkz
  clear hrw hro hsw hso hroZ hsoZ hxc me
  go_enter Tryz.func320, Tryz.ntmps320
  go_wp2_with (fail)
  rw [← hZ]
  replace hZ := hd hZ
  replace hbZ := hd hbZ
  replace hnewb := hd hnewb
  generalize hz : w.heap.size = z at *
  replace hz := hd hz
  refine cO.out _ ?_
  intro w1 b1
  obtain ⟨p10, p11, p12⟩ := hkz.out _ b1
  replace b1 := hd b1
  clear cO p0 p1 p2
  have hmb : 0 ≤ costL o ∧ costL o ≤ 4000 := ⟨po, hoc⟩
  generalize costL o = mo at *
  replace hrwZ := hd hrwZ
  replace hswZ := hd hswZ
  go_wp2
  go_loopw [3, 4, 6, 13] (fun sv lv _ iv wr => ∃ (i : Nat) (done rest : Wl), iv = .int .i64 (i : Int) ∧ sv = .int .i64 (cW done mo) ∧ lv = .int .i64 (cN done) ∧ ws = done.app rest ∧ i = done.len ∧ Below Z.heap.size Z wr ∧ AllCoW kk rest ∧ 0 ≤ cW done mo ∧ cW done mo ≤ 4000 ∧ 0 ≤ cN done ∧ cN done ≤ 1000 * i) (fun _ _ _ iv _ => ws.len - (intOf iv).toNat)
  case atStart => exact ⟨0, .nil, ws, rfl, rfl, rfl, rfl, rfl, b1.out, hw, hmb.1, hmb.2, by simp [cN], by simp [cN]⟩
  case round =>
    obtain ⟨i, done, rest, rfl, rfl, rfl, happ, hie, hb, hok, e1, e2, e3, e4⟩ := hrel
    have hll : ws.len = done.len + rest.len := by rw [happ, Wl.len_app]
    cases rest with
    | nil =>
      simp only [Wl.len] at hll
      have td : decide ((i : Int) < (ws.len : Int)) = false := by simp; omega
      have hnl : ¬ i < ws.len := by omega
      rw [Wl.app_nil] at happ
      subst happ
      obtain ⟨p0, _, _⟩ := hkz.out _ hb
      have hx3 := hd (hxZ.below hb (by omega))
      have hL1 : cE e ≤ 100000 := by omega
      have hs3 : m1 ≤ wr.heap.size := by have := hb.size; omega
      have cC := hd (fun (W : World) => @he lo m1 tc uc W)
      clear he
      generalize cE e = ke at *
      generalize cfn e = FL at *
      generalize cN ws = kn at *
      generalize cW ws mo = kw at *
      have j1 : IntKind.i64.wrap (1 + ke) = 1 + ke := IntWalk.i64_in _ (by omega)
      have j2 : IntKind.i64.wrap (1 + ke + kn) = 1 + ke + kn := IntWalk.i64_in _ (by omega)
      have j3 : IntKind.i64.wrap (1 + ke + kn + kw) = 1 + ke + kn + kw := IntWalk.i64_in _ (by omega)
      replace hb := hd hb
      clear hll hie
      go_wp2_with (fail)
      refine cC.out _ hx3.out hs3 hL1 _ ?_
      intro w4 b4
      have hB := hd (show Below w.heap.size w w4 from by
        have e := hz.out
        rw [e]
        exact hbZ.out.trans ((hb.out.trans (b4.mono hb.out.size)).mono (Nat.le_of_lt hzl)))
      clear b4
      go_wp2
      have e := hz.out
      exact cl1 (fin.out _ (by rw [← e]; exact hB.out)) rfl
    | cons ns b t =>
      simp only [Wl.len] at hll
      have td : decide ((i : Int) < (ws.len : Int)) = true := by simp; omega
      have hnl : i < ws.len := by omega
      obtain ⟨k1, k2, k3, k4, k5⟩ := hok
      have hrwX := hrwZ.out.below hb
      have hswX := hswZ.out.belowZ hb
      obtain ⟨vn, vb, a, m, c, zs, x1, x2, y1, y2, y3, y4, hrn, hrb, hsb⟩ := WlIn.at (done := done) (ns := ns) (b := b) (t := t) (by rw [← happ]; exact hswX)
      obtain ⟨g, cap, cur, hge, hgh, hgs, hgc, hgx⟩ := hrwX.two (by omega)
      injection hge with e1' _ e2'
      subst e1' e2'
      obtain ⟨na, ncp, rfl⟩ := own_slS hrn.1
      obtain ⟨ba, bcp, rfl⟩ := own_slS hrb.1
      rw [← hie] at x1 x2
      have c1 : wr.cell? ⟨g, i * 2, none⟩ = some (.slice na ns.length ncp) := cellOf hgc (hgx _ _ x1)
      have c2 : wr.cell? ⟨g, i * 2 + 1, none⟩ = some (.slice ba b.len bcp) := cellOf hgc (hgx _ _ x2)
      have j0 : (0 : Int) ≤ (i : Int) ∧ (i : Int) < (ws.len : Int) := by omega
      have hbA : Below Z.heap.size Z (wr.alloc (Obj.cells #[.slice na ns.length ncp, .slice ba b.len bcp] 317)) := hb.alloc hb.size _
      have hba := (Below.refl _ wr).alloc (Nat.le_refl _) (Obj.cells #[.slice na ns.length ncp, .slice ba b.len bcp] 317)
      have hrb1 := hd (hrb.below hba)
      have hsb1 := hd (hsb.belowZ hba)
      have hcs : c ≤ (wr.alloc (Obj.cells #[.slice na ns.length ncp, .slice ba b.len bcp] 317)).heap.size := by have := hb.size; simp; omega
      have hbl0 : (wr.alloc (Obj.cells #[.slice na ns.length ncp, .slice ba b.len bcp] 317)).heap[wr.heap.size]? = some (.cells #[.slice na ns.length ncp, .slice ba b.len bcp] 317) := allocCells
      have hcb := cL_nonneg k1
      have cC := hd (fun (R' : Ending → World → Prop) fin' => costs_ok (kk := kk) k1 k2 k3 hrb1.out.1 hsb1.out hcs R' fin')
      have hnx : cW (done.app (.cons ns b .nil)) mo = max (cW done mo) (costL b) := by rw [cW_app]; rfl
      have hny : cN (done.app (.cons ns b .nil)) = cN done + ns.length := by rw [cN_app]; simp [cN]
      have j5 : IntKind.i64.wrap (cN done + (ns.length : Int)) = cN done + (ns.length : Int) := IntWalk.i64_in _ (by omega)
      generalize costL b = kb at *
      replace hb := hd hb
      replace hbA := hd hbA
      replace hll := hd hll
      replace hie := hd hie
      replace happ := hd happ
      replace hnx := hd hnx
      replace hny := hd hny
      replace hbl0 := hd hbl0
      clear hgx hrwX hswX x1 x2 hrn hrb hsb hba hgc
      go_wp2_with (fail)
      refine cC.out _ ?_
      intro w3 b3
      have hb3 := (b3.block wr.heap.size (by simp)).trans hbl0.out
      have p30 : w3.cell? ⟨wr.heap.size, 0, none⟩ = some (.slice na ns.length ncp) := cellOf (i := 0) hb3 rfl
      have hB3 := hd (hbA.out.trans (b3.mono hbA.out.size))
      replace hb3 := hd hb3
      clear b3 cC hbl0
      go_wp2
      refine ⟨⟨i + 1, done.app (.cons ns b .nil), t, by go_num, by rw [hnx.out], by rw [hny.out], ?_, ?_, hB3.out, k5, ?_⟩, by simp [intOf]; omega⟩
      · rw [happ.out, Wl.app_assoc]; rfl
      · rw [Wl.len_app, hie.out]; rfl
      · rw [hnx.out, hny.out]
        omega

end Go.Proofs.YtidhiaaicmfabaaGreatDoor
