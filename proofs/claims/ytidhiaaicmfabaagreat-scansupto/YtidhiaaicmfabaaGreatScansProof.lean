/- Scans of every list of images and every list of rounds whose reading is of bulk at most 1048576 answers true: every error, all outputs and all steps of the machines are the document's, lists that were lent and lists that came out read as their owner left them; the input reads as it did. Condition: the bulk (ScansUptoSaid). -/
import Derived.Test.YtidhiaaicmfabaaGreatMem
import Derived.Test.YtidhiaaicmfabaaGreatSpec
import Derived.Test.YtidhiaaicmfabaaGreatRefA
import Derived.Test.YtidhiaaicmfabaaGreatRefC
import Derived.Test.YtidhiaaicmfabaaGreatSpec2
import Derived.WalkKit
import Derived.WalkSpells
import Derived.WalkLawsBesides
import Derived.Deep.OwnRows
import Derived.BigQuiet
import Derived.Handy
import Derived.Deep.Light
import Derived.Deep.RegionHeld3
import Derived.Deep.RegionWith
import Derived.Test.YtidhiaaicmfabaaGreatJnA
import Derived.Test.YtidhiaaicmfabaaGreatVmN
import Derived.Test.YtidhiaaicmfabaaGreatJnE
import Derived.Test.YtidhiaaicmfabaaGreatRows
import Derived.ProofKit
import Derived.OpenShut
import Derived.JoinedCond
import Derived.SliceStrings
import Derived.Deep.Slices
import Derived.Deep.Strs
import Derived.ChangeBears2
import Derived.ChangeSlices
import Derived.Carry

/- The example at the head of the statement: heads (seats .Z, .ZD alone). -/
namespace Go.Proofs.YtidhiaaicmfabaaGreat
open Go.RowKit Go.Proofs Go.Deep

theorem simple_posZ : posF (codeOf simpleB) ((codeOf simpleB).size + 1) 0 = some [0, 2, 4] := by kernel_rfl
def zMd (cap bs bx : Nat) (To' : Nat → Int) (bd : Int) : Md := mdFull (opL (codeOf simpleB) [0, 2, 4]) (atL [0, 2, 4]) (argL (codeOf simpleB) [0, 2, 4]) (cntL (codeOf simpleB) [0, 2, 4]) (fun i => bt simpleB (7 + i) / 3) (fun i => bt simpleB (7 + i) % 3) (bt simpleB 6) [0, 2, 4].length cap bs bx To' bd
theorem z_fits (cap bs bx : Nat) (To' : Nat → Int) (bd : Int) : fitsL (zMd cap bs bx To' bd).rl (zMd cap bs bx To' bd).kd (zMd cap bs bx To' bd).nC 0 [7] = true := by kernel_rfl
theorem z_fits0 (cap bs bx : Nat) (To' : Nat → Int) (bd : Int) : fitsL (zMd cap bs bx To' bd).rl (zMd cap bs bx To' bd).kd (zMd cap bs bx To' bd).nC 0 [40000] = false := by kernel_rfl
theorem z_run (cap bs bx : Nat) (To' : Nat → Int) (bd : Int) (w : World) : (runM (zMd cap bs bx To' bd) w 0 (layL (zMd cap bs bx To' bd).rl (zMd cap bs bx To' bd).kd (zMd cap bs bx To' bd).nC 0 [7] (fun _ => 0))).2 = (3, 0) := by kernel_rfl
theorem z_runC (cap bs bx : Nat) (To' : Nat → Int) (bd : Int) (w : World) : (runM (zMd cap bs bx To' bd) w 0 (layL (zMd cap bs bx To' bd).rl (zMd cap bs bx To' bd).kd (zMd cap bs bx To' bd).nC 0 [7] (fun _ => 0))).1.C 1 = 7 := by kernel_rfl
theorem z_outs (cap bs bx : Nat) (To' : Nat → Int) (bd : Int) (C : Nat → Int) : outsL (zMd cap bs bx To' bd).rl C (zMd cap bs bx To' bd).nC = [C 1] := by kernel_rfl
theorem Twain.belowZ {b c base B : Nat} {w w' : World} (h : Twain b c base w w') (hb : B ≤ b) (hc : B ≤ c) (hB : B ≤ base) (hw : base = w.heap.size) : Below B w w' :=
  ⟨h.os, h.tape, h.output, by rw [← hw]; exact h.size, fun k hk => h.block k (by omega) (by omega) (by omega)⟩
theorem inp_one {w : World} {bc : Nat} (h : bc < w.heap.size) (x : Int) : InpAt bc (w.alloc (.cells #[.int .i64 x] 3)) (.slice (some ⟨w.heap.size, 0, none⟩) 1 1) [x] := by
  refine ⟨_, 1, rfl, by simp, .inl ⟨w.heap.size, 0, rfl, by omega, fun j y hy => ?_⟩⟩
  have : j = 0 := by cases j with
    | zero => rfl
    | succ j => simp at hy
  subst this
  simp at hy
  subst hy
  exact (cell_of_row _ _ 0 _ _ (0, 0) (heap_alloc_new w _)).trans rfl
set_option maxRecDepth 100000 in
set_option maxHeartbeats 1000000 in
theorem heads_any (w : World) (R : Ending → World → Prop) (fin : ∀ w', Below w.heap.size w w' → R (.returned (.bool true)) w') : Calls Tryz.prog 4 #[] w R := by
  replace fin := hd fin
  go_enter Tryz.func4, Tryz.ntmps4
  go_wp2_with (fail)
  refine loaded_any _ _ ?_
  intro w0 hb0
  have hs0 := hb0.size
  replace hb0 := hd hb0
  go_wp2_with (fail)
  refine load_full _ simpleB (by unfold maxLen; decide) _ ?_ ?_ ?_
  · intro h; exact absurd simple_ok (h 3)
  · intro bd h hl
    have := img_unique simple_ok h
    omega
  · intro bd l h hle hl cap bs bx bc To' H L w1 hb1 hbx hbs hbc hlive hkw
    have e := img_unique simple_ok h
    subst e
    rw [simple_posZ] at hl
    injection hl with hl
    subst hl
    replace hlive : Live (zMd cap bs bx To' 3) bc (fun _ => 0) 0 w1 := hlive
    replace hkw : ∀ w0 br bc base nm fv d, KW (mkK (zMd cap bs bx To' 3) w0 br bc base nm fv d) _ (zMd cap bs bx To' 3).bd H L := hkw
    have hbxl : bx < w1.heap.size := hlive.row.lt
    have hsz1 := hb1.size
    have hi1 := inp_one hlive.cel.lt 7
    have hlive2 := hlive.below ((Below.refl _ _).alloc (Nat.le_refl _) (.cells #[.int .i64 7] 3))
    have hbA := hd (hb0.out.trans (hb1.mono hs0))
    replace hb1 := hd hb1
    replace hkw := hd hkw
    replace hi1 := hd hi1
    replace hlive2 := hd hlive2
    clear hlive h
    go_wp2_with (fail)
    refine scan_any _ (zMd cap bs bx To' 3) bc (fun _ => 0) 0 hlive2.out _ [7] 0 hi1.out hkw.out (by show (3 : Int) ≤ 200000; omega) _ ?_ ?_ ?_
    · intro hbad
      rcases hbad with hbad | hbad | hbad
      · rw [z_fits] at hbad; cases hbad
      · omega
      · omega
    · intro _ _ w2 q' dn hr hl2 ht _ _
      have hr2 := z_run cap bs bx To' 3 (w1.alloc (.cells #[.int .i64 7] 3))
      rw [hr] at hr2
      have hrc := z_runC cap bs bx To' 3 (w1.alloc (.cells #[.int .i64 7] 3))
      rw [hr] at hrc
      simp only [Prod.mk.injEq] at hr2
      obtain ⟨rfl, _⟩ := hr2
      have hbw2 : Below w.heap.size w w2 := (hbA.out.alloc (by omega) _).trans (ht.belowZ (Nat.le_trans hs0 hbx) (Nat.le_trans hs0 hbc) (by simp; omega) rfl)
      have c0 := hl2.row.cell (i := 0) (by omega)
      replace hbw2 := hd hbw2
      have hlen := hl2.cel
      have hC2 := hl2.hC
      replace hl2 := hd hl2
      clear ht hr
      go_wp2_with (fail)
      refine outputs_any _ bx bc _ _ (zMd cap bs bx To' 3).rl (zMd cap bs bx To' 3).kd q'.C hl2.out.nC hC2 c0 hlen _ ?_
      intro v w3 hb3 hown
      rw [z_outs] at hown
      obtain ⟨g, cp, rfl, hcp, _, _, _, hg⟩ := own_one hown (by simp)
      have hg0 := hg 0 (by simp)
      rw [show (i64L [q'.C 1])[0]? = some (.int .i64 (q'.C 1)) from rfl, hrc] at hg0
      have hbw3 := hd (hbw2.out.trans (hb3.mono (by have := hbw2.out.size; omega)))
      have hl3 := hl2.out.below hb3
      have hl3a := hd (hl3.below ((Below.refl _ _).alloc (Nat.le_refl _) (.cells #[.int .i64 40000] 3)))
      have hi3 := hd (inp_one hl3.cel.lt 40000)
      have hs3 := hbw3.out.size
      have lg0 := World.block_lt_of_cell? w3 _ hg0
      clear hown hg hb3 hlen hl3 c0
      go_wp2_with (fail)
      refine scan_any _ (zMd cap bs bx To' 3) bc q'.C 3 hl3a.out _ [40000] 0 hi3.out hkw.out (by show (3 : Int) ≤ 200000; omega) _ ?_ ?_ ?_
      · intro _ w4 hb4
        have hbw4 := hd ((hbw3.out.alloc hs3 _).trans (hb4.mono (by simp; omega)))
        have c3 := (hb4.cell (p := ⟨bx, 3, none⟩) hl3a.out.row.lt).trans (hl3a.out.row.cell (i := 3) (by omega))
        replace c3 : w4.cell? ⟨bx, 3, none⟩ = some (.int .i64 3) := c3
        replace hg0 := (hb4.cell (p := ⟨g, 0, none⟩) (by show g < _; simp; omega)).trans (cell_al hg0 _)
        clear hb4
        go_wp2_with (first | (go_at_call 13; refine steps_any _ _ 3 c3 _ ?_))
        exact cl1 (fin.out _ hbw4.out) (by first | rfl | simp)
      · intro hf; rw [z_fits0] at hf; cases hf
      · intro hf; rw [z_fits0] at hf; cases hf
    · intro _ _ w2 q' dn e cv hr he
      have hr2 := z_run cap bs bx To' 3 (w1.alloc (.cells #[.int .i64 7] 3))
      rw [hr] at hr2
      simp only [Prod.mk.injEq] at hr2
      exact absurd hr2.2 he

end Go.Proofs.YtidhiaaicmfabaaGreat

/- Pairs that are just loaded (seats .Z, .ZD alone). -/
namespace Go.Proofs.YtidhiaaicmfabaaGreat
open Go.RowKit Go.Proofs Go.Deep

/-- A list of texts, as a slice. -/
def StrAt (w : World) (v : Value) (ss : List ByteArray) : Prop :=
  ∃ ao cap, v = .slice ao ss.length cap ∧ ss.length ≤ cap ∧ (ss = [] ∨ ∃ g o, ao = some ⟨g, o, none⟩ ∧ ∀ (j : Nat) (s : ByteArray), ss[j]? = some s → w.cell? ⟨g, o + j, none⟩ = some (.string s))
/-- A list of rounds. -/
structure Rd where
  v : Value
  l : List Int
  d : Int
  fit : Bool
def RndAt (w : World) (v : Value) (rs : List Rd) : Prop :=
  ∃ ao cap, v = .slice ao rs.length cap ∧ rs.length ≤ cap ∧ (∀ r ∈ rs, InpAt w.heap.size w r.v r.l ∧ r.l.length ≤ 1000000000 ∧ -9223372036854775808 ≤ r.d ∧ r.d ≤ 9223372036854775807) ∧
    (rs = [] ∨ ∃ g o, ao = some ⟨g, o, none⟩ ∧ ∀ (j : Nat) (r : Rd), rs[j]? = some r → w.cell? ⟨g, o + j * 3, none⟩ = some r.v ∧ w.cell? ⟨g, o + j * 3 + 1, none⟩ = some (.int .i64 r.d) ∧ w.cell? ⟨g, o + j * 3 + 2, none⟩ = some (.bool r.fit))
/-- A pair that is just loaded. -/
structure Pz0 (q : Pz) (w : World) : Prop where
  ok : PzOk q w.heap.size
  blk : Blk w q.bp #[.pointer (some ⟨q.M.bx, 0, none⟩), .pointer (some ⟨q.X.bm, 0, none⟩)] 40
  st : ∃ ov, OutAt (fun g => (q.lo ≤ g ∧ g < q.hi) ∧ g ≠ q.X.bc) w ov (outsL q.M.rl (fun _ => 0) q.M.nC).reverse ∧ Live q.M q.bc (fun _ => 0) 0 w ∧ DSt q.X 0 (fun _ => 0) ov 0 w
theorem PzOk.mono {q : Pz} {B B' : Nat} (h : PzOk q B) (hb : B ≤ B') : PzOk q B' := ⟨h.hX, h.hM, h.kw, h.bd, h.r1, h.r2, h.r3, h.r4, Nat.le_trans h.hi hb, ⟨h.rp.1, Nat.lt_of_lt_of_le h.rp.2 hb⟩⟩
theorem Pz0.below {q : Pz} {w w' : World} (h : Pz0 q w) (hb : Below w.heap.size w w') : Pz0 q w' := by
  obtain ⟨ov, hO, hl, hd⟩ := h.st
  exact ⟨h.ok.mono hb.size, h.blk.of_block (hb.block _ h.blk.lt), ov, hO.keep (fun g cur hp e => ⟨hb.block g (Array.getElem?_eq_some_iff.1 e).1, hp⟩), hl.below hb, hd.below hb⟩
theorem Pz0.at_ {q : Pz} {w : World} (h : Pz0 q w) : PzAt q w.heap.size w := by
  obtain ⟨ov, hO, hl, hd⟩ := h.st
  exact ⟨h.blk, Nat.le_refl _, _, _, 0, ov, hO.keep (fun g cur hp e => ⟨rfl, .inl hp.1, hp.2, trivial⟩), .inl ⟨rfl, hl, hd⟩⟩
def ptrV (qs : List Pz) : List Value := qs.map (fun q => Value.pointer (some ⟨q.bp, 0, none⟩))
theorem ulPair : Tryz.prog.underlying 29 = some (.slice 38) := by kernel_rfl
theorem infoPair : (Tryz.prog.info? 38).map (fun i => (i.zero, i.size, i.bytes)) = some (some (.pointer none), 1, 8) := by kernel_rfl
theorem pz0_mk {w1 w2 w3 w4 : World} {M : Md} {X : Dx} {bc : Nat} {To : Nat → Nat} {H L : Nat → Int} (hX : DxOk X) (hM : X.M = M) (hkw : ∀ w0 br bc base nm fv d, KW (mkK M w0 br bc base nm fv d) To M.bd H L) (hle : M.bd ≤ 200000)
    (hb1 : Below w1.heap.size w1 w2) (hbx : w1.heap.size ≤ M.bx) (hbc : w1.heap.size ≤ bc) (hlive : Live M bc (fun _ => 0) 0 w2) {ov : Value} (hb2 : Below w2.heap.size w2 w3) (hbm : w2.heap.size ≤ X.bm) (hbc' : w2.heap.size ≤ X.bc)
    (hd : DSt X 0 (fun _ => 0) ov 0 w3) (hown : w3.ownsRow (X.bm + 1) 3 1 ov (outsL M.rl (fun _ => 0) M.nC).length (i64L (outsL M.rl (fun _ => 0) M.nC))) (hcm : X.bc < X.bm)
    (hb3 : Below w3.heap.size w3 w4) (hblk : Blk w4 w3.heap.size #[.pointer (some ⟨M.bx, 0, none⟩), .pointer (some ⟨X.bm, 0, none⟩)] 40) :
    Pz0 ⟨w3.heap.size, M, bc, X, w1.heap.size, w3.heap.size, To, H, L⟩ w4 := by
  have hs2 := hb1.size
  have hs3 := hb2.size
  have lx := hlive.row.lt
  have lc := hlive.cel.lt
  obtain ⟨_, _, _, hdr⟩ := hd.row
  have lm := hdr.lt
  have lc' := hd.cel.lt
  have lw4 := hblk.lt
  refine ⟨⟨hX, hM, hkw, hle, ⟨hbx, show M.bx < w3.heap.size by omega⟩, ⟨hbc, show bc < w3.heap.size by omega⟩, ⟨show w1.heap.size ≤ X.bm by omega, lm⟩, ⟨show w1.heap.size ≤ X.bc by omega, lc'⟩, hb3.size, ⟨Nat.le_refl _, lw4⟩⟩, hblk, ov, ?_, (hlive.below hb2).below hb3, hd.below hb3⟩
  rw [i64L_intV, ← List.length_reverse] at hown
  exact (OutAt.of_own (Pg := fun g => (w1.heap.size ≤ g ∧ g < w3.heap.size) ∧ g ≠ X.bc) hown (fun g h1 h2 => ⟨⟨by omega, h2⟩, by omega⟩)).keep (fun g cur hp e => ⟨hb3.block g (Array.getElem?_eq_some_iff.1 e).1, hp⟩)
theorem md_outs {OP AT : Nat → Nat} {AR CN : Nat → Int} {RL KD : Nat → Nat} {nC n cap bs bx : Nat} {To' : Nat → Int} {bd : Int} {C : Nat → Int} : outsL (mdFull OP AT AR CN RL KD nC n cap bs bx To' bd).rl C (mdFull OP AT AR CN RL KD nC n cap bs bx To' bd).nC = outsL RL C nC := rfl

end Go.Proofs.YtidhiaaicmfabaaGreat

/- Scans: every answer is the document's (seats .Z, .ZD alone). -/
namespace Go.Proofs.YtidhiaaicmfabaaGreat
open Go.RowKit Go.Proofs Go.Deep

theorem ptr_one (b : Nat) : ∀ u ∈ [Value.pointer (some ⟨b, 0, none⟩)], u.oneCell' = true := by
  intro u hu; simp only [List.mem_cons, List.not_mem_nil, or_false] at hu; subst hu; rfl
theorem Pz0.keepP {q : Pz} {w w' : World} (h : Pz0 q w) (hs : w.heap.size ≤ w'.heap.size) (hk : ∀ (k : Nat) (cur : Array Value) (T : TypeId), w.heap[k]? = some (.cells cur T (0, 0)) → T ≠ 38 → w'.heap[k]? = w.heap[k]?) : Pz0 q w' := by
  obtain ⟨ov, hO, hl, hd⟩ := h.st
  obtain ⟨c1, e1, _⟩ := id hl.row
  obtain ⟨c2, e2, _⟩ := id hl.cel
  obtain ⟨c3, e3, _⟩ := id hl.steps
  obtain ⟨dl, sv, rv, hr⟩ := hd.row
  obtain ⟨c4, e4, _⟩ := id hr
  obtain ⟨c5, e5, _⟩ := id hd.cel
  obtain ⟨c6, e6, _⟩ := id hd.tab
  have hb := hd.blk
  refine ⟨h.ok.mono hs, h.blk.of_block (hk _ _ _ h.blk (by decide)), ov, hO.keep (fun g cur hp e => ⟨hk g cur _ e (by decide), hp⟩), ⟨hl.row.of_block (hk _ _ _ e1 (by decide)), hl.cel.of_block (hk _ _ _ e2 (by decide)), hl.steps.of_block (hk _ _ _ e3 (by decide)), hl.hC, hl.n, hl.nC⟩,
    ⟨dl, sv, rv, hr.of_block (hk _ _ _ e4 (by decide))⟩, hd.cel.of_block (hk _ _ _ e5 (by decide)), hd.blk.of_block (hk _ _ _ hb (by decide)), hd.tab.of_block (hk _ _ _ e6 (by decide)), fun h0 => ?_, hd.hC⟩
  obtain ⟨bk, e7, ht⟩ := hd.kinds h0
  obtain ⟨c8, e8, _⟩ := id ht
  exact ⟨bk, e7, ht.of_block (hk _ _ _ e8 (by decide))⟩
set_option maxRecDepth 100000 in
set_option maxHeartbeats 4000000 in
theorem scans_any (w : World) (iv rv : Value) (ss : List ByteArray) (rs : List Rd) (hss : StrAt w iv ss) (hsl : ∀ s ∈ ss, s.size ≤ maxLen) (hrs : RndAt w rv rs) (hsn : ss.length ≤ 1000000000) (hrn : rs.length ≤ 1000000000) (R : Ending → World → Prop)
    (fin : ∀ w', Below w.heap.size w w' → R (.returned (.bool true)) w') : Calls Tryz.prog 3 #[iv, rv] w R := by
  obtain ⟨sa, scap, rfl, hsc, hscs⟩ := hss
  obtain ⟨ra, rcap, hrv, hrc, hrall, hrcs⟩ := hrs
  subst hrv
  have hstr : 0 < ss.length → ∃ g o, sa = some ⟨g, o, none⟩ ∧ ∀ (j : Nat) (s : ByteArray), ss[j]? = some s → w.cell? ⟨g, o + j, none⟩ = some (.string s) := fun h0 => by
    rcases hscs with e | h
    · rw [e] at h0; simp at h0
    · exact h
  replace fin := hd fin
  replace hstr := hd hstr
  replace hsl := hd hsl
  replace hrall := hd hrall
  replace hrcs := hd hrcs
  clear hscs
  go_enter Tryz.func3, Tryz.ntmps3
  go_wp2_with (fail)
  refine heads_any _ _ ?_
  intro w0 hb0
  have hs0 := hb0.size
  replace hb0 := hd hb0
  go_wp2
  go_loopw [7, 8] (fun ps i wr => ∃ (k : Nat) (qs : List Pz), k ≤ ss.length ∧ i = .int .i64 k ∧ wr.ownsRow (w0.heap.size + 1) 38 1 ps qs.length (ptrV qs) ∧ Below w.heap.size w wr ∧ w0.heap.size + 1 ≤ wr.heap.size ∧
      wr.heap[w0.heap.size]? = some (.cells #[.int .i64 0, .slice none 0 0] 28 (0, 0)) ∧ qs.length ≤ k ∧ (∀ q ∈ qs, Pz0 q wr ∧ w0.heap.size + 1 ≤ q.lo) ∧ qs.Pairwise (fun a b => a.hi ≤ b.lo)) (fun _ i _ => ss.length - (intOf i).toNat)
  case atStart => exact ⟨0, [], by omega, rfl, World.ownsRow_nil _ _ _ _, hb0.out.alloc hs0 _, by simp, heap_alloc_new _ _, by simp, fun q hq => by (cases hq), List.Pairwise.nil⟩
  case round =>
    rename_i u7 u8
    obtain ⟨k, qs, hk, rfl, hown, hbel, hsz, hwb, hqk, hqs, hpw⟩ := hrel
    obtain ⟨pa, pc, rfl⟩ := own_sl hown
    replace hqs := hd hqs
    replace hpw := hd hpw
    replace hwb := hd hwb
    replace hown := hd hown
    have hszw := hbel.size
    by_cases hlt : k < ss.length
    · obtain ⟨s, hs⟩ : ∃ s, ss[k]? = some s := ⟨_, List.getElem?_eq_getElem hlt⟩
      obtain ⟨g, o, rfl, hgc⟩ := hstr.out (by omega)
      have gw := hgc k s hs
      have lgw := World.block_lt_of_cell? _ _ gw
      have gc : wr.cell? ⟨g, o + k, none⟩ = some (.string s) := (hbel.cell (p := ⟨g, o + k, none⟩) lgw).trans gw
      have hsm := hsl.out s (List.mem_of_getElem? hs)
      have j0 : (0 : Int) ≤ (k : Int) ∧ (k : Int) < (ss.length : Int) := by omega
      have lg := World.block_lt_of_cell? _ _ gc
      replace hbel := hd hbel
      clear hgc gw
      have keep : ∀ w3, Below wr.heap.size wr w3 → ((∃ (k' : Nat) (qs : List Pz), k' ≤ ss.length ∧ Value.int .i64 ((k : Int) + 1) = .int .i64 k' ∧ w3.ownsRow (w0.heap.size + 1) 38 1 (.slice pa qs.length pc) qs.length (ptrV qs) ∧ Below w.heap.size w w3 ∧ w0.heap.size + 1 ≤ w3.heap.size ∧
          w3.heap[w0.heap.size]? = some (.cells #[.int .i64 0, .slice none 0 0] 28 (0, 0)) ∧ qs.length ≤ k' ∧ (∀ q ∈ qs, Pz0 q w3 ∧ w0.heap.size + 1 ≤ q.lo) ∧ qs.Pairwise (fun a b => a.hi ≤ b.lo)) → True) := fun _ _ _ => trivial
      clear keep
      go_wp2_with (fail)
      refine load_full _ s hsm _ ?_ ?_ ?_
      · intro hno w2 hb2
        have gc2 := (hb2.cell (p := ⟨g, o + k, none⟩) lg).trans gc
        have lg2 := World.block_lt_of_cell? _ _ gc2
        replace hno := hd hno
        have hs2 := hb2.size
        replace hb2 := hd hb2
        go_wp2_with (fail)
        refine rload_any _ s hsm _ ?_ ?_ ?_
        · intro _ w3 hb3
          have hbA := hd (hb2.out.trans (hb3.mono hs2))
          clear hb3
          go_wp2_with (first | (go_at_call 7; refine num_call _ _ _ ?_))
          exact ⟨⟨k + 1, qs, by omega, by go_num, own_below hown.out hbA.out, hbel.out.trans (hbA.out.mono hszw), by have := hbA.out.size; omega, (hbA.out.block _ (by omega)).trans hwb.out, by omega, fun q hq => ⟨(hqs.out q hq).1.below hbA.out, (hqs.out q hq).2⟩, hpw.out⟩, by simp [intOf]; omega⟩
        · intro bd h; exact absurd h (hno.out bd)
        · intro bd l h; exact absurd h (hno.out bd)
      · intro bd hi hlong w2 hb2
        have gc2 := (hb2.cell (p := ⟨g, o + k, none⟩) lg).trans gc
        have lg2 := World.block_lt_of_cell? _ _ gc2
        replace hi := hd hi
        have hs2 := hb2.size
        replace hb2 := hd hb2
        go_wp2_with (fail)
        refine rload_any _ s hsm _ ?_ ?_ ?_
        · intro h; exact absurd hi.out (h bd)
        · intro _ _ _ w3 hb3
          have hbA := hd (hb2.out.trans (hb3.mono hs2))
          clear hb3
          go_wp2_with (first | (go_at_call 7; refine num_call _ _ _ ?_))
          exact ⟨⟨k + 1, qs, by omega, by go_num, own_below hown.out hbA.out, hbel.out.trans (hbA.out.mono hszw), by have := hbA.out.size; omega, (hbA.out.block _ (by omega)).trans hwb.out, by omega, fun q hq => ⟨(hqs.out q hq).1.below hbA.out, (hqs.out q hq).2⟩, hpw.out⟩, by simp [intOf]; omega⟩
        · intro bd' l h' hle
          have := img_unique hi.out h'
          omega
      · intro bd l hi hle hl cap bs bx bc To' H L w2 hb2 hbx hbs hbc hlive hkw
        have gc2 := (hb2.cell (p := ⟨g, o + k, none⟩) lg).trans gc
        have lg2 := World.block_lt_of_cell? _ _ gc2
        replace hi := hd hi
        replace hl := hd hl
        have hs2 := hb2.size
        replace hb2 := hd hb2
        replace hlive := hd hlive
        replace hkw := hd hkw
        go_wp2_with (fail)
        refine rload_any _ s hsm _ ?_ ?_ ?_
        · intro h; exact absurd hi.out (h bd)
        · intro bd' h' hlong
          have := img_unique hi.out h'
          omega
        · intro bd' l' h' _ hl' w3 ov bm bx' b capD bc' acc capc To hb3 hbm hbc' hto hdst hown3 hcm
          have eb := img_unique hi.out h'
          have el : l' = l := Option.some.inj (hl'.symm.trans hl.out)
          subst eb
          subst el
          have hs3 := hb3.size
          have hX := hd (dx_ok w hi.out hl.out hkw.out hto (bm := bm) (bx := bx') (b := b) (cap := capD) (bc := bc') (acc := acc) (capc := capc) (inn := inOf (opL (codeOf s) l')))
          have hdst2 := hd (hdst cap bs bx To')
          clear hdst
          have hown5 : w3.ownsRow (bm + 1) 3 1 ov (outsL (mdFull (opL (codeOf s) l') (atL l') (argL (codeOf s) l') (cntL (codeOf s) l') (fun i => bt s (7 + i) / 3) (fun i => bt s (7 + i) % 3) (bt s 6) l'.length cap bs bx To' bd).rl (fun _ => 0) (mdFull (opL (codeOf s) l') (atL l') (argL (codeOf s) l') (cntL (codeOf s) l') (fun i => bt s (7 + i) / 3) (fun i => bt s (7 + i) % 3) (bt s 6) l'.length cap bs bx To' bd).nC).length (i64L (outsL (mdFull (opL (codeOf s) l') (atL l') (argL (codeOf s) l') (cntL (codeOf s) l') (fun i => bt s (7 + i) / 3) (fun i => bt s (7 + i) % 3) (bt s 6) l'.length cap bs bx To' bd).rl (fun _ => 0) (mdFull (opL (codeOf s) l') (atL l') (argL (codeOf s) l') (cntL (codeOf s) l') (fun i => bt s (7 + i) / 3) (fun i => bt s (7 + i) % 3) (bt s 6) l'.length cap bs bx To' bd).nC)) := by rw [md_outs]; exact hown3
          have hMbx : (mdFull (opL (codeOf s) l') (atL l') (argL (codeOf s) l') (cntL (codeOf s) l') (fun i => bt s (7 + i) / 3) (fun i => bt s (7 + i) % 3) (bt s 6) l'.length cap bs bx To' bd).bx = bx := rfl
          have hMbd : (mdFull (opL (codeOf s) l') (atL l') (argL (codeOf s) l') (cntL (codeOf s) l') (fun i => bt s (7 + i) / 3) (fun i => bt s (7 + i) % 3) (bt s 6) l'.length cap bs bx To' bd).bd = bd := rfl
          have hkw2 := hkw.out
          have hlive2 := hlive.out
          clear hi hl hl' hto h' hkw hlive hown3
          generalize hM : mdFull (opL (codeOf s) l') (atL l') (argL (codeOf s) l') (cntL (codeOf s) l') (fun i => bt s (7 + i) / 3) (fun i => bt s (7 + i) % 3) (bt s 6) l'.length cap bs bx To' bd = M at *
          have hXbm : (⟨bm, bx', b, capD, bc', acc, capc, cL (codeOf s) l', nL (codeOf s) l', To, inOf (opL (codeOf s) l'), M⟩ : Dx).bm = bm := rfl
          have hXbc : (⟨bm, bx', b, capD, bc', acc, capc, cL (codeOf s) l', nL (codeOf s) l', To, inOf (opL (codeOf s) l'), M⟩ : Dx).bc = bc' := rfl
          have hXM : (⟨bm, bx', b, capD, bc', acc, capc, cL (codeOf s) l', nL (codeOf s) l', To, inOf (opL (codeOf s) l'), M⟩ : Dx).M = M := rfl
          generalize (⟨bm, bx', b, capD, bc', acc, capc, cL (codeOf s) l', nL (codeOf s) l', To, inOf (opL (codeOf s) l'), M⟩ : Dx) = X at *
          subst hXbm hXbc hMbx hMbd
          generalize toL (atL l') (opL (codeOf s) l') (nL (codeOf s) l') l'.length = ToZ at hkw2
          have hbA := hd (hb2.out.trans (hb3.mono hs2))
          have hbP := ((Below.refl w3.heap.size w3).alloc (Nat.le_refl _) (Obj.cells #[.pointer (some ⟨M.bx, 0, none⟩), .pointer (some ⟨X.bm, 0, none⟩)] 40)).alloc (by simp) (Obj.cells #[.pointer (some ⟨w3.heap.size, 0, none⟩)] 38)
          have hblkP : Blk ((w3.alloc (Obj.cells #[.pointer (some ⟨M.bx, 0, none⟩), .pointer (some ⟨X.bm, 0, none⟩)] 40)).alloc (Obj.cells #[.pointer (some ⟨w3.heap.size, 0, none⟩)] 38)) w3.heap.size #[.pointer (some ⟨M.bx, 0, none⟩), .pointer (some ⟨X.bm, 0, none⟩)] 40 := Blk.alloc (heap_alloc_new w3 _) _
          have hpz := hd (pz0_mk hX.out hXM hkw2 hle hb2.out hbx hbc hlive2 hb3 hbm hbc' hdst2.out hown5 hcm hbP hblkP)
          have hownA := hd (own_below hown.out hbA.out)
          have hs3w : wr.heap.size ≤ w3.heap.size := hbA.out.size
          replace hb3 := hd hb3
          replace hbP := hd hbP
          clear hX hdst2 hown5 hkw2 hlive2 hblkP hXM hM
          go_wp2_with (first | (go_at_call 7; refine num_call _ _ _ ?_) | (at_builtin; refine wpList_app _ rfl _ _ 29 rfl (w0.heap.size + 1) 38 _ 1 8 ulPair infoPair rfl (by decide) _ qs.length (ptrV qs) rfl (by exact (hownA.out.alloc _).alloc _) _ 1 1 [.pointer (some ⟨w3.heap.size, 0, none⟩)] rfl (by exact alloc_at (by simp)) rfl (ptr_one _) (by unfold maxLen; omega) (by omega) (by simp; omega) ?_; intro v4 w4 hown4 hgr4; obtain ⟨ao4, cp4, rfl⟩ := own_sl hown4; replace hown4 := hd hown4; replace hgr4 := hd hgr4))
          generalize hW3 : (w3.alloc (Obj.cells #[.pointer (some ⟨M.bx, 0, none⟩), .pointer (some ⟨X.bm, 0, none⟩)] 40)).alloc (Obj.cells #[.pointer (some ⟨w3.heap.size, 0, none⟩)] 38) = W3 at *
          have hsP := hbP.out.size
          have hs4 := hgr4.out.size
          have hownP : W3.ownsRow (w0.heap.size + 1) 38 1 (.slice pa qs.length pc) qs.length (ptrV qs) := own_below hownA.out hbP.out
          have hkP : ∀ (k : Nat) (cur : Array Value) (T : TypeId), W3.heap[k]? = some (.cells cur T (0, 0)) → T ≠ 38 → w4.heap[k]? = W3.heap[k]? := fun k' cur T ek hT => hgr4.out.block k' (Array.getElem?_eq_some_iff.1 ek).1 (fun ee => by
            obtain ⟨c9, e9⟩ := own_type hownP ee.symm
            rw [ek] at e9
            injection e9 with e9
            injection e9 with _ e3
            exact hT e3)
          have hbW : Below wr.heap.size wr W3 := hbA.out.trans (hbP.out.mono hs3w)
          refine ⟨⟨k + 1, qs ++ [⟨w3.heap.size, M, bc, X, wr.heap.size, w3.heap.size, ToZ, H, L⟩], by omega, by go_num, ?_, ?_, by omega, ?_, by simp; omega, ?_, ?_⟩, by simp [intOf]; omega⟩
          · have := hown4.out
            rw [List.length_append]
            simpa [ptrV] using this
          · exact (hbel.out.trans (hbW.mono hszw)).grown hgr4.out (by omega) (fun k' hk' => by have := (hownP.lt k' hk').1; omega)
          · have e1 := (hbW.block _ (by omega)).trans hwb.out
            exact (hkP _ _ _ e1 (by decide)).trans e1
          · intro q hq
            rcases List.mem_append.1 hq with hq | hq
            · exact ⟨((hqs.out q hq).1.below hbW).keepP hs4 hkP, (hqs.out q hq).2⟩
            · simp only [List.mem_singleton] at hq
              subst hq
              exact ⟨hpz.out.keepP hs4 hkP, hsz⟩
          · rw [List.pairwise_append]
            refine ⟨hpw.out, List.pairwise_singleton _ _, fun a ha b' hb' => ?_⟩
            simp only [List.mem_singleton] at hb'
            subst hb'
            exact (hqs.out a ha).1.ok.hi
    · rename World => wb
      have lbw : w0.heap.size < wb.heap.size := by omega
      have hWa0 : Wa wb.heap.size w0.heap.size 0 (.slice none 0 0) [] wb := by
        refine ⟨lbw, Nat.le_refl _, ⟨_, hwb.out, rfl, fun j hj => ?_⟩, World.ownsRow_nil _ _ _ _, fun p hp => by (cases hp)⟩
        have : j = 0 ∨ j = 1 := by omega
        rcases this with rfl | rfl <;> rfl
      have hok : ∀ q ∈ qs, PzOk q wb.heap.size := fun q hq => (hqs.out q hq).1.ok
      have hat0 : ∀ q ∈ qs, PzAt q wb.heap.size wb := fun q hq => (hqs.out q hq).1.at_
      have hlo : ∀ q ∈ qs, w0.heap.size + 1 ≤ q.lo := fun q hq => (hqs.out q hq).2
      have hpsc : 0 < qs.length → ∃ gp, pa = some ⟨gp, 0, none⟩ ∧ qs.length ≤ pc ∧ (∃ cur, wb.heap[gp]? = some (.cells cur 38 (0, 0))) ∧ ∀ (j : Nat) (q : Pz), qs[j]? = some q → wb.cell? ⟨gp, j, none⟩ = some (.pointer (some ⟨q.bp, 0, none⟩)) := fun h0 => by
        obtain ⟨gp, cq, e, e1, e2, e3, _, e5⟩ := own_one hown.out h0
        have ety := own_type hown.out (k := gp) (by rw [e]; rfl)
        injection e with e _ e'
        subst e e'
        refine ⟨gp, rfl, e1, ety, fun j q hj => ?_⟩
        rw [e5 j (List.getElem?_eq_some_iff.1 hj).1]; simp [ptrV, hj]
      have hrcell : 0 < rs.length → ∃ g o, ra = some ⟨g, o, none⟩ ∧ ∀ (j : Nat) (r : Rd), rs[j]? = some r → w.cell? ⟨g, o + j * 3, none⟩ = some r.v ∧ w.cell? ⟨g, o + j * 3 + 1, none⟩ = some (.int .i64 r.d) ∧ w.cell? ⟨g, o + j * 3 + 2, none⟩ = some (.bool r.fit) := fun h0 => by
        rcases hrcs.out with e | h
        · rw [e] at h0; simp at h0
        · exact h
      replace hWa0 := hd hWa0
      replace hok := hd hok
      replace hat0 := hd hat0
      replace hlo := hd hlo
      replace hpsc := hd hpsc
      replace hrcell := hd hrcell
      replace hbel := hd hbel
      clear hqs hwb hrcs hstr hsl hown
      go_wp2
      go_loopw [13] (fun i wr => ∃ (t : Nat) (n : Int) (kv : Value) (ks : List (Int × Value)), t ≤ rs.length ∧ i = .int .i64 t ∧ Wa wb.heap.size w0.heap.size n kv ks wr ∧ 0 ≤ n ∧ n ≤ 2 * t ∧ ks.length ≤ 5 * t ∧ (∀ q ∈ qs, PzAt q wb.heap.size wr) ∧ Below w.heap.size w wr ∧
          (∀ (k : Nat) (cur : Array Value), wb.heap[k]? = some (.cells cur 38 (0, 0)) → wr.heap[k]? = wb.heap[k]?)) (fun i _ => rs.length - (intOf i).toNat)
      case atStart => exact ⟨0, 0, _, [], by omega, rfl, hWa0.out, by omega, by omega, by simp, hat0.out, hbel.out, fun _ _ _ => rfl⟩
      case round =>
        obtain ⟨t, n, kv, ks, ht, rfl, hWa, hn0, hn1, hkl, hat, hbw, hps⟩ := hrel
        replace hWa := hd hWa
        replace hat := hd hat
        replace hbw := hd hbw
        replace hps := hd hps
        by_cases htl : t < rs.length
        · have td : decide ((t : Int) < (rs.length : Int)) = true := by simp; omega
          by_cases hq0 : 0 < qs.length
          · have tq : decide ((0 : Int) < (qs.length : Int)) = true := decide_eq_true (by omega)
            have hq0' : ((qs.length : Int) == 0) = false := beq_eq_false_iff_ne.2 (by omega)
            have hrem : (t : Int).tmod (qs.length : Int) = ((t % qs.length : Nat) : Int) := by rw [Int.tmod_eq_emod_of_nonneg (by omega)]; rfl
            have hpl : t % qs.length < qs.length := Nat.mod_lt _ hq0
            obtain ⟨r, hr⟩ : ∃ r, rs[t]? = some r := ⟨_, List.getElem?_eq_getElem htl⟩
            obtain ⟨q, hq⟩ : ∃ q, qs[t % qs.length]? = some q := ⟨_, List.getElem?_eq_getElem hpl⟩
            obtain ⟨gp, rfl, hpc, ⟨cur, ety⟩, hpcell⟩ := hpsc.out hq0
            obtain ⟨g, o, rfl, hrx⟩ := hrcell.out (by omega)
            obtain ⟨r0, r1, r2⟩ := hrx t r hr
            have lr := World.block_lt_of_cell? _ _ r0
            have m0 := (hbw.out.cell (p := ⟨g, o + t * 3, none⟩) lr).trans r0
            have m1 := (hbw.out.cell (p := ⟨g, o + t * 3 + 1, none⟩) lr).trans r1
            have m2 := (hbw.out.cell (p := ⟨g, o + t * 3 + 2, none⟩) lr).trans r2
            have lm := World.block_lt_of_cell? _ _ m0
            have pcell := (World.cell?_of_block (a := ⟨gp, t % qs.length, none⟩) (hps.out gp cur ety)).trans (hpcell _ q hq)
            have lp := World.block_lt_of_cell? _ _ pcell
            have hqm := List.mem_of_getElem? hq
            have hrm := List.mem_of_getElem? hr
            obtain ⟨ri, rl, rd⟩ := hrall.out r hrm
            have hvv := hd (fun nb (h : w.heap.size ≤ nb) => (ri.fresh h).below hbw.out)
            have hlq := hlo.out q hqm
            have j0 : (0 : Int) ≤ (t : Int) ∧ (t : Int) < (rs.length : Int) := by omega
            have j1 : (0 : Int) ≤ ((t % qs.length : Nat) : Int) ∧ ((t % qs.length : Nat) : Int) < (qs.length : Int) := ⟨Int.natCast_nonneg _, Int.ofNat_lt.2 hpl⟩
            have hWaD := hd (hWa.out.below (w' := wr.drew) (Below.refl _ _).drew)
            have hatD := hd ((hat.out q hqm).keepZ (w' := wr.drew) (hok.out q hqm) (Nat.le_refl _) (KeepZ.below (Below.refl _ _).drew))
            have hvvD := hd (fun nb (h : w.heap.size ≤ nb) => (hvv.out nb h).below (w' := wr.drew) (Below.refl _ _).drew)
            clear hrx r0 r1 r2 hpcell ri
            have hqn : ¬ (qs.length : Int) = 0 := by omega
            have hplq := hd hpl
            generalize hpi : t % qs.length = pi at *
            have hnq : ∃ nq, qs.length = nq := ⟨_, rfl⟩
            obtain ⟨nq, hnq⟩ := hnq
            rw [hnq] at hq0 hq0' tq hrem hpl hpc j1 hqn
            replace hnq := hd hnq
            rw [hnq.out]
            have hqz : ¬ nq = 0 := by omega
            have hqz2 : (nq == 0) = false := by simpa using hqz
            have etyr := (hps.out gp cur ety).trans ety
            have hlist : ((38 : Nat) = 58 ∨ (38 : Nat) = 79 ∨ (38 : Nat) = 67 ∨ (38 : Nat) = 3) → ¬ (q.lo ≤ gp ∧ gp < q.hi) := fun hT => by rcases hT with h | h | h | h <;> exact absurd h (by decide)
            have hn2 : 0 ≤ n ∧ n ≤ 10000000000000 := ⟨hn0, by omega⟩
            have hk2 : ks.length ≤ 100000000000 := by omega
            have hnb : ¬ (q.lo ≤ w0.heap.size ∧ w0.heap.size < q.hi) := by omega
            have hl2 : w.heap.size ≤ q.lo := by omega
            have hrl : r.l.length ≤ 10000000000 := by omega
            replace hn2 := hd hn2
            replace hk2 := hd hk2
            replace hnb := hd hnb
            replace hrl := hd hrl
            replace rd := hd rd
            go_wp2_with (fail)
            go_region_held3 (fun w' => w'.cell? ⟨gp, pi, none⟩ = some (.pointer (some ⟨q.bp, 0, none⟩)) ∧ w'.cell? ⟨g, o + t * 3, none⟩ = some r.v ∧ w'.cell? ⟨g, o + t * 3 + 1, none⟩ = some (.int .i64 r.d) ∧ w'.cell? ⟨g, o + t * 3 + 2, none⟩ = some (.bool r.fit))
              (first | exact ⟨(World.cell?_of_block (a := ⟨gp, pi, none⟩) (hz5 gp cur _ etyr (by decide) (by decide) hlist)).trans pcell, (hb5.cell (p := ⟨g, o + t * 3, none⟩) lr).trans m0, (hb5.cell (p := ⟨g, o + t * 3 + 1, none⟩) lr).trans m1, (hb5.cell (p := ⟨g, o + t * 3 + 2, none⟩) lr).trans m2⟩ | go_keep)
              (first | (go_at_call 8; refine scan_pair (B := wb.heap.size) (bw := w0.heap.size) (W0 := w.heap.size) (n := n) (kv := kv) (ks := ks) (p := q) _ (by first | exact hWa.out | exact hWaD.out) hn2.out hk2.out (hok.out q hqm) (by first | exact hat.out q hqm | exact hatD.out) hnb.out hl2 hs0 r.v r.l (by first | exact hvv.out | exact hvvD.out) hrl.out r.d rd.out r.fit _ ?_; intro w5 n5 kv5 ks5 hWa5 hn5 hn6 hk5 hp5 hz5 hb5))
            all_goals
              replace hp5 := hd hp5
              replace hz5 := hd hz5
              replace hb5 := hd hb5
              replace hWa5 := hd hWa5
              go_wp2_with (fail)
              refine still_any _ hWa5.out (by omega) (by omega) _ ?_
              intro w6 hb6
              have hs6 := hb6.size
              have hs5 := hb5.out.size
              have hfinB : Below w.heap.size w w6 := (hbw.out.trans (by first | exact hb5.out | exact ⟨hb5.out.os, hb5.out.tape, hb5.out.output, hb5.out.size, hb5.out.block⟩)).trans (hb6.mono (by have := hbw.out.size; simp at *; omega))
              have hz : KeepZ (fun _ k => ¬ (q.lo ≤ k ∧ k < q.hi)) wr w5 := by first | exact hz5.out | exact fun k c T e a b d => hz5.out k c T e a b d
              have hatn : ∀ q' ∈ qs, PzAt q' wb.heap.size w6 := fun q' hq' => by
                have h5 : PzAt q' wb.heap.size w5 := by
                  obtain ⟨j, hj, ej⟩ := List.mem_iff_getElem.1 hq'
                  by_cases hjp : j = pi
                  · have : q' = q := by
                      have e1 : qs[j]? = some q' := by rw [List.getElem?_eq_getElem hj, ej]
                      rw [hjp, hq] at e1
                      exact (Option.some.inj e1).symm
                    rw [this]; exact hp5.out
                  · have hdis : q'.hi ≤ q.lo ∨ q.hi ≤ q'.lo := by
                      have hpp := List.pairwise_iff_getElem.1 hpw.out
                      have eq : qs[pi]'hplq.out = q := Option.some.inj ((List.getElem?_eq_getElem hplq.out).symm.trans hq)
                      rcases Nat.lt_or_gt_of_ne hjp with h | h
                      · have := hpp j pi hj hplq.out h
                        rw [ej, eq] at this
                        exact .inl this
                      · have := hpp pi j hplq.out hj h
                        rw [ej, eq] at this
                        exact .inr this
                    refine (hat.out q' hq').keepZ (hok.out q' hq') (by simp at *; omega) (fun k c T e a b d => hz k c T e a b (fun hT => ?_))
                    have hh := (hok.out q hqm).hi
                    rcases d hT with h | h
                    · omega
                    · omega
                exact h5.keepZ (hok.out q' hq') hs6 (KeepZ.below hb6)
              have hpsn : ∀ (k : Nat) (cur : Array Value), wb.heap[k]? = some (.cells cur 38 (0, 0)) → w6.heap[k]? = wb.heap[k]? := fun k c e => by
                have e1 := hps.out k c e
                have e2 := hz k c _ (e1.trans e) (by decide) (by decide) (fun hT => by rcases hT with h | h | h | h <;> exact absurd h (by decide))
                exact (hb6.block k (Array.getElem?_eq_some_iff.1 ((e2.trans e1).trans e)).1).trans (e2.trans e1)
              have hWa6 := hd (hWa5.out.below hb6)
              replace hatn := hd hatn
              replace hpsn := hd hpsn
              replace hfinB := hd hfinB
              clear hb6 hz
              go_wp2
              exact ⟨⟨t + 1, n5, kv5, ks5, by omega, by go_num, hWa6.out, by omega, by omega, by omega, hatn.out, hfinB.out, hpsn.out⟩, by simp [intOf]; omega⟩
          · have tq : decide ((0 : Int) < (qs.length : Int)) = false := decide_eq_false (by omega)
            generalize qs.length = nq at *
            go_wp2
            exact cl1 (fin.out _ hbw.out) rfl
        · have td : decide ((t : Int) < (rs.length : Int)) = false := by simp; omega
          go_wp2
          exact cl1 (fin.out _ hbw.out) rfl

end Go.Proofs.YtidhiaaicmfabaaGreat

/- What a slice of texts and a slice of rounds read as (seats .Z, .ZD alone). -/
namespace Go.Proofs.YtidhiaaicmfabaaGreat
open Go.RowKit Go.Proofs Go.Deep

open Go.ChangeShapes Go.WideShapes Go.ChangeAt
theorem wf_i64Z {n : Int} (h : (Lit.int .i64 n).wf = true) : -9223372036854775808 ≤ n ∧ n ≤ 9223372036854775807 := by
  simp [Lit.wf, IntKind.min, IntKind.max, IntKind.signed, IntKind.bits] at h
  exact h
theorem bulk_one {H : Type} (d : DataW H) : 1 ≤ Rows.uptoBulk d := by
  cases d with
  | lit l => cases l <;> simp [Rows.uptoBulk]
  | nil => simp [Rows.uptoBulk]
  | ptr d => simp [Rows.uptoBulk]
  | slice elems spare => simp [Rows.uptoBulk]
  | agg parts => simp [Rows.uptoBulk]
  | iface t d => simp [Rows.uptoBulk]
  | map entries => simp [Rows.uptoBulk]
  | held h => simp [Rows.uptoBulk]
theorem bulk_part {H : Type} {d : DataW H} {l : List (DataW H)} (h : d ∈ l) : Rows.uptoBulk d ≤ Rows.uptoBulkAll l := by
  induction l with
  | nil => cases h
  | cons x r ih =>
    simp only [Rows.uptoBulkAll]
    cases List.mem_cons.1 h with
    | inl e => subst e; omega
    | inr e => have := ih e; omega
theorem bulk_len {H : Type} (l : List (DataW H)) : l.length ≤ Rows.uptoBulkAll l := by
  induction l with
  | nil => simp [Rows.uptoBulkAll]
  | cons x r ih => have := bulk_one x; simp only [Rows.uptoBulkAll, List.length_cons]; omega
theorem bulk_elems {H : Type} (elems spare : List (DataW H)) : Rows.uptoBulkAll elems + 1 ≤ Rows.uptoBulk (.slice elems spare) := by
  simp only [Rows.uptoBulk]; omega
theorem cells_int1 : Tryz.prog.cellsOf 3 = 1 := by kernel_rfl
theorem cells_str1 : Tryz.prog.cellsOf 9 = 1 := by kernel_rfl
theorem cells_round : Tryz.prog.cellsOf 44 = 3 := by kernel_rfl
theorem block_addZ (a : Addr) (i : Nat) : (a.add i).block = a.block := by unfold Addr.add; split <;> rfl
theorem spot_none {W : World} {a : Addr} {v : Value} (h : W.cell? (a.add 0) = some v) : ∃ g o, a = ⟨g, o, none⟩ := by
  obtain ⟨g, o, spot⟩ := a
  have hspot : spot = none := by simpa [Addr.add] using World.cell?_spot h
  subst hspot
  exact ⟨g, o, rfl⟩
/-- A slice of numbers, by its reading. -/
theorem inp_trod {H : Type} {enc : TypeId × Value → H} {W : World} {v : Value} {x : DataW H × List MemPlace} {fuel : Nat}
    (hf : DataW.trod enc Tryz.prog W 0 (fun _ => true) true fuel 42 [v] = some x) : ∃ l, InpAt W.heap.size W v l ∧ l.length ≤ Rows.uptoBulk x.1 := by
  rcases open_ints Tryz.underlying42 Tryz.underlying3 cells_int1 hf with ⟨hcs, hx⟩ | ⟨a, len, cap, zs, hcs, _, hl, hm, hz, hx, hcell, hwz⟩
  · injection hcs with hcs _
    subst hcs
    exact ⟨[], ⟨none, 0, rfl, Nat.le_refl _, .inr rfl⟩, by simp⟩
  · injection hcs with hcs _
    subst hcs
    simp only [if_true] at hz
    have hlen : (zs.take len).length = len := by simp; omega
    refine ⟨zs.take len, ⟨some a, cap, by rw [hlen], by rw [hlen]; exact hl, ?_⟩, ?_⟩
    · by_cases h0 : len = 0
      · exact .inr (by simp [h0])
      have c0 := hcell 0 (by omega)
      obtain ⟨g, o, rfl⟩ := spot_none c0
      refine .inl ⟨g, o, rfl, ?_, ?_⟩
      · have := World.block_lt_of_cell? W _ c0
        rw [block_addZ] at this
        exact Nat.ne_of_lt this
      · intro j y hj
        have hjl : j < len := by
          have := (List.getElem?_eq_some_iff.1 hj).1
          omega
        have hc := hcell j (by omega)
        rw [Addr.add_lit] at hc
        rw [hc]
        rw [List.getElem?_take_of_lt hjl] at hj
        rw [List.getD_eq_getElem?_getD, hj]
        rfl
    · rw [hx]
      have h1 := bulk_elems (H := H) (lits .i64 (zs.take len)) (lits .i64 (zs.drop len))
      have h2 := bulk_len (H := H) (lits .i64 (zs.take len))
      have h3 : (lits (H := H) .i64 (zs.take len)).length = (zs.take len).length := by simp [lits]
      show (zs.take len).length ≤ Rows.uptoBulk (.slice (lits .i64 (zs.take len)) (lits .i64 (zs.drop len)))
      omega
theorem cells_sl : Tryz.prog.cellsOf 42 = 1 := by kernel_rfl
theorem cells_bool1 : Tryz.prog.cellsOf 4 = 1 := by kernel_rfl
/-- One round, by its reading. -/
theorem one_round {H : Type} {enc : TypeId × Value → H} {W : World} {cs : List Value} {x : DataW H × List MemPlace} {fuel : Nat}
    (hf : DataW.trod enc Tryz.prog W 0 (fun _ => true) true fuel 44 cs = some x) :
    ∃ r : Rd, cs = [r.v, .int .i64 r.d, .bool r.fit] ∧ InpAt W.heap.size W r.v r.l ∧ r.l.length ≤ Rows.uptoBulk x.1 ∧ -9223372036854775808 ≤ r.d ∧ r.d ≤ 9223372036854775807 := by
  obtain ⟨y0, y1, y2, n, rfl, hlen, h0, h1, h2⟩ := trod_struct3 Tryz.underlying44 hf
  rw [cells_round] at hlen
  rw [cells_sl] at h0
  rw [cells_int1] at h1
  rw [cells_bool1] at h2
  match cs, hlen with
  | [c0, c1, c2], _ =>
    simp only [List.drop_zero, List.take_succ_cons, List.take_zero] at h0
    simp only [List.drop_succ_cons, List.drop_zero, List.take_succ_cons, List.take_zero] at h1 h2
    obtain ⟨l, hin, hl⟩ := inp_trod h0
    obtain ⟨d, e1, _, hw⟩ := DataW.trod_int Tryz.underlying3 h1
    obtain ⟨b, e2, _⟩ := DataW.trod_bool Tryz.underlying4 h2
    injection e1 with e1 _
    injection e2 with e2 _
    subst e1 e2
    refine ⟨⟨c0, l, d, b⟩, rfl, hin, ?_, wf_i64Z hw⟩
    have := bulk_part (d := y0.1) (l := [y0.1, y1.1, y2.1]) (by simp)
    show l.length ≤ Rows.uptoBulk (.agg [y0.1, y1.1, y2.1])
    simp only [Rows.uptoBulk]
    omega
theorem add_add {g o i j : Nat} : ((⟨g, o, none⟩ : Addr).add i).add j = ⟨g, o + i + j, none⟩ := by
  rw [Addr.add_lit, Addr.add_lit]
theorem choose_rd {n : Nat} {p : Nat → Rd → Prop} (h : ∀ i, i < n → ∃ r, p i r) : ∃ rs : List Rd, rs.length = n ∧ ∀ (i : Nat) (r : Rd), rs[i]? = some r → p i r := by
  induction n with
  | zero => exact ⟨[], rfl, fun i r h => by simp at h⟩
  | succ n ih =>
    obtain ⟨rs, hl, hp⟩ := ih (fun i hi => h i (by omega))
    obtain ⟨r, hr⟩ := h n (by omega)
    refine ⟨rs ++ [r], by simp [hl], fun i r' hi => ?_⟩
    by_cases e : i < rs.length
    · rw [List.getElem?_append_left e] at hi
      exact hp i r' hi
    · rw [List.getElem?_append_right (by omega)] at hi
      have : i = n := by
        have := (List.getElem?_eq_some_iff.1 hi).1
        simp at this
        omega
      subst this
      rw [hl, Nat.sub_self] at hi
      simp at hi
      subst hi
      exact hr
theorem rnd_trod {H : Type} {enc : TypeId × Value → H} {W : World} {v : Value} {x : DataW H × List MemPlace} {fuel : Nat}
    (hf : DataW.trod enc Tryz.prog W 0 (fun _ => true) true fuel 23 [v] = some x) (hb : Rows.uptoBulk x.1 ≤ 1048576) : ∃ rs, RndAt W v rs ∧ rs.length ≤ 1048576 := by
  rcases open_slice Tryz.underlying23 hf with ⟨hcs, hx⟩ | ⟨a, len, cap, m, n, D, Pl, hcs, _, hl, hm, hmm, hx, hel⟩
  · injection hcs with hcs _
    subst hcs
    exact ⟨[], ⟨none, 0, rfl, Nat.le_refl _, fun r hr => by (cases hr), .inl rfl⟩, by simp⟩
  · injection hcs with hcs _
    subst hcs
    rw [cells_round] at hel
    have hml : len ≤ m := by rw [hmm]; simp only [if_true]; exact hl
    rw [hx] at hb
    have hbe := bulk_elems (H := H) ((List.range len).map D) ((List.range (m - len)).map fun j => D (len + j))
    have hlenB : len ≤ 1048576 := by
      have h2 := bulk_len (H := H) ((List.range len).map D)
      simp at h2
      simp only at hb
      omega
    have hD : ∀ i, i < len → Rows.uptoBulk (D i) ≤ 1048576 := fun i hi => by
      have := bulk_part (d := D i) (l := (List.range len).map D) (List.mem_map.2 ⟨i, by simpa using hi, rfl⟩)
      simp only at hb
      omega
    obtain ⟨rs, hrl, hrs⟩ := choose_rd (n := len) (p := fun i r => W.cell? (a.add (i * 3)) = some r.v ∧ W.cell? ((a.add (i * 3)).add 1) = some (.int .i64 r.d) ∧ W.cell? ((a.add (i * 3)).add 2) = some (.bool r.fit) ∧ InpAt W.heap.size W r.v r.l ∧ r.l.length ≤ 1048576 ∧ -9223372036854775808 ≤ r.d ∧ r.d ≤ 9223372036854775807) (fun i hi => by
      obtain ⟨cs', h1, h2⟩ := hel i (by omega)
      obtain ⟨r, e, a1, a2, a3⟩ := one_round h2
      obtain ⟨_, _, hc⟩ := World.cells?_some h1
      rw [e] at hc
      have c0 := hc 0 (by omega)
      have c1 := hc 1 (by omega)
      have c2 := hc 2 (by omega)
      have hadd : (a.add (i * 3)).add 0 = a.add (i * 3) := by unfold Addr.add; simp
      rw [hadd] at c0
      exact ⟨r, c0, c1, c2, a1, Nat.le_trans a2 (hD i hi), a3⟩)
    refine ⟨rs, ⟨some a, cap, by rw [hrl], by rw [hrl]; exact hl, fun r hr => ?_, ?_⟩, by omega⟩
    · obtain ⟨i, hi, e⟩ := List.mem_iff_getElem.1 hr
      have h1 := hrs i r (by rw [List.getElem?_eq_getElem hi, e])
      exact ⟨h1.2.2.2.1, by omega, h1.2.2.2.2.2⟩
    · by_cases h0 : rs = []
      · exact .inl h0
      · have hpos : 0 < rs.length := by cases rs with
          | nil => exact absurd rfl h0
          | cons r t => simp
        have h1 := hrs 0 rs[0] (List.getElem?_eq_getElem hpos)
        have h1' : W.cell? (a.add 0) = some (rs[0]).v := h1.1
        obtain ⟨g, o, rfl⟩ := spot_none h1'
        refine .inr ⟨g, o, rfl, fun j r hj => ?_⟩
        obtain ⟨b0, b1, b2, _⟩ := hrs j r hj
        rw [Addr.add_lit] at b0
        rw [add_add] at b1 b2
        exact ⟨b0, b1, b2⟩
theorem str_trod {H : Type} {enc : TypeId × Value → H} {W : World} {v : Value} {x : DataW H × List MemPlace} {fuel : Nat}
    (hf : DataW.trod enc Tryz.prog W 0 (fun _ => true) true fuel 22 [v] = some x) (hb : Rows.uptoBulk x.1 ≤ 1048576) : ∃ ss, StrAt W v ss ∧ ss.length ≤ 1048576 ∧ ∀ s ∈ ss, s.size ≤ maxLen := by
  rcases open_strings Tryz.underlying22 Tryz.underlying9 cells_str1 hf with ⟨hcs, hx⟩ | ⟨a, len, cap, ss, hcs, _, hl, hm, hz, hx, hcell, hsz⟩
  · injection hcs with hcs _
    subst hcs
    exact ⟨[], ⟨none, 0, rfl, Nat.le_refl _, .inl rfl⟩, by simp, fun s hs => by (cases hs)⟩
  · injection hcs with hcs _
    subst hcs
    simp only [if_true] at hz
    have hlen : (ss.take len).length = len := by simp; omega
    rw [hx] at hb
    refine ⟨ss.take len, ⟨some a, cap, by rw [hlen], by rw [hlen]; exact hl, ?_⟩, ?_, fun s hs => hsz s (List.mem_of_mem_take hs)⟩
    · by_cases h0 : len = 0
      · exact .inl (by simp [h0])
      have c0 := hcell 0 (by omega)
      obtain ⟨g, o, rfl⟩ := spot_none c0
      refine .inr ⟨g, o, rfl, fun j s hj => ?_⟩
      have hjl : j < len := by
        have := (List.getElem?_eq_some_iff.1 hj).1
        omega
      have hc := hcell j (by omega)
      rw [Addr.add_lit] at hc
      rw [hc]
      rw [List.getElem?_take_of_lt hjl] at hj
      rw [List.getD_eq_getElem?_getD, hj]
      rfl
    · have h1 := bulk_elems (H := H) (strs (ss.take len)) (strs (ss.drop len))
      have h2 := bulk_len (H := H) (strs (ss.take len))
      have h3 : (strs (H := H) (ss.take len)).length = (ss.take len).length := by simp [strs]
      simp only at hb
      omega

end Go.Proofs.YtidhiaaicmfabaaGreat
namespace Go.Proofs.YtidhiaaicmfabaaGreat
open Go.RowKit Go.Proofs Go.Deep

open Go.ChangeShapes Go.WideShapes Go.ChangeAt
theorem laidOutZ : laidOutB Tryz.prog = true := by kernel_rfl
theorem own_knobZ : ownKnob Tryz.prog.godebug = none := by kernel_rfl
set_option maxRecDepth 100000 in
theorem scans_contract (H : Type) (enc : TypeId × Value → H) (W : World) (base : Nat) (args : Array Value) (ds gs : List (DataW H)) (before : List MemPlace)
    (hval0 : ∀ (j : Nat) t v, Tryz.f3.params[j]? = some t → args[j]? = some v → Value.okWide Tryz.prog W .any base t v)
    (hW : DataW.Whole enc Tryz.prog Tryz.f3.params.toList Rows.scansSpec.vars false W args.toList ds gs before) (hk : Rows.uptoSmall H (ds ++ gs) = true) :
    Calls Tryz.prog 3 args W fun e W' => ∃ v, e = .returned v ∧ Rows.scansSpec.post enc Tryz.prog Tryz.f3 false true false false W args v W' := by
  have hval := hval0
  have hW' := hW
  obtain ⟨p, q, hA0, hV, rfl, hfz, hnd⟩ := hW
  have hA : DataW.TrodAll enc Tryz.prog W 0 (fun _ => true) true Tryz.f3.params.toList args.toList ds p := hA0
  rw [Tryz.params3] at hA hval
  obtain ⟨v0, v1, d0, d1, p0, p1, rfl, rfl, rfl, h0, h1⟩ := trodAll_two hA
  obtain ⟨rfl, rfl⟩ := trodVars_none hV
  have hkb : Rows.uptoBulkAll [d0, d1] ≤ 1048576 := by simpa [Rows.uptoSmall] using hk
  simp only [Rows.uptoBulkAll] at hkb
  obtain ⟨ss, hss, hsn, hsz⟩ : ∃ ss, StrAt W v0 ss ∧ ss.length ≤ 1048576 ∧ ∀ s ∈ ss, s.size ≤ maxLen := by
    obtain ⟨a, len, cap, rfl⟩ := okWide_slice Tryz.underlying22 (hval 0 22 v0 rfl rfl)
    obtain ⟨f, hf⟩ := h0
    exact str_trod (x := (d0, p0)) (by simpa [Value.cells] using hf) (by show Rows.uptoBulk d0 ≤ _; omega)
  obtain ⟨rs, hrs, hrn⟩ : ∃ rs, RndAt W v1 rs ∧ rs.length ≤ 1048576 := by
    obtain ⟨a, len, cap, rfl⟩ := okWide_slice Tryz.underlying23 (hval 1 23 v1 rfl rfl)
    obtain ⟨f, hf⟩ := h1
    exact rnd_trod (x := (d1, p1)) (by simpa [Value.cells] using hf) (by show Rows.uptoBulk d1 ≤ _; omega)
  clear hA0
  simp only [List.append_nil] at hW'
  have hlt : ∀ x ∈ p0 ++ p1, x.block < W.heap.size := fun x hx => by simpa using hW'.lt x hx
  refine scans_any W v0 v1 ss rs hss hsz hrs (by omega) (by omega) _ fun W' hB => ?_
  have hA2 := trodAll_mk2 (Below.trod laidOutZ (by kernel_rfl) (of_decide_eq_true (by kernel_rfl)) h0 hB (fun x hx => hlt x (List.mem_append_left _ hx))) (Below.trod laidOutZ (by kernel_rfl) (of_decide_eq_true (by kernel_rfl)) h1 hB (fun x hx => hlt x (List.mem_append_right _ hx)))
  exact ⟨_, rfl, _, _, _, [], _, [], hW', trodAll_mk1 (shut_bool Tryz.underlying4 _), hA2, rfl, hB.frame _, fun h => by cases h⟩
set_option maxRecDepth 100000 in
theorem scans_lifted (os : Os) (started : os.Started) (H : Type) (enc : TypeId × Value → H) (F : Stop.Interp) :
    ReturnsInHanded {} Tryz.checked os 3 .any ((Rows.OpenSpec.upto Rows.scansSpec).pre6 enc Tryz.prog Tryz.f3 Rows.scansUptoRow.domain false) (((Rows.OpenSpec.upto Rows.scansSpec).at F).post enc Tryz.prog Tryz.f3 false true false false) := by
  refine returnsInHanded_of_cond (C := Tryz.checked) (s := Rows.OpenSpec.upto Rows.scansSpec) (k := Rows.uptoSmall) rfl own_knobZ started (by kernel_rfl) Tryz.func3
    (OpenSpec.witness (enc := enc) (C := Tryz.checked) (s := Rows.OpenSpec.upto Rows.scansSpec) (k := Rows.uptoSmall) rfl false ⟨#[], #[.slice none 0 0, .slice none 0 0], []⟩ 8 (by kernel_rfl) (by kernel_rfl) (by kernel_rfl)
      (x := ([.nil, .nil], [], [])) (by kernel_rfl) rfl (by kernel_rfl)) ?_
  intro W base args ds gs before hval hW _ hk _
  exact scans_contract H enc W base args ds gs before hval hW hk
theorem scans_holds : Rows.ScansUptoSaid :=
  OpenClaim.holds_of_cond 3 Tryz.f3 rfl rfl rfl rfl rfl rfl rfl ⟨rfl, rfl, rfl, rfl, rfl⟩ rfl rfl rfl rfl rfl (by kernel_rfl) Tryz.func3 (by kernel_rfl)
    (of_decide_eq_true (by kernel_rfl)) (by unfold Func.isWrapper; first | (rw [if_pos (by decide +kernel)]; kernel_rfl) | (rw [if_neg (by decide +kernel)]; exact ⟨rfl, rfl⟩))
    (fun os started H enc _ F => scans_lifted os started H enc F)

end Go.Proofs.YtidhiaaicmfabaaGreat
