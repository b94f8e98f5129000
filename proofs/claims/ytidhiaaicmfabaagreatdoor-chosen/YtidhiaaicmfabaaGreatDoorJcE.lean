/- Chosen's texts, their images and machines. -/
import Derived.Test.YtidhiaaicmfabaaGreatDoorKaA
import Derived.WalkKit
import Derived.WalkSpells
import Derived.WalkLawsBesides
import Derived.Deep.OwnRows
import Derived.BigQuiet
import Derived.Handy
import Derived.Deep.Light
import Derived.Deep.RegionHeld3
import Derived.Deep.RegionWith
import Derived.Test.YtidhiaaicmfabaaGreatDoorJcD
import Derived.Test.YtidhiaaicmfabaaGreatDoorJcC
import Derived.Test.YtidhiaaicmfabaaGreatDoorJcB
import Derived.Test.YtidhiaaicmfabaaGreatDoorJyV
import Derived.Test.YtidhiaaicmfabaaGreatDoorJyU
import Derived.Test.YtidhiaaicmfabaaGreatDoorJcA

/- Chosen's text with a CASE is right (seat .ZD alone). -/
namespace Go.Proofs.YtidhiaaicmfabaaGreatDoor
open Go.RowKit Go.Proofs Go.Deep

def nmCV : ByteArray := ⟨#[118]⟩
def nmCZ : ByteArray := ⟨#[122]⟩
def nmCY : ByteArray := ⟨#[121]⟩
theorem lowCV : LowName nmCV := low1 118 (by decide) (by decide)
theorem lowCZ : LowName nmCZ := low1 122 (by decide) (by decide)
theorem lowCY : LowName nmCY := low1 121 (by decide) (by decide)
/-- The variables of Chosen's first text. -/
def chV : List Vd := [⟨nmCV, 0, 2, false, 1⟩, ⟨nmCZ, 1, 1, false, 1⟩, ⟨nmCY, 1, 1, false, 1⟩]
def chW : Nat → List Int → Wl
  | _, [] => .nil
  | i, n :: r => .cons [n, n + 50] (.cons (.set nmCZ (.lit i)) .nil) (chW (i + 1) r)
def chO : Sl := .cons (.set nmCZ (.lit 77)) .nil
def chS (ns : List Int) : Sl := .cons (.set nmCZ (.lit 99)) (.cons (.cas (.plc nmCV) (chW 0 ns) chO) .nil)
theorem chlV : lookV chV nmCV = some ⟨nmCV, 0, 2, false, 1⟩ := by kernel_rfl
theorem chlZ : lookV chV nmCZ = some ⟨nmCZ, 1, 1, false, 1⟩ := by kernel_rfl
theorem chfZ : firstV chV 0 nmCZ = 1 := by kernel_rfl
theorem wl_one {vs : List Vd} {sp : Int} {s : Stz} {f : Nat → List Int} {q : Bool} (h : SWriteOkL vs sp s f q) : AllWL vs sp (.cons s .nil) f q := by
  have h1 := AllWL.cons @h (AllWL.nil (vs := vs) (sp := sp))
  have e : (fun a => f a ++ (fun _ => ([] : List Int)) (a + (f a).length)) = f := funext (fun a => List.append_nil _)
  rw [Bool.or_false, e] at h1
  exact h1
def setC (c i : Int) : Cd := .seq (.one (numB i)) (.one [3, c])
def isoC (n : Int) : Cd := .seq (.seq (.seq (.one [2, 3]) (.one (numB n))) (.one [11])) (.seq (.seq (.seq (.one [2, 3]) (.one (numB (n + 50)))) (.one [11])) (.one [15]))
/-- The code of the branches, with its ways. -/
def nest : Nat → List Int → Cd
  | _, [] => setC 1 77
  | i, n :: r => .seq (isoC n) (.ite (setC 1 i) (nest (i + 1) r) true)
def chC (ns : List Int) : Cd := .seq (setC 1 99) (.seq (.seq (.one [2, 0]) (.one [3, 3])) (nest 0 ns))
def chL : Nat → List Int → List (List Int × (Nat → List Int))
  | _, [] => []
  | i, n :: r => ([n, n + 50], fun _ => numB i ++ [3, 1]) :: chL (i + 1) r
theorem nest_sz : ∀ (ns : List Int) (i : Nat), szC (nest i ns) = 7 + 30 * ns.length
  | [], _ => rfl
  | n :: r, i => by
    have := nest_sz r (i + 1)
    simp only [nest, szC, isoC, setC, numB, jz, List.length_cons, List.length_nil, this, if_true]
    omega
theorem nest_flat : ∀ (ns : List Int) (i p E : Nat), E = p + szC (nest i ns) → (flat p (nest i ns)).flatten = whB 3 (two E) p (chL i ns) ++ (numB 77 ++ [3, 1])
  | [], i, p, E, _ => by simp only [nest, setC, flat, chL, whB, List.flatten_append, List.flatten_cons, List.flatten_nil, List.append_nil, List.nil_append]
  | n :: r, i, p, E, hE => by
    have hw : wEnd 3 p [n, n + 50] (fun _ => numB i ++ [3, 1]) = p + 30 := by
      unfold wEnd
      simp only [isoB, isoT, numB, List.length_append, List.length_cons, List.length_nil]
    have ih := nest_flat r (i + 1) (p + 30) E (by rw [hE, nest_sz, nest_sz, List.length_cons]; omega)
    have hs := nest_sz r (i + 1)
    have hs0 := nest_sz (n :: r) i
    rw [List.length_cons] at hs0
    simp only [nest, chL, whB, flat, hw, List.flatten_append, List.flatten_cons, List.flatten_nil]
    have e1 : p + szC (isoC n) + 3 + szC (setC 1 i) + 3 * jz true = p + 30 := by simp only [szC, isoC, setC, numB, jz, List.length_cons, List.length_nil, if_true]
    have e2 : p + 30 + szC (nest (i + 1) r) = E := by omega
    rw [e1, e2, ih]
    simp only [isoC, setC, flat, if_true, isoB, isoT, List.flatten_cons, List.flatten_nil, List.append_nil, List.append_assoc, List.cons_append, List.nil_append]
theorem chL_E : ∀ (ns : List Int) (i p : Nat), whE 3 p (chL i ns) = p + 30 * ns.length
  | [], i, p => by simp [chL, whE]
  | n :: r, i, p => by
    have hw : wEnd 3 p [n, n + 50] (fun _ => numB i ++ [3, 1]) = p + 30 := by
      unfold wEnd
      simp only [isoB, isoT, numB, List.length_append, List.length_cons, List.length_nil]
    simp only [chL, whE, hw, chL_E r, List.length_cons]
    omega
theorem chW_len : ∀ (ns : List Int) (i : Nat), (chW i ns).len = ns.length
  | [], _ => rfl
  | n :: r, i => by simp only [chW, Wl.len, chW_len r, List.length_cons]
theorem chW_names : ∀ (ns : List Int) (i : Nat), namesW (chW i ns) = List.replicate ns.length nmCZ
  | [], _ => rfl
  | n :: r, i => by simp only [chW, namesW, namesL, namesS, namesE, chW_names r, List.length_cons, List.replicate_succ, List.cons_append, List.nil_append, List.append_nil]
theorem chW_dep : ∀ (ns : List Int) (i : Nat), depW (chW i ns) = 0
  | [], _ => rfl
  | n :: r, i => by simp only [chW, depW, depL, depS, depE, chW_dep r]; rfl
theorem chW_cN : ∀ (ns : List Int) (i : Nat), cN (chW i ns) = 2 * ns.length
  | [], _ => rfl
  | n :: r, i => by simp only [chW, cN, chW_cN r, List.length_cons, List.length_nil]; omega
theorem chW_cW : ∀ (ns : List Int) (i : Nat), cW (chW i ns) 2 = 2
  | [], _ => rfl
  | n :: r, i => by simp only [chW, cW, costL, cS, cE]; exact chW_cW r _
theorem wtSetZ (i : Int) (hi : -32768 ≤ i ∧ i ≤ 32767) : wtSet chV [] nmCZ (.lit i) = true := by
  have h1 : wtE chV (.lit i) = true ∧ kE chV (.lit i) = 1 := by
    simp only [wtE, kE, Bool.and_eq_true, decide_eq_true_eq]
    exact ⟨by omega, by rw [if_pos hi]⟩
  unfold wtSet
  rw [chlZ]
  simp only [h1.1, h1.2]
  decide
theorem ck_setZ (i : Int) (hi : -32768 ≤ i ∧ i ≤ 32767) : CheckOkL chV [] (.set nmCZ (.lit i)) := by
  have h1 : wtE chV (.lit i) = true := by simp only [wtE, Bool.and_eq_true, decide_eq_true_eq]; omega
  have h : CheckOk chV [] (.set nmCZ (.lit i)) := check_set (kind_all _ _ h1) (wtSetZ i hi) (by decide)
  have t : CheckOkL chV [] (.set nmCZ (.lit i)) := CheckOk.toL @h
  exact @t
theorem wr_setZ (sp i : Int) : SWriteOkL chV sp (.set nmCZ (.lit i)) (fun _ => numB i ++ [3, 1]) false := by
  have h : SWriteOk chV sp (.set nmCZ (.lit i)) (fun _ => codeE chV (.lit i) ++ [3, firstV chV 0 nmCZ]) false := swrite_set write_lit chlZ
  rw [chfZ] at h
  have t : SWriteOkL chV sp (.set nmCZ (.lit i)) (fun _ => codeE chV (.lit i) ++ [3, 1]) false := SWriteOk.toL @h
  exact @t
/-- The numbers of the branches. -/
def nsOk (ns : List Int) : Prop := ns.length ≤ 8 ∧ ∀ n ∈ ns, -3 ≤ n ∧ n ≤ 6
theorem nsOk.tail {n : Int} {r : List Int} (h : nsOk (n :: r)) : nsOk r := ⟨by have := h.1; simp only [List.length_cons] at this; omega, fun m hm => h.2 m (List.mem_cons_of_mem _ hm)⟩
theorem ns2 {n m : Int} (hn : -3 ≤ n ∧ n ≤ 6) (hm : m ∈ [n, n + 50]) : -3 ≤ m ∧ m ≤ 56 := by
  simp only [List.mem_cons, List.not_mem_nil, or_false] at hm
  omega
theorem chW_rd : ∀ (ns : List Int) (i : Nat), nsOk ns → i + ns.length ≤ 8 → AllOkW (chW i ns)
  | [], _, _, _ => trivial
  | n :: r, i, h, hi => by
    simp only [List.length_cons] at hi
    exact ⟨⟨_, _, rfl⟩, fun m hm => by have := ns2 (h.2 n (List.mem_cons_self ..)) hm; omega, ⟨stmt_set lowCZ (expr_lit (by omega)), trivial⟩, chW_rd r (i + 1) h.tail (by omega)⟩
theorem chW_ck : ∀ (ns : List Int) (i : Nat), nsOk ns → i + ns.length ≤ 8 → AllCkW chV [] (chW i ns)
  | [], _, _, _ => trivial
  | n :: r, i, h, hi => by
    simp only [List.length_cons] at hi
    refine ⟨fun m hm => ?_, by show 2 ≤ 1000; decide, ⟨@ck_setZ i (by omega), trivial⟩, by show 1 ≤ 1000000; decide, chW_ck r (i + 1) h.tail (by omega)⟩
    have := ns2 (h.2 n (List.mem_cons_self ..)) hm
    simp only [inD, Bool.and_eq_true, decide_eq_true_eq]
    omega
theorem chW_co : ∀ (ns : List Int) (i : Nat), AllCoW (kE chV) (chW i ns)
  | [], _ => trivial
  | n :: r, i => ⟨⟨scost_set (cost_all _ _), by show (0 : Int) ≤ 2; decide, trivial⟩, by show 1 ≤ 1000000; decide, by show (2 : Int) ≤ 4000; decide, by show 2 ≤ 1000; decide, chW_co r (i + 1)⟩
theorem chW_wr (sp : Int) : ∀ (ns : List Int) (i : Nat), AllWW chV sp (chW i ns) (chL i ns)
  | [], _ => .nil
  | n :: r, i => .cons (wl_one (@wr_setZ sp i)) (by show 1 ≤ 1000000; decide) (by show 2 ≤ 1000; decide) (chW_wr sp r (i + 1))
theorem chCf (ns : List Int) (hl : ns.length ≤ 8) : ∃ f, AllWL chV 3 (chS ns) f true ∧ f 0 = (flat 0 (chC ns)).flatten := by
  have ho : AllWL chV 3 chO (fun _ => numB 77 ++ [3, 1]) false := wl_one (@wr_setZ 3 77)
  have hp : WriteOk chV (.plc nmCV) := write_plc chlV
  have hc : SWriteOkL chV 3 (.cas (.plc nmCV) (chW 0 ns) chO) (casB 3 (codeE chV (.plc nmCV)) (chL 0 ns) (fun _ => numB 77 ++ [3, 1])) true := swrite_cas @hp (chW_wr 3 ns 0) (by rw [chW_len]; omega) ho (by show 1 ≤ 1000000; decide)
  have h9 : SWriteOkL chV 3 (.set nmCZ (.lit 99)) (fun _ => numB 99 ++ [3, 1]) false := @wr_setZ 3 99
  have h := AllWL.cons @h9 (wl_one @hc)
  refine ⟨_, h, ?_⟩
  have hf := nest_flat ns 0 11 (11 + szC (nest 0 ns)) rfl
  have e1 : codeE chV (.plc nmCV) = [2, 0] := by kernel_rfl
  have e2 := chL_E ns 0 11
  have e3 := nest_sz ns 0
  simp only [chC, setC, flat, szC, List.flatten_append, List.flatten_cons, List.flatten_nil, List.append_nil, casB, e1]
  have e4 : (numB 99).length = 5 := rfl
  have e5 : (numB 77).length = 5 := rfl
  simp only [List.length_append, List.length_cons, List.length_nil, e4, e5] at hf e2 ⊢
  rw [show 0 + (5 + (0 + 1 + 1)) + (0 + 1 + 1) + 2 = 11 from rfl, hf, e2, e3, show 11 + 30 * ns.length + (5 + (0 + 1 + 1)) = 11 + (7 + 30 * ns.length) by omega]
  simp only [List.append_assoc]
theorem chMem {P : Vd → Prop} (h0 : P ⟨nmCV, 0, 2, false, 1⟩) (h1 : P ⟨nmCZ, 1, 1, false, 1⟩) (h2 : P ⟨nmCY, 1, 1, false, 1⟩) : ∀ v ∈ chV, P v := by
  intro v hv
  unfold chV at hv
  simp only [List.mem_cons, List.not_mem_nil, or_false] at hv
  rcases hv with rfl | rfl | rfl <;> assumption
theorem setWf (c i : Int) (hc : byt c) : wfC (setC c i) := ⟨pl_num _, pl_two (by omega) hc⟩
theorem isoWf (n : Int) : wfC (isoC n) := ⟨⟨⟨pl_two (by omega) (by unfold byt; omega), pl_num _⟩, pl_one (o := 11) (by omega)⟩, ⟨⟨pl_two (by omega) (by unfold byt; omega), pl_num _⟩, pl_one (o := 11) (by omega)⟩, pl_one (o := 15) (by omega)⟩
theorem nestWf : ∀ (ns : List Int) (i : Nat), wfC (nest i ns)
  | [], i => setWf 1 77 (by unfold byt; omega)
  | n :: r, i => ⟨isoWf n, setWf 1 i (by unfold byt; omega), nestWf r (i + 1), fun h => by cases h⟩
theorem chWf (ns : List Int) : wfC (chC ns) := ⟨setWf 1 99 (by unfold byt; omega), ⟨pl_two (by omega) (by unfold byt; omega), pl_two (by omega) (by unfold byt; omega)⟩, nestWf ns 0⟩
theorem chSz (ns : List Int) : szC (chC ns) = 18 + 30 * ns.length := by
  simp only [chC, szC, setC, nest_sz, numB, List.length_cons, List.length_nil]
  omega
theorem chTx (ns : List Int) (h : nsOk ns) : ∃ f, TxK chV (chS ns) f ∧ f 0 = (flat 0 (chC ns)).flatten := by
  obtain ⟨f, hfw, hf0⟩ := chCf ns h.1
  have hsp : ((cellsB chV).length : Int) = 3 := by kernel_rfl
  refine ⟨f, { vr := ?_, rd := ?_, dep := ?_, low := chMem lowCV lowCZ lowCY, dis := ?_, us := ?_, wv := ?_, ck := ?_, co := ?_, cost := ?_, wr := (by rw [hsp]; exact hfw), ln := ?_, bl := ?_, cd := ?_, ci := ?_ }, hf0⟩
  · exact chMem ⟨by decide, var_plain lowCV (by decide) rfl rfl⟩ ⟨by decide, var_plain lowCZ (by decide) rfl rfl⟩ ⟨by decide, var_plain lowCY (by decide) rfl rfl⟩
  · have ho : AllOk chO := ⟨stmt_set lowCZ (expr_lit (by omega)), trivial⟩
    exact ⟨stmt_set lowCZ (expr_lit (by omega)), stmt_cas (expr_plc lowCV) (chW_rd ns 0 h (by have := h.1; omega)) ho, trivial⟩
  · simp only [chS, chO, depL, depS, depE, chW_dep]
    decide
  · decide
  · intro u hu
    simp only [chS, chO, namesL, namesS, namesE, chW_names, List.mem_cons, List.mem_append, List.not_mem_nil, or_false, List.mem_replicate] at hu
    have hZ : ∃ v ∈ chV, nmCZ = v.name := ⟨_, (lookV_mem _ _ _ chlZ).1, rfl⟩
    have hV : ∃ v ∈ chV, nmCV = v.name := ⟨_, (lookV_mem _ _ _ chlV).1, rfl⟩
    rcases hu with rfl | rfl | ⟨_, rfl⟩ | rfl <;> assumption
  · exact chMem (by decide) (by decide) (by decide)
  · have h1 : wtE chV (.plc nmCV) = true := by kernel_rfl
    refine ⟨@ck_setZ 99 (by omega), ?_, trivial⟩
    have ho : AllCkL chV [] chO := ⟨@ck_setZ 77 (by omega), trivial⟩
    have hc : CheckOkL chV [] (.cas (.plc nmCV) (chW 0 ns) chO) := check_cas (kind_all _ _ h1) (by kernel_rfl) (chW_ck ns 0 h (by have := h.1; omega)) (by rw [chW_len]; have := h.1; omega) ho (by show 1 ≤ 1000000; decide)
    exact @hc
  · have ho : AllCo (kE chV) chO := ⟨scost_set (cost_all _ _), by show (0 : Int) ≤ 2; decide, trivial⟩
    have hc : SCostOk (kE chV) (.cas (.plc nmCV) (chW 0 ns) chO) := scost_cas (cost_all _ _) (chW_co ns 0) (by rw [chW_len]; have := h.1; omega) ho (by show 1 ≤ 1000000; decide) (by show (2 : Int) ≤ 4000; decide)
    have e2 : costL chO = 2 := rfl
    refine ⟨scost_set (cost_all _ _), by show (0 : Int) ≤ 2; decide, @hc, ?_, trivial⟩
    simp only [cS, cE, chW_cN, e2, chW_cW]
    omega
  · have e2 : costL chO = 2 := rfl
    simp only [chS, costL, cS, cE, chW_cN, e2, chW_cW]
    have := h.1
    omega
  · exact ⟨by decide, by decide, by decide⟩
  · refine ⟨by show 2 ≤ 1000; decide, ?_⟩
    simp only [chS, chO, namesL, namesS, namesE, chW_names, List.length_append, List.length_cons, List.length_nil, List.length_replicate]
    have := h.1
    omega
  · rw [hf0, flat_sz, chSz]
    have := h.1
    omega
  · rw [hf0]
    intro n hn
    obtain ⟨x, hx, hm⟩ := List.mem_flatten.1 hn
    exact (flat_ok _ 0 (chWf ns) x hx).2.2 n hm

end Go.Proofs.YtidhiaaicmfabaaGreatDoor

/- The machine of Chosen's text with a CASE (seat .ZD alone). -/
namespace Go.Proofs.YtidhiaaicmfabaaGreatDoor
open Go.RowKit Go.Proofs Go.Deep

def chCs : List Int := [2, 4, 4, 8]
theorem chPr (ns : List Int) {f : Nat → List Int} (hf : f 0 = (flat 0 (chC ns)).flatten) : imgK chV f = imgG chCs (prW (chC ns)).flatten := by
  unfold imgK
  rw [hf, show cellsB chV ++ [8] = chCs by kernel_rfl]
  simp only [prW, List.flatten_append, List.flatten_cons, List.flatten_nil, List.append_nil]
  rfl
structure ChBt (s : ByteArray) : Prop where
  h0 : bt s (7 + 0) = 2
  h1 : bt s (7 + 1) = 4
  h2 : bt s (7 + 2) = 4
  h3 : bt s (7 + 3) = 8
theorem chBt (l : List Int) (hl : l.length ≤ 8000) : ChBt (imgG chCs l) := by
  have F := img_facts chCs l (by decide) (by decide) hl
  exact ⟨F.cell 0 2 rfl, F.cell 1 4 rfl, F.cell 2 4 rfl, F.cell 3 8 rfl⟩
theorem set_ht (c i : Int) : htC (setC c i) 0 = some 0 := ht_seq (ht_one 1 rfl (by decide) rfl (by decide)) (ht_one 3 rfl (by decide) rfl (by decide))
theorem iso_ht (n : Int) : htC (isoC n) 0 = some 1 := ht_seq (ht_seq (ht_seq (ht_one 2 rfl (by decide) rfl (by decide)) (ht_one 1 rfl (by decide) rfl (by decide))) (ht_one 11 rfl (by decide) rfl (by decide))) (ht_seq (ht_seq (ht_seq (ht_one 2 rfl (by decide) rfl (by decide)) (ht_one 1 rfl (by decide) rfl (by decide))) (ht_one 11 rfl (by decide) rfl (by decide))) (ht_one 15 rfl (by decide) rfl (by decide)))
theorem ite_ht {t e : Cd} {j : Bool} (h1 : htC t 0 = some 0) (h2 : htC e 0 = some 0) : htC (.ite t e j) 1 = some 0 := by
  simp only [htC]
  rw [if_pos ⟨by decide, h1, h2⟩]
theorem nest_ht : ∀ (ns : List Int) (i : Nat), htC (nest i ns) 0 = some 0
  | [], _ => set_ht 1 77
  | n :: r, i => ht_seq (iso_ht n) (ite_ht (set_ht 1 i) (nest_ht r (i + 1)))
theorem nest_fd : ∀ (ns : List Int) (i : Nat), fdC (nest i ns) = 0
  | [], _ => rfl
  | n :: r, i => by simp only [nest, fdC, isoC, setC, nest_fd r]; decide
theorem nest_bd : ∀ (ns : List Int) (i : Nat), bndC (nest i ns) ≤ 2 + 12 * ns.length
  | [], _ => by simp [nest, setC, bndC]
  | n :: r, i => by
    have := nest_bd r (i + 1)
    simp only [nest, bndC, isoC, setC, jz, List.length_cons, if_true]
    omega
theorem chCd (ns : List Int) (hl : ns.length ≤ 8) : CdOk chCs (chC ns) := by
  have hsz := chSz ns
  have hb := chBt (prW (chC ns)).flatten (by rw [prW_sz]; omega)
  generalize hI : imgG chCs (prW (chC ns)).flatten = I at hb
  have hset : ∀ (q : Nat), q < 4 → rlOf I q ≠ 0 → insOk (rlOf I) (kdOf I) 4 (oc [3, (q : Int)]) (insC (bys [3, (q : Int)]) 0) (insN (bys [3, (q : Int)]) 0) := fun q hq hr => by
    refine ins_cell (by omega) (by unfold byt; omega) ⟨by decide, by omega, fun i hi => ?_, fun _ => ?_, fun h => by simp at h⟩
    · have : i = 0 := by omega
      subst this; exact ⟨rfl, rfl⟩
    · simp only [Int.toNat_natCast]; exact hr
  have s1 : insOk (rlOf I) (kdOf I) 4 (oc [3, 1]) (insC (bys [3, 1]) 0) (insN (bys [3, 1]) 0) := hset 1 (by omega) (by unfold rlOf; rw [hb.h1]; decide)
  have s3 : insOk (rlOf I) (kdOf I) 4 (oc [3, 3]) (insC (bys [3, 3]) 0) (insN (bys [3, 3]) 0) := hset 3 (by omega) (by unfold rlOf; rw [hb.h3]; decide)
  have g3 : insOk (rlOf I) (kdOf I) 4 (oc [2, 3]) (insC (bys [2, 3]) 0) (insN (bys [2, 3]) 0) := ins_get (by unfold byt; omega) (by decide)
  have g0 : insOk (rlOf I) (kdOf I) 4 (oc [2, 0]) (insC (bys [2, 0]) 0) (insN (bys [2, 0]) 0) := ins_get (by unfold byt; omega) (by decide)
  have cset : ∀ i : Int, celC (rlOf I) (kdOf I) 4 (setC 1 i) := fun i => ⟨ins_free (.inl rfl), s1⟩
  have ciso : ∀ n : Int, celC (rlOf I) (kdOf I) 4 (isoC n) := fun n => ⟨⟨⟨g3, ins_free (.inl rfl)⟩, ins_free (.inr (by decide))⟩, ⟨⟨g3, ins_free (.inl rfl)⟩, ins_free (.inr (by decide))⟩, ins_free (.inr (by decide))⟩
  have cnest : ∀ (ms : List Int) (i : Nat), celC (rlOf I) (kdOf I) 4 (nest i ms) := by
    intro ms
    induction ms with
    | nil => intro i; exact cset 77
    | cons n r ih => intro i; exact ⟨ciso n, cset i, ih (i + 1)⟩
  refine ⟨by decide, by decide, chWf ns, by omega, ?_, ?_, ?_, ?_⟩
  · simp only [chC, fdC, setC, nest_fd]; decide
  · exact ht_seq (set_ht 1 99) (ht_seq (ht_seq (ht_one 2 rfl (by decide) rfl (by decide)) (ht_one 3 rfl (by decide) rfl (by decide))) (nest_ht ns 0))
  · have := nest_bd ns 0
    simp only [chC, bndC, setC]
    omega
  · rw [hI]
    exact ⟨cset 99, ⟨g0, s3⟩, cnest ns 0⟩
/-- What the branches give. -/
def resW (v : Int) : Nat → List Int → Int
  | _, [] => 77
  | i, n :: r => if n = v then (i : Int) else resW v (i + 1) r
section
variable {kd : Nat → Nat} {dl : Int}
theorem lay16 {x : Int} (h : -32768 ≤ x ∧ x ≤ 32767) : layK 1 x = x := by
  show IntKind.i16.wrap x = x
  unfold IntKind.wrap
  by_cases h3 : x % 65536 ≥ 32768 <;> simp [IntKind.bits, IntKind.signed, h3] <;> omega
theorem ex_setC {c : Nat} (hc : c ≤ 255) (hk : kd c = 1) {i : Int} (hi : -32768 ≤ i ∧ i ≤ 32767) (C : Nat → Int) (S : List Int) : exC kd dl (setC (c : Int) i) C S = .ok (upd C c i, S) := by
  have w1 : wrap32 i = i := w32_id (by unfold in32; omega)
  simp only [setC, exC, thenE, ex_num, w1, ex_set (a := (c : Int)) (by unfold byt; omega), Int.toNat_natCast, hk, lay16 hi]
theorem ex_iso {n v : Int} (hn : -3 ≤ n ∧ n ≤ 6) (hv : -3 ≤ v ∧ v ≤ 8) {C : Nat → Int} (hC : C 3 = v) : exC kd dl (isoC n) C [] = .ok (C, [tr (v == n)]) := by
  have w1 : wrap32 n = n := w32_id (by unfold in32; omega)
  have w2 : wrap32 (n + 50) = n + 50 := w32_id (by unfold in32; omega)
  have b3 : byt 3 := by unfold byt; omega
  have e11 : ∀ (a b : Int) (S : List Int), ex1 kd dl [11] C (b :: a :: S) = .ok (C, tr (a == b) :: S) := fun a b S => ex_op (o := 5) (by decide)
  have e15 : ∀ (a b : Int) (S : List Int), ex1 kd dl [15] C (b :: a :: S) = .ok (C, tr (a != 0 || b != 0) :: S) := fun a b S => ex_op (o := 8) (by decide)
  have h2 : (v == n + 50) = false := by simp; omega
  simp only [isoC, exC, thenE, ex_get b3, show Int.toNat 3 = 3 from rfl, hC, ex_num, w1, w2, e11, e15, h2]
  cases hb : (v == n) <;> rfl
theorem ex_ite0 {t e : Cd} {j : Bool} {C : Nat → Int} {S : List Int} (h : S.headD 0 = 0) : exC kd dl (.ite t e j) C S = exC kd dl e C S.tail := if_pos h
theorem ex_ite1 {t e : Cd} {j : Bool} {C : Nat → Int} {S : List Int} (h : S.headD 0 ≠ 0) : exC kd dl (.ite t e j) C S = exC kd dl t C S.tail := if_neg h
theorem ex_nest (hk : kd 1 = 1) {v : Int} (hv : -3 ≤ v ∧ v ≤ 8) : ∀ (ns : List Int) (i : Nat) (C : Nat → Int), nsOk ns → i + ns.length ≤ 100 → C 3 = v → exC kd dl (nest i ns) C [] = .ok (upd C 1 (resW v i ns), [])
  | [], i, C, _, _, _ => ex_setC (c := 1) (by omega) hk (by omega) C []
  | n :: r, i, C, h, hi, hC => by
    simp only [List.length_cons] at hi
    have hi1 := ex_iso (kd := kd) (dl := dl) (h.2 n (List.mem_cons_self ..)) hv hC
    show thenE (exC kd dl (isoC n) C []) (exC kd dl (.ite (setC 1 i) (nest (i + 1) r) true)) = _
    rw [hi1]
    show exC kd dl (.ite (setC 1 i) (nest (i + 1) r) true) C [tr (v == n)] = _
    by_cases e : n = v
    · have t1 : (v == n) = true := by simp [e]
      rw [t1, ex_ite1 (by decide)]
      simp only [resW]
      rw [if_pos e]
      exact ex_setC (c := 1) (by omega) hk (by omega) C []
    · have t1 : (v == n) = false := by simp; omega
      rw [t1, ex_ite0 (by decide)]
      simp only [resW]
      rw [if_neg e]
      exact ex_nest hk hv r (i + 1) C h.tail (by omega) hC
theorem ch_ex (h1 : kd 1 = 1) (h3 : kd 3 = 2) {v : Int} (hv : -3 ≤ v ∧ v ≤ 8) (ns : List Int) (h : nsOk ns) (C : Nat → Int) (hC : C 0 = v) : ∃ C', exC kd dl (chC ns) C [] = .ok (C', []) ∧ C' 1 = resW v 0 ns ∧ C' 2 = C 2 := by
  have b0 : byt 0 := by unfold byt; omega
  have b3 : byt 3 := by unfold byt; omega
  have l2 : layK 2 v = v := w32_id (by unfold in32; omega)
  refine ⟨upd (upd (upd C 1 99) 3 v) 1 (resW v 0 ns), ?_, upd_same .., ?_⟩
  · have e0 := ex_setC (kd := kd) (dl := dl) (c := 1) (by omega) h1 (i := 99) (by omega) C []
    have e1 := ex_nest (dl := dl) h1 hv ns 0 (upd (upd C 1 99) 3 v) h (by have := h.1; omega) (upd_same ..)
    have e2 : (upd C 1 99) (Int.toNat 0) = v := by rw [show Int.toNat 0 = 0 from rfl, upd_ne _ _ (by omega)]; exact hC
    simp only [chC, exC]
    rw [show setC 1 99 = setC ((1 : Nat) : Int) 99 from rfl, e0]
    simp only [thenE, ex_get b0, e2, ex_set b3, show Int.toNat 3 = 3 from rfl, h3, l2]
    exact e1
  · rw [upd_ne _ _ (by omega), upd_ne _ _ (by omega), upd_ne _ _ (by omega)]
end
theorem chTold (Bs : Nat) (w : World) {ns : List Int} (hns : nsOk ns) {cap bs bx bc : Nat} {To' : Nat → Int} {dn : Int} (h : Live (cMd chCs (chC ns) cap bs bx To') bc (fun _ => 0) dn w) (hkw : cKW chCs (chC ns) cap bs bx To') (hB1 : Bs ≤ bx) (hB2 : Bs ≤ bc) (hB3 : Bs ≤ w.heap.size)
    {v : Value} {k : Int} (hv : InpAt bc w v [k]) (hk : -3 ≤ k ∧ k ≤ 8) (R : Ending → World → Prop)
    (fin : ∀ w' go, Below Bs w w' → w'.cell? ⟨go, 0, none⟩ = some (.int .i64 (resW k 0 ns)) → w'.cell? ⟨go, 1, none⟩ = some (.int .i64 0) → ∀ cp, R (.returned (.tuple #[.slice (some ⟨go, 0, none⟩) 2 cp, .bool true])) w') :
    Calls Tryz.prog 36 #[.pointer (some ⟨bx, 0, none⟩), v, .int .i64 0] w R := by
  have hb := chBt (prW (chC ns)).flatten (by rw [prW_sz, chSz]; have := hns.1; omega)
  have r0 : (cMd chCs (chC ns) cap bs bx To').rl 0 = 0 := by show bt _ (7 + 0) / 3 = 0; rw [hb.h0]
  have r1 : (cMd chCs (chC ns) cap bs bx To').rl 1 = 1 := by show bt _ (7 + 1) / 3 = 1; rw [hb.h1]
  have r2 : (cMd chCs (chC ns) cap bs bx To').rl 2 = 1 := by show bt _ (7 + 2) / 3 = 1; rw [hb.h2]
  have r3 : (cMd chCs (chC ns) cap bs bx To').rl 3 = 2 := by show bt _ (7 + 3) / 3 = 2; rw [hb.h3]
  have k0 : (cMd chCs (chC ns) cap bs bx To').kd 0 = 2 := by show bt _ (7 + 0) % 3 = 2; rw [hb.h0]
  have k1 : (cMd chCs (chC ns) cap bs bx To').kd 1 = 1 := by show bt _ (7 + 1) % 3 = 1; rw [hb.h1]
  have k3 : (cMd chCs (chC ns) cap bs bx To').kd 3 = 2 := by show bt _ (7 + 3) % 3 = 2; rw [hb.h3]
  have l2 : layK 2 k = k := w32_id (by unfold in32; omega)
  have f1 : fitsL (cMd chCs (chC ns) cap bs bx To').rl (cMd chCs (chC ns) cap bs bx To').kd 4 0 [k] = true := by
    simp only [fitsL, r0, r1, r2, r3, k0, l2, if_true, Nat.zero_add, Nat.reduceAdd, beq_self_eq_true, Bool.true_and]
    rfl
  have f2 : layL (cMd chCs (chC ns) cap bs bx To').rl (cMd chCs (chC ns) cap bs bx To').kd 4 0 [k] (fun _ => 0) = upd (fun _ => 0) 0 k := by
    simp only [layL, r0, r1, r2, r3, k0, l2, if_true, Nat.zero_add, Nat.reduceAdd]
    rfl
  obtain ⟨C', x1, x2, x3⟩ := ch_ex (dl := 0) k1 k3 hk ns hns (upd (fun _ => 0) 0 k) (upd_same ..)
  have ho : outsL (cMd chCs (chC ns) cap bs bx To').rl C' chCs.length = [0, resW k 0 ns] := by
    show outsL _ C' 4 = _
    simp only [outsL, r0, r1, r2, r3]
    rw [x2, x3]
    rfl
  refine ctold Bs w (chCd ns hns.1) h hkw hB1 hB2 hB3 (l := [k]) hv f1 (by omega) (C' := C') (S' := []) (by show exC _ 0 _ (layL _ _ 4 0 _ _) [] = _; rw [f2]; exact x1) (by rw [ho]; simp) R ?_
  intro w' go dn' hbb hl hg cp
  rw [ho] at hg ⊢
  exact fin w' go hbb (hg 0 _ rfl) (hg 1 _ rfl) cp

end Go.Proofs.YtidhiaaicmfabaaGreatDoor

/- Chosen's text with IFs and its machine (seat .ZD alone). -/
namespace Go.Proofs.YtidhiaaicmfabaaGreatDoor
open Go.RowKit Go.Proofs Go.Deep

/-- The variables of Chosen's second text. -/
def ifV : List Vd := [⟨nmCV, 0, 2, false, 1⟩, ⟨nmCY, 1, 1, false, 1⟩]
def ifE (n : Int) : Ex := .bin 8 (.bin 5 (.plc nmCV) (.lit n)) (.bin 5 (.plc nmCV) (.lit (n + 50)))
/-- IFs in one another; the outermost first. -/
def ifS : List (Nat × Int) → Sl
  | [] => .cons (.set nmCY (.lit 99)) .nil
  | (i, n) :: r => .cons (.ife (ifE n) (.cons (.set nmCY (.lit i)) .nil) (ifS r)) .nil
theorem iflV : lookV ifV nmCV = some ⟨nmCV, 0, 2, false, 1⟩ := by kernel_rfl
theorem iflY : lookV ifV nmCY = some ⟨nmCY, 1, 1, false, 1⟩ := by kernel_rfl
theorem iffY : firstV ifV 0 nmCY = 1 := by kernel_rfl
theorem iffV : firstV ifV 0 nmCV = 0 := by kernel_rfl
/-- The code, with its ways. -/
def ifC : List (Nat × Int) → Cd
  | [] => setC 1 99
  | (i, n) :: r => .seq (cdE ifV (ifE n)) (.ite (setC 1 i) (ifC r) true)
def ifF : List (Nat × Int) → Nat → List Int
  | [] => fun _ => numB 99 ++ [3, 1]
  | (i, n) :: r => iteB (codeE ifV (ifE n)) (fun _ => numB i ++ [3, 1]) (ifF r)
theorem ifE_len (n : Int) : (codeE ifV (ifE n)).length = 17 := by kernel_rfl
theorem ifS_len : ∀ ps : List (Nat × Int), (ifS ps).len = 1
  | [] => rfl
  | (_, _) :: _ => rfl
theorem ifC_sz : ∀ ps : List (Nat × Int), szC (ifC ps) = 7 + 30 * ps.length
  | [] => rfl
  | (i, n) :: r => by
    have := ifC_sz r
    simp only [ifC, szC, sz_cdE, ifE_len, setC, numB, jz, List.length_cons, List.length_nil, this, if_true]
    omega
theorem ifC_flat : ∀ (ps : List (Nat × Int)) (p : Nat), (flat p (ifC ps)).flatten = ifF ps p
  | [], p => by simp only [ifC, setC, flat, ifF, List.flatten_cons, List.flatten_nil, List.append_nil, List.cons_append, List.nil_append]
  | (i, n) :: r, p => by
    have ih := ifC_flat r (p + 30)
    have hz : (ifF r (p + 30)).length = szC (ifC r) := by rw [← ih, flat_sz]
    have hl : (numB (i : Int) ++ [(3 : Int), 1]).length = 7 := rfl
    simp only [ifC, flat, ifF, iteB, ifE_len, hl, List.flatten_append, List.flatten_cons, List.flatten_nil, flat_cdE, sz_cdE]
    have e1 : p + 17 + 3 + szC (setC 1 i) + 3 * jz true = p + 30 := by simp only [szC, setC, numB, jz, List.length_cons, List.length_nil, if_true]
    have e2 : p + 17 + 3 + 7 + 3 = p + 30 := by omega
    rw [e1, e2, ih, hz]
    simp only [setC, flat, if_true, List.flatten_cons, List.flatten_nil, List.append_nil, List.append_assoc, List.cons_append, List.nil_append]
theorem ifS_names : ∀ (ps : List (Nat × Int)), (∀ u ∈ namesL (ifS ps), u = nmCV ∨ u = nmCY) ∧ (namesL (ifS ps)).length = 1 + 3 * ps.length
  | [] => ⟨fun u hu => by simp only [ifS, namesL, namesS, namesE, List.mem_cons, List.append_nil, List.not_mem_nil, or_false] at hu; exact .inr hu, rfl⟩
  | (i, n) :: r => by
    obtain ⟨h1, h2⟩ := ifS_names r
    refine ⟨fun u hu => ?_, ?_⟩
    · simp only [ifS, ifE, namesL, namesS, namesE, List.mem_cons, List.mem_append, List.append_nil, List.not_mem_nil, or_false] at hu
      rcases hu with hu | hu | hu
      · rcases hu with rfl | rfl <;> exact .inl rfl
      · exact .inr hu
      · exact h1 u hu
    · simp only [ifS, ifE, namesL, namesS, namesE, List.length_append, List.length_cons, List.length_nil, List.append_nil, h2]
      omega
theorem ifS_dep : ∀ ps : List (Nat × Int), depL (ifS ps) ≤ ps.length + 2
  | [] => by show (0 : Int) ≤ _; simp
  | (i, n) :: r => by
    have := ifS_dep r
    have h0 := depL_nonneg (ifS r)
    have e1 : depE (ifE n) = 2 := rfl
    simp only [ifS, depL, depS, depE, e1, List.length_cons]
    omega
theorem ifS_cost : ∀ ps : List (Nat × Int), 2 ≤ costL (ifS ps) ∧ costL (ifS ps) ≤ 2 + 8 * ps.length
  | [] => by show (2 : Int) ≤ 2 ∧ (2 : Int) ≤ _; simp
  | (i, n) :: r => by
    have := ifS_cost r
    have e1 : cE (ifE n) = 7 := rfl
    simp only [ifS, costL, cS, cE, e1, List.length_cons]
    omega
theorem ifWt (n : Int) (hn : -3 ≤ n ∧ n ≤ 6) : wtE ifV (ifE n) = true ∧ kE ifV (ifE n) = 0 := by
  have h1 : wtE ifV (.lit n) = true ∧ kE ifV (.lit n) = 1 := by
    simp only [wtE, kE, Bool.and_eq_true, decide_eq_true_eq]
    exact ⟨by omega, by rw [if_pos (by omega)]⟩
  have h2 : wtE ifV (.lit (n + 50)) = true ∧ kE ifV (.lit (n + 50)) = 1 := by
    simp only [wtE, kE, Bool.and_eq_true, decide_eq_true_eq]
    exact ⟨by omega, by rw [if_pos (by omega)]⟩
  have h3 : wtE ifV (.plc nmCV) = true ∧ kE ifV (.plc nmCV) = 2 := ⟨by kernel_rfl, by kernel_rfl⟩
  have g1 : wtE ifV (.bin 5 (.plc nmCV) (.lit n)) = true ∧ kE ifV (.bin 5 (.plc nmCV) (.lit n)) = 0 := ⟨by rw [wtE, h1.1, h1.2, h3.1, h3.2]; rfl, by rw [kE_bin]; rfl⟩
  have g2 : wtE ifV (.bin 5 (.plc nmCV) (.lit (n + 50))) = true ∧ kE ifV (.bin 5 (.plc nmCV) (.lit (n + 50))) = 0 := ⟨by rw [wtE, h2.1, h2.2, h3.1, h3.2]; rfl, by rw [kE_bin]; rfl⟩
  unfold ifE
  exact ⟨by rw [wtE, g1.1, g1.2, g2.1, g2.2]; rfl, by rw [kE_bin]; rfl⟩
/-- The pairs of a number and its place. -/
def psOk (ps : List (Nat × Int)) : Prop := ps.length ≤ 8 ∧ ∀ p ∈ ps, p.1 ≤ 8 ∧ -3 ≤ p.2 ∧ p.2 ≤ 6
theorem psOk.tail {p : Nat × Int} {r : List (Nat × Int)} (h : psOk (p :: r)) : psOk r := ⟨by have := h.1; simp only [List.length_cons] at this; omega, fun m hm => h.2 m (List.mem_cons_of_mem _ hm)⟩
theorem ifE_rd (n : Int) (hn : -3 ≤ n ∧ n ≤ 6) : ExprOk (ifE n) := expr_bin (by decide) (expr_bin (by decide) (expr_plc lowCV) (expr_lit (by omega))) (expr_bin (by decide) (expr_plc lowCV) (expr_lit (by omega)))
theorem ifS_rd : ∀ ps : List (Nat × Int), psOk ps → AllOk (ifS ps)
  | [], _ => ⟨stmt_set lowCY (expr_lit (by omega)), trivial⟩
  | (i, n) :: r, h => by
    have h1 := h.2 (i, n) (List.mem_cons_self ..)
    have ht : AllOk (.cons (.set nmCY (.lit i)) .nil) := ⟨stmt_set lowCY (expr_lit (by have := h1.1; simp only at this; omega)), trivial⟩
    exact ⟨stmt_ife (ifE_rd n h1.2) ht (ifS_rd r h.tail), trivial⟩
theorem ck_setY (i : Int) (hi : -32768 ≤ i ∧ i ≤ 32767) : CheckOkL ifV [] (.set nmCY (.lit i)) := by
  have h1 : wtE ifV (.lit i) = true ∧ kE ifV (.lit i) = 1 := by
    simp only [wtE, kE, Bool.and_eq_true, decide_eq_true_eq]
    exact ⟨by omega, by rw [if_pos hi]⟩
  have hw : wtSet ifV [] nmCY (.lit i) = true := by
    unfold wtSet
    rw [iflY]
    simp only [h1.1, h1.2]
    decide
  have h : CheckOk ifV [] (.set nmCY (.lit i)) := check_set (kind_all _ _ h1.1) hw (by decide)
  have t : CheckOkL ifV [] (.set nmCY (.lit i)) := CheckOk.toL @h
  exact @t
theorem wr_setY (sp i : Int) : SWriteOkL ifV sp (.set nmCY (.lit i)) (fun _ => numB i ++ [3, 1]) false := by
  have h : SWriteOk ifV sp (.set nmCY (.lit i)) (fun _ => codeE ifV (.lit i) ++ [3, firstV ifV 0 nmCY]) false := swrite_set write_lit iflY
  rw [iffY] at h
  have t : SWriteOkL ifV sp (.set nmCY (.lit i)) (fun _ => codeE ifV (.lit i) ++ [3, 1]) false := SWriteOk.toL @h
  exact @t
theorem ifS_ck : ∀ ps : List (Nat × Int), psOk ps → AllCkL ifV [] (ifS ps)
  | [], _ => ⟨@ck_setY 99 (by omega), trivial⟩
  | (i, n) :: r, h => by
    have h1 := h.2 (i, n) (List.mem_cons_self ..)
    have h2 := h1.1
    simp only at h2
    have ht : AllCkL ifV [] (.cons (.set nmCY (.lit i)) .nil) := ⟨@ck_setY i (by omega), trivial⟩
    have hc : CheckOkL ifV [] (.ife (ifE n) (.cons (.set nmCY (.lit i)) .nil) (ifS r)) := check_ife (kind_all _ _ (ifWt n h1.2).1) (ifWt n h1.2).2 ht (by show 1 ≤ 1000000; decide) (ifS_ck r h.tail) (by rw [ifS_len]; decide)
    exact ⟨@hc, trivial⟩
theorem ifS_co : ∀ ps : List (Nat × Int), psOk ps → AllCo (kE ifV) (ifS ps)
  | [], _ => ⟨scost_set (cost_all _ _), by show (0 : Int) ≤ 2; decide, trivial⟩
  | (i, n) :: r, h => by
    have ht : AllCo (kE ifV) (.cons (.set nmCY (.lit i)) .nil) := ⟨scost_set (cost_all _ _), by show (0 : Int) ≤ 2; decide, trivial⟩
    have hb := ifS_cost r
    have h1 := h.1
    simp only [List.length_cons] at h1
    have hc : SCostOk (kE ifV) (.ife (ifE n) (.cons (.set nmCY (.lit i)) .nil) (ifS r)) := scost_ife (cost_all _ _) ht (by show 1 ≤ 1000000; decide) (by show (2 : Int) ≤ 4000; decide) (ifS_co r h.tail) (by rw [ifS_len]; decide) (by omega)
    have e1 : cE (ifE n) = 7 := rfl
    refine ⟨@hc, ?_, trivial⟩
    simp only [cS, e1]
    omega
theorem ifS_wr : ∀ ps : List (Nat × Int), psOk ps → AllWL ifV 2 (ifS ps) (ifF ps) false
  | [], _ => wl_one (@wr_setY 2 99)
  | (i, n) :: r, h => by
    have h1 := h.2 (i, n) (List.mem_cons_self ..)
    have hlen : ∀ v ∈ ifV, 0 ≤ v.len ∧ v.len ≤ 255 := by decide
    have he : WriteOk ifV (ifE n) := write_all _ hlen _ (ifWt n h1.2).1
    have ht : AllWL ifV 2 (.cons (.set nmCY (.lit i)) .nil) (fun _ => numB i ++ [3, 1]) false := wl_one (@wr_setY 2 i)
    have hw : SWriteOkL ifV 2 (.ife (ifE n) (.cons (.set nmCY (.lit i)) .nil) (ifS r)) (iteB (codeE ifV (ifE n)) (fun _ => numB i ++ [3, 1]) (ifF r)) (false || false) := swrite_ife @he ht (by show 1 ≤ 1000000; decide) (ifS_wr r h.tail) (by rw [ifS_len]; decide) (by rw [ifS_len]; decide)
    exact wl_one @hw
theorem okV (rl kd : Nat → Int) (n : Int) : okE rl kd 2 ifV (ifE n) := by
  have h : okE rl kd 2 ifV (.plc nmCV) := by
    simp only [okE, iffV, byt]
    omega
  exact ⟨by decide, ⟨by decide, h, trivial⟩, ⟨by decide, h, trivial⟩⟩
theorem ifWf : ∀ ps : List (Nat × Int), wfC (ifC ps)
  | [] => setWf 1 99 (by unfold byt; omega)
  | (i, n) :: r => ⟨wf_cdE _ (okV (fun _ => 0) (fun _ => 0) n), setWf 1 i (by unfold byt; omega), ifWf r, fun h => by cases h⟩
theorem ifTx (ps : List (Nat × Int)) (h : psOk ps) : TxL ifV (ifS ps) (ifF ps) := by
  have hsp : ((cellsB ifV).length : Int) = 2 := by kernel_rfl
  have hl := h.1
  have hm : ∀ {P : Vd → Prop}, P ⟨nmCV, 0, 2, false, 1⟩ → P ⟨nmCY, 1, 1, false, 1⟩ → ∀ v ∈ ifV, P v := fun h0 h1 v hv => by
    unfold ifV at hv
    simp only [List.mem_cons, List.not_mem_nil, or_false] at hv
    rcases hv with rfl | rfl <;> assumption
  refine { vr := ?_, rd := ifS_rd ps h, dep := ?_, low := hm lowCV lowCY, dis := ?_, us := ?_, wv := ?_, ck := ifS_ck ps h, co := ifS_co ps h, cost := ?_, wr := (by rw [hsp]; exact ifS_wr ps h), ln := ?_, bl := ?_, cd := ?_, ci := ?_ }
  · exact hm ⟨by decide, var_plain lowCV (by decide) rfl rfl⟩ ⟨by decide, var_plain lowCY (by decide) rfl rfl⟩
  · have := ifS_dep ps
    omega
  · decide
  · intro u hu
    rcases (ifS_names ps).1 u hu with rfl | rfl
    · exact ⟨_, (lookV_mem _ _ _ iflV).1, rfl⟩
    · exact ⟨_, (lookV_mem _ _ _ iflY).1, rfl⟩
  · exact hm (by decide) (by decide)
  · have := ifS_cost ps
    omega
  · exact ⟨by decide, by decide, by decide⟩
  · exact ⟨by rw [ifS_len]; decide, by rw [(ifS_names ps).2]; omega⟩
  · rw [← ifC_flat, flat_sz, ifC_sz]
    omega
  · rw [← ifC_flat]
    intro n hn
    obtain ⟨x, hx, hm⟩ := List.mem_flatten.1 hn
    exact (flat_ok _ 0 (ifWf ps) x hx).2.2 n hm
def ifCs : List Int := [2, 4]
theorem ifPr (ps : List (Nat × Int)) : imgS ifV (ifF ps) = imgG ifCs (prW (ifC ps)).flatten := by
  unfold imgS
  rw [← ifC_flat, show cellsB ifV = ifCs by kernel_rfl]
  simp only [prW, List.flatten_append, List.flatten_cons, List.flatten_nil, List.append_nil]
  rfl
theorem ifC_ht : ∀ ps : List (Nat × Int), htC (ifC ps) 0 = some 0
  | [] => set_ht 1 99
  | (i, n) :: r => ht_seq (ht_cdE (rl := fun _ => 0) (kd := fun _ => 0) (ifE n) 0 (okV _ _ n) (by show (0 : Int) + 2 + 1 ≤ 32; decide)).2 (ite_ht (set_ht 1 i) (ifC_ht r))
theorem ifC_fd : ∀ ps : List (Nat × Int), fdC (ifC ps) = 0
  | [] => rfl
  | (i, n) :: r => by simp only [ifC, fdC, fd_cdE, setC, ifC_fd r]; decide
theorem ifC_bd : ∀ ps : List (Nat × Int), bndC (ifC ps) ≤ 2 + 20 * ps.length
  | [] => by simp [ifC, setC, bndC]
  | (i, n) :: r => by
    have h1 := ifC_bd r
    have h2 := (bnd_cdE ifV (ifE n)).2
    have e1 : cE (ifE n) = 7 := rfl
    rw [e1] at h2
    simp only [ifC, bndC, setC, jz, List.length_cons, if_true]
    omega
theorem ifBt (l : List Int) (hl : l.length ≤ 8000) : bt (imgG ifCs l) (7 + 0) = 2 ∧ bt (imgG ifCs l) (7 + 1) = 4 := by
  have F := img_facts ifCs l (by decide) (by decide) hl
  exact ⟨F.cell 0 2 rfl, F.cell 1 4 rfl⟩
theorem ifCd (ps : List (Nat × Int)) (hl : ps.length ≤ 8) : CdOk ifCs (ifC ps) := by
  have hsz := ifC_sz ps
  obtain ⟨b0, b1⟩ := ifBt (prW (ifC ps)).flatten (by rw [prW_sz]; omega)
  generalize hI : imgG ifCs (prW (ifC ps)).flatten = I at b0 b1
  have s1 : insOk (rlOf I) (kdOf I) 2 (oc [3, 1]) (insC (bys [3, 1]) 0) (insN (bys [3, 1]) 0) := by
    refine ins_cell (by omega) (by unfold byt; omega) ⟨by decide, by decide, fun i hi => ?_, fun _ => ?_, fun h => by simp at h⟩
    · have : i = 0 := by omega
      subst this; exact ⟨rfl, rfl⟩
    · show rlOf I 1 ≠ 0
      unfold rlOf
      rw [b1]
      decide
  have cset : ∀ i : Int, celC (rlOf I) (kdOf I) 2 (setC 1 i) := fun i => ⟨ins_free (.inl rfl), s1⟩
  have cnest : ∀ (qs : List (Nat × Int)), celC (rlOf I) (kdOf I) 2 (ifC qs) := by
    intro qs
    induction qs with
    | nil => exact cset 99
    | cons p r ih => exact ⟨cel_cdE _ (okV _ _ p.2), cset p.1, ih⟩
  refine ⟨by decide, by decide, ifWf ps, by omega, ?_, ifC_ht ps, ?_, ?_⟩
  · rw [ifC_fd]; decide
  · have := ifC_bd ps
    omega
  · rw [hI]
    exact cnest ps
/-- What the IFs give. -/
def resI (v : Int) : List (Nat × Int) → Int
  | [] => 99
  | (i, n) :: r => if n = v then (i : Int) else resI v r
section
variable {kd : Nat → Nat} {dl : Int}
theorem ev_ifE {n v : Int} (hn : -3 ≤ n ∧ n ≤ 6) (hv : -3 ≤ v ∧ v ≤ 8) {C : Nat → Int} (hC : C 0 = v) : evE ifV dl (ifE n) C = .ok (C, tr (v == n)) := by
  have w1 : wrap32 n = n := w32_id (by unfold in32; omega)
  have w2 : wrap32 (n + 50) = n + 50 := w32_id (by unfold in32; omega)
  have h2 : (v == n + 50) = false := by simp; omega
  have k1 : kE ifV (.bin 5 (.plc nmCV) (.lit n)) = 0 := by rw [kE_bin]; rfl
  have k2 : kE ifV (.bin 5 (.plc nmCV) (.lit (n + 50))) = 0 := by rw [kE_bin]; rfl
  have k3 : kE ifV (.bin 8 (.bin 5 (.plc nmCV) (.lit n)) (.bin 5 (.plc nmCV) (.lit (n + 50)))) = 0 := by rw [kE_bin]; rfl
  simp only [ifE, evE, andV, binV, iffV, show Int.toNat 0 = 0 from rfl, hC, w1, w2, k1, k2, k3, h2]
  cases hb : (v == n) <;> rfl
theorem ex_ifC (hk : kd 1 = 1) {v : Int} (hv : -3 ≤ v ∧ v ≤ 8) : ∀ (ps : List (Nat × Int)) (C : Nat → Int), psOk ps → C 0 = v → exC kd dl (ifC ps) C [] = .ok (upd C 1 (resI v ps), [])
  | [], C, _, _ => ex_setC (c := 1) (by omega) hk (by omega) C []
  | (i, n) :: r, C, h, hC => by
    have h1 := h.2 (i, n) (List.mem_cons_self ..)
    have h2 := h1.1
    simp only at h2
    have hi1 := ex_E (rl := fun _ => 0) (kd' := fun _ => 0) (kd := kd) (dl := dl) (ifE n) C [] (okV _ _ n)
    rw [ev_ifE h1.2 hv hC] at hi1
    show thenE (exC kd dl (cdE ifV (ifE n)) C []) (exC kd dl (.ite (setC 1 i) (ifC r) true)) = _
    rw [hi1]
    show exC kd dl (.ite (setC 1 i) (ifC r) true) C [tr (v == n)] = _
    by_cases e : n = v
    · have t1 : (v == n) = true := by simp [e]
      rw [t1, ex_ite1 (by decide)]
      simp only [resI]
      rw [if_pos e]
      exact ex_setC (c := 1) (by omega) hk (by omega) C []
    · have t1 : (v == n) = false := by simp; omega
      rw [t1, ex_ite0 (by decide)]
      simp only [resI]
      rw [if_neg e]
      exact ex_ifC hk hv r C h.tail hC
end
theorem ifTold (Bs : Nat) (w : World) {ps : List (Nat × Int)} (hps : psOk ps) {cap bs bx bc : Nat} {To' : Nat → Int} {dn : Int} (h : Live (cMd ifCs (ifC ps) cap bs bx To') bc (fun _ => 0) dn w) (hkw : cKW ifCs (ifC ps) cap bs bx To') (hB1 : Bs ≤ bx) (hB2 : Bs ≤ bc) (hB3 : Bs ≤ w.heap.size)
    {v : Value} {k : Int} (hv : InpAt bc w v [k]) (hk : -3 ≤ k ∧ k ≤ 8) (R : Ending → World → Prop)
    (fin : ∀ w' go, Below Bs w w' → w'.cell? ⟨go, 0, none⟩ = some (.int .i64 (resI k ps)) → ∀ cp, R (.returned (.tuple #[.slice (some ⟨go, 0, none⟩) 1 cp, .bool true])) w') :
    Calls Tryz.prog 36 #[.pointer (some ⟨bx, 0, none⟩), v, .int .i64 0] w R := by
  obtain ⟨b0, b1⟩ := ifBt (prW (ifC ps)).flatten (by rw [prW_sz, ifC_sz]; have := hps.1; omega)
  have r0 : (cMd ifCs (ifC ps) cap bs bx To').rl 0 = 0 := by show bt _ (7 + 0) / 3 = 0; rw [b0]
  have r1 : (cMd ifCs (ifC ps) cap bs bx To').rl 1 = 1 := by show bt _ (7 + 1) / 3 = 1; rw [b1]
  have k0 : (cMd ifCs (ifC ps) cap bs bx To').kd 0 = 2 := by show bt _ (7 + 0) % 3 = 2; rw [b0]
  have k1 : (cMd ifCs (ifC ps) cap bs bx To').kd 1 = 1 := by show bt _ (7 + 1) % 3 = 1; rw [b1]
  have l2 : layK 2 k = k := w32_id (by unfold in32; omega)
  have f1 : fitsL (cMd ifCs (ifC ps) cap bs bx To').rl (cMd ifCs (ifC ps) cap bs bx To').kd 2 0 [k] = true := by
    simp only [fitsL, r0, r1, k0, l2, if_true, Nat.zero_add, beq_self_eq_true, Bool.true_and]
    rfl
  have f2 : layL (cMd ifCs (ifC ps) cap bs bx To').rl (cMd ifCs (ifC ps) cap bs bx To').kd 2 0 [k] (fun _ => 0) = upd (fun _ => 0) 0 k := by
    simp only [layL, r0, r1, k0, l2, if_true, Nat.zero_add]
    rfl
  have x1 := ex_ifC (dl := 0) k1 hk ps (upd (fun _ => 0) 0 k) hps (upd_same ..)
  have ho : outsL (cMd ifCs (ifC ps) cap bs bx To').rl (upd (upd (fun _ => 0) 0 k) 1 (resI k ps)) ifCs.length = [resI k ps] := by
    show outsL _ _ 2 = _
    simp only [outsL, r0, r1]
    rw [upd_same]
    rfl
  refine ctold Bs w (ifCd ps hps.1) h hkw hB1 hB2 hB3 (l := [k]) hv f1 (by omega) (C' := upd (upd (fun _ => 0) 0 k) 1 (resI k ps)) (S' := []) (by show exC _ 0 _ (layL _ _ 2 0 _ _) [] = _; rw [f2]; exact x1) (by rw [ho]; simp) R ?_
  intro w' go dn' hbb hl hg cp
  rw [ho] at hg ⊢
  exact fin w' go hbb (hg 0 _ rfl) cp

end Go.Proofs.YtidhiaaicmfabaaGreatDoor

/- Chosen's texts, their parts (seat .ZD alone). -/
namespace Go.Proofs.YtidhiaaicmfabaaGreatDoor
open Go.RowKit Go.Proofs Go.Deep

def ch1 : List UInt8 := [73, 78, 32, 118, 58, 32, 68, 73, 78, 84, 59, 32, 79, 85, 84, 32, 122, 58, 32, 73, 78, 84, 59, 32, 79, 85, 84, 32, 121, 58, 32, 73, 78, 84, 59, 32, 66, 69, 71, 73, 78, 32, 122, 32, 58, 61, 32, 57, 57, 59, 32, 67, 65, 83, 69, 32, 118, 32, 79, 70, 32]
def ch1T : List (List UInt8) := [[73, 78], [118], [58], [68, 73, 78, 84], [59], [79, 85, 84], [122], [58], [73, 78, 84], [59], [79, 85, 84], [121], [58], [73, 78, 84], [59], [66, 69, 71, 73, 78], [122], [58, 61], [57, 57], [59], [67, 65, 83, 69], [118], [79, 70]]
theorem ch1R (t : List UInt8) : spR 39 (ch1 ++ t) [] = some (ch1T, t) := by kernel_rfl
def ch2 : List UInt8 := [87, 72, 69, 78, 32]
def ch2T : List (List UInt8) := [[87, 72, 69, 78]]
theorem ch2R (t : List UInt8) : spR 2 (ch2 ++ t) [] = some (ch2T, t) := by kernel_rfl
def ch3 : List UInt8 := [44, 32]
def ch3T : List (List UInt8) := [[44]]
theorem ch3R (t : List UInt8) : spR 2 (ch3 ++ t) [] = some (ch3T, t) := by kernel_rfl
def ch4 : List UInt8 := [58, 32, 122, 32, 58, 61, 32]
def ch4T : List (List UInt8) := [[58], [122], [58, 61]]
theorem ch4R (t : List UInt8) : spR 6 (ch4 ++ t) [] = some (ch4T, t) := by kernel_rfl
def ch5 : List UInt8 := [59, 32]
def ch5T : List (List UInt8) := [[59]]
theorem ch5R (t : List UInt8) : spR 2 (ch5 ++ t) [] = some (ch5T, t) := by kernel_rfl
def ch6 : List UInt8 := [69, 76, 83, 69, 32, 122, 32, 58, 61, 32, 55, 55, 59, 32, 69, 78, 68, 59, 32, 69, 78, 68]
def ch6T : List (List UInt8) := [[69, 76, 83, 69], [122], [58, 61], [55, 55], [59], [69, 78, 68], [59], [69, 78, 68]]
theorem ch6R : spR 13 ch6 [] = some (ch6T, []) := by kernel_rfl
def if1 : List UInt8 := [73, 78, 32, 118, 58, 32, 68, 73, 78, 84, 59, 32, 79, 85, 84, 32, 121, 58, 32, 73, 78, 84, 59, 32, 66, 69, 71, 73, 78, 32]
def if1T : List (List UInt8) := [[73, 78], [118], [58], [68, 73, 78, 84], [59], [79, 85, 84], [121], [58], [73, 78, 84], [59], [66, 69, 71, 73, 78]]
theorem if1R (t : List UInt8) : spR 18 (if1 ++ t) [] = some (if1T, t) := by kernel_rfl
def if2 : List UInt8 := [121, 32, 58, 61, 32, 57, 57, 59, 32]
def if2T : List (List UInt8) := [[121], [58, 61], [57, 57], [59]]
theorem if2R (t : List UInt8) : spR 7 (if2 ++ t) [] = some (if2T, t) := by kernel_rfl
def if3 : List UInt8 := [73, 70, 32, 40, 40, 118, 32, 61, 32]
def if3T : List (List UInt8) := [[73, 70], [40], [40], [118], [61]]
theorem if3R (t : List UInt8) : spR 8 (if3 ++ t) [] = some (if3T, t) := by kernel_rfl
def if4 : List UInt8 := [41, 32, 79, 82, 32, 40, 118, 32, 61, 32]
def if4T : List (List UInt8) := [[41], [79, 82], [40], [118], [61]]
theorem if4R (t : List UInt8) : spR 9 (if4 ++ t) [] = some (if4T, t) := by kernel_rfl
def if5 : List UInt8 := [41, 41, 32, 84, 72, 69, 78, 32, 121, 32, 58, 61, 32]
def if5T : List (List UInt8) := [[41], [41], [84, 72, 69, 78], [121], [58, 61]]
theorem if5R (t : List UInt8) : spR 9 (if5 ++ t) [] = some (if5T, t) := by kernel_rfl
def if6 : List UInt8 := [59, 32, 69, 76, 83, 69, 32]
def if6T : List (List UInt8) := [[59], [69, 76, 83, 69]]
theorem if6R (t : List UInt8) : spR 4 (if6 ++ t) [] = some (if6T, t) := by kernel_rfl
def if7 : List UInt8 := [69, 78, 68, 59, 32]
def if7T : List (List UInt8) := [[69, 78, 68], [59]]
theorem if7R (t : List UInt8) : spR 3 (if7 ++ t) [] = some (if7T, t) := by kernel_rfl
def if8 : List UInt8 := [69, 78, 68]
def if8T : List (List UInt8) := [[69, 78, 68]]
theorem if8R : spR 1 if8 [] = some (if8T, []) := by kernel_rfl
theorem stopC {c : UInt8} {l : List UInt8} (h : isWd c.toNat = false) : stops (c :: l) := fun x hx => by
  have : x = c := by simpa using hx.symm
  subst this
  exact h
def whsB : Nat → List Int → List UInt8
  | _, [] => []
  | i, n :: r => ch2 ++ (litB n ++ (ch3 ++ (litB (n + 50) ++ (ch4 ++ (litB i ++ (ch5 ++ whsB (i + 1) r))))))
def whsT : Nat → List Int → List (List UInt8)
  | _, [] => []
  | i, n :: r => ch2T ++ (litT n ++ (ch3T ++ (litT (n + 50) ++ (ch4T ++ (litT i ++ (ch5T ++ whsT (i + 1) r))))))
theorem whs_lex : ∀ (ns : List Int) (i : Nat) (r : List UInt8), nsOk ns → i + ns.length ≤ 100 → ∃ N, N ≤ (whsB i ns).length ∧ (whsB i ns).length ≤ 34 * ns.length ∧ Lex (whsB i ns ++ r) (whsT i ns) r N
  | [], i, r, _, _ => ⟨0, Nat.zero_le _, Nat.zero_le _, fun k q h => h⟩
  | n :: m, i, r, h, hi => by
    have hn := h.2 n (List.mem_cons_self ..)
    simp only [List.length_cons] at hi
    obtain ⟨N, hN, hN2, hL⟩ := whs_lex m (i + 1) r h.tail (by omega)
    have b1 := litB_len n (by omega)
    have b2 := litB_len (n + 50) (by omega)
    have b3 := litB_len i (by omega)
    have l5 : Lex (ch5 ++ (whsB (i + 1) m ++ r)) ch5T (whsB (i + 1) m ++ r) 2 := lex_spR (ch5R _)
    have l4 := lex_lit (i : Int) (r := ch5 ++ (whsB (i + 1) m ++ r)) (stopC (by decide))
    have l3 : Lex (ch4 ++ (litB i ++ (ch5 ++ (whsB (i + 1) m ++ r)))) ch4T (litB i ++ (ch5 ++ (whsB (i + 1) m ++ r))) 6 := lex_spR (ch4R _)
    have l2 := lex_lit (n + 50) (r := ch4 ++ (litB i ++ (ch5 ++ (whsB (i + 1) m ++ r)))) (stopC (by decide))
    have l1 : Lex (ch3 ++ (litB (n + 50) ++ (ch4 ++ (litB i ++ (ch5 ++ (whsB (i + 1) m ++ r)))))) ch3T (litB (n + 50) ++ (ch4 ++ (litB i ++ (ch5 ++ (whsB (i + 1) m ++ r))))) 2 := lex_spR (ch3R _)
    have l0 := lex_lit n (r := ch3 ++ (litB (n + 50) ++ (ch4 ++ (litB i ++ (ch5 ++ (whsB (i + 1) m ++ r)))))) (stopC (by decide))
    have lz : Lex (ch2 ++ (litB n ++ (ch3 ++ (litB (n + 50) ++ (ch4 ++ (litB i ++ (ch5 ++ (whsB (i + 1) m ++ r)))))))) ch2T (litB n ++ (ch3 ++ (litB (n + 50) ++ (ch4 ++ (litB i ++ (ch5 ++ (whsB (i + 1) m ++ r))))))) 2 := lex_spR (ch2R _)
    have e2 : ch2.length = 5 := rfl
    have e3 : ch3.length = 2 := rfl
    have e4 : ch4.length = 7 := rfl
    have e5 : ch5.length = 2 := rfl
    have hA := lz.app (l0.app (l1.app (l2.app (l3.app (l4.app (l5.app hL))))))
    refine ⟨N + 2 + litN i + 6 + litN (n + 50) + 2 + litN n + 2, ?_, ?_, ?_⟩
    · simp only [whsB, List.length_append]
      omega
    · simp only [whsB, List.length_append, List.length_cons]
      omega
    · simp only [whsB, whsT, List.append_assoc]
      exact hA
theorem whs_tok : ∀ (ns : List Int) (i : Nat), (whsT i ns).map ba = toksW (chW i ns)
  | [], _ => rfl
  | n :: r, i => by
    have e : toksW (chW i (n :: r)) = ch2T.map ba ++ (litW n ++ (ch3T.map ba ++ (litW (n + 50) ++ (ch4T.map ba ++ (litW i ++ (ch5T.map ba ++ toksW (chW (i + 1) r))))))) := by
      simp only [chW, toksW, litsW, toksL, toksS, toks, List.drop_succ_cons, List.drop_zero, List.append_nil, List.append_assoc, List.cons_append, List.nil_append]
      generalize litW n = X
      generalize litW (n + 50) = Y
      generalize litW (i : Int) = U
      generalize toksW (chW (i + 1) r) = V
      rfl
    rw [e, ← whs_tok r (i + 1), ← lit_tok n, ← lit_tok (n + 50), ← lit_tok (i : Int)]
    simp only [whsT, List.map_append]
theorem lit99 : litW 99 = [ba [57, 57]] := by
  unfold litW
  rw [if_neg (by omega)]
  show [numW 99] = _
  unfold numW
  rw [digs, dif_neg (by decide), digs, dif_pos (by decide)]
  rfl
theorem lit77 : litW 77 = [ba [55, 55]] := by
  unfold litW
  rw [if_neg (by omega)]
  show [numW 77] = _
  unfold numW
  rw [digs, dif_neg (by decide), digs, dif_pos (by decide)]
  rfl
def chText (ns : List Int) : ByteArray := ba (ch1 ++ (whsB 0 ns ++ ch6))
theorem chSp (ns : List Int) (h : nsOk ns) : spF (chText ns).size (chText ns) = some (toksP chV (chS ns)) ∧ (chText ns).size ≤ 700 := by
  have hl := h.1
  obtain ⟨N, hN, hN2, hL⟩ := whs_lex ns 0 ch6 h (by omega)
  have e1 : ch1.length = 61 := rfl
  have e6 : ch6.length = 22 := rfl
  refine ⟨?_, by unfold chText; rw [ba_size]; simp only [List.length_append]; omega⟩
  unfold chText
  rw [sp_list, ba_size]
  have h6 : Lex ch6 ch6T [] 13 := lex_spR ch6R
  have h1 : Lex (ch1 ++ (whsB 0 ns ++ ch6)) ch1T (whsB 0 ns ++ ch6) 39 := lex_spR (ch1R _)
  have hA := lex_done (h1.app (hL.app h6)) (by simp only [List.length_append]; omega)
  rw [hA]
  have e : toksP chV (chS ns) = ch1T.map ba ++ (toksW (chW 0 ns) ++ ch6T.map ba) := by
    simp only [toksP, chV, chS, chO, toksD, toksV, toksL, toksS, toks, Sl.isNil, lit99, lit77, List.cons_append, List.append_assoc, List.nil_append, Bool.false_eq_true, if_false]
    generalize toksW (chW 0 ns) = V
    first | rfl | kernel_rfl | trace_state
  rw [e, ← whs_tok]
  simp only [Option.map_some, List.map_append]
def ifB : List (Nat × Int) → List UInt8
  | [] => if2
  | (i, n) :: r => if3 ++ (litB n ++ (if4 ++ (litB (n + 50) ++ (if5 ++ (litB i ++ (if6 ++ (ifB r ++ if7)))))))
def ifT : List (Nat × Int) → List (List UInt8)
  | [] => if2T
  | (i, n) :: r => if3T ++ (litT n ++ (if4T ++ (litT (n + 50) ++ (if5T ++ (litT i ++ (if6T ++ (ifT r ++ if7T)))))))
theorem if_lex : ∀ (ps : List (Nat × Int)) (r : List UInt8), psOk ps → ∃ N, N ≤ (ifB ps).length ∧ (ifB ps).length ≤ 9 + 62 * ps.length ∧ Lex (ifB ps ++ r) (ifT ps) r N
  | [], r, _ => ⟨7, by decide, by decide, lex_spR (if2R _)⟩
  | (i, n) :: m, r, h => by
    have hn := (h.2 (i, n) (List.mem_cons_self ..)).2
    have hi := (h.2 (i, n) (List.mem_cons_self ..)).1
    simp only at hn hi
    obtain ⟨N, hN, hN2, hL⟩ := if_lex m (if7 ++ r) h.tail
    have b1 := litB_len n (by omega)
    have b2 := litB_len (n + 50) (by omega)
    have b3 := litB_len i (by omega)
    have l7 : Lex (if7 ++ r) if7T r 3 := lex_spR (if7R _)
    have l6 : Lex (if6 ++ (ifB m ++ (if7 ++ r))) if6T (ifB m ++ (if7 ++ r)) 4 := lex_spR (if6R _)
    have l5 := lex_lit (i : Int) (r := if6 ++ (ifB m ++ (if7 ++ r))) (stopC (by decide))
    have l4 : Lex (if5 ++ (litB i ++ (if6 ++ (ifB m ++ (if7 ++ r))))) if5T (litB i ++ (if6 ++ (ifB m ++ (if7 ++ r)))) 9 := lex_spR (if5R _)
    have l3 := lex_lit (n + 50) (r := if5 ++ (litB i ++ (if6 ++ (ifB m ++ (if7 ++ r))))) (stopC (by decide))
    have l2 : Lex (if4 ++ (litB (n + 50) ++ (if5 ++ (litB i ++ (if6 ++ (ifB m ++ (if7 ++ r))))))) if4T (litB (n + 50) ++ (if5 ++ (litB i ++ (if6 ++ (ifB m ++ (if7 ++ r)))))) 9 := lex_spR (if4R _)
    have l1 := lex_lit n (r := if4 ++ (litB (n + 50) ++ (if5 ++ (litB i ++ (if6 ++ (ifB m ++ (if7 ++ r))))))) (stopC (by decide))
    have l0 : Lex (if3 ++ (litB n ++ (if4 ++ (litB (n + 50) ++ (if5 ++ (litB i ++ (if6 ++ (ifB m ++ (if7 ++ r))))))))) if3T (litB n ++ (if4 ++ (litB (n + 50) ++ (if5 ++ (litB i ++ (if6 ++ (ifB m ++ (if7 ++ r)))))))) 8 := lex_spR (if3R _)
    have e3 : if3.length = 9 := rfl
    have e4 : if4.length = 10 := rfl
    have e5 : if5.length = 13 := rfl
    have e6 : if6.length = 7 := rfl
    have e7 : if7.length = 5 := rfl
    have hA := l0.app (l1.app (l2.app (l3.app (l4.app (l5.app (l6.app (hL.app l7)))))))
    refine ⟨3 + N + 4 + litN i + 9 + litN (n + 50) + 9 + litN n + 8, ?_, ?_, ?_⟩
    · simp only [ifB, List.length_append]
      omega
    · simp only [ifB, List.length_append, List.length_cons]
      omega
    · simp only [ifB, ifT, List.append_assoc]
      exact hA
theorem if_tok : ∀ (ps : List (Nat × Int)), (ifT ps).map ba = toksL (ifS ps)
  | [] => by
    simp only [ifS, toksL, toksS, toks, lit99]
    rfl
  | (i, n) :: r => by
    have hnil : (ifS r).isNil = false := by cases r with | nil => rfl | cons p t => rfl
    have e : toksL (ifS ((i, n) :: r)) = if3T.map ba ++ (litW n ++ (if4T.map ba ++ (litW (n + 50) ++ (if5T.map ba ++ (litW i ++ (if6T.map ba ++ (toksL (ifS r) ++ if7T.map ba))))))) := by
      simp only [ifS, ifE, toksL, toksS, toks, hnil, Bool.false_eq_true, if_false, List.append_assoc, List.cons_append, List.nil_append]
      generalize litW n = X
      generalize litW (n + 50) = Y
      generalize litW (i : Int) = U
      generalize toksL (ifS r) = V
      rfl
    rw [e, ← if_tok r, ← lit_tok n, ← lit_tok (n + 50), ← lit_tok (i : Int)]
    simp only [ifT, List.map_append]
def ifText (ps : List (Nat × Int)) : ByteArray := ba (if1 ++ (ifB ps ++ if8))
theorem ifSp (ps : List (Nat × Int)) (h : psOk ps) : spF (ifText ps).size (ifText ps) = some (toksP ifV (ifS ps)) ∧ (ifText ps).size ≤ 700 := by
  have hl := h.1
  obtain ⟨N, hN, hN2, hL⟩ := if_lex ps if8 h
  have e1 : if1.length = 30 := rfl
  have e8 : if8.length = 3 := rfl
  refine ⟨?_, by unfold ifText; rw [ba_size]; simp only [List.length_append]; omega⟩
  unfold ifText
  rw [sp_list, ba_size]
  have h8 : Lex if8 if8T [] 1 := lex_spR if8R
  have h1 : Lex (if1 ++ (ifB ps ++ if8)) if1T (ifB ps ++ if8) 18 := lex_spR (if1R _)
  have hA := lex_done (h1.app (hL.app h8)) (by simp only [List.length_append]; omega)
  rw [hA]
  have e : toksP ifV (ifS ps) = if1T.map ba ++ (toksL (ifS ps) ++ if8T.map ba) := by
    simp only [toksP, ifV, toksD, toksV, List.cons_append, List.nil_append, Bool.false_eq_true, if_false]
    generalize toksL (ifS ps) = V
    first | rfl | kernel_rfl | trace_state
  rw [e, ← if_tok]
  simp only [Option.map_some, List.map_append]

end Go.Proofs.YtidhiaaicmfabaaGreatDoor
