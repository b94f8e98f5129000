/- Summed's text is right. -/
import Derived.Test.YtidhiaaicmfabaaGreatDoorKaA
import Derived.WalkKit
import Derived.WalkSpells
import Derived.WalkLawsBesides
import Derived.Deep.OwnRows
import Derived.BigQuiet
import Derived.Handy
import Derived.Deep.Light
import Derived.Deep.RegionHeld3
import Derived.Deep.RegionWith
import Derived.Test.YtidhiaaicmfabaaGreatDoorJsB
import Derived.Test.YtidhiaaicmfabaaGreatDoorJzQ
import Derived.Test.YtidhiaaicmfabaaGreatDoorJzU
import Derived.Test.YtidhiaaicmfabaaGreatDoorJsA

/- Summed's text is right (seat .ZD alone). -/
namespace Go.Proofs.YtidhiaaicmfabaaGreatDoor
open Go.RowKit Go.Proofs Go.Deep

def nmK : ByteArray := ⟨#[107]⟩
def nmL : ByteArray := ⟨#[108]⟩
def nmI : ByteArray := ⟨#[105]⟩
def nmS : ByteArray := ⟨#[115]⟩
def nmE : ByteArray := ⟨#[101]⟩
def nmJ : ByteArray := ⟨#[106]⟩
theorem lowK : LowName nmK := low1 107 (by decide) (by decide)
theorem lowL : LowName nmL := low1 108 (by decide) (by decide)
theorem lowI : LowName nmI := low1 105 (by decide) (by decide)
theorem lowS : LowName nmS := low1 115 (by decide) (by decide)
theorem lowE : LowName nmE := low1 101 (by decide) (by decide)
theorem lowJ : LowName nmJ := low1 106 (by decide) (by decide)
/-- The variables of Summed's text. -/
def suV (n : Nat) : List Vd := [⟨nmK, 0, 2, false, 1⟩, ⟨nmL, 2, 2, true, (n : Int)⟩, ⟨nmI, 2, 1, false, 1⟩, ⟨nmS, 1, 2, false, 1⟩, ⟨nmE, 1, 2, false, 1⟩, ⟨nmJ, 1, 1, false, 1⟩]
def exV (a d : Int) : Ex := .bin 0 (.lit a) (.bin 2 (.plc nmI) (.lit d))
def exU : Ex := .bin 0 (.plc nmS) (.idx nmL (.plc nmI))
def suB1 (a d : Int) : Sl := .cons (.setx nmL (.plc nmI) (exV a d)) .nil
def suB2 : Sl := .cons (.set nmS exU) .nil
def suS (n : Nat) (a d : Int) : Sl := .cons (.loop nmI 0 ((n : Int) - 1) (suB1 a d)) (.cons (.set nmS (.lit 0)) (.cons (.loop nmI 0 ((n : Int) - 1) suB2) (.cons (.set nmE (.idx nmL (.plc nmK))) (.cons (.set nmJ (.plc nmI)) .nil))))
theorem slK (n : Nat) : lookV (suV n) nmK = some ⟨nmK, 0, 2, false, 1⟩ := by kernel_rfl
theorem slL (n : Nat) : lookV (suV n) nmL = some ⟨nmL, 2, 2, true, (n : Int)⟩ := by kernel_rfl
theorem slI (n : Nat) : lookV (suV n) nmI = some ⟨nmI, 2, 1, false, 1⟩ := by kernel_rfl
theorem slS (n : Nat) : lookV (suV n) nmS = some ⟨nmS, 1, 2, false, 1⟩ := by kernel_rfl
theorem slE (n : Nat) : lookV (suV n) nmE = some ⟨nmE, 1, 2, false, 1⟩ := by kernel_rfl
theorem slJ (n : Nat) : lookV (suV n) nmJ = some ⟨nmJ, 1, 1, false, 1⟩ := by kernel_rfl
theorem sfK (n : Nat) : firstV (suV n) 0 nmK = 0 := by kernel_rfl
theorem sfL (n : Nat) : firstV (suV n) 0 nmL = 1 := by kernel_rfl
theorem sfI (n : Nat) : firstV (suV n) 0 nmI = 1 + (n : Int) := by kernel_rfl
theorem sfS (n : Nat) : firstV (suV n) 0 nmS = 1 + (n : Int) + 1 := by kernel_rfl
theorem sfE (n : Nat) : firstV (suV n) 0 nmE = 1 + (n : Int) + 1 + 1 := by kernel_rfl
theorem sfJ (n : Nat) : firstV (suV n) 0 nmJ = 1 + (n : Int) + 1 + 1 + 1 := by kernel_rfl
theorem sgL (n : Nat) : lenOf (suV n) nmL = (n : Int) := by unfold lenOf; rw [slL]
theorem suMem {n : Nat} {P : Vd → Prop} (h0 : P ⟨nmK, 0, 2, false, 1⟩) (h1 : P ⟨nmL, 2, 2, true, (n : Int)⟩) (h2 : P ⟨nmI, 2, 1, false, 1⟩) (h3 : P ⟨nmS, 1, 2, false, 1⟩) (h4 : P ⟨nmE, 1, 2, false, 1⟩) (h5 : P ⟨nmJ, 1, 1, false, 1⟩) : ∀ v ∈ suV n, P v := by
  intro v hv
  unfold suV at hv
  simp only [List.mem_cons, List.not_mem_nil, or_false] at hv
  rcases hv with rfl | rfl | rfl | rfl | rfl | rfl <;> assumption
theorem rnd0 (n : Nat) : rndN 0 ((n : Int) - 1) = n := by unfold rndN; omega
/-- The code of the text, with its ways. -/
def suI (n : Nat) : Int := 1 + (n : Int)
def loopC (n : Nat) (b : Cd) : Cd := .seq (.seq (.one (numB (0 - 1))) (.one [3, suI n])) (.rep n (.seq (.seq (.seq (.one [2, suI n]) (.one (numB 1))) (.seq (.one [6]) (.one [3, suI n]))) b))
def suC (n : Nat) (a d : Int) : Cd := .seq (loopC n (.seq (.seq (cdE (suV n) (.plc nmI)) (cdE (suV n) (exV a d))) (.one [5, 1, (n : Int)]))) (.seq (.seq (cdE (suV n) (.lit 0)) (.one [3, suI n + 1])) (.seq (loopC n (.seq (cdE (suV n) exU) (.one [3, suI n + 1]))) (.seq (.seq (cdE (suV n) (.idx nmL (.plc nmK))) (.one [3, suI n + 1 + 1])) (.seq (cdE (suV n) (.plc nmI)) (.one [3, suI n + 1 + 1 + 1])))))
theorem wI (n : Nat) : wtE (suV n) (.plc nmI) = true ∧ kE (suV n) (.plc nmI) = 1 := by simp only [wtE, kE, slI]; exact ⟨rfl, rfl⟩
theorem wK (n : Nat) : wtE (suV n) (.plc nmK) = true ∧ kE (suV n) (.plc nmK) = 2 := by simp only [wtE, kE, slK]; exact ⟨rfl, rfl⟩
theorem wSm (n : Nat) : wtE (suV n) (.plc nmS) = true ∧ kE (suV n) (.plc nmS) = 2 := by simp only [wtE, kE, slS]; exact ⟨rfl, rfl⟩
theorem wLit (n : Nat) (m : Int) (hm : -32768 ≤ m ∧ m ≤ 32767) : wtE (suV n) (.lit m) = true ∧ kE (suV n) (.lit m) = 1 := by
  simp only [wtE, kE, Bool.and_eq_true, decide_eq_true_eq]
  exact ⟨by omega, by rw [if_pos hm]⟩
theorem wLI (n : Nat) : wtE (suV n) (.idx nmL (.plc nmI)) = true ∧ kE (suV n) (.idx nmL (.plc nmI)) = 2 := by
  have h := wI n
  refine ⟨by rw [wtE, slL, h.1, h.2]; rfl, ?_⟩
  simp only [kE, slL]
  rfl
theorem wLK (n : Nat) : wtE (suV n) (.idx nmL (.plc nmK)) = true ∧ kE (suV n) (.idx nmL (.plc nmK)) = 2 := by
  have h := wK n
  refine ⟨by rw [wtE, slL, h.1, h.2]; rfl, ?_⟩
  simp only [kE, slL]
  rfl
theorem wID (n : Nat) (d : Int) (hd : -32768 ≤ d ∧ d ≤ 32767) : wtE (suV n) (.bin 2 (.plc nmI) (.lit d)) = true ∧ kE (suV n) (.bin 2 (.plc nmI) (.lit d)) = 1 := by
  have h := wI n
  have h2 := wLit n d hd
  refine ⟨by rw [wtE, h.1, h.2, h2.1, h2.2]; rfl, by rw [kE_bin, h.2, h2.2]; rfl⟩
theorem wV (n : Nat) (a d : Int) (ha : -32768 ≤ a ∧ a ≤ 32767) (hd : -32768 ≤ d ∧ d ≤ 32767) : wtE (suV n) (exV a d) = true ∧ kE (suV n) (exV a d) = 1 := by
  have h := wLit n a ha
  have h2 := wID n d hd
  unfold exV
  refine ⟨by rw [wtE, h.1, h.2, h2.1, h2.2]; rfl, by rw [kE_bin, h.2, h2.2]; rfl⟩
theorem wU (n : Nat) : wtE (suV n) exU = true ∧ kE (suV n) exU = 2 := by
  have h := wSm n
  have h2 := wLI n
  unfold exU
  refine ⟨by rw [wtE, h.1, h.2, h2.1, h2.2]; rfl, by rw [kE_bin, h.2, h2.2]; rfl⟩
theorem oI (rl kd : Nat → Int) {n : Nat} (hn : 1 ≤ n ∧ n ≤ 16) : okE rl kd (n + 5) (suV n) (.plc nmI) := by
  simp only [okE, sfI, byt]
  omega
theorem oK (rl kd : Nat → Int) {n : Nat} (hn : 1 ≤ n ∧ n ≤ 16) : okE rl kd (n + 5) (suV n) (.plc nmK) := by
  simp only [okE, sfK, byt]
  omega
theorem oS (rl kd : Nat → Int) {n : Nat} (hn : 1 ≤ n ∧ n ≤ 16) : okE rl kd (n + 5) (suV n) (.plc nmS) := by
  simp only [okE, sfS, byt]
  omega
def rowL (rl kd : Nat → Int) (n : Nat) : Prop := ∀ i, i < n → rl (1 + i) = rl 1 ∧ kd (1 + i) = kd 1
theorem oL {rl kd : Nat → Int} {n : Nat} (hn : 1 ≤ n ∧ n ≤ 16) (hr : rowL rl kd n) {i : Ex} (hi : okE rl kd (n + 5) (suV n) i) : okE rl kd (n + 5) (suV n) (.idx nmL i) := by
  have e1 : (firstV (suV n) 0 nmL).toNat = 1 := by rw [sfL]; rfl
  have e2 : (lenOf (suV n) nmL).toNat = n := by rw [sgL]; omega
  refine ⟨hi, by rw [sfL]; unfold byt; omega, by rw [sgL]; unfold byt; omega, ?_⟩
  rw [e1, e2]
  exact ⟨hn.1, by omega, hr, fun h => by omega, fun h => by omega⟩
theorem oV (rl kd : Nat → Int) {n : Nat} (hn : 1 ≤ n ∧ n ≤ 16) (a d : Int) : okE rl kd (n + 5) (suV n) (exV a d) := ⟨by decide, trivial, by decide, oI rl kd hn, trivial⟩
theorem oU {rl kd : Nat → Int} {n : Nat} (hn : 1 ≤ n ∧ n ≤ 16) (hr : rowL rl kd n) : okE rl kd (n + 5) (suV n) exU := ⟨by decide, oS rl kd hn, oL hn hr (oI rl kd hn)⟩
theorem row0 (n : Nat) : rowL (fun _ => 0) (fun _ => 0) n := fun _ _ => ⟨rfl, rfl⟩
theorem bytI {n : Nat} (hn : 1 ≤ n ∧ n ≤ 16) : byt (suI n) ∧ byt (suI n + 1) ∧ byt (suI n + 1 + 1) ∧ byt (suI n + 1 + 1 + 1) ∧ byt (n : Int) ∧ byt 1 := by
  unfold byt suI
  omega
theorem suWf (n : Nat) (hn : 1 ≤ n ∧ n ≤ 16) (a d : Int) : wfC (suC n a d) := by
  obtain ⟨y1, y2, y3, y4, y5, y6⟩ := bytI hn
  have wI' := wf_cdE _ (oI (fun _ => 0) (fun _ => 0) hn)
  have wV' := wf_cdE _ (oV (fun _ => 0) (fun _ => 0) hn a d)
  have wU' := wf_cdE _ (oU hn (row0 n))
  have wK' := wf_cdE _ (oL hn (row0 n) (oK (fun _ => 0) (fun _ => 0) hn))
  have lp : ∀ b, wfC b → wfC (loopC n b) := fun b hb => ⟨⟨pl_num _, pl_two (by omega) y1⟩, ⟨hn.1, by omega⟩, ⟨⟨pl_two (by omega) y1, pl_num _⟩, pl_one (o := 6) (by omega), pl_two (by omega) y1⟩, hb⟩
  exact ⟨lp _ ⟨⟨wI', wV'⟩, pl_three (by omega) y6 y5⟩, ⟨pl_num _, pl_two (by omega) y2⟩, lp _ ⟨wU', pl_two (by omega) y2⟩, ⟨wK', pl_two (by omega) y3⟩, wI', pl_two (by omega) y4⟩
theorem flat_in {c : Cd} (h : wfC c) (p : Nat) : ∀ n ∈ (flat p c).flatten, 0 ≤ n ∧ n ≤ 255 := by
  intro n hn
  obtain ⟨x, hx, hm⟩ := List.mem_flatten.1 hn
  exact (flat_ok c p h x hx).2.2 n hm
theorem codeE_len (vs : List Vd) : ∀ e : Ex, ((codeE vs e).length : Int) ≤ 7 * cE e
  | .lit _ => by simp [codeE, numB, cE]
  | .tru _ => by simp [codeE, numB, cE]
  | .plc _ => by simp [codeE, cE]
  | .idx s i => by have := codeE_len vs i; simp only [codeE, cE, List.length_append, List.length_cons, List.length_nil]; omega
  | .bin o l r => by
    have h1 := codeE_len vs l
    have h2 := codeE_len vs r
    simp only [codeE, cE]
    split <;> (simp only [List.length_append, List.length_cons, List.length_nil]; omega)
  | .neg e => by have := codeE_len vs e; simp only [codeE, cE, List.length_append, List.length_cons, List.length_nil]; omega
  | .sho e => by have := codeE_len vs e; simp only [codeE, cE, List.length_append, List.length_cons, List.length_nil]; omega
  | .dly t a s => by
    have h1 := codeE_len vs a
    have h2 := codeE_len vs s
    simp only [codeE, cE, List.length_append, List.length_cons, List.length_nil]
    omega
theorem suSz (n : Nat) (a d : Int) : szC (suC n a d) ≤ 500 := by
  have h1 := codeE_len (suV n) (.plc nmI)
  have h2 := codeE_len (suV n) (exV a d)
  have h3 := codeE_len (suV n) exU
  have h4 := codeE_len (suV n) (.idx nmL (.plc nmK))
  have h5 := codeE_len (suV n) (.lit 0)
  have c1 : cE (.plc nmI) = 1 := rfl
  have c2 : cE (exV a d) = 5 := rfl
  have c3 : cE exU = 4 := rfl
  have c4 : cE (.idx nmL (.plc nmK)) = 2 := rfl
  have c5 : cE (.lit 0) = 1 := rfl
  rw [c1] at h1
  rw [c2] at h2
  rw [c3] at h3
  rw [c4] at h4
  rw [c5] at h5
  simp only [suC, loopC, szC, sz_cdE, List.length_cons, List.length_nil, numB]
  omega
theorem suTx (n : Nat) (hn : 1 ≤ n ∧ n ≤ 16) (a d : Int) (ha : -1000 ≤ a ∧ a ≤ 1000) (hd : -100 ≤ d ∧ d ≤ 100) : ∃ f, TxL (suV n) (suS n a d) f ∧ f 0 = (flat 0 (suC n a d)).flatten := by
  have hlen : ∀ v ∈ suV n, 0 ≤ v.len ∧ v.len ≤ 255 := suMem (by decide) (by show (0 : Int) ≤ n ∧ (n : Int) ≤ 255; omega) (by decide) (by decide) (by decide) (by decide)
  have wv := wV n a d (by omega) (by omega)
  have wu := wU n
  have r1 : AllOk (suB1 a d) := ⟨stmt_setx lowL (expr_plc lowI) (expr_bin (by decide) (expr_lit (by omega)) (expr_bin (by decide) (expr_plc lowI) (expr_lit (by omega)))), trivial⟩
  have r2 : AllOk suB2 := ⟨stmt_set lowS (expr_bin (by decide) (expr_plc lowS) (expr_idx lowL (expr_plc lowI))), trivial⟩
  obtain ⟨sp, hsp⟩ : ∃ sp : Int, sp = ((cellsB (suV n)).length : Int) := ⟨_, rfl⟩
  have hr := rnd0 n
  have s1 : SWriteOk (suV n) sp (.setx nmL (.plc nmI) (exV a d)) (fun _ => codeE (suV n) (.plc nmI) ++ codeE (suV n) (exV a d) ++ [5, firstV (suV n) 0 nmL, lenOf (suV n) nmL]) false := swrite_setx (write_all _ hlen _ (wI n).1) (write_all _ hlen _ wv.1) (slL n) (by show (0 : Int) ≤ n ∧ (n : Int) ≤ 255; omega)
  have t1 : SWriteOkL (suV n) sp (.setx nmL (.plc nmI) (exV a d)) (fun _ => codeE (suV n) (.plc nmI) ++ codeE (suV n) (exV a d) ++ [5, firstV (suV n) 0 nmL, lenOf (suV n) nmL]) false := SWriteOk.toL @s1
  have b1 := @AllWL.cons (suV n) sp _ _ _ _ _ _ @t1 .nil
  have s2 : SWriteOk (suV n) sp (.set nmS exU) (fun _ => codeE (suV n) exU ++ [3, firstV (suV n) 0 nmS]) false := swrite_set (write_all _ hlen _ wu.1) (slS n)
  have t2 : SWriteOkL (suV n) sp (.set nmS exU) (fun _ => codeE (suV n) exU ++ [3, firstV (suV n) 0 nmS]) false := SWriteOk.toL @s2
  have b2 := @AllWL.cons (suV n) sp _ _ _ _ _ _ @t2 .nil
  have u1 : SWriteOkL (suV n) sp (.loop nmI 0 ((n : Int) - 1) (suB1 a d)) (fun p => loopB (suV n) nmI 0 ((n : Int) - 1) ++ _ ++ [20]) _ := swrite_loop (by omega) (by omega) (by rw [hr]; omega) (by rw [hr]; omega) b1 (by show 1 ≤ 1000000; decide) (slI n)
  have u3 : SWriteOkL (suV n) sp (.loop nmI 0 ((n : Int) - 1) suB2) (fun p => loopB (suV n) nmI 0 ((n : Int) - 1) ++ _ ++ [20]) _ := swrite_loop (by omega) (by omega) (by rw [hr]; omega) (by rw [hr]; omega) b2 (by show 1 ≤ 1000000; decide) (slI n)
  have s4 : SWriteOk (suV n) sp (.set nmS (.lit 0)) (fun _ => codeE (suV n) (.lit 0) ++ [3, firstV (suV n) 0 nmS]) false := swrite_set write_lit (slS n)
  have u2 : SWriteOkL (suV n) sp (.set nmS (.lit 0)) (fun _ => codeE (suV n) (.lit 0) ++ [3, firstV (suV n) 0 nmS]) false := SWriteOk.toL @s4
  have s5 : SWriteOk (suV n) sp (.set nmE (.idx nmL (.plc nmK))) (fun _ => codeE (suV n) (.idx nmL (.plc nmK)) ++ [3, firstV (suV n) 0 nmE]) false := swrite_set (write_all _ hlen _ (wLK n).1) (slE n)
  have u4 : SWriteOkL (suV n) sp (.set nmE (.idx nmL (.plc nmK))) (fun _ => codeE (suV n) (.idx nmL (.plc nmK)) ++ [3, firstV (suV n) 0 nmE]) false := SWriteOk.toL @s5
  have s6 : SWriteOk (suV n) sp (.set nmJ (.plc nmI)) (fun _ => codeE (suV n) (.plc nmI) ++ [3, firstV (suV n) 0 nmJ]) false := swrite_set (write_all _ hlen _ (wI n).1) (slJ n)
  have u5 : SWriteOkL (suV n) sp (.set nmJ (.plc nmI)) (fun _ => codeE (suV n) (.plc nmI) ++ [3, firstV (suV n) 0 nmJ]) false := SWriteOk.toL @s6
  have hw := @AllWL.cons (suV n) sp _ _ _ _ _ _ @u1 (@AllWL.cons (suV n) sp _ _ _ _ _ _ @u2 (@AllWL.cons (suV n) sp _ _ _ _ _ _ @u3 (@AllWL.cons (suV n) sp _ _ _ _ _ _ @u4 (@AllWL.cons (suV n) sp _ _ _ _ _ _ @u5 .nil))))
  have hb1 : ((n : Int) - 1 - 0 + 1) = n := by omega
  have hmx : max (0 : Int) ((n : Int) - 1 - 0 + 1) = n := by omega
  obtain ⟨f, hfw, hf0⟩ : ∃ f, AllWL (suV n) sp (suS n a d) f false ∧ f 0 = (flat 0 (suC n a d)).flatten := by
    refine ⟨_, hw, ?_⟩
    simp only [loopB, hr, sfI, sfS, sfE, sfJ, sfL, sgL, suC, loopC, flat, List.flatten_append, flat_cdE, List.flatten_cons, List.flatten_nil, List.append_nil, suI, List.append_assoc, List.cons_append, List.nil_append]
  refine ⟨f, { vr := ?_, rd := ?_, dep := ?_, low := suMem lowK lowL lowI lowS lowE lowJ, dis := ?_, us := ?_, wv := ?_, ck := ?_, co := ?_, cost := ?_, wr := (by rw [← hsp]; exact hfw), ln := ?_, bl := ?_, cd := ?_, ci := ?_ }, ?_⟩
  · exact suMem ⟨by decide, var_plain lowK (by decide) rfl rfl⟩ ⟨show 2 < 3 by decide, var_array lowL (show 2 < 3 by decide) rfl (by show (0 : Int) ≤ n ∧ (n : Int) ≤ 9223372036854775807; omega)⟩ ⟨by decide, var_plain lowI (by decide) rfl rfl⟩ ⟨by decide, var_plain lowS (by decide) rfl rfl⟩ ⟨by decide, var_plain lowE (by decide) rfl rfl⟩ ⟨by decide, var_plain lowJ (by decide) rfl rfl⟩
  · exact ⟨stmt_loop lowI (by omega) (by omega) r1, stmt_set lowS (expr_lit (by omega)), stmt_loop lowI (by omega) (by omega) r2, stmt_set lowE (expr_idx lowL (expr_plc lowK)), stmt_set lowJ (expr_plc lowI), trivial⟩
  · have e : depL (suS n a d) = depL (suS 1 0 0) := rfl
    rw [e]
    decide
  · have e : (suV n).map (·.name) = [nmK, nmL, nmI, nmS, nmE, nmJ] := rfl
    rw [e]
    decide
  · intro u hu
    have e : namesL (suS n a d) = [nmI, nmL, nmI, nmI, nmS, nmI, nmS, nmS, nmL, nmI, nmE, nmL, nmK, nmJ, nmI] := rfl
    rw [e] at hu
    simp only [List.mem_cons, List.not_mem_nil, or_false] at hu
    have hI : ∃ v ∈ suV n, nmI = v.name := ⟨_, (lookV_mem _ _ _ (slI n)).1, rfl⟩
    have hL : ∃ v ∈ suV n, nmL = v.name := ⟨_, (lookV_mem _ _ _ (slL n)).1, rfl⟩
    have hS : ∃ v ∈ suV n, nmS = v.name := ⟨_, (lookV_mem _ _ _ (slS n)).1, rfl⟩
    have hE : ∃ v ∈ suV n, nmE = v.name := ⟨_, (lookV_mem _ _ _ (slE n)).1, rfl⟩
    have hK : ∃ v ∈ suV n, nmK = v.name := ⟨_, (lookV_mem _ _ _ (slK n)).1, rfl⟩
    have hJ : ∃ v ∈ suV n, nmJ = v.name := ⟨_, (lookV_mem _ _ _ (slJ n)).1, rfl⟩
    rcases hu with rfl | rfl | rfl | rfl | rfl | rfl | rfl | rfl | rfl | rfl | rfl | rfl | rfl | rfl | rfl <;> assumption
  · refine suMem (by decide) ⟨?_, show 2 < 3 by decide, show 2 ≤ 3 by decide⟩ (by decide) (by decide) (by decide) (by decide)
    simp only [wtV, Bool.and_eq_true, Bool.or_eq_true, decide_eq_true_eq]
    omega
  · have c1 : CheckOk (suV n) [nmI] (.setx nmL (.plc nmI) (exV a d)) := check_setx (kind_all _ _ (wI n).1) (kind_all _ _ wv.1) (by unfold wtSetx; rw [slL]; simp only [(wI n).1, (wI n).2, wv.1, wv.2]; first | decide | kernel_rfl) (by decide)
    have c2 : CheckOk (suV n) [nmI] (.set nmS exU) := check_set (kind_all _ _ wu.1) (by unfold wtSet; rw [slS]; simp only [wu.1, wu.2]; decide) (by decide)
    have d1 : AllCkL (suV n) ([] ++ [nmI]) (suB1 a d) := ⟨CheckOk.toL @c1, trivial⟩
    have d2 : AllCkL (suV n) ([] ++ [nmI]) suB2 := ⟨CheckOk.toL @c2, trivial⟩
    have hin : inI 0 = true ∧ inI ((n : Int) - 1) = true := by
      simp only [inI, Bool.and_eq_true, decide_eq_true_eq]
      omega
    have c3 : CheckOk (suV n) [] (.set nmS (.lit 0)) := check_set (kind_all _ _ (wLit n 0 (by omega)).1) (by unfold wtSet; rw [slS]; simp only [(wLit n 0 (by omega)).1, (wLit n 0 (by omega)).2]; decide) (by decide)
    have c4 : CheckOk (suV n) [] (.set nmE (.idx nmL (.plc nmK))) := check_set (kind_all _ _ (wLK n).1) (by unfold wtSet; rw [slE]; simp only [(wLK n).1, (wLK n).2]; decide) (by decide)
    have c5 : CheckOk (suV n) [] (.set nmJ (.plc nmI)) := check_set (kind_all _ _ (wI n).1) (by unfold wtSet; rw [slJ]; simp only [(wI n).1, (wI n).2]; decide) (by decide)
    exact ⟨check_loop (slI n) rfl (.inl ⟨rfl, hin.1, hin.2⟩) rfl (by decide) d1 (by show 1 ≤ 1000000; decide) (by decide), CheckOk.toL @c3, check_loop (slI n) rfl (.inl ⟨rfl, hin.1, hin.2⟩) rfl (by decide) d2 (by show 1 ≤ 1000000; decide) (by decide), CheckOk.toL @c4, CheckOk.toL @c5, trivial⟩
  · have o1 : AllCo (kE (suV n)) (suB1 a d) := ⟨scost_setx (cost_all _ _) (cost_all _ _), by show (0 : Int) ≤ 7; decide, trivial⟩
    have o2 : AllCo (kE (suV n)) suB2 := ⟨scost_set (cost_all _ _), by decide, trivial⟩
    have p1 : 0 ≤ cS (.loop nmI 0 ((n : Int) - 1) (suB1 a d)) := by
      simp only [cS]
      rw [hmx]
      have : costL (suB1 a d) = 7 := rfl
      rw [this]
      omega
    have p2 : 0 ≤ cS (.loop nmI 0 ((n : Int) - 1) suB2) := by
      simp only [cS]
      rw [hmx]
      have : costL suB2 = 5 := rfl
      rw [this]
      omega
    exact ⟨scost_loop (by omega) (by omega) o1 (by show 1 ≤ 1000000; decide) (by show (7 : Int) ≤ 4000; decide), p1, scost_set (cost_all _ _), by decide, scost_loop (by omega) (by omega) o2 (by show 1 ≤ 1000000; decide) (by show (5 : Int) ≤ 4000; decide), p2, scost_set (cost_all _ _), by decide, scost_set (cost_all _ _), by decide, trivial⟩
  · have e1 : costL (suB1 a d) = 7 := rfl
    have e2 : costL suB2 = 5 := rfl
    have e3 : cS (.set nmS (.lit 0)) = 2 := rfl
    have e4 : cS (.set nmE (.idx nmL (.plc nmK))) = 3 := rfl
    have e5 : cS (.set nmJ (.plc nmI)) = 2 := rfl
    simp only [suS, costL, e3, e4, e5]
    simp only [cS]
    rw [hmx, e1, e2]
    omega
  · refine ⟨by show 0 < 6; decide, by show 6 ≤ 1000; decide, ?_⟩
    simp only [suV, lenV]
    omega
  · exact ⟨by show 5 ≤ 1000; decide, by show 15 ≤ 1000; decide⟩
  · rw [hf0, flat_sz]
    have := suSz n a d
    omega
  · rw [hf0]
    exact flat_in (suWf n hn a d) 0
  · exact hf0

end Go.Proofs.YtidhiaaicmfabaaGreatDoor
