/- The text of Timed and its machine. -/
import Derived.Test.YtidhiaaicmfabaaGreatDoorKaA
import Derived.WalkKit
import Derived.WalkSpells
import Derived.WalkLawsBesides
import Derived.Deep.OwnRows
import Derived.BigQuiet
import Derived.Handy
import Derived.Deep.Light
import Derived.Deep.RegionHeld3
import Derived.Deep.RegionWith
import Derived.Test.YtidhiaaicmfabaaGreatDoorJzG
import Derived.Test.YtidhiaaicmfabaaGreatDoorJzP
import Derived.Test.YtidhiaaicmfabaaGreatDoorJzQ
import Derived.Test.YtidhiaaicmfabaaGreatDoorJzH
import Derived.Test.YtidhiaaicmfabaaGreatDoorJzF
import Derived.Laws.IdiomStrings

/- The parts of a text, over lists of bytes (seat .ZD alone). -/
namespace Go.Proofs.YtidhiaaicmfabaaGreatDoor
open Go.RowKit Go.Proofs Go.Deep

def ba (l : List UInt8) : ByteArray := ⟨l.toArray⟩
theorem ba_size (l : List UInt8) : (ba l).size = l.length := by simp [ba, ByteArray.size]
theorem ba_bt (l : List UInt8) (i : Nat) (c : UInt8) (h : l[i]? = some c) : bt (ba l) i = c.toNat := by
  have hi : i < l.length := (List.getElem?_eq_some_iff.1 h).1
  have hb := bt_of (ba l) i (by rw [ba_size]; exact hi)
  rw [← hb]
  have h3 : (ba l).data[i]? = some c := by simp only [ba, List.getElem?_toArray]; exact h
  obtain ⟨_, h5⟩ := Array.getElem?_eq_some_iff.1 h3
  show ((ba l).data[i]).toNat = _
  rw [h5]
def tw (f : Nat → Bool) : List UInt8 → Nat
  | [] => 0
  | c :: r => if f c.toNat then tw f r + 1 else 0
theorem cnt_tw (f : Nat → Bool) (l : List UInt8) : ∀ (k i : Nat), l.length ≤ i + k → i ≤ l.length → cntF f (ba l) k i = i + tw f (l.drop i)
  | 0, i, h, h2 => by
    have : l.drop i = [] := List.drop_eq_nil_of_le (by omega)
    rw [this]
    simp [cntF, tw]
  | k + 1, i, h, h2 => by
    simp only [cntF, ba_size]
    by_cases hi : i < l.length
    · have hd := List.drop_eq_getElem_cons hi
      rw [hd, tw, ba_bt l i _ (List.getElem?_eq_getElem hi)]
      by_cases hf : f l[i].toNat = true
      · rw [if_pos hf, if_pos (by simp [hi, hf]), cnt_tw f l k (i + 1) (by omega) (by omega)]
        omega
      · rw [if_neg hf, if_neg (by simp [hf])]
        rfl
    · have : l.drop i = [] := List.drop_eq_nil_of_le (by omega)
      rw [this, if_neg (by simp [hi])]
      rfl
theorem ba_extract (l : List UInt8) (a b : Nat) : (ba l).extract a b = ba ((l.drop a).take (b - a)) := by
  apply ByteArray.ext
  simp only [ba, ByteArray.data_extract, List.extract_toArray, List.extract_eq_take_drop]
def fl : List UInt8 → Nat
  | [] => 0
  | c :: r => if isBl c.toNat then 1 else if isLt c.toNat then tw isWd (c :: r) else if isDg c.toNat then tw isDg (c :: r) else if (c :: r).take 2 == [58, 61] then 2 else if isSg c.toNat then 1 else 0
theorem hp_list (c : UInt8) (r : List UInt8) : hpV (ba (c :: r)) asgB = ((c :: r).take 2 == [58, 61]) := by
  unfold hpV
  have e1 : asgB.size = 2 := rfl
  have e2 : asgB.toList = [58, 61] := by kernel_rfl
  rw [e1, e2, ba_extract, ba_size, ByteArray.toList_eq]
  simp only [List.drop_zero, ba, Nat.sub_zero]
  cases r with
  | nil => simp
  | cons d r => simp
theorem fl_list (l : List UInt8) (h : l ≠ []) : flV (ba l) = fl l := by
  cases l with
  | nil => exact absurd rfl h
  | cons c r =>
    unfold flV fl
    rw [ba_bt (c :: r) 0 c rfl, hp_list, cnt_tw isWd (c :: r) _ 0 (by rw [ba_size]; omega) (Nat.zero_le _), cnt_tw isDg (c :: r) _ 0 (by rw [ba_size]; omega) (Nat.zero_le _)]
    simp only [Nat.zero_add, List.drop_zero]
/-- The parts of a text, over lists. -/
def spL : Nat → List UInt8 → Option (List (List UInt8))
  | 0, _ => some []
  | _ + 1, [] => some []
  | k + 1, c :: r => if fl (c :: r) = 0 then none else (spL k ((c :: r).drop (fl (c :: r)))).map (fun q => if isBl c.toNat then q else (c :: r).take (fl (c :: r)) :: q)
theorem sp_list : ∀ (k : Nat) (l : List UInt8), spF k (ba l) = (spL k l).map (fun q => q.map ba)
  | 0, _ => rfl
  | k + 1, [] => rfl
  | k + 1, c :: r => by
    rw [spF, spL, ba_size, if_neg (by simp), fl_list _ (by simp), ba_bt (c :: r) 0 c rfl]
    by_cases h : fl (c :: r) = 0
    · rw [if_pos h, if_pos h]; rfl
    · have e : ((c :: r).drop (fl (c :: r))).take ((c :: r).length - fl (c :: r)) = (c :: r).drop (fl (c :: r)) := List.take_of_length_le (by rw [List.length_drop]; exact Nat.le_refl _)
      rw [if_neg h, if_neg h, ba_extract, ba_extract, List.drop_zero, Nat.sub_zero, e, sp_list k]
      rw [Option.map_map, Option.map_map]
      congr 1
      funext q
      simp only [Function.comp]
      by_cases hb : isBl c.toNat = true
      · simp [hb]
      · simp [hb]
theorem tw_digs (r : List UInt8) (hr : ∀ c, r.head? = some c → isDg c.toNat = false) : ∀ l : List UInt8, (∀ c ∈ l, isDg c.toNat = true) → tw isDg (l ++ r) = l.length
  | [], _ => by
    cases r with
    | nil => rfl
    | cons c r => simp [tw, hr c rfl]
  | c :: l, h => by
    rw [List.cons_append, tw, if_pos (h c (List.mem_cons_self ..)), tw_digs r hr l (fun d hd => h d (List.mem_cons_of_mem _ hd))]
    rfl
/-- The first n parts of a text (blanks too), and what is left. -/
def spR : Nat → List UInt8 → List (List UInt8) → Option (List (List UInt8) × List UInt8)
  | 0, l, acc => some (acc, l)
  | _ + 1, [], _ => none
  | n + 1, c :: r, acc => if fl (c :: r) = 0 then none else spR n ((c :: r).drop (fl (c :: r))) (if isBl c.toNat then acc else acc ++ [(c :: r).take (fl (c :: r))])
theorem spR_spL : ∀ (n : Nat) (l : List UInt8) (acc acc' : List (List UInt8)) (rest : List UInt8) (k : Nat) (q : List (List UInt8)), spR n l acc = some (acc', rest) → spL k rest = some q → ∃ q', spL (k + n) l = some q' ∧ acc ++ q' = acc' ++ q
  | 0, l, acc, acc', rest, k, q, h, hq => by
    simp only [spR, Option.some.injEq, Prod.mk.injEq] at h
    obtain ⟨rfl, rfl⟩ := h
    exact ⟨q, hq, rfl⟩
  | n + 1, [], acc, acc', rest, k, q, h, hq => by simp [spR] at h
  | n + 1, c :: r, acc, acc', rest, k, q, h, hq => by
    rw [spR] at h
    by_cases h0 : fl (c :: r) = 0
    · rw [if_pos h0] at h; cases h
    · rw [if_neg h0] at h
      obtain ⟨q', h1, h2⟩ := spR_spL n _ _ acc' rest k q h hq
      rw [show k + (n + 1) = (k + n) + 1 by omega, spL, if_neg h0, h1]
      by_cases hb : isBl c.toNat = true
      · rw [if_pos hb] at h2
        exact ⟨q', by simp [hb], h2⟩
      · rw [if_neg hb] at h2
        refine ⟨(c :: r).take (fl (c :: r)) :: q', by simp [hb], ?_⟩
        rw [← h2, List.append_assoc]
        rfl
theorem spL_num (l r : List UInt8) (hl : l ≠ []) (hd : ∀ c ∈ l, isDg c.toNat = true) (hr : ∀ c, r.head? = some c → isDg c.toNat = false) (k : Nat) (q : List (List UInt8)) (h : spL k r = some q) : spL (k + 1) (l ++ r) = some (l :: q) := by
  cases l with
  | nil => exact absurd rfl hl
  | cons c l =>
    have h1 := hd c (List.mem_cons_self ..)
    have h1' := h1
    simp only [isDg, Bool.and_eq_true, decide_eq_true_eq] at h1
    have hb : isBl c.toNat = false := by simp [isBl]; omega
    have hl2 : isLt c.toNat = false := by simp [isLt]; omega
    have e : fl ((c :: l) ++ r) = (c :: l).length := by
      rw [List.cons_append, fl, hb, hl2, h1', ← List.cons_append, tw_digs r hr _ hd]
      simp
    have e2 : fl (c :: (l ++ r)) = (c :: l).length := e
    rw [List.cons_append, spL, e2, if_neg (by simp), ← List.cons_append, List.drop_left, List.take_left, h]
    simp [hb]

end Go.Proofs.YtidhiaaicmfabaaGreatDoor

/- The text of Timed is right (seat .ZD alone). -/
namespace Go.Proofs.YtidhiaaicmfabaaGreatDoor
open Go.RowKit Go.Proofs Go.Deep

def nmTm : ByteArray := ⟨#[116]⟩
theorem lowTm : LowName nmTm := low1 116 (by decide) (by decide)
def tmV : List Vd := [⟨nmA, 0, 0, false, 1⟩, ⟨nmTm, 2, 3, false, 1⟩, ⟨nmQ, 1, 0, false, 1⟩]
def exT (p : Nat) : Ex := .dly nmTm (.plc nmA) (.lit p)
def tmS (p : Nat) : Sl := .cons (.set nmQ (exT p)) .nil
def tmF (p : Nat) : Nat → List Int := fun a => (fun _ => codeE tmV (exT p) ++ [3, firstV tmV 0 nmQ]) a ++ (fun _ => []) (a + ((fun _ => codeE tmV (exT p) ++ [3, firstV tmV 0 nmQ]) a).length)
theorem tmF0 (p : Nat) : tmF p 0 = [2, 0, 1, (p : Int) / 16777216 % 256, (p : Int) / 65536 % 256, (p : Int) / 256 % 256, (p : Int) % 256, 21, 1, 3, 2] := by
  have h1 : firstV tmV 0 nmQ = 2 := by kernel_rfl
  have h2 : firstV tmV 0 nmA = 0 := by kernel_rfl
  have h3 : firstV tmV 0 nmTm = 1 := by kernel_rfl
  simp only [tmF, exT, codeE, numB, h1, h2, h3, List.cons_append, List.nil_append, List.append_nil]
theorem tkA : lookV tmV nmA = some ⟨nmA, 0, 0, false, 1⟩ := by kernel_rfl
theorem tkT : lookV tmV nmTm = some ⟨nmTm, 2, 3, false, 1⟩ := by kernel_rfl
theorem tkQ : lookV tmV nmQ = some ⟨nmQ, 1, 0, false, 1⟩ := by kernel_rfl
theorem tmMem {P : Vd → Prop} (h0 : P ⟨nmA, 0, 0, false, 1⟩) (h1 : P ⟨nmTm, 2, 3, false, 1⟩) (h2 : P ⟨nmQ, 1, 0, false, 1⟩) : ∀ v ∈ tmV, P v := by
  intro v hv
  unfold tmV at hv
  simp only [List.mem_cons, List.not_mem_nil, or_false] at hv
  rcases hv with rfl | rfl | rfl <;> assumption
theorem tmWt (p : Nat) (hp : p < 1000) : wtE tmV (.lit p) = true ∧ kE tmV (.lit p) = 1 ∧ wtE tmV (exT p) = true := by
  have h1 : wtE tmV (.lit p) = true := by
    simp only [wtE, Bool.and_eq_true, decide_eq_true_eq]
    omega
  have h2 : kE tmV (.lit p) = 1 := by
    simp only [kE]
    rw [if_pos (by omega)]
  have hA : wtE tmV (.plc nmA) = true := by kernel_rfl
  have kA : kE tmV (.plc nmA) = 0 := by kernel_rfl
  refine ⟨h1, h2, ?_⟩
  unfold exT
  rw [wtE, tkT, hA, kA, h1, h2]
  rfl
theorem tmWs (p : Nat) (hp : p < 1000) : wtSet tmV [] nmQ (exT p) = true := by
  unfold wtSet
  rw [tkQ]
  simp only [(tmWt p hp).2.2]
  rfl
theorem tmTx (p : Nat) (hp : p < 1000) : Tx tmV (tmS p) (tmF p) := by
  have kA : KindOk tmV (.plc nmA) := kindOk_plc (by kernel_rfl)
  refine { vr := tmMem ⟨by decide, var_plain lowA (by decide) rfl rfl⟩ ⟨by decide, var_timer lowTm rfl rfl rfl⟩ ⟨by decide, var_plain lowQ (by decide) rfl rfl⟩, rd := ?_, dep := ?_, low := tmMem lowA lowTm lowQ, dis := ?_, us := ?_, wv := tmMem (by decide) (by decide) (by decide), ck := ?_, co := ?_, cost := ?_, wr := ?_, ln := ?_, bl := ?_, cd := ?_, ci := ?_ }
  · exact ⟨stmt_set lowQ (expr_dly lowTm (expr_plc lowA) (expr_lit (by omega))), trivial⟩
  · have e : depL (tmS p) = depL (tmS 0) := rfl
    rw [e]
    decide
  · have hne : nmA ≠ nmTm ∧ nmA ≠ nmQ ∧ nmTm ≠ nmQ := by decide
    simp only [tmV, List.map_cons, List.map_nil, List.nodup_cons, List.mem_cons, List.not_mem_nil, or_false, not_or, not_false_eq_true, List.nodup_nil, and_true]
    exact ⟨⟨hne.1, hne.2.1⟩, hne.2.2⟩
  · intro u hu
    have hu2 : u ∈ [nmQ, nmTm, nmA] := hu
    simp only [List.mem_cons, List.not_mem_nil, or_false] at hu2
    rcases hu2 with rfl | rfl | rfl
    · exact ⟨_, (lookV_mem _ _ _ tkQ).1, rfl⟩
    · exact ⟨_, (lookV_mem _ _ _ tkT).1, rfl⟩
    · exact ⟨_, (lookV_mem _ _ _ tkA).1, rfl⟩
  · exact ⟨check_set (kind_dly kA (kind_lit (tmWt p hp).1) (tmWt p hp).2.2) (tmWs p hp) (by decide), trivial⟩
  · exact ⟨scost_set (cost_dly cost_plc cost_lit), by rw [show cS (.set nmQ (exT p)) = cS (.set nmQ (exT 0)) from rfl]; decide, trivial⟩
  · have e : costL (tmS p) = costL (tmS 0) := rfl
    rw [e]
    decide
  · have w1 : WriteOk tmV (exT p) := write_dly tkT (write_plc tkA) write_lit
    have s1 : SWriteOk tmV ((cellsB tmV).length : Int) (.set nmQ (exT p)) (fun _ => codeE tmV (exT p) ++ [3, firstV tmV 0 nmQ]) false := swrite_set w1 tkQ
    exact @AllW.cons tmV ((cellsB tmV).length : Int) (.set nmQ (exT p)) .nil (fun _ => codeE tmV (exT p) ++ [3, firstV tmV 0 nmQ]) (fun _ => []) false false (@s1) .nil
  · exact ⟨by decide, by decide, by decide⟩
  · exact ⟨by show 1 ≤ 1000; decide, by show 3 ≤ 1000; decide⟩
  · rw [tmF0]; simp
  · rw [tmF0]
    intro n hn
    simp only [List.mem_cons, List.not_mem_nil, or_false] at hn
    omega

end Go.Proofs.YtidhiaaicmfabaaGreatDoor

/- The parts of Timed's text (seat .ZD alone). -/
namespace Go.Proofs.YtidhiaaicmfabaaGreatDoor
open Go.RowKit Go.Proofs Go.Deep

def tmPre : List UInt8 := [73, 78, 32, 97, 58, 32, 66, 79, 79, 76, 59, 32, 86, 65, 82, 32, 116, 58, 32, 84, 73, 77, 69, 82, 59, 32, 79, 85, 84, 32, 113, 58, 32, 66, 79, 79, 76, 59, 32, 66, 69, 71, 73, 78, 32, 113, 32, 58, 61, 32, 84, 79, 78, 40, 116, 44, 32, 97, 44, 32]
def tmPost : List UInt8 := [41, 59, 32, 69, 78, 68]
def tmPreT : List (List UInt8) := [[73, 78], [97], [58], [66, 79, 79, 76], [59], [86, 65, 82], [116], [58], [84, 73, 77, 69, 82], [59], [79, 85, 84], [113], [58], [66, 79, 79, 76], [59], [66, 69, 71, 73, 78], [113], [58, 61], [84, 79, 78], [40], [116], [44], [97], [44]]
def tmPostT : List (List UInt8) := [[41], [59], [69, 78, 68]]
theorem tmPreR (t : List UInt8) : spR 38 (tmPre ++ t) [] = some (tmPreT, t) := by kernel_rfl
theorem tmPostR : spR 4 tmPost [] = some (tmPostT, []) := by kernel_rfl
theorem spL_nil (k : Nat) : spL k [] = some [] := by cases k <;> rfl
theorem digs_dg (n : Nat) : ∀ c ∈ digs n, isDg c.toNat = true := by
  induction n using Nat.strongRecOn with
  | ind n ih =>
    intro c hc
    rw [digs] at hc
    by_cases h : n < 10
    · rw [dif_pos h] at hc
      simp only [List.mem_cons, List.not_mem_nil, or_false] at hc
      subst hc
      rw [digit_nat h]
      simp [isDg]
      omega
    · rw [dif_neg h] at hc
      rcases List.mem_append.1 hc with h1 | h1
      · exact ih (n / 10) (by omega) c h1
      · simp only [List.mem_cons, List.not_mem_nil, or_false] at h1
        subst h1
        rw [digit_nat (Nat.mod_lt _ (by omega))]
        simp [isDg]
        omega
def tmText (p : Nat) : ByteArray := ba (tmPre ++ (digs p ++ tmPost))
theorem tmToks (p : Nat) : toksP tmV (tmS p) = (tmPreT ++ (digs p :: tmPostT)).map ba := by
  have e : litW (p : Int) = [numW p] := by
    unfold litW
    rw [if_neg (by omega)]
    rfl
  have e2 : toks (.lit (p : Int)) = [numW p] := e
  have e3 : toksP tmV (tmS p) = [wIN, nmA, wCO, wBOOL, wSC, wVAR, nmTm, wCO, wTIMER, wSC, wOUT, nmQ, wCO, wBOOL, wSC, wBEGIN, nmQ, wAS, wTON, wLP, nmTm, wCM, nmA, wCM] ++ (toks (.lit (p : Int)) ++ [wRP, wSC, wEND]) := rfl
  rw [e3, e2]
  rfl
theorem tmSp (p : Nat) : spF (tmText p).size (tmText p) = some (toksP tmV (tmS p)) := by
  unfold tmText
  rw [sp_list, ba_size]
  have hlen : (tmPre ++ (digs p ++ tmPost)).length = ((23 + (digs p).length) + 4 + 1) + 38 := by
    simp only [List.length_append]
    rw [show tmPre.length = 60 from rfl, show tmPost.length = 6 from rfl]
    omega
  rw [hlen]
  obtain ⟨q1, h1, h2⟩ := spR_spL 4 tmPost [] tmPostT [] (23 + (digs p).length) [] tmPostR (spL_nil _)
  have h3 := spL_num (digs p) tmPost (by obtain ⟨_, _, _, e⟩ := digs_head p; rw [e]; simp) (digs_dg p) (fun c hc => by
    have : c = 41 := by simpa [tmPost] using hc.symm
    subst this
    decide) _ q1 h1
  obtain ⟨q2, h4, h5⟩ := spR_spL 38 (tmPre ++ (digs p ++ tmPost)) [] tmPreT _ _ _ (tmPreR _) h3
  rw [h4]
  rw [List.nil_append] at h2 h5
  rw [List.append_nil] at h2
  subst h2
  rw [h5, tmToks]
  rfl
theorem tmSize (p : Nat) (hp : p < 1000) : (tmText p).size ≤ 700 := by
  unfold tmText
  rw [ba_size, List.length_append, List.length_append]
  have := digs_len 2 p (by omega)
  have e1 : tmPre.length = 60 := rfl
  have e2 : tmPost.length = 6 := rfl
  omega

end Go.Proofs.YtidhiaaicmfabaaGreatDoor

/- pick (seat .ZD alone). -/
namespace Go.Proofs.YtidhiaaicmfabaaGreatDoor
open Go.RowKit Go.Proofs Go.Deep

theorem pick_bd (x n : Int) (hn : 0 < n) : 0 ≤ pickV x n ∧ pickV x n < n := by
  unfold pickV
  exact ⟨Int.emod_nonneg _ (by omega), Int.emod_lt_of_pos _ hn⟩

end Go.Proofs.YtidhiaaicmfabaaGreatDoor

/- digits of small numbers (seat .ZD alone). -/
namespace Go.Proofs.YtidhiaaicmfabaaGreatDoor
open Go.RowKit Go.Proofs Go.Deep

theorem conv1 (W : World) (n : Nat) (hn : n ≤ 255) : (convert 133 9 (.slice (some ⟨W.heap.size, 0, none⟩) 1 1)).run Tryz.prog (W.alloc (.cells #[.int .u8 (n : Int)] 5)) = .ok (.string (ba [UInt8.ofNat n])) (W.alloc (.cells #[.int .u8 (n : Int)] 5)) := by
  refine run_convert_bytes_back (P := Tryz.prog) (W.alloc (.cells #[.int .u8 (n : Int)] 5)) 133 9 5 ⟨W.heap.size, 0, none⟩ 1 [UInt8.ofNat n] (by kernel_rfl) (by kernel_rfl) (by kernel_rfl) (fun j hj => ?_)
  have : j = 0 := by simp at hj; omega
  subst this
  have hadd : (⟨W.heap.size, 0, none⟩ : Addr).add 0 = ⟨W.heap.size, 0, none⟩ := by unfold Addr.add; split <;> simp_all
  rw [hadd, cell_of_row _ _ 0 _ _ (0, 0) (heap_alloc_new W _)]
  have e : (UInt8.ofNat n).toNat = n := by simp; omega
  simp
  omega

def dB (m : Nat) : UInt8 := UInt8.ofNat (48 + m % 10)
theorem ba_app (a b : List UInt8) : ba a ++ ba b = ba (a ++ b) := by
  apply ByteArray.ext
  rw [ByteArray.data_append]
  simp [ba]
theorem conv1d (W : World) (n : Nat) : (convert 133 9 (.slice (some ⟨W.heap.size, 0, none⟩) 1 1)).run Tryz.prog (W.alloc (.cells #[.int .u8 (48 + (n : Int) % 10)] 5)) = .ok (.string (ba [dB n])) (W.alloc (.cells #[.int .u8 (48 + (n : Int) % 10)] 5)) := by
  have := conv1 W (48 + n % 10) (by omega)
  have e : ((48 + n % 10 : Nat) : Int) = 48 + (n : Int) % 10 := by omega
  rw [e] at this
  exact this
set_option maxRecDepth 100000 in
theorem digits_pos (w : World) (n : Nat) (hn : n < 100000) (R : Ending → World → Prop) (fin : ∀ w', Below w.heap.size w w' → R (.returned (.string (ba (digs n)))) w') : Calls Tryz.prog 38 #[.int .i64 n] w R := by
  replace fin := hd fin
  have d0 : decide ((n : Int) < 0) = false := by simp
  have hcv := conv1d w n
  go_enter Tryz.func38, Tryz.ntmps38
  go_wp2
  have b0 := hd ((Below.refl w.heap.size w).alloc (Nat.le_refl _) (Obj.cells #[.int .u8 (48 + (n : Int) % 10)] 5))
  go_loopw [0, 3] (fun nv sv wr => ∃ (m : Nat) (r : List UInt8), m < 100000 ∧ nv = .int .i64 (m : Int) ∧ sv = .string (ba (dB m :: r)) ∧ r.length + m ≤ 100000 ∧ digs n = (if m < 10 then [] else digs (m / 10)) ++ dB m :: r ∧ Below w.heap.size w wr) (fun nv _ _ => (intOf nv).toNat)
  case atStart =>
    refine ⟨n, [], hn, rfl, rfl, by simp; omega, ?_, b0.out⟩
    rw [digs]
    by_cases h : n < 10
    · rw [dif_pos h, if_pos h]; simp only [dB, Nat.mod_eq_of_lt h]; rfl
    · rw [dif_neg h, if_neg h]; rfl
  case round =>
    obtain ⟨m, r, hm, rfl, rfl, hl, hD, hb⟩ := hrel
    by_cases h : m < 10
    · have dd : decide ((10 : Int) ≤ (m : Int)) = false := by simp; omega
      have dd2 : decide ((m : Int) ≥ 10) = false := by simp; omega
      rw [if_pos h, List.nil_append] at hD
      replace hD := hd hD
      replace hb := hd hb
      go_wp2
      exact cl1 (fin.out _ hb.out) (by rw [hD.out]; rfl)
    · have dd : decide ((10 : Int) ≤ (m : Int)) = true := by simp; omega
      have dd2 : decide ((m : Int) ≥ 10) = true := by simp; omega
      have hcv2 := conv1d wr (m / 10)
      rw [show (((m / 10 : Nat)) : Int) = (m : Int) / 10 by omega] at hcv2
      have hb2 := hd (hb.trans (((Below.refl _ wr).alloc (Nat.le_refl _) (Obj.cells #[.int .u8 (48 + (m : Int) / 10 % 10)] 5)).mono hb.size))
      have hz : (ba [dB (m / 10)] ++ ba (dB m :: r)) = ba (dB (m / 10) :: dB m :: r) := ba_app _ _
      have hz2 : (ba (dB m :: r)).size ≤ 100001 := by rw [ba_size]; simp only [List.length_cons]; omega
      have hz3 : (ba [dB (m / 10)]).size = 1 := by rw [ba_size]; rfl
      replace hz := hd hz
      replace hD := hd hD
      replace hb := hd hb
      go_wp2
      refine ⟨⟨m / 10, dB m :: r, by omega, ?_, by rw [← hz.out], by simp only [List.length_cons]; omega, ?_, hb2.out⟩, ?_⟩
      · rw [show (((m / 10 : Nat)) : Int) = (m : Int) / 10 by omega]
      · rw [hD.out, if_neg h]
        rw [digs]
        by_cases h2 : m / 10 < 10
        · rw [dif_pos h2, if_pos h2]
          simp only [dB, Nat.mod_eq_of_lt h2]
          rfl
        · rw [dif_neg h2, if_neg h2, List.append_assoc]
          rfl
      · simp [intOf]; omega

end Go.Proofs.YtidhiaaicmfabaaGreatDoor

/- The image of Timed's text is right (seat .ZD alone). -/
namespace Go.Proofs.YtidhiaaicmfabaaGreatDoor
open Go.RowKit Go.Proofs Go.Deep

/-- The image of the text of Timed. -/
def tmB (h l : UInt8) : ByteArray := ⟨#[83, 76, 85, 73, 67, 69, 3, 0, 8, 3, 0, 12, 2, 0, 1, 0, 0, h, l, 21, 1, 3, 2, 0]⟩
def tmP : List Nat := [0, 2, 7, 9, 11]
theorem tm_pos (h l : UInt8) : posF (codeOf (tmB h l)) ((codeOf (tmB h l)).size + 1) 0 = some tmP := by kernel_rfl
theorem tmImg (p : Nat) (hp : p < 1000) : imgS tmV (tmF p) = tmB (UInt8.ofNat (p / 256)) (UInt8.ofNat (p % 256)) := by
  unfold imgS
  rw [tmF0, show (p : Int) / 16777216 % 256 = 0 by omega, show (p : Int) / 65536 % 256 = 0 by omega, show (p : Int) / 256 % 256 = ((p / 256 : Nat) : Int) by omega, show (p : Int) % 256 = ((p % 256 : Nat) : Int) by omega]
  kernel_rfl
theorem tm_ok (h l : UInt8) : imgOk (tmB h l) 5 := by
  have h1 : (tmB h l).size = 24 := rfl
  have h2 : bt (tmB h l) 6 = 3 := by kernel_rfl
  have h3 : b16 (tmB h l) (7 + 3) = 12 := by kernel_rfl
  refine ⟨⟨by omega, ?_, by omega, by omega⟩, ?_, ⟨by rw [h1, h2, h3], by rw [h2, h3]; omega⟩, tmP, tm_pos h l, by simp [tmP], ?_, by kernel_rfl, ?_, by kernel_rfl⟩
  · rw [ByteArray.toList_eq]; kernel_rfl
  · intro i hi
    rw [h2] at hi
    have h7 : bt (tmB h l) (7 + 0) = 0 := by kernel_rfl
    have h8 : bt (tmB h l) (7 + 1) = 8 := by kernel_rfl
    have h9 : bt (tmB h l) (7 + 2) = 3 := by kernel_rfl
    have : i = 0 ∨ i = 1 ∨ i = 2 := by omega
    rcases this with rfl | rfl | rfl <;> omega
  · intro i hi
    have o0 : opL (codeOf (tmB h l)) tmP 0 = 2 := by kernel_rfl
    have o1 : opL (codeOf (tmB h l)) tmP 1 = 1 := by kernel_rfl
    have o2 : opL (codeOf (tmB h l)) tmP 2 = 21 := by kernel_rfl
    have o3 : opL (codeOf (tmB h l)) tmP 3 = 3 := by kernel_rfl
    have o4 : opL (codeOf (tmB h l)) tmP 4 = 0 := by kernel_rfl
    have c0 : cL (codeOf (tmB h l)) tmP 0 = 0 := by kernel_rfl
    have c2 : cL (codeOf (tmB h l)) tmP 2 = 1 := by kernel_rfl
    have c3 : cL (codeOf (tmB h l)) tmP 3 = 2 := by kernel_rfl
    have n0 : nL (codeOf (tmB h l)) tmP 0 = 1 := by kernel_rfl
    have n2 : nL (codeOf (tmB h l)) tmP 2 = 1 := by kernel_rfl
    have n3 : nL (codeOf (tmB h l)) tmP 3 = 1 := by kernel_rfl
    have r1 : rlOf (tmB h l) 1 = 2 := by kernel_rfl
    have r2 : rlOf (tmB h l) 2 = 1 := by kernel_rfl
    have : i = 0 ∨ i = 1 ∨ i = 2 ∨ i = 3 ∨ i = 4 := by simp [tmP] at hi; omega
    rcases this with rfl | rfl | rfl | rfl | rfl
    · rw [o0, c0, n0, h2]
      refine ⟨fun _ => ⟨by decide, by decide, fun i hi => ?_, fun h => by omega, fun h => by omega⟩, fun h => by omega⟩
      have : i = 0 := by simp at hi; omega
      subst this; exact ⟨rfl, rfl⟩
    · rw [o1]; exact ⟨fun h => by omega, fun h => by omega⟩
    · rw [o2, c2, n2, h2]
      refine ⟨fun _ => ⟨by decide, by decide, fun i hi => ?_, fun h => by rw [r1]; decide, fun h => ?_⟩, fun h => by omega⟩
      · have : i = 0 := by simp at hi; omega
        subst this; exact ⟨rfl, rfl⟩
      · exact ⟨r1, by kernel_rfl⟩
    · rw [o3, c3, n3, h2]
      refine ⟨fun _ => ⟨by decide, by decide, fun i hi => ?_, fun h => by rw [r2]; decide, fun h => by omega⟩, fun h => by omega⟩
      have : i = 0 := by simp at hi; omega
      subst this; exact ⟨rfl, rfl⟩
    · rw [o4]; exact ⟨fun h => by omega, fun h => by omega⟩
  · intro i hi hj
    have o0 : opL (codeOf (tmB h l)) tmP 0 = 2 := by kernel_rfl
    have o1 : opL (codeOf (tmB h l)) tmP 1 = 1 := by kernel_rfl
    have o2 : opL (codeOf (tmB h l)) tmP 2 = 21 := by kernel_rfl
    have o3 : opL (codeOf (tmB h l)) tmP 3 = 3 := by kernel_rfl
    have o4 : opL (codeOf (tmB h l)) tmP 4 = 0 := by kernel_rfl
    have : i = 0 ∨ i = 1 ∨ i = 2 ∨ i = 3 ∨ i = 4 := by simp [tmP] at hi; omega
    rcases this with rfl | rfl | rfl | rfl | rfl
    · rw [o0] at hj; rcases hj with h | h <;> omega
    · rw [o1] at hj; rcases hj with h | h <;> omega
    · rw [o2] at hj; rcases hj with h | h <;> omega
    · rw [o3] at hj; rcases hj with h | h <;> omega
    · rw [o4] at hj; rcases hj with h | h <;> omega
def tMd (p : Nat) (cap bs bx : Nat) (To' : Nat → Int) (bd : Int) : Md := mdFull (opL (codeOf (tmB (UInt8.ofNat (p / 256)) (UInt8.ofNat (p % 256)))) tmP) (atL tmP) (argL (codeOf (tmB (UInt8.ofNat (p / 256)) (UInt8.ofNat (p % 256)))) tmP) (cntL (codeOf (tmB (UInt8.ofNat (p / 256)) (UInt8.ofNat (p % 256)))) tmP) (fun i => bt (tmB (UInt8.ofNat (p / 256)) (UInt8.ofNat (p % 256))) (7 + i) / 3) (fun i => bt (tmB (UInt8.ofNat (p / 256)) (UInt8.ofNat (p % 256))) (7 + i) % 3) (bt (tmB (UInt8.ofNat (p / 256)) (UInt8.ofNat (p % 256))) 6) tmP.length cap bs bx To' bd
theorem t_outs (p : Nat) (cap bs bx : Nat) (To' : Nat → Int) (bd : Int) (C : Nat → Int) : outsL (tMd p cap bs bx To' bd).rl C (tMd p cap bs bx To' bd).nC = [C 2] := by kernel_rfl

end Go.Proofs.YtidhiaaicmfabaaGreatDoor

/- A scan of Timed's code (seat .ZD alone). -/
namespace Go.Proofs.YtidhiaaicmfabaaGreatDoor
open Go.RowKit Go.Proofs Go.Deep

section
variable {K : Rc}
theorem st_num {i : Nat} {C : Nat → Int} {Lf : List Int} {S : List Int} {n : Int} (h : K.op i = 1) (ha : K.arg i = n) : stepK K ⟨C, Lf, (i : Int), false⟩ S = (⟨C, Lf, ((i + 1 : Nat) : Int), false⟩, wrap32 n :: S, 0) := by
  unfold stepK doesK doesV pushS
  simp [h, popsOf, pushesOf, ha]
theorem st_tmOff {i c : Nat} {C : Nat → Int} {Lf : List Int} {S : List Int} {b : Int} (h : K.op i = 21) (ha : K.arg i = (c : Int)) : stepK K ⟨C, Lf, (i : Int), false⟩ (b :: 0 :: S) = (⟨upd C c 0, Lf, ((i + 1 : Nat) : Int), false⟩, 0 :: S, 0) := by
  unfold stepK doesK doesV pushS
  simp [h, popsOf, pushesOf, popA, ha]
theorem st_tmOn {i c : Nat} {C : Nat → Int} {Lf : List Int} {S : List Int} {b : Int} (h : K.op i = 21) (ha : K.arg i = (c : Int)) : stepK K ⟨C, Lf, (i : Int), false⟩ (b :: 1 :: S) = (⟨upd C c (min (C c + K.delta) 2147483647), Lf, ((i + 1 : Nat) : Int), false⟩, tr (decide (b ≤ min (C c + K.delta) 2147483647)) :: S, 0) := by
  unfold stepK doesK doesV pushS
  simp [h, popsOf, pushesOf, popA, popB, ha]
end
theorem t_bytes (h l : UInt8) : bt (codeOf (tmB h l)) 2 = 1 ∧ bt (codeOf (tmB h l)) 3 = 0 ∧ bt (codeOf (tmB h l)) 4 = 0 ∧ bt (codeOf (tmB h l)) 5 = h.toNat ∧ bt (codeOf (tmB h l)) 6 = l.toNat := ⟨by kernel_rfl, by kernel_rfl, by kernel_rfl, by kernel_rfl, by kernel_rfl⟩
theorem t_arg (p : Nat) (hp : p < 1000) : argL (codeOf (tmB (UInt8.ofNat (p / 256)) (UInt8.ofNat (p % 256)))) tmP 1 = (p : Int) := by
  obtain ⟨b2, b3, b4, b5, b6⟩ := t_bytes (UInt8.ofNat (p / 256)) (UInt8.ofNat (p % 256))
  have e1 : (UInt8.ofNat (p / 256)).toNat = p / 256 := by rw [UInt8.toNat_ofNat']; omega
  have e2 : (UInt8.ofNat (p % 256)).toNat = p % 256 := by rw [UInt8.toNat_ofNat']; omega
  rw [e1] at b5
  rw [e2] at b6
  have ea : atL tmP 1 = 2 := rfl
  have e32 : b32 (codeOf (tmB (UInt8.ofNat (p / 256)) (UInt8.ofNat (p % 256)))) 3 = p := by
    unfold b32
    rw [b3, b4, b5, b6]
    omega
  unfold argL vArg
  rw [ea, b2, if_pos rfl]
  unfold s32
  rw [e32, if_neg (by omega)]
set_option maxHeartbeats 1000000 in
theorem t_run (p : Nat) (hp : p < 1000) (cap bs bx : Nat) (To' : Nat → Int) (bd : Int) (w : World) (d : Int) (C : Nat → Int) (a : Bool) (ha : C 0 = if a then 1 else 0) :
    runM (tMd p cap bs bx To' bd) w d C = (if a then ⟨upd (upd C 1 (min (C 1 + d) 2147483647)) 2 (layK 0 (tr (decide ((p : Int) ≤ min (C 1 + d) 2147483647)))), [], 5, true⟩ else ⟨upd (upd C 1 0) 2 (layK 0 0), [], 5, true⟩, 5, 0) := by
  unfold runM
  have hp1 := t_arg p hp
  obtain ⟨K, hK⟩ : ∃ K, K = mkK (tMd p cap bs bx To' bd) w 0 0 0 nmT (fun _ => undef) d := ⟨_, rfl⟩
  rw [← hK]
  have o0 : K.op 0 = 2 := by rw [hK]; kernel_rfl
  have o1 : K.op 1 = 1 := by rw [hK]; kernel_rfl
  have o2 : K.op 2 = 21 := by rw [hK]; kernel_rfl
  have o3 : K.op 3 = 3 := by rw [hK]; kernel_rfl
  have o4 : K.op 4 = 0 := by rw [hK]; kernel_rfl
  have a0 : K.arg 0 = ((0 : Nat) : Int) := by rw [hK]; kernel_rfl
  have a1 : K.arg 1 = (p : Int) := by rw [← hp1, hK]; kernel_rfl
  have a2 : K.arg 2 = ((1 : Nat) : Int) := by rw [hK]; kernel_rfl
  have a3 : K.arg 3 = ((2 : Nat) : Int) := by rw [hK]; kernel_rfl
  have k2 : K.kd 2 = 0 := by rw [hK]; kernel_rfl
  have kd : K.delta = d := by rw [hK]; rfl
  clear hK
  have ew : wrap32 (p : Int) = p := w32_id (by unfold in32; omega)
  have s0 := run_stepZ (K := K) (f := 299999) (q := ⟨C, [], ((0 : Nat) : Int), false⟩) (S := []) (dn := 0) rfl (st_get o0 a0)
  have s1 := run_stepZ (K := K) (f := 299998) (q := ⟨C, [], ((0 + 1 : Nat) : Int), false⟩) (S := [C 0]) (dn := 0 + 1) rfl (st_num o1 a1)
  rw [ew, ha] at s1
  rw [ha] at s0
  rw [show (300000 : Nat) = 299999 + 1 from rfl, show (0 : Int) = ((0 : Nat) : Int) from rfl]
  cases a
  · have s2 := run_stepZ (K := K) (f := 299997) (q := ⟨C, [], ((1 + 1 : Nat) : Int), false⟩) (S := [(p : Int), 0]) (dn := 0 + 1 + 1) rfl (st_tmOff o2 a2)
    have s3 := run_stepZ (K := K) (f := 299996) (q := ⟨upd C 1 0, [], ((2 + 1 : Nat) : Int), false⟩) (S := [0]) (dn := 0 + 1 + 1 + 1) rfl (st_setZ o3 a3)
    have s4 := run_stepZ (K := K) (f := 299995) (q := ⟨upd (upd C 1 0) 2 (layK (K.kd 2) 0), [], ((3 + 1 : Nat) : Int), false⟩) (S := []) (dn := 0 + 1 + 1 + 1 + 1) rfl (st_endZ o4)
    refine s0.trans (s1.trans (s2.trans (s3.trans (s4.trans ?_))))
    rw [run_overZ rfl, k2]
    rfl
  · have s2 := run_stepZ (K := K) (f := 299997) (q := ⟨C, [], ((1 + 1 : Nat) : Int), false⟩) (S := [(p : Int), 1]) (dn := 0 + 1 + 1) rfl (st_tmOn o2 a2)
    have s3 := run_stepZ (K := K) (f := 299996) (q := ⟨upd C 1 (min (C 1 + K.delta) 2147483647), [], ((2 + 1 : Nat) : Int), false⟩) (S := [tr (decide ((p : Int) ≤ min (C 1 + K.delta) 2147483647))]) (dn := 0 + 1 + 1 + 1) rfl (st_setZ o3 a3)
    have s4 := run_stepZ (K := K) (f := 299995) (q := ⟨upd (upd C 1 (min (C 1 + K.delta) 2147483647)) 2 (layK (K.kd 2) (tr (decide ((p : Int) ≤ min (C 1 + K.delta) 2147483647)))), [], ((3 + 1 : Nat) : Int), false⟩) (S := []) (dn := 0 + 1 + 1 + 1 + 1) rfl (st_endZ o4)
    refine s0.trans (s1.trans (s2.trans (s3.trans (s4.trans ?_))))
    rw [run_overZ rfl, k2, kd]
    rfl

end Go.Proofs.YtidhiaaicmfabaaGreatDoor

/- Timed's machine; a scan of it, told (seat .ZD alone). -/
namespace Go.Proofs.YtidhiaaicmfabaaGreatDoor
open Go.RowKit Go.Proofs Go.Deep

theorem t_fits (p : Nat) (cap bs bx : Nat) (To' : Nat → Int) (bd : Int) (a : Bool) : fitsL (tMd p cap bs bx To' bd).rl (tMd p cap bs bx To' bd).kd (tMd p cap bs bx To' bd).nC 0 [if a then 1 else 0] = true := by
  cases a <;> kernel_rfl
theorem t_lay (p : Nat) (cap bs bx : Nat) (To' : Nat → Int) (bd : Int) (a : Bool) (C : Nat → Int) : layL (tMd p cap bs bx To' bd).rl (tMd p cap bs bx To' bd).kd (tMd p cap bs bx To' bd).nC 0 [if a then 1 else 0] C = upd C 0 (if a then 1 else 0) := by
  cases a <;> kernel_rfl
set_option maxRecDepth 100000 in
set_option maxHeartbeats 2000000 in
/-- The machine of Timed's text. -/
theorem tmachine (w : World) (p : Nat) (hp : p < 1000) (hops : ∀ i v, opC[i]? = some v → w.cell? ⟨4, i, none⟩ = some v) (R : Ending → World → Prop)
    (fin : ∀ cap bs bx bc To' To H L w', Below w.heap.size w w' → w.heap.size ≤ bx → w.heap.size ≤ bs → w.heap.size ≤ bc → Live (tMd p cap bs bx To' 5) bc (fun _ => 0) 0 w' → (∀ w0 br bc base nm fv d, KW (mkK (tMd p cap bs bx To' 5) w0 br bc base nm fv d) To (tMd p cap bs bx To' 5).bd H L) → R (.returned (.pointer (some ⟨bx, 0, none⟩))) w') :
    Calls Tryz.prog 35 #[.string (tmText p)] w R := by
  replace fin := hd fin
  generalize hT : tmText p = T at *
  go_enter Tryz.func35, Tryz.ntmps35
  go_wp2_with (fail)
  refine compile_ok (tmTx p hp) T (by rw [← hT]; exact tmSize p hp) (by rw [← hT]; exact tmSp p) _ hops _ ?_
  intro w1 hb1
  rw [tmImg p hp]
  generalize hB : tmB (UInt8.ofNat (p / 256)) (UInt8.ofNat (p % 256)) = B at *
  have hz1 := hb1.size
  replace hb1 := hd hb1
  go_wp2_with (fail)
  rw [← hB]
  refine load_full _ (tmB (UInt8.ofNat (p / 256)) (UInt8.ofNat (p % 256))) (by unfold maxLen; show 24 ≤ _; decide) _ ?_ ?_ ?_
  · intro h; exact absurd (tm_ok _ _) (h 5)
  · intro bd h hl
    have := img_unique (tm_ok _ _) h
    omega
  · intro bd l h hle hl cap bs bx bc To' H L w2 hb2 hbx hbs hbc hlive hkw
    have e := img_unique (tm_ok _ _) h
    subst e
    rw [tm_pos] at hl
    injection hl with hl
    subst hl
    replace hlive : Live (tMd p cap bs bx To' 5) bc (fun _ => 0) 0 w2 := hlive
    replace hkw : ∀ w0 br bc base nm fv d, KW (mkK (tMd p cap bs bx To' 5) w0 br bc base nm fv d) _ (tMd p cap bs bx To' 5).bd H L := hkw
    have hB2 := hd (hb1.out.trans (hb2.mono hz1))
    replace hlive := hd hlive
    replace hkw := hd hkw
    clear h hb2
    go_wp2
    exact cl1 (fin.out cap bs bx bc To' _ H L w2 hB2.out (by omega) (by omega) (by omega) hlive.out hkw.out) rfl
theorem inp1 {bc g : Nat} {w : World} {x : Int} (hg : w.heap[g]? = some (.cells #[.int .i64 x] 3)) (hne : g ≠ bc) : InpAt bc w (.slice (some ⟨g, 0, none⟩) 1 1) [x] := by
  refine ⟨_, 1, rfl, by simp, .inl ⟨g, 0, rfl, hne, fun j z hz => ?_⟩⟩
  have hj : j = 0 := by
    have := (List.getElem?_eq_some_iff.1 hz).1
    simp at this
    omega
  subst hj
  simp at hz; subst hz; exact cellOf hg rfl
set_option maxRecDepth 100000 in
set_option maxHeartbeats 2000000 in
theorem ttold (B : Nat) (w : World) {p : Nat} (hp : p < 1000) {cap bs bx bc : Nat} {To' : Nat → Int} {To : Nat → Nat} {H L : Nat → Int} {C : Nat → Int} {dn : Int} (h : Live (tMd p cap bs bx To' 5) bc C dn w) (hkw : ∀ w0 br bc base nm fv d, KW (mkK (tMd p cap bs bx To' 5) w0 br bc base nm fv d) To (tMd p cap bs bx To' 5).bd H L) (hB1 : B ≤ bx) (hB2 : B ≤ bc) (hB3 : B ≤ w.heap.size)
    {g : Nat} {a : Bool} {d el el' q : Int} (hg : w.heap[g]? = some (.cells #[.int .i64 (if a then 1 else 0)] 3)) (hne : g ≠ bc) (hC : C 1 = el) (he : 0 ≤ el ∧ el ≤ 10000) (hd0 : 0 ≤ d ∧ d < 300) (hel : el' = if a then el + d else 0) (hq : q = if a && decide ((p : Int) ≤ el + d) then 1 else 0) (R : Ending → World → Prop)
    (fin : ∀ w' go dn' C', Below B w w' → C' 1 = el' → Live (tMd p cap bs bx To' 5) bc C' dn' w' → w'.cell? ⟨go, 0, none⟩ = some (.int .i64 q) → ∀ cp, R (.returned (.tuple #[.slice (some ⟨go, 0, none⟩) 1 cp, .bool true])) w') :
    Calls Tryz.prog 36 #[.pointer (some ⟨bx, 0, none⟩), .slice (some ⟨g, 0, none⟩) 1 1, .int .i64 d] w R := by
  replace fin := hd fin
  have hi := inp1 hg hne
  have hrun : ∃ C', runM (tMd p cap bs bx To' 5) w d (layL (tMd p cap bs bx To' 5).rl (tMd p cap bs bx To' 5).kd (tMd p cap bs bx To' 5).nC 0 [if a then 1 else 0] C) = (⟨C', [], 5, true⟩, 5, 0) ∧ C' 1 = el' ∧ C' 2 = q := by
    rw [t_lay p cap bs bx To' 5 a C, t_run p hp cap bs bx To' 5 w d _ a (by simp [upd])]
    have e1 : upd C 0 (if a then 1 else 0) 1 = el := by simp [upd, hC]
    rw [e1, show min (el + d) 2147483647 = el + d by omega]
    cases a
    · exact ⟨_, rfl, by simp [upd, hel], by simp [upd, hq]; rfl⟩
    · refine ⟨_, rfl, by simp [upd, hel], ?_⟩
      rw [hq]
      by_cases hle : (p : Int) ≤ el + d
      · simp [upd, hle]; rfl
      · simp [upd, hle]; rfl
  obtain ⟨C', hrun, hc1, hc2⟩ := hrun
  clear hel hq hC
  go_enter Tryz.func36, Tryz.ntmps36
  go_wp2_with (fail)
  refine scan_any _ (tMd p cap bs bx To' 5) bc C dn h _ [if a then 1 else 0] d hi hkw (by show (5 : Int) ≤ 200000; omega) _ ?_ ?_ ?_
  · intro hbad
    rcases hbad with hbad | hbad | hbad
    · rw [t_fits p cap bs bx To' 5 a] at hbad; cases hbad
    · omega
    · omega
  · intro _ _ w2 q' dn2 hr2 hl2 ht _ _
    rw [hrun] at hr2
    simp only [Prod.mk.injEq] at hr2
    obtain ⟨rfl, rfl, _⟩ := hr2
    have hbw2 : Below B w w2 := ht.below hB1 hB2 hB3 rfl
    have c0 := hl2.row.cell (i := 0) (by omega)
    have hlen := hl2.cel
    have hC2 := hl2.hC
    replace hbw2 := hd hbw2
    replace hl2 := hd hl2
    clear ht hi hrun
    go_wp2_with (fail)
    refine outputs_any _ bx bc _ _ (tMd p cap bs bx To' 5).rl (tMd p cap bs bx To' 5).kd C' hl2.out.nC hC2 c0 hlen _ ?_
    intro v w3 hb3 hown
    rw [t_outs] at hown
    obtain ⟨go, cp, rfl, _, _, _, _, hgo⟩ := own_one hown (by simp)
    have g0 := hgo 0 (by simp)
    rw [show (i64L [C' 2])[0]? = some (.int .i64 (C' 2)) from rfl, hc2] at g0
    have hB3' := hd (hbw2.out.trans (hb3.mono (Nat.le_trans hB3 hbw2.out.size)))
    have hl3 := hd (hl2.out.below hb3)
    clear hown hgo hb3 hlen c0
    replace g0 := hd g0
    go_wp2
    exact cl1 (fin.out w3 go 5 C' hB3'.out hc1 hl3.out g0.out cp) rfl
  · intro _ _ w2 q' dn2 e cv hr2 he
    rw [hrun] at hr2
    simp only [Prod.mk.injEq] at hr2
    exact absurd hr2.2.2.symm he

end Go.Proofs.YtidhiaaicmfabaaGreatDoor
