/- The text of Timed and its machine. -/
import Derived.Test.YtidhiaaicmfabaaGreatDoorKaA
import Derived.WalkKit
import Derived.WalkSpells
import Derived.WalkLawsBesides
import Derived.Deep.OwnRows
import Derived.BigQuiet
import Derived.Handy
import Derived.Deep.Light
import Derived.Deep.RegionHeld3
import Derived.Deep.RegionWith
import Derived.Test.YtidhiaaicmfabaaGreatDoorJyG
import Derived.Test.YtidhiaaicmfabaaGreatDoorJyP
import Derived.Test.YtidhiaaicmfabaaGreatDoorJyQ
import Derived.Test.YtidhiaaicmfabaaGreatDoorJyH
import Derived.Test.YtidhiaaicmfabaaGreatDoorJzF
import Derived.Laws.IdiomStrings

/- The parts of a text, over lists of bytes (seat .ZD alone). -/
namespace Go.Proofs.YtidhiaaicmfabaaGreatDoor
open Go.RowKit Go.Proofs Go.Deep

def ba (l : List UInt8) : ByteArray := ⟨l.toArray⟩
theorem ba_size (l : List UInt8) : (ba l).size = l.length := by simp [ba, ByteArray.size]
theorem ba_bt (l : List UInt8) (i : Nat) (c : UInt8) (h : l[i]? = some c) : bt (ba l) i = c.toNat := by
  have hi : i < l.length := (List.getElem?_eq_some_iff.1 h).1
  have hb := bt_of (ba l) i (by rw [ba_size]; exact hi)
  rw [← hb]
  have h3 : (ba l).data[i]? = some c := by simp only [ba, List.getElem?_toArray]; exact h
  obtain ⟨_, h5⟩ := Array.getElem?_eq_some_iff.1 h3
  show ((ba l).data[i]).toNat = _
  rw [h5]
def tw (f : Nat → Bool) : List UInt8 → Nat
  | [] => 0
  | c :: r => if f c.toNat then tw f r + 1 else 0
theorem cnt_tw (f : Nat → Bool) (l : List UInt8) : ∀ (k i : Nat), l.length ≤ i + k → i ≤ l.length → cntF f (ba l) k i = i + tw f (l.drop i)
  | 0, i, h, h2 => by
    have : l.drop i = [] := List.drop_eq_nil_of_le (by omega)
    rw [this]
    simp [cntF, tw]
  | k + 1, i, h, h2 => by
    simp only [cntF, ba_size]
    by_cases hi : i < l.length
    · have hd := List.drop_eq_getElem_cons hi
      rw [hd, tw, ba_bt l i _ (List.getElem?_eq_getElem hi)]
      by_cases hf : f l[i].toNat = true
      · rw [if_pos hf, if_pos (by simp [hi, hf]), cnt_tw f l k (i + 1) (by omega) (by omega)]
        omega
      · rw [if_neg hf, if_neg (by simp [hf])]
        rfl
    · have : l.drop i = [] := List.drop_eq_nil_of_le (by omega)
      rw [this, if_neg (by simp [hi])]
      rfl
theorem ba_extract (l : List UInt8) (a b : Nat) : (ba l).extract a b = ba ((l.drop a).take (b - a)) := by
  apply ByteArray.ext
  simp only [ba, ByteArray.data_extract, List.extract_toArray, List.extract_eq_take_drop]
def fl : List UInt8 → Nat
  | [] => 0
  | c :: r => if isBl c.toNat then 1 else if isLt c.toNat then tw isWd (c :: r) else if isDg c.toNat then tw isDg (c :: r) else if (c :: r).take 2 == [58, 61] then 2 else if isSg c.toNat then 1 else 0
theorem hp_list (c : UInt8) (r : List UInt8) : hpV (ba (c :: r)) asgB = ((c :: r).take 2 == [58, 61]) := by
  unfold hpV
  have e1 : asgB.size = 2 := rfl
  have e2 : asgB.toList = [58, 61] := by kernel_rfl
  rw [e1, e2, ba_extract, ba_size, ByteArray.toList_eq]
  simp only [List.drop_zero, ba, Nat.sub_zero]
  cases r with
  | nil => simp
  | cons d r => simp
theorem fl_list (l : List UInt8) (h : l ≠ []) : flV (ba l) = fl l := by
  cases l with
  | nil => exact absurd rfl h
  | cons c r =>
    unfold flV fl
    rw [ba_bt (c :: r) 0 c rfl, hp_list, cnt_tw isWd (c :: r) _ 0 (by rw [ba_size]; omega) (Nat.zero_le _), cnt_tw isDg (c :: r) _ 0 (by rw [ba_size]; omega) (Nat.zero_le _)]
    simp only [Nat.zero_add, List.drop_zero]
/-- The parts of a text, over lists. -/
def spL : Nat → List UInt8 → Option (List (List UInt8))
  | 0, _ => some []
  | _ + 1, [] => some []
  | k + 1, c :: r => if fl (c :: r) = 0 then none else (spL k ((c :: r).drop (fl (c :: r)))).map (fun q => if isBl c.toNat then q else (c :: r).take (fl (c :: r)) :: q)
theorem sp_list : ∀ (k : Nat) (l : List UInt8), spF k (ba l) = (spL k l).map (fun q => q.map ba)
  | 0, _ => rfl
  | k + 1, [] => rfl
  | k + 1, c :: r => by
    rw [spF, spL, ba_size, if_neg (by simp), fl_list _ (by simp), ba_bt (c :: r) 0 c rfl]
    by_cases h : fl (c :: r) = 0
    · rw [if_pos h, if_pos h]; rfl
    · have e : ((c :: r).drop (fl (c :: r))).take ((c :: r).length - fl (c :: r)) = (c :: r).drop (fl (c :: r)) := List.take_of_length_le (by rw [List.length_drop]; exact Nat.le_refl _)
      rw [if_neg h, if_neg h, ba_extract, ba_extract, List.drop_zero, Nat.sub_zero, e, sp_list k]
      rw [Option.map_map, Option.map_map]
      congr 1
      funext q
      simp only [Function.comp]
      by_cases hb : isBl c.toNat = true
      · simp [hb]
      · simp [hb]
theorem tw_digs (r : List UInt8) (hr : ∀ c, r.head? = some c → isDg c.toNat = false) : ∀ l : List UInt8, (∀ c ∈ l, isDg c.toNat = true) → tw isDg (l ++ r) = l.length
  | [], _ => by
    cases r with
    | nil => rfl
    | cons c r => simp [tw, hr c rfl]
  | c :: l, h => by
    rw [List.cons_append, tw, if_pos (h c (List.mem_cons_self ..)), tw_digs r hr l (fun d hd => h d (List.mem_cons_of_mem _ hd))]
    rfl
/-- The first n parts of a text (blanks too), and what is left. -/
def spR : Nat → List UInt8 → List (List UInt8) → Option (List (List UInt8) × List UInt8)
  | 0, l, acc => some (acc, l)
  | _ + 1, [], _ => none
  | n + 1, c :: r, acc => if fl (c :: r) = 0 then none else spR n ((c :: r).drop (fl (c :: r))) (if isBl c.toNat then acc else acc ++ [(c :: r).take (fl (c :: r))])
theorem spR_spL : ∀ (n : Nat) (l : List UInt8) (acc acc' : List (List UInt8)) (rest : List UInt8) (k : Nat) (q : List (List UInt8)), spR n l acc = some (acc', rest) → spL k rest = some q → ∃ q', spL (k + n) l = some q' ∧ acc ++ q' = acc' ++ q
  | 0, l, acc, acc', rest, k, q, h, hq => by
    simp only [spR, Option.some.injEq, Prod.mk.injEq] at h
    obtain ⟨rfl, rfl⟩ := h
    exact ⟨q, hq, rfl⟩
  | n + 1, [], acc, acc', rest, k, q, h, hq => by simp [spR] at h
  | n + 1, c :: r, acc, acc', rest, k, q, h, hq => by
    rw [spR] at h
    by_cases h0 : fl (c :: r) = 0
    · rw [if_pos h0] at h; cases h
    · rw [if_neg h0] at h
      obtain ⟨q', h1, h2⟩ := spR_spL n _ _ acc' rest k q h hq
      rw [show k + (n + 1) = (k + n) + 1 by omega, spL, if_neg h0, h1]
      by_cases hb : isBl c.toNat = true
      · rw [if_pos hb] at h2
        exact ⟨q', by simp [hb], h2⟩
      · rw [if_neg hb] at h2
        refine ⟨(c :: r).take (fl (c :: r)) :: q', by simp [hb], ?_⟩
        rw [← h2, List.append_assoc]
        rfl
theorem spL_num (l r : List UInt8) (hl : l ≠ []) (hd : ∀ c ∈ l, isDg c.toNat = true) (hr : ∀ c, r.head? = some c → isDg c.toNat = false) (k : Nat) (q : List (List UInt8)) (h : spL k r = some q) : spL (k + 1) (l ++ r) = some (l :: q) := by
  cases l with
  | nil => exact absurd rfl hl
  | cons c l =>
    have h1 := hd c (List.mem_cons_self ..)
    have h1' := h1
    simp only [isDg, Bool.and_eq_true, decide_eq_true_eq] at h1
    have hb : isBl c.toNat = false := by simp [isBl]; omega
    have hl2 : isLt c.toNat = false := by simp [isLt]; omega
    have e : fl ((c :: l) ++ r) = (c :: l).length := by
      rw [List.cons_append, fl, hb, hl2, h1', ← List.cons_append, tw_digs r hr _ hd]
      simp
    have e2 : fl (c :: (l ++ r)) = (c :: l).length := e
    rw [List.cons_append, spL, e2, if_neg (by simp), ← List.cons_append, List.drop_left, List.take_left, h]
    simp [hb]

end Go.Proofs.YtidhiaaicmfabaaGreatDoor

/- The parts of Timed's text (seat .ZD alone). -/
namespace Go.Proofs.YtidhiaaicmfabaaGreatDoor
open Go.RowKit Go.Proofs Go.Deep

theorem spL_nil (k : Nat) : spL k [] = some [] := by cases k <;> rfl
theorem digs_dg (n : Nat) : ∀ c ∈ digs n, isDg c.toNat = true := by
  induction n using Nat.strongRecOn with
  | ind n ih =>
    intro c hc
    rw [digs] at hc
    by_cases h : n < 10
    · rw [dif_pos h] at hc
      simp only [List.mem_cons, List.not_mem_nil, or_false] at hc
      subst hc
      rw [digit_nat h]
      simp [isDg]
      omega
    · rw [dif_neg h] at hc
      rcases List.mem_append.1 hc with h1 | h1
      · exact ih (n / 10) (by omega) c h1
      · simp only [List.mem_cons, List.not_mem_nil, or_false] at h1
        subst h1
        rw [digit_nat (Nat.mod_lt _ (by omega))]
        simp [isDg]
        omega
end Go.Proofs.YtidhiaaicmfabaaGreatDoor

/- pick (seat .ZD alone). -/
namespace Go.Proofs.YtidhiaaicmfabaaGreatDoor
open Go.RowKit Go.Proofs Go.Deep

theorem pick_bd (x n : Int) (hn : 0 < n) : 0 ≤ pickV x n ∧ pickV x n < n := by
  unfold pickV
  exact ⟨Int.emod_nonneg _ (by omega), Int.emod_lt_of_pos _ hn⟩

end Go.Proofs.YtidhiaaicmfabaaGreatDoor

/- digits of small numbers (seat .ZD alone). -/
namespace Go.Proofs.YtidhiaaicmfabaaGreatDoor
open Go.RowKit Go.Proofs Go.Deep

theorem conv1 (W : World) (n : Nat) (hn : n ≤ 255) : (convert 133 9 (.slice (some ⟨W.heap.size, 0, none⟩) 1 1)).run Tryz.prog (W.alloc (.cells #[.int .u8 (n : Int)] 5)) = .ok (.string (ba [UInt8.ofNat n])) (W.alloc (.cells #[.int .u8 (n : Int)] 5)) := by
  refine run_convert_bytes_back (P := Tryz.prog) (W.alloc (.cells #[.int .u8 (n : Int)] 5)) 133 9 5 ⟨W.heap.size, 0, none⟩ 1 [UInt8.ofNat n] (by kernel_rfl) (by kernel_rfl) (by kernel_rfl) (fun j hj => ?_)
  have : j = 0 := by simp at hj; omega
  subst this
  have hadd : (⟨W.heap.size, 0, none⟩ : Addr).add 0 = ⟨W.heap.size, 0, none⟩ := by unfold Addr.add; split <;> simp_all
  rw [hadd, cell_of_row _ _ 0 _ _ (0, 0) (heap_alloc_new W _)]
  have e : (UInt8.ofNat n).toNat = n := by simp; omega
  simp
  omega

def dB (m : Nat) : UInt8 := UInt8.ofNat (48 + m % 10)
theorem ba_app (a b : List UInt8) : ba a ++ ba b = ba (a ++ b) := by
  apply ByteArray.ext
  rw [ByteArray.data_append]
  simp [ba]
theorem conv1d (W : World) (n : Nat) : (convert 133 9 (.slice (some ⟨W.heap.size, 0, none⟩) 1 1)).run Tryz.prog (W.alloc (.cells #[.int .u8 (48 + (n : Int) % 10)] 5)) = .ok (.string (ba [dB n])) (W.alloc (.cells #[.int .u8 (48 + (n : Int) % 10)] 5)) := by
  have := conv1 W (48 + n % 10) (by omega)
  have e : ((48 + n % 10 : Nat) : Int) = 48 + (n : Int) % 10 := by omega
  rw [e] at this
  exact this
set_option maxRecDepth 100000 in
theorem digits_pos (w : World) (n : Nat) (hn : n < 100000) (R : Ending → World → Prop) (fin : ∀ w', Below w.heap.size w w' → R (.returned (.string (ba (digs n)))) w') : Calls Tryz.prog 38 #[.int .i64 n] w R := by
  replace fin := hd fin
  have d0 : decide ((n : Int) < 0) = false := by simp
  have hcv := conv1d w n
  go_enter Tryz.func38, Tryz.ntmps38
  go_wp2
  have b0 := hd ((Below.refl w.heap.size w).alloc (Nat.le_refl _) (Obj.cells #[.int .u8 (48 + (n : Int) % 10)] 5))
  go_loopw [0, 3] (fun nv sv wr => ∃ (m : Nat) (r : List UInt8), m < 100000 ∧ nv = .int .i64 (m : Int) ∧ sv = .string (ba (dB m :: r)) ∧ r.length + m ≤ 100000 ∧ digs n = (if m < 10 then [] else digs (m / 10)) ++ dB m :: r ∧ Below w.heap.size w wr) (fun nv _ _ => (intOf nv).toNat)
  case atStart =>
    refine ⟨n, [], hn, rfl, rfl, by simp; omega, ?_, b0.out⟩
    rw [digs]
    by_cases h : n < 10
    · rw [dif_pos h, if_pos h]; simp only [dB, Nat.mod_eq_of_lt h]; rfl
    · rw [dif_neg h, if_neg h]; rfl
  case round =>
    obtain ⟨m, r, hm, rfl, rfl, hl, hD, hb⟩ := hrel
    by_cases h : m < 10
    · have dd : decide ((10 : Int) ≤ (m : Int)) = false := by simp; omega
      have dd2 : decide ((m : Int) ≥ 10) = false := by simp; omega
      rw [if_pos h, List.nil_append] at hD
      replace hD := hd hD
      replace hb := hd hb
      go_wp2
      exact cl1 (fin.out _ hb.out) (by rw [hD.out]; rfl)
    · have dd : decide ((10 : Int) ≤ (m : Int)) = true := by simp; omega
      have dd2 : decide ((m : Int) ≥ 10) = true := by simp; omega
      have hcv2 := conv1d wr (m / 10)
      rw [show (((m / 10 : Nat)) : Int) = (m : Int) / 10 by omega] at hcv2
      have hb2 := hd (hb.trans (((Below.refl _ wr).alloc (Nat.le_refl _) (Obj.cells #[.int .u8 (48 + (m : Int) / 10 % 10)] 5)).mono hb.size))
      have hz : (ba [dB (m / 10)] ++ ba (dB m :: r)) = ba (dB (m / 10) :: dB m :: r) := ba_app _ _
      have hz2 : (ba (dB m :: r)).size ≤ 100001 := by rw [ba_size]; simp only [List.length_cons]; omega
      have hz3 : (ba [dB (m / 10)]).size = 1 := by rw [ba_size]; rfl
      replace hz := hd hz
      replace hD := hd hD
      replace hb := hd hb
      go_wp2
      refine ⟨⟨m / 10, dB m :: r, by omega, ?_, by rw [← hz.out], by simp only [List.length_cons]; omega, ?_, hb2.out⟩, ?_⟩
      · rw [show (((m / 10 : Nat)) : Int) = (m : Int) / 10 by omega]
      · rw [hD.out, if_neg h]
        rw [digs]
        by_cases h2 : m / 10 < 10
        · rw [dif_pos h2, if_pos h2]
          simp only [dB, Nat.mod_eq_of_lt h2]
          rfl
        · rw [dif_neg h2, if_neg h2, List.append_assoc]
          rfl
      · simp [intOf]; omega

end Go.Proofs.YtidhiaaicmfabaaGreatDoor

/- Timed's machine; a scan of it, told (seat .ZD alone). -/
namespace Go.Proofs.YtidhiaaicmfabaaGreatDoor
open Go.RowKit Go.Proofs Go.Deep

theorem inp1 {bc g : Nat} {w : World} {x : Int} (hg : w.heap[g]? = some (.cells #[.int .i64 x] 3)) (hne : g ≠ bc) : InpAt bc w (.slice (some ⟨g, 0, none⟩) 1 1) [x] := by
  refine ⟨_, 1, rfl, by simp, .inl ⟨g, 0, rfl, hne, fun j z hz => ?_⟩⟩
  have hj : j = 0 := by
    have := (List.getElem?_eq_some_iff.1 hz).1
    simp at this
    omega
  subst hj
  simp at hz; subst hz; exact cellOf hg rfl
end Go.Proofs.YtidhiaaicmfabaaGreatDoor
