/- The text of Reckoned, its image and its run. -/
import Derived.Test.YtidhiaaicmfabaaGreatDoorKaA
import Derived.WalkKit
import Derived.WalkSpells
import Derived.WalkLawsBesides
import Derived.Deep.OwnRows
import Derived.BigQuiet
import Derived.Handy
import Derived.Deep.Light
import Derived.Deep.RegionHeld3
import Derived.Deep.RegionWith
import Derived.Test.YtidhiaaicmfabaaGreatDoorJzR
import Derived.Test.YtidhiaaicmfabaaGreatDoorJzV
import Derived.Test.YtidhiaaicmfabaaGreatDoorJzP
import Derived.Test.YtidhiaaicmfabaaGreatDoorJzU

/- The parts of a text, piece by piece (seat .ZD alone). -/
namespace Go.Proofs.YtidhiaaicmfabaaGreatDoor
open Go.RowKit Go.Proofs Go.Deep

/-- The text l begins with the parts q (n with its blanks); r is left. -/
def Lex (l : List UInt8) (q : List (List UInt8)) (r : List UInt8) (n : Nat) : Prop := ∀ k q', spL k r = some q' → spL (k + n) l = some (q ++ q')
theorem Lex.app {l m r : List UInt8} {q q' : List (List UInt8)} {n n' : Nat} (h1 : Lex l q m n) (h2 : Lex m q' r n') : Lex l (q ++ q') r (n' + n) := by
  intro k t ht
  have := h1 _ _ (h2 k t ht)
  rw [← Nat.add_assoc, List.append_assoc]
  exact this
theorem lex_spR {n : Nat} {l r : List UInt8} {q : List (List UInt8)} (h : spR n l [] = some (q, r)) : Lex l q r n := by
  intro k t ht
  obtain ⟨q', h1, h2⟩ := spR_spL n l [] q r k t h ht
  rw [h1, ← h2, List.nil_append]
theorem lex_num {l r : List UInt8} (hl : l ≠ []) (hd : ∀ c ∈ l, isDg c.toNat = true) (hr : ∀ c, r.head? = some c → isDg c.toNat = false) : Lex (l ++ r) [l] r 1 := fun k q h => spL_num l r hl hd hr k q h
/-- What may stand behind a word or a number. -/
def stops (r : List UInt8) : Prop := ∀ c, r.head? = some c → isWd c.toNat = false
theorem stops_dg {r : List UInt8} (h : stops r) : ∀ c, r.head? = some c → isDg c.toNat = false := fun c hc => by
  have := h c hc
  simp only [isWd, Bool.or_eq_false_iff] at this
  exact this.1.2
theorem tw_word {r : List UInt8} (h : stops r) : tw isWd r = 0 := by
  cases r with
  | nil => rfl
  | cons c r => rw [tw, h c rfl]; rfl
theorem lex_name {c : UInt8} {r : List UInt8} (hc : isLt c.toNat = true) (hr : stops r) : Lex (c :: r) [[c]] r 1 := by
  intro k q h
  have hb : isBl c.toNat = false := by
    simp only [isLt, Bool.or_eq_true, Bool.and_eq_true, decide_eq_true_eq] at hc
    simp [isBl]
    omega
  have hw : isWd c.toNat = true := by simp [isWd, hc]
  have e : fl (c :: r) = 1 := by
    rw [fl, hb, hc, tw, hw, tw_word hr]
    rfl
  rw [spL, e, if_neg (by decide), show (c :: r).drop 1 = r from rfl, h, hb]
  rfl
theorem lex_done {l : List UInt8} {q : List (List UInt8)} {n : Nat} (h : Lex l q [] n) (hn : n ≤ l.length) : spL l.length l = some q := by
  have := h (l.length - n) [] (spL_nil _)
  rw [List.append_nil, show l.length - n + n = l.length by omega] at this
  exact this
/-- A number as it is written. -/
def litB (n : Int) : List UInt8 := if n < 0 then 45 :: digs n.natAbs else digs n.natAbs
def litT (n : Int) : List (List UInt8) := if n < 0 then [[45], digs n.natAbs] else [digs n.natAbs]
def litN (n : Int) : Nat := if n < 0 then 2 else 1
theorem lit_tok (n : Int) : (litT n).map ba = litW n := by
  unfold litT litW
  by_cases h : n < 0
  · rw [if_pos h, if_pos h]; rfl
  · rw [if_neg h, if_neg h]; rfl
theorem digs_ne (n : Nat) : digs n ≠ [] := by
  obtain ⟨d, r, _, e⟩ := digs_head n
  rw [e]
  simp
theorem lex_lit (n : Int) {r : List UInt8} (hr : stops r) : Lex (litB n ++ r) (litT n) r (litN n) := by
  have h1 : Lex (digs n.natAbs ++ r) [digs n.natAbs] r 1 := lex_num (digs_ne _) (digs_dg _) (stops_dg hr)
  unfold litB litT litN
  by_cases h : n < 0
  · rw [if_pos h, if_pos h, if_pos h]
    have h2 : Lex (45 :: (digs n.natAbs ++ r)) [[45]] (digs n.natAbs ++ r) 1 := lex_spR (by kernel_rfl)
    exact h2.app h1
  · rw [if_neg h, if_neg h, if_neg h]
    exact h1
theorem litB_len (n : Int) (hn : -100000 < n ∧ n < 100000) : litN n ≤ (litB n).length ∧ (litB n).length ≤ 6 := by
  have h := digs_len 4 n.natAbs (by omega)
  have h0 : 0 < (digs n.natAbs).length := List.length_pos_iff.2 (digs_ne _)
  unfold litB litN
  by_cases h : n < 0
  · rw [if_pos h, if_pos h, List.length_cons]; omega
  · rw [if_neg h, if_neg h]; omega
/-- An expression as Go's fmt of it: pairs with blanks, SHORT. -/
def strE : Ex → List UInt8
  | .lit n => litB n
  | .plc s => s.data.toList
  | .bin o l r => 40 :: (strE l ++ 32 :: ((opS o).data.toList ++ 32 :: (strE r ++ [41])))
  | .sho e => 83 :: 72 :: 79 :: 82 :: 84 :: 32 :: strE e
  | _ => []
def lexE : Ex → List (List UInt8)
  | .lit n => litT n
  | .plc s => [s.data.toList]
  | .bin o l r => [40] :: (lexE l ++ ((opS o).data.toList :: (lexE r ++ [[41]])))
  | .sho e => [83, 72, 79, 82, 84] :: lexE e
  | _ => []
def lexN : Ex → Nat
  | .lit n => litN n
  | .plc _ => 1
  | .bin _ l r => lexN l + lexN r + 5
  | .sho e => lexN e + 2
  | _ => 0
/-- The expressions that Reckoned makes. -/
def rkE : Ex → Prop
  | .lit n => -100000 < n ∧ n < 100000
  | .plc s => ∃ c : UInt8, s = ⟨#[c]⟩ ∧ (c = 97 ∨ c = 98 ∨ c = 99)
  | .bin o l r => o < 3 ∧ rkE l ∧ rkE r
  | .sho e => rkE e
  | _ => False
theorem lexE_tok : ∀ e : Ex, rkE e → (lexE e).map ba = toks e
  | .lit n, _ => lit_tok n
  | .plc s, _ => rfl
  | .bin o l r, h => by
    simp only [lexE, toks, List.map_cons, List.map_append, lexE_tok l h.2.1, lexE_tok r h.2.2, List.map_nil]
    rfl
  | .sho e, h => by
    simp only [lexE, toks, List.map_cons, lexE_tok e h]
    rfl
  | .tru _, h => h.elim
  | .idx _ _, h => h.elim
  | .neg _, h => h.elim
  | .dly _ _ _, h => h.elim
theorem stops_32 (r : List UInt8) : stops (32 :: r) := fun c hc => by
  have : c = 32 := by simpa using hc.symm
  subst this
  decide
theorem stops_41 (r : List UInt8) : stops (41 :: r) := fun c hc => by
  have : c = 41 := by simpa using hc.symm
  subst this
  decide
theorem lex_E : ∀ (e : Ex) (r : List UInt8), rkE e → stops r → Lex (strE e ++ r) (lexE e) r (lexN e)
  | .lit n, r, _, hr => lex_lit n hr
  | .plc s, r, ⟨c, hs, hc⟩, hr => by
    subst hs
    exact lex_name (by rcases hc with rfl | rfl | rfl <;> decide) hr
  | .bin o a b, r, h, hr => by
    have hb := lex_E b (41 :: r) h.2.2 (stops_41 r)
    have h1 : Lex (41 :: r) [[41]] r 1 := lex_spR (by kernel_rfl)
    have h2 : Lex (32 :: ((opS o).data.toList ++ 32 :: (strE b ++ 41 :: r))) [(opS o).data.toList] (strE b ++ 41 :: r) 3 := by
      have ho : o = 0 ∨ o = 1 ∨ o = 2 := by have := h.1; omega
      rcases ho with rfl | rfl | rfl
      · exact lex_spR (by kernel_rfl)
      · exact lex_spR (by kernel_rfl)
      · exact lex_spR (by kernel_rfl)
    have ha := lex_E a (32 :: ((opS o).data.toList ++ 32 :: (strE b ++ 41 :: r))) h.2.1 (stops_32 _)
    have h3 : Lex (40 :: (strE a ++ 32 :: ((opS o).data.toList ++ 32 :: (strE b ++ 41 :: r)))) [[40]] (strE a ++ 32 :: ((opS o).data.toList ++ 32 :: (strE b ++ 41 :: r))) 1 := lex_spR (by kernel_rfl)
    have h4 := h3.app (ha.app (h2.app (hb.app h1)))
    simp only [strE, lexE, lexN, List.cons_append, List.append_assoc, List.nil_append] at h4 ⊢
    rw [show lexN a + lexN b + 5 = 1 + lexN b + 3 + lexN a + 1 by omega]
    exact h4
  | .sho e, r, h, hr => by
    have he := lex_E e r h hr
    have h3 : Lex (83 :: 72 :: 79 :: 82 :: 84 :: 32 :: (strE e ++ r)) [[83, 72, 79, 82, 84]] (strE e ++ r) 2 := lex_spR (by kernel_rfl)
    exact h3.app he
  | .tru _, _, h, _ => h.elim
  | .idx _ _, _, h, _ => h.elim
  | .neg _, _, h, _ => h.elim
  | .dly _ _ _, _, h, _ => h.elim
theorem lexN_le : ∀ e : Ex, rkE e → lexN e ≤ (strE e).length
  | .lit n, h => (litB_len n h).1
  | .plc s, ⟨c, hs, _⟩ => by subst hs; simp [lexN, strE]
  | .bin o l r, h => by
    have h1 := lexN_le l h.2.1
    have h2 := lexN_le r h.2.2
    have h3 : 1 ≤ (opS o).data.toList.length := by
      have ho : o = 0 ∨ o = 1 ∨ o = 2 := by have := h.1; omega
      rcases ho with rfl | rfl | rfl <;> decide
    simp only [lexN, strE, List.length_cons, List.length_append, List.length_nil]
    omega
  | .sho e, h => by
    have h1 := lexN_le e h
    simp only [lexN, strE, List.length_cons]
    omega
  | .tru _, h => h.elim
  | .idx _ _, h => h.elim
  | .neg _, h => h.elim
  | .dly _ _ _, h => h.elim

end Go.Proofs.YtidhiaaicmfabaaGreatDoor

/- The expressions of Reckoned (seat .ZD alone). -/
namespace Go.Proofs.YtidhiaaicmfabaaGreatDoor
open Go.RowKit Go.Proofs Go.Deep

def nmC : ByteArray := ⟨#[99]⟩
def nmZ : ByteArray := ⟨#[122]⟩
/-- The variables of Reckoned's text; k: the kind of z. -/
def rkV (k : Nat) : List Vd := [⟨nmA, 0, 1, false, 1⟩, ⟨nmB, 0, 1, false, 1⟩, ⟨nmC, 0, 2, false, 1⟩, ⟨nmZ, 1, k, false, 1⟩]
def leafT (k : Int) : Ex := if pickV k 12 = 7 then .lit (k.tmod 100000) else if pickV k 12 = 8 then .plc nmC else if pickV k 12 = 9 then .plc nmB else .plc nmA
/-- The expression of raw numbers that begins at a place, and where the next one begins. -/
def termT (raw : List Int) : Nat → Nat → Ex × Nat
  | 0, at_ => (leafT (raw.getD at_ 0), at_ + 1)
  | d + 1, at_ =>
    if pickV (raw.getD at_ 0) 12 < 7 then
      (if pickV (raw.getD at_ 0) 12 = 6 then (.sho (termT raw d (at_ + 1)).1, (termT raw d (at_ + 1)).2)
       else (.bin ((pickV (raw.getD at_ 0) 12) % 3).toNat (termT raw d (at_ + 1)).1 (termT raw d (termT raw d (at_ + 1)).2).1, (termT raw d (termT raw d (at_ + 1)).2).2))
    else (leafT (raw.getD at_ 0), at_ + 1)
/-- What it is for three values. -/
def valT (a b c : Int) : Ex → Int
  | .lit n => n
  | .plc s => if s = nmA then a else if s = nmB then b else c
  | .bin o l r => if kE (rkV 1) (.bin o l r) = 1 then IntKind.i16.wrap (if o = 0 then valT a b c l + valT a b c r else if o = 1 then valT a b c l - valT a b c r else valT a b c l * valT a b c r) else wrap32 (if o = 0 then valT a b c l + valT a b c r else if o = 1 then valT a b c l - valT a b c r else valT a b c l * valT a b c r)
  | .sho e => IntKind.i16.wrap (valT a b c e)
  | _ => 0
theorem leaf_rk (k : Int) : rkE (leafT k) ∧ lexN (leafT k) ≤ 2 ∧ (strE (leafT k)).length ≤ 6 ∧ depE (leafT k) = 0 ∧ cE (leafT k) = 1 ∧ (namesE (leafT k)).length ≤ 1 := by
  unfold leafT
  split
  · have h1 : (k.tmod 100000).natAbs < 100000 := by rw [Int.natAbs_tmod]; exact Nat.mod_lt _ (by decide)
    have hm : -100000 < k.tmod 100000 ∧ k.tmod 100000 < 100000 := by omega
    exact ⟨hm, by simp only [lexN, litN]; split <;> omega, (litB_len _ hm).2, rfl, rfl, by simp [namesE]⟩
  · split
    · exact ⟨⟨99, rfl, by simp⟩, by simp [lexN], by simp [strE, nmC], rfl, rfl, by simp [namesE]⟩
    · split
      · exact ⟨⟨98, rfl, by simp⟩, by simp [lexN], by simp [strE, nmB], rfl, rfl, by simp [namesE]⟩
      · exact ⟨⟨97, rfl, by simp⟩, by simp [lexN], by simp [strE, nmA], rfl, rfl, by simp [namesE]⟩
def szT : Nat → Nat
  | 0 => 6
  | d + 1 => 2 * szT d + 5
def ndT : Nat → Nat
  | 0 => 1
  | d + 1 => 2 * ndT d + 1
theorem szT_le : ∀ d, 6 ≤ szT d
  | 0 => Nat.le_refl _
  | d + 1 => by have := szT_le d; simp only [szT]; omega
theorem ndT_le : ∀ d, 1 ≤ ndT d
  | 0 => Nat.le_refl _
  | d + 1 => by simp only [ndT]; omega
theorem term_rk (raw : List Int) : ∀ (d at_ : Nat), rkE (termT raw d at_).1 ∧ (strE (termT raw d at_).1).length ≤ szT d ∧ depE (termT raw d at_).1 ≤ d ∧ 0 ≤ depE (termT raw d at_).1 ∧ cE (termT raw d at_).1 ≤ ndT d ∧ (namesE (termT raw d at_).1).length ≤ ndT d ∧ at_ + 1 ≤ (termT raw d at_).2 ∧ (termT raw d at_).2 ≤ at_ + ndT d
  | 0, at_ => by
    obtain ⟨h1, _, h3, h4, h5, h6⟩ := leaf_rk (raw.getD at_ 0)
    simp only [termT, szT, ndT]
    exact ⟨h1, h3, by omega, by omega, by omega, h6, Nat.le_refl _, Nat.le_refl _⟩
  | d + 1, at_ => by
    have hs := szT_le d
    have hn := ndT_le d
    have hl := leaf_rk (raw.getD at_ 0)
    have hp := pick_bd (raw.getD at_ 0) 12 (by omega)
    have h1 := term_rk raw d (at_ + 1)
    have h2 := term_rk raw d (termT raw d (at_ + 1)).2
    simp only [termT]
    split
    · split
      · simp only [rkE, strE, depE, cE, namesE, szT, ndT, List.length_cons]
        refine ⟨h1.1, by omega, by omega, by omega, by omega, by omega, by omega, by omega⟩
      · have ho : ((pickV (raw.getD at_ 0) 12) % 3).toNat < 3 := by omega
        have ho2 : (opS ((pickV (raw.getD at_ 0) 12) % 3).toNat).data.toList.length = 1 := by
          have : ∀ o, o < 3 → (opS o).data.toList.length = 1 := by decide
          exact this _ ho
        simp only [rkE, strE, depE, cE, namesE, szT, ndT, List.length_cons, List.length_append, ho2, List.length_nil]
        refine ⟨⟨ho, h1.1, h2.1⟩, by omega, by omega, by omega, by omega, by omega, by omega, by omega⟩
    · obtain ⟨l1, _, l3, l4, l5, l6⟩ := hl
      simp only [szT, ndT]
      exact ⟨l1, by omega, by omega, by omega, by omega, by omega, by omega, by omega⟩
theorem rlA (k : Nat) : lookV (rkV k) nmA = some ⟨nmA, 0, 1, false, 1⟩ := by kernel_rfl
theorem rlB (k : Nat) : lookV (rkV k) nmB = some ⟨nmB, 0, 1, false, 1⟩ := by kernel_rfl
theorem rlC (k : Nat) : lookV (rkV k) nmC = some ⟨nmC, 0, 2, false, 1⟩ := by kernel_rfl
theorem rlZ (k : Nat) : lookV (rkV k) nmZ = some ⟨nmZ, 1, k, false, 1⟩ := by kernel_rfl
theorem fvA (k : Nat) : firstV (rkV k) 0 nmA = 0 := by kernel_rfl
theorem fvB (k : Nat) : firstV (rkV k) 0 nmB = 1 := by kernel_rfl
theorem fvC (k : Nat) : firstV (rkV k) 0 nmC = 2 := by kernel_rfl
theorem fvZ (k : Nat) : firstV (rkV k) 0 nmZ = 3 := by kernel_rfl
/-- The kind of such an expression does not hang on z. -/
theorem kE_rk (k : Nat) : ∀ e : Ex, rkE e → kE (rkV k) e = kE (rkV 1) e ∧ (kE (rkV k) e = 1 ∨ kE (rkV k) e = 2) ∧ wtE (rkV k) e = true
  | .lit n, h => by
    refine ⟨rfl, ?_, ?_⟩
    · simp only [kE]; split
      · exact .inl rfl
      · exact .inr rfl
    · have h' : -100000 < n ∧ n < 100000 := h
      simp only [wtE, Bool.and_eq_true, decide_eq_true_eq]
      omega
  | .plc s, ⟨c, hs, hc⟩ => by
    rcases hc with rfl | rfl | rfl
    · have e : s = nmA := hs
      subst e
      simp only [kE, wtE, rlA]
      exact ⟨trivial, .inl rfl, rfl⟩
    · have e : s = nmB := hs
      subst e
      simp only [kE, wtE, rlB]
      exact ⟨trivial, .inl rfl, rfl⟩
    · have e : s = nmC := hs
      subst e
      simp only [kE, wtE, rlC]
      exact ⟨trivial, .inr rfl, rfl⟩
  | .bin o l r, h => by
    obtain ⟨a1, a2, a3⟩ := kE_rk k l h.2.1
    obtain ⟨b1, b2, b3⟩ := kE_rk k r h.2.2
    have hf : opF o = 0 := by
      have : ∀ o, o < 3 → opF o = 0 := by decide
      exact this o h.1
    have ho : o < 9 := by have := h.1; omega
    simp only [kE, wtE, hf, if_true]
    refine ⟨by rw [a1, b1], ?_, ?_⟩
    · omega
    · rw [a3, b3]
      rcases a2 with a2 | a2 <;> rcases b2 with b2 | b2 <;> simp [a2, b2, isNum, ho]
  | .sho e, h => by
    obtain ⟨a1, a2, a3⟩ := kE_rk k e h
    simp only [kE, wtE, a3]
    refine ⟨trivial, .inl trivial, ?_⟩
    rcases a2 with a2 | a2 <;> simp [a2, isNum]
  | .tru _, h => h.elim
  | .idx _ _, h => h.elim
  | .neg _, h => h.elim
  | .dly _ _ _, h => h.elim
theorem i16_w32 (n : Int) : IntKind.i16.wrap (wrap32 n) = IntKind.i16.wrap n := by
  have e : ∀ n, IntKind.i16.wrap n = if n % 65536 ≥ 32768 then n % 65536 - 65536 else n % 65536 := fun n => by
    unfold IntKind.wrap
    by_cases h : n % 65536 ≥ 32768 <;> simp [IntKind.bits, IntKind.signed, h]
  have h : wrap32 n % 65536 = n % 65536 := by unfold wrap32; omega
  rw [e, e, h]
/-- Such an expression is what its code gives. -/
theorem ev_rk (k : Nat) (dl : Int) {C : Nat → Int} {a b c : Int} (hA : C 0 = a) (hB : C 1 = b) (hC : C 2 = c) : ∀ e : Ex, rkE e → evE (rkV k) dl e C = .ok (C, valT a b c e)
  | .lit n, h => by
    have h' : -100000 < n ∧ n < 100000 := h
    simp only [evE, valT]
    rw [w32_id (by unfold in32; omega)]
  | .plc s, ⟨x, hs, hx⟩ => by
    rcases hx with rfl | rfl | rfl
    · have e : s = nmA := hs
      subst e
      simp only [evE, valT, fvA, if_true]
      rw [← hA]; rfl
    · have e : s = nmB := hs
      subst e
      simp only [evE, valT, fvB]
      rw [if_neg (by decide), if_pos trivial, ← hB]; rfl
    · have e : s = nmC := hs
      subst e
      simp only [evE, valT, fvC]
      rw [if_neg (by decide), if_neg (by decide), ← hC]; rfl
  | .bin o l r, h => by
    have h1 := ev_rk k dl hA hB hC l h.2.1
    have h2 := ev_rk k dl hA hB hC r h.2.2
    have hk := (kE_rk k (.bin o l r) h).1
    have ho : o = 0 ∨ o = 1 ∨ o = 2 := by have := h.1; omega
    simp only [evE, h1, h2, andV, hk, valT]
    by_cases hh : kE (rkV 1) (.bin o l r) = 1
    · rw [if_pos hh]
      rcases ho with rfl | rfl | rfl
      · simp only [binV, if_pos hh, i16_w32, if_true]
      · simp only [binV, if_pos hh, i16_w32]; rfl
      · simp only [binV, if_pos hh, i16_w32]; rfl
    · rw [if_neg hh]
      rcases ho with rfl | rfl | rfl
      · simp only [binV, if_neg hh, if_true]
      · simp only [binV, if_neg hh]; rfl
      · simp only [binV, if_neg hh]; rfl
  | .sho e, h => by
    simp only [evE, ev_rk k dl hA hB hC e h, andV, valT]
  | .tru _, h => h.elim
  | .idx _ _, h => h.elim
  | .neg _, h => h.elim
  | .dly _ _ _, h => h.elim
/-- Its value is of its kind. -/
theorem val_bd {a b c : Int} (ha : -32768 ≤ a ∧ a ≤ 32767) (hb : -32768 ≤ b ∧ b ≤ 32767) (hc : in32 c) : ∀ e : Ex, rkE e → in32 (valT a b c e) ∧ (kE (rkV 1) e = 1 → -32768 ≤ valT a b c e ∧ valT a b c e ≤ 32767)
  | .lit n, h => by
    have h' : -100000 < n ∧ n < 100000 := h
    simp only [valT, kE, in32]
    refine ⟨by omega, fun hk => ?_⟩
    split at hk
    · omega
    · omega
  | .plc s, ⟨x, hs, hx⟩ => by
    rcases hx with rfl | rfl | rfl
    · have e : s = nmA := hs
      subst e
      simp only [valT, kE, rlA, if_true, in32]
      exact ⟨by omega, fun _ => ha⟩
    · have e : s = nmB := hs
      subst e
      simp only [valT, kE, rlB, in32]
      rw [if_neg (by decide), if_pos trivial]
      exact ⟨by omega, fun _ => hb⟩
    · have e : s = nmC := hs
      subst e
      simp only [valT, kE, rlC]
      rw [if_neg (by decide), if_neg (by decide)]
      exact ⟨hc, fun h => by omega⟩
  | .bin o l r, h => by
    simp only [valT]
    by_cases hh : kE (rkV 1) (.bin o l r) = 1
    · rw [if_pos hh]
      have := i16_bd (if o = 0 then valT a b c l + valT a b c r else if o = 1 then valT a b c l - valT a b c r else valT a b c l * valT a b c r)
      exact ⟨by unfold in32; omega, fun _ => this⟩
    · rw [if_neg hh]
      exact ⟨w32_bd _, fun h => absurd h hh⟩
  | .sho e, h => by
    simp only [valT]
    have := i16_bd (valT a b c e)
    exact ⟨by unfold in32; omega, fun _ => this⟩
  | .tru _, h => h.elim
  | .idx _ _, h => h.elim
  | .neg _, h => h.elim
  | .dly _ _ _, h => h.elim

end Go.Proofs.YtidhiaaicmfabaaGreatDoor

/- Short numbers, numbers as they are written (seat .ZD alone). -/
namespace Go.Proofs.YtidhiaaicmfabaaGreatDoor
open Go.RowKit Go.Proofs Go.Deep

theorem short_any (w : World) (n : Int) (R : Ending → World → Prop) (fin : R (.returned (.int .i64 (IntKind.i16.wrap n))) w) : Calls Tryz.prog 32 #[.int .i64 n] w R := by
  have j1 : wrap64 (IntKind.i16.wrap n) = IntKind.i16.wrap n := by have := i16_bd n; unfold wrap64; omega
  replace fin := hd fin
  go_enter Tryz.func32, Tryz.ntmps32
  go_wp2
  exact cl1 fin.out (by first | rfl | (rw [j1]; rfl) | (rw [j1]))
set_option maxRecDepth 100000 in
theorem digits_any (w : World) (n : Int) (hn : -100000 < n ∧ n < 100000) (R : Ending → World → Prop) (fin : ∀ w', Below w.heap.size w w' → R (.returned (.string (ba (litB n)))) w') : Calls Tryz.prog 38 #[.int .i64 n] w R := by
  by_cases h : n < 0
  · have d0 : decide (n < 0) = true := by simpa using h
    have jn : IntKind.i64.wrap (-n) = -n := IntWalk.i64_in _ (by omega)
    have d1 : (n == -n) = false := by simp; omega
    have en : -n = ((n.natAbs : Nat) : Int) := by omega
    have hz : ba [45] ++ ba (digs n.natAbs) = ba (litB n) := by
      rw [ba_app]
      unfold litB
      rw [if_pos h]
      rfl
    have zd1 : (ba (digs n.natAbs)).size ≤ 5 := by rw [ba_size]; exact digs_len 4 _ (by omega)
    replace fin := hd fin
    replace hz := hd hz
    go_enter Tryz.func38, Tryz.ntmps38
    go_wp2_with (fail)
    try rw [en]
    refine digits_pos _ n.natAbs (by omega) _ ?_
    intro w1 hb1
    replace hb1 := hd hb1
    go_wp2
    exact cl1 (fin.out _ hb1.out) (by rw [← hz.out]; rfl)
  · have en : n = ((n.natAbs : Nat) : Int) := by omega
    have e2 : litB n = digs n.natAbs := by unfold litB; rw [if_neg h]
    rw [e2] at fin
    rw [en]
    exact digits_pos w n.natAbs (by omega) R fin

end Go.Proofs.YtidhiaaicmfabaaGreatDoor

/- Reckoned's text is right (seat .ZD alone). -/
namespace Go.Proofs.YtidhiaaicmfabaaGreatDoor
open Go.RowKit Go.Proofs Go.Deep

theorem lowC : LowName nmC := low1 99 (by decide) (by decide)
theorem lowZ : LowName nmZ := low1 122 (by decide) (by decide)
def rkS (e : Ex) : Sl := .cons (.set nmZ e) .nil
def rkC (k : Nat) (e : Ex) : Cd := .seq (cdE (rkV k) e) (.one [3, 3])
def rkF (k : Nat) (e : Ex) : Nat → List Int := fun a => (fun _ => codeE (rkV k) e ++ [3, firstV (rkV k) 0 nmZ]) a ++ (fun _ => []) (a + ((fun _ => codeE (rkV k) e ++ [3, firstV (rkV k) 0 nmZ]) a).length)
theorem rkF0 (k : Nat) (e : Ex) : rkF k e 0 = codeE (rkV k) e ++ [3, 3] := by
  simp only [rkF, fvZ, List.append_nil]
theorem rkMem {k : Nat} {P : Vd → Prop} (h0 : P ⟨nmA, 0, 1, false, 1⟩) (h1 : P ⟨nmB, 0, 1, false, 1⟩) (h2 : P ⟨nmC, 0, 2, false, 1⟩) (h3 : P ⟨nmZ, 1, k, false, 1⟩) : ∀ v ∈ rkV k, P v := by
  intro v hv
  unfold rkV at hv
  simp only [List.mem_cons, List.not_mem_nil, or_false] at hv
  rcases hv with rfl | rfl | rfl | rfl <;> assumption
theorem rk_rd : ∀ e : Ex, rkE e → rdE e
  | .lit n, h => by have h' : -100000 < n ∧ n < 100000 := h; show _ ∧ _; omega
  | .plc s, ⟨c, hs, hc⟩ => by
    subst hs
    rcases hc with rfl | rfl | rfl
    · exact lowA
    · exact lowB
    · exact lowC
  | .bin o l r, h => ⟨by have := h.1; omega, rk_rd l h.2.1, rk_rd r h.2.2⟩
  | .sho e, h => rk_rd e h
  | .tru _, h => h.elim
  | .idx _ _, h => h.elim
  | .neg _, h => h.elim
  | .dly _ _ _, h => h.elim
theorem rk_names : ∀ e : Ex, rkE e → ∀ u ∈ namesE e, u = nmA ∨ u = nmB ∨ u = nmC
  | .lit n, _, u, hu => by simp [namesE] at hu
  | .plc s, ⟨c, hs, hc⟩, u, hu => by
    simp only [namesE, List.mem_cons, List.not_mem_nil, or_false] at hu
    subst hu hs
    rcases hc with rfl | rfl | rfl
    · exact .inl rfl
    · exact .inr (.inl rfl)
    · exact .inr (.inr rfl)
  | .bin o l r, h, u, hu => by
    simp only [namesE, List.mem_append] at hu
    rcases hu with hu | hu
    · exact rk_names l h.2.1 u hu
    · exact rk_names r h.2.2 u hu
  | .sho e, h, u, hu => rk_names e h u hu
  | .tru _, h, _, _ => h.elim
  | .idx _ _, h, _, _ => h.elim
  | .neg _, h, _, _ => h.elim
  | .dly _ _ _, h, _, _ => h.elim
theorem rk_ok (k : Nat) (rl kd : Nat → Int) : ∀ e : Ex, rkE e → okE rl kd 4 (rkV k) e
  | .lit n, _ => trivial
  | .plc s, ⟨c, hs, hc⟩ => by
    rcases hc with rfl | rfl | rfl
    · have e : s = nmA := hs
      subst e
      simp only [okE, fvA]
      exact ⟨by unfold byt; omega, by decide⟩
    · have e : s = nmB := hs
      subst e
      simp only [okE, fvB]
      exact ⟨by unfold byt; omega, by decide⟩
    · have e : s = nmC := hs
      subst e
      simp only [okE, fvC]
      exact ⟨by unfold byt; omega, by decide⟩
  | .bin o l r, h => ⟨by have := h.1; omega, rk_ok k rl kd l h.2.1, rk_ok k rl kd r h.2.2⟩
  | .sho e, h => rk_ok k rl kd e h
  | .tru _, h => h.elim
  | .idx _ _, h => h.elim
  | .neg _, h => h.elim
  | .dly _ _ _, h => h.elim
theorem rk_code (k : Nat) : ∀ e : Ex, rkE e → ((codeE (rkV k) e).length : Int) ≤ 7 * cE e ∧ ∀ n ∈ codeE (rkV k) e, 0 ≤ n ∧ n ≤ 255
  | .lit n, _ => ⟨by simp [codeE, numB, cE], fun m hm => numB_in n m hm⟩
  | .plc s, ⟨c, hs, hc⟩ => by
    refine ⟨by simp [codeE, cE], ?_⟩
    rcases hc with rfl | rfl | rfl
    · have e : s = nmA := hs
      subst e
      simp [codeE, fvA]
    · have e : s = nmB := hs
      subst e
      simp [codeE, fvB]
    · have e : s = nmC := hs
      subst e
      simp [codeE, fvC]
  | .bin o l r, h => by
    obtain ⟨a1, a2⟩ := rk_code k l h.2.1
    obtain ⟨b1, b2⟩ := rk_code k r h.2.2
    have ho := opI_in o (by have := h.1; omega)
    simp only [codeE, cE]
    by_cases hk : kE (rkV k) (.bin o l r) = 1
    · rw [if_pos hk]
      refine ⟨by simp only [List.length_append, List.length_cons, List.length_nil]; omega, fun n hn => ?_⟩
      simp only [List.mem_append, List.mem_cons, List.not_mem_nil, or_false] at hn
      rcases hn with ((hn | hn) | hn) | hn
      · exact a2 n hn
      · exact b2 n hn
      · omega
      · omega
    · rw [if_neg hk]
      refine ⟨by simp only [List.length_append, List.length_cons, List.length_nil]; omega, fun n hn => ?_⟩
      simp only [List.mem_append, List.mem_cons, List.not_mem_nil, or_false] at hn
      rcases hn with (hn | hn) | hn
      · exact a2 n hn
      · exact b2 n hn
      · omega
  | .sho e, h => by
    obtain ⟨a1, a2⟩ := rk_code k e h
    simp only [codeE, cE]
    refine ⟨by simp only [List.length_append, List.length_cons, List.length_nil]; omega, fun n hn => ?_⟩
    simp only [List.mem_append, List.mem_cons, List.not_mem_nil, or_false] at hn
    rcases hn with hn | hn
    · exact a2 n hn
    · omega
  | .tru _, h => h.elim
  | .idx _ _, h => h.elim
  | .neg _, h => h.elim
  | .dly _ _ _, h => h.elim
theorem rkTx (k : Nat) (hk : k = 1 ∨ k = 2) (e : Ex) (he : rkE e) (hke : kE (rkV 1) e = (k : Int)) (hdp : depE e ≤ 4) (hco : cE e ≤ 31) (hnm : (namesE e).length ≤ 31) : Tx (rkV k) (rkS e) (rkF k e) := by
  obtain ⟨k1, k2, k3⟩ := kE_rk k e he
  have hpos := cE_pos e
  have hcd := rk_code k e he
  have hkk : kE (rkV k) e = (k : Int) := k1.trans hke
  refine { vr := rkMem ⟨by decide, var_plain lowA (by decide) rfl rfl⟩ ⟨by decide, var_plain lowB (by decide) rfl rfl⟩ ⟨by decide, var_plain lowC (by decide) rfl rfl⟩ ⟨show 1 < 3 by decide, var_plain lowZ (show k < 3 by omega) rfl rfl⟩, rd := ⟨stmt_set lowZ (expr_all e (rk_rd e he)), trivial⟩, dep := ?_, low := rkMem lowA lowB lowC lowZ, dis := ?_, us := ?_, wv := rkMem (by decide) (by decide) (by decide) ?_, ck := ⟨check_set (kind_all _ e k3) ?_ (by decide), trivial⟩, co := ⟨scost_set (cost_all _ e), ?_, trivial⟩, cost := ?_, wr := ?_, ln := ⟨by show 0 < 4; decide, by show 4 ≤ 1000; decide, ?_⟩, bl := ⟨by show 1 ≤ 1000; decide, ?_⟩, cd := ?_, ci := ?_ }
  · show max (depE e) 0 ≤ 10
    omega
  · have hne : nmA ≠ nmB ∧ nmA ≠ nmC ∧ nmA ≠ nmZ ∧ nmB ≠ nmC ∧ nmB ≠ nmZ ∧ nmC ≠ nmZ := by decide
    simp only [rkV, List.map_cons, List.map_nil, List.nodup_cons, List.mem_cons, List.not_mem_nil, or_false, not_or, not_false_eq_true, List.nodup_nil, and_true]
    exact ⟨⟨hne.1, hne.2.1, hne.2.2.1⟩, ⟨hne.2.2.2.1, hne.2.2.2.2.1⟩, hne.2.2.2.2.2⟩
  · intro u hu
    have hu2 : u ∈ nmZ :: (namesE e ++ []) := by simpa [rkS, namesL, namesS] using hu
    rw [List.append_nil, List.mem_cons] at hu2
    rcases hu2 with rfl | hu2
    · exact ⟨_, (lookV_mem _ _ _ (rlZ k)).1, rfl⟩
    · rcases rk_names e he u hu2 with rfl | rfl | rfl
      · exact ⟨_, (lookV_mem _ _ _ (rlA k)).1, rfl⟩
      · exact ⟨_, (lookV_mem _ _ _ (rlB k)).1, rfl⟩
      · exact ⟨_, (lookV_mem _ _ _ (rlC k)).1, rfl⟩
  · rcases hk with rfl | rfl <;> decide
  · unfold wtSet
    rw [rlZ]
    simp only [k3, hkk]
    rcases hk with rfl | rfl <;> decide
  · show 0 ≤ 1 + cE e
    omega
  · show 1 + cE e + 0 ≤ 3999
    omega
  · have s1 : SWriteOk (rkV k) ((cellsB (rkV k)).length : Int) (.set nmZ e) (fun _ => codeE (rkV k) e ++ [3, firstV (rkV k) 0 nmZ]) false := swrite_set (write_all _ (rkMem (by decide) (by decide) (by decide) (by show (0 : Int) ≤ 1 ∧ (1 : Int) ≤ 255; decide)) e k3) (rlZ k)
    exact @AllW.cons (rkV k) ((cellsB (rkV k)).length : Int) (.set nmZ e) .nil (fun _ => codeE (rkV k) e ++ [3, firstV (rkV k) 0 nmZ]) (fun _ => []) false false (@s1) .nil
  · rcases hk with rfl | rfl <;> decide
  · show (nmZ :: namesE e ++ []).length ≤ 1000
    simp only [List.append_nil, List.length_cons]
    omega
  · rw [rkF0, List.length_append]
    simp only [List.length_cons, List.length_nil]
    omega
  · rw [rkF0]
    intro n hn
    simp only [List.mem_append, List.mem_cons, List.not_mem_nil, or_false] at hn
    rcases hn with hn | hn
    · exact hcd.2 n hn
    · omega

end Go.Proofs.YtidhiaaicmfabaaGreatDoor

/- Reckoned's text, its image, its run (seat .ZD alone). -/
namespace Go.Proofs.YtidhiaaicmfabaaGreatDoor
open Go.RowKit Go.Proofs Go.Deep

def rkPre : List UInt8 := [73, 78, 32, 97, 58, 32, 73, 78, 84, 59, 32, 73, 78, 32, 98, 58, 32, 73, 78, 84, 59, 32, 73, 78, 32, 99, 58, 32, 68, 73, 78, 84, 59, 32, 79, 85, 84, 32, 122, 58, 32]
def rkMid : List UInt8 := [59, 32, 66, 69, 71, 73, 78, 32, 122, 32, 58, 61, 32]
def rkPost : List UInt8 := [59, 32, 69, 78, 68]
def kT (k : Nat) : List UInt8 := if k = 1 then [73, 78, 84] else [68, 73, 78, 84]
def rkHdT (k : Nat) : List (List UInt8) := [[73, 78], [97], [58], [73, 78, 84], [59], [73, 78], [98], [58], [73, 78, 84], [59], [73, 78], [99], [58], [68, 73, 78, 84], [59], [79, 85, 84], [122], [58], kT k, [59], [66, 69, 71, 73, 78], [122], [58, 61]]
def rkText (k : Nat) (e : Ex) : ByteArray := ba (rkPre ++ (kT k ++ (rkMid ++ (strE e ++ rkPost))))
theorem rkHd1 (t : List UInt8) : spR 38 (rkPre ++ (kT 1 ++ (rkMid ++ t))) [] = some (rkHdT 1, t) := by kernel_rfl
theorem rkHd2 (t : List UInt8) : spR 38 (rkPre ++ (kT 2 ++ (rkMid ++ t))) [] = some (rkHdT 2, t) := by kernel_rfl
theorem rkPo : spR 3 rkPost [] = some ([[59], [69, 78, 68]], []) := by kernel_rfl
theorem rkLen (k : Nat) (hk : k = 1 ∨ k = 2) (e : Ex) (he : rkE e) : 41 + lexN e ≤ (rkPre ++ (kT k ++ (rkMid ++ (strE e ++ rkPost)))).length ∧ (rkPre ++ (kT k ++ (rkMid ++ (strE e ++ rkPost)))).length ≤ 63 + (strE e).length := by
  have h1 := lexN_le e he
  have e1 : rkPre.length = 41 := rfl
  have e2 : rkMid.length = 13 := rfl
  have e3 : rkPost.length = 5 := rfl
  have e4 : (kT k).length = 3 ∨ (kT k).length = 4 := by
    rcases hk with rfl | rfl
    · exact .inl rfl
    · exact .inr rfl
  simp only [List.length_append]
  omega
theorem rkSp (k : Nat) (hk : k = 1 ∨ k = 2) (e : Ex) (he : rkE e) : spF (rkText k e).size (rkText k e) = some (toksP (rkV k) (rkS e)) := by
  unfold rkText
  rw [sp_list, ba_size]
  have h1 : Lex (rkPre ++ (kT k ++ (rkMid ++ (strE e ++ rkPost)))) (rkHdT k) (strE e ++ rkPost) 38 := by
    rcases hk with rfl | rfl
    · exact lex_spR (rkHd1 _)
    · exact lex_spR (rkHd2 _)
  have h2 := lex_E e rkPost he (fun c hc => by
    have : c = 59 := by simpa [rkPost] using hc.symm
    subst this
    decide)
  have h3 : Lex rkPost [[59], [69, 78, 68]] [] 3 := lex_spR rkPo
  have h4 := lex_done (h1.app (h2.app h3)) (by have := (rkLen k hk e he).1; omega)
  rw [h4]
  have ht := lexE_tok e he
  have e2 : toksP (rkV k) (rkS e) = (rkHdT k).map ba ++ (toks e ++ [wSC, wEND]) := by
    simp only [toksP, rkS, toksL, toksS, List.cons_append, List.append_assoc, List.nil_append]
    rcases hk with rfl | rfl <;> rfl
  rw [e2, ← ht]
  simp only [Option.map_some, List.map_append]
  rfl
def rkCs (k : Nat) : List Int := [1, 1, 2, ((3 + k : Nat) : Int)]
theorem rkCells (k : Nat) (hk : k = 1 ∨ k = 2) : cellsB (rkV k) = rkCs k := by
  rcases hk with rfl | rfl <;> decide
theorem rkFlat (k : Nat) (e : Ex) : (prW (rkC k e)).flatten = rkF k e 0 ++ [0] := by
  rw [rkF0]
  simp only [prW, rkC, flat, List.flatten_append, flat_cdE]
  simp
theorem rkImg (k : Nat) (hk : k = 1 ∨ k = 2) (e : Ex) : imgS (rkV k) (rkF k e) = imgG (rkCs k) (prW (rkC k e)).flatten := by
  rw [rkFlat, ← rkCells k hk]
  rfl
/-- What the bytes of the cells are. -/
theorem rkBt (k : Nat) (hk : k = 1 ∨ k = 2) (l : List Int) (hl : l.length ≤ 8000) : bt (imgG (rkCs k) l) (7 + 0) = 1 ∧ bt (imgG (rkCs k) l) (7 + 1) = 1 ∧ bt (imgG (rkCs k) l) (7 + 2) = 2 ∧ bt (imgG (rkCs k) l) (7 + 3) = 3 + k := by
  have F := img_facts (rkCs k) l (by show 4 ≤ 100; decide) (fun n hn => by
    simp only [rkCs, List.mem_cons, List.not_mem_nil, or_false] at hn
    omega) hl
  exact ⟨F.cell 0 1 rfl, F.cell 1 1 rfl, F.cell 2 2 rfl, (F.cell 3 _ rfl).trans (by omega)⟩
theorem rkCd (k : Nat) (hk : k = 1 ∨ k = 2) (e : Ex) (he : rkE e) (hdp : depE e ≤ 4) (hco : cE e ≤ 31) : CdOk (rkCs k) (rkC k e) := by
  have hcode := (rk_code k e he).1
  have hsz : szC (rkC k e) ≤ 7999 := by
    simp only [rkC, szC, sz_cdE, List.length_cons, List.length_nil]
    omega
  have hb := rkBt k hk (prW (rkC k e)).flatten (by rw [prW_sz]; omega)
  have hbn := bnd_cdE (rkV k) e
  refine ⟨by show 4 ≤ 100; decide, fun n hn => ?_, ⟨wf_cdE (rl := fun _ => 0) (kd := fun _ => 0) (nC := 4) e (rk_ok k _ _ e he), pl_two (by omega) (by unfold byt; omega)⟩, hsz, ?_, ?_, ?_, ⟨cel_cdE e (rk_ok k _ _ e he), ins_cell (by omega) (by unfold byt; omega) ⟨by decide, Nat.le_refl 4, fun i hi => ?_, fun _ => ?_, fun h => ?_⟩⟩⟩
  · simp only [rkCs, List.mem_cons, List.not_mem_nil, or_false] at hn
    omega
  · show max (fdC (cdE (rkV k) e)) 0 ≤ 10
    rw [fd_cdE]
    decide
  · exact ht_seq (ht_cdE (rl := fun _ => 0) (kd := fun _ => 0) (nC := 4) e 0 (rk_ok k _ _ e he) (by omega)).2 (ht_one 3 rfl (by decide) rfl (by decide))
  · show bndC (cdE (rkV k) e) + 1 ≤ 199999
    omega
  · have : i = 0 := by omega
    subst this; exact ⟨rfl, rfl⟩
  · show rlOf _ 3 ≠ 0
    unfold rlOf
    rw [hb.2.2.2]
    omega
  · exact absurd h (by decide)
theorem rk_fits {rl kd : Nat → Nat} (r0 : rl 0 = 0) (r1 : rl 1 = 0) (r2 : rl 2 = 0) (r3 : rl 3 = 1) (k0 : kd 0 = 1) (k1 : kd 1 = 1) (k2 : kd 2 = 2) {a b c : Int} (ha : -32768 ≤ a ∧ a ≤ 32767) (hb : -32768 ≤ b ∧ b ≤ 32767) (hc : in32 c) (C : Nat → Int) :
    fitsL rl kd 4 0 [a, b, c] = true ∧ layL rl kd 4 0 [a, b, c] C = upd (upd (upd C 0 a) 1 b) 2 c := by
  have l1 : ∀ z : Int, -32768 ≤ z ∧ z ≤ 32767 → layK 1 z = z := fun z hz => by
    show IntKind.i16.wrap z = z
    unfold IntKind.wrap
    by_cases h3 : z % 65536 ≥ 32768 <;> simp [IntKind.bits, IntKind.signed, h3] <;> omega
  have l2 : layK 2 c = c := w32_id hc
  simp [fitsL, layL, r0, r1, r2, r3, k0, k1, k2, l1 a ha, l1 b hb, l2]
theorem rk_lay {k : Nat} (hk : k = 1 ∨ k = 2) {v : Int} (h2 : in32 v) (h1 : k = 1 → -32768 ≤ v ∧ v ≤ 32767) : layK k v = v := by
  rcases hk with rfl | rfl
  · have hz := h1 rfl
    show IntKind.i16.wrap v = v
    unfold IntKind.wrap
    by_cases h3 : v % 65536 ≥ 32768 <;> simp [IntKind.bits, IntKind.signed, h3] <;> omega
  · exact w32_id h2
theorem rk_ex (k : Nat) (e : Ex) (he : rkE e) (kd : Nat → Nat) (d : Int) {C : Nat → Int} {a b c : Int} (hA : C 0 = a) (hB : C 1 = b) (hC : C 2 = c) : exC kd d (rkC k e) C [] = .ok (upd C 3 (layK (kd 3) (valT a b c e)), []) := by
  simp only [rkC, exC]
  rw [ex_E (rl := fun _ => 0) (kd' := fun _ => 0) (nC := 4) e C [] (rk_ok k _ _ e he), ev_rk k d hA hB hC e he]
  simp only [onS, thenE]
  exact ex_set (by unfold byt; omega)

end Go.Proofs.YtidhiaaicmfabaaGreatDoor
