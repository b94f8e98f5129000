/- Letters, parts of a text, names. -/
import Derived.Test.YtidhiaaicmfabaaGreatDoorKaA
import Derived.WalkKit
import Derived.WalkSpells
import Derived.WalkLawsBesides
import Derived.Deep.OwnRows
import Derived.BigQuiet
import Derived.Handy
import Derived.Deep.Light
import Derived.Deep.RegionHeld3
import Derived.Deep.RegionWith
import Derived.Laws.Externs
import Derived.Laws.Strings

/- Letters, digits, blanks (seat .ZD alone). -/
namespace Go.Proofs.YtidhiaaicmfabaaGreatDoor
open Go.RowKit Go.Proofs Go.Deep

def isBl (c : Nat) : Bool := c == 32 || c == 10
def isDg (c : Nat) : Bool := decide (48 ≤ c) && decide (c ≤ 57)
def isLt (c : Nat) : Bool := (decide (97 ≤ c) && decide (c ≤ 122)) || (decide (65 ≤ c) && decide (c ≤ 90))
def isWd (c : Nat) : Bool := isLt c || isDg c || c == 95
theorem int_beq (c k : Nat) : ((c : Int) == (k : Int)) = (c == k) := by
  by_cases h : c = k
  · rw [h, beq_self_eq_true, beq_self_eq_true]
  · rw [beq_eq_false_iff_ne.2 h, beq_eq_false_iff_ne.2 (by omega)]
theorem isBlank_any (w : World) (c : Nat) (R : Ending → World → Prop) (fin : R (.returned (.bool (isBl c))) w) : Calls Tryz.prog 129 #[.int .u8 (c : Int)] w R := by
  by_cases h : c = 32
  · have d : ((c : Int) == 32) = true := by simp; omega
    have e : isBl c = true := by simp [isBl, h]
    rw [e] at fin
    replace fin := hd fin
    go_enter Tryz.func129, Tryz.ntmps129
    go_wp2
    exact cl1 fin.out rfl
  · have d : ((c : Int) == 32) = false := by simp; omega
    have e : isBl c = ((c : Int) == 10) := by
      have := int_beq c 10
      simp only [isBl]
      rw [show ((c : Int) == 10) = (c == 10) from this]
      simp [h]
    rw [e] at fin
    replace fin := hd fin
    go_enter Tryz.func129, Tryz.ntmps129
    go_wp2
    exact cl1 fin.out rfl
theorem isDigit_any (w : World) (c : Nat) (R : Ending → World → Prop) (fin : R (.returned (.bool (isDg c))) w) : Calls Tryz.prog 193 #[.int .u8 (c : Int)] w R := by
  by_cases h : 48 ≤ c
  · have d : decide ((48 : Int) ≤ (c : Int)) = true := by simp; omega
    have e : isDg c = decide ((c : Int) ≤ 57) := by
      have : decide ((c : Int) ≤ 57) = decide (c ≤ 57) := by by_cases h2 : c ≤ 57 <;> simp [h2] <;> omega
      rw [this]; simp [isDg, h]
    rw [e] at fin
    replace fin := hd fin
    go_enter Tryz.func193, Tryz.ntmps193
    go_wp2
    exact cl1 fin.out rfl
  · have d : decide ((48 : Int) ≤ (c : Int)) = false := by simp; omega
    have e : isDg c = false := by simp [isDg, h]
    rw [e] at fin
    replace fin := hd fin
    go_enter Tryz.func193, Tryz.ntmps193
    go_wp2
    exact cl1 fin.out rfl
theorem isLetter_any (w : World) (c : Nat) (R : Ending → World → Prop) (fin : R (.returned (.bool (isLt c))) w) : Calls Tryz.prog 190 #[.int .u8 (c : Int)] w R := by
  have k1 : decide ((97 : Int) ≤ (c : Int)) = decide (97 ≤ c) := by by_cases h : 97 ≤ c <;> simp [h] <;> omega
  have k2 : decide ((c : Int) ≤ 122) = decide (c ≤ 122) := by by_cases h : c ≤ 122 <;> simp [h] <;> omega
  have k3 : decide ((65 : Int) ≤ (c : Int)) = decide (65 ≤ c) := by by_cases h : 65 ≤ c <;> simp [h] <;> omega
  have k4 : decide ((c : Int) ≤ 90) = decide (c ≤ 90) := by by_cases h : c ≤ 90 <;> simp [h] <;> omega
  by_cases h1 : 97 ≤ c
  · have d1 : decide ((97 : Int) ≤ (c : Int)) = true := by rw [k1]; simpa using h1
    by_cases h2 : c ≤ 122
    · have d2 : decide ((c : Int) ≤ 122) = true := by rw [k2]; simpa using h2
      have e : isLt c = true := by simp [isLt, h1, h2]
      rw [e] at fin
      replace fin := hd fin
      clear k1 k2 k3 k4
      go_enter Tryz.func190, Tryz.ntmps190
      go_wp2
      exact cl1 fin.out rfl
    · have d2 : decide ((c : Int) ≤ 122) = false := by rw [k2]; simpa using h2
      have d3 : decide ((65 : Int) ≤ (c : Int)) = true := by simp; omega
      have d4 : decide ((c : Int) ≤ 90) = false := by simp; omega
      have e : isLt c = false := by simp [isLt, h2]; omega
      rw [e] at fin
      replace fin := hd fin
      clear k1 k2 k3 k4
      go_enter Tryz.func190, Tryz.ntmps190
      go_wp2
      exact cl1 fin.out rfl
  · have d1 : decide ((97 : Int) ≤ (c : Int)) = false := by rw [k1]; simpa using h1
    by_cases h3 : 65 ≤ c
    · have d3 : decide ((65 : Int) ≤ (c : Int)) = true := by rw [k3]; simpa using h3
      have e : isLt c = decide ((c : Int) ≤ 90) := by rw [k4]; simp [isLt, h1, h3]
      rw [e] at fin
      replace fin := hd fin
      clear k1 k2 k3 k4
      go_enter Tryz.func190, Tryz.ntmps190
      go_wp2
      exact cl1 fin.out rfl
    · have d3 : decide ((65 : Int) ≤ (c : Int)) = false := by rw [k3]; simpa using h3
      have e : isLt c = false := by simp [isLt, h1, h3]
      rw [e] at fin
      replace fin := hd fin
      clear k1 k2 k3 k4
      go_enter Tryz.func190, Tryz.ntmps190
      go_wp2
      exact cl1 fin.out rfl
theorem isOfWord_any (w : World) (c : Nat) (R : Ending → World → Prop) (fin : R (.returned (.bool (isWd c))) w) : Calls Tryz.prog 192 #[.int .u8 (c : Int)] w R := by
  have e95 : ((c : Int) == 95) = (c == 95) := int_beq c 95
  unfold isWd at fin
  replace fin := hd fin
  cases h1 : isLt c
  · cases h2 : isDg c
    · rw [h1, h2, ← e95] at fin
      clear e95
      go_enter Tryz.func192, Tryz.ntmps192
      go_wp2_with (first | (go_at_call 190; refine isLetter_any _ _ _ ?_; rw [h1]) | (go_at_call 193; refine isDigit_any _ _ _ ?_; rw [h2]))
      exact cl1 fin.out (by simp)
    · rw [h1, h2] at fin
      go_enter Tryz.func192, Tryz.ntmps192
      go_wp2_with (first | (go_at_call 190; refine isLetter_any _ _ _ ?_; rw [h1]) | (go_at_call 193; refine isDigit_any _ _ _ ?_; rw [h2]))
      exact cl1 fin.out (by simp)
  · rw [h1] at fin
    go_enter Tryz.func192, Tryz.ntmps192
    go_wp2_with (first | (go_at_call 190; refine isLetter_any _ _ _ ?_; rw [h1]))
    exact cl1 fin.out (by simp)

end Go.Proofs.YtidhiaaicmfabaaGreatDoor

/- The reader of texts: next, accept, expect (seat .ZD alone). -/
namespace Go.Proofs.YtidhiaaicmfabaaGreatDoor
open Go.RowKit Go.Proofs Go.Deep

/-- The reader of texts of the program: its parts, where it stands, how deep, the names used, whether it failed. -/
def paF (pv : Value) (k d : Int) (uv : Value) (bad : Bool) (j : Nat) : Value := if j = 0 then pv else if j = 1 then .int .i64 k else if j = 2 then .int .i64 d else if j = 3 then uv else .bool bad
structure Pa (bp : Nat) (pv : Value) (L : List ByteArray) (k : Nat) (d : Int) (uv : Value) (bad : Bool) (w : World) : Prop where
  row : w.rowIs bp 142 5 (paF pv k d uv bad)
  le : k ≤ L.length
  sm : L.length ≤ 1000000
  parts : ∃ ao cp, pv = .slice ao L.length cp ∧ L.length ≤ cp ∧ (0 < L.length → ∃ g, ao = some ⟨g, 0, none⟩ ∧ g ≠ bp ∧ g < w.heap.size ∧ ∀ (j : Nat) (s : ByteArray), L[j]? = some s → w.cell? ⟨g, j, none⟩ = some (.string s))
def nextS (L : List ByteArray) (k : Nat) : ByteArray := L.getD k ⟨#[]⟩
theorem Pa.below {bp : Nat} {pv : Value} {L : List ByteArray} {k : Nat} {d : Int} {uv : Value} {bad : Bool} {w w' : World} (h : Pa bp pv L k d uv bad w) (hb : Below w.heap.size w w') : Pa bp pv L k d uv bad w' := by
  obtain ⟨ao, cp, e, hc, hp⟩ := h.parts
  refine ⟨h.row.of_block (hb.block _ h.row.lt), h.le, h.sm, ao, cp, e, hc, fun h0 => ?_⟩
  obtain ⟨g, e1, e2, e3, e4⟩ := hp h0
  exact ⟨g, e1, e2, Nat.lt_of_lt_of_le e3 hb.size, fun j s hj => (hb.cell (p := ⟨g, j, none⟩) e3).trans (e4 j s hj)⟩
theorem Pa.set {bp : Nat} {pv : Value} {L : List ByteArray} {k : Nat} {d : Int} {uv : Value} {bad : Bool} {w : World} (h : Pa bp pv L k d uv bad w) (j : Nat) (v : Value) {k' : Nat} {d' : Int} {uv' : Value} {bad' : Bool} (hk : k' ≤ L.length)
    (e : ∀ i, i < 5 → (if i = j then v else paF pv k d uv bad i) = paF pv k' d' uv' bad' i) : Pa bp pv L k' d' uv' bad' (w.setCell ⟨bp, j, none⟩ v) := by
  obtain ⟨ao, cp, e0, hc, hp⟩ := h.parts
  refine ⟨(h.row.set j v).congr e, hk, h.sm, ao, cp, e0, hc, fun h0 => ?_⟩
  obtain ⟨g, e1, e2, e3, e4⟩ := hp h0
  exact ⟨g, e1, e2, by rw [World.size_setCell]; exact e3, fun t s ht => by rw [World.cell?_setCell_other _ _ _ _ (by intro ee; injection ee with ee; exact e2 ee.symm)]; exact e4 t s ht⟩
section
variable {bp : Nat} {pv : Value} {L : List ByteArray} {k : Nat} {d : Int} {uv : Value} {bad : Bool} {w : World}
theorem Pa.setAt (h : Pa bp pv L k d uv bad w) {k' : Nat} (hk : k' ≤ L.length) : Pa bp pv L k' d uv bad (w.setCell ⟨bp, 1, none⟩ (.int .i64 (k' : Int))) := h.set 1 _ hk (fun i _ => by unfold paF; by_cases e : i = 1 <;> simp [e])
end
set_option maxRecDepth 100000 in
theorem next_any (w : World) {bp : Nat} {pv : Value} {L : List ByteArray} {k : Nat} {d : Int} {uv : Value} {bad : Bool} (h : Pa bp pv L k d uv bad w) (R : Ending → World → Prop)
    (fin : ∀ w', Pa bp pv L k d uv bad w' → Below w.heap.size w w' → R (.returned (.string (nextS L k))) w') : Calls Tryz.prog 134 #[.pointer (some ⟨bp, 0, none⟩)] w R := by
  have c0 : w.cell? ⟨bp, 0, none⟩ = some pv := h.row.cell (i := 0) (by omega)
  have c1 : w.cell? ⟨bp, 1, none⟩ = some (.int .i64 (k : Int)) := h.row.cell (i := 1) (by omega)
  have lb := h.row.lt
  have hle := h.le
  have hsm := h.sm
  have hpos : k ≠ L.length → 0 < L.length := fun h => by omega
  have hlt : k ≠ L.length → k < L.length := fun h => by omega
  obtain ⟨ao, cp, rfl, hc, hp⟩ := h.parts
  replace hp := hd hp
  replace fin := hd fin
  replace h := hd h
  by_cases hk : k = L.length
  · have e : nextS L k = ⟨#[]⟩ := by unfold nextS; rw [List.getD_eq_getElem?_getD, List.getElem?_eq_none (by omega)]; rfl
    rw [e] at fin
    have t : ((k : Int) == (L.length : Int)) = true := by rw [hk]; simp
    clear hp hpos hlt
    generalize L.length = n at *
    go_enter Tryz.func134, Tryz.ntmps134
    go_wp2_with (fail)
    go_quiet (fail)
    go_wp2
    exact cl1 (fin.out _ (h.out.below (below_drewN (Below.refl _ _) _)) (below_drewN (Below.refl _ _) _)) rfl
  · obtain ⟨s, hs⟩ : ∃ s, L[k]? = some s := ⟨_, List.getElem?_eq_getElem (hlt hk)⟩
    have e : nextS L k = s := by unfold nextS; rw [List.getD_eq_getElem?_getD, hs]; rfl
    rw [e] at fin
    have t : ((k : Int) == (L.length : Int)) = false := beq_eq_false_iff_ne.2 (by omega)
    obtain ⟨g, rfl, hne, hgl, hg⟩ := hp.out (hpos hk)
    have gc := hg k s hs
    have j0 : (0 : Int) ≤ (k : Int) ∧ (k : Int) < (L.length : Int) := by omega
    clear hp hg hpos hlt
    generalize L.length = n at *
    go_enter Tryz.func134, Tryz.ntmps134
    go_wp2_with (fail)
    go_quiet (fail)
    go_wp2_with (fail)
    go_quiet (fail)
    go_wp2
    exact cl1 (fin.out _ (h.out.below (below_drewN (below_drewN (Below.refl _ _) _) _)) (below_drewN (below_drewN (Below.refl _ _) _) _)) rfl
theorem nextS_end {L : List ByteArray} {k : Nat} (h : ¬ k < L.length) : nextS L k = ⟨#[]⟩ := by
  unfold nextS; rw [List.getD_eq_getElem?_getD, List.getElem?_eq_none (by omega)]; rfl
set_option maxRecDepth 100000 in
theorem accept_yes (w : World) {bp : Nat} {pv : Value} {L : List ByteArray} {k : Nat} {d : Int} {uv : Value} {bad : Bool} (h : Pa bp pv L k d uv bad w) (s : ByteArray) (hs : nextS L k = s) (h0 : s ≠ ⟨#[]⟩) (R : Ending → World → Prop)
    (fin : ∀ w', Pa bp pv L (k + 1) d uv bad w' → Only bp w w' → R (.returned (.bool true)) w') : Calls Tryz.prog 196 #[.pointer (some ⟨bp, 0, none⟩), .string s] w R := by
  have hk : k < L.length := by
    by_cases h1 : k < L.length
    · exact h1
    · exact absurd (hs.symm.trans (nextS_end h1)) h0
  have hsm := h.sm
  replace fin := hd fin
  go_enter Tryz.func196, Tryz.ntmps196
  go_wp2_with (fail)
  refine next_any _ h _ ?_
  intro w1 h1 hb1
  rw [hs]
  have c1 : w1.cell? ⟨bp, 1, none⟩ = some (.int .i64 (k : Int)) := h1.row.cell (i := 1) (by omega)
  have f1 := h1.row.frozen 1
  have lb := h1.row.lt
  have t : (s.toList == s.toList) = true := beq_self_eq_true _
  have h2 := hd (h1.setAt (k' := k + 1) (by omega))
  have j1 : IntKind.i64.wrap ((k : Int) + 1) = (k : Int) + 1 := IntWalk.i64_in _ (by omega)
  replace h1 := hd h1
  replace hb1 := hd hb1
  clear hs
  go_wp2
  exact cl1 (fin.out _ h2.out ((Only.of_below hb1.out).setCell (a := ⟨bp, 1, none⟩) (.inl rfl) _)) rfl
set_option maxRecDepth 100000 in
theorem accept_no (w : World) {bp : Nat} {pv : Value} {L : List ByteArray} {k : Nat} {d : Int} {uv : Value} {bad : Bool} (h : Pa bp pv L k d uv bad w) (s : ByteArray) (hs : ((nextS L k).toList == s.toList) = false) (R : Ending → World → Prop)
    (fin : ∀ w', Pa bp pv L k d uv bad w' → Only bp w w' → R (.returned (.bool false)) w') : Calls Tryz.prog 196 #[.pointer (some ⟨bp, 0, none⟩), .string s] w R := by
  replace fin := hd fin
  go_enter Tryz.func196, Tryz.ntmps196
  go_wp2_with (fail)
  refine next_any _ h _ ?_
  intro w1 h1 hb1
  replace h1 := hd h1
  replace hb1 := hd hb1
  go_wp2
  exact cl1 (fin.out _ h1.out (Only.of_below hb1.out)) rfl
set_option maxRecDepth 100000 in
theorem expect_yes (w : World) {bp : Nat} {pv : Value} {L : List ByteArray} {k : Nat} {d : Int} {uv : Value} {bad : Bool} (h : Pa bp pv L k d uv bad w) (s : ByteArray) (hs : nextS L k = s) (h0 : s ≠ ⟨#[]⟩) (R : Ending → World → Prop)
    (fin : ∀ w', Pa bp pv L (k + 1) d uv bad w' → Only bp w w' → R (.returned (.tuple #[])) w') : Calls Tryz.prog 132 #[.pointer (some ⟨bp, 0, none⟩), .string s] w R := by
  replace fin := hd fin
  go_enter Tryz.func132, Tryz.ntmps132
  go_wp2_with (fail)
  refine accept_yes _ h s hs h0 _ ?_
  intro w1 h1 ho1
  replace h1 := hd h1
  replace ho1 := hd ho1
  go_wp2
  go_end0
  exact fin.out _ h1.out ho1.out

end Go.Proofs.YtidhiaaicmfabaaGreatDoor

/- How many first bytes belong (seat .ZD alone). -/
namespace Go.Proofs.YtidhiaaicmfabaaGreatDoor
open Go.RowKit Go.Proofs Go.Deep

/-- How many of the first bytes belong. -/
def cntF (f : Nat → Bool) (s : ByteArray) : Nat → Nat → Nat
  | 0, i => i
  | k + 1, i => if i < s.size ∧ f (bt s i) = true then cntF f s k (i + 1) else i
theorem cntF_on {f : Nat → Bool} {s : ByteArray} {i : Nat} (h : i < s.size) (hf : f (bt s i) = true) : cntF f s (s.size - i) i = cntF f s (s.size - (i + 1)) (i + 1) := by
  obtain ⟨k, hk⟩ : ∃ k, s.size - i = k + 1 := ⟨s.size - i - 1, by omega⟩
  rw [hk, show s.size - (i + 1) = k by omega]
  simp [cntF, h, hf]
theorem cntF_no {f : Nat → Bool} {s : ByteArray} {i k : Nat} (hf : f (bt s i) = false) : cntF f s k i = i := by
  cases k with
  | zero => rfl
  | succ k => simp [cntF, hf]
set_option maxRecDepth 100000 in
theorem countFirst_any (w : World) (s : ByteArray) (hs : s.size ≤ maxLen) (F : FuncId) (f : Nat → Bool) (hcf : ∀ args w, (callFunc F args).run Tryz.prog w = .ok (.enter F args) w)
    (hF : ∀ (w : World) (c : Nat) (R : Ending → World → Prop), R (.returned (.bool (f c))) w → Calls Tryz.prog F #[.int .u8 (c : Int)] w R) (R : Ending → World → Prop) (fin : R (.returned (.int .i64 (cntF f s s.size 0 : Nat))) w) :
    Calls Tryz.prog 191 #[.string s, .func (.func F) #[] #[]] w R := by
  have hX : ∃ X, cntF f s s.size 0 = X := ⟨_, rfl⟩
  obtain ⟨X, hX⟩ := hX
  rw [hX] at fin
  replace hX := hd hX
  replace fin := hd fin
  replace hF := hd hF
  unfold maxLen at hs
  go_enter Tryz.func191, Tryz.ntmps191
  go_wp2
  go_loopw [5] (fun i wr => ∃ k : Nat, k ≤ s.size ∧ i = .int .i64 k ∧ wr = w ∧ cntF f s (s.size - k) k = X) (fun i _ => s.size - (intOf i).toNat)
  case atStart => exact ⟨0, by omega, rfl, rfl, hX.out⟩
  case round =>
    obtain ⟨k, hk, rfl, rfl, hx⟩ := hrel
    by_cases hlt : k < s.size
    · have td : decide ((k : Int) < (s.size : Int)) = true := by simp; omega
      have hb := bt_of s k hlt
      have j0 : (0 : Int) ≤ (k : Int) ∧ (k : Int) < (s.size : Int) := by omega
      cases hf : f (bt s k)
      · have e := cntF_no (k := s.size - k) hf
        replace hx := hd hx
        go_wp2_with (fail)
        refine hF.out _ _ _ ?_
        rw [hf]
        go_wp2
        exact cl1 fin.out (by rw [← hx.out, e]; rfl)
      · have e := cntF_on hlt hf
        replace hx := hd hx
        go_wp2_with (fail)
        refine hF.out _ _ _ ?_
        rw [hf]
        go_wp2
        exact ⟨⟨k + 1, by omega, by go_num, by first | rfl | trivial, by rw [← e]; exact hx.out⟩, by simp [intOf]; omega⟩
    · have td : decide ((k : Int) < (s.size : Int)) = false := by simp; omega
      have e : cntF f s (s.size - k) k = k := by rw [show s.size - k = 0 by omega]; rfl
      replace hx := hd hx
      go_wp2
      exact cl1 fin.out (by rw [← hx.out, e]; rfl)

end Go.Proofs.YtidhiaaicmfabaaGreatDoor

/- strings.HasPrefix (seat .ZD alone). -/
namespace Go.Proofs.YtidhiaaicmfabaaGreatDoor
open Go.RowKit Go.Proofs Go.Deep

def hpV (s p : ByteArray) : Bool := decide (p.size ≤ s.size) && ((s.extract 0 p.size).toList == p.toList)
set_option maxRecDepth 100000 in
theorem hasPrefix_lite (w : World) (s p : ByteArray) (R : Ending → World → Prop) (fin : R (.returned (.bool (hpV s p))) w) : Calls Tryz.prog 207 #[.string s, .string p] w R := by
  unfold hpV at fin
  by_cases h : p.size ≤ s.size
  · have t : decide ((p.size : Int) ≤ (s.size : Int)) = true := by simp; omega
    rw [show decide (p.size ≤ s.size) = true by simpa using h, Bool.true_and] at fin
    replace fin := hd fin
    go_enter Tryz.func207, Tryz.ntmps207
    go_wp2
    exact cl1 fin.out rfl
  · have t : decide ((p.size : Int) ≤ (s.size : Int)) = false := by simp; omega
    rw [show decide (p.size ≤ s.size) = false by simpa using h, Bool.false_and] at fin
    replace fin := hd fin
    go_enter Tryz.func207, Tryz.ntmps207
    go_wp2
    exact cl1 fin.out rfl
theorem hasPrefix_any (w : World) (s p : ByteArray) (R : Ending → World → Prop) (fin : R (.returned (.bool (hpV s p))) w) : Calls Tryz.prog 194 #[.string s, .string p] w R := by
  replace fin := hd fin
  go_enter Tryz.func194, Tryz.ntmps194
  go_wp2_with (fail)
  refine hasPrefix_lite _ s p _ ?_
  go_wp2
  exact cl1 fin.out rfl

end Go.Proofs.YtidhiaaicmfabaaGreatDoor

/- How many bytes the first part of a text has (seat .ZD alone). -/
namespace Go.Proofs.YtidhiaaicmfabaaGreatDoor
open Go.RowKit Go.Proofs Go.Deep

theorem ext_index (s : ByteArray) (c : Nat) (w : World) : (callFunc 228 #[.string s, .int .u8 (c : Int)]).run Tryz.prog w = .ok (.value (.int .i64 (firstIdx s (c : Int).toNat.toUInt8))) w := by
  rw [run_callFunc_extern Tryz.func228 (by kernel_rfl) (by kernel_rfl) (by kernel_rfl) (e := Extern.BytealgIndexByte.indexByte) (by kernel_rfl), run_indexByte_string]
  rfl
set_option maxRecDepth 100000 in
theorem indexByte_lite (w : World) (s : ByteArray) (c : Nat) (R : Ending → World → Prop) (fin : R (.returned (.int .i64 (firstIdx s (c : Int).toNat.toUInt8))) w) : Calls Tryz.prog 219 #[.string s, .int .u8 (c : Int)] w R := by
  replace fin := hd fin
  have h := ext_index s c w
  generalize firstIdx s (c : Int).toNat.toUInt8 = r at *
  go_enter Tryz.func219, Tryz.ntmps219
  go_wp2
  exact cl1 fin.out rfl
theorem indexByte_any (w : World) (s : ByteArray) (c : Nat) (R : Ending → World → Prop) (fin : R (.returned (.int .i64 (firstIdx s (c : Int).toNat.toUInt8))) w) : Calls Tryz.prog 195 #[.string s, .int .u8 (c : Int)] w R := by
  replace fin := hd fin
  go_enter Tryz.func195, Tryz.ntmps195
  go_wp2_with (fail)
  refine indexByte_lite _ s c _ ?_
  go_wp2
  exact cl1 fin.out rfl
def signB : ByteArray := ⟨#[58, 59, 44, 40, 41, 91, 93, 43, 45, 42, 47, 61, 60]⟩
def isSg (c : Nat) : Bool := decide (0 ≤ firstIdx signB (UInt8.ofNat c))
def asgB : ByteArray := ⟨#[58, 61]⟩
/-- How many bytes the first part of a text has. -/
def flV (s : ByteArray) : Nat := if isBl (bt s 0) then 1 else if isLt (bt s 0) then cntF isWd s s.size 0 else if isDg (bt s 0) then cntF isDg s s.size 0 else if hpV s asgB then 2 else if isSg (bt s 0) then 1 else 0
theorem fnv_word : ∀ (args : Array Value) (w : World), (callFunc 192 args).run Tryz.prog w = .ok (.enter 192 args) w := fun _ _ => by kernel_rfl
theorem fnv_digit : ∀ (args : Array Value) (w : World), (callFunc 193 args).run Tryz.prog w = .ok (.enter 193 args) w := fun _ _ => by kernel_rfl
set_option maxRecDepth 100000 in
theorem firstLength_any (w : World) (s : ByteArray) (hs : s.size ≤ maxLen) (h0 : 0 < s.size) (R : Ending → World → Prop) (fin : R (.returned (.int .i64 (flV s : Nat))) w) : Calls Tryz.prog 128 #[.string s] w R := by
  have hb := bt_of s 0 h0
  have j0 : (0 : Int) < (s.size : Int) := by omega
  have hsm := hs
  unfold maxLen at hsm
  unfold flV at fin
  cases h1 : isBl (bt s 0)
  · cases h2 : isLt (bt s 0)
    · cases h3 : isDg (bt s 0)
      · cases h4 : hpV s asgB
        · cases h5 : isSg (bt s 0)
          · have t5 : decide (0 ≤ firstIdx signB (UInt8.ofNat (bt s 0))) = false := h5
            have fin2 := hd (show R (.returned (.int .i64 (0 : Int))) w by simpa [h1, h2, h3, h4, h5] using fin)
            clear fin
            go_enter Tryz.func128, Tryz.ntmps128
            go_wp2_with (first | (go_at_call 129; refine isBlank_any _ _ _ ?_; rw [h1]) | (go_at_call 190; refine isLetter_any _ _ _ ?_; rw [h2]) | (go_at_call 193; refine isDigit_any _ _ _ ?_; rw [h3]) | (go_at_call 194; refine hasPrefix_any _ s asgB _ ?_; rw [h4]) | (go_at_call 195; refine indexByte_any _ signB _ _ ?_) | (go_at_call 191; refine countFirst_any _ s hs _ isWd fnv_word isOfWord_any _ ?_))
            exact cl1 fin2.out rfl
          · have t5 : decide (0 ≤ firstIdx signB (UInt8.ofNat (bt s 0))) = true := h5
            have fin2 := hd (show R (.returned (.int .i64 (1 : Int))) w by simpa [h1, h2, h3, h4, h5] using fin)
            clear fin
            go_enter Tryz.func128, Tryz.ntmps128
            go_wp2_with (first | (go_at_call 129; refine isBlank_any _ _ _ ?_; rw [h1]) | (go_at_call 190; refine isLetter_any _ _ _ ?_; rw [h2]) | (go_at_call 193; refine isDigit_any _ _ _ ?_; rw [h3]) | (go_at_call 194; refine hasPrefix_any _ s asgB _ ?_; rw [h4]) | (go_at_call 195; refine indexByte_any _ signB _ _ ?_) | (go_at_call 191; refine countFirst_any _ s hs _ isWd fnv_word isOfWord_any _ ?_))
            exact cl1 fin2.out rfl
        · have h5 := h4
          have fin2 := hd (show R (.returned (.int .i64 (2 : Int))) w by simpa [h1, h2, h3, h4] using fin)
          clear fin
          go_enter Tryz.func128, Tryz.ntmps128
          go_wp2_with (first | (go_at_call 129; refine isBlank_any _ _ _ ?_; rw [h1]) | (go_at_call 190; refine isLetter_any _ _ _ ?_; rw [h2]) | (go_at_call 193; refine isDigit_any _ _ _ ?_; rw [h3]) | (go_at_call 194; refine hasPrefix_any _ s asgB _ ?_; rw [h4]) | (go_at_call 195; refine indexByte_any _ signB _ _ ?_) | (go_at_call 191; refine countFirst_any _ s hs _ isWd fnv_word isOfWord_any _ ?_))
          exact cl1 fin2.out rfl
      · have h4 := h3
        have fin2 := hd (show R (.returned (.int .i64 ((cntF isDg s s.size 0 : Nat) : Int))) w by simpa [h1, h2, h3] using fin)
        clear fin
        go_enter Tryz.func128, Tryz.ntmps128
        go_wp2_with (first | (go_at_call 129; refine isBlank_any _ _ _ ?_; rw [h1]) | (go_at_call 190; refine isLetter_any _ _ _ ?_; rw [h2]) | (go_at_call 193; refine isDigit_any _ _ _ ?_; rw [h3]) | (go_at_call 194; refine hasPrefix_any _ s asgB _ ?_; rw [h4]) | (go_at_call 195; refine indexByte_any _ signB _ _ ?_) | (go_at_call 191; refine countFirst_any _ s hs _ isDg fnv_digit isDigit_any _ ?_))
        exact cl1 fin2.out rfl
    · have h3 := h2
      have fin2 := hd (show R (.returned (.int .i64 ((cntF isWd s s.size 0 : Nat) : Int))) w by simpa [h1, h2] using fin)
      clear fin
      go_enter Tryz.func128, Tryz.ntmps128
      go_wp2_with (first | (go_at_call 129; refine isBlank_any _ _ _ ?_; rw [h1]) | (go_at_call 190; refine isLetter_any _ _ _ ?_; rw [h2]) | (go_at_call 193; refine isDigit_any _ _ _ ?_; rw [h3]) | (go_at_call 194; refine hasPrefix_any _ s asgB _ ?_; rw [h4]) | (go_at_call 195; refine indexByte_any _ signB _ _ ?_) | (go_at_call 191; refine countFirst_any _ s hs _ isWd fnv_word isOfWord_any _ ?_))
      exact cl1 fin2.out rfl
  · have h2 := h1
    have fin2 := hd (show R (.returned (.int .i64 (1 : Int))) w by simpa [h1] using fin)
    clear fin
    go_enter Tryz.func128, Tryz.ntmps128
    go_wp2_with (first | (go_at_call 129; refine isBlank_any _ _ _ ?_; rw [h1]) | (go_at_call 190; refine isLetter_any _ _ _ ?_; rw [h2]) | (go_at_call 193; refine isDigit_any _ _ _ ?_; rw [h3]) | (go_at_call 194; refine hasPrefix_any _ s asgB _ ?_; rw [h4]) | (go_at_call 195; refine indexByte_any _ signB _ _ ?_) | (go_at_call 191; refine countFirst_any _ s hs _ isWd fnv_word isOfWord_any _ ?_))
    exact cl1 fin2.out rfl

end Go.Proofs.YtidhiaaicmfabaaGreatDoor

/- The parts of a text (seat .ZD alone). -/
namespace Go.Proofs.YtidhiaaicmfabaaGreatDoor
open Go.RowKit Go.Proofs Go.Deep

theorem cntF_le {f : Nat → Bool} {s : ByteArray} : ∀ (k i : Nat), i ≤ s.size → cntF f s k i ≤ s.size
  | 0, i, h => h
  | k + 1, i, h => by
    simp only [cntF]
    split
    · exact cntF_le k (i + 1) (by omega)
    · exact h
theorem flV_le {s : ByteArray} (h : 0 < s.size) : flV s ≤ s.size := by
  unfold flV
  split
  · omega
  · split
    · exact cntF_le _ _ (by omega)
    · split
      · exact cntF_le _ _ (by omega)
      · split
        · rename_i h4
          simp only [hpV, Bool.and_eq_true, decide_eq_true_eq] at h4
          exact h4.1
        · split <;> omega
/-- The parts of a text; none: something begins as no part does. -/
def spF : Nat → ByteArray → Option (List ByteArray)
  | 0, _ => some []
  | k + 1, s => if s.size = 0 then some [] else if flV s = 0 then none else (spF k (s.extract (flV s) s.size)).map (fun r => if isBl (bt s 0) then r else s.extract 0 (flV s) :: r)
def strV (l : List ByteArray) : List Value := l.map (fun s => Value.string s)
theorem infoStrZ : (Tryz.prog.info? 9).map (fun i => (i.zero, i.size, i.bytes)) = some (some (.string ⟨#[]⟩), 1, 16) := by kernel_rfl
theorem ulStrs : Tryz.prog.underlying 81 = some (.slice 9) := by kernel_rfl
theorem oneStr (s : ByteArray) : ∀ u ∈ [Value.string s], u.oneCell' = true := by
  intro u hu; simp only [List.mem_cons, List.not_mem_nil, or_false] at hu; subst hu; rfl
theorem own_slS {w : World} {base e size : Nat} {v : Value} {n : Nat} {xs : List Value} (h : w.ownsRow base e size v n xs) : ∃ ao cap, v = .slice ao n cap := by
  rcases h.2 with ⟨rfl, rfl⟩ | ⟨g, cap, cur, rfl, _⟩
  · exact ⟨none, 0, rfl⟩
  · exact ⟨_, cap, rfl⟩

end Go.Proofs.YtidhiaaicmfabaaGreatDoor

/- split: the parts of a text (seat .ZD alone). -/
namespace Go.Proofs.YtidhiaaicmfabaaGreatDoor
open Go.RowKit Go.Proofs Go.Deep

theorem list_zero {t : ByteArray} (h : t.size = 0) : t.toList = [] := by
  rw [ByteArray.toList_eq]
  have : t.data.size = 0 := h
  rw [Array.eq_empty_of_size_eq_zero this]
theorem list_pos {t : ByteArray} (h : ¬ t.size = 0) : t.toList ≠ [] := by
  rw [ByteArray.toList_eq]
  intro e
  have : t.data.toList.length = t.size := by simp
  rw [e] at this
  exact h this.symm
theorem nil_beq {t : ByteArray} (h : t.size = 0) : (t.toList == ([] : List UInt8)) = true := by rw [list_zero h]; rfl
theorem pos_beq {t : ByteArray} (h : ¬ t.size = 0) : (t.toList == ([] : List UInt8)) = false := beq_eq_false_iff_ne.2 (list_pos h)
set_option maxRecDepth 100000 in
set_option maxHeartbeats 1000000 in
theorem splitz_any (w : World) (s : ByteArray) (hs : s.size ≤ 1000000) (R : Ending → World → Prop)
    (bad : spF s.size s = none → ∀ w', Below w.heap.size w w' → R (.returned (.tuple #[.slice none 0 0, .bool false])) w')
    (good : ∀ l, spF s.size s = some l → l.length ≤ 1000000 → ∀ v w', Below w.heap.size w w' → w'.ownsRow w.heap.size 9 1 v l.length (strV l) → R (.returned (.tuple #[v, .bool true])) w') :
    Calls Tryz.prog 67 #[.string s] w R := by
  have hX : ∃ X, spF s.size s = X := ⟨_, rfl⟩
  obtain ⟨X, hX⟩ := hX
  rw [hX] at bad good
  replace hX := hd hX
  replace bad := hd bad
  replace good := hd good
  go_enter Tryz.func67, Tryz.ntmps67
  go_wp2
  go_loopw [0, 4] (fun tv pv wr => ∃ (t : ByteArray) (acc : List ByteArray) (f : Nat), tv = .string t ∧ t.size ≤ f ∧ acc.length + t.size ≤ 1000000 ∧ wr.ownsRow w.heap.size 9 1 pv acc.length (strV acc) ∧ Below w.heap.size w wr ∧ X = (spF f t).map (acc ++ ·)) (fun tv _ _ => match tv with | .string t => t.size | _ => 0)
  case atStart => exact ⟨s, [], s.size, rfl, Nat.le_refl _, by simpa using hs, World.ownsRow_nil _ _ _ _, Below.refl _ _, by rw [hX.out]; cases X <;> simp⟩
  case round =>
    rename_i u0 u4
    obtain ⟨t, acc, f, rfl, hf, hal, hown, hbel, hx⟩ := hrel
    obtain ⟨ao, cp, rfl⟩ := own_slS hown
    by_cases h0 : t.size = 0
    · have tb := nil_beq h0
      have e : spF f t = some [] := by cases f with
        | zero => rfl
        | succ f => simp [spF, h0]
      rw [e] at hx
      replace hx := hd hx
      replace hown := hd hown
      replace hbel := hd hbel
      go_wp2
      exact cl1 (good.out acc (by rw [hx.out]; simp) (by omega) _ _ hbel.out hown.out) rfl
    · have tb := pos_beq h0
      have hpos : 0 < t.size := by omega
      have hmx : t.size ≤ maxLen := by unfold maxLen; omega
      obtain ⟨k, rfl⟩ : ∃ k, f = k + 1 := ⟨f - 1, by omega⟩
      have hfl := flV_le hpos
      have hwr := hbel.size
      replace hx := hd hx
      replace hown := hd hown
      replace hbel := hd hbel
      go_wp2_with (fail)
      refine firstLength_any _ t hmx hpos _ ?_
      by_cases hz : flV t = 0
      · have e : spF (k + 1) t = none := by simp [spF, h0, hz]
        have hX2 : X = none := by rw [hx.out, e]; rfl
        have tz : ((flV t : Int) == 0) = true := by simp [hz]
        go_wp2
        exact cl1 (bad.out hX2 _ hbel.out) rfl
      · have tz : ((flV t : Int) == 0) = false := beq_eq_false_iff_ne.2 (by omega)
        have hb := bt_of t 0 hpos
        have j0 : (0 : Int) < (t.size : Int) := by omega
        have hsz : (t.extract (flV t) t.size).size = t.size - flV t := by rw [ByteArray.size_extract]; omega
        have j1 : (0 : Int) ≤ (flV t : Int) ∧ (flV t : Int) ≤ (t.size : Int) := by omega
        cases hbl : isBl (bt t 0)
        · have e : spF (k + 1) t = (spF k (t.extract (flV t) t.size)).map (fun r => t.extract 0 (flV t) :: r) := by simp [spF, h0, hz, hbl]
          have hx2 := hd (hx.out.trans (by rw [e]))
          have hs0 : (t.extract 0 (flV t)).size = flV t := by rw [ByteArray.size_extract]; omega
          generalize flV t = n at *
          go_wp2_with (first | (go_at_call 129; refine isBlank_any _ _ _ ?_; rw [hbl]) | (at_builtin; refine wpList_app _ rfl _ _ 81 rfl w.heap.size 9 _ 1 16 ulStrs infoStrZ rfl (by decide) _ _ _ rfl (by exact hown.out.alloc _) _ 1 1 [.string (t.extract 0 n)] rfl (by exact alloc_at (by simp)) rfl (oneStr _) (by unfold maxLen; omega) (by omega) (by simp; omega) ?_; intro v1 w1 hown1 hgr1; obtain ⟨ao1, cp1, rfl⟩ := own_slS hown1; replace hown1 := hd hown1; replace hgr1 := hd hgr1))
          refine ⟨⟨t.extract n t.size, acc ++ [t.extract 0 n], k, rfl, by omega, by simp; omega, ?_, ?_, ?_⟩, by show (t.extract n t.size).size < t.size; omega⟩
          · have := hown1.out
            rw [List.length_append]
            simpa [strV] using this
          · exact (hbel.out.alloc hwr _).grown hgr1.out (by simp; omega) (fun k hk => (hown.out.lt k hk).1)
          · rw [hx2.out]
            cases spF k (t.extract n t.size) <;> simp
        · have e : spF (k + 1) t = spF k (t.extract (flV t) t.size) := by simp [spF, h0, hz, hbl]
          have hx2 := hd (hx.out.trans (by rw [e]))
          generalize flV t = n at *
          go_wp2_with (first | (go_at_call 129; refine isBlank_any _ _ _ ?_; rw [hbl]))
          exact ⟨⟨t.extract n t.size, acc, k, rfl, by omega, by omega, hown.out, hbel.out, hx2.out⟩, by show (t.extract n t.size).size < t.size; omega⟩

end Go.Proofs.YtidhiaaicmfabaaGreatDoor

/- Names in lower case; isName (seat .ZD alone). -/
namespace Go.Proofs.YtidhiaaicmfabaaGreatDoor
open Go.RowKit Go.Proofs Go.Deep

set_option maxRecDepth 100000 in
/-- A text without capitals, all of whose bytes are below 128, is its own lower case. -/
theorem toLower_low (w : World) (s : ByteArray) (hs : s.size ≤ maxLen) (hl : ∀ i, i < s.size → bt s i < 128 ∧ ¬ (65 ≤ bt s i ∧ bt s i ≤ 90)) (R : Ending → World → Prop) (fin : R (.returned (.string s)) w) : Calls Tryz.prog 229 #[.string s] w R := by
  unfold maxLen at hs
  replace fin := hd fin
  replace hl := hd hl
  go_enter Tryz.func229, Tryz.ntmps229
  go_wp2
  go_loopw [3, 4, 5] (fun a b i wr => ∃ k : Nat, k ≤ s.size ∧ a = .bool true ∧ b = .bool false ∧ i = .int .i64 k ∧ wr = w) (fun _ _ i _ => s.size - (intOf i).toNat)
  case atStart => exact ⟨0, by omega, rfl, rfl, rfl, rfl⟩
  case round =>
    obtain ⟨k, hk, rfl, rfl, rfl, rfl⟩ := hrel
    by_cases hlt : k < s.size
    · have td : decide ((k : Int) < (s.size : Int)) = true := by simp; omega
      have hb := bt_of s k hlt
      have j0 : (0 : Int) ≤ (k : Int) ∧ (k : Int) < (s.size : Int) := by omega
      obtain ⟨h1, h2⟩ := hl.out k hlt
      have t1 : decide ((128 : Int) ≤ (bt s k : Int)) = false := by simp; omega
      by_cases h65 : 65 ≤ bt s k
      · have t2 : decide ((65 : Int) ≤ (bt s k : Int)) = true := by simp; omega
        have t3 : decide ((bt s k : Int) ≤ 90) = false := by simp; omega
        go_wp2
        exact ⟨⟨k + 1, by omega, rfl, by first | rfl | simp, by go_num, by first | rfl | trivial⟩, by simp [intOf]; omega⟩
      · have t2 : decide ((65 : Int) ≤ (bt s k : Int)) = false := by simp; omega
        go_wp2
        exact ⟨⟨k + 1, by omega, rfl, by first | rfl | simp, by go_num, by first | rfl | trivial⟩, by simp [intOf]; omega⟩
    · have td : decide ((k : Int) < (s.size : Int)) = false := by simp; omega
      go_wp2
      exact cl1 fin.out rfl
set_option maxRecDepth 100000 in
theorem isName_yes (w : World) (s : ByteArray) (h0 : 0 < s.size) (h12 : s.size ≤ 12) (h1 : isLt (bt s 0) = true) (hl : ∀ i, i < s.size → bt s i < 128 ∧ ¬ (65 ≤ bt s i ∧ bt s i ≤ 90)) (R : Ending → World → Prop) (fin : R (.returned (.bool true)) w) :
    Calls Tryz.prog 221 #[.string s] w R := by
  have hb := bt_of s 0 h0
  have j0 : (0 : Int) < (s.size : Int) := by omega
  have t0 := pos_beq (t := s) (by omega)
  have t1 : decide ((s.size : Int) ≤ 12) = true := by simp; omega
  have t2 : (s.toList == s.toList) = true := beq_self_eq_true _
  replace fin := hd fin
  go_enter Tryz.func221, Tryz.ntmps221
  go_wp2_with (first | (go_at_call 190; refine isLetter_any _ _ _ ?_; rw [h1]) | (go_at_call 229; refine toLower_low _ s (by unfold maxLen; omega) hl _ ?_))
  exact cl1 fin.out (by first | rfl | simp)
set_option maxRecDepth 100000 in
theorem isName_no (w : World) (s : ByteArray) (h1 : s.size = 0 ∨ isLt (bt s 0) = false) (R : Ending → World → Prop) (fin : R (.returned (.bool false)) w) :
    Calls Tryz.prog 221 #[.string s] w R := by
  replace fin := hd fin
  by_cases h0 : s.size = 0
  · have t0 := nil_beq (t := s) h0
    go_enter Tryz.func221, Tryz.ntmps221
    go_wp2
    exact cl1 fin.out rfl
  · have t0 := pos_beq (t := s) h0
    have hb := bt_of s 0 (by omega)
    have j0 : (0 : Int) < (s.size : Int) := by omega
    have h2 : isLt (bt s 0) = false := by rcases h1 with h | h; exact absurd h h0; exact h
    go_enter Tryz.func221, Tryz.ntmps221
    go_wp2_with (first | (go_at_call 190; refine isLetter_any _ _ _ ?_; rw [h2]))
    exact cl1 fin.out (by first | rfl | simp)

end Go.Proofs.YtidhiaaicmfabaaGreatDoor

/- The reader of texts: name, enter, leave (seat .ZD alone). -/
namespace Go.Proofs.YtidhiaaicmfabaaGreatDoor
open Go.RowKit Go.Proofs Go.Deep

theorem fnv_name : ∀ (args : Array Value) (w : World), (callFunc 221 args).run Tryz.prog w = .ok (.enter 221 args) w := fun _ _ => by kernel_rfl
theorem Pa.setDep {bp : Nat} {pv : Value} {L : List ByteArray} {k : Nat} {d : Int} {uv : Value} {bad : Bool} {w : World} (h : Pa bp pv L k d uv bad w) (d' : Int) : Pa bp pv L k d' uv bad (w.setCell ⟨bp, 2, none⟩ (.int .i64 d')) := h.set 2 _ h.le (fun i _ => by unfold paF; by_cases e : i = 2 <;> simp [e])
/-- A name of the text, as names are. -/
structure LowName (s : ByteArray) : Prop where
  pos : 0 < s.size
  le : s.size ≤ 12
  first : isLt (bt s 0) = true
  low : ∀ i, i < s.size → bt s i < 128 ∧ ¬ (65 ≤ bt s i ∧ bt s i ≤ 90)
set_option maxRecDepth 100000 in
theorem name_yes (w : World) {bp : Nat} {pv : Value} {L : List ByteArray} {k : Nat} {d : Int} {uv : Value} {bad : Bool} (h : Pa bp pv L k d uv bad w) (hn : LowName (nextS L k)) (R : Ending → World → Prop)
    (fin : ∀ w', Pa bp pv L (k + 1) d uv bad w' → Only bp w w' → R (.returned (.string (nextS L k))) w') : Calls Tryz.prog 197 #[.pointer (some ⟨bp, 0, none⟩)] w R := by
  have hk : k < L.length := by
    by_cases h1 : k < L.length
    · exact h1
    · have := hn.pos
      rw [nextS_end h1] at this
      exact absurd this (by decide)
  have hsm := h.sm
  have hcf := fnv_name
  replace fin := hd fin
  go_enter Tryz.func197, Tryz.ntmps197
  go_wp2_with (fail)
  go_enter Tryz.func220, Tryz.ntmps220
  go_wp2_with (fail)
  refine next_any _ h _ ?_
  intro w1 h1 hb1
  have c1 : w1.cell? ⟨bp, 1, none⟩ = some (.int .i64 (k : Int)) := h1.row.cell (i := 1) (by omega)
  have f1 := h1.row.frozen 1
  have lb := h1.row.lt
  have h2 := hd (h1.setAt (k' := k + 1) (by omega))
  have j1 : IntKind.i64.wrap ((k : Int) + 1) = (k : Int) + 1 := IntWalk.i64_in _ (by omega)
  replace h1 := hd h1
  replace hb1 := hd hb1
  generalize nextS L k = s at *
  go_wp2_with (fail)
  refine isName_yes _ s hn.pos hn.le hn.first hn.low _ ?_
  go_wp2
  exact cl1 (fin.out _ h2.out ((Only.of_below hb1.out).setCell (a := ⟨bp, 1, none⟩) (.inl rfl) _)) rfl
set_option maxRecDepth 100000 in
theorem enter_ok (w : World) {bp : Nat} {pv : Value} {L : List ByteArray} {k : Nat} {d : Int} {uv : Value} {bad : Bool} (h : Pa bp pv L k d uv bad w) (hd0 : 0 ≤ d ∧ d ≤ 9) (R : Ending → World → Prop)
    (fin : ∀ w', Pa bp pv L k (d + 1) uv bad w' → Only bp w w' → R (.returned (.tuple #[])) w') : Calls Tryz.prog 234 #[.pointer (some ⟨bp, 0, none⟩)] w R := by
  have c2 : w.cell? ⟨bp, 2, none⟩ = some (.int .i64 d) := h.row.cell (i := 2) (by omega)
  have f2 := h.row.frozen 2
  have lb := h.row.lt
  have h2 := hd (h.setDep (d + 1))
  have j1 : IntKind.i64.wrap (d + 1) = d + 1 := IntWalk.i64_in _ (by omega)
  have t : decide (10 < d + 1) = false := by simp; omega
  replace fin := hd fin
  clear h
  go_enter Tryz.func234, Tryz.ntmps234
  go_wp2
  go_end0
  exact fin.out _ h2.out ((Only.refl _ _).setCell (a := ⟨bp, 2, none⟩) (.inl rfl) _)
end Go.Proofs.YtidhiaaicmfabaaGreatDoor
