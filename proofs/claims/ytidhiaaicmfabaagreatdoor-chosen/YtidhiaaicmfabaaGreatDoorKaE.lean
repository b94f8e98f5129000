/- Jumps; when an image is right. -/
import Derived.Test.YtidhiaaicmfabaaGreatDoorKaA
import Derived.Test.YtidhiaaicmfabaaGreatDoorKaB
import Derived.WalkKit
import Derived.WalkSpells
import Derived.WalkLawsBesides
import Derived.Deep.OwnRows
import Derived.BigQuiet
import Derived.Handy
import Derived.Deep.Light
import Derived.Deep.RegionHeld3
import Derived.Deep.RegionWith

/- The contract of the document's own function jumps. -/
namespace Go.Proofs.YtidhiaaicmfabaaGreatDoor
open Go.RowKit Go.Proofs Go.Deep

/-- The jump at i is right: it goes on at instruction t, behind it and in the same FOR. -/
def JumpOk (at_ op : Nat → Nat) (N : Nat → Int) (n i t : Nat) : Prop := (at_ t : Int) = N i ∧ i < t ∧ t < n ∧ inOf op t = inOf op i ∧ ∀ j, j < t → (at_ j : Int) ≠ N i
def isJump (op : Nat) : Prop := op = 17 ∨ op = 18
def PlaceIs (A : Nat → Int) (n : Nat) (t r : Int) : Prop := (∃ k : Nat, k < n ∧ r = k ∧ A k = t ∧ ∀ j, j < k → A j ≠ t) ∨ (r = -1 ∧ ∀ j, j < n → A j ≠ t)
theorem place_one (w : World) (b n cap : Nat) (t : Int) (A : Nat → Int) (hn : n ≤ 10000) (hA : ∀ j, j < n → w.cell? ⟨b, j * 6, none⟩ = some (.int .i64 (A j)))
    (R : Ending → World → Prop) (fin : ∀ r, PlaceIs A n t r → R (.returned (.int .i64 r)) w) :
    Calls Tryz.prog 144 #[.slice (some ⟨b, 0, none⟩) n cap, .int .i64 t] w R :=
  place_any w b n cap t A hn hA R (fun k hk he hall => fin _ (.inl ⟨k, hk, rfl, he, hall⟩)) (fun h => fin _ (.inr ⟨rfl, h⟩))

theorem jump_uniq {at_ op : Nat → Nat} {N : Nat → Int} {n i t t' : Nat} (h1 : (at_ t : Int) = N i) (h2 : ∀ j, j < t → (at_ j : Int) ≠ N i) (h : JumpOk at_ op N n i t') : t' = t := by
  obtain ⟨a, b, c, d, e⟩ := h
  rcases Nat.lt_trichotomy t' t with h | h | h
  · exact absurd a (h2 t' h)
  · exact h
  · exact absurd h1 (e t h)

set_option maxRecDepth 100000 in
set_option maxHeartbeats 8000000 in
theorem jumps_any (w : World) (bx b n cap : Nat) (at_ op C : Nat → Nat) (N To : Nat → Int) (hn : n ≤ 8000) (hne : bx ≠ b)
    (hx : w.cell? ⟨bx, 1, none⟩ = some (.slice (some ⟨b, 0, none⟩) n cap))
    (ht : Tab w b 123 6 n cap (codeA at_ op C N To (inOf op)))
    (R : Ending → World → Prop)
    (no : (∃ i, i < n ∧ isJump (op i) ∧ ∀ t, ¬ JumpOk at_ op N n i t) → ∀ w', Only b w w' → R (.returned (.bool false)) w')
    (yes : ∀ To' : Nat → Int, (∀ i, i < n → isJump (op i) → ∃ t : Nat, To' i = (t : Int) ∧ JumpOk at_ op N n i t) → (∀ i, ¬ isJump (op i) → To' i = To i) → ∀ w', Only b w w' → Tab w' b 123 6 n cap (codeA at_ op C N To' (inOf op)) → R (.returned (.bool true)) w') :
    Calls Tryz.prog 97 #[.pointer (some ⟨bx, 0, none⟩)] w R := by
  replace yes := hd yes
  replace no := hd no
  have hbx : bx < w.heap.size := World.block_lt_of_cell? w _ hx
  have hb := ht.lt
  replace ht := hd ht
  go_enter Tryz.func97, Tryz.ntmps97
  go_wp2
  go_loopw [3] (fun i wr => ∃ (k : Nat) (To' : Nat → Int), k ≤ n ∧ i = .int .i64 k ∧ Only b w wr ∧ Tab wr b 123 6 n cap (codeA at_ op C N To' (inOf op)) ∧
      (∀ i, i < k → isJump (op i) → ∃ t : Nat, To' i = (t : Int) ∧ JumpOk at_ op N n i t) ∧ (∀ i, (k ≤ i ∨ ¬ isJump (op i)) → To' i = To i)) (fun i _ => n - (intOf i).toNat)
  case atStart => exact ⟨0, To, by omega, rfl, Only.refl _ _, ht.out, by omega, fun _ _ => rfl⟩
  case round =>
    obtain ⟨k, To', hk, rfl, honly, htab, hj1, hj2⟩ := hrel
    have hx1 : wr.cell? ⟨bx, 1, none⟩ = some (.slice (some ⟨b, 0, none⟩) n cap) := by rw [honly.cell hbx hne]; exact hx
    replace honly := hd honly
    replace hj1 := hd hj1
    replace hj2 := hd hj2
    by_cases hlt : k < n
    · have c1 : wr.cell? ⟨b, k * 6 + 1, none⟩ = some (.int .i64 (op k)) := htab.cell hlt (f := 1) (by omega)
      have c3 : wr.cell? ⟨b, k * 6 + 3, none⟩ = some (.int .i64 (N k)) := htab.cell hlt (f := 3) (by omega)
      have c4 : wr.cell? ⟨b, k * 6 + 4, none⟩ = some (.int .i64 (To' k)) := htab.cell hlt (f := 4) (by omega)
      have c5 : wr.cell? ⟨b, k * 6 + 5, none⟩ = some (.int .i64 (inOf op k)) := htab.cell hlt (f := 5) (by omega)
      have fz := fun o => htab.frozen o
      have hA := hd (fun j (hj : j < n) => htab.cell0 hj (by omega))
      by_cases hjmp : isJump (op k)
      · have ej : ((op k : Int) != 17) = false ∨ ((op k : Int) != 17) = true ∧ ((op k : Int) != 18) = false := by
          rcases hjmp with h | h <;> simp [h]
        rcases ej with e17 | ⟨e17, e18⟩
        all_goals
          replace htab := hd htab
          go_wp2
          go_region_with (go_at_call 144; refine place_one _ _ _ _ _ (fun j => (at_ j : Int)) (by omega) (by exact hA.out) _ ?_; intro r hr; replace hr := hd hr)
          all_goals
            have htab4 := hd ((htab.out.set k 4 (by omega) (.int .i64 r)).congr (fun j _ g _ => codeA_to j g))
            have honly4 := hd (honly.out.setCell (a := ⟨b, k * 6 + 4, none⟩) (.inl rfl) (.int .i64 r))
            rcases hr.out with ⟨t, ht1, hrt, hA1, hA2⟩ | ⟨hrt, hA1⟩
            · subst hrt
              have c5t : wr.cell? ⟨b, t * 6 + 5, none⟩ = some (.int .i64 (inOf op t)) := htab.out.cell ht1 (f := 5) (by omega)
              have hne1 : ¬ t * 6 + 5 = k * 6 + 4 := by omega
              replace hA1 := hd hA1
              replace hA2 := hd hA2
              by_cases htk : t ≤ k
              · have dk : decide ((t : Int) ≤ (k : Int)) = true := by simp; omega
                go_wp2
                go_quiet (fail)
                go_wp2
                refine cl1 (no.out ⟨k, hlt, hjmp, fun t' hj => ?_⟩ _ (honly4.out.drew.drewN _)) rfl
                have := jump_uniq hA1.out hA2.out hj
                have := hj.2.1
                omega
              · have dk : decide ((t : Int) ≤ (k : Int)) = false := by simp; omega
                have hin : (inOf op t != inOf op k) = true ∨ (inOf op t != inOf op k) = false := by cases (inOf op t != inOf op k) <;> simp
                rcases hin with hin | hin
                · go_wp2
                  go_quiet (fail)
                  go_wp2
                  refine cl1 (no.out ⟨k, hlt, hjmp, fun t' hj => ?_⟩ _ (honly4.out.drew.drewN _)) rfl
                  have := jump_uniq hA1.out hA2.out hj
                  subst this
                  have := hj.2.2.2.1
                  simp [this] at hin
                · go_wp2
                  go_quiet (fail)
                  go_wp2
                  refine ⟨⟨k + 1, (fun j => if j = k then (t : Int) else To' j), by omega, by go_num, honly4.out.drewN _, htab4.out.drewN _, fun i hi ho => ?_, fun i hi => ?_⟩, by simp [intOf]; omega⟩
                  · by_cases e : i = k
                    · subst e
                      exact ⟨t, by simp, hA1.out, by omega, ht1, by simpa using hin, hA2.out⟩
                    · simp only [e, if_false]; exact hj1.out i (by omega) ho
                  · have e : i ≠ k := by
                      rcases hi with h | h
                      · omega
                      · intro e; subst e; exact h hjmp
                    simp only [e, if_false]
                    exact hj2.out i (hi.elim (fun h => .inl (by omega)) .inr)
            · subst hrt
              have dk : decide ((-1 : Int) ≤ (k : Int)) = true := by rw [decide_eq_true_iff]; omega
              replace hA1 := hd hA1
              go_wp2
              go_quiet (fail)
              go_wp2
              refine cl1 (no.out ⟨k, hlt, hjmp, fun t' hj => ?_⟩ _ (honly4.out.drew.drewN _)) rfl
              exact absurd hj.1 (hA1.out t' hj.2.2.1)
      · have e17 : ((op k : Int) != 17) = true := by simp; intro h; exact hjmp (.inl (by omega))
        have e18 : ((op k : Int) != 18) = true := by simp; intro h; exact hjmp (.inr (by omega))
        replace htab := hd htab
        replace hjmp := hd hjmp
        go_wp2
        refine ⟨⟨k + 1, To', by omega, by go_num, honly.out, htab.out, fun i hi ho => ?_, fun i hi => hj2.out i (hi.elim (fun h => .inl (by omega)) .inr)⟩, by simp [intOf]; omega⟩
        by_cases e : i = k
        · subst e; exact absurd ho hjmp.out
        · exact hj1.out i (by omega) ho
    · have : k = n := by omega
      subst this
      go_wp2
      refine cl1 (yes.out To' hj1.out (fun i hi => hj2.out i (.inr hi)) _ honly.out htab) rfl

end Go.Proofs.YtidhiaaicmfabaaGreatDoor

/- When an image is right, by the document's own reader: in plain functions of its bytes. -/
namespace Go.Proofs.YtidhiaaicmfabaaGreatDoor

def hdrOk (s : ByteArray) : Prop := 9 ≤ s.size ∧ (s.extract 0 6).toList = [83, 76, 85, 73, 67, 69] ∧ bt s 6 ≤ 100 ∧ 9 + bt s 6 ≤ s.size
def sortsOk (s : ByteArray) : Prop := ∀ i, i < bt s 6 → bt s (7 + i) ≤ 8
def codeOf (s : ByteArray) : ByteArray := s.extract (9 + bt s 6) s.size
def sizeOk (s : ByteArray) : Prop := s.size - (9 + bt s 6) = b16 s (7 + bt s 6) ∧ b16 s (7 + bt s 6) ≤ 8000
def rlOf (s : ByteArray) (i : Nat) : Int := ((bt s (7 + i) / 3 : Nat) : Int)
def kdOf (s : ByteArray) (i : Nat) : Int := ((bt s (7 + i) % 3 : Nat) : Int)
def atL (ps : List Nat) (i : Nat) : Nat := ps.getD i 0
def opL (c : ByteArray) (ps : List Nat) (i : Nat) : Nat := bt c (atL ps i)
def cL (c : ByteArray) (ps : List Nat) (i : Nat) : Nat := insC c (atL ps i)
def nL (c : ByteArray) (ps : List Nat) (i : Nat) : Int := insN c (atL ps i)
def insOk (rl kd : Nat → Int) (nC op c : Nat) (N : Int) : Prop :=
  ((op = 2 ∨ op = 3 ∨ op = 4 ∨ op = 5 ∨ op = 21) → CellOk rl kd nC op c N.toNat) ∧ (op = 19 → 1 ≤ N)
/-- The target of a jump: the first instruction that begins at that byte. -/
def tgt (at_ : Nat → Nat) (n : Nat) (t : Int) : Nat := (List.range n).findIdx (fun j => (at_ j : Int) == t)
def toL (at_ op : Nat → Nat) (N : Nat → Int) (n i : Nat) : Nat := if op i = 20 then (inOf op i).toNat else tgt at_ n (N i)
/-- All rules but the bound hold of these instructions; bd is the bound. -/
def codeOk (rl kd : Nat → Int) (nC : Nat) (c : ByteArray) (ps : List Nat) (bd : Int) : Prop :=
  ps ≠ [] ∧ (∀ i, i < ps.length → insOk rl kd nC (opL c ps i) (cL c ps i) (nL c ps i)) ∧ stk (opL c ps) ps.length = some [] ∧
  (∀ i, i < ps.length → isJump (opL c ps i) → ∃ t, JumpOk (atL ps) (opL c ps) (nL c ps) ps.length i t) ∧
  refGo (opL c ps) (nL c ps) (toL (atL ps) (opL c ps) (nL c ps) ps.length) ps.length ps.length 0 H0 L0 = some bd
def imgOk (s : ByteArray) (bd : Int) : Prop :=
  hdrOk s ∧ sortsOk s ∧ sizeOk s ∧ ∃ ps, posF (codeOf s) ((codeOf s).size + 1) 0 = some ps ∧ codeOk (rlOf s) (kdOf s) (bt s 6) (codeOf s) ps bd

theorem tgt_eq {at_ op : Nat → Nat} {N : Nat → Int} {n i t : Nat} (h : JumpOk at_ op N n i t) : tgt at_ n (N i) = t := by
  obtain ⟨a, _, c, _, e⟩ := h
  unfold tgt
  rw [List.findIdx_eq (by simpa using c)]
  refine ⟨by simpa using a, fun j hj => ?_⟩
  have := e j hj
  simpa using this

end Go.Proofs.YtidhiaaicmfabaaGreatDoor
