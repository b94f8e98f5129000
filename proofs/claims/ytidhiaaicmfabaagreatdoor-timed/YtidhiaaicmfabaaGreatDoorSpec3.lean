/- When an image is right, by the document's own reader: in plain functions of its bytes. -/
import Derived.Test.YtidhiaaicmfabaaGreatDoorRefD
import Derived.Test.YtidhiaaicmfabaaGreatDoorSpec2
namespace Go.Proofs.YtidhiaaicmfabaaGreatDoor

def hdrOk (s : ByteArray) : Prop := 9 ≤ s.size ∧ (s.extract 0 6).toList = [83, 76, 85, 73, 67, 69] ∧ bt s 6 ≤ 100 ∧ 9 + bt s 6 ≤ s.size
def sortsOk (s : ByteArray) : Prop := ∀ i, i < bt s 6 → bt s (7 + i) ≤ 8
def codeOf (s : ByteArray) : ByteArray := s.extract (9 + bt s 6) s.size
def sizeOk (s : ByteArray) : Prop := s.size - (9 + bt s 6) = b16 s (7 + bt s 6) ∧ b16 s (7 + bt s 6) ≤ 8000
def rlOf (s : ByteArray) (i : Nat) : Int := ((bt s (7 + i) / 3 : Nat) : Int)
def kdOf (s : ByteArray) (i : Nat) : Int := ((bt s (7 + i) % 3 : Nat) : Int)
def atL (ps : List Nat) (i : Nat) : Nat := ps.getD i 0
def opL (c : ByteArray) (ps : List Nat) (i : Nat) : Nat := bt c (atL ps i)
def cL (c : ByteArray) (ps : List Nat) (i : Nat) : Nat := insC c (atL ps i)
def nL (c : ByteArray) (ps : List Nat) (i : Nat) : Int := insN c (atL ps i)
def insOk (rl kd : Nat → Int) (nC op c : Nat) (N : Int) : Prop :=
  ((op = 2 ∨ op = 3 ∨ op = 4 ∨ op = 5 ∨ op = 21) → CellOk rl kd nC op c N.toNat) ∧ (op = 19 → 1 ≤ N)
/-- The target of a jump: the first instruction that begins at that byte. -/
def tgt (at_ : Nat → Nat) (n : Nat) (t : Int) : Nat := (List.range n).findIdx (fun j => (at_ j : Int) == t)
def toL (at_ op : Nat → Nat) (N : Nat → Int) (n i : Nat) : Nat := if op i = 20 then (inOf op i).toNat else tgt at_ n (N i)
/-- All rules but the bound hold of these instructions; bd is the bound. -/
def codeOk (rl kd : Nat → Int) (nC : Nat) (c : ByteArray) (ps : List Nat) (bd : Int) : Prop :=
  ps ≠ [] ∧ (∀ i, i < ps.length → insOk rl kd nC (opL c ps i) (cL c ps i) (nL c ps i)) ∧ stk (opL c ps) ps.length = some [] ∧
  (∀ i, i < ps.length → isJump (opL c ps i) → ∃ t, JumpOk (atL ps) (opL c ps) (nL c ps) ps.length i t) ∧
  refGo (opL c ps) (nL c ps) (toL (atL ps) (opL c ps) (nL c ps) ps.length) ps.length ps.length 0 H0 L0 = some bd
def imgOk (s : ByteArray) (bd : Int) : Prop :=
  hdrOk s ∧ sortsOk s ∧ sizeOk s ∧ ∃ ps, posF (codeOf s) ((codeOf s).size + 1) 0 = some ps ∧ codeOk (rlOf s) (kdOf s) (bt s 6) (codeOf s) ps bd

theorem tgt_eq {at_ op : Nat → Nat} {N : Nat → Int} {n i t : Nat} (h : JumpOk at_ op N n i t) : tgt at_ n (N i) = t := by
  obtain ⟨a, _, c, _, e⟩ := h
  unfold tgt
  rw [List.findIdx_eq (by simpa using c)]
  refine ⟨by simpa using a, fun j hj => ?_⟩
  have := e j hj
  simpa using this

end Go.Proofs.YtidhiaaicmfabaaGreatDoor
