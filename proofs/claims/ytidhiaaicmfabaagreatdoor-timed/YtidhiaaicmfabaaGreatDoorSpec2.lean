/- The walk from the first instruction to the last, in plain functions; join in two halves. -/
import Derived.Test.YtidhiaaicmfabaaGreatDoorRefA
import Derived.Test.YtidhiaaicmfabaaGreatDoorSpec
namespace Go.Proofs.YtidhiaaicmfabaaGreatDoor
open Go.RowKit Go.Proofs Go.Deep

/-- What is known ahead of each instruction: how many numbers are on the stack (-1: it can't be come to), how long it takes at most. -/
def upd (f : Nat → Int) (t : Nat) (v : Int) : Nat → Int := fun j => if j = t then v else f j

/-- One way to instruction t. -/
def jn (H L : Nat → Int) (t : Nat) (h d : Int) : Option ((Nat → Int) × (Nat → Int)) :=
  if 0 ≤ H t ∧ H t ≠ h then none else some (upd H t h, upd L t (max (L t) d))

/-- One instruction (not END) of the walk from the first to the last; none: a rule is broken. -/
def refStep (op : Nat → Nat) (N : Nat → Int) (To : Nat → Nat) (i : Nat) (H L : Nat → Int) : Option ((Nat → Int) × (Nat → Int)) :=
  if H i < popsOf (op i) ∨ 32 < H i - popsOf (op i) + pushesOf (op i) then none
  else if op i = 17 then jn H L (To i) (H i - popsOf (op i) + pushesOf (op i)) (L i + 1)
  else if op i = 18 then
    match jn H L (To i) (H i - popsOf (op i) + pushesOf (op i)) (L i + 1) with
    | none => none
    | some S => jn S.1 S.2 (i + 1) (H i - popsOf (op i) + pushesOf (op i)) (L i + 1)
  else if op i = 19 then jn H L (i + 1) (H i - popsOf (op i) + pushesOf (op i)) 0
  else if op i = 20 then
    (if H i - popsOf (op i) + pushesOf (op i) = H (To i + 1) then jn H L (i + 1) (H i - popsOf (op i) + pushesOf (op i)) (min (L (To i) + 1 + N (To i) * (L i + 1)) 1099511627776) else none)
  else jn H L (i + 1) (H i - popsOf (op i) + pushesOf (op i)) (L i + 1)

/-- The walk from instruction i on: the bound; none: a rule is broken. -/
def refGo (op : Nat → Nat) (N : Nat → Int) (To : Nat → Nat) (n : Nat) : Nat → Nat → (Nat → Int) → (Nat → Int) → Option Int
  | 0, _, _, _ => none
  | fuel + 1, i, H, L =>
    if op i = 0 then (if H i = 0 ∧ i + 1 = n then some (L i + 1) else none)
    else
      match refStep op N To i H L with
      | none => none
      | some S => refGo op N To n fuel (i + 1) S.1 S.2

def H0 : Nat → Int := fun j => if j = 0 then 0 else -1
def L0 : Nat → Int := fun _ => 0

theorem join_no (w : World) (bh bl n : Nat) (i : Nat) (H L : Nat → Int) (h d : Int) (hi : i < n) (hn : n ≤ 10000) (hne : bh ≠ bl)
    (rh : w.rowIs bh 3 n (fun j => .int .i64 (H j))) (rl : w.rowIs bl 3 n (fun j => .int .i64 (L j))) (hc : 0 ≤ H i ∧ H i ≠ h)
    (R : Ending → World → Prop) (fin : R (.returned (.bool false)) w) :
    Calls Tryz.prog 146 #[.slice (some ⟨bh, 0, none⟩) n n, .slice (some ⟨bl, 0, none⟩) n n, .int .i64 (i : Int), .int .i64 h, .int .i64 d] w R :=
  join_any w bh bl n i H L h d hi hn hne rh rl R (fun _ _ => fin) (fun _ _ h' => by rcases h' with h' | h' <;> omega)
theorem join_yes (w : World) (bh bl n : Nat) (i : Nat) (H L : Nat → Int) (h d : Int) (hi : i < n) (hn : n ≤ 10000) (hne : bh ≠ bl)
    (rh : w.rowIs bh 3 n (fun j => .int .i64 (H j))) (rl : w.rowIs bl 3 n (fun j => .int .i64 (L j))) (hc : ¬ (0 ≤ H i ∧ H i ≠ h))
    (R : Ending → World → Prop) (fin : ∀ m : Int, m = max (L i) d → R (.returned (.bool true)) ((w.setCell ⟨bh, i, none⟩ (.int .i64 h)).setCell ⟨bl, i, none⟩ (.int .i64 m))) :
    Calls Tryz.prog 146 #[.slice (some ⟨bh, 0, none⟩) n n, .slice (some ⟨bl, 0, none⟩) n n, .int .i64 (i : Int), .int .i64 h, .int .i64 d] w R :=
  join_any w bh bl n i H L h d hi hn hne rh rl R (fun h1 h2 => absurd ⟨h1, h2⟩ hc) (fun m hm _ => fin m hm)

theorem jn_none {H L : Nat → Int} {t : Nat} {h d : Int} (hc : 0 ≤ H t ∧ H t ≠ h) : jn H L t h d = none := by simp [jn, hc]
theorem jn_some {H L : Nat → Int} {t : Nat} {h d : Int} (hc : ¬ (0 ≤ H t ∧ H t ≠ h)) : jn H L t h d = some (upd H t h, upd L t (max (L t) d)) := by rw [jn, if_neg hc]

/-- Two rows behind a join. -/
theorem join_rows {w : World} {bh bl n i T : Nat} {H L : Nat → Int} {h m d : Int} (hne : bh ≠ bl) (hm : m = max (L i) d)
    (rh : w.rowIs bh T n (fun j => .int .i64 (H j))) (rl : w.rowIs bl T n (fun j => .int .i64 (L j))) :
    ((w.setCell ⟨bh, i, none⟩ (.int .i64 h)).setCell ⟨bl, i, none⟩ (.int .i64 m)).rowIs bh T n (fun j => .int .i64 (upd H i h j)) ∧
    ((w.setCell ⟨bh, i, none⟩ (.int .i64 h)).setCell ⟨bl, i, none⟩ (.int .i64 m)).rowIs bl T n (fun j => .int .i64 (upd L i (max (L i) d) j)) := by
  subst hm
  constructor
  · refine ((rh.set i (.int .i64 h)).setOther (a := ⟨bl, i, none⟩) hne _).congr fun j _ => ?_
    unfold upd; split <;> rfl
  · refine ((rl.setOther (a := ⟨bh, i, none⟩) (Ne.symm hne) _).set i _).congr fun j _ => ?_
    unfold upd; split <;> rfl

end Go.Proofs.YtidhiaaicmfabaaGreatDoor
