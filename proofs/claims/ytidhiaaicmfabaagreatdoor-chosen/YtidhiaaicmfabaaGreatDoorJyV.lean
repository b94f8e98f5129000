/- Code with its ways: its image is right, its runs do what it says. -/
import Derived.Test.YtidhiaaicmfabaaGreatDoorKaA
import Derived.WalkKit
import Derived.WalkSpells
import Derived.WalkLawsBesides
import Derived.Deep.OwnRows
import Derived.BigQuiet
import Derived.Handy
import Derived.Deep.Light
import Derived.Deep.RegionHeld3
import Derived.Deep.RegionWith
import Derived.Test.YtidhiaaicmfabaaGreatDoorJzF
import Derived.Test.YtidhiaaicmfabaaGreatDoorJyO
import Derived.Test.YtidhiaaicmfabaaGreatDoorJyR
import Derived.Test.YtidhiaaicmfabaaGreatDoorJyP

/- Code with its ways: its instructions and their bytes (seat .ZD alone). -/
namespace Go.Proofs.YtidhiaaicmfabaaGreatDoor
open Go.RowKit Go.Proofs Go.Deep

/-- Code with its ways: an instruction, a branch (j: behind the first half a jump over the second), a FOR. -/
inductive Cd where
  | nil : Cd
  | one (x : List Int) : Cd
  | seq (a b : Cd) : Cd
  | ite (t e : Cd) (j : Bool) : Cd
  | rep (n : Nat) (b : Cd) : Cd
def jz (j : Bool) : Nat := if j then 1 else 0
def nI : Cd → Nat
  | .nil => 0
  | .one _ => 1
  | .seq a b => nI a + nI b
  | .ite t e j => 1 + nI t + jz j + nI e
  | .rep _ b => 2 + nI b
def szC : Cd → Nat
  | .nil => 0
  | .one x => x.length
  | .seq a b => szC a + szC b
  | .ite t e j => 3 + szC t + 3 * jz j + szC e
  | .rep _ b => 4 + szC b
/-- The instructions, for where the code begins. -/
def flat : Nat → Cd → List (List Int)
  | _, .nil => []
  | _, .one x => [x]
  | p, .seq a b => flat p a ++ flat (p + szC a) b
  | p, .ite t e j => [(18 : Int) :: two (p + 3 + szC t + 3 * jz j)] ++ flat (p + 3) t ++ (if j then [(17 : Int) :: two (p + 3 + szC t + 3 * jz j + szC e)] else []) ++ flat (p + 3 + szC t + 3 * jz j) e
  | p, .rep n b => [(19 : Int) :: two n] ++ flat (p + 3) b ++ [[20]]
theorem flat_len : ∀ (c : Cd) (p : Nat), (flat p c).length = nI c
  | .nil, _ => rfl
  | .one _, _ => rfl
  | .seq a b, p => by simp [flat, nI, flat_len a, flat_len b]
  | .ite t e j, p => by cases j <;> simp [flat, nI, jz, flat_len t, flat_len e] <;> omega
  | .rep n b, p => by simp [flat, nI, flat_len b]; omega
theorem two_len (n : Nat) : (two n).length = 2 := rfl
theorem flat_sz : ∀ (c : Cd) (p : Nat), (flat p c).flatten.length = szC c
  | .nil, _ => rfl
  | .one _, _ => by simp [flat, szC]
  | .seq a b, p => by
    have h1 := flat_sz a p
    have h2 := flat_sz b (p + szC a)
    simp only [flat, List.flatten_append, List.length_append, szC]
    omega
  | .ite t e j, p => by
    have h1 := flat_sz t (p + 3)
    have h2 := flat_sz e (p + 3 + szC t + 3 * jz j)
    simp only [flat, List.flatten_append, List.length_append, szC, h1, h2]
    cases j <;> simp [two_len, jz] <;> omega
  | .rep n b, p => by
    have h1 := flat_sz b (p + 3)
    simp only [flat, List.flatten_append, List.length_append, szC, h1]
    simp [two_len]
    omega
/-- An instruction as it must be. -/
def okX (x : List Int) : Prop := 0 < x.length ∧ osz (x.headD 0).toNat = x.length ∧ ∀ n ∈ x, 0 ≤ n ∧ n ≤ 255
def oc (x : List Int) : Nat := (x.headD 0).toNat
/-- The bytes of code. -/
def bys (l : List Int) : ByteArray := ba (u8L l)
theorem bys_size (l : List Int) : (bys l).size = l.length := by unfold bys; rw [ba_size]; simp [u8L]
theorem bys_bt {l : List Int} {i : Nat} {n : Int} (h : l[i]? = some n) (hn : 0 ≤ n ∧ n ≤ 255) : bt (bys l) i = n.toNat := by
  have h1 : (u8L l)[i]? = some (UInt8.ofNat n.toNat) := by
    unfold u8L
    rw [List.getElem?_map, h]
    rfl
  unfold bys
  rw [ba_bt _ _ _ h1, UInt8.toNat_ofNat']
  omega
theorem bys_mid (a x b : List Int) (hx : ∀ n ∈ x, 0 ≤ n ∧ n ≤ 255) (j : Nat) (hj : j < x.length) : bt (bys (a ++ x ++ b)) (a.length + j) = bt (bys x) j := by
  obtain ⟨n, hn⟩ : ∃ n, x[j]? = some n := ⟨_, List.getElem?_eq_getElem hj⟩
  have h0 := hx n (List.mem_of_getElem? hn)
  rw [bys_bt hn h0]
  refine bys_bt ?_ h0
  rw [List.getElem?_append_left (by simp; omega), List.getElem?_append_right (by omega), Nat.add_sub_cancel_left]
  exact hn
theorem oc_bt {x : List Int} (h : okX x) : bt (bys x) 0 = oc x := by
  cases x with
  | nil => exact absurd h.1 (by simp)
  | cons n r => exact bys_bt (n := n) rfl (h.2.2 n (by simp))
/-- What is read at a place hangs on the instruction's own bytes. -/
theorem loc {s s' : ByteArray} {a b : Nat} (h : ∀ j, j < osz (bt s' b) → bt s (a + j) = bt s' (b + j)) (h0 : 0 < osz (bt s' b)) :
    bt s a = bt s' b ∧ vArg s a = vArg s' b ∧ vCnt s a = vCnt s' b ∧ insC s a = insC s' b ∧ insN s a = insN s' b := by
  have e0 : bt s a = bt s' b := h 0 h0
  have l5 : bt s' b = 1 → osz (bt s' b) = 5 := fun e => by rw [e]; rfl
  have l2 : bt s' b = 2 ∨ bt s' b = 3 ∨ bt s' b = 21 → osz (bt s' b) = 2 := fun e => by rcases e with e | e | e <;> (rw [e]; rfl)
  have l3 : bt s' b = 4 ∨ bt s' b = 5 ∨ bt s' b = 17 ∨ bt s' b = 18 ∨ bt s' b = 19 → osz (bt s' b) = 3 := fun e => by rcases e with e | e | e | e | e <;> (rw [e]; rfl)
  refine ⟨e0, ?_, ?_, ?_, ?_⟩
  · unfold vArg
    rw [e0]
    by_cases c1 : bt s' b = 1
    · have l := l5 c1
      rw [if_pos c1, if_pos c1]
      unfold s32 b32
      rw [h 1 (by omega), show a + 1 + 1 = a + 2 by omega, show a + 1 + 2 = a + 3 by omega, show a + 1 + 3 = a + 4 by omega, h 2 (by omega), h 3 (by omega), h 4 (by omega)]
    · rw [if_neg c1, if_neg c1]
      by_cases c2 : bt s' b = 2 ∨ bt s' b = 3 ∨ bt s' b = 21 ∨ bt s' b = 4 ∨ bt s' b = 5
      · rw [if_pos c2, if_pos c2, h 1 (by rcases c2 with c | c | c | c | c <;> (rw [c]; decide))]
      · rw [if_neg c2, if_neg c2]
        by_cases c3 : bt s' b = 17 ∨ bt s' b = 18 ∨ bt s' b = 19
        · have l := l3 (by omega)
          rw [if_pos c3, if_pos c3]
          unfold b16
          rw [h 1 (by omega), show a + 1 + 1 = a + 2 by omega, h 2 (by omega)]
        · rw [if_neg c3, if_neg c3]
  · unfold vCnt
    rw [e0]
    by_cases c1 : bt s' b = 4 ∨ bt s' b = 5
    · have l := l3 (by omega)
      rw [if_pos c1, if_pos c1, h 2 (by omega)]
    · rw [if_neg c1, if_neg c1]
  · unfold insC
    rw [e0]
    by_cases c2 : bt s' b = 2 ∨ bt s' b = 3 ∨ bt s' b = 4 ∨ bt s' b = 5 ∨ bt s' b = 21
    · rw [if_pos c2, if_pos c2, h 1 (by rcases c2 with c | c | c | c | c <;> (rw [c]; decide))]
    · rw [if_neg c2, if_neg c2]
  · unfold insN
    rw [e0]
    by_cases c1 : bt s' b = 1
    · have l := l5 c1
      rw [if_pos c1, if_pos c1]
      unfold s32 b32
      rw [h 1 (by omega), show a + 1 + 1 = a + 2 by omega, show a + 1 + 2 = a + 3 by omega, show a + 1 + 3 = a + 4 by omega, h 2 (by omega), h 3 (by omega), h 4 (by omega)]
    · rw [if_neg c1, if_neg c1]
      by_cases c3 : bt s' b = 17 ∨ bt s' b = 18 ∨ bt s' b = 19
      · have l := l3 (by omega)
        rw [if_pos c3, if_pos c3]
        unfold b16
        rw [h 1 (by omega), show a + 1 + 1 = a + 2 by omega, h 2 (by omega)]
      · rw [if_neg c3, if_neg c3]
        by_cases c4 : bt s' b = 4 ∨ bt s' b = 5
        · have l := l3 (by omega)
          rw [if_pos c4, if_pos c4, h 2 (by omega)]
        · rw [if_neg c4, if_neg c4]
/-- Where the instructions begin. -/
def posW : Nat → List (List Int) → List Nat
  | _, [] => []
  | p, x :: r => p :: posW (p + x.length) r
theorem posW_len : ∀ (W : List (List Int)) (p : Nat), (posW p W).length = W.length
  | [], _ => rfl
  | x :: r, p => by simp [posW, posW_len r]
theorem posW_get : ∀ (W : List (List Int)) (p i : Nat), i < W.length → (posW p W)[i]? = some (p + (W.take i).flatten.length)
  | [], _, i, h => by simp at h
  | x :: r, p, 0, _ => by simp [posW]
  | x :: r, p, i + 1, h => by
    simp only [posW, List.getElem?_cons_succ, List.take_succ_cons, List.flatten_cons, List.length_append]
    rw [posW_get r _ i (by simpa using h)]
    congr 1
    omega
theorem posF_W : ∀ (W : List (List Int)) (pre : List Int) (f : Nat), (∀ x ∈ W, okX x) → posF (bys (pre ++ W.flatten)) (W.length + f + 1) pre.length = some (posW pre.length W)
  | [], pre, f, _ => by
    simp only [List.flatten_nil, List.append_nil, posW]
    rw [show ([] : List (List Int)).length + f + 1 = f + 1 by simp, posF, if_neg (by rw [bys_size]; omega)]
  | x :: r, pre, f, h => by
    have hx := h x (by simp)
    have hb : bt (bys (pre ++ (x :: r).flatten)) pre.length = oc x := by
      have := bys_mid pre x r.flatten hx.2.2 0 hx.1
      rw [Nat.add_zero, oc_bt hx] at this
      rw [List.flatten_cons, ← List.append_assoc]
      exact this
    have hsz : (bys (pre ++ (x :: r).flatten)).size = pre.length + x.length + r.flatten.length := by
      rw [bys_size]; simp; omega
    have ho : osz (oc x) = x.length := hx.2.1
    have ih := posF_W r (pre ++ x) f (fun y hy => h y (by simp [hy]))
    rw [show (x :: r).length + f + 1 = (r.length + f + 1) + 1 by simp; omega, posF, hb, ho, hsz, if_pos (by have := hx.1; omega), if_neg (by have := hx.1; omega)]
    rw [List.flatten_cons, ← List.append_assoc]
    rw [List.length_append] at ih
    rw [ih]
    rfl
theorem W_at {W : List (List Int)} (h : ∀ x ∈ W, okX x) {i : Nat} {x : List Int} (hi : W[i]? = some x) :
    atL (posW 0 W) i = (W.take i).flatten.length ∧ opL (bys W.flatten) (posW 0 W) i = oc x ∧ argL (bys W.flatten) (posW 0 W) i = vArg (bys x) 0 ∧ cntL (bys W.flatten) (posW 0 W) i = vCnt (bys x) 0 ∧ cL (bys W.flatten) (posW 0 W) i = insC (bys x) 0 ∧ nL (bys W.flatten) (posW 0 W) i = insN (bys x) 0 := by
  have hlt : i < W.length := (List.getElem?_eq_some_iff.1 hi).1
  have hx := h x (List.mem_of_getElem? hi)
  have ea : atL (posW 0 W) i = (W.take i).flatten.length := by
    unfold atL
    rw [List.getD_eq_getElem?_getD, posW_get W 0 i hlt]
    simp
  have hsp : W.flatten = (W.take i).flatten ++ x ++ (W.drop (i + 1)).flatten := by
    conv => lhs; rw [← List.take_append_drop i W]
    rw [List.drop_eq_getElem_cons hlt, List.flatten_append, List.flatten_cons]
    obtain ⟨_, e⟩ := List.getElem?_eq_some_iff.1 hi
    rw [e, List.append_assoc]
  have hk : osz (bt (bys x) 0) = x.length := by rw [oc_bt hx]; exact hx.2.1
  have hl := loc (s := bys W.flatten) (s' := bys x) (a := (W.take i).flatten.length) (b := 0) (fun j hj => by
    rw [hk] at hj
    rw [hsp, Nat.zero_add]
    exact bys_mid _ x _ hx.2.2 j hj) (by rw [hk]; exact hx.1)
  refine ⟨ea, ?_, ?_, ?_, ?_, ?_⟩
  · unfold opL; rw [ea, hl.1, oc_bt hx]
  · unfold argL; rw [ea, hl.2.1]
  · unfold cntL; rw [ea, hl.2.2.1]
  · unfold cL; rw [ea, hl.2.2.2.1]
  · unfold nL; rw [ea, hl.2.2.2.2]
/-- F stands in W: from instruction i, byte p on. -/
def Sg (W : List (List Int)) (i p : Nat) (F : List (List Int)) : Prop := ∃ pre post, W = pre ++ F ++ post ∧ pre.length = i ∧ pre.flatten.length = p
theorem Sg.left {W A B : List (List Int)} {i p : Nat} (h : Sg W i p (A ++ B)) : Sg W i p A := by
  obtain ⟨pre, post, e, h1, h2⟩ := h
  exact ⟨pre, B ++ post, by rw [e]; simp, h1, h2⟩
theorem Sg.right {W A B : List (List Int)} {i p : Nat} (h : Sg W i p (A ++ B)) : Sg W (i + A.length) (p + A.flatten.length) B := by
  obtain ⟨pre, post, e, h1, h2⟩ := h
  exact ⟨pre ++ A, post, by rw [e]; simp, by simp [h1], by simp [← h2]⟩
theorem Sg.get {W : List (List Int)} {i p : Nat} {x : List Int} (h : Sg W i p [x]) : W[i]? = some x ∧ (W.take i).flatten.length = p ∧ i < W.length := by
  obtain ⟨pre, post, e, h1, h2⟩ := h
  subst h1
  refine ⟨?_, ?_, ?_⟩
  · rw [e]; simp
  · rw [e, List.append_assoc, List.take_left]; exact h2
  · rw [e]; simp
theorem Sg.pos {W : List (List Int)} {i p : Nat} {F : List (List Int)} (h : Sg W i p F) : (W.take i).flatten.length = p ∧ i + F.length ≤ W.length := by
  obtain ⟨pre, post, e, h1, h2⟩ := h
  subst h1
  refine ⟨?_, ?_⟩
  · rw [e, List.append_assoc, List.take_left]; exact h2
  · rw [e]; simp

end Go.Proofs.YtidhiaaicmfabaaGreatDoor

/- Such code: its FORs, its jumps (seat .ZD alone). -/
namespace Go.Proofs.YtidhiaaicmfabaaGreatDoor
open Go.RowKit Go.Proofs Go.Deep

/-- An instruction that goes on at the next one. -/
def plain (x : List Int) : Prop := okX x ∧ oc x ≠ 0 ∧ oc x ≠ 17 ∧ oc x ≠ 18 ∧ oc x ≠ 19 ∧ oc x ≠ 20
def wfC : Cd → Prop
  | .nil => True
  | .one x => plain x
  | .seq a b => wfC a ∧ wfC b
  | .ite t e j => wfC t ∧ wfC e ∧ (j = false → e = .nil)
  | .rep n b => (1 ≤ n ∧ n ≤ 65535) ∧ wfC b
/-- How deep its FORs are in one another. -/
def fdC : Cd → Nat
  | .nil => 0
  | .one _ => 0
  | .seq a b => max (fdC a) (fdC b)
  | .ite t e _ => max (fdC t) (fdC e)
  | .rep _ b => fdC b + 1
/-- How high the stack is behind it. -/
def htC : Cd → Nat → Option Nat
  | .nil, h => some h
  | .one x, h => if popsOf (oc x) ≤ h ∧ h - popsOf (oc x) + pushesOf (oc x) ≤ 32 then some (h - popsOf (oc x) + pushesOf (oc x)) else none
  | .seq a b, h => (htC a h).bind (htC b)
  | .ite t e _, h => if 1 ≤ h ∧ htC t (h - 1) = some (h - 1) ∧ htC e (h - 1) = some (h - 1) then some (h - 1) else none
  | .rep _ b, h => if htC b h = some h then some h else none
/-- How many steps it takes at most. -/
def bndC : Cd → Nat
  | .nil => 0
  | .one _ => 1
  | .seq a b => bndC a + bndC b
  | .ite t e j => 1 + max (bndC t + jz j) (bndC e)
  | .rep n b => 1 + n * (bndC b + 1)
theorem two_in (n : Nat) : ∀ m ∈ two n, 0 ≤ m ∧ m ≤ 255 := by
  intro m hm
  simp only [two, List.mem_cons, List.not_mem_nil, or_false] at hm
  rcases hm with rfl | rfl <;> omega
theorem okX_jump (o : Int) (n : Nat) (ho : o = 17 ∨ o = 18 ∨ o = 19) : okX (o :: two n) := by
  refine ⟨by simp, ?_, ?_⟩
  · rcases ho with rfl | rfl | rfl <;> rfl
  · intro m hm
    rcases List.mem_cons.1 hm with rfl | hm
    · omega
    · exact two_in n m hm
theorem okX_next : okX [20] := ⟨by simp, rfl, by simp⟩
theorem okX_end : okX [0] := ⟨by simp, rfl, by simp⟩
theorem flat_ok : ∀ (c : Cd) (p : Nat), wfC c → ∀ x ∈ flat p c, okX x
  | .nil, _, _, x, hx => by simp [flat] at hx
  | .one y, _, h, x, hx => by
    simp only [flat, List.mem_cons, List.not_mem_nil, or_false] at hx
    subst hx
    exact h.1
  | .seq a b, p, h, x, hx => by
    simp only [flat, List.mem_append] at hx
    rcases hx with hx | hx
    · exact flat_ok a _ h.1 x hx
    · exact flat_ok b _ h.2 x hx
  | .ite t e j, p, h, x, hx => by
    simp only [flat, List.mem_append] at hx
    rcases hx with ((hx | hx) | hx) | hx
    · simp only [List.mem_cons, List.not_mem_nil, or_false] at hx
      subst hx
      exact okX_jump _ _ (by omega)
    · exact flat_ok t _ h.1 x hx
    · cases j
      · simp at hx
      · simp only [if_true, List.mem_cons, List.not_mem_nil, or_false] at hx
        subst hx
        exact okX_jump _ _ (by omega)
    · exact flat_ok e _ h.2.1 x hx
  | .rep n b, p, h, x, hx => by
    simp only [flat, List.mem_append] at hx
    rcases hx with (hx | hx) | hx
    · simp only [List.mem_cons, List.not_mem_nil, or_false] at hx
      subst hx
      exact okX_jump _ _ (by omega)
    · exact flat_ok b _ h.2 x hx
    · simp only [List.mem_cons, List.not_mem_nil, or_false] at hx
      subst hx
      exact okX_next
theorem jump_val (o : Int) (n : Nat) (ho : o = 17 ∨ o = 18 ∨ o = 19) (hn : n ≤ 65535) : insN (bys (o :: two n)) 0 = (n : Int) ∧ vArg (bys (o :: two n)) 0 = (n : Int) := by
  have h0 : bt (bys (o :: two n)) 0 = o.toNat := bys_bt (n := o) rfl (by omega)
  have h1 : bt (bys (o :: two n)) (0 + 1) = n / 256 % 256 := (bys_bt (n := ((n / 256 % 256 : Nat) : Int)) rfl (by omega)).trans (by omega)
  have h2 : bt (bys (o :: two n)) (0 + 1 + 1) = n % 256 := (bys_bt (n := ((n % 256 : Nat) : Int)) rfl (by omega)).trans (by omega)
  unfold insN vArg b16
  rw [h0, h1, h2]
  rcases ho with rfl | rfl | rfl <;> simp <;> omega
theorem nz : ∀ (c : Cd), nI c = 0 → szC c = 0 ∧ bndC c = 0 ∧ (∀ h, htC c h = some h) ∧ ∀ p, flat p c = []
  | .nil, _ => ⟨rfl, rfl, fun _ => rfl, fun _ => rfl⟩
  | .one _, h => by simp [nI] at h
  | .seq a b, h => by
    simp only [nI] at h
    obtain ⟨a1, a2, a3, a4⟩ := nz a (by omega)
    obtain ⟨b1, b2, b3, b4⟩ := nz b (by omega)
    refine ⟨by simp [szC, a1, b1], by simp [bndC, a2, b2], fun h => by simp [htC, a3, b3], fun p => by simp [flat, a4, b4]⟩
  | .ite t e j, h => by simp [nI] at h
  | .rep n b, h => by simp [nI] at h
theorem ht_le : ∀ (c : Cd) (h h' : Nat), htC c h = some h' → h ≤ 32 → h' ≤ 32
  | .nil, h, h', e, hh => by simp [htC] at e; omega
  | .one x, h, h', e, hh => by
    simp only [htC] at e
    split at e
    · injection e with e; omega
    · cases e
  | .seq a b, h, h', e, hh => by
    simp only [htC] at e
    obtain ⟨m, h1, h2⟩ := Option.bind_eq_some_iff.1 e
    exact ht_le b m h' h2 (ht_le a h m h1 hh)
  | .ite t e' j, h, h', e, hh => by
    simp only [htC] at e
    split at e
    · injection e with e; omega
    · cases e
  | .rep n b, h, h', e, hh => by
    simp only [htC] at e
    split at e
    · injection e with e; omega
    · cases e
/-- The parts of a branch. -/
theorem Sg.ite {W : List (List Int)} {i p : Nat} {t e : Cd} {j : Bool} (h : Sg W i p (flat p (.ite t e j))) :
    Sg W i p [(18 : Int) :: two (p + 3 + szC t + 3 * jz j)] ∧ Sg W (i + 1) (p + 3) (flat (p + 3) t) ∧ (j = true → Sg W (i + 1 + nI t) (p + 3 + szC t) [(17 : Int) :: two (p + 3 + szC t + 3 * jz j + szC e)]) ∧
    Sg W (i + 1 + nI t + jz j) (p + 3 + szC t + 3 * jz j) (flat (p + 3 + szC t + 3 * jz j) e) := by
  simp only [flat] at h
  have h1 := h.left.left.left
  have h2 := h.left.left.right
  have h3 := h.left.right
  have h4 := h.right
  have e1 : ([(18 : Int) :: two (p + 3 + szC t + 3 * jz j)] : List (List Int)).flatten.length = 3 := by simp [two_len]
  simp only [List.length_append, List.flatten_append, flat_len, flat_sz, e1, List.length_cons, List.length_nil, Nat.zero_add] at h2 h3 h4
  refine ⟨h1, h2, fun hj => ?_, ?_⟩
  · subst hj
    rw [if_pos rfl] at h3
    rw [show i + 1 + nI t = i + (1 + nI t) by omega, show p + 3 + szC t = p + (3 + szC t) by omega]
    rw [show p + 3 + szC t = p + (3 + szC t) by omega] at h3
    exact h3
  · cases j
    · rw [show i + 1 + nI t + jz false = i + (1 + nI t + 0) by simp [jz]; omega, show p + 3 + szC t + 3 * jz false = p + (3 + szC t + 0) by simp [jz]; omega]
      rw [show p + 3 + szC t + 3 * jz false = p + (3 + szC t + 0) by simp [jz]; omega] at h4
      simpa using h4
    · rw [show i + 1 + nI t + jz true = i + (1 + nI t + 1) by simp [jz]; omega, show p + 3 + szC t + 3 * jz true = p + (3 + szC t + 3) by simp [jz]; omega]
      rw [show p + 3 + szC t + 3 * jz true = p + (3 + szC t + 3) by simp [jz]; omega] at h4
      simpa [two_len] using h4
theorem Sg.rep {W : List (List Int)} {i p n : Nat} {b : Cd} (h : Sg W i p (flat p (.rep n b))) :
    Sg W i p [(19 : Int) :: two n] ∧ Sg W (i + 1) (p + 3) (flat (p + 3) b) ∧ Sg W (i + 1 + nI b) (p + 3 + szC b) [[20]] := by
  simp only [flat] at h
  have h1 := h.left.left
  have h2 := h.left.right
  have h3 := h.right
  have e1 : ([(19 : Int) :: two n] : List (List Int)).flatten.length = 3 := by simp [two_len]
  simp only [List.length_append, List.flatten_append, flat_len, flat_sz, e1, List.length_cons, List.length_nil, Nat.zero_add] at h2 h3
  refine ⟨h1, h2, ?_⟩
  rw [show i + 1 + nI b = i + (1 + nI b) by omega, show p + 3 + szC b = p + (3 + szC b) by omega]
  exact h3
theorem Sg.seq {W : List (List Int)} {i p : Nat} {a b : Cd} (h : Sg W i p (flat p (.seq a b))) : Sg W i p (flat p a) ∧ Sg W (i + nI a) (p + szC a) (flat (p + szC a) b) := by
  simp only [flat] at h
  have h2 := h.right
  rw [flat_len, flat_sz] at h2
  exact ⟨h.left, h2⟩
theorem Sg.fin {W : List (List Int)} {i p : Nat} {c : Cd} (h : Sg W i p (flat p c)) : (W.take (i + nI c)).flatten.length = p + szC c ∧ i + nI c ≤ W.length := by
  have h2 : Sg W i p (flat p c ++ []) := by simpa using h
  have h3 := h2.right.pos
  rw [flat_len, flat_sz] at h3
  simpa using h3
section
variable {W : List (List Int)} {op : Nat → Nat} {N : Nat → Int}
theorem stk_plain {i : Nat} {st : List Nat} (h : stk op i = some st) (h1 : op i ≠ 19) (h2 : op i ≠ 20) : stk op (i + 1) = some st := by
  rw [stk_at h, if_neg h1, if_neg h2]
theorem stk_cd (hop : ∀ k x, W[k]? = some x → op k = oc x) : ∀ (c : Cd) (i p : Nat) (st : List Nat), wfC c → Sg W i p (flat p c) → stk op i = some st → st.length + fdC c ≤ 10 → stk op (i + nI c) = some st
  | .nil, i, p, st, _, _, hs, _ => hs
  | .one x, i, p, st, hw, hg, hs, _ => by
    have ho := hop i x (Sg.get hg).1
    exact stk_plain hs (by rw [ho]; exact hw.2.2.2.2.1) (by rw [ho]; exact hw.2.2.2.2.2)
  | .seq a b, i, p, st, hw, hg, hs, hf => by
    obtain ⟨g1, g2⟩ := hg.seq
    simp only [fdC] at hf
    have h1 := stk_cd hop a i p st hw.1 g1 hs (by omega)
    have h2 := stk_cd hop b _ _ st hw.2 g2 h1 (by omega)
    rw [nI, ← Nat.add_assoc]
    exact h2
  | .ite t e j, i, p, st, hw, hg, hs, hf => by
    obtain ⟨g1, g2, g3, g4⟩ := hg.ite
    simp only [fdC] at hf
    have ho : op i = 18 := hop i _ g1.get.1
    have h1 := stk_plain hs (by omega) (by omega)
    have h2 := stk_cd hop t _ _ st hw.1 g2 h1 (by omega)
    have h3 : stk op (i + 1 + nI t + jz j) = some st := by
      cases j
      · exact h2
      · have ho2 : op (i + 1 + nI t) = 17 := hop _ _ (g3 rfl).get.1
        exact stk_plain h2 (by omega) (by omega)
    have h4 := stk_cd hop e _ _ st hw.2.1 g4 h3 (by omega)
    rw [nI, show i + (1 + nI t + jz j + nI e) = i + 1 + nI t + jz j + nI e by omega]
    exact h4
  | .rep n b, i, p, st, hw, hg, hs, hf => by
    obtain ⟨g1, g2, g3⟩ := hg.rep
    simp only [fdC] at hf
    have ho : op i = 19 := hop i _ g1.get.1
    have h1 : stk op (i + 1) = some (i :: st) := by rw [stk_at hs, if_pos ho, if_neg (by omega)]
    have h2 := stk_cd hop b _ _ _ hw.2 g2 h1 (by simp only [List.length_cons]; omega)
    have ho2 : op (i + 1 + nI b) = 20 := hop _ _ g3.get.1
    rw [nI, show i + (2 + nI b) = i + 1 + nI b + 1 by omega, stk_at h2, if_neg (by omega), if_pos ho2]
    rfl
/-- Each jump lands behind itself, in the same FOR. -/
theorem jmp_cd (hop : ∀ k x, W[k]? = some x → op k = oc x) (hN : ∀ k x, W[k]? = some x → N k = insN (bys x) 0) (hz : W.flatten.length ≤ 65535) : ∀ (c : Cd) (i p : Nat) (st : List Nat), wfC c → Sg W i p (flat p c) → stk op i = some st → st.length + fdC c ≤ 10 →
    ∀ k, i ≤ k → k < i + nI c → (op k = 17 ∨ op k = 18) → ∃ t s, k < t ∧ t ≤ i + nI c ∧ N k = ((W.take t).flatten.length : Int) ∧ stk op k = some s ∧ stk op t = some s
  | .nil, i, p, st, _, _, hs, _, k, h1, h2, _ => by simp [nI] at h2; omega
  | .one x, i, p, st, hw, hg, hs, _, k, h1, h2, hk => by
    have e : k = i := by simp [nI] at h2; omega
    subst e
    have ho := hop k x (Sg.get hg).1
    rw [ho] at hk
    rcases hk with hk | hk
    · exact absurd hk hw.2.2.1
    · exact absurd hk hw.2.2.2.1
  | .seq a b, i, p, st, hw, hg, hs, hf, k, h1, h2, hk => by
    obtain ⟨g1, g2⟩ := hg.seq
    simp only [fdC] at hf
    simp only [nI] at h2
    have hm := stk_cd hop a i p st hw.1 g1 hs (by omega)
    rcases Nat.lt_or_ge k (i + nI a) with hl | hl
    · obtain ⟨t, s, t1, t2, t3, t4, t5⟩ := jmp_cd hop hN hz a i p st hw.1 g1 hs (by omega) k h1 hl hk
      exact ⟨t, s, t1, by rw [nI]; omega, t3, t4, t5⟩
    · obtain ⟨t, s, t1, t2, t3, t4, t5⟩ := jmp_cd hop hN hz b _ _ st hw.2 g2 hm (by omega) k hl (by omega) hk
      exact ⟨t, s, t1, by rw [nI]; omega, t3, t4, t5⟩
  | .ite t e j, i, p, st, hw, hg, hs, hf, k, h1, h2, hk => by
    have hfin := hg.fin
    have hend := stk_cd hop (.ite t e j) i p st hw hg hs hf
    obtain ⟨g1, g2, g3, g4⟩ := hg.ite
    simp only [fdC] at hf
    have ho : op i = 18 := hop i _ g1.get.1
    have s1 := stk_plain hs (by omega) (by omega)
    have s2 := stk_cd hop t _ _ st hw.1 g2 s1 (by omega)
    have s3 : stk op (i + 1 + nI t + jz j) = some st := by
      cases j
      · exact s2
      · have ho2 : op (i + 1 + nI t) = 17 := hop _ _ (g3 rfl).get.1
        exact stk_plain s2 (by omega) (by omega)
    have hlen : ∀ m, (W.take m).flatten.length ≤ W.flatten.length := fun m => by
      conv => rhs; rw [← List.take_append_drop m W]
      rw [List.flatten_append, List.length_append]
      omega
    simp only [nI] at h2
    have hnI : nI (.ite t e j) = 1 + nI t + jz j + nI e := rfl
    rcases Nat.lt_or_ge k (i + 1) with hl | hl
    · have ek : k = i := by omega
      subst ek
      refine ⟨k + 1 + nI t + jz j, st, by omega, by omega, ?_, hs, s3⟩
      have hp := g4.pos.1
      rw [hN k _ g1.get.1, (jump_val 18 _ (by omega) (by rw [← hp]; exact Nat.le_trans (hlen _) hz)).1, hp]
    · rcases Nat.lt_or_ge k (i + 1 + nI t) with hl2 | hl2
      · obtain ⟨t', s, t1, t2, t3, t4, t5⟩ := jmp_cd hop hN hz t _ _ st hw.1 g2 s1 (by omega) k hl hl2 hk
        exact ⟨t', s, t1, by omega, t3, t4, t5⟩
      · rcases Nat.lt_or_ge k (i + 1 + nI t + jz j) with hl3 | hl3
        · cases j
          · simp [jz] at hl3; omega
          · have ek : k = i + 1 + nI t := by simp [jz] at hl3; omega
            subst ek
            refine ⟨i + nI (.ite t e true), st, by rw [hnI]; simp [jz]; omega, Nat.le_refl _, ?_, s2, hend⟩
            have hp := hfin.1
            simp only [szC] at hp
            have hp2 : p + 3 + szC t + 3 * jz true + szC e = (W.take (i + nI (.ite t e true))).flatten.length := by omega
            rw [hN _ _ (g3 rfl).get.1, (jump_val 17 _ (by omega) (by rw [hp2]; exact Nat.le_trans (hlen _) hz)).1, hp2]
        · obtain ⟨t', s, t1, t2, t3, t4, t5⟩ := jmp_cd hop hN hz e _ _ st hw.2.1 g4 s3 (by omega) k hl3 (by omega) hk
          exact ⟨t', s, t1, by omega, t3, t4, t5⟩
  | .rep n b, i, p, st, hw, hg, hs, hf, k, h1, h2, hk => by
    obtain ⟨g1, g2, g3⟩ := hg.rep
    simp only [fdC] at hf
    have ho : op i = 19 := hop i _ g1.get.1
    have s1 : stk op (i + 1) = some (i :: st) := by rw [stk_at hs, if_pos ho, if_neg (by omega)]
    have ho2 : op (i + 1 + nI b) = 20 := hop _ _ g3.get.1
    simp only [nI] at h2
    have hnI : nI (.rep n b) = 2 + nI b := rfl
    rcases Nat.lt_or_ge k (i + 1) with hl | hl
    · have ek : k = i := by omega
      subst ek
      omega
    · rcases Nat.lt_or_ge k (i + 1 + nI b) with hl2 | hl2
      · obtain ⟨t', s, t1, t2, t3, t4, t5⟩ := jmp_cd hop hN hz b _ _ _ hw.2 g2 s1 (by simp only [List.length_cons]; omega) k hl hl2 hk
        exact ⟨t', s, t1, by omega, t3, t4, t5⟩
      · have ek : k = i + 1 + nI b := by omega
        subst ek
        omega
end

end Go.Proofs.YtidhiaaicmfabaaGreatDoor

/- The walk over such code (seat .ZD alone). -/
namespace Go.Proofs.YtidhiaaicmfabaaGreatDoor
open Go.RowKit Go.Proofs Go.Deep

theorem upd_same (f : Nat → Int) (t : Nat) (v : Int) : upd f t v t = v := if_pos rfl
theorem upd_ne (f : Nat → Int) {t j : Nat} (v : Int) (h : j ≠ t) : upd f t v j = f j := if_neg h
/-- What the walk over a piece of code comes to. -/
def Went (op : Nat → Nat) (N : Nat → Int) (To : Nat → Nat) (n i m : Nat) (h' : Nat) (v : Int) (H L : Nat → Int) : Prop :=
  ∃ H' L', (∀ f, refGo op N To n (m + f) i H L = refGo op N To n f (i + m) H' L') ∧ H' (i + m) = (h' : Int) ∧ L' (i + m) = max (L (i + m)) v ∧ ∀ j, (j ≤ i ∨ i + m < j) → j ≠ i + m → H' j = H j ∧ L' j = L j
section
variable {W : List (List Int)} {op : Nat → Nat} {N : Nat → Int} {To : Nat → Nat} {n : Nat}
/-- One step of the walk. -/
theorem go_step {i f : Nat} {H L : Nat → Int} {S : (Nat → Int) × (Nat → Int)} (h0 : op i ≠ 0) (h : refStep op N To i H L = some S) : refGo op N To n (f + 1) i H L = refGo op N To n f (i + 1) S.1 S.2 := by
  rw [refGo, if_neg h0, h]
theorem step_plain {i h : Nat} {H L : Nat → Int} (hH : H i = (h : Int)) (h1 : popsOf (op i) ≤ h) (h2 : h - popsOf (op i) + pushesOf (op i) ≤ 32) (h17 : op i ≠ 17) (h18 : op i ≠ 18) (h19 : op i ≠ 19) (h20 : op i ≠ 20)
    (hf : H (i + 1) < 0 ∨ H (i + 1) = ((h - popsOf (op i) + pushesOf (op i) : Nat) : Int)) :
    refStep op N To i H L = some (upd H (i + 1) ((h - popsOf (op i) + pushesOf (op i) : Nat) : Int), upd L (i + 1) (max (L (i + 1)) (L i + 1))) := by
  have e : (h : Int) - (popsOf (op i) : Int) + (pushesOf (op i) : Int) = ((h - popsOf (op i) + pushesOf (op i) : Nat) : Int) := by omega
  unfold refStep
  rw [hH, if_neg (by omega), if_neg h17, if_neg h18, if_neg h19, if_neg h20, e, jn_some (by omega)]
theorem step_unless {i h t : Nat} {H L : Nat → Int} (ho : op i = 18) (ht : To i = t) (hH : H i = ((h + 1 : Nat) : Int)) (h2 : h ≤ 32) (hf : H t < 0 ∨ H t = (h : Int)) (hf2 : H (i + 1) < 0 ∨ H (i + 1) = (h : Int)) :
    refStep op N To i H L = some (upd (upd H t h) (i + 1) h, upd (upd L t (max (L t) (L i + 1))) (i + 1) (max (upd L t (max (L t) (L i + 1)) (i + 1)) (L i + 1))) := by
  have e : ((h + 1 : Nat) : Int) - ((popsOf 18 : Nat) : Int) + ((pushesOf 18 : Nat) : Int) = (h : Int) := by
    have a : popsOf 18 = 1 := rfl
    have b : pushesOf 18 = 0 := rfl
    rw [a, b]; omega
  have e2 : ¬ (((h + 1 : Nat) : Int) < ((popsOf 18 : Nat) : Int) ∨ 32 < ((h + 1 : Nat) : Int) - ((popsOf 18 : Nat) : Int) + ((pushesOf 18 : Nat) : Int)) := by
    rw [e]
    have a : popsOf 18 = 1 := rfl
    rw [a]; omega
  unfold refStep
  rw [ho, hH, if_neg e2, if_neg (by decide), if_pos rfl, e, ht, jn_some (by omega)]
  simp only
  rw [jn_some]
  unfold upd
  split <;> omega
theorem step_jump {i h t : Nat} {H L : Nat → Int} (ho : op i = 17) (ht : To i = t) (hH : H i = (h : Int)) (h2 : h ≤ 32) (hf : H t < 0 ∨ H t = (h : Int)) :
    refStep op N To i H L = some (upd H t h, upd L t (max (L t) (L i + 1))) := by
  have e : (h : Int) - ((popsOf 17 : Nat) : Int) + ((pushesOf 17 : Nat) : Int) = (h : Int) := by
    have a : popsOf 17 = 0 := rfl
    have b : pushesOf 17 = 0 := rfl
    rw [a, b]; omega
  unfold refStep
  rw [ho, hH, e, if_neg (by have a : popsOf 17 = 0 := rfl; rw [a]; omega), if_pos rfl, ht, jn_some (by omega)]
theorem step_for {i h : Nat} {H L : Nat → Int} (ho : op i = 19) (hH : H i = (h : Int)) (h2 : h ≤ 32) (hf : H (i + 1) < 0 ∨ H (i + 1) = (h : Int)) :
    refStep op N To i H L = some (upd H (i + 1) h, upd L (i + 1) (max (L (i + 1)) 0)) := by
  have e : (h : Int) - ((popsOf 19 : Nat) : Int) + ((pushesOf 19 : Nat) : Int) = (h : Int) := by
    have a : popsOf 19 = 0 := rfl
    have b : pushesOf 19 = 0 := rfl
    rw [a, b]; omega
  unfold refStep
  rw [ho, hH, e, if_neg (by have a : popsOf 19 = 0 := rfl; rw [a]; omega), if_neg (by decide), if_neg (by decide), if_pos rfl, jn_some (by omega)]
theorem step_next {i h t : Nat} {H L : Nat → Int} (ho : op i = 20) (ht : To i = t) (hH : H i = (h : Int)) (h2 : h ≤ 32) (hb : H (t + 1) = (h : Int)) (hm : L t + 1 + N t * (L i + 1) ≤ 1099511627776) (hf : H (i + 1) < 0 ∨ H (i + 1) = (h : Int)) :
    refStep op N To i H L = some (upd H (i + 1) h, upd L (i + 1) (max (L (i + 1)) (L t + 1 + N t * (L i + 1)))) := by
  have e : (h : Int) - ((popsOf 20 : Nat) : Int) + ((pushesOf 20 : Nat) : Int) = (h : Int) := by
    have a : popsOf 20 = 0 := rfl
    have b : pushesOf 20 = 0 := rfl
    rw [a, b]; omega
  unfold refStep
  rw [ho, hH, e, if_neg (by have a : popsOf 20 = 0 := rfl; rw [a]; omega), if_neg (by decide), if_neg (by decide), if_neg (by decide), if_pos rfl, ht, if_pos hb.symm, jn_some (by omega), Int.min_eq_left hm]
/-- What W's instructions tell. -/
structure Wk (W : List (List Int)) (op : Nat → Nat) (N : Nat → Int) (To : Nat → Nat) (n : Nat) : Prop where
  hop : ∀ k x, W[k]? = some x → op k = oc x
  hN : ∀ k x, W[k]? = some x → N k = insN (bys x) 0
  hz : W.flatten.length ≤ 65535
  hn : W.length = n
  hTo : ∀ k t, k < n → t < n → (op k = 17 ∨ op k = 18) → N k = ((W.take t).flatten.length : Int) → To k = t
  hTb : ∀ k f s, k < n → op k = 20 → stk op k = some (f :: s) → To k = f
def GoOk (W : List (List Int)) (op : Nat → Nat) (N : Nat → Int) (To : Nat → Nat) (n : Nat) (c : Cd) : Prop :=
  ∀ (i p h h' : Nat) (H L : Nat → Int) (st : List Nat), wfC c → Sg W i p (flat p c) → i + nI c < n → stk op i = some st → st.length + fdC c ≤ 10 → htC c h = some h' → h ≤ 32 → H i = (h : Int) → 0 ≤ L i → L i + bndC c ≤ 1099511627776 →
      (∀ j, i < j → j < i + nI c → H j < 0 ∧ L j = 0) → (H (i + nI c) < 0 ∨ H (i + nI c) = (h' : Int)) → 0 ≤ L (i + nI c) → Went op N To n i (nI c) h' (L i + bndC c) H L
set_option maxHeartbeats 2000000 in
theorem go_nil : GoOk W op N To n .nil := by
  intro i p h h' H L st _ _ _ _ _ ht _ hH hL _ _ _ _
  simp only [htC, Option.some.injEq] at ht
  subst ht
  exact ⟨H, L, fun f => by simp [nI], hH, by simp only [nI, bndC, Nat.add_zero]; omega, fun j _ _ => ⟨rfl, rfl⟩⟩
set_option maxHeartbeats 2000000 in
theorem go_one (hk : Wk W op N To n) {x : List Int} : GoOk W op N To n (.one x) := by
  intro i p h h' H L st hw hg hin hs hfd ht hh hH hL hb hfr hend hLe
  obtain ⟨hop, hN, hz, hn, hTo, hTb⟩ := hk
  have ho := hop i x (Sg.get hg).1
  obtain ⟨_, n0, n17, n18, n19, n20⟩ := hw
  simp only [htC] at ht
  split at ht
  · rename_i hc
    injection ht with ht
    rw [← ho] at hc ht n0 n17 n18 n19 n20
    simp only [nI] at hend hLe hin
    subst ht
    have e := step_plain (op := op) (N := N) (To := To) (L := L) hH hc.1 hc.2 n17 n18 n19 n20 hend
    refine ⟨_, upd L (i + 1) (max (L (i + 1)) (L i + 1)), fun f => by rw [nI, Nat.add_comm 1 f, go_step n0 e], upd_same .., upd_same .., fun j _ hne => ⟨upd_ne _ _ hne, upd_ne _ _ hne⟩⟩
  · cases ht
set_option maxHeartbeats 2000000 in
theorem go_seq (hk : Wk W op N To n) {a b : Cd} (ia : GoOk W op N To n a) (ib : GoOk W op N To n b) : GoOk W op N To n (.seq a b) := by
  intro i p h h' H L st hw hg hin hs hfd ht hh hH hL hb hfr hend hLe
  obtain ⟨hop, hN, hz, hn, hTo, hTb⟩ := hk
  obtain ⟨g1, g2⟩ := hg.seq
  have hnI : nI (.seq a b) = nI a + nI b := rfl
  have hbn : bndC (.seq a b) = bndC a + bndC b := rfl
  rw [hnI] at hin hfr hend hLe ⊢
  rw [hbn] at hb ⊢
  simp only [fdC] at hfd
  simp only [htC] at ht
  obtain ⟨m, t1, t2⟩ := Option.bind_eq_some_iff.1 ht
  have hm := ht_le a h m t1 hh
  have sA := stk_cd hop a i p st hw.1 g1 hs (by omega)
  by_cases za : nI a = 0
  · obtain ⟨z1, z2, z3, z4⟩ := nz a za
    rw [z3] at t1
    injection t1 with t1
    subst t1
    rw [za, z1] at g2
    rw [za] at hin hfr hend hLe ⊢
    rw [z2] at hb ⊢
    simp only [Nat.add_zero, Nat.zero_add] at g2 hin hfr hend hLe hb ⊢
    exact ib i p h h' H L st hw.2 g2 hin hs (by omega) t2 hh hH hL hb hfr hend hLe
  · by_cases zb : nI b = 0
    · obtain ⟨z1, z2, z3, z4⟩ := nz b zb
      rw [z3] at t2
      injection t2 with t2
      subst t2
      rw [zb] at hin hfr hend hLe ⊢
      rw [z2] at hb ⊢
      simp only [Nat.add_zero] at hin hfr hend hLe hb ⊢
      exact ia i p h m H L st hw.1 g1 hin hs (by omega) t1 hh hH hL hb hfr hend hLe
    · have fa := hfr (i + nI a) (by omega) (by omega)
      obtain ⟨H1, L1, e1, e2, e3, e4⟩ := ia i p h m H L st hw.1 g1 (by omega) hs (by omega) t1 hh hH hL (by omega) (fun j j1 j2 => hfr j j1 (by omega)) (.inl fa.1) (by omega)
      rw [fa.2] at e3
      have eL : L1 (i + nI a) = L i + bndC a := by omega
      have ee := e4 (i + nI a + nI b) (.inr (by omega)) (by omega)
      rw [← Nat.add_assoc] at hend hLe
      obtain ⟨H2, L2, k1, k2, k3, k4⟩ := ib (i + nI a) (p + szC a) m h' H1 L1 st hw.2 g2 (by omega) sA (by omega) t2 hm e2 (by omega) (by rw [eL]; omega) (fun j j1 j2 => by
        have := e4 j (.inr (by omega)) (by omega)
        rw [this.1, this.2]
        exact hfr j (by omega) (by omega)) (by rw [ee.1]; exact hend) (by rw [ee.2]; exact hLe)
      refine ⟨H2, L2, fun f => ?_, by rw [← Nat.add_assoc]; exact k2, ?_, fun j j1 j2 => ?_⟩
      · rw [Nat.add_assoc, e1, k1, ← Nat.add_assoc]
      · rw [← Nat.add_assoc, k3, ee.2, eL]
        omega
      · have j3 : j ≤ i + nI a ∨ i + nI a + nI b < j := by omega
        have j4 : j ≠ i + nI a + nI b := by omega
        rcases j1 with j1 | j1
        · have c1 := k4 j j3 j4
          have c2 := e4 j (.inl j1) (by omega)
          exact ⟨c1.1.trans c2.1, c1.2.trans c2.2⟩
        · have c1 := k4 j j3 j4
          have c2 := e4 j (.inr (by omega)) (by omega)
          exact ⟨c1.1.trans c2.1, c1.2.trans c2.2⟩
set_option maxHeartbeats 2000000 in
theorem go_ite0 (hk : Wk W op N To n) {t e : Cd} (ia : GoOk W op N To n t) : GoOk W op N To n (.ite t e false) := by
  intro i p h h' H L st hw hg hin hs hfd ht hh hH hL hb hfr hend hLe
  obtain ⟨hop, hN, hz, hn, hTo, hTb⟩ := hk
  obtain ⟨hw1, hw2, hw3⟩ := hw
  have he := hw3 rfl
  subst he
  obtain ⟨g1, g2, g3, g4⟩ := hg.ite
  have hnI : nI (.ite t .nil false) = 1 + nI t := by simp [nI, jz]
  have hbn : bndC (.ite t .nil false) = 1 + bndC t := by simp [bndC, jz]
  rw [hnI] at hin hfr hend hLe ⊢
  rw [hbn] at hb ⊢
  simp only [fdC] at hfd
  simp only [htC] at ht
  split at ht
  · rename_i hc
    injection ht with ht
    obtain ⟨c1, c2, c3⟩ := hc
    obtain ⟨h0, rfl⟩ : ∃ h0, h = h0 + 1 := ⟨h - 1, by omega⟩
    simp only [Nat.add_sub_cancel] at ht c2 c3
    subst ht
    have ho : op i = 18 := hop i _ g1.get.1
    have hp4 := g4.pos.1
    simp only [jz, Nat.add_zero, Nat.mul_zero, Bool.false_eq_true, if_false] at hp4 g4
    have hlen : (W.take (i + 1 + nI t)).flatten.length ≤ W.flatten.length := by
      conv => rhs; rw [← List.take_append_drop (i + 1 + nI t) W]
      rw [List.flatten_append, List.length_append]
      omega
    have hTi : To i = i + (1 + nI t) := hTo i _ (by omega) hin (.inr ho) (by
      rw [hN i _ g1.get.1, show i + (1 + nI t) = i + 1 + nI t by omega, hp4]
      simp only [jz, Nat.mul_zero, Nat.add_zero, Bool.false_eq_true, if_false]
      exact (jump_val 18 _ (by omega) (by omega)).1)
    have h1 := stk_plain hs (by omega) (by omega)
    by_cases zt : nI t = 0
    · obtain ⟨z1, z2, z3, z4⟩ := nz t zt
      rw [zt] at hTi hin hfr hend hLe ⊢
      rw [z2] at hb ⊢
      simp only [Nat.add_zero] at hTi hin hfr hend hLe hb ⊢
      have es := step_unless (op := op) (N := N) (To := To) (L := L) ho hTi hH (by omega) hend hend
      refine ⟨_, _, fun f => by rw [Nat.add_comm 1 f, go_step (by omega) es], upd_same .., ?_, fun j _ hne => ⟨?_, ?_⟩⟩
      · show upd _ _ _ _ = _
        rw [upd_same, upd_same]
        omega
      · show upd _ _ _ _ = _
        rw [upd_ne _ _ hne, upd_ne _ _ hne]
      · show upd _ _ _ _ = _
        rw [upd_ne _ _ hne, upd_ne _ _ hne]
    · have f1 := hfr (i + 1) (by omega) (by omega)
      have es := step_unless (op := op) (N := N) (To := To) (L := L) ho hTi hH (by omega) hend (.inl f1.1)
      obtain ⟨H1, hH1⟩ : ∃ H1, H1 = upd (upd H (i + (1 + nI t)) h0) (i + 1) h0 := ⟨_, rfl⟩
      obtain ⟨L1, hL1⟩ : ∃ L1, L1 = upd (upd L (i + (1 + nI t)) (max (L (i + (1 + nI t))) (L i + 1))) (i + 1) (max (upd L (i + (1 + nI t)) (max (L (i + (1 + nI t))) (L i + 1)) (i + 1)) (L i + 1)) := ⟨_, rfl⟩
      rw [← hH1, ← hL1] at es
      have a1 : H1 (i + 1) = (h0 : Int) := by rw [hH1, upd_same]
      have a2 : L1 (i + 1) = L i + 1 := by rw [hL1, upd_same, upd_ne _ _ (by omega), f1.2]; omega
      have a3 : H1 (i + 1 + nI t) = (h0 : Int) := by rw [hH1, upd_ne _ _ (by omega), show i + 1 + nI t = i + (1 + nI t) by omega, upd_same]
      have a4 : L1 (i + 1 + nI t) = max (L (i + (1 + nI t))) (L i + 1) := by rw [hL1, upd_ne _ _ (by omega), show i + 1 + nI t = i + (1 + nI t) by omega, upd_same]
      have a5 : ∀ j, j ≠ i + 1 → j ≠ i + (1 + nI t) → H1 j = H j ∧ L1 j = L j := fun j j1 j2 => by
        rw [hH1, hL1, upd_ne _ _ j1, upd_ne _ _ j1, upd_ne _ _ j2, upd_ne _ _ j2]
        exact ⟨rfl, rfl⟩
      obtain ⟨H2, L2, k1, k2, k3, k4⟩ := ia (i + 1) (p + 3) h0 h0 H1 L1 st hw1 g2 (by omega) h1 (by omega) c2 (by omega) a1 (by rw [a2]; omega) (by rw [a2]; omega) (fun j j1 j2 => by
        have := a5 j (by omega) (by omega)
        rw [this.1, this.2]
        exact hfr j (by omega) (by omega)) (.inr a3) (by rw [a4]; omega)
      refine ⟨H2, L2, fun f => ?_, by rw [← Nat.add_assoc]; exact k2, ?_, fun j j1 j2 => ?_⟩
      · rw [show 1 + nI t + f = (nI t + f) + 1 by omega, go_step (by omega) es]
        show refGo op N To n (nI t + f) (i + 1) H1 L1 = _
        rw [k1, ← Nat.add_assoc]
      · rw [← Nat.add_assoc, k3, a4, a2, show i + 1 + nI t = i + (1 + nI t) by omega]
        omega
      · have c1 := k4 j (by omega) (by omega)
        have c2 := a5 j (by omega) (by omega)
        exact ⟨c1.1.trans c2.1, c1.2.trans c2.2⟩
  · cases ht
set_option maxHeartbeats 2000000 in
theorem go_ite1 (hk : Wk W op N To n) {t e : Cd} (ia : GoOk W op N To n t) (ib : GoOk W op N To n e) : GoOk W op N To n (.ite t e true) := by
  intro i p h h' H L st hw hg hin hs hfd ht hh hH hL hb hfr hend hLe
  obtain ⟨hop, hN, hz, hn, hTo, hTb⟩ := hk
  replace hend := hd hend
  obtain ⟨hw1, hw2, _⟩ := hw
  have hfin := hg.fin.1
  obtain ⟨g1, g2, g3, g4⟩ := hg.ite
  have hnI : nI (.ite t e true) = 2 + nI t + nI e := by simp [nI, jz]; omega
  have hbn : bndC (.ite t e true) = 1 + max (bndC t + 1) (bndC e) := by simp [bndC, jz]
  rw [hnI] at hin hfr hLe hfin ⊢
  have hend : Hid (H (i + (2 + nI t + nI e)) < 0 ∨ H (i + (2 + nI t + nI e)) = (h' : Int)) := by have := hend.out; rw [hnI] at this; exact hd this
  rw [hbn] at hb ⊢
  simp only [fdC] at hfd
  simp only [szC] at hfin
  simp only [htC] at ht
  split at ht
  · rename_i hc
    injection ht with ht
    obtain ⟨c1, c2, c3⟩ := hc
    obtain ⟨h0, rfl⟩ : ∃ h0, h = h0 + 1 := ⟨h - 1, by omega⟩
    simp only [Nat.add_sub_cancel] at ht c2 c3
    subst ht
    have g3 := g3 rfl
    have hj1 : jz true = 1 := rfl
    rw [hj1] at g4 g1 g3 hfin
    have ho : op i = 18 := hop i _ g1.get.1
    have ho2 : op (i + 1 + nI t) = 17 := hop _ _ g3.get.1
    have hp4 := g4.pos.1
    have hlen : ∀ m, (W.take m).flatten.length ≤ W.flatten.length := fun m => by
      conv => rhs; rw [← List.take_append_drop m W]
      rw [List.flatten_append, List.length_append]
      omega
    have l1 := hlen (i + 1 + nI t + 1)
    have l2 := hlen (i + (2 + nI t + nI e))
    have hTi : To i = i + 1 + nI t + 1 := hTo i _ (by omega) (by omega) (.inr ho) (by
      rw [hN i _ g1.get.1, hp4]
      exact (jump_val 18 _ (by omega) (by omega)).1)
    have hTk : To (i + 1 + nI t) = i + (2 + nI t + nI e) := hTo _ _ (by omega) (by omega) (.inl ho2) (by
      rw [hN _ _ g3.get.1, hfin, show p + (3 + szC t + 3 * 1 + szC e) = p + 3 + szC t + 3 * 1 + szC e by omega]
      exact (jump_val 17 _ (by omega) (by omega)).1)
    have s1 := stk_plain hs (by omega) (by omega)
    have s2 := stk_cd hop t _ _ st hw1 g2 s1 (by omega)
    have s3 := stk_plain s2 (by omega) (by omega)
    have f1 := hfr (i + 1) (by omega) (by omega)
    have hm : H (i + 1 + nI t + 1) < 0 ∨ H (i + 1 + nI t + 1) = (h0 : Int) := by
      by_cases ze : nI e = 0
      · rw [show i + 1 + nI t + 1 = i + (2 + nI t + nI e) by omega]; exact hend.out
      · exact .inl (hfr _ (by omega) (by omega)).1
    have hm2 : 0 ≤ L (i + 1 + nI t + 1) := by
      by_cases ze : nI e = 0
      · rw [show i + 1 + nI t + 1 = i + (2 + nI t + nI e) by omega]; exact hLe
      · have := (hfr (i + 1 + nI t + 1) (by omega) (by omega)).2; omega
    replace hm := hd hm
    have es := step_unless (op := op) (N := N) (To := To) (L := L) ho hTi hH (by omega) hm.out (.inl f1.1)
    obtain ⟨H1, hH1⟩ : ∃ H1, H1 = upd (upd H (i + 1 + nI t + 1) h0) (i + 1) h0 := ⟨_, rfl⟩
    obtain ⟨L1, hL1⟩ : ∃ L1, L1 = upd (upd L (i + 1 + nI t + 1) (max (L (i + 1 + nI t + 1)) (L i + 1))) (i + 1) (max (upd L (i + 1 + nI t + 1) (max (L (i + 1 + nI t + 1)) (L i + 1)) (i + 1)) (L i + 1)) := ⟨_, rfl⟩
    rw [← hH1, ← hL1] at es
    have a1 : H1 (i + 1) = (h0 : Int) := by rw [hH1, upd_same]
    have a2 : L1 (i + 1) = L i + 1 := by rw [hL1, upd_same, upd_ne _ _ (by omega), f1.2]; omega
    have a3 : H1 (i + 1 + nI t + 1) = (h0 : Int) := by rw [hH1, upd_ne _ _ (by omega), upd_same]
    have a4 : Hid (L1 (i + 1 + nI t + 1) = max (L (i + 1 + nI t + 1)) (L i + 1)) := hd (by rw [hL1, upd_ne _ _ (by omega), upd_same])
    have a5 : ∀ j, j ≠ i + 1 → j ≠ i + 1 + nI t + 1 → H1 j = H j ∧ L1 j = L j := fun j j1 j2 => by
      rw [hH1, hL1, upd_ne _ _ j1, upd_ne _ _ j1, upd_ne _ _ j2, upd_ne _ _ j2]
      exact ⟨rfl, rfl⟩
    have k0 : (H1 (i + 1 + nI t) < 0 ∨ H1 (i + 1 + nI t) = (h0 : Int)) ∧ 0 ≤ L1 (i + 1 + nI t) ∧ (nI t = 0 ∨ L1 (i + 1 + nI t) = 0) := by
      by_cases zt : nI t = 0
      · rw [zt, Nat.add_zero, a1, a2]
        exact ⟨.inr rfl, by omega, .inl rfl⟩
      · have := a5 (i + 1 + nI t) (by omega) (by omega)
        have f2 := hfr (i + 1 + nI t) (by omega) (by omega)
        rw [this.1, this.2]
        exact ⟨.inl f2.1, by omega, .inr f2.2⟩
    replace k0 := hd k0
    obtain ⟨H2, L2, k1, k2, k3, k4⟩ := ia (i + 1) (p + 3) h0 h0 H1 L1 st hw1 g2 (by omega) s1 (by omega) c2 (by omega) a1 (by rw [a2]; omega) (by rw [a2]; omega) (fun j j1 j2 => by
      have := a5 j (by omega) (by omega)
      rw [this.1, this.2]
      exact hfr j (by omega) (by omega)) k0.out.1 k0.out.2.1
    replace k3 := hd k3
    have k5 : L2 (i + 1 + nI t) = L i + 1 + bndC t := by
      rw [k3.out, a2]
      rcases k0.out.2.2 with z | z
      · have hz' := (nz t z).2.1
        rw [z, Nat.add_zero, a2, hz']
        omega
      · rw [z]; omega
    have k6 : H2 (i + (2 + nI t + nI e)) < 0 ∨ H2 (i + (2 + nI t + nI e)) = (h0 : Int) := by
      have c := k4 (i + (2 + nI t + nI e)) (.inr (by omega)) (by omega)
      rw [c.1]
      by_cases ze : nI e = 0
      · rw [show i + (2 + nI t + nI e) = i + 1 + nI t + 1 by omega]; exact .inr a3
      · rw [(a5 _ (by omega) (by omega)).1]; exact hend.out
    replace k6 := hd k6
    have es2 := step_jump (op := op) (N := N) (To := To) (L := L2) ho2 hTk k2 (by omega) k6.out
    obtain ⟨H3, hH3⟩ : ∃ H3, H3 = upd H2 (i + (2 + nI t + nI e)) h0 := ⟨_, rfl⟩
    obtain ⟨L3, hL3⟩ : ∃ L3, L3 = upd L2 (i + (2 + nI t + nI e)) (max (L2 (i + (2 + nI t + nI e))) (L2 (i + 1 + nI t) + 1)) := ⟨_, rfl⟩
    rw [← hH3, ← hL3] at es2
    have hgo : ∀ f, refGo op N To n (2 + nI t + f) i H L = refGo op N To n f (i + 1 + nI t + 1) H3 L3 := fun f => by
      rw [show 2 + nI t + f = (nI t + (f + 1)) + 1 by omega, go_step (by omega) es]
      show refGo op N To n (nI t + (f + 1)) (i + 1) H1 L1 = _
      rw [k1, go_step (by omega) es2]
    by_cases ze : nI e = 0
    · have zz := (nz e ze).2.1
      refine ⟨H3, L3, fun f => ?_, ?_, ?_, fun j j1 j2 => ?_⟩
      · rw [ze, Nat.add_zero, hgo, show i + (2 + nI t) = i + 1 + nI t + 1 by omega]
      · rw [hH3, upd_same]
      · have c := (k4 (i + (2 + nI t + nI e)) (.inr (by omega)) (by omega)).2
        rw [hL3, upd_same, k5, c, show i + (2 + nI t + nI e) = i + 1 + nI t + 1 by omega, a4.out, zz]
        omega
      · rw [hH3, hL3, upd_ne _ _ (by omega), upd_ne _ _ (by omega)]
        have c1 := k4 j (by omega) (by omega)
        have c2 := a5 j (by omega) (by omega)
        exact ⟨c1.1.trans c2.1, c1.2.trans c2.2⟩
    · have fm := hfr (i + 1 + nI t + 1) (by omega) (by omega)
      have cm := k4 (i + 1 + nI t + 1) (.inr (by omega)) (by omega)
      have b1 : H3 (i + 1 + nI t + 1) = (h0 : Int) := by rw [hH3, upd_ne _ _ (by omega), cm.1, a3]
      have b2 : L3 (i + 1 + nI t + 1) = L i + 1 := by rw [hL3, upd_ne _ _ (by omega), cm.2, a4.out, fm.2]; omega
      have ce := k4 (i + (2 + nI t + nI e)) (.inr (by omega)) (by omega)
      have de := a5 (i + (2 + nI t + nI e)) (by omega) (by omega)
      have ee : i + 1 + nI t + 1 + nI e = i + (2 + nI t + nI e) := by omega
      have b3 : H3 (i + 1 + nI t + 1 + nI e) = (h0 : Int) := by rw [ee, hH3, upd_same]
      have b4 : Hid (L3 (i + 1 + nI t + 1 + nI e) = max (L (i + (2 + nI t + nI e))) (L i + 1 + bndC t + 1)) := hd (by rw [ee, hL3, upd_same, k5, ce.2, de.2])
      have b5 : ∀ j, i + 1 + nI t + 1 < j → j ≠ i + (2 + nI t + nI e) → H3 j = H j ∧ L3 j = L j := fun j j1 j2 => by
        rw [hH3, hL3, upd_ne _ _ j2, upd_ne _ _ j2]
        have c1 := k4 j (by omega) (by omega)
        have c2 := a5 j (by omega) (by omega)
        exact ⟨c1.1.trans c2.1, c1.2.trans c2.2⟩
      obtain ⟨H4, L4, m1, m2, m3, m4⟩ := ib (i + 1 + nI t + 1) _ h0 h0 H3 L3 st hw2 g4 (by omega) s3 (by omega) c3 (by omega) b1 (by rw [b2]; omega) (by rw [b2]; omega) (fun j j1 j2 => by
        have := b5 j (by omega) (by omega)
        rw [this.1, this.2]
        exact hfr j (by omega) (by omega)) (.inr b3) (by rw [b4.out]; omega)
      replace m3 := hd m3
      rw [ee] at m1 m2 m4
      refine ⟨H4, L4, fun f => ?_, m2, ?_, fun j j1 j2 => ?_⟩
      · rw [Nat.add_assoc, hgo, m1]
      · have m5 := m3.out
        rw [b4.out, b2, ee] at m5
        rw [m5]
        omega
      · have c0 := m4 j (by omega) (by omega)
        rcases j1 with j1 | j1
        · have c1 := k4 j (.inl (by omega)) (by omega)
          have c2 := a5 j (by omega) (by omega)
          rw [hH3, hL3, upd_ne _ _ (by omega), upd_ne _ _ (by omega)] at c0
          exact ⟨c0.1.trans (c1.1.trans c2.1), c0.2.trans (c1.2.trans c2.2)⟩
        · have c1 := b5 j (by omega) (by omega)
          exact ⟨c0.1.trans c1.1, c0.2.trans c1.2⟩
  · cases ht
set_option maxHeartbeats 2000000 in
theorem go_rep (hk : Wk W op N To n) {r : Nat} {b : Cd} (ib : GoOk W op N To n b) : GoOk W op N To n (.rep r b) := by
  intro i p h h' H L st hw hg hin hs hfd ht hh hH hL hb hfr hend hLe
  obtain ⟨hop, hN, hz, hn, hTo, hTb⟩ := hk
  obtain ⟨hw1, hw2⟩ := hw
  obtain ⟨g1, g2, g3⟩ := hg.rep
  have hnI : nI (.rep r b) = 2 + nI b := rfl
  have hbn : bndC (.rep r b) = 1 + r * (bndC b + 1) := rfl
  rw [hnI] at hin hfr hend hLe ⊢
  rw [hbn] at hb ⊢
  simp only [fdC] at hfd
  simp only [htC] at ht
  split at ht
  · rename_i hc
    injection ht with ht
    subst ht
    have ho : op i = 19 := hop i _ g1.get.1
    have ho2 : op (i + 1 + nI b) = 20 := hop _ _ g3.get.1
    have hNi : N i = (r : Int) := by rw [hN i _ g1.get.1]; exact (jump_val 19 r (by omega) hw1.2).1
    have s1 : stk op (i + 1) = some (i :: st) := by rw [stk_at hs, if_pos ho, if_neg (by omega)]
    have s2 := stk_cd hop b _ _ _ hw2 g2 s1 (by simp only [List.length_cons]; omega)
    have hTk : To (i + 1 + nI b) = i := hTb _ i st (by omega) ho2 s2
    have f1 := hfr (i + 1) (by omega) (by omega)
    have es := step_for (op := op) (N := N) (To := To) (L := L) ho hH hh (.inl f1.1)
    obtain ⟨H1, hH1⟩ : ∃ H1, H1 = upd H (i + 1) h := ⟨_, rfl⟩
    obtain ⟨L1, hL1⟩ : ∃ L1, L1 = upd L (i + 1) (max (L (i + 1)) 0) := ⟨_, rfl⟩
    rw [← hH1, ← hL1] at es
    have a1 : H1 (i + 1) = (h : Int) := by rw [hH1, upd_same]
    have a2 : L1 (i + 1) = 0 := by rw [hL1, upd_same, f1.2]; omega
    have a5 : ∀ j, j ≠ i + 1 → H1 j = H j ∧ L1 j = L j := fun j j1 => by
      rw [hH1, hL1, upd_ne _ _ j1, upd_ne _ _ j1]
      exact ⟨rfl, rfl⟩
    have k0 : (H1 (i + 1 + nI b) < 0 ∨ H1 (i + 1 + nI b) = (h : Int)) ∧ L1 (i + 1 + nI b) = 0 := by
      by_cases zt : nI b = 0
      · rw [zt, Nat.add_zero, a1, a2]
        exact ⟨.inr rfl, rfl⟩
      · have := a5 (i + 1 + nI b) (by omega)
        have f2 := hfr (i + 1 + nI b) (by omega) (by omega)
        rw [this.1, this.2]
        exact ⟨.inl f2.1, f2.2⟩
    have hmul : bndC b + 1 ≤ r * (bndC b + 1) := Nat.le_mul_of_pos_left _ (by omega)
    obtain ⟨H2, L2, k1, k2, k3, k4⟩ := ib (i + 1) (p + 3) h h H1 L1 (i :: st) hw2 g2 (by omega) s1 (by simp only [List.length_cons]; omega) hc hh a1 (by rw [a2]; omega) (by rw [a2]; omega) (fun j j1 j2 => by
      have := a5 j (by omega)
      rw [this.1, this.2]
      exact hfr j (by omega) (by omega)) k0.1 (by rw [k0.2]; omega)
    have k5 : L2 (i + 1 + nI b) = bndC b := by rw [k3, a2, k0.2]; omega
    have k6 : H2 (i + 1) = (h : Int) := by
      by_cases zb : nI b = 0
      · rw [zb, Nat.add_zero] at k2; exact k2
      · rw [(k4 (i + 1) (.inl (by omega)) (by omega)).1]; exact a1
    have k7 : L2 i = L i := by rw [(k4 i (.inl (by omega)) (by omega)).2, (a5 i (by omega)).2]
    have ce := k4 (i + 1 + nI b + 1) (.inr (by omega)) (by omega)
    have de := a5 (i + 1 + nI b + 1) (by omega)
    have ee : i + (2 + nI b) = i + 1 + nI b + 1 := by omega
    rw [ee] at hend hLe
    have hval : L2 i + 1 + N i * (L2 (i + 1 + nI b) + 1) = L i + ((1 + r * (bndC b + 1) : Nat) : Int) := by
      rw [k7, hNi, k5]
      push_cast
      omega
    have es2 := step_next (op := op) (N := N) (To := To) (L := L2) ho2 hTk k2 hh k6 (by rw [hval]; omega) (by rw [ce.1, de.1]; exact hend)
    rw [hval] at es2
    unfold Went
    rw [ee]
    refine ⟨upd H2 (i + 1 + nI b + 1) h, upd L2 (i + 1 + nI b + 1) (max (L2 (i + 1 + nI b + 1)) (L i + ((1 + r * (bndC b + 1) : Nat) : Int))), fun f => ?_, upd_same .., ?_, fun j j1 j2 => ?_⟩
    · rw [show 2 + nI b + f = (nI b + (f + 1)) + 1 by omega, go_step (by omega) es]
      show refGo op N To n (nI b + (f + 1)) (i + 1) H1 L1 = _
      rw [k1, go_step (by omega) es2]
    · show upd _ _ _ _ = _
      rw [upd_same, ce.2, de.2]
    · have c1 := k4 j (by omega) (by omega)
      have c2 := a5 j (by omega)
      refine ⟨?_, ?_⟩
      · show upd _ _ _ _ = _
        rw [upd_ne _ _ j2]
        exact c1.1.trans c2.1
      · show upd _ _ _ _ = _
        rw [upd_ne _ _ j2]
        exact c1.2.trans c2.2
  · cases ht
theorem go_cd (hk : Wk W op N To n) : ∀ c : Cd, GoOk W op N To n c
  | .nil => go_nil
  | .one _ => go_one hk
  | .seq a b => go_seq hk (go_cd hk a) (go_cd hk b)
  | .ite t _ false => go_ite0 hk (go_cd hk t)
  | .ite t e true => go_ite1 hk (go_cd hk t) (go_cd hk e)
  | .rep _ b => go_rep hk (go_cd hk b)
end

end Go.Proofs.YtidhiaaicmfabaaGreatDoor

/- The image of such code is right (seat .ZD alone). -/
namespace Go.Proofs.YtidhiaaicmfabaaGreatDoor
open Go.RowKit Go.Proofs Go.Deep

/-- The image of these cells and this code. -/
def imgG (cs l : List Int) : ByteArray := ba (mkB ++ u8L (imgI cs l))
def mkI : List Int := [83, 76, 85, 73, 67, 69]
theorem imgG_bys (cs l : List Int) : imgG cs l = bys ((mkI ++ [(cs.length : Int)]) ++ cs ++ (two l.length ++ l)) := by
  have e : mkB ++ u8L (imgI cs l) = u8L ((mkI ++ [(cs.length : Int)]) ++ cs ++ (two l.length ++ l)) := by
    have e : mkB = u8L mkI := by decide
    rw [e]
    unfold u8L imgI
    simp only [List.map_append, List.map_cons, List.append_assoc, List.cons_append, List.nil_append]
  unfold imgG bys
  rw [e]
theorem bys_extract (a b : List Int) : (bys (a ++ b)).extract a.length (a.length + b.length) = bys b := by
  unfold bys
  rw [ba_extract]
  unfold u8L
  rw [List.map_append, List.drop_left' (by simp), Nat.add_sub_cancel_left, List.take_of_length_le (by simp)]
structure ImgF (cs l : List Int) (s : ByteArray) : Prop where
  size : s.size = 9 + cs.length + l.length
  nc : bt s 6 = cs.length
  cell : ∀ i n, cs[i]? = some n → bt s (7 + i) = n.toNat
  len : b16 s (7 + cs.length) = l.length
  code : codeOf s = bys l
  mark : (s.extract 0 6).toList = [83, 76, 85, 73, 67, 69]
theorem img_facts (cs l : List Int) (hc : cs.length ≤ 100) (hci : ∀ n ∈ cs, 0 ≤ n ∧ n ≤ 8) (hl : l.length ≤ 8000) : ImgF cs l (imgG cs l) := by
  rw [imgG_bys]
  have hsz : (bys ((mkI ++ [(cs.length : Int)]) ++ cs ++ (two l.length ++ l))).size = 9 + cs.length + l.length := by
    rw [bys_size]
    simp only [List.length_append, two_len, List.length_cons, List.length_nil, mkI]
    omega
  have h6 : bt (bys ((mkI ++ [(cs.length : Int)]) ++ cs ++ (two l.length ++ l))) 6 = cs.length := by
    refine (bys_bt (n := (cs.length : Int)) ?_ (by omega)).trans (by omega)
    rw [List.getElem?_append_left (by simp [mkI]), List.getElem?_append_left (by simp [mkI])]
    rfl
  have hm7 : (mkI ++ [(cs.length : Int)]).length = 7 := rfl
  have hmid : ∀ i n, (two l.length ++ l)[i]? = some n → 0 ≤ n ∧ n ≤ 255 → bt (bys ((mkI ++ [(cs.length : Int)]) ++ cs ++ (two l.length ++ l))) (7 + cs.length + i) = n.toNat := fun i n hi hn => by
    refine bys_bt ?_ hn
    rw [List.getElem?_append_right (by simp [mkI]; omega)]
    simp only [List.length_append, hm7, Nat.add_sub_cancel_left]
    exact hi
  refine ⟨hsz, h6, fun i n hi => ?_, ?_, ?_, ?_⟩
  · have hn := hci n (List.mem_of_getElem? hi)
    refine bys_bt ?_ (by omega)
    have hlt := (List.getElem?_eq_some_iff.1 hi).1
    rw [List.getElem?_append_left (by rw [List.length_append, hm7]; omega), List.getElem?_append_right (by rw [hm7]; omega), hm7, Nat.add_sub_cancel_left]
    exact hi
  · unfold b16
    rw [show 7 + cs.length = 7 + cs.length + 0 by omega, hmid 0 _ (by rfl) (by omega), show 7 + cs.length + 0 + 1 = 7 + cs.length + 1 by omega, hmid 1 _ (by rfl) (by omega)]
    omega
  · unfold codeOf
    rw [h6, hsz]
    have e : ((mkI ++ [(cs.length : Int)]) ++ cs ++ (two l.length ++ l)) = ((mkI ++ [(cs.length : Int)]) ++ cs ++ two l.length) ++ l := by simp only [List.append_assoc]
    have e2 : ((mkI ++ [(cs.length : Int)]) ++ cs ++ two l.length).length = 9 + cs.length := by
      simp only [List.length_append, hm7, two_len]; omega
    rw [e, ← e2]
    exact bys_extract _ _
  · have e : (bys ((mkI ++ [(cs.length : Int)]) ++ cs ++ (two l.length ++ l))).extract 0 6 = ba (u8L mkI) := by
      unfold bys
      rw [ba_extract]
      simp only [u8L, List.append_assoc, List.map_append, List.drop_zero, Nat.sub_zero]
      rw [List.take_left' (by rfl)]
    rw [e, ByteArray.toList_eq]
    decide
/-- Its cells are those of the image. -/
def celC (rl kd : Nat → Int) (nC : Nat) : Cd → Prop
  | .nil => True
  | .one x => insOk rl kd nC (oc x) (insC (bys x) 0) (insN (bys x) 0)
  | .seq a b => celC rl kd nC a ∧ celC rl kd nC b
  | .ite t e _ => celC rl kd nC t ∧ celC rl kd nC e
  | .rep _ b => celC rl kd nC b
theorem ins_jump (rl kd : Nat → Int) (nC n c : Nat) (N : Int) (hn : n = 17 ∨ n = 18 ∨ n = 20 ∨ n = 0) : insOk rl kd nC n c N := ⟨fun h => by omega, fun h => by omega⟩
theorem cel_all {rl kd : Nat → Int} {nC : Nat} : ∀ (c : Cd) (p : Nat), wfC c → celC rl kd nC c → ∀ x ∈ flat p c, insOk rl kd nC (oc x) (insC (bys x) 0) (insN (bys x) 0)
  | .nil, _, _, _, x, hx => by simp [flat] at hx
  | .one y, _, _, h, x, hx => by
    simp only [flat, List.mem_cons, List.not_mem_nil, or_false] at hx
    subst hx
    exact h
  | .seq a b, p, hw, h, x, hx => by
    simp only [flat, List.mem_append] at hx
    rcases hx with hx | hx
    · exact cel_all a _ hw.1 h.1 x hx
    · exact cel_all b _ hw.2 h.2 x hx
  | .ite t e j, p, hw, h, x, hx => by
    simp only [flat, List.mem_append] at hx
    rcases hx with ((hx | hx) | hx) | hx
    · simp only [List.mem_cons, List.not_mem_nil, or_false] at hx
      subst hx
      exact ins_jump _ _ _ _ _ _ (.inr (.inl rfl))
    · exact cel_all t _ hw.1 h.1 x hx
    · cases j
      · simp at hx
      · simp only [if_true, List.mem_cons, List.not_mem_nil, or_false] at hx
        subst hx
        exact ins_jump _ _ _ _ _ _ (.inl rfl)
    · exact cel_all e _ hw.2.1 h.2 x hx
  | .rep n b, p, hw, h, x, hx => by
    simp only [flat, List.mem_append] at hx
    rcases hx with (hx | hx) | hx
    · simp only [List.mem_cons, List.not_mem_nil, or_false] at hx
      subst hx
      refine ⟨fun h => ?_, fun _ => ?_⟩
      · have e : oc (19 :: two n) = 19 := rfl
        omega
      · rw [(jump_val 19 n (by omega) hw.1.2).1]
        have := hw.1.1
        omega
    · exact cel_all b _ hw.2 h x hx
    · simp only [List.mem_cons, List.not_mem_nil, or_false] at hx
      subst hx
      exact ins_jump _ _ _ _ _ _ (by decide)
/-- All instructions of a program. -/
def prW (c : Cd) : List (List Int) := flat 0 c ++ [[0]]
theorem prW_len (c : Cd) : (prW c).length = nI c + 1 := by simp [prW, flat_len]
theorem prW_sz (c : Cd) : (prW c).flatten.length = szC c + 1 := by simp only [prW, List.flatten_append, List.length_append, flat_sz]; rfl
theorem prW_ok {c : Cd} (h : wfC c) : ∀ x ∈ prW c, okX x := by
  intro x hx
  simp only [prW, List.mem_append, List.mem_cons, List.not_mem_nil, or_false] at hx
  rcases hx with hx | rfl
  · exact flat_ok c 0 h x hx
  · exact okX_end
theorem prW_sg (c : Cd) : Sg (prW c) 0 0 (flat 0 c) := ⟨[], [[0]], rfl, rfl, rfl⟩
theorem prW_end (c : Cd) : (prW c)[nI c]? = some [0] := by
  unfold prW
  rw [List.getElem?_append_right (by rw [flat_len]; exact Nat.le_refl _), flat_len, Nat.sub_self]
  rfl
theorem take_mono {W : List (List Int)} (h : ∀ x ∈ W, okX x) {a b : Nat} (hab : a < b) (hb : b ≤ W.length) : (W.take a).flatten.length < (W.take b).flatten.length := by
  have e : W.take b = W.take a ++ (W.drop a).take (b - a) := by
    rw [← List.take_add]
    congr 1
    omega
  have hlt : a < W.length := by omega
  rw [e, List.flatten_append, List.length_append]
  have e2 : (W.drop a).take (b - a) = W[a] :: ((W.drop (a + 1)).take (b - a - 1)) := by
    rw [List.drop_eq_getElem_cons hlt]
    obtain ⟨m, hm⟩ : ∃ m, b - a = m + 1 := ⟨b - a - 1, by omega⟩
    rw [hm]
    rfl
  rw [e2, List.flatten_cons, List.length_append]
  have := (h _ (List.getElem_mem hlt)).1
  omega
theorem flat_ge : ∀ (W : List (List Int)), (∀ x ∈ W, okX x) → W.length ≤ W.flatten.length
  | [], _ => by simp
  | x :: r, h => by
    have h1 := (h x (by simp)).1
    have h2 := flat_ge r (fun y hy => h y (by simp [hy]))
    simp only [List.length_cons, List.flatten_cons, List.length_append]
    omega
theorem inOf_stk {op : Nat → Nat} {k t : Nat} {s : List Nat} (h1 : stk op k = some s) (h2 : stk op t = some s) : inOf op t = inOf op k := by unfold inOf; rw [h1, h2]
/-- Targets by places. -/
theorem tgt_at {at_ : Nat → Nat} {n t : Nat} {v : Int} (ht : t < n) (h1 : (at_ t : Int) = v) (h2 : ∀ j, j < t → (at_ j : Int) ≠ v) : tgt at_ n v = t := by
  unfold tgt
  rw [List.findIdx_eq (by simpa using ht)]
  refine ⟨by simpa using h1, fun j hj => ?_⟩
  have := h2 j hj
  simpa using this
theorem prW_wk {c : Cd} (hw : wfC c) (hz : szC c ≤ 65534) : Wk (prW c) (opL (bys (prW c).flatten) (posW 0 (prW c))) (nL (bys (prW c).flatten) (posW 0 (prW c))) (toL (atL (posW 0 (prW c))) (opL (bys (prW c).flatten) (posW 0 (prW c))) (nL (bys (prW c).flatten) (posW 0 (prW c))) (nI c + 1)) (nI c + 1) := by
  have hok := prW_ok hw
  have hat : ∀ k, k < nI c + 1 → atL (posW 0 (prW c)) k = ((prW c).take k).flatten.length := fun k hk => by
    have hk' : k < (prW c).length := by rw [prW_len]; exact hk
    exact (W_at hok (List.getElem?_eq_getElem hk')).1
  refine ⟨fun k x hx => (W_at hok hx).2.1, fun k x hx => (W_at hok hx).2.2.2.2.2, by rw [prW_sz]; omega, prW_len c, fun k t hk ht ho hN => ?_, fun k f s hk ho hs => ?_⟩
  · unfold toL
    rw [if_neg (by omega)]
    refine tgt_at ht (by rw [hat t ht, hN]) (fun j hj => ?_)
    rw [hat j (by omega), hN]
    have := take_mono hok hj (by rw [prW_len]; omega)
    omega
  · unfold toL
    rw [if_pos ho]
    unfold inOf
    rw [hs]
    rfl
theorem cd_imgOk {cs : List Int} {c : Cd} (hc : cs.length ≤ 100) (hci : ∀ n ∈ cs, 0 ≤ n ∧ n ≤ 8) (hw : wfC c) (hz : szC c ≤ 7999) (hf : fdC c ≤ 10) (hh : htC c 0 = some 0) (hb : bndC c ≤ 1099511627776) (hcel : celC (rlOf (imgG cs (prW c).flatten)) (kdOf (imgG cs (prW c).flatten)) cs.length c) :
    imgOk (imgG cs (prW c).flatten) ((bndC c + 1 : Nat) : Int) ∧ posF (codeOf (imgG cs (prW c).flatten)) ((codeOf (imgG cs (prW c).flatten)).size + 1) 0 = some (posW 0 (prW c)) := by
  have F := img_facts cs (prW c).flatten hc hci (by rw [prW_sz]; omega)
  have hok := prW_ok hw
  have wk := prW_wk hw (by omega)
  have hps : posF (codeOf (imgG cs (prW c).flatten)) ((codeOf (imgG cs (prW c).flatten)).size + 1) 0 = some (posW 0 (prW c)) := by
    rw [F.code, bys_size]
    have := posF_W (prW c) [] ((prW c).flatten.length - (prW c).length) hok
    have hge := flat_ge _ hok
    rw [show (prW c).length + ((prW c).flatten.length - (prW c).length) + 1 = (prW c).flatten.length + 1 by omega] at this
    simpa using this
  refine ⟨⟨⟨?_, F.mark, ?_, ?_⟩, ?_, ⟨?_, ?_⟩, posW 0 (prW c), hps, ?_⟩, hps⟩
  · rw [F.size]; omega
  · rw [F.nc]; exact hc
  · rw [F.nc, F.size]; omega
  · intro i hi
    rw [F.nc] at hi
    have h1 := List.getElem?_eq_getElem hi
    have := hci _ (List.mem_of_getElem? h1)
    rw [F.cell i _ h1]
    omega
  · rw [F.nc, F.size, F.len]; omega
  · rw [F.nc, F.len, prW_sz]; omega
  · rw [F.code, F.nc]
    obtain ⟨op, hop⟩ : ∃ op, op = opL (bys (prW c).flatten) (posW 0 (prW c)) := ⟨_, rfl⟩
    obtain ⟨N, hN⟩ : ∃ N, N = nL (bys (prW c).flatten) (posW 0 (prW c)) := ⟨_, rfl⟩
    have hat : ∀ k, k < nI c + 1 → atL (posW 0 (prW c)) k = ((prW c).take k).flatten.length := fun k hk => by
      have hk' : k < (prW c).length := by rw [prW_len]; exact hk
      exact (W_at hok (List.getElem?_eq_getElem hk')).1
    have hpl : (posW 0 (prW c)).length = nI c + 1 := by rw [posW_len, prW_len]
    unfold codeOk
    rw [hpl, ← hop, ← hN]
    rw [← hop, ← hN] at wk
    have hsg := prW_sg c
    have h0 : stk op 0 = some [] := rfl
    have s1 := stk_cd wk.hop c 0 0 [] hw hsg h0 (by simpa using hf)
    rw [Nat.zero_add] at s1
    have oe : op (nI c) = 0 := wk.hop _ _ (prW_end c)
    have s2 := stk_plain s1 (by omega) (by omega)
    refine ⟨fun e => ?_, fun i hi => ?_, s2, fun i hi hj => ?_, ?_⟩
    · rw [e] at hpl; simp at hpl
    · have hi' : i < (prW c).length := by rw [prW_len]; exact hi
      have hx := List.getElem?_eq_getElem hi'
      have wa := W_at hok hx
      have hm := List.mem_of_getElem? hx
      rw [hop, wa.2.1, wa.2.2.2.2.1, hN, wa.2.2.2.2.2]
      simp only [prW, List.mem_append, List.mem_cons, List.not_mem_nil, or_false] at hm
      rcases hm with hm | hm
      · exact cel_all c 0 hw hcel _ hm
      · have : (prW c)[i] = [0] := hm
        rw [this]
        exact ins_jump _ _ _ _ _ _ (by decide)
    · have hlt : i < nI c := by
        rcases Nat.lt_or_ge i (nI c) with h | h
        · exact h
        · have : i = nI c := by omega
          subst this
          rw [oe] at hj
          rcases hj with hj | hj <;> omega
      obtain ⟨t, s, t1, t2, t3, t4, t5⟩ := jmp_cd wk.hop wk.hN wk.hz c 0 0 [] hw hsg h0 (by simpa using hf) i (by omega) (by omega) hj
      refine ⟨t, ?_, t1, by omega, inOf_stk t4 t5, fun j hj2 => ?_⟩
      · rw [hat t (by omega), t3]
      · rw [hat j (by omega), t3]
        have := take_mono hok hj2 (by rw [prW_len]; omega)
        omega
    · obtain ⟨H', L', e1, e2, e3, _⟩ := go_cd wk c 0 0 0 0 H0 L0 [] hw hsg (by omega) h0 (by simpa using hf) hh (by omega) rfl (by decide) (by show (0 : Int) + _ ≤ _; omega) (fun j j1 _ => ⟨by show (if j = 0 then (0 : Int) else -1) < 0; rw [if_neg (by omega)]; omega, rfl⟩) (by
        by_cases e : 0 + nI c = 0
        · exact .inr (by rw [e]; rfl)
        · exact .inl (by show (if 0 + nI c = 0 then (0 : Int) else -1) < 0; rw [if_neg e]; omega)) (Int.le_refl 0)
      have e4 := e1 1
      rw [Nat.zero_add] at e2 e3 e4
      have e5 : L' (nI c) = (bndC c : Int) := by
        rw [e3]
        show max (0 : Int) (0 + (bndC c : Int)) = _
        omega
      rw [e4, refGo, if_pos oe, if_pos ⟨e2, rfl⟩, e5]
      exact congrArg some (by omega)

end Go.Proofs.YtidhiaaicmfabaaGreatDoor

/- What such code does, and a run of it (seat .ZD alone). -/
namespace Go.Proofs.YtidhiaaicmfabaaGreatDoor
open Go.RowKit Go.Proofs Go.Deep

abbrev Er := Except Int ((Nat → Int) × List Int)
/-- What an instruction does. -/
def ex1 (kd : Nat → Nat) (dl : Int) (x : List Int) (C : Nat → Int) (S : List Int) : Er :=
  if (doesV (oc x) (vArg (bys x) 0) (vCnt (bys x) 0) 0 0 kd dl (popA (popsOf (oc x)) S) (popB (popsOf (oc x)) S) ⟨C, [], 0, false⟩).2.2 = 0 then
    .ok ((doesV (oc x) (vArg (bys x) 0) (vCnt (bys x) 0) 0 0 kd dl (popA (popsOf (oc x)) S) (popB (popsOf (oc x)) S) ⟨C, [], 0, false⟩).1.C, pushS (oc x) (doesV (oc x) (vArg (bys x) 0) (vCnt (bys x) 0) 0 0 kd dl (popA (popsOf (oc x)) S) (popB (popsOf (oc x)) S) ⟨C, [], 0, false⟩).2.1 (S.drop (popsOf (oc x))))
  else .error (doesV (oc x) (vArg (bys x) 0) (vCnt (bys x) 0) 0 0 kd dl (popA (popsOf (oc x)) S) (popB (popsOf (oc x)) S) ⟨C, [], 0, false⟩).2.2
def thenE (r : Er) (f : (Nat → Int) → List Int → Er) : Er := match r with | .ok q => f q.1 q.2 | .error e => .error e
def itN (f : (Nat → Int) → List Int → Er) : Nat → (Nat → Int) → List Int → Er
  | 0, C, S => .ok (C, S)
  | n + 1, C, S => thenE (f C S) (itN f n)
/-- What code does: the cells and the stack behind it, or the error. -/
def exC (kd : Nat → Nat) (dl : Int) : Cd → (Nat → Int) → List Int → Er
  | .nil, C, S => .ok (C, S)
  | .one x, C, S => ex1 kd dl x C S
  | .seq a b, C, S => thenE (exC kd dl a C S) (exC kd dl b)
  | .ite t e _, C, S => if S.headD 0 = 0 then exC kd dl e C S.tail else exC kd dl t C S.tail
  | .rep n b, C, S => itN (exC kd dl b) n C S
theorem does_same {o : Nat} (h0 : o ≠ 0) (h17 : o ≠ 17) (h18 : o ≠ 18) (h19 : o ≠ 19) (h20 : o ≠ 20) (arg cnt lp to_ : Int) (kd : Nat → Nat) (dl a b : Int) (q : Sc) :
    doesV o arg cnt lp to_ kd dl a b q = ({ q with C := (doesV o arg cnt 0 0 kd dl a b ⟨q.C, [], 0, false⟩).1.C }, (doesV o arg cnt 0 0 kd dl a b ⟨q.C, [], 0, false⟩).2.1, (doesV o arg cnt 0 0 kd dl a b ⟨q.C, [], 0, false⟩).2.2) := by
  have ite : ∀ {c : Prop} [Decidable c] {A B A' B' : Sc × Int × Int}, A = ({ q with C := A'.1.C }, A'.2.1, A'.2.2) → B = ({ q with C := B'.1.C }, B'.2.1, B'.2.2) → (if c then A else B) = ({ q with C := (if c then A' else B').1.C }, (if c then A' else B').2.1, (if c then A' else B').2.2) := by
    intro c _ A B A' B' ha hb
    by_cases hc : c
    · simp only [if_pos hc]; exact ha
    · simp only [if_neg hc]; exact hb
  unfold doesV
  simp only [if_neg h0, if_neg h17, if_neg h18, if_neg h19, if_neg h20]
  repeat' (refine ite ?_ ?_)
  all_goals rfl
section
variable {K : Rc}
theorem run_st {f : Nat} {q q' : Sc} {S S' : List Int} {dn : Int} (ho : q.ov = false) (h : stepK K q S = (q', S', 0)) : runK K (f + 1) q S dn = runK K f q' S' (dn + 1) := by
  simp only [runK]
  rw [h]
  simp [ho]
theorem run_er {f : Nat} {q q' : Sc} {S S' : List Int} {dn e : Int} (ho : q.ov = false) (h : stepK K q S = (q', S', e)) (he : e ≠ 0) : runK K (f + 1) q S dn = (q', dn + 1, e) := by
  simp only [runK]
  rw [h]
  simp [ho, he]
theorem st_any {i : Nat} {x : List Int} {C : Nat → Int} {Lf S : List Int} (hp : plain x) (ho : K.op i = oc x) (ha : K.arg i = vArg (bys x) 0) (hc : K.cnt i = vCnt (bys x) 0) :
    stepK K ⟨C, Lf, (i : Int), false⟩ S = (⟨(doesV (oc x) (vArg (bys x) 0) (vCnt (bys x) 0) 0 0 K.kd K.delta (popA (popsOf (oc x)) S) (popB (popsOf (oc x)) S) ⟨C, [], 0, false⟩).1.C, Lf, ((i + 1 : Nat) : Int), false⟩,
      pushS (oc x) (doesV (oc x) (vArg (bys x) 0) (vCnt (bys x) 0) 0 0 K.kd K.delta (popA (popsOf (oc x)) S) (popB (popsOf (oc x)) S) ⟨C, [], 0, false⟩).2.1 (S.drop (popsOf (oc x))),
      (doesV (oc x) (vArg (bys x) 0) (vCnt (bys x) 0) 0 0 K.kd K.delta (popA (popsOf (oc x)) S) (popB (popsOf (oc x)) S) ⟨C, [], 0, false⟩).2.2) := by
  obtain ⟨_, h0, h17, h18, h19, h20⟩ := hp
  unfold stepK doesK
  simp only [Int.toNat_natCast, ho, ha, hc]
  rw [does_same h0 h17 h18 h19 h20]
  simp only [Int.natCast_add]
  rfl
theorem st_unl0 {i t : Nat} {C : Nat → Int} {Lf S : List Int} (ho : K.op i = 18) (ht : K.to_ i = (t : Int)) (hS : S.headD 0 = 0) : stepK K ⟨C, Lf, (i : Int), false⟩ S = (⟨C, Lf, (t : Int), false⟩, S.tail, 0) := by
  have e : S.getD 0 0 = 0 := by
    cases S with
    | nil => rfl
    | cons a r => exact hS
  unfold stepK doesK doesV pushS
  cases S <;> simp_all [popsOf, pushesOf, popA]
theorem st_unl1 {i : Nat} {C : Nat → Int} {Lf S : List Int} (ho : K.op i = 18) (hS : S.headD 0 ≠ 0) : stepK K ⟨C, Lf, (i : Int), false⟩ S = (⟨C, Lf, ((i + 1 : Nat) : Int), false⟩, S.tail, 0) := by
  unfold stepK doesK doesV pushS
  cases S with
  | nil => simp at hS
  | cons a r =>
    have : a ≠ 0 := by simpa using hS
    simp [ho, popsOf, pushesOf, popA, this]
theorem st_jmp {i t : Nat} {C : Nat → Int} {Lf S : List Int} (ho : K.op i = 17) (ht : K.to_ i = (t : Int)) : stepK K ⟨C, Lf, (i : Int), false⟩ S = (⟨C, Lf, (t : Int), false⟩, S, 0) := by
  unfold stepK doesK doesV pushS
  simp [ho, ht, popsOf, pushesOf]
theorem st_for {i : Nat} {n : Int} {C : Nat → Int} {Lf S : List Int} (ho : K.op i = 19) (ha : K.arg i = n) : stepK K ⟨C, Lf, (i : Int), false⟩ S = (⟨C, n :: Lf, ((i + 1 : Nat) : Int), false⟩, S, 0) := by
  unfold stepK doesK doesV pushS
  simp [ho, ha, popsOf, pushesOf]
theorem st_nxA {i f : Nat} {c : Int} {C : Nat → Int} {Lf S : List Int} (ho : K.op i = 20) (hl : K.lp i = (f : Int)) (hc : 0 < c - 1) : stepK K ⟨C, c :: Lf, (i : Int), false⟩ S = (⟨C, (c - 1) :: Lf, ((f + 1 : Nat) : Int), false⟩, S, 0) := by
  unfold stepK doesK doesV pushS
  simp [ho, hl, popsOf, pushesOf, show 1 < c by omega]
theorem st_nxB {i : Nat} {c : Int} {C : Nat → Int} {Lf S : List Int} (ho : K.op i = 20) (hc : ¬ 0 < c - 1) : stepK K ⟨C, c :: Lf, (i : Int), false⟩ S = (⟨C, Lf, ((i + 1 : Nat) : Int), false⟩, S, 0) := by
  unfold stepK doesK doesV pushS
  simp [ho, popsOf, pushesOf, show ¬ 1 < c by omega]
end
/-- A scan's table tells W's instructions. -/
structure Rn (W : List (List Int)) (K : Rc) (n : Nat) : Prop where
  hop : ∀ k x, W[k]? = some x → K.op k = oc x
  harg : ∀ k x, W[k]? = some x → K.arg k = vArg (bys x) 0
  hcnt : ∀ k x, W[k]? = some x → K.cnt k = vCnt (bys x) 0
  hz : W.flatten.length ≤ 65535
  hn : W.length = n
  hto : ∀ k t x, W[k]? = some x → t < n → (oc x = 17 ∨ oc x = 18) → vArg (bys x) 0 = ((W.take t).flatten.length : Int) → K.to_ k = (t : Int)
  hlp : ∀ k f s, k < n → K.op k = 20 → stk K.op k = some (f :: s) → K.lp k = (f : Int)
def RunOk (W : List (List Int)) (K : Rc) (n : Nat) (c : Cd) : Prop :=
  ∀ (i p : Nat) (st : List Nat) (C : Nat → Int) (S Lf : List Int) (dn : Int), wfC c → Sg W i p (flat p c) → i + nI c < n → stk K.op i = some st → st.length + fdC c ≤ 10 →
    (∀ C' S', exC K.kd K.delta c C S = .ok (C', S') → ∃ m : Nat, m ≤ bndC c ∧ ∀ f, runK K (m + f) ⟨C, Lf, (i : Int), false⟩ S dn = runK K f ⟨C', Lf, ((i + nI c : Nat) : Int), false⟩ S' (dn + m)) ∧
    (∀ e, exC K.kd K.delta c C S = .error e → e ≠ 0 ∧ ∃ (m : Nat) (q' : Sc), m ≤ bndC c ∧ ∀ f, runK K (m + f) ⟨C, Lf, (i : Int), false⟩ S dn = (q', dn + m, e))
section
variable {W : List (List Int)} {K : Rc} {n : Nat}
theorem rn_nil : RunOk W K n .nil := by
  intro i p st C S Lf dn _ _ _ _ _
  refine ⟨fun C' S' h => ?_, fun e h => by cases h⟩
  simp only [exC, Except.ok.injEq, Prod.mk.injEq] at h
  obtain ⟨rfl, rfl⟩ := h
  exact ⟨0, by simp, fun f => by simp [nI]⟩
theorem rn_one (hr : Rn W K n) {x : List Int} : RunOk W K n (.one x) := by
  intro i p st C S Lf dn hw hg _ _ _
  have hx := (Sg.get hg).1
  have hs := st_any (K := K) (C := C) (Lf := Lf) (S := S) hw (hr.hop i x hx) (hr.harg i x hx) (hr.hcnt i x hx)
  simp only [exC, ex1]
  refine ⟨fun C' S' h => ?_, fun e h => ?_⟩
  · split at h
    · rename_i h0
      rw [h0] at hs
      simp only [Except.ok.injEq, Prod.mk.injEq] at h
      obtain ⟨rfl, rfl⟩ := h
      exact ⟨1, by simp [bndC], fun f => by rw [Nat.add_comm 1 f, run_st rfl hs]; rfl⟩
    · cases h
  · split at h
    · cases h
    · rename_i h0
      simp only [Except.error.injEq] at h
      rw [h] at hs h0
      exact ⟨h0, 1, _, by simp [bndC], fun f => by rw [Nat.add_comm 1 f, run_er rfl hs h0]; rfl⟩
theorem rn_seq (hr : Rn W K n) {a b : Cd} (ia : RunOk W K n a) (ib : RunOk W K n b) : RunOk W K n (.seq a b) := by
  intro i p st C S Lf dn hw hg hin hs hfd
  obtain ⟨g1, g2⟩ := hg.seq
  simp only [fdC] at hfd
  have hnI : nI (.seq a b) = nI a + nI b := rfl
  have hbn : bndC (.seq a b) = bndC a + bndC b := rfl
  rw [hnI] at hin ⊢
  rw [hbn]
  have sA := stk_cd hr.hop a i p st hw.1 g1 hs (by omega)
  have ra := ia i p st C S Lf dn hw.1 g1 (by omega) hs (by omega)
  simp only [exC]
  cases hA : exC K.kd K.delta a C S with
  | error e =>
    obtain ⟨h0, m, q', m1, m2⟩ := ra.2 e hA
    refine ⟨fun C' S' h => (by cases h), fun e' h => ?_⟩
    simp only [thenE, Except.error.injEq] at h
    subst h
    exact ⟨h0, m, q', by omega, m2⟩
  | ok q =>
    obtain ⟨C1, S1⟩ := q
    obtain ⟨m, m1, m2⟩ := ra.1 C1 S1 hA
    have rb := ib (i + nI a) (p + szC a) st C1 S1 Lf (dn + m) hw.2 g2 (by omega) sA (by omega)
    simp only [thenE]
    refine ⟨fun C' S' h => ?_, fun e h => ?_⟩
    · obtain ⟨k, k1, k2⟩ := rb.1 C' S' h
      refine ⟨m + k, by omega, fun f => ?_⟩
      rw [Nat.add_assoc, m2, k2, ← Nat.add_assoc]
      congr 1
      omega
    · obtain ⟨h0, k, q', k1, k2⟩ := rb.2 e h
      refine ⟨h0, m + k, q', by omega, fun f => ?_⟩
      rw [Nat.add_assoc, m2, k2]
      simp only [Prod.mk.injEq, and_true, true_and]
      omega
theorem rn_ite (hr : Rn W K n) {t e : Cd} {j : Bool} (ia : RunOk W K n t) (ib : RunOk W K n e) : RunOk W K n (.ite t e j) := by
  intro i p st C S Lf dn hw hg hin hs hfd
  have hfin := hg.fin.1
  obtain ⟨g1, g2, g3, g4⟩ := hg.ite
  simp only [fdC] at hfd
  have hnI : nI (.ite t e j) = 1 + nI t + jz j + nI e := rfl
  have hbn : bndC (.ite t e j) = 1 + max (bndC t + jz j) (bndC e) := rfl
  rw [hnI] at hin hfin ⊢
  rw [hbn]
  simp only [szC] at hfin
  have ho : K.op i = 18 := hr.hop i _ g1.get.1
  have s1 := stk_plain hs (by omega) (by omega)
  have s2 := stk_cd hr.hop t _ _ st hw.1 g2 s1 (by omega)
  have s3 : stk K.op (i + 1 + nI t + jz j) = some st := by
    cases j
    · exact s2
    · have ho2 : K.op (i + 1 + nI t) = 17 := hr.hop _ _ (g3 rfl).get.1
      exact stk_plain s2 (by omega) (by omega)
  have hlen : ∀ m, (W.take m).flatten.length ≤ W.flatten.length := fun m => by
    conv => rhs; rw [← List.take_append_drop m W]
    rw [List.flatten_append, List.length_append]
    omega
  have hp4 := g4.pos.1
  have l1 := hlen (i + 1 + nI t + jz j)
  have l2 := hlen (i + (1 + nI t + jz j + nI e))
  have hz := hr.hz
  simp only [exC]
  by_cases hS : S.headD 0 = 0
  · rw [if_pos hS]
    have hT : K.to_ i = ((i + 1 + nI t + jz j : Nat) : Int) := hr.hto i _ _ g1.get.1 (by omega) (.inr rfl) (by rw [hp4]; exact (jump_val 18 _ (by omega) (by omega)).2)
    have es := st_unl0 (K := K) (C := C) (Lf := Lf) ho hT hS
    have rb := ib _ _ st C S.tail Lf (dn + 1) hw.2.1 g4 (by omega) s3 (by omega)
    refine ⟨fun C' S' h => ?_, fun e' h => ?_⟩
    · obtain ⟨k, k1, k2⟩ := rb.1 C' S' h
      refine ⟨k + 1, by omega, fun f => ?_⟩
      rw [show k + 1 + f = (k + f) + 1 by omega, run_st rfl es, k2, show i + 1 + nI t + jz j + nI e = i + (1 + nI t + jz j + nI e) by omega]
      congr 1
      omega
    · obtain ⟨h0, k, q', k1, k2⟩ := rb.2 e' h
      refine ⟨h0, k + 1, q', by omega, fun f => ?_⟩
      rw [show k + 1 + f = (k + f) + 1 by omega, run_st rfl es, k2]
      simp only [Prod.mk.injEq, and_true, true_and]
      omega
  · rw [if_neg hS]
    have es := st_unl1 (K := K) (C := C) (Lf := Lf) ho hS
    have ra := ia _ _ st C S.tail Lf (dn + 1) hw.1 g2 (by omega) s1 (by omega)
    refine ⟨fun C' S' h => ?_, fun e' h => ?_⟩
    · obtain ⟨k, k1, k2⟩ := ra.1 C' S' h
      cases j
      · have he := hw.2.2 rfl
        subst he
        refine ⟨k + 1, by omega, fun f => ?_⟩
        rw [show k + 1 + f = (k + f) + 1 by omega, run_st rfl es, k2, show i + 1 + nI t = i + (1 + nI t + jz false + nI .nil) by simp [jz, nI]; omega]
        congr 1
        omega
      · have ho2 : K.op (i + 1 + nI t) = 17 := hr.hop _ _ (g3 rfl).get.1
        have hT : K.to_ (i + 1 + nI t) = ((i + (1 + nI t + jz true + nI e) : Nat) : Int) := hr.hto _ _ _ (g3 rfl).get.1 (by omega) (.inl rfl) (by
          rw [hfin, show p + (3 + szC t + 3 * jz true + szC e) = p + 3 + szC t + 3 * jz true + szC e by omega]
          exact (jump_val 17 _ (by omega) (by omega)).2)
        have es2 := st_jmp (K := K) (C := C') (Lf := Lf) (S := S') ho2 hT
        refine ⟨k + 1 + 1, by simp only [jz, if_true]; omega, fun f => ?_⟩
        rw [show k + 1 + 1 + f = (k + (f + 1)) + 1 by omega, run_st rfl es, k2, run_st rfl es2]
        congr 1
        omega
    · obtain ⟨h0, k, q', k1, k2⟩ := ra.2 e' h
      refine ⟨h0, k + 1, q', by omega, fun f => ?_⟩
      rw [show k + 1 + f = (k + f) + 1 by omega, run_st rfl es, k2]
      simp only [Prod.mk.injEq, and_true, true_and]
      omega
theorem rn_loop (hr : Rn W K n) {b : Cd} (ib : RunOk W K n b) {i p : Nat} {st : List Nat} (hw : wfC b) (g2 : Sg W (i + 1) (p + 3) (flat (p + 3) b)) (ho2 : K.op (i + 1 + nI b) = 20) (hin : i + (2 + nI b) < n) (s1 : stk K.op (i + 1) = some (i :: st)) (hfd : st.length + (fdC b + 1) ≤ 10) (Lf : List Int) :
    ∀ (r : Nat) (C : Nat → Int) (S : List Int) (dn : Int),
    (∀ C' S', itN (exC K.kd K.delta b) (r + 1) C S = .ok (C', S') → ∃ m : Nat, m ≤ (r + 1) * (bndC b + 1) ∧ ∀ f, runK K (m + f) ⟨C, ((r + 1 : Nat) : Int) :: Lf, ((i + 1 : Nat) : Int), false⟩ S dn = runK K f ⟨C', Lf, ((i + (2 + nI b) : Nat) : Int), false⟩ S' (dn + m)) ∧
    (∀ e, itN (exC K.kd K.delta b) (r + 1) C S = .error e → e ≠ 0 ∧ ∃ (m : Nat) (q' : Sc), m ≤ (r + 1) * (bndC b + 1) ∧ ∀ f, runK K (m + f) ⟨C, ((r + 1 : Nat) : Int) :: Lf, ((i + 1 : Nat) : Int), false⟩ S dn = (q', dn + m, e)) := by
  have s2 := stk_cd hr.hop b _ _ _ hw g2 s1 (by simp only [List.length_cons]; omega)
  have hlp := hr.hlp _ i st (by omega) ho2 s2
  intro r
  induction r with
  | zero =>
    intro C S dn
    have ra := ib _ _ _ C S (((0 + 1 : Nat) : Int) :: Lf) dn hw g2 (by omega) s1 (by simp only [List.length_cons]; omega)
    simp only [itN]
    cases hA : exC K.kd K.delta b C S with
    | error e =>
      obtain ⟨h0, m, q', m1, m2⟩ := ra.2 e hA
      refine ⟨fun C' S' h => (by cases h), fun e' h => ?_⟩
      simp only [thenE, Except.error.injEq] at h
      subst h
      exact ⟨h0, m, q', by omega, m2⟩
    | ok q =>
      obtain ⟨C1, S1⟩ := q
      obtain ⟨m, m1, m2⟩ := ra.1 C1 S1 hA
      refine ⟨fun C' S' h => ?_, fun e' h => by cases h⟩
      simp only [thenE, Except.ok.injEq, Prod.mk.injEq] at h
      obtain ⟨rfl, rfl⟩ := h
      have es := st_nxB (K := K) (c := ((0 + 1 : Nat) : Int)) (C := C1) (Lf := Lf) (S := S1) ho2 (by omega)
      refine ⟨m + 1, by omega, fun f => ?_⟩
      rw [show m + 1 + f = m + (f + 1) by omega, m2, run_st rfl es, show i + 1 + nI b + 1 = i + (2 + nI b) by omega]
      congr 1
      omega
  | succ r ih =>
    intro C S dn
    have ra := ib _ _ _ C S (((r + 1 + 1 : Nat) : Int) :: Lf) dn hw g2 (by omega) s1 (by simp only [List.length_cons]; omega)
    have hmul : (r + 1 + 1) * (bndC b + 1) = (r + 1) * (bndC b + 1) + (bndC b + 1) := by rw [Nat.add_mul (r + 1) 1]; omega
    rw [itN]
    cases hA : exC K.kd K.delta b C S with
    | error e =>
      obtain ⟨h0, m, q', m1, m2⟩ := ra.2 e hA
      refine ⟨fun C' S' h => (by cases h), fun e' h => ?_⟩
      simp only [thenE, Except.error.injEq] at h
      subst h
      exact ⟨h0, m, q', by omega, m2⟩
    | ok q =>
      obtain ⟨C1, S1⟩ := q
      obtain ⟨m, m1, m2⟩ := ra.1 C1 S1 hA
      have es := st_nxA (K := K) (c := ((r + 1 + 1 : Nat) : Int)) (C := C1) (Lf := Lf) (S := S1) ho2 hlp (by omega)
      rw [show ((r + 1 + 1 : Nat) : Int) - 1 = ((r + 1 : Nat) : Int) by omega] at es
      have rb := ih C1 S1 (dn + m + 1)
      simp only [thenE]
      refine ⟨fun C' S' h => ?_, fun e' h => ?_⟩
      · obtain ⟨k, k1, k2⟩ := rb.1 C' S' h
        refine ⟨m + 1 + k, by omega, fun f => ?_⟩
        rw [show m + 1 + k + f = m + ((k + f) + 1) by omega, m2, run_st rfl es, k2]
        congr 1
        omega
      · obtain ⟨h0, k, q', k1, k2⟩ := rb.2 e' h
        refine ⟨h0, m + 1 + k, q', by omega, fun f => ?_⟩
        rw [show m + 1 + k + f = m + ((k + f) + 1) by omega, m2, run_st rfl es, k2]
        simp only [Prod.mk.injEq, and_true, true_and]
        omega
theorem rn_rep (hr : Rn W K n) {r : Nat} {b : Cd} (ib : RunOk W K n b) : RunOk W K n (.rep r b) := by
  intro i p st C S Lf dn hw hg hin hs hfd
  obtain ⟨hw1, hw2⟩ := hw
  obtain ⟨g1, g2, g3⟩ := hg.rep
  have hnI : nI (.rep r b) = 2 + nI b := rfl
  have hbn : bndC (.rep r b) = 1 + r * (bndC b + 1) := rfl
  rw [hnI] at hin ⊢
  rw [hbn]
  simp only [fdC] at hfd
  have ho : K.op i = 19 := hr.hop i _ g1.get.1
  have ho2 : K.op (i + 1 + nI b) = 20 := hr.hop _ _ g3.get.1
  have ha : K.arg i = (r : Int) := by rw [hr.harg i _ g1.get.1]; exact (jump_val 19 r (by omega) hw1.2).2
  have s1 : stk K.op (i + 1) = some (i :: st) := by rw [stk_at hs, if_pos ho, if_neg (by omega)]
  have es := st_for (K := K) (C := C) (Lf := Lf) (S := S) ho ha
  obtain ⟨r0, rfl⟩ : ∃ r0, r = r0 + 1 := ⟨r - 1, by omega⟩
  have rb := rn_loop hr ib hw2 g2 ho2 hin s1 hfd Lf r0 C S (dn + 1)
  simp only [exC]
  refine ⟨fun C' S' h => ?_, fun e' h => ?_⟩
  · obtain ⟨k, k1, k2⟩ := rb.1 C' S' h
    refine ⟨k + 1, by omega, fun f => ?_⟩
    rw [show k + 1 + f = (k + f) + 1 by omega, run_st rfl es, k2]
    congr 1
    omega
  · obtain ⟨h0, k, q', k1, k2⟩ := rb.2 e' h
    refine ⟨h0, k + 1, q', by omega, fun f => ?_⟩
    rw [show k + 1 + f = (k + f) + 1 by omega, run_st rfl es, k2]
    simp only [Prod.mk.injEq, and_true, true_and]
    omega
theorem rn_cd (hr : Rn W K n) : ∀ c : Cd, RunOk W K n c
  | .nil => rn_nil
  | .one _ => rn_one hr
  | .seq a b => rn_seq hr (rn_cd hr a) (rn_cd hr b)
  | .ite t e _ => rn_ite hr (rn_cd hr t) (rn_cd hr e)
  | .rep _ b => rn_rep hr (rn_cd hr b)
end

end Go.Proofs.YtidhiaaicmfabaaGreatDoor

/- The code of expressions (seat .ZD alone). -/
namespace Go.Proofs.YtidhiaaicmfabaaGreatDoor
open Go.RowKit Go.Proofs Go.Deep

/-- The code of an expression, with its ways. -/
def cdE (vs : List Vd) : Ex → Cd
  | .lit n => .one (numB n)
  | .tru b => .one (numB (if b then 1 else 0))
  | .plc s => .one [2, firstV vs 0 s]
  | .idx s i => .seq (cdE vs i) (.one [4, firstV vs 0 s, lenOf vs s])
  | .bin o l r => .seq (.seq (.seq (cdE vs l) (cdE vs r)) (.one [(opI o : Int)])) (if kE vs (.bin o l r) = 1 then .one [16] else .nil)
  | .neg e => .seq (cdE vs e) (.one [13])
  | .sho e => .seq (cdE vs e) (.one [16])
  | .dly t a s => .seq (.seq (cdE vs a) (cdE vs s)) (.one [21, firstV vs 0 t])
theorem flat_cdE (vs : List Vd) : ∀ (e : Ex) (p : Nat), (flat p (cdE vs e)).flatten = codeE vs e
  | .lit _, _ => by simp [cdE, flat, codeE]
  | .tru _, _ => by simp [cdE, flat, codeE]
  | .plc _, _ => by simp [cdE, flat, codeE]
  | .idx s i, p => by simp [cdE, flat, codeE, flat_cdE vs i]
  | .bin o l r, p => by
    simp only [cdE, flat, codeE, List.flatten_append, flat_cdE vs l, flat_cdE vs r]
    by_cases h : kE vs (.bin o l r) = 1
    · simp [h, flat]
    · simp [h, flat]
  | .neg e, p => by simp [cdE, flat, codeE, flat_cdE vs e]
  | .sho e, p => by simp [cdE, flat, codeE, flat_cdE vs e]
  | .dly t a s, p => by simp [cdE, flat, codeE, flat_cdE vs a, flat_cdE vs s]
theorem sz_cdE (vs : List Vd) (e : Ex) : szC (cdE vs e) = (codeE vs e).length := by rw [← flat_cdE vs e 0, flat_sz]
theorem fd_cdE (vs : List Vd) : ∀ e : Ex, fdC (cdE vs e) = 0
  | .lit _ => rfl
  | .tru _ => rfl
  | .plc _ => rfl
  | .idx s i => by simp [cdE, fdC, fd_cdE vs i]
  | .bin o l r => by
    simp only [cdE, fdC, fd_cdE vs l, fd_cdE vs r]
    by_cases h : kE vs (.bin o l r) = 1
    · simp [h, fdC]
    · simp [h, fdC]
  | .neg e => by simp [cdE, fdC, fd_cdE vs e]
  | .sho e => by simp [cdE, fdC, fd_cdE vs e]
  | .dly t a s => by simp [cdE, fdC, fd_cdE vs a, fd_cdE vs s]
def byt (n : Int) : Prop := 0 ≤ n ∧ n ≤ 255
/-- The cells that an expression names are such as it may name. -/
def okE (rl kd : Nat → Int) (nC : Nat) (vs : List Vd) : Ex → Prop
  | .lit _ => True
  | .tru _ => True
  | .plc s => byt (firstV vs 0 s) ∧ (firstV vs 0 s).toNat + 1 ≤ nC
  | .idx s i => okE rl kd nC vs i ∧ byt (firstV vs 0 s) ∧ byt (lenOf vs s) ∧ CellOk rl kd nC 4 (firstV vs 0 s).toNat (lenOf vs s).toNat
  | .bin o l r => o < 9 ∧ okE rl kd nC vs l ∧ okE rl kd nC vs r
  | .neg e => okE rl kd nC vs e
  | .sho e => okE rl kd nC vs e
  | .dly t a s => okE rl kd nC vs a ∧ okE rl kd nC vs s ∧ byt (firstV vs 0 t) ∧ CellOk rl kd nC 21 (firstV vs 0 t).toNat 1
theorem opI_in : ∀ o, o < 9 → opI o = 6 ∨ opI o = 7 ∨ opI o = 8 ∨ opI o = 9 ∨ opI o = 10 ∨ opI o = 11 ∨ opI o = 12 ∨ opI o = 14 ∨ opI o = 15 := by decide
theorem numB_in (n : Int) : ∀ m ∈ numB n, 0 ≤ m ∧ m ≤ 255 := by
  intro m hm
  simp only [numB, List.mem_cons, List.not_mem_nil, or_false] at hm
  omega
theorem pl_num (n : Int) : plain (numB n) := ⟨⟨by simp [numB], rfl, numB_in n⟩, fun h => (by cases h), fun h => (by cases h), fun h => (by cases h), fun h => (by cases h), fun h => (by cases h)⟩
theorem pl_two {o a : Int} (ho : o = 2 ∨ o = 3 ∨ o = 21) (ha : byt a) : plain [o, a] := by
  refine ⟨⟨by simp, by rcases ho with rfl | rfl | rfl <;> rfl, fun n hn => ?_⟩, ?_⟩
  · simp only [List.mem_cons, List.not_mem_nil, or_false] at hn
    unfold byt at ha
    omega
  · have e : oc [o, a] = o.toNat := rfl
    rw [e]
    omega
theorem pl_three {o a b : Int} (ho : o = 4 ∨ o = 5) (ha : byt a) (hb : byt b) : plain [o, a, b] := by
  refine ⟨⟨by simp, by rcases ho with rfl | rfl <;> rfl, fun n hn => ?_⟩, ?_⟩
  · simp only [List.mem_cons, List.not_mem_nil, or_false] at hn
    unfold byt at ha hb
    omega
  · have e : oc [o, a, b] = o.toNat := rfl
    rw [e]
    omega
theorem pl_one {o : Nat} (ho : (6 ≤ o ∧ o ≤ 16)) : plain [(o : Int)] := by
  have e : oc [(o : Int)] = o := by simp [oc]
  refine ⟨⟨by simp, ?_, fun n hn => ?_⟩, ?_⟩
  · show osz (oc [(o : Int)]) = 1
    rw [e]
    unfold osz
    rw [if_neg (by omega), if_neg (by omega), if_neg (by omega), if_neg (by omega)]
  · simp only [List.mem_cons, List.not_mem_nil, or_false] at hn
    omega
  · rw [e]
    omega
theorem pl_op {o : Nat} (ho : o < 9) : plain [(opI o : Int)] := pl_one (by have := opI_in o ho; omega)
theorem pl_16 : plain [16] := pl_one (o := 16) (by omega)
theorem pl_13 : plain [13] := pl_one (o := 13) (by omega)
theorem wf_cdE {rl kd : Nat → Int} {nC : Nat} {vs : List Vd} : ∀ e : Ex, okE rl kd nC vs e → wfC (cdE vs e)
  | .lit n, _ => pl_num n
  | .tru _, _ => pl_num _
  | .plc s, h => pl_two (by omega) h.1
  | .idx s i, h => ⟨wf_cdE i h.1, pl_three (by omega) h.2.1 h.2.2.1⟩
  | .bin o l r, h => ⟨⟨⟨wf_cdE l h.2.1, wf_cdE r h.2.2⟩, pl_op h.1⟩, by
    by_cases hk : kE vs (.bin o l r) = 1
    · rw [if_pos hk]; exact pl_16
    · rw [if_neg hk]; trivial⟩
  | .neg e, h => ⟨wf_cdE e h, pl_13⟩
  | .sho e, h => ⟨wf_cdE e h, pl_16⟩
  | .dly t a s, h => ⟨⟨wf_cdE a h.1, wf_cdE s h.2.1⟩, pl_two (by omega) h.2.2.1⟩
theorem ins_free {rl kd : Nat → Int} {nC o c : Nat} {N : Int} (h : o = 1 ∨ (6 ≤ o ∧ o ≤ 16)) : insOk rl kd nC o c N := ⟨fun h => by omega, fun h => by omega⟩
theorem cN2 {o a : Int} (ho : o = 2 ∨ o = 3 ∨ o = 21) (ha : byt a) : oc [o, a] = o.toNat ∧ insC (bys [o, a]) 0 = a.toNat ∧ insN (bys [o, a]) 0 = 1 ∧ vArg (bys [o, a]) 0 = a := by
  have h0 : bt (bys [o, a]) 0 = o.toNat := bys_bt (n := o) rfl (by omega)
  have h1 : bt (bys [o, a]) (0 + 1) = a.toNat := bys_bt (n := a) rfl ha
  unfold insC insN vArg byt at *
  rw [h0, h1]
  refine ⟨rfl, ?_, ?_, ?_⟩
  · rcases ho with rfl | rfl | rfl <;> rfl
  · rcases ho with rfl | rfl | rfl <;> rfl
  · rcases ho with rfl | rfl | rfl <;> (show ((a.toNat : Nat) : Int) = a) <;> omega
theorem cN3 {o a b : Int} (ho : o = 4 ∨ o = 5) (ha : byt a) (hb : byt b) : oc [o, a, b] = o.toNat ∧ insC (bys [o, a, b]) 0 = a.toNat ∧ insN (bys [o, a, b]) 0 = b ∧ vArg (bys [o, a, b]) 0 = a ∧ vCnt (bys [o, a, b]) 0 = b := by
  have h0 : bt (bys [o, a, b]) 0 = o.toNat := bys_bt (n := o) rfl (by omega)
  have h1 : bt (bys [o, a, b]) (0 + 1) = a.toNat := bys_bt (n := a) rfl ha
  have h2 : bt (bys [o, a, b]) (0 + 2) = b.toNat := bys_bt (n := b) rfl hb
  unfold insC insN vArg vCnt byt at *
  rw [h0, h1, h2]
  refine ⟨rfl, ?_, ?_, ?_, ?_⟩
  · rcases ho with rfl | rfl <;> rfl
  · rcases ho with rfl | rfl <;> (show ((b.toNat : Nat) : Int) = b) <;> omega
  · rcases ho with rfl | rfl <;> (show ((a.toNat : Nat) : Int) = a) <;> omega
  · rcases ho with rfl | rfl <;> (show ((b.toNat : Nat) : Int) = b) <;> omega
theorem ins_get {rl kd : Nat → Int} {nC : Nat} {a : Int} (ha : byt a) (h : a.toNat + 1 ≤ nC) : insOk rl kd nC (oc [2, a]) (insC (bys [2, a]) 0) (insN (bys [2, a]) 0) := by
  obtain ⟨e1, e2, e3, _⟩ := cN2 (o := 2) (by omega) ha
  rw [e1, e2, e3]
  refine ⟨fun _ => ⟨by decide, h, fun i hi => ?_, fun h => by omega, fun h => by omega⟩, fun h => by omega⟩
  have : i = 0 := by simp at hi; omega
  subst this; exact ⟨rfl, rfl⟩
theorem ins_cell {rl kd : Nat → Int} {nC : Nat} {o a : Int} (ho : o = 2 ∨ o = 3 ∨ o = 21) (ha : byt a) (h : CellOk rl kd nC o.toNat a.toNat 1) : insOk rl kd nC (oc [o, a]) (insC (bys [o, a]) 0) (insN (bys [o, a]) 0) := by
  obtain ⟨e1, e2, e3, _⟩ := cN2 ho ha
  rw [e1, e2, e3]
  exact ⟨fun _ => h, fun h => by omega⟩
theorem ins_cells {rl kd : Nat → Int} {nC : Nat} {o a b : Int} (ho : o = 4 ∨ o = 5) (ha : byt a) (hb : byt b) (h : CellOk rl kd nC o.toNat a.toNat b.toNat) : insOk rl kd nC (oc [o, a, b]) (insC (bys [o, a, b]) 0) (insN (bys [o, a, b]) 0) := by
  obtain ⟨e1, e2, e3, _⟩ := cN3 ho ha hb
  rw [e1, e2, e3]
  exact ⟨fun _ => h, fun h => by omega⟩
theorem cel_cdE {rl kd : Nat → Int} {nC : Nat} {vs : List Vd} : ∀ e : Ex, okE rl kd nC vs e → celC rl kd nC (cdE vs e)
  | .lit n, _ => ins_free (.inl rfl)
  | .tru _, _ => ins_free (.inl rfl)
  | .plc s, h => ins_get h.1 h.2
  | .idx s i, h => ⟨cel_cdE i h.1, ins_cells (by omega) h.2.1 h.2.2.1 h.2.2.2⟩
  | .bin o l r, h => ⟨⟨⟨cel_cdE l h.2.1, cel_cdE r h.2.2⟩, ins_free (.inr (by
      have e : oc [(opI o : Int)] = opI o := by simp [oc]
      rw [e]
      have := opI_in o h.1
      omega))⟩, by
    by_cases hk : kE vs (.bin o l r) = 1
    · rw [if_pos hk]; exact ins_free (.inr (by decide))
    · rw [if_neg hk]; trivial⟩
  | .neg e, h => ⟨cel_cdE e h, ins_free (.inr (by decide))⟩
  | .sho e, h => ⟨cel_cdE e h, ins_free (.inr (by decide))⟩
  | .dly t a s, h => ⟨⟨cel_cdE a h.1, cel_cdE s h.2.1⟩, ins_cell (by omega) h.2.2.1 h.2.2.2⟩
theorem ht_seq {a b : Cd} {h m k : Nat} (h1 : htC a h = some m) (h2 : htC b m = some k) : htC (.seq a b) h = some k := by simp [htC, h1, h2]
theorem ht_one {x : List Int} {h k : Nat} (o : Nat) (ho : oc x = o) (h1 : popsOf o ≤ h) (h2 : h - popsOf o + pushesOf o = k) (h3 : k ≤ 32) : htC (.one x) h = some k := by
  simp only [htC, ho]
  rw [h2, if_pos ⟨h1, h3⟩]
theorem pops_op {o : Nat} (ho : o < 9) : popsOf (opI o) = 2 ∧ pushesOf (opI o) = 1 := by
  have : ∀ o, o < 9 → popsOf (opI o) = 2 ∧ pushesOf (opI o) = 1 := by decide
  exact this o ho
theorem ht_cdE {rl kd : Nat → Int} {nC : Nat} {vs : List Vd} : ∀ (e : Ex) (h : Nat), okE rl kd nC vs e → (h : Int) + depE e + 1 ≤ 32 → 0 ≤ depE e ∧ htC (cdE vs e) h = some (h + 1)
  | .lit n, h, _, hd => ⟨by simp [depE], ht_one 1 rfl (Nat.zero_le _) rfl (by simp [depE] at hd; omega)⟩
  | .tru _, h, _, hd => ⟨by simp [depE], ht_one 1 rfl (Nat.zero_le _) rfl (by simp [depE] at hd; omega)⟩
  | .plc s, h, _, hd => ⟨by simp [depE], ht_one 2 rfl (Nat.zero_le _) rfl (by simp [depE] at hd; omega)⟩
  | .idx s i, h, ho, hd => by
    simp only [depE] at hd
    obtain ⟨d1, h1⟩ := ht_cdE i h ho.1 (by omega)
    exact ⟨by simp only [depE]; omega, ht_seq h1 (ht_one 4 rfl (by show 1 ≤ h + 1; omega) (by show h + 1 - 1 + 1 = h + 1; omega) (by omega))⟩
  | .bin o l r, h, ho, hd => by
    simp only [depE] at hd
    obtain ⟨d1, h1⟩ := ht_cdE l h ho.2.1 (by omega)
    obtain ⟨d2, h2⟩ := ht_cdE r (h + 1) ho.2.2 (by omega)
    have pp := pops_op ho.1
    refine ⟨by simp only [depE]; omega, ht_seq (ht_seq (ht_seq h1 h2) (ht_one (opI o) (by simp [oc]) (by rw [pp.1]; omega) (by rw [pp.1, pp.2]; omega) (k := h + 1) (by omega))) ?_⟩
    by_cases hk : kE vs (.bin o l r) = 1
    · rw [if_pos hk]; exact ht_one 16 rfl (by show 1 ≤ h + 1; omega) (by show h + 1 - 1 + 1 = h + 1; omega) (by omega)
    · rw [if_neg hk]; rfl
  | .neg e, h, ho, hd => by
    simp only [depE] at hd
    obtain ⟨d1, h1⟩ := ht_cdE e h ho (by omega)
    exact ⟨by simp only [depE]; omega, ht_seq h1 (ht_one 13 rfl (by show 1 ≤ h + 1; omega) (by show h + 1 - 1 + 1 = h + 1; omega) (by omega))⟩
  | .sho e, h, ho, hd => by
    simp only [depE] at hd
    obtain ⟨d1, h1⟩ := ht_cdE e h ho (by omega)
    exact ⟨by simp only [depE]; omega, ht_seq h1 (ht_one 16 rfl (by show 1 ≤ h + 1; omega) (by show h + 1 - 1 + 1 = h + 1; omega) (by omega))⟩
  | .dly t a s, h, ho, hd => by
    simp only [depE] at hd
    obtain ⟨d1, h1⟩ := ht_cdE a h ho.1 (by omega)
    obtain ⟨d2, h2⟩ := ht_cdE s (h + 1) ho.2.1 (by omega)
    exact ⟨by simp only [depE]; omega, ht_seq (ht_seq h1 h2) (ht_one 21 rfl (by show 2 ≤ h + 1 + 1; omega) (by show h + 1 + 1 - 2 + 1 = h + 1; omega) (by omega))⟩
theorem bnd_cdE (vs : List Vd) : ∀ e : Ex, 1 ≤ cE e ∧ (bndC (cdE vs e) : Int) + 1 ≤ 2 * cE e
  | .lit _ => by simp [cdE, bndC, cE]
  | .tru _ => by simp [cdE, bndC, cE]
  | .plc _ => by simp [cdE, bndC, cE]
  | .idx s i => by have := bnd_cdE vs i; simp only [cdE, bndC, cE]; omega
  | .bin o l r => by
    have h1 := bnd_cdE vs l
    have h2 := bnd_cdE vs r
    by_cases hk : kE vs (.bin o l r) = 1
    · simp only [cdE, bndC, cE, if_pos hk]; omega
    · simp only [cdE, bndC, cE, if_neg hk]; omega
  | .neg e => by have := bnd_cdE vs e; simp only [cdE, bndC, cE]; omega
  | .sho e => by have := bnd_cdE vs e; simp only [cdE, bndC, cE]; omega
  | .dly t a s => by
    have h1 := bnd_cdE vs a
    have h2 := bnd_cdE vs s
    simp only [cdE, bndC, cE]; omega

end Go.Proofs.YtidhiaaicmfabaaGreatDoor

/- What the code of an expression gives (seat .ZD alone). -/
namespace Go.Proofs.YtidhiaaicmfabaaGreatDoor
open Go.RowKit Go.Proofs Go.Deep

abbrev Ev := Except Int ((Nat → Int) × Int)
def andV (r : Ev) (f : (Nat → Int) → Int → Ev) : Ev := match r with | .ok q => f q.1 q.2 | .error e => .error e
/-- What an operator gives. -/
def binV (o : Nat) (a b : Int) : Except Int Int :=
  match o with
  | 0 => .ok (wrap32 (a + b)) | 1 => .ok (wrap32 (a - b)) | 2 => .ok (wrap32 (a * b))
  | 3 => if b = 0 then .error 4 else .ok (wrap32 (a.tdiv b)) | 4 => if b = 0 then .error 4 else .ok (a.tmod b)
  | 5 => .ok (tr (a == b)) | 6 => .ok (tr (decide (a < b))) | 7 => .ok (tr (a != 0 && b != 0)) | _ => .ok (tr (a != 0 || b != 0))
/-- What an expression is, and the cells behind it. -/
def evE (vs : List Vd) (dl : Int) : Ex → (Nat → Int) → Ev
  | .lit n, C => .ok (C, wrap32 n)
  | .tru b, C => .ok (C, if b then 1 else 0)
  | .plc s, C => .ok (C, C (firstV vs 0 s).toNat)
  | .idx s i, C => andV (evE vs dl i C) (fun C a => if 0 ≤ a ∧ a < lenOf vs s then .ok (C, C (firstV vs 0 s + a).toNat) else .error 5)
  | .bin o l r, C => andV (evE vs dl l C) (fun C a => andV (evE vs dl r C) (fun C b => match binV o a b with | .ok v => .ok (C, if kE vs (.bin o l r) = 1 then IntKind.i16.wrap v else v) | .error e => .error e))
  | .neg e, C => andV (evE vs dl e C) (fun C a => .ok (C, tr (a == 0)))
  | .sho e, C => andV (evE vs dl e C) (fun C a => .ok (C, IntKind.i16.wrap a))
  | .dly t a s, C => andV (evE vs dl a C) (fun C a => andV (evE vs dl s C) (fun C b => if a = 0 then .ok (upd C (firstV vs 0 t).toNat 0, 0) else .ok (upd C (firstV vs 0 t).toNat (min (C (firstV vs 0 t).toNat + dl) 2147483647), tr (decide (b ≤ min (C (firstV vs 0 t).toNat + dl) 2147483647)))))
def onS (S : List Int) (r : Ev) : Er := match r with | .ok q => .ok (q.1, q.2 :: S) | .error e => .error e
theorem s32_num (n : Int) : vArg (bys (numB n)) 0 = wrap32 n := by
  have hb := numB_in n
  have h0 : bt (bys (numB n)) 0 = 1 := bys_bt (n := 1) rfl (by omega)
  have h1 : bt (bys (numB n)) (0 + 1) = (n / 16777216 % 256).toNat := bys_bt (n := n / 16777216 % 256) rfl (by omega)
  have h2 : bt (bys (numB n)) (0 + 1 + 1) = (n / 65536 % 256).toNat := bys_bt (n := n / 65536 % 256) rfl (by omega)
  have h3 : bt (bys (numB n)) (0 + 1 + 2) = (n / 256 % 256).toNat := bys_bt (n := n / 256 % 256) rfl (by omega)
  have h4 : bt (bys (numB n)) (0 + 1 + 3) = (n % 256).toNat := bys_bt (n := n % 256) rfl (by omega)
  unfold vArg s32 b32 wrap32
  rw [h0, if_pos rfl, h1, h2, h3, h4]
  split <;> omega
theorem w32_w32 (n : Int) : wrap32 (wrap32 n) = wrap32 n := by unfold wrap32; omega
section
variable {kd : Nat → Nat} {dl : Int} {C : Nat → Int} {S : List Int}
theorem ex_num (n : Int) : ex1 kd dl (numB n) C S = .ok (C, wrap32 n :: S) := by
  unfold ex1
  rw [s32_num]
  show (if (0 : Int) = 0 then _ else _) = _
  rw [if_pos rfl]
  show Except.ok (C, wrap32 (wrap32 n) :: S) = _
  rw [w32_w32]
theorem ex_get {a : Int} (ha : byt a) : ex1 kd dl [2, a] C S = .ok (C, C a.toNat :: S) := by
  unfold ex1
  rw [(cN2 (o := 2) (by omega) ha).2.2.2]
  rfl
theorem ex_getx {a b i : Int} (ha : byt a) (hb : byt b) : ex1 kd dl [4, a, b] C (i :: S) = if 0 ≤ i ∧ i < b then .ok (C, C (a + i).toNat :: S) else .error 5 := by
  obtain ⟨_, _, _, e1, e2⟩ := cN3 (o := 4) (by omega) ha hb
  unfold ex1
  rw [e1, e2]
  by_cases h : 0 ≤ i ∧ i < b
  · rw [if_pos h]
    simp [oc, doesV, popsOf, pushesOf, popA, pushS, h]
  · rw [if_neg h]
    simp [oc, doesV, popsOf, popA, h]
theorem ex_13 {a : Int} : ex1 kd dl [13] C (a :: S) = .ok (C, tr (a == 0) :: S) := by
  simp [ex1, oc, doesV, popsOf, pushesOf, popA, pushS]
theorem ex_16 {a : Int} : ex1 kd dl [16] C (a :: S) = .ok (C, IntKind.i16.wrap a :: S) := by
  simp [ex1, oc, doesV, popsOf, pushesOf, popA, pushS]
theorem ex_set {a x : Int} (ha : byt a) : ex1 kd dl [3, a] C (x :: S) = .ok (upd C a.toNat (layK (kd a.toNat) x), S) := by
  unfold ex1
  rw [(cN2 (o := 3) (by omega) ha).2.2.2]
  simp [oc, doesV, popsOf, pushesOf, popA, pushS]
theorem ex_ton {t a b : Int} (ht : byt t) : ex1 kd dl [21, t] C (b :: a :: S) = if a = 0 then .ok (upd C t.toNat 0, 0 :: S) else .ok (upd C t.toNat (min (C t.toNat + dl) 2147483647), tr (decide (b ≤ min (C t.toNat + dl) 2147483647)) :: S) := by
  unfold ex1
  rw [(cN2 (o := 21) (by omega) ht).2.2.2]
  by_cases h : a = 0
  · rw [if_pos h]
    simp [oc, doesV, popsOf, pushesOf, popA, pushS, h]
  · rw [if_neg h]
    simp [oc, doesV, popsOf, pushesOf, popA, popB, pushS, h]
theorem ex_op {o : Nat} (ho : o < 9) {a b : Int} : ex1 kd dl [(opI o : Int)] C (b :: a :: S) = match binV o a b with | .ok v => .ok (C, v :: S) | .error e => .error e := by
  have h2 : o = 0 ∨ o = 1 ∨ o = 2 ∨ o = 3 ∨ o = 4 ∨ o = 5 ∨ o = 6 ∨ o = 7 ∨ o = 8 := by omega
  rcases h2 with rfl | rfl | rfl | rfl | rfl | rfl | rfl | rfl | rfl
  · simp [ex1, oc, opI, doesV, popsOf, pushesOf, popA, popB, pushS, binV]
  · simp [ex1, oc, opI, doesV, popsOf, pushesOf, popA, popB, pushS, binV]
  · simp [ex1, oc, opI, doesV, popsOf, pushesOf, popA, popB, pushS, binV]
  · by_cases h : b = 0
    · simp [ex1, oc, opI, doesV, popsOf, popB, binV, h]
    · simp [ex1, oc, opI, doesV, popsOf, pushesOf, popA, popB, pushS, binV, h]
  · by_cases h : b = 0
    · simp [ex1, oc, opI, doesV, popsOf, popB, binV, h]
    · simp [ex1, oc, opI, doesV, popsOf, pushesOf, popA, popB, pushS, binV, h]
  · simp [ex1, oc, opI, doesV, popsOf, pushesOf, popA, popB, pushS, binV]
  · simp [ex1, oc, opI, doesV, popsOf, pushesOf, popA, popB, pushS, binV]
  · simp [ex1, oc, opI, doesV, popsOf, pushesOf, popA, popB, pushS, binV]
  · simp [ex1, oc, opI, doesV, popsOf, pushesOf, popA, popB, pushS, binV]
end
/-- The code of an expression gives what the expression is. -/
theorem ex_E {rl kd' : Nat → Int} {nC : Nat} {vs : List Vd} {kd : Nat → Nat} {dl : Int} : ∀ (e : Ex) (C : Nat → Int) (S : List Int), okE rl kd' nC vs e → exC kd dl (cdE vs e) C S = onS S (evE vs dl e C)
  | .lit n, C, S, _ => ex_num n
  | .tru b, C, S, _ => by
    simp only [cdE, exC, ex_num, evE, onS]
    cases b <;> simp [wrap32]
  | .plc s, C, S, h => ex_get h.1
  | .idx s i, C, S, h => by
    simp only [cdE, exC, evE, ex_E i C S h.1]
    cases evE vs dl i C with
    | error e => rfl
    | ok q =>
      simp only [onS, thenE, andV, ex_getx h.2.1 h.2.2.1]
      by_cases hh : 0 ≤ q.2 ∧ q.2 < lenOf vs s
      · rw [if_pos hh, if_pos hh]
      · rw [if_neg hh, if_neg hh]
  | .bin o l r, C, S, h => by
    simp only [cdE, exC, evE, ex_E l C S h.2.1]
    cases evE vs dl l C with
    | error e => rfl
    | ok q =>
      simp only [onS, thenE, andV, ex_E r q.1 (q.2 :: S) h.2.2]
      cases evE vs dl r q.1 with
      | error e => rfl
      | ok q2 =>
        simp only [ex_op h.1]
        cases binV o q.2 q2.2 with
        | error e => rfl
        | ok v =>
          simp only
          by_cases hk : kE vs (.bin o l r) = 1
          · rw [if_pos hk, if_pos hk]; exact ex_16
          · rw [if_neg hk, if_neg hk]; rfl
  | .neg e, C, S, h => by
    simp only [cdE, exC, evE, ex_E e C S h]
    cases evE vs dl e C with
    | error e => rfl
    | ok q => exact ex_13
  | .sho e, C, S, h => by
    simp only [cdE, exC, evE, ex_E e C S h]
    cases evE vs dl e C with
    | error e => rfl
    | ok q => exact ex_16
  | .dly t a s, C, S, h => by
    simp only [cdE, exC, evE, ex_E a C S h.1]
    cases evE vs dl a C with
    | error e => rfl
    | ok q =>
      simp only [onS, thenE, andV, ex_E s q.1 (q.2 :: S) h.2.1]
      cases evE vs dl s q.1 with
      | error e => rfl
      | ok q2 =>
        simp only [ex_ton h.2.2.1]
        by_cases hk : q.2 = 0
        · rw [if_pos hk, if_pos hk]
        · rw [if_neg hk, if_neg hk]

end Go.Proofs.YtidhiaaicmfabaaGreatDoor

/- The machine of such code, its scans (seat .ZD alone). -/
namespace Go.Proofs.YtidhiaaicmfabaaGreatDoor
open Go.RowKit Go.Proofs Go.Deep

/-- The machine of such code. -/
def cMd (cs : List Int) (c : Cd) (cap bs bx : Nat) (To' : Nat → Int) : Md := mdFull (opL (bys (prW c).flatten) (posW 0 (prW c))) (atL (posW 0 (prW c))) (argL (bys (prW c).flatten) (posW 0 (prW c))) (cntL (bys (prW c).flatten) (posW 0 (prW c))) (fun i => bt (imgG cs (prW c).flatten) (7 + i) / 3) (fun i => bt (imgG cs (prW c).flatten) (7 + i) % 3) cs.length (nI c + 1) cap bs bx To' ((bndC c + 1 : Nat) : Int)
/-- What of a machine does not turn. -/
def cKW (cs : List Int) (c : Cd) (cap bs bx : Nat) (To' : Nat → Int) : Prop := ∃ To H L, (∀ w0 br bc base nm fv d, KW (mkK (cMd cs c cap bs bx To') w0 br bc base nm fv d) To (cMd cs c cap bs bx To').bd H L) ∧ To = toL (atL (posW 0 (prW c))) (opL (bys (prW c).flatten) (posW 0 (prW c))) (nL (bys (prW c).flatten) (posW 0 (prW c))) (nI c + 1)
/-- Code and cells that fit. -/
structure CdOk (cs : List Int) (c : Cd) : Prop where
  nc : cs.length ≤ 100
  ci : ∀ n ∈ cs, 0 ≤ n ∧ n ≤ 8
  wf : wfC c
  sz : szC c ≤ 7999
  fd : fdC c ≤ 10
  ht : htC c 0 = some 0
  bd : bndC c ≤ 199999
  cel : celC (rlOf (imgG cs (prW c).flatten)) (kdOf (imgG cs (prW c).flatten)) cs.length c
set_option maxRecDepth 100000 in
set_option maxHeartbeats 2000000 in
/-- The machine of a text that is compiled to such code. -/
theorem cmachine (w : World) {T : ByteArray} {cs : List Int} {c : Cd} (ok : CdOk cs c) (hcomp : ∀ (R : Ending → World → Prop), (∀ w', Below w.heap.size w w' → R (.returned (.tuple #[.string (imgG cs (prW c).flatten), .int .i64 0])) w') → Calls Tryz.prog 12 #[.string T] w R) (R : Ending → World → Prop)
    (fin : ∀ cap bs bx bc To' w', Below w.heap.size w w' → w.heap.size ≤ bx → w.heap.size ≤ bs → w.heap.size ≤ bc → Live (cMd cs c cap bs bx To') bc (fun _ => 0) 0 w' → cKW cs c cap bs bx To' → R (.returned (.pointer (some ⟨bx, 0, none⟩))) w') :
    Calls Tryz.prog 35 #[.string T] w R := by
  replace fin := hd fin
  obtain ⟨io, ip⟩ := cd_imgOk ok.nc ok.ci ok.wf ok.sz ok.fd ok.ht (by have := ok.bd; omega) ok.cel
  have F := img_facts cs (prW c).flatten ok.nc ok.ci (by rw [prW_sz]; have := ok.sz; omega)
  have hbd := ok.bd
  have hsz : (imgG cs (prW c).flatten).size ≤ maxLen := by
    rw [F.size, prW_sz]
    have := ok.sz
    have := ok.nc
    unfold maxLen
    omega
  go_enter Tryz.func35, Tryz.ntmps35
  go_wp2_with (fail)
  refine hcomp _ ?_
  intro w1 hb1
  generalize hB : imgG cs (prW c).flatten = B at *
  have hz1 := hb1.size
  replace hb1 := hd hb1
  go_wp2_with (fail)
  refine load_full _ B hsz _ ?_ ?_ ?_
  · intro h; exact absurd io (h _)
  · intro bd h hl
    have := img_unique io h
    omega
  · intro bd l h hle hl cap bs bx bc To' H L w2 hb2 hbx hbs hbc hlive hkw
    have e := img_unique io h
    subst e
    rw [ip] at hl
    injection hl with hl
    subst hl
    rw [F.code, F.nc, posW_len, prW_len] at hlive hkw
    have hlive : Live (cMd cs c cap bs bx To') bc (fun _ => 0) 0 w2 := by unfold cMd; rw [hB]; exact hlive
    have hkw : cKW cs c cap bs bx To' := by unfold cKW cMd; rw [hB]; exact ⟨_, H, L, hkw, rfl⟩
    have hB2 := hd (hb1.out.trans (hb2.mono hz1))
    replace hlive := hd hlive
    replace hkw := hd hkw
    clear h hb2
    go_wp2
    exact cl1 (fin.out cap bs bx bc To' w2 hB2.out (by omega) (by omega) (by omega) hlive.out hkw.out) rfl
theorem c_rn {cs : List Int} {c : Cd} {cap bs bx : Nat} {To' : Nat → Int} (ok : CdOk cs c) (hk : cKW cs c cap bs bx To') (w : World) (d : Int) : Rn (prW c) (mkK (cMd cs c cap bs bx To') w 0 0 0 nmT (fun _ => undef) d) (nI c + 1) := by
  obtain ⟨To, H, L, kw, hTo⟩ := hk
  have k := kw w 0 0 0 nmT (fun _ => undef) d
  have hok := prW_ok ok.wf
  have hz := ok.sz
  have wk := prW_wk ok.wf (by omega)
  rw [← hTo] at wk
  have hop : ∀ k x, (prW c)[k]? = some x → (mkK (cMd cs c cap bs bx To') w 0 0 0 nmT (fun _ => undef) d).op k = oc x := fun k x hx => (W_at hok hx).2.1
  have hn : (mkK (cMd cs c cap bs bx To') w 0 0 0 nmT (fun _ => undef) d).n = nI c + 1 := rfl
  refine ⟨hop, fun k x hx => (W_at hok hx).2.2.1, fun k x hx => (W_at hok hx).2.2.2.1, by rw [prW_sz]; omega, prW_len c, fun i t x hx ht ho ha => ?_, fun i f s hi ho hs => ?_⟩
  · have hi : i < nI c + 1 := by rw [← prW_len c]; exact (List.getElem?_eq_some_iff.1 hx).1
    have ho' := ho
    rw [← hop i x hx] at ho'
    rw [k.to_ i hi ho']
    have hN : nL (bys (prW c).flatten) (posW 0 (prW c)) i = (((prW c).take t).flatten.length : Int) := by
      rw [(W_at hok hx).2.2.2.2.2, ← ha]
      have hb := oc_bt (hok x (List.mem_of_getElem? hx))
      unfold insN vArg
      rw [hb]
      rcases ho with ho | ho <;> (rw [ho]; rfl)
    rw [wk.hTo i t hi ht (by rw [show opL (bys (prW c).flatten) (posW 0 (prW c)) i = oc x from hop i x hx]; exact ho) hN]
  · show inOf _ i = _
    unfold inOf
    rw [show stk (opL (bys (prW c).flatten) (posW 0 (prW c))) i = some (f :: s) from hs]
/-- A run of such code. -/
theorem c_run {cs : List Int} {c : Cd} {cap bs bx : Nat} {To' : Nat → Int} (ok : CdOk cs c) (hk : cKW cs c cap bs bx To') (w : World) (d : Int) (C : Nat → Int) :
    (∀ C' S', exC (cMd cs c cap bs bx To').kd d c C [] = .ok (C', S') → ∃ nx dn, runM (cMd cs c cap bs bx To') w d C = (⟨C', [], nx, true⟩, dn, 0)) ∧
    (∀ e, exC (cMd cs c cap bs bx To').kd d c C [] = .error e → e ≠ 0 ∧ (runM (cMd cs c cap bs bx To') w d C).2.2 = e) := by
  have rn := c_rn ok hk w d
  have hf := ok.fd
  have hbd := ok.bd
  have hr := rn_cd rn c 0 0 [] C [] [] 0 ok.wf (prW_sg c) (by omega) rfl (by simpa using hf)
  refine ⟨fun C' S' h => ?_, fun e h => ?_⟩
  · obtain ⟨m, m1, m2⟩ := hr.1 C' S' h
    have oe : (mkK (cMd cs c cap bs bx To') w 0 0 0 nmT (fun _ => undef) d).op (0 + nI c) = 0 := by rw [Nat.zero_add]; exact rn.hop _ _ (prW_end c)
    have m3 := m2 ((299998 - m) + 1 + 1)
    rw [show m + (299998 - m + 1 + 1) = 300000 by omega] at m3
    unfold runM
    refine ⟨((0 + nI c + 1 : Nat) : Int), 0 + (m : Int) + 1, m3.trans ?_⟩
    rw [run_stepZ rfl (st_endZ oe), run_overZ rfl]
  · obtain ⟨h0, m, q', m1, m2⟩ := hr.2 e h
    have m3 := m2 (300000 - m)
    rw [show m + (300000 - m) = 300000 by omega] at m3
    refine ⟨h0, ?_⟩
    unfold runM
    rw [show runK (mkK (cMd cs c cap bs bx To') w 0 0 0 nmT (fun _ => undef) d) 300000 ⟨C, [], 0, false⟩ [] 0 = _ from m3]
set_option maxRecDepth 100000 in
set_option maxHeartbeats 2000000 in
/-- A scan of such code, told. -/
theorem ctold (B : Nat) (w : World) {cs : List Int} {c : Cd} {cap bs bx bc : Nat} {To' : Nat → Int} {C C' : Nat → Int} {S' : List Int} {dn : Int} (ok : CdOk cs c) (h : Live (cMd cs c cap bs bx To') bc C dn w) (hk : cKW cs c cap bs bx To') (hB1 : B ≤ bx) (hB2 : B ≤ bc) (hB3 : B ≤ w.heap.size)
    {v : Value} {l : List Int} {d : Int} (hv : InpAt bc w v l) (hfit : fitsL (cMd cs c cap bs bx To').rl (cMd cs c cap bs bx To').kd (cMd cs c cap bs bx To').nC 0 l = true) (hd0 : 0 ≤ d ∧ d ≤ 1000000)
    (hex : exC (cMd cs c cap bs bx To').kd d c (layL (cMd cs c cap bs bx To').rl (cMd cs c cap bs bx To').kd (cMd cs c cap bs bx To').nC 0 l C) [] = .ok (C', S')) (hne : outsL (cMd cs c cap bs bx To').rl C' cs.length ≠ []) (R : Ending → World → Prop)
    (fin : ∀ w' go dn', Below B w w' → Live (cMd cs c cap bs bx To') bc C' dn' w' → (∀ i x, (i64L (outsL (cMd cs c cap bs bx To').rl C' cs.length))[i]? = some x → w'.cell? ⟨go, i, none⟩ = some x) → ∀ cp, R (.returned (.tuple #[.slice (some ⟨go, 0, none⟩) (outsL (cMd cs c cap bs bx To').rl C' cs.length).length cp, .bool true])) w') :
    Calls Tryz.prog 36 #[.pointer (some ⟨bx, 0, none⟩), v, .int .i64 d] w R := by
  replace fin := hd fin
  obtain ⟨nx, dn3, hrun⟩ := (c_run ok hk w d _).1 C' S' hex
  have hbd := ok.bd
  obtain ⟨To, H, L, kw, hTo⟩ := hk
  go_enter Tryz.func36, Tryz.ntmps36
  go_wp2_with (fail)
  refine scan_any _ (cMd cs c cap bs bx To') bc C dn h _ l d hv kw (by show ((bndC c + 1 : Nat) : Int) ≤ 200000; omega) _ ?_ ?_ ?_
  · intro hbad
    rcases hbad with hbad | hbad | hbad
    · rw [hfit] at hbad; cases hbad
    · omega
    · omega
  · intro _ _ w2 q' dn2 hr2 hl2 ht _ _
    rw [hrun] at hr2
    simp only [Prod.mk.injEq] at hr2
    obtain ⟨rfl, rfl, _⟩ := hr2
    have hbw2 : Below B w w2 := ht.below hB1 hB2 hB3 rfl
    have c0 := hl2.row.cell (i := 0) (by omega)
    have hlen := hl2.cel
    have hC2 := hl2.hC
    replace hbw2 := hd hbw2
    replace hl2 := hd hl2
    clear ht hv hrun
    go_wp2_with (fail)
    refine outputs_any _ bx bc _ _ (cMd cs c cap bs bx To').rl (cMd cs c cap bs bx To').kd C' hl2.out.nC hC2 c0 hlen _ ?_
    intro v w3 hb3 hown
    replace hown : w3.ownsRow _ _ _ v (outsL (cMd cs c cap bs bx To').rl C' cs.length).length (i64L (outsL (cMd cs c cap bs bx To').rl C' cs.length)) := hown
    obtain ⟨go, cp, rfl, _, _, _, _, hgo⟩ := own_one hown (List.length_pos_iff.2 hne)
    have hB3' := hd (hbw2.out.trans (hb3.mono (Nat.le_trans hB3 hbw2.out.size)))
    have hl3 := hd (hl2.out.below hb3)
    clear hown hb3 hlen c0
    replace hgo := hd hgo
    generalize hO : outsL (cMd cs c cap bs bx To').rl C' cs.length = O at *
    go_wp2
    exact cl1 (fin.out w3 go _ hB3'.out hl3.out (fun i x hx => by rw [hgo.out i (by have := (List.getElem?_eq_some_iff.1 hx).1; simpa [i64L] using this)]; exact hx) cp) rfl
  · intro _ _ w2 q' dn2 e cv hr2 he
    rw [hrun] at hr2
    simp only [Prod.mk.injEq] at hr2
    exact absurd hr2.2.2.symm he

end Go.Proofs.YtidhiaaicmfabaaGreatDoor
