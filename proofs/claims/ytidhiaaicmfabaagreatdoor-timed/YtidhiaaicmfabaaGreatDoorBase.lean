/- Small laws that the walks share, and the plain functions by which an image's bytes are read. -/
import Derived.Test.YtidhiaaicmfabaaGreatDoorProg
import Derived.WalkKit
import Derived.WalkSpells
import Derived.WalkLawsBesides
import Derived.Deep.OwnRows
import Derived.BigQuiet
import Derived.Handy
import Derived.Deep.Light
namespace Go.Proofs.YtidhiaaicmfabaaGreatDoor
open Go.RowKit Go.Proofs Go.Deep

theorem cl1 {R : Ending → World → Prop} {w : World} {v v' : Value} (h : R (.returned v) w) (e : v = v') : R (.returned v') w := e ▸ h
theorem hd {p : Prop} (h : p) : Hid p := h
theorem alloc_at {W : World} {o : Obj} {g : Nat} (h : g = W.heap.size) : (W.alloc o).heap[g]? = some o := h ▸ heap_alloc_new W o
theorem own_drew {w : World} {base e size : Nat} {v : Value} {n : Nat} {xs : List Value} (h : w.ownsRow base e size v n xs) : w.drew.ownsRow base e size v n xs := h
theorem own_drewN {w : World} {base e size : Nat} {v : Value} {n : Nat} {xs : List Value} (h : w.ownsRow base e size v n xs) (k : Nat) : (w.drewN k).ownsRow base e size v n xs := h
theorem wpList_app {P : Program} (w0 : World) {ops : Array Oper} {rest : List Oper} {o : Oper} {a : Act} {Q : Exit → Act → World → Prop} (hgd : o.guard = none) (s x : Operand) (t : TypeId)
    (ho : o.op = .call { callee := .builtin .append, args := #[s, x], argTypes := #[t, t] })
    (base : Nat) (e : TypeId) (z : Value) (size bytes : Nat) (ht : P.underlying t = some (.slice e))
    (hinfo : (P.info? e).map (fun i => (i.zero, i.size, i.bytes)) = some (some z, size, bytes)) (hzs : z.cells.size = size) (hsz : 0 < size)
    (v : Value) (n : Nat) (xs : List Value) (hs : a.eval s = v) (hown : w0.ownsRow base e size v n xs)
    (g m c : Nat) (news : List Value) (hx : a.eval x = .slice (some ⟨g, 0, none⟩) m c) (hg : w0.heap[g]? = some (.cells news.toArray e)) (hl : news.length = m * size) (h1 : ∀ u ∈ news, u.oneCell' = true)
    (h63 : n + m ≤ maxLen) (hbytes : (n + m) * bytes ≤ 140737488355328) (hbase : base ≤ w0.heap.size)
    (h : ∀ v' w', w'.ownsRow base e size v' (n + m) (xs ++ news) → w0.grownBy w' v.ownBlock → wpList P ops Q rest (a.put o.dst v') w') :
    wpList P ops Q (o :: rest) a w0 := by
  obtain ⟨i, hi, hzz⟩ := Option.map_eq_some_iff.1 hinfo
  simp only [Prod.mk.injEq] at hzz
  obtain ⟨hz, hs1, hb1⟩ := hzz
  refine wpList_append_own _ hgd s x t ho base e i z size bytes ht hi hz hs1 hb1 hzs hsz v n xs hs hown ⟨g, 0, none⟩ m c news hx hl ?_ h1 h63 hbytes hbase (fun v' w' h2 h3 _ => h v' w' h2 h3)
  intro j u hu
  have hadd : (⟨g, 0, none⟩ : Addr).add j = ⟨g, j, none⟩ := by unfold Addr.add; split <;> simp_all
  rw [hadd, cell_of_row _ g j news.toArray e (0, 0) hg]
  simpa using hu
def osz (op : Nat) : Nat := if op = 1 then 5 else if op = 2 ∨ op = 3 ∨ op = 21 then 2 else if op = 4 ∨ op = 5 ∨ op = 17 ∨ op = 18 ∨ op = 19 then 3 else if 21 < op then 0 else 1
def bt (s : ByteArray) (i : Nat) : Nat := if h : i < s.size then s[i].toNat else 0
theorem bt_of (s : ByteArray) (i : Nat) (h : i < s.size) : s[i].toNat = bt s i := by simp [bt, h]
theorem bt_le (s : ByteArray) (i : Nat) : bt s i ≤ 255 := by
  unfold bt; split
  · rename_i h; have := s[i].toNat_lt; omega
  · omega
def posF (s : ByteArray) : Nat → Nat → Option (List Nat)
  | 0, _ => none
  | f + 1, a => if a < s.size then (if osz (bt s a) = 0 ∨ s.size < a + osz (bt s a) then none else (posF s f (a + osz (bt s a))).map (a :: ·)) else some []
def b16 (s : ByteArray) (a : Nat) : Nat := 256 * bt s a + bt s (a + 1)
def b32 (s : ByteArray) (a : Nat) : Nat := 256 * (256 * (256 * bt s a + bt s (a + 1)) + bt s (a + 2)) + bt s (a + 3)
def s32 (s : ByteArray) (a : Nat) : Int := if 2147483648 ≤ b32 s a then (b32 s a : Int) - 4294967296 else b32 s a
def insC (s : ByteArray) (a : Nat) : Nat := if bt s a = 2 ∨ bt s a = 3 ∨ bt s a = 4 ∨ bt s a = 5 ∨ bt s a = 21 then bt s (a + 1) else 0
def insN (s : ByteArray) (a : Nat) : Int :=
  if bt s a = 1 then s32 s (a + 1) else if bt s a = 17 ∨ bt s a = 18 ∨ bt s a = 19 then b16 s (a + 1) else if bt s a = 4 ∨ bt s a = 5 then bt s (a + 2)
  else if bt s a = 2 ∨ bt s a = 3 ∨ bt s a = 21 then 1 else 0
def doC (s : ByteArray) (a : Nat) : List Value := [.int .i64 a, .int .i64 (bt s a), .int .i64 (insC s a), .int .i64 (insN s a), .int .i64 (-1), .int .i64 (-1)]

theorem posF_next (s : ByteArray) (N a k : Nat) (l : List Nat) (h : posF s N 0 = (posF s (N - l.length) a).map (l ++ ·)) (hN : l.length < N) (ha : a < s.size) (hk : osz (bt s a) = k) (h0 : k ≠ 0) (hf : a + k ≤ s.size) :
    posF s N 0 = (posF s (N - (l ++ [a]).length) (a + k)).map ((l ++ [a]) ++ ·) := by
  rw [h]
  obtain ⟨F, hF⟩ : ∃ F, N - l.length = F + 1 := ⟨N - l.length - 1, by omega⟩
  have hF' : N - (l ++ [a]).length = F := by simp; omega
  rw [hF, hF']
  simp only [posF, ha, if_true, hk]
  rw [if_neg (by omega)]
  cases posF s F (a + k) <;> simp
theorem posF_bad (s : ByteArray) (N a : Nat) (l : List Nat) (h : posF s N 0 = (posF s (N - l.length) a).map (l ++ ·)) (hN : l.length < N) (ha : a < s.size) (hb : osz (bt s a) = 0 ∨ s.size < a + osz (bt s a)) :
    posF s N 0 = none := by
  rw [h]
  obtain ⟨F, hF⟩ : ∃ F, N - l.length = F + 1 := ⟨N - l.length - 1, by omega⟩
  rw [hF]
  simp only [posF, ha, if_true]
  rw [if_pos hb]; rfl
theorem posF_end (s : ByteArray) (N a : Nat) (l : List Nat) (h : posF s N 0 = (posF s (N - l.length) a).map (l ++ ·)) (hN : l.length < N) (ha : ¬ a < s.size) :
    posF s N 0 = some l := by
  rw [h]
  obtain ⟨F, hF⟩ : ∃ F, N - l.length = F + 1 := ⟨N - l.length - 1, by omega⟩
  rw [hF]
  simp [posF, ha]
theorem oneC6 (a b c d e f : Int) : ∀ u ∈ [Value.int .i64 a, .int .i64 b, .int .i64 c, .int .i64 d, .int .i64 e, .int .i64 f], u.oneCell' = true := by
  intro u hu; simp only [List.mem_cons, List.not_mem_nil, or_false] at hu; rcases hu with rfl | rfl | rfl | rfl | rfl | rfl <;> rfl
theorem own_next {w1 : World} {base T : Nat} {v1 : Value} {s : ByteArray} {l : List Nat} {a : Nat} {news : List Value}
    (h : w1.ownsRow base T 6 v1 (l.length + 1) (l.flatMap (doC s) ++ news)) (e : news = doC s a) : w1.ownsRow base T 6 v1 (l ++ [a]).length ((l ++ [a]).flatMap (doC s)) := by
  subst e; simpa using h
theorem news_num (s : ByteArray) (a : Nat) (X : Int) (h1 : bt s a = 1) (hX : X = s32 s (a + 1)) : [Value.int .i64 a, .int .i64 (bt s a), .int .i64 0, .int .i64 X, .int .i64 (-1), .int .i64 (-1)] = doC s a := by
  subst hX; simp [doC, insC, insN, h1]
theorem b32_le (s : ByteArray) (a : Nat) : b32 s a ≤ 4294967295 := by
  have g1 := bt_le s a
  have g2 := bt_le s (a + 1)
  have g3 := bt_le s (a + 2)
  have g4 := bt_le s (a + 3)
  unfold b32; omega
theorem num_any (s : ByteArray) (a : Nat) :
    wrap64 (wrap64 (256 * wrap64 (wrap64 (256 * wrap64 (wrap64 (256 * wrap64 (wrap64 ↑(bt s (a + 1)))) + wrap64 ↑(bt s (a + 2)))) + wrap64 ↑(bt s (a + 3)))) + wrap64 ↑(bt s (a + 4))) = (b32 s (a + 1) : Int) := by
  have g1 := bt_le s (a + 1)
  have g2 := bt_le s (a + 2)
  have g3 := bt_le s (a + 3)
  have g4 := bt_le s (a + 4)
  unfold b32
  simp only [Nat.add_assoc, Nat.reduceAdd]
  simp (disch := omega) only [IntWalk.wrap64_in]
  omega
theorem num_hi (s : ByteArray) (a : Nat) (E : Int) (hE : E = (b32 s a : Int)) (h : 2147483648 ≤ E) : wrap64 (E - 4294967296) = s32 s a := by
  have := b32_le s a
  subst hE
  unfold s32
  rw [if_pos (by omega), IntWalk.wrap64_in _ (by omega)]
theorem num_lo (s : ByteArray) (a : Nat) (E : Int) (hE : E = (b32 s a : Int)) (h : E < 2147483648) : E = s32 s a := by
  subst hE
  unfold s32
  rw [if_neg (by omega)]


end Go.Proofs.YtidhiaaicmfabaaGreatDoor
