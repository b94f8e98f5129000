/- The contract of the document's own reader of images, Read. -/
import Derived.Test.YtidhiaaicmfabaaGreatMem
import Derived.Test.YtidhiaaicmfabaaGreatSpec
import Derived.Test.YtidhiaaicmfabaaGreatRefA
import Derived.Test.YtidhiaaicmfabaaGreatRefC
import Derived.Test.YtidhiaaicmfabaaGreatSpec2
import Derived.Test.YtidhiaaicmfabaaGreatSpec3
import Derived.Test.YtidhiaaicmfabaaGreatRefB
import Derived.Test.YtidhiaaicmfabaaGreatRefD
import Derived.Test.YtidhiaaicmfabaaGreatRefE
import Derived.WalkKit
import Derived.WalkSpells
import Derived.WalkLawsBesides
import Derived.Deep.OwnRows
import Derived.BigQuiet
import Derived.Handy
import Derived.Deep.Light
import Derived.Deep.RegionHeld3
import Derived.Deep.RegionWith
namespace Go.Proofs.YtidhiaaicmfabaaGreat
open Go.RowKit Go.Proofs Go.Deep

theorem cells_all (w : World) (bx bc capc nC : Nat) (rl kd : Nat → Int) (at_ N to_ in_ : Int) (op c : Nat) (ac : Option Addr)
    (hN : (op = 2 ∨ op = 3 ∨ op = 4 ∨ op = 5 ∨ op = 21) → 0 ≤ N ∧ N ≤ 255) (hc : c ≤ 255) (hC : nC ≤ 100)
    (hx : w.cell? ⟨bx, 0, none⟩ = some (.slice ac nC capc)) (hac : 0 < nC → ac = some ⟨bc, 0, none⟩)
    (hr : ∀ j, j < nC → w.cell? ⟨bc, j * 2, none⟩ = some (.int .i64 (rl j)))
    (hk : ∀ j, j < nC → w.cell? ⟨bc, j * 2 + 1, none⟩ = some (.int .i64 (kd j)))
    (R : Ending → World → Prop)
    (fin : ∀ (b : Bool) w', (b = true ↔ insOk rl kd nC op c N) → Below w.heap.size w w' → R (.returned (.bool b)) w') :
    Calls Tryz.prog 43 #[.pointer (some ⟨bx, 0, none⟩), .agg #[.int .i64 at_, .int .i64 op, .int .i64 c, .int .i64 N, .int .i64 to_, .int .i64 in_]] w R := by
  by_cases hop : op = 2 ∨ op = 3 ∨ op = 4 ∨ op = 5 ∨ op = 21
  · obtain ⟨n, rfl⟩ := Int.eq_ofNat_of_zero_le (hN hop).1
    refine cells_in w bx bc capc nC rl kd at_ to_ in_ op c n ac hop (by have := (hN hop).2; omega) hc hC hx hac hr hk R fun b w' hb => fin b w' (hb.trans ⟨fun h => ⟨fun _ => by simpa using h, fun e => by omega⟩, fun h => by simpa using h.1 hop⟩)
  · refine cells_other w _ at_ c N to_ in_ op (by omega) (by omega) (by omega) (by omega) (by omega) R fun b w' hb => fin b w' (hb.trans ⟨fun h => ⟨fun e => absurd e hop, h⟩, fun h => h.2⟩)

/-- A block that holds just these cells. -/
def Blk (w : World) (b : Nat) (arr : Array Value) (T : Nat) : Prop := w.heap[b]? = some (.cells arr T (0, 0))
theorem Blk.cell {w : World} {b T i : Nat} {arr : Array Value} {v : Value} (h : Blk w b arr T) (hi : arr[i]? = some v) : w.cell? ⟨b, i, none⟩ = some v := by
  unfold Blk at h; simp [World.cell?, h, hi]
theorem Blk.frozen {w : World} {b T : Nat} {arr : Array Value} (h : Blk w b arr T) (i : Nat) : w.frozen? ⟨b, i, none⟩ = false := by
  unfold Blk at h; simp [World.frozen?, h]
theorem Blk.lt {w : World} {b T : Nat} {arr : Array Value} (h : Blk w b arr T) : b < w.heap.size := (Array.getElem?_eq_some_iff.1 h).1
theorem Blk.of_block {w w' : World} {b T : Nat} {arr : Array Value} (h : Blk w b arr T) (e : w'.heap[b]? = w.heap[b]?) : Blk w' b arr T := e.trans h
theorem Blk.alloc {w : World} {b T : Nat} {arr : Array Value} (h : Blk w b arr T) (o : Obj) : Blk (w.alloc o) b arr T := h.of_block (Below.heap_alloc _ _ _ h.lt)
theorem Blk.setOther {w : World} {b T : Nat} {arr : Array Value} (h : Blk w b arr T) {a : Addr} (ha : b ≠ a.block) (v : Value) : Blk (w.setCell a v) b arr T := h.of_block (Below.heap_setCell _ _ _ _ ha)
theorem Blk.set {w : World} {b T : Nat} {arr : Array Value} (h : Blk w b arr T) (i : Nat) (v : Value) : Blk (w.setCell ⟨b, i, none⟩ v) b (arr.setIfInBounds i v) T := by
  unfold Blk at *
  simp [World.setCell, Array.getElem?_modify, h]
theorem infoCell : (Tryz.prog.info? 104).map (fun i => (i.zero, i.size, i.bytes)) = some (some (.agg #[.int .i64 0, .int .i64 0]), 2, 16) := by kernel_rfl
theorem ulCells : Tryz.prog.underlying 62 = some (.slice 104) := by kernel_rfl
def cellC (s : ByteArray) (i : Nat) : List Value := [.int .i64 (rlOf s i), .int .i64 (kdOf s i)]
theorem flat_at (c : ByteArray) : ∀ (l : List Nat) (i f : Nat), i < l.length → f < 6 →
    (l.flatMap (doC c))[i * 6 + f]? = some (codeA (atL l) (opL c l) (cL c l) (nL c l) (fun _ => -1) (fun _ => -1) i f)
  | [], i, f, hi, _ => by simp at hi
  | a :: l, 0, f, _, hf => by
    rw [List.flatMap_cons, List.getElem?_append_left (by simp [doC]; omega)]
    have : f = 0 ∨ f = 1 ∨ f = 2 ∨ f = 3 ∨ f = 4 ∨ f = 5 := by omega
    rcases this with rfl | rfl | rfl | rfl | rfl | rfl <;> rfl
  | a :: l, i + 1, f, hi, hf => by
    rw [List.flatMap_cons, List.getElem?_append_right (by simp [doC]; omega)]
    have h := flat_at c l i f (by simpa using hi) hf
    have e : (i + 1) * 6 + f - (doC c a).length = i * 6 + f := by simp [doC]; omega
    rw [e, h]
    rfl
theorem posF_len' (s : ByteArray) : ∀ (F a : Nat) (l : List Nat), posF s F a = some l → l.length ≤ s.size - a
  | 0, _, _, h => by simp [posF] at h
  | F + 1, a, l, h => by
    unfold posF at h
    split at h
    · rename_i ha
      split at h
      · cases h
      · rename_i hb
        obtain ⟨t, ht, rfl⟩ := Option.map_eq_some_iff.1 h
        have := posF_len' s F _ t ht
        simp only [not_or] at hb
        have h1 := hb.1
        simp; omega
    · injection h with h; subst h; simp
theorem posF_len {s : ByteArray} {F : Nat} {l : List Nat} (h : posF s F 0 = some l) (hs : s.size ≤ 8000) : l.length ≤ 8000 := by
  have := posF_len' s F 0 l h; omega
theorem flat2_at (s : ByteArray) (k i f : Nat) (hi : i < k) (hf : f < 2) :
    ((List.range k).flatMap (cellC s))[i * 2 + f]? = some (if f = 0 then Value.int .i64 (rlOf s i) else .int .i64 (kdOf s i)) := by
  induction k with
  | zero => omega
  | succ k ih =>
    have hlen : ∀ n, ((List.range n).flatMap (cellC s)).length = n * 2 := by
      intro n; induction n with
      | zero => rfl
      | succ n ih => rw [List.range_succ, List.flatMap_append, List.length_append, ih]; simp [cellC]; omega
    rw [List.range_succ, List.flatMap_append]
    by_cases e : i = k
    · subst e
      rw [List.getElem?_append_right (by rw [hlen]; omega), hlen]
      have : f = 0 ∨ f = 1 := by omega
      rcases this with rfl | rfl <;> simp [cellC]
    · rw [List.getElem?_append_left (by rw [hlen]; omega)]
      exact ih (by omega)
theorem own_cells {w : World} {base T k capc : Nat} {acc : Option Addr} {s : ByteArray} (h : w.ownsRow base T 2 (.slice acc k capc) k ((List.range k).flatMap (cellC s))) :
    ∃ bc, (0 < k → acc = some ⟨bc, 0, none⟩) ∧ (∀ j, j < k → w.cell? ⟨bc, j * 2, none⟩ = some (.int .i64 (rlOf s j))) ∧ (∀ j, j < k → w.cell? ⟨bc, j * 2 + 1, none⟩ = some (.int .i64 (kdOf s j))) := by
  by_cases hk : 0 < k
  · obtain ⟨b, cap, hv, _, ht⟩ := own_tab h hk (A := fun i f => if f = 0 then Value.int .i64 (rlOf s i) else .int .i64 (kdOf s i)) (fun i hi f hf => flat2_at s k i f hi hf)
    injection hv with h1
    exact ⟨b, fun _ => h1, fun j hj => ht.cell0 hj (by omega), fun j hj => ht.cell hj (f := 1) (by omega)⟩
  · exact ⟨0, fun h => absurd h hk, fun j hj => by omega, fun j hj => by omega⟩
theorem insN_bd (c : ByteArray) (a : Nat) (h : bt c a = 2 ∨ bt c a = 3 ∨ bt c a = 4 ∨ bt c a = 5 ∨ bt c a = 21) : 0 ≤ insN c a ∧ insN c a ≤ 255 := by
  have := bt_le c (a + 2)
  unfold insN
  rcases h with h | h | h | h | h <;> simp [h] <;> omega
theorem insC_bd (c : ByteArray) (a : Nat) : insC c a ≤ 255 := by
  have := bt_le c (a + 1)
  unfold insC; split <;> omega
theorem img_ps {s : ByteArray} {bd : Int} {l : List Nat} {k : Nat} (h : imgOk s bd) (hl : posF (codeOf s) ((codeOf s).size + 1) 0 = some l) (hk : bt s 6 = k) :
    codeOk (rlOf s) (kdOf s) k (codeOf s) l bd := by
  obtain ⟨_, _, _, ps, hps, hok⟩ := h
  rw [hl] at hps
  injection hps with e
  subst e; subst hk
  exact hok
theorem next_for {op : Nat → Nat} {n i : Nat} (h : stk op n = some []) (hi : i < n) (h20 : op i = 20) : ∃ f : Nat, inOf op i = f ∧ f < i ∧ op f = 19 := by
  cases hs : stk op i with
  | none => rw [stk_none op hs (by omega)] at h; cases h
  | some st =>
    cases st with
    | nil => rw [stk_none op (stk_none20 hs h20) (by omega)] at h; cases h
    | cons f t =>
      have := stk_mem op i _ hs f (by simp)
      exact ⟨f, inOf_cons hs, this.1, this.2⟩
theorem insN_for (c : ByteArray) (a : Nat) (h : bt c a = 19) : insN c a ≤ 65535 := by
  have h1 := bt_le c (a + 1)
  have h2 := bt_le c (a + 1 + 1)
  simp [insN, h, b16]; omega
section
variable {at_ op C : Nat → Nat} {N To In : Nat → Int} {i : Nat}
theorem codeA_0 : codeA at_ op C N To In i 0 = .int .i64 (at_ i) := rfl
theorem codeA_1 : codeA at_ op C N To In i 1 = .int .i64 (op i) := rfl
theorem codeA_2 : codeA at_ op C N To In i 2 = .int .i64 (C i) := rfl
theorem codeA_3 : codeA at_ op C N To In i 3 = .int .i64 (N i) := rfl
theorem codeA_4 : codeA at_ op C N To In i 4 = .int .i64 (To i) := rfl
theorem codeA_5 : codeA at_ op C N To In i 5 = .int .i64 (In i) := rfl
end
theorem own_slice {w : World} {base e size : Nat} {v : Value} {n : Nat} {xs : List Value} (h : w.ownsRow base e size v n xs) : ∃ ao cap, v = .slice ao n cap := by
  rcases h.2 with ⟨rfl, rfl⟩ | ⟨g, cap, cur, rfl, _⟩
  · exact ⟨none, 0, rfl⟩
  · exact ⟨_, cap, rfl⟩
theorem oneC2 (a b : Int) : ∀ u ∈ [Value.int .i64 a, .int .i64 b], u.oneCell' = true := by
  intro u hu; simp only [List.mem_cons, List.not_mem_nil, or_false] at hu; rcases hu with rfl | rfl <;> rfl

/-- The document's image, as it lies in memory. -/
structure ImgAt (base : Nat) (s : ByteArray) (l : List Nat) (bx b cap : Nat) (acc : Option Addr) (capc : Nat) (To : Nat → Int) (bd : Int) (w : World) : Prop where
  blk : Blk w bx #[.slice acc (bt s 6) capc, .slice (some ⟨b, 0, none⟩) l.length cap, .int .i64 bd] 65
  tab : Tab w b 109 6 l.length cap (codeA (atL l) (opL (codeOf s) l) (cL (codeOf s) l) (nL (codeOf s) l) To (inOf (opL (codeOf s) l)))
  row : w.ownsRow base 104 2 (.slice acc (bt s 6) capc) (bt s 6) ((List.range (bt s 6)).flatMap (cellC s))
  to_ : ∀ i, i < l.length → (isJump (opL (codeOf s) l i) ∨ opL (codeOf s) l i = 20) → To i = ((toL (atL l) (opL (codeOf s) l) (nL (codeOf s) l) l.length i : Nat) : Int)
theorem own_only {w w' : World} {base T sz n b : Nat} {v : Value} {cs : List Value} (h : w.ownsRow base T sz v n cs) (ho : Only b w w') (hne : ∀ k, v.ownBlock = some k → k ≠ b) : w'.ownsRow base T sz v n cs :=
  h.kept (row := some b) ⟨ho.os, ho.tape, ho.output, ho.size, fun i hi hn => ho.block i hi (fun e => hn (by rw [e]))⟩ (by cases hq : v.ownBlock with
    | none => simp
    | some k => have := hne k hq; simpa using this)

set_option maxRecDepth 100000 in
set_option maxHeartbeats 8000000 in
theorem read_full (w : World) (s : ByteArray) (hs : s.size ≤ maxLen) (R : Ending → World → Prop)
    (bad : (∀ bd, ¬ imgOk s bd) → ∀ w', Below w.heap.size w w' → R (.returned (.tuple #[.pointer none, .int .i64 1])) w')
    (long : ∀ bd, imgOk s bd → 200000 < bd → ∀ w', Below w.heap.size w w' → R (.returned (.tuple #[.pointer none, .int .i64 2])) w')
    (good : ∀ bd l, imgOk s bd → bd ≤ 200000 → posF (codeOf s) ((codeOf s).size + 1) 0 = some l → ∀ w' bx b cap acc capc To, Below w.heap.size w w' → w.heap.size ≤ bx → w.heap.size < b → ImgAt (w.heap.size + 1) s l bx b cap acc capc To bd w' → R (.returned (.tuple #[.pointer (some ⟨bx, 0, none⟩), .int .i64 0])) w') :
    Calls Tryz.prog 17 #[.string s] w R := by
  unfold maxLen at hs
  replace bad := hd bad
  replace long := hd long
  replace good := hd good
  by_cases hh : hdrOk s
  · obtain ⟨h9, hmk, h100, hfit⟩ := hh
    have hh := hd (show hdrOk s from ⟨h9, hmk, h100, hfit⟩)
    have d9 : decide ((s.size : Int) < 9) = false := by simp; omega
    have i6 : 6 < s.size := by omega
    have i6' : (6 : Int) < (s.size : Int) := by omega
    have i6'' : (6 : Int) ≤ (s.size : Int) := by omega
    have hb6 := bt_of s 6 i6
    have hle := bt_le s 6
    have d100 : decide ((100 : Int) < (bt s 6 : Int)) = false := by simp; omega
    have dfit : decide ((s.size : Int) < 9 + (bt s 6 : Int)) = false := by simp; omega
    generalize hnC : bt s 6 = nC at *
    replace hnC := hd hnC
    go_enter Tryz.func17, Tryz.ntmps17
    go_wp2
    go_loopw [6] (fun i wr => ∃ (k : Nat) (v : Value), k ≤ nC ∧ i = .int .i64 k ∧ Blk wr w.heap.size #[v, .slice none 0 0, .int .i64 0] 65 ∧
        wr.ownsRow (w.heap.size + 1) 104 2 v k ((List.range k).flatMap (cellC s)) ∧ Below w.heap.size w wr ∧ w.heap.size + 1 ≤ wr.heap.size ∧ (∀ j, j < k → bt s (7 + j) ≤ 8)) (fun i _ => nC - (intOf i).toNat)
    case atStart => exact ⟨0, _, by omega, rfl, heap_alloc_new _ _, World.ownsRow_nil _ _ _ _, (by repeat (first | exact Below.refl _ _ | refine below_drewN ?_ _ | refine Below.drew ?_ | refine Below.alloc ?_ (by simp) _ | refine Below.setCell ?_ (by simp) _)), by simp, by omega⟩
    case round =>
      obtain ⟨k, v, hk, rfl, hblk, hown, hbel, hsz, hsort⟩ := hrel
      have cx0 := hblk.cell (i := 0) rfl
      replace hblk := hd hblk
      replace hown := hd hown
      replace hbel := hd hbel
      replace hsort := hd hsort
      by_cases hlt : k < nC
      · have hb7 := bt_of s (7 + k) (by omega)
        have hle7 := bt_le s (7 + k)
        have j7 : 0 ≤ 7 + (k : Int) ∧ 7 + (k : Int) < (s.size : Int) := by omega
        by_cases h8 : bt s (7 + k) ≤ 8
        · have d8 : decide ((8 : Int) < (bt s (7 + k) : Int)) = false := by simp; omega
          go_wp2_with (first | (at_builtin; refine wpList_app _ rfl _ _ 62 rfl (w.heap.size + 1) 104 _ 2 16 ulCells infoCell rfl (by decide) _ _ _ rfl (by exact hown.out.alloc _) _ 1 1 _ rfl (alloc_at (by simp)) rfl (oneC2 _ _) (by unfold maxLen; omega) (by omega) (by simp; omega) ?_; intro v1 w1 hown1 hgr1; obtain ⟨ao1, cap1, rfl⟩ := own_slice hown1; have hblk1 : Blk w1 w.heap.size #[v, .slice none 0 0, .int .i64 0] 65 := hblk.out.of_block ((hgr1.block w.heap.size (by simp; omega) (fun e => by have := (hown.out.lt _ e.symm).1; omega)).trans (Below.heap_alloc _ _ _ (by omega))); have cx1 := hblk1.cell (i := 0) rfl; have fx1 := hblk1.frozen 0; replace hblk1 := hd hblk1; replace hown1 := hd hown1; replace hgr1 := hd hgr1))
          refine ⟨⟨k + 1, _, by omega, by go_num, (hblk1.out.set 0 _), ?_, ?_, ?_, ?_⟩, by simp [intOf]; omega⟩
          · rw [List.range_succ, List.flatMap_append]
            have h1 := own_set hown1.out (a := ⟨w.heap.size, 0, none⟩) (show w.heap.size < w.heap.size + 1 by omega) (Value.slice ao1 (k + 1) cap1)
            simpa [cellC, rlOf, kdOf] using h1
          · exact ((hbel.out.alloc (by omega) _).grown hgr1.out (by simp; omega) (fun k hk => by have := (hown.out.lt k hk).1; omega)).setCell (Nat.le_refl _) _
          · have := hgr1.out.size
            rw [World.size_setCell]; simp at this; omega
          · intro j hj
            by_cases e : j = k
            · subst e; exact h8
            · exact hsort.out j (by omega)
        · have d8 : decide ((8 : Int) < (bt s (7 + k) : Int)) = true := by simp; omega
          go_wp2_with (first | (at_builtin; refine wpList_app _ rfl _ _ 62 rfl (w.heap.size + 1) 104 _ 2 16 ulCells infoCell rfl (by decide) _ _ _ rfl (by exact hown.out.alloc _) _ 1 1 _ rfl (alloc_at (by simp)) rfl (oneC2 _ _) (by unfold maxLen; omega) (by omega) (by simp; omega) ?_; intro v1 w1 hown1 hgr1; obtain ⟨ao1, cap1, rfl⟩ := own_slice hown1; have hblk1 : Blk w1 w.heap.size #[v, .slice none 0 0, .int .i64 0] 65 := hblk.out.of_block ((hgr1.block w.heap.size (by simp; omega) (fun e => by have := (hown.out.lt _ e.symm).1; omega)).trans (Below.heap_alloc _ _ _ (by omega))); have cx1 := hblk1.cell (i := 0) rfl; have fx1 := hblk1.frozen 0; replace hblk1 := hd hblk1; replace hown1 := hd hown1; replace hgr1 := hd hgr1))
          exact cl1 (bad.out (fun bd h => h8 (h.2.1 k (by rw [hnC.out]; exact hlt))) _ hbel.out) rfl
      · have hkn : k = nC := by omega
        subst hkn
        have hb7 := bt_of s (7 + k) (by omega)
        have hb8 := bt_of s (8 + k) (by omega)
        have hle7 := bt_le s (7 + k)
        have hle8 := bt_le s (8 + k)
        have j7 : 0 ≤ 7 + (k : Int) ∧ 7 + (k : Int) < (s.size : Int) := by omega
        have j8 : 0 ≤ 8 + (k : Int) ∧ 8 + (k : Int) < (s.size : Int) := by omega
        have j9 : 0 ≤ 9 + (k : Int) ∧ 9 + (k : Int) ≤ (s.size : Int) := by omega
        have hsorts : sortsOk s := fun i hi => hsort.out i (by rw [hnC.out] at hi; exact hi)
        replace hsorts := hd hsorts
        have e8 : 7 + k + 1 = 8 + k := by omega
        by_cases hsize : sizeOk s
        · have hsize' := hsize
          unfold sizeOk b16 at hsize'
          rw [hnC.out, e8] at hsize'
          have t2 : decide ((8000 : Int) < 256 * (bt s (7 + k) : Int) + (bt s (8 + k) : Int)) = false := by simp; omega
          have hcsz : (codeOf s).size = s.size - (9 + k) := by unfold codeOf; rw [hnC.out, ByteArray.size_extract]; omega
          have hce : s.extract (9 + k) s.size = codeOf s := by unfold codeOf; rw [hnC.out]
          have hcl : (codeOf s).size ≤ 8000 := by omega
          have t1 : (((codeOf s).size : Int) != 256 * (bt s (7 + k) : Int) + (bt s (8 + k) : Int)) = false := by simp; omega
          replace hcsz := hd hcsz
          replace hsize := hd hsize
          replace hsize' := hd hsize'
          clear e8
          go_wp2
          go_quiet (fail)
          go_wp2_with (fail)
          refine split_any _ _ hcl _ ?_ ?_
          · intro hnone w1 hb1
            replace hnone := hd hnone
            replace hb1 := hd hb1
            go_wp2
            refine cl1 (bad.out (fun bd h => ?_) _ ((below_drewN hbel.out _).trans (hb1.out.mono (by simp; omega)))) rfl
            obtain ⟨_, _, _, ps, hps, _⟩ := h
            rw [hnone.out] at hps; cases hps
          · intro l hl v1 w1 hb1 hown1
            have hbelw : Below w.heap.size w w1 := (below_drewN hbel.out _).trans (hb1.mono (by simp; omega))
            have hblk1 : Blk w1 w.heap.size #[v, .slice none 0 0, .int .i64 0] 65 := hblk.out.of_block (hb1.block w.heap.size (by simp; omega))
            have hownc : w1.ownsRow (w.heap.size + 1) 104 2 v k ((List.range k).flatMap (cellC s)) := hown.out.kept (row := none) ⟨hb1.os, hb1.tape, hb1.output, hb1.size, fun i hi _ => hb1.block i hi⟩ (by cases hq : v.ownBlock <;> simp)
            replace hl := hd hl
            by_cases hnil : l = []
            · subst hnil
              obtain ⟨ao1, cap1, rfl⟩ := own_slice hown1
              replace hbelw := hd hbelw
              clear hown1 hb1 hblk1 hownc
              go_wp2
              refine cl1 (bad.out (fun bd h => ?_) _ hbelw.out) rfl
              obtain ⟨_, _, _, ps, hps, hok⟩ := h
              rw [hl.out] at hps
              injection hps with e
              exact hok.1 e.symm
            · have hl0 : 0 < l.length := by cases l with
                | nil => exact absurd rfl hnil
                | cons => simp
              obtain ⟨b, cap, hv1, hbb, htab⟩ := own_tab hown1 hl0 (fun i hi f hf => flat_at (codeOf s) l i f hi hf)
              subst hv1
              have hln : l.length ≤ 8000 := posF_len hl.out hcl
              obtain ⟨acc, capc, hvc⟩ := own_slice hownc
              subst hvc
              have cx1 := hblk1.cell (i := 1) rfl
              have fx1 := hblk1.frozen 1
              have hbb' : w.heap.size < b := by simp at hbb; omega
              have hnc : ∀ q, (Value.slice acc k capc).ownBlock = some q → q ≠ b := fun q hq => by have := (hown.out.lt q hq).1; have := (hown.out.lt q hq).2; simp at hbb; omega
              have hnx : ∀ q, (Value.slice acc k capc).ownBlock = some q → q ≠ w.heap.size := fun q hq => by have := (hown.out.lt q hq).1; have := (hown.out.lt q hq).2; omega
              replace hnc := hd hnc
              replace hnx := hd hnx
              have hbsz := htab.lt
              have hl0' : (((l.length : Nat) : Int) == 0) = false := by simp; omega
              replace hbelw := hd hbelw
              replace hblk1 := hd hblk1
              replace htab := hd htab
              replace hownc := hd hownc
              replace hb1 := hd hb1
              clear hown1
              go_wp2
              go_loopw [12] (fun i wr2 => ∃ k2 : Nat, k2 ≤ l.length ∧ i = .int .i64 k2 ∧ Below (w1.setCell ⟨w.heap.size, 1, none⟩ (.slice (some ⟨b, 0, none⟩) l.length cap)).heap.size (w1.setCell ⟨w.heap.size, 1, none⟩ (.slice (some ⟨b, 0, none⟩) l.length cap)) wr2 ∧
                  (∀ i, i < k2 → insOk (rlOf s) (kdOf s) k (opL (codeOf s) l i) (cL (codeOf s) l i) (nL (codeOf s) l i))) (fun i _ => l.length - (intOf i).toNat)
              case atStart => exact ⟨0, by omega, rfl, Below.refl _ _, by omega⟩
              case round =>
                obtain ⟨k2, hk2, rfl, hbel2, hins⟩ := hrel
                rw [World.size_setCell] at hbel2
                have htab2 : Tab wr b 109 6 l.length cap (codeA (atL l) (opL (codeOf s) l) (cL (codeOf s) l) (nL (codeOf s) l) (fun _ => -1) (fun _ => -1)) :=
                  (htab.out.setOther (a := ⟨w.heap.size, 1, none⟩) (by simp; omega) _).of_block (hbel2.block b hbsz)
                have hblk2 : Blk wr w.heap.size #[.slice acc k capc, .slice (some ⟨b, 0, none⟩) l.length cap, .int .i64 0] 65 :=
                  (hblk1.out.set 1 _).of_block (hbel2.block w.heap.size (by omega))
                have hown2 : wr.ownsRow (w.heap.size + 1) 104 2 (.slice acc k capc) k ((List.range k).flatMap (cellC s)) :=
                  (own_set hownc.out (a := ⟨w.heap.size, 1, none⟩) (show w.heap.size < w.heap.size + 1 by omega) _).kept (row := none) ⟨hbel2.os, hbel2.tape, hbel2.output, hbel2.size, fun i hi _ => hbel2.block i (by rw [World.size_setCell] at hi; exact hi)⟩ (by cases hq : (Value.slice acc k capc).ownBlock <;> simp)
                replace hins := hd hins
                have hB : Below w.heap.size w wr := (hbelw.out.setCell (p := ⟨w.heap.size, 1, none⟩) (Nat.le_refl _) _).trans (hbel2.mono (by have := hbelw.out.size; omega))
                replace hB := hd hB
                have cx02 := hblk2.cell (i := 0) (v := .slice acc k capc) rfl
                obtain ⟨bc, hac, hrc, hkc⟩ := own_cells hown2
                by_cases hlt2 : k2 < l.length
                · have e0 : wr.cell? ⟨b, k2 * 6, none⟩ = some (.int .i64 (atL l k2)) := by rw [htab2.cell0 hlt2 (by omega), codeA_0]
                  have e1 : wr.cell? ⟨b, k2 * 6 + 1, none⟩ = some (.int .i64 (opL (codeOf s) l k2)) := by rw [htab2.cell hlt2 (f := 1) (by omega), codeA_1]
                  have e2 : wr.cell? ⟨b, k2 * 6 + 2, none⟩ = some (.int .i64 (cL (codeOf s) l k2)) := by rw [htab2.cell hlt2 (f := 2) (by omega), codeA_2]
                  have e3 : wr.cell? ⟨b, k2 * 6 + 3, none⟩ = some (.int .i64 (nL (codeOf s) l k2)) := by rw [htab2.cell hlt2 (f := 3) (by omega), codeA_3]
                  have e4 : wr.cell? ⟨b, k2 * 6 + 4, none⟩ = some (.int .i64 (-1)) := by rw [htab2.cell hlt2 (f := 4) (by omega), codeA_4]
                  have e5 : wr.cell? ⟨b, k2 * 6 + 5, none⟩ = some (.int .i64 (-1)) := by rw [htab2.cell hlt2 (f := 5) (by omega), codeA_5]
                  replace hbel2 := hd hbel2
                  replace htab2 := hd htab2
                  replace hblk2 := hd hblk2
                  replace hown2 := hd hown2
                  replace hac := hd hac
                  replace hrc := hd hrc
                  replace hkc := hd hkc
                  go_wp2_with (fail)
                  refine cells_all _ _ bc capc k (rlOf s) (kdOf s) _ _ _ _ _ _ acc (fun h => insN_bd _ _ h) (insC_bd _ _) h100 cx02 hac.out hrc.out hkc.out _ ?_
                  intro bb w3 hiff hb3
                  replace hiff := hd hiff
                  replace hb3 := hd hb3
                  cases bb with
                  | false =>
                    go_wp2
                    refine cl1 (bad.out (fun bd h => ?_) _ ?_) rfl
                    · have h1 := (img_ps h hl.out hnC.out).2.1 k2 hlt2
                      have := hiff.out.2 h1
                      cases this
                    · exact hB.out.trans (hb3.out.mono (by have := hB.out.size; omega))
                  | true =>
                    go_wp2
                    refine ⟨⟨k2 + 1, by omega, by go_num, ?_, fun i hi => ?_⟩, by simp [intOf]; omega⟩
                    · rw [World.size_setCell]
                      refine hbel2.out.trans (hb3.out.mono ?_)
                      have := hbel2.out.size
                      rw [World.size_setCell] at this
                      exact this
                    · by_cases e : i = k2
                      · subst e; exact hiff.out.1 (by first | rfl | trivial)
                      · exact hins.out i (by omega)
                · have hk2n : k2 = l.length := by omega
                  have hall := hd (show ∀ i, i < l.length → insOk (rlOf s) (kdOf s) k (opL (codeOf s) l i) (cL (codeOf s) l i) (nL (codeOf s) l i) from fun i hi => hins.out i (by omega))
                  have cx12 := hblk2.cell (i := 1) (v := .slice (some ⟨b, 0, none⟩) l.length cap) rfl
                  have cx22 := hblk2.cell (i := 2) (v := .int .i64 0) rfl
                  have fx22 := hblk2.frozen 2
                  have hbx2 := hblk2.lt
                  have hneb : w.heap.size ≠ b := by omega
                  replace hk2n := hd hk2n
                  clear hac hrc hkc cx02
                  replace hown2 := hd hown2
                  replace hbel2 := hd hbel2
                  replace htab2 := hd htab2
                  replace hblk2 := hd hblk2
                  go_wp2_with (fail)
                  refine loops_any _ w.heap.size b l.length cap (atL l) (opL (codeOf s) l) (cL (codeOf s) l) (nL (codeOf s) l) (fun _ => -1) (fun _ => -1) hln hneb cx12 htab2.out (fun _ _ => rfl) _ ?_ ?_
                  · intro hstk w4 honly4
                    replace hstk := hd hstk
                    replace honly4 := hd honly4
                    go_wp2
                    exact cl1 (bad.out (fun bd h => hstk.out (img_ps h hl.out hnC.out).2.2.1) _ (hB.out.trans (honly4.out.below (by omega) hB.out.size))) rfl
                  · intro hstk w4 To4 honly4 htab4 hto4
                    have cx14 : w4.cell? ⟨w.heap.size, 1, none⟩ = some (.slice (some ⟨b, 0, none⟩) l.length cap) := by rw [honly4.cell hbx2 hneb]; exact cx12
                    replace hstk := hd hstk
                    replace honly4 := hd honly4
                    replace htab4 := hd htab4
                    replace hto4 := hd hto4
                    go_wp2_with (fail)
                    refine jumps_any _ w.heap.size b l.length cap (atL l) (opL (codeOf s) l) (cL (codeOf s) l) (nL (codeOf s) l) To4 hln hneb cx14 htab4.out _ ?_ ?_
                    · intro hno w5 honly5
                      replace hno := hd hno
                      replace honly5 := hd honly5
                      go_wp2
                      refine cl1 (bad.out (fun bd h => ?_) _ ((hB.out.trans (honly4.out.below (by omega) hB.out.size)).trans (honly5.out.below (by omega) (Nat.le_trans hB.out.size honly4.out.size)))) rfl
                      obtain ⟨i, hi, hji, hnt⟩ := hno.out
                      obtain ⟨t, ht⟩ := (img_ps h hl.out hnC.out).2.2.2.1 i hi hji
                      exact hnt t ht
                    · intro To5 hj5 hkeep5 w5 honly5 htab5
                      have cx15 : w5.cell? ⟨w.heap.size, 1, none⟩ = some (.slice (some ⟨b, 0, none⟩) l.length cap) := by rw [honly5.cell (Nat.lt_of_lt_of_le hbx2 honly4.out.size) hneb]; exact cx14
                      have cx25 : w5.cell? ⟨w.heap.size, 2, none⟩ = some (.int .i64 0) := by rw [honly5.cell (Nat.lt_of_lt_of_le hbx2 honly4.out.size) hneb, honly4.out.cell hbx2 hneb]; exact cx22
                      have fx25 : w5.frozen? ⟨w.heap.size, 2, none⟩ = false := by rw [honly5.frozen (Nat.lt_of_lt_of_le hbx2 honly4.out.size) hneb, honly4.out.frozen hbx2 hneb]; exact fx22
                      have hB5 : Below w.heap.size w w5 := (hB.out.trans (honly4.out.below (by omega) hB.out.size)).trans (honly5.below (by omega) (Nat.le_trans hB.out.size honly4.out.size))
                      have hjt : ∀ i, i < l.length → isJump (opL (codeOf s) l i) → To5 i = ((toL (atL l) (opL (codeOf s) l) (nL (codeOf s) l) l.length i : Nat) : Int) ∧ JumpOk (atL l) (opL (codeOf s) l) (nL (codeOf s) l) l.length i (toL (atL l) (opL (codeOf s) l) (nL (codeOf s) l) l.length i) := by
                        intro i hi hji
                        obtain ⟨t, ht, hok⟩ := hj5 i hi hji
                        have h20 : opL (codeOf s) l i ≠ 20 := by rcases hji with h | h <;> omega
                        have : toL (atL l) (opL (codeOf s) l) (nL (codeOf s) l) l.length i = t := by unfold toL; rw [if_neg h20]; exact tgt_eq hok
                        rw [this]; exact ⟨ht, hok⟩
                      have hft : ∀ i, i < l.length → opL (codeOf s) l i = 20 → To5 i = ((toL (atL l) (opL (codeOf s) l) (nL (codeOf s) l) l.length i : Nat) : Int) ∧ toL (atL l) (opL (codeOf s) l) (nL (codeOf s) l) l.length i < i ∧ opL (codeOf s) l (toL (atL l) (opL (codeOf s) l) (nL (codeOf s) l) l.length i) = 19 := by
                        intro i hi h20
                        obtain ⟨f, hf, hfi, hf19⟩ := next_for hstk.out hi h20
                        have : toL (atL l) (opL (codeOf s) l) (nL (codeOf s) l) l.length i = f := by unfold toL; rw [if_pos h20, hf]; exact Int.toNat_natCast f
                        rw [this]
                        exact ⟨by rw [hkeep5 i (by unfold isJump; omega), hto4.out i hi h20, hf], hfi, hf19⟩
                      have hjx : ∀ i, i < l.length → isJump (opL (codeOf s) l i) → ∃ t, JumpOk (atL l) (opL (codeOf s) l) (nL (codeOf s) l) l.length i t := fun i hi h => ⟨_, (hjt i hi h).2⟩
                      have hnn : ∀ i, i < l.length → opL (codeOf s) l i = 19 → 1 ≤ nL (codeOf s) l i ∧ nL (codeOf s) l i ≤ 65535 := fun i hi h => ⟨(hall.out i hi).2 h, insN_for _ _ h⟩
                      replace honly5 := hd honly5
                      replace htab5 := hd htab5
                      replace hj5 := hd hj5
                      replace hkeep5 := hd hkeep5
                      replace hjt := hd hjt
                      replace hft := hd hft
                      replace hjx := hd hjx
                      replace hnn := hd hnn
                      replace hB5 := hd hB5
                      go_wp2_with (fail)
                      refine goes_any _ w.heap.size b l.length cap (atL l) (opL (codeOf s) l) (cL (codeOf s) l) (toL (atL l) (opL (codeOf s) l) (nL (codeOf s) l) l.length) (nL (codeOf s) l) To5 (inOf (opL (codeOf s) l)) 0 hln hl0 hneb cx15 cx25 fx25 htab5.out ?_ ?_ ?_ hnn.out _ ?_ ?_
                      · intro i hi h
                        rcases h with h | h | h
                        · exact (hjt.out i hi (.inl h)).1
                        · exact (hjt.out i hi (.inr h)).1
                        · exact (hft.out i hi h).1
                      · intro i hi h
                        have := (hjt.out i hi h).2
                        exact ⟨this.2.1, this.2.2.1⟩
                      · intro i hi h
                        exact ⟨(hft.out i hi h).2.1, (hft.out i hi h).2.2⟩
                      · intro hno w6 honly6
                        replace hno := hd hno
                        replace honly6 := hd honly6
                        go_wp2
                        refine cl1 (bad.out (fun bd h => ?_) _ (hB5.out.trans (honly6.out.below (Nat.le_refl _) hB5.out.size))) rfl
                        have := (img_ps h hl.out hnC.out).2.2.2.2
                        rw [hno.out] at this; cases this
                      · intro bd hbd hbd1 hbd2 w6 honly6 cx26 hw6
                        have himg2 : ImgAt (w.heap.size + 1) s l w.heap.size b cap acc capc To5 bd w6 := by
                          refine ⟨?_, ?_, ?_, ?_⟩
                          · rw [hnC.out]
                            obtain ⟨w1', hb1', rfl⟩ := hw6
                            have h5 : Blk w5 w.heap.size #[.slice acc k capc, .slice (some ⟨b, 0, none⟩) l.length cap, .int .i64 0] 65 :=
                              (hblk2.out.of_block (honly4.out.block _ hbx2 hneb)).of_block (honly5.out.block _ (Nat.lt_of_lt_of_le hbx2 honly4.out.size) hneb)
                            exact (h5.of_block (hb1'.block _ h5.lt)).set 2 _
                          · exact htab5.out.of_block (honly6.block b htab5.out.lt (Ne.symm hneb))
                          · rw [hnC.out]
                            exact own_only (own_only (own_only hown2.out honly4.out hnc.out) honly5.out hnc.out) honly6 hnx.out
                          · intro i hi h
                            rcases h with h | h
                            · exact (hjt.out i hi h).1
                            · exact (hft.out i hi h).1
                        replace himg2 := hd himg2
                        clear hw6
                        have himg : imgOk s bd := ⟨hh.out, hsorts.out, hsize.out, l, hl.out, by rw [hnC.out]; exact ⟨hnil, hall.out, hstk.out, hjx.out, hbd⟩⟩
                        replace himg := hd himg
                        replace honly6 := hd honly6
                        replace hbd := hd hbd
                        by_cases hlong : 200000 < bd
                        · go_wp2
                          exact cl1 (long.out bd himg.out hlong _ (hB5.out.trans (honly6.out.below (Nat.le_refl _) hB5.out.size))) rfl
                        · go_wp2
                          exact cl1 (good.out bd l himg.out (by omega) hl.out _ _ _ _ _ _ _ (hB5.out.trans (honly6.out.below (Nat.le_refl _) hB5.out.size)) (Nat.le_refl _) hbb' himg2.out) rfl
        · have hsz2 : ¬ (s.size - (9 + k) = 256 * bt s (7 + k) + bt s (8 + k) ∧ 256 * bt s (7 + k) + bt s (8 + k) ≤ 8000) := by
            intro h; apply hsize; unfold sizeOk b16; rw [hnC.out, e8]; exact h
          replace hsize := hd hsize
          clear e8
          go_wp2
          go_quiet (fail)
          go_wp2_with (fail)
          all_goals first | (exfalso; omega) | exact cl1 (bad.out (fun bd h => hsize.out h.2.2.1) _ (below_drewN hbel.out _)) rfl
  · by_cases h9 : s.size < 9
    · have d9 : decide ((s.size : Int) < 9) = true := by simp; omega
      go_enter Tryz.func17, Tryz.ntmps17
      go_wp2
      exact cl1 (bad.out (fun bd h => hh h.1) _ (Below.refl _ _)) rfl
    · have d9 : decide ((s.size : Int) < 9) = false := by simp; omega
      have i6 : 6 < s.size := by omega
      have i6' : (6 : Int) < (s.size : Int) := by omega
      have i6'' : (6 : Int) ≤ (s.size : Int) := by omega
      have hb6 := bt_of s 6 i6
      have hle := bt_le s 6
      replace hh := hd hh
      go_enter Tryz.func17, Tryz.ntmps17
      go_wp2
      all_goals first | exact cl1 (bad.out (fun bd h => hh.out h.1) _ (Below.refl _ _)) rfl | (exfalso; exact hh.out ⟨by omega, by assumption, by omega, by omega⟩)

theorem read_any (w : World) (s : ByteArray) (hs : s.size ≤ maxLen) (R : Ending → World → Prop)
    (bad : (∀ bd, ¬ imgOk s bd) → ∀ w', Below w.heap.size w w' → R (.returned (.tuple #[.pointer none, .int .i64 1])) w')
    (long : ∀ bd, imgOk s bd → 200000 < bd → ∀ w', Below w.heap.size w w' → R (.returned (.tuple #[.pointer none, .int .i64 2])) w')
    (good : ∀ bd, imgOk s bd → bd ≤ 200000 → ∀ w' bx, Below w.heap.size w w' → w.heap.size ≤ bx → w'.cell? ⟨bx, 2, none⟩ = some (.int .i64 bd) → R (.returned (.tuple #[.pointer (some ⟨bx, 0, none⟩), .int .i64 0])) w') :
    Calls Tryz.prog 17 #[.string s] w R :=
  read_full w s hs R bad long (fun bd _ h1 h2 _ w' bx _ _ _ _ _ hB hbx _ hI => good bd h1 h2 w' bx hB hbx (hI.blk.cell (i := 2) rfl))

end Go.Proofs.YtidhiaaicmfabaaGreat
