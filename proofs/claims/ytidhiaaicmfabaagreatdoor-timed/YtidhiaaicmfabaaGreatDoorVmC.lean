/- The contracts of readCells and readCode. -/
import Derived.Test.YtidhiaaicmfabaaGreatDoorMem
import Derived.Test.YtidhiaaicmfabaaGreatDoorSpec
import Derived.Test.YtidhiaaicmfabaaGreatDoorRefA
import Derived.Test.YtidhiaaicmfabaaGreatDoorRefC
import Derived.Test.YtidhiaaicmfabaaGreatDoorSpec2
import Derived.WalkKit
import Derived.WalkSpells
import Derived.WalkLawsBesides
import Derived.Deep.OwnRows
import Derived.BigQuiet
import Derived.Handy
import Derived.Deep.Light
import Derived.Deep.RegionHeld3
import Derived.Deep.RegionWith
import Derived.Test.YtidhiaaicmfabaaGreatDoorVmA
import Derived.Laws.MakeOwn
import Derived.Test.YtidhiaaicmfabaaGreatDoorVmB
namespace Go.Proofs.YtidhiaaicmfabaaGreatDoor
open Go.RowKit Go.Proofs Go.Deep

theorem infoVCell : (Tryz.prog.info? 129).map (fun i => (i.zero, i.size, i.bytes)) = some (some (.agg #[.int .u8 0, .int .u8 0, .int .i32 0]), 3, 8) := by kernel_rfl
theorem ulVCells : Tryz.prog.underlying 112 = some (.slice 129) := by kernel_rfl
theorem run_make_tab (t e : TypeId) (z : Value) (size bytes : Nat) (ht : Tryz.prog.underlying t = some (.slice e)) (hinfo : (Tryz.prog.info? e).map (fun i => (i.zero, i.size, i.bytes)) = some (some z, size, bytes))
    (n : Nat) (hbytes : bytes * n ≤ 281474976710656) (h63 : n ≤ 9223372036854775807) (w : World) :
    (Instr.makeSlice t (.int .i64 (n : Int)) (.int .i64 (n : Int))).run Tryz.prog w = .ok (.slice (some ⟨w.heap.size, 0, none⟩) n n) (w.alloc (.cells (madeCells z.cells (n * size)) e)) := by
  obtain ⟨i, hi, hzz⟩ := Option.map_eq_some_iff.1 hinfo
  simp only [Prod.mk.injEq] at hzz
  obtain ⟨hz, hs, hb⟩ := hzz
  have hb' : (i.bytes : Int) * (n : Int) ≤ 281474976710656 := by
    rw [hb]
    have h : ((bytes * n : Nat) : Int) ≤ 281474976710656 := by omega
    rwa [Int.natCast_mul] at h
  have hr := run_make (P := Tryz.prog) w t e i z ht hi hz .i64 .i64 n n (by omega) (Int.le_refl _) hb' (by omega)
  simp only [Int.toNat_natCast, hs] at hr
  exact hr
theorem made_tab (w : World) (T n : Nat) (z0 z1 z2 : Value) : Tab (w.alloc (.cells (madeCells #[z0, z1, z2] (n * 3)) T)) w.heap.size T 3 n n (fun _ f => if f = 0 then z0 else if f = 1 then z1 else z2) := by
  refine ⟨_, heap_alloc_new _ _, by simp [madeCells], Nat.le_refl _, fun i hi f hf => ?_⟩
  have h1 : i * 3 + f < n * 3 := by omega
  have h2 : (i * 3 + f) % 3 = f := by omega
  simp only [madeCells, Array.getElem?_map, Array.getElem?_range, h1, if_true, Option.map_some, List.size_toArray, List.length_cons, List.length_nil, Nat.zero_add, Nat.reduceAdd, h2]
  have hc : f = 0 ∨ f = 1 ∨ f = 2 := by omega
  rcases hc with rfl | rfl | rfl <;> rfl
def cellA (rl kd : Nat → Nat) (i f : Nat) : Value := if f = 0 then .int .u8 (rl i : Int) else if f = 1 then .int .u8 (kd i : Int) else .int .i32 0
theorem cellA_0 (rl kd : Nat → Nat) (i : Nat) : cellA rl kd i 0 = .int .u8 (rl i : Int) := rfl
theorem cellA_1 (rl kd : Nat → Nat) (i : Nat) : cellA rl kd i 1 = .int .u8 (kd i : Int) := rfl
theorem cellA_2 (rl kd : Nat → Nat) (i : Nat) : cellA rl kd i 2 = .int .i32 0 := rfl
theorem Tab.set3 {w : World} {b T n cap : Nat} {A : Nat → Nat → Value} (h : Tab w b T 3 n cap A) (i : Nat) (v0 v1 v2 : Value) :
    Tab (((w.setCell ⟨b, i * 3, none⟩ v0).setCell ⟨b, i * 3 + 1, none⟩ v1).setCell ⟨b, i * 3 + 2, none⟩ v2) b T 3 n cap (fun j g => if j = i then (if g = 0 then v0 else if g = 1 then v1 else v2) else A j g) := by
  refine (((h.set i 0 (by omega) v0).set i 1 (by omega) v1).set i 2 (by omega) v2).congr fun j _ g hg => ?_
  by_cases e : j = i
  · have hc : g = 0 ∨ g = 1 ∨ g = 2 := by omega
    rcases hc with rfl | rfl | rfl <;> simp [e]
  · simp [e]

set_option maxRecDepth 100000 in
set_option maxHeartbeats 1000000 in
theorem readCells_any (w : World) (s : ByteArray) (hs : s.size ≤ 100) (R : Ending → World → Prop)
    (no : (∃ i, i < s.size ∧ 8 < bt s i) → ∀ w', Below w.heap.size w w' → R (.returned (.tuple #[.slice none 0 0, .bool false])) w')
    (yes : (∀ i, i < s.size → bt s i ≤ 8) → ∀ w', Below w.heap.size w w' → Tab w' w.heap.size 129 3 s.size s.size (cellA (fun i => bt s i / 3) (fun i => bt s i % 3)) → R (.returned (.tuple #[.slice (some ⟨w.heap.size, 0, none⟩) s.size s.size, .bool true])) w') :
    Calls Tryz.prog 101 #[.string s] w R := by
  replace yes := hd yes
  replace no := hd no
  have hmk := run_make_tab 112 129 _ _ _ ulVCells infoVCell s.size (by omega) (by omega)
  go_enter Tryz.func101, Tryz.ntmps101
  go_wp2
  go_loopw [12] (fun i wr => ∃ k : Nat, k ≤ s.size ∧ i = .int .i64 k ∧ Below w.heap.size w wr ∧ (∀ j, j < k → bt s j ≤ 8) ∧
      Tab wr w.heap.size 129 3 s.size s.size (fun i f => if i < k then cellA (fun i => bt s i / 3) (fun i => bt s i % 3) i f else if f = 0 then .int .u8 0 else if f = 1 then .int .u8 0 else .int .i32 0)) (fun i _ => s.size - (intOf i).toNat)
  case atStart => exact ⟨0, by omega, rfl, (by repeat (first | with_reducible exact Below.refl _ _ | with_reducible refine below_drewN ?_ _ | with_reducible refine Below.drew ?_ | with_reducible refine Below.alloc ?_ (by simp) _ | with_reducible refine Below.setCell ?_ (by simp) _)), by omega, (made_tab w 129 s.size _ _ _).congr (fun i _ f _ => by simp)⟩
  case round =>
    obtain ⟨k, hk, rfl, hbel, hall, htab⟩ := hrel
    replace hbel := hd hbel
    replace hall := hd hall
    by_cases hlt : k < s.size
    · have hb := bt_of s k hlt
      have hle := bt_le s k
      have c0 := htab.cell0 hlt (by omega)
      have c1 := htab.cell hlt (f := 1) (by omega)
      have c2 := htab.cell hlt (f := 2) (by omega)
      simp only [Nat.lt_irrefl, if_false, if_true, Nat.reduceEqDiff] at c0 c1 c2
      have fz := fun o => htab.frozen o
      replace htab := hd htab
      by_cases h8 : bt s k ≤ 8
      · have d8 : decide ((9 : Int) ≤ (bt s k : Int)) = false := by simp; omega
        go_wp2
        refine ⟨⟨k + 1, by omega, by go_num, ((hbel.out.setCell (Nat.le_refl _) _).setCell (Nat.le_refl _) _).setCell (Nat.le_refl _) _, ?_, (htab.out.set3 k _ _ _).congr (fun j _ f hf => ?_)⟩, by simp [intOf]; omega⟩
        · intro j hj
          by_cases e : j = k
          · subst e; exact h8
          · exact hall.out j (by omega)
        · by_cases e : j = k
          · subst e
            have hc : f = 0 ∨ f = 1 ∨ f = 2 := by omega
            rcases hc with rfl | rfl | rfl <;> simp [cellA]
          · have e2 : (j < k + 1) ↔ (j < k) := by omega
            simp [e, e2]
      · have d8 : decide ((9 : Int) ≤ (bt s k : Int)) = true := by simp; omega
        go_wp2
        exact cl1 (no.out ⟨k, hlt, by omega⟩ _ hbel.out) rfl
    · have hkn : k = s.size := by omega
      subst hkn
      go_wp2
      exact cl1 (yes.out hall.out _ hbel.out (htab.congr (fun i hi f _ => if_pos hi))) rfl

def vArg (s : ByteArray) (a : Nat) : Int := if bt s a = 1 then s32 s (a + 1) else if bt s a = 2 ∨ bt s a = 3 ∨ bt s a = 21 ∨ bt s a = 4 ∨ bt s a = 5 then (bt s (a + 1) : Int) else if bt s a = 17 ∨ bt s a = 18 ∨ bt s a = 19 then (b16 s (a + 1) : Int) else 0
def vCnt (s : ByteArray) (a : Nat) : Int := if bt s a = 4 ∨ bt s a = 5 then (bt s (a + 2) : Int) else 0
def stC (s : ByteArray) (a : Nat) : List Value := [.int .u8 (bt s a : Int), .int .i64 a, .int .i64 (vArg s a), .int .i64 (vCnt s a), .int .i64 0, .int .i64 0]
theorem bt_extract (s : ByteArray) (b e i : Nat) (h : b + i < e) (he : e ≤ s.size) : bt (s.extract b e) i = bt s (b + i) := by
  unfold bt
  have h1 : i < (s.extract b e).size := by rw [ByteArray.size_extract]; omega
  have h2 : b + i < s.size := by omega
  rw [dif_pos h1, dif_pos h2]
  congr 1
  simp [ByteArray.getElem_eq_getElem_data, ByteArray.data_extract]
theorem osz_opnd (op : Nat) (h : op < 22) : osz op = 1 + osz0 (opnd op) := by
  have hc : op = 0 ∨ op = 1 ∨ op = 2 ∨ op = 3 ∨ op = 4 ∨ op = 5 ∨ op = 6 ∨ op = 7 ∨ op = 8 ∨ op = 9 ∨ op = 10 ∨ op = 11 ∨ op = 12 ∨ op = 13 ∨ op = 14 ∨ op = 15 ∨ op = 16 ∨ op = 17 ∨ op = 18 ∨ op = 19 ∨ op = 20 ∨ op = 21 := by omega
  rcases hc with rfl | rfl | rfl | rfl | rfl | rfl | rfl | rfl | rfl | rfl | rfl | rfl | rfl | rfl | rfl | rfl | rfl | rfl | rfl | rfl | rfl | rfl <;> rfl
theorem osz_big (op : Nat) (h : 22 ≤ op) : osz op = 0 := by unfold osz; (repeat' split) <;> omega
theorem opnd_le (op : Nat) : opnd op ≤ 5 := by unfold opnd; (repeat' split) <;> omega
theorem osz0_le (o : Nat) : osz0 o ≤ 4 := by unfold osz0; (repeat' split) <;> omega
theorem rd_arg (s : ByteArray) (a : Nat) (h : bt s a < 22) (hf : a + osz (bt s a) ≤ s.size) : rdArg (opnd (bt s a)) (s.extract (a + 1) (a + 1 + osz0 (opnd (bt s a)))) = vArg s a ∧ rdCnt (opnd (bt s a)) (s.extract (a + 1) (a + 1 + osz0 (opnd (bt s a)))) = vCnt s a := by
  rw [osz_opnd _ h] at hf
  generalize hop : bt s a = op at *
  have hx : ∀ i, i < osz0 (opnd op) → bt (s.extract (a + 1) (a + 1 + osz0 (opnd op))) i = bt s (a + 1 + i) := fun i hi => bt_extract s _ _ i (by omega) (by omega)
  unfold vArg vCnt
  rw [hop]
  have hc : op = 0 ∨ op = 1 ∨ op = 2 ∨ op = 3 ∨ op = 4 ∨ op = 5 ∨ op = 6 ∨ op = 7 ∨ op = 8 ∨ op = 9 ∨ op = 10 ∨ op = 11 ∨ op = 12 ∨ op = 13 ∨ op = 14 ∨ op = 15 ∨ op = 16 ∨ op = 17 ∨ op = 18 ∨ op = 19 ∨ op = 20 ∨ op = 21 := by omega
  rcases hc with rfl | rfl | rfl | rfl | rfl | rfl | rfl | rfl | rfl | rfl | rfl | rfl | rfl | rfl | rfl | rfl | rfl | rfl | rfl | rfl | rfl | rfl
  all_goals simp only [opnd, osz0, reduceIte, Nat.reduceEqDiff, or_false, or_true, or_self] at hx ⊢
  all_goals simp [rdArg, rdCnt, s32, b32, b16, hx, Nat.add_assoc]
theorem size_setCells (b : Nat) : ∀ (vs : List Value) (o : Nat) (w : World), (w.setCells b o vs).heap.size = w.heap.size
  | [], _, _ => rfl
  | v :: r, o, w => by rw [World.setCells, size_setCells b r (o + 1), World.size_setCell]
theorem own_below {w w' : World} {base e size : Nat} {v : Value} {n : Nat} {xs : List Value} (h : w.ownsRow base e size v n xs) (hb : Below w.heap.size w w') : w'.ownsRow base e size v n xs :=
  h.kept (row := none) ⟨hb.os, hb.tape, hb.output, hb.size, fun i hi _ => hb.block i hi⟩ (by cases v.ownBlock <;> simp)
theorem own_sl {w : World} {base e size : Nat} {v : Value} {n : Nat} {xs : List Value} (h : w.ownsRow base e size v n xs) : ∃ ao cap, v = .slice ao n cap := by
  rcases h.2 with ⟨rfl, rfl⟩ | ⟨g, cap, cur, rfl, _⟩
  · exact ⟨none, 0, rfl⟩
  · exact ⟨_, cap, rfl⟩
theorem own_base {w : World} {base base' e size : Nat} {v : Value} {n : Nat} {xs : List Value} (h : w.ownsRow base e size v n xs) (hb : base' ≤ base) : w.ownsRow base' e size v n xs := by
  refine ⟨h.1, ?_⟩
  rcases h.2 with h2 | ⟨g, cap, cur, h3, h4, h5⟩
  · exact .inl h2
  · exact .inr ⟨g, cap, cur, h3, Nat.le_trans hb h4, h5⟩
theorem fresh6 {W w2 : World} {T : Nat} {v0 v1 v2 v3 v4 v5 : Value} (hb : Below (W.alloc (.cells #[v0, v1, v2, v3, v4, v5] T)).drew.heap.size (W.alloc (.cells #[v0, v1, v2, v3, v4, v5] T)).drew w2) : w2.heap[W.heap.size]? = some (.cells #[v0, v1, v2, v3, v4, v5] T (0, 0)) := (hb.block _ (by simp)).trans (heap_alloc_new W _)
theorem six {w : World} {g T : Nat} {v0 v1 v2 v3 v4 v5 : Value} (h : w.heap[g]? = some (.cells #[v0, v1, v2, v3, v4, v5] T (0, 0))) :
    w.cell? ⟨g, 0, none⟩ = some v0 ∧ w.cell? ⟨g, 1, none⟩ = some v1 ∧ w.cell? ⟨g, 2, none⟩ = some v2 ∧ w.cell? ⟨g, 3, none⟩ = some v3 ∧ w.cell? ⟨g, 4, none⟩ = some v4 ∧ w.cell? ⟨g, 5, none⟩ = some v5 ∧ ∀ j, w.frozen? ⟨g, j, none⟩ = false := by
  refine ⟨?_, ?_, ?_, ?_, ?_, ?_, fun j => by simp [World.frozen?, h]⟩ <;> rw [cell_of_row w g _ _ T (0, 0) h] <;> rfl
theorem six_then {C : Prop} {w : World} {g T : Nat} {v0 v1 v2 v3 v4 v5 : Value} (h : w.heap[g]? = some (.cells #[v0, v1, v2, v3, v4, v5] T (0, 0)))
    (k : w.cell? ⟨g, 0, none⟩ = some v0 → w.cell? ⟨g, 1, none⟩ = some v1 → w.cell? ⟨g, 2, none⟩ = some v2 → w.cell? ⟨g, 3, none⟩ = some v3 → w.cell? ⟨g, 4, none⟩ = some v4 → w.cell? ⟨g, 5, none⟩ = some v5 → (∀ j, w.frozen? ⟨g, j, none⟩ = false) → Hid (w.heap[g]? = some (.cells #[v0, v1, v2, v3, v4, v5] T (0, 0))) → C) : C := by
  obtain ⟨q0, q1, q2, q3, q4, q5, qf⟩ := six h
  exact k q0 q1 q2 q3 q4 q5 qf h
theorem readOperand_var (w : World) (o : Nat) (s : ByteArray) (ho : o ≤ 5) (hsz : s.size = osz0 o) (R : Ending → World → Prop)
    (fin : ∀ (A C : Int) w', Hid (A = rdArg o s) → Hid (C = rdCnt o s) → Below w.heap.size w w' → R (.returned (.agg #[.int .u8 0, .int .i64 0, .int .i64 A, .int .i64 C, .int .i64 0, .int .i64 0])) w') :
    Calls Tryz.prog 149 #[.int .u8 (o : Int), .string s] w R := readOperand_any w o s ho hsz R (fun w' h => fin _ _ w' rfl rfl h)
theorem own_nextV {w1 : World} {base T : Nat} {v1 : Value} {s : ByteArray} {l : List Nat} {a : Nat} {news : List Value}
    (h : w1.ownsRow base T 6 v1 (l.length + 1) (l.flatMap (stC s) ++ news)) (e : news = stC s a) : w1.ownsRow base T 6 v1 (l ++ [a]).length ((l ++ [a]).flatMap (stC s)) := by
  subst e; simpa using h
theorem infoStep3 : (Tryz.prog.info? 254).map (fun i => (i.zero, i.size, i.bytes)) = some (some (.agg #[.int .u8 0, .int .i64 0, .int .i64 0, .int .i64 0, .int .i64 0, .int .i64 0]), 6, 48) := by kernel_rfl
theorem ulSteps : Tryz.prog.underlying 113 = some (.slice 254) := by kernel_rfl
theorem oneC6V (s : ByteArray) (a : Nat) : ∀ u ∈ stC s a, u.oneCell' = true := by
  intro u hu; simp only [stC, List.mem_cons, List.not_mem_nil, or_false] at hu; rcases hu with rfl | rfl | rfl | rfl | rfl | rfl <;> rfl
set_option maxRecDepth 100000 in
set_option maxHeartbeats 4000000 in
theorem readCode_any (w : World) (s : ByteArray) (hs : s.size ≤ 8000) (R : Ending → World → Prop)
    (no : posF s (s.size + 1) 0 = none → ∀ w', Below w.heap.size w w' → R (.returned (.tuple #[.slice none 0 0, .bool false])) w')
    (yes : ∀ l, posF s (s.size + 1) 0 = some l → ∀ v w', Below w.heap.size w w' → w'.ownsRow w.heap.size 254 6 v l.length (l.flatMap (stC s)) → R (.returned (.tuple #[v, .bool true])) w') :
    Calls Tryz.prog 103 #[.string s] w R := by
  replace yes := hd yes
  replace no := hd no
  go_enter Tryz.func103, Tryz.ntmps103
  go_wp2_with (fail)
  refine table_any _ _ ?_
  intro cs w1 htab hbel1
  obtain ⟨hn, hone, nm, fv, hrow⟩ := htab
  have hthere : (w1.alloc (Obj.cells Tryz.zeroCells212 212)).there w1.heap.size 0 cs.size := there_of_block (heap_alloc_new _ _) (by rw [hn]; rfl)
  have hinfo : (Tryz.prog.info? 212).map (·.size) = some cs.size := by rw [hn]; exact infoTab
  have hrange := World.rangeAt_setCells_same _ w1.heap.size 0 cs.toList (by simpa using hthere)
  have hbel0 : Below w.heap.size w ((w1.alloc (Obj.cells Tryz.zeroCells212 212)).setCells w1.heap.size 0 cs.toList) := below_setCells hbel1.size _ _ _ (hbel1.alloc hbel1.size _)
  have hsz0 : ((w1.alloc (Obj.cells Tryz.zeroCells212 212)).setCells w1.heap.size 0 cs.toList).heap.size = w1.heap.size + 1 := by
    rw [size_setCells]; simp
  have hop : ∀ op, op < 22 → ((w1.alloc (Obj.cells Tryz.zeroCells212 212)).setCells w1.heap.size 0 cs.toList).cell? ⟨w1.heap.size, op * 5 + 1, none⟩ = some (.int .u8 (opnd op : Nat)) := fun op h => by
    have := hrange (op * 5 + 1) _ (by rw [Array.getElem?_toList]; exact (hrow op h).2.1)
    simpa using this
  have hle1 := hbel1.size
  replace hop := hd hop
  replace hrange := hd hrange
  replace hbel0 := hd hbel0
  replace hsz0 := hd hsz0
  replace hrow := hd hrow
  replace hbel1 := hd hbel1
  replace hthere := hd hthere
  replace hinfo := hd hinfo
  replace hone := hd hone
  go_wp2_with (refine wpList_store_mid rfl 212 _ _ rfl w1.heap.size 0 cs rfl rfl hthere.out hinfo.out hone.out ?_; generalize ((w1.alloc (Obj.cells Tryz.zeroCells212 212)).setCells w1.heap.size 0 cs.toList) = W0 at *)
  clear hthere hinfo hone hrange hrow hbel1
  generalize hb4 : w1.heap.size = b4 at *
  clear hb4
  go_loopw [5, 6] (fun out i wr => ∃ (l : List Nat) (a : Nat), a ≤ s.size ∧ l.length ≤ a ∧ i = .int .i64 a ∧ wr.ownsRow (b4 + 1) 254 6 out l.length (l.flatMap (stC s)) ∧ Below (b4 + 1) W0 wr ∧
      posF s (s.size + 1) 0 = (posF s (s.size + 1 - l.length) a).map (l ++ ·)) (fun _ i _ => s.size - (intOf i).toNat)
  case atStart => exact ⟨[], 0, by omega, by simp, rfl, World.ownsRow_nil _ _ _ _, Below.refl _ _, by simp⟩
  case round =>
    obtain ⟨l, a, ha, hla, rfl, hown, hbel, hpos⟩ := hrel
    have hbs : b4 + 1 ≤ wr.heap.size := by have := hbel.size; have := hsz0.out; omega
    have hml : l.length + 1 ≤ maxLen := by unfold maxLen; omega
    have hml2 : (l.length + 1) * 48 ≤ 140737488355328 := by omega
    have hbw : Hid (Below w.heap.size w wr) := hd (hbel0.out.trans (hbel.mono (by omega)))
    by_cases hlt : a < s.size
    · have hb0 := bt_of s a hlt
      have hle := bt_le s a
      replace hown := hd hown
      replace hpos := hd hpos
      by_cases h22 : 22 ≤ bt s a
      · have d22 : decide ((22 : Int) ≤ (bt s a : Int)) = true := by simp; omega
        replace hbel := hd hbel
        go_wp2
        exact cl1 (no.out (posF_bad s _ a l hpos.out (by omega) hlt (.inl (osz_big _ h22))) _ hbw.out) rfl
      · have d22 : decide ((22 : Int) ≤ (bt s a : Int)) = false := by simp; omega
        have i22 : (bt s a : Int) < 22 := by omega
        have c1 : wr.cell? ⟨b4, bt s a * 5 + 1, none⟩ = some (.int .u8 (opnd (bt s a) : Nat)) := by rw [hbel.cell (by simp)]; exact hop.out _ (by omega)
        have hos := osz_opnd (bt s a) (by omega)
        have ho5 := opnd_le (bt s a)
        have ho4 := osz0_le (opnd (bt s a))
        replace hbel := hd hbel
        by_cases hfit : a + osz (bt s a) ≤ s.size
        · have dfit : decide ((s.size : Int) < (a : Int) + 1 + (osz0 (opnd (bt s a)) : Int)) = false := by simp; omega
          have hrd := rd_arg s a (by omega) hfit
          have j1 : 0 ≤ (a : Int) + 1 ∧ (a : Int) + 1 ≤ (a : Int) + 1 + (osz0 (opnd (bt s a)) : Int) := by omega
          have j2 : (a : Int) + 1 + (osz0 (opnd (bt s a)) : Int) ≤ (s.size : Int) := by omega
          replace hrd := hd hrd
          have hb4lt : b4 < wr.heap.size := by omega
          replace hos := hd hos
          go_wp2_with (first | (go_at_call 148; refine operandSize_any _ _ ho5 _ ?_))
          go_region_with (go_at_call 149; refine readOperand_var _ _ _ ho5 (by rw [ByteArray.size_extract]; omega) _ ?_; intro A C w2 hA hC hb2; have hbr := hd (bel_step (show Below wr.heap.size wr _ from (by repeat (first | with_reducible exact Below.refl _ _ | with_reducible refine below_drewN ?_ _ | with_reducible refine Below.drew ?_ | with_reducible refine Below.alloc ?_ (by simp) _ | with_reducible refine Below.setCell ?_ (by simp) _))) (Nat.le_refl _) hb2); have hsz2 := hd hbr.out.size; first | (refine six_then (fresh6 hb2) ?_; intro q0 q1 q2 q3 q4 q5 qf qh) | skip; replace hb2 := hd hb2)
          · have hblk := heap_alloc_new w2 (Obj.cells #[Value.int .u8 0, .int .i64 0, .int .i64 A, .int .i64 C, .int .i64 0, .int .i64 0] 254)
            have hbW := hbr.out.alloc hsz2.out (Obj.cells #[Value.int .u8 0, .int .i64 0, .int .i64 A, .int .i64 C, .int .i64 0, .int .i64 0] 254)
            have hg3 := hsz2.out
            generalize w2.alloc (Obj.cells #[Value.int .u8 0, .int .i64 0, .int .i64 A, .int .i64 C, .int .i64 0, .int .i64 0] 254) = W3 at hblk hbW ⊢
            generalize w2.heap.size = g3 at hblk hg3 ⊢
            obtain ⟨c30, c31, c32, c33, c34, c35, f3⟩ := six hblk
            replace hblk := hd hblk
            replace hbW := hd hbW
            replace hg3 := hd hg3
            have hv := hd (show [Value.int .u8 (bt s a : Int), .int .i64 (a : Int), .int .i64 A, .int .i64 C, .int .i64 0, .int .i64 0] = stC s a by
              have e : ((a : Int) + 1 + (osz0 (opnd (bt s a)) : Int)).toNat = a + 1 + osz0 (opnd (bt s a)) := by omega
              have h1 := hA.out
              have h2 := hC.out
              rw [e, hrd.out.1] at h1
              rw [e, hrd.out.2] at h2
              rw [h1, h2]; rfl)
            go_wp2_with (first | (at_builtin; refine wpList_app _ rfl _ _ 113 rfl (b4 + 1) 254 _ 6 48 ulSteps infoStep3 rfl (by decide) _ _ _ rfl (by exact own_below hown.out (Below.alloc (Below.setCell (Below.setCell hbW.out hg3.out _) hg3.out _) (by simp only [World.size_setCell]; exact hbW.out.size) _)) _ 1 1 _ rfl (alloc_at (by simp)) rfl (by intro u hu; rw [hv.out] at hu; revert hu; exact oneC6V s a u) hml hml2 (by simp only [World.size_alloc, World.size_setCell]; have := hbW.out.size; omega) ?_; intro v1 w4 hown1 hgr1; replace hown1 := hd hown1; replace hgr1 := hd hgr1))
            have h0 : osz (bt s a) ≠ 0 := by have := hos.out; omega
            refine ⟨⟨l ++ [a], a + osz (bt s a), hfit, by simp; omega, ?_, own_nextV hown1.out hv.out, ?_, posF_next s _ a _ l hpos.out (by omega) hlt rfl h0 hfit⟩, ?_⟩
            · rw [hos.out]; congr 1; omega
            · exact (hbel.out.trans ((Below.alloc (Below.setCell (Below.setCell hbW.out hg3.out _) hg3.out _) (by simp only [World.size_setCell]; exact hbW.out.size) _).mono hbs)).grown hgr1.out (by simp only [World.size_alloc, World.size_setCell]; have := hbW.out.size; omega) (fun k hk => (hown.out.lt k hk).1)
            · simp only [intOf]; omega
          all_goals
            have hblk : ((((((w2.setCell ⟨wr.heap.size, 0, none⟩ (.int .u8 0)).setCell ⟨wr.heap.size, 1, none⟩ (.int .i64 0)).setCell ⟨wr.heap.size, 2, none⟩ (.int .i64 A)).setCell ⟨wr.heap.size, 3, none⟩ (.int .i64 C)).setCell ⟨wr.heap.size, 4, none⟩ (.int .i64 0)).setCell ⟨wr.heap.size, 5, none⟩ (.int .i64 0)).heap[wr.heap.size]? = some (.cells #[Value.int .u8 0, .int .i64 0, .int .i64 A, .int .i64 C, .int .i64 0, .int .i64 0] 254 (0, 0)) := blk6 qh.out
            have hbW : Below wr.heap.size wr ((((((w2.setCell ⟨wr.heap.size, 0, none⟩ (.int .u8 0)).setCell ⟨wr.heap.size, 1, none⟩ (.int .i64 0)).setCell ⟨wr.heap.size, 2, none⟩ (.int .i64 A)).setCell ⟨wr.heap.size, 3, none⟩ (.int .i64 C)).setCell ⟨wr.heap.size, 4, none⟩ (.int .i64 0)).setCell ⟨wr.heap.size, 5, none⟩ (.int .i64 0)) := (((((hbr.out.setCell (Nat.le_refl _) _).setCell (Nat.le_refl _) _).setCell (Nat.le_refl _) _).setCell (Nat.le_refl _) _).setCell (Nat.le_refl _) _).setCell (Nat.le_refl _) _
            clear q0 q1 q2 q3 q4 q5 qf qh
            generalize ((((((w2.setCell ⟨wr.heap.size, 0, none⟩ (.int .u8 0)).setCell ⟨wr.heap.size, 1, none⟩ (.int .i64 0)).setCell ⟨wr.heap.size, 2, none⟩ (.int .i64 A)).setCell ⟨wr.heap.size, 3, none⟩ (.int .i64 C)).setCell ⟨wr.heap.size, 4, none⟩ (.int .i64 0)).setCell ⟨wr.heap.size, 5, none⟩ (.int .i64 0)) = W3 at hblk hbW ⊢
            obtain ⟨g3, hg3e⟩ : ∃ g3, wr.heap.size = g3 := ⟨_, rfl⟩
            rw [hg3e] at hblk ⊢
            have hg3 : wr.heap.size ≤ g3 := Nat.le_of_eq hg3e
            clear hg3e
            obtain ⟨c30, c31, c32, c33, c34, c35, f3⟩ := six hblk
            replace hblk := hd hblk
            replace hbW := hd hbW
            replace hg3 := hd hg3
            have hv := hd (show [Value.int .u8 (bt s a : Int), .int .i64 (a : Int), .int .i64 A, .int .i64 C, .int .i64 0, .int .i64 0] = stC s a by
              have e : ((a : Int) + 1 + (osz0 (opnd (bt s a)) : Int)).toNat = a + 1 + osz0 (opnd (bt s a)) := by omega
              have h1 := hA.out
              have h2 := hC.out
              rw [e, hrd.out.1] at h1
              rw [e, hrd.out.2] at h2
              rw [h1, h2]; rfl)
            go_wp2_with (first | (at_builtin; refine wpList_app _ rfl _ _ 113 rfl (b4 + 1) 254 _ 6 48 ulSteps infoStep3 rfl (by decide) _ _ _ rfl (by exact own_below hown.out (Below.alloc (Below.setCell (Below.setCell hbW.out hg3.out _) hg3.out _) (by simp only [World.size_setCell]; exact hbW.out.size) _)) _ 1 1 _ rfl (alloc_at (by simp)) rfl (by intro u hu; rw [hv.out] at hu; revert hu; exact oneC6V s a u) hml hml2 (by simp only [World.size_alloc, World.size_setCell]; have := hbW.out.size; omega) ?_; intro v1 w4 hown1 hgr1; replace hown1 := hd hown1; replace hgr1 := hd hgr1))
            have h0 : osz (bt s a) ≠ 0 := by have := hos.out; omega
            refine ⟨⟨l ++ [a], a + osz (bt s a), hfit, by simp; omega, ?_, own_nextV hown1.out hv.out, ?_, posF_next s _ a _ l hpos.out (by omega) hlt rfl h0 hfit⟩, ?_⟩
            · rw [hos.out]; congr 1; omega
            · exact (hbel.out.trans ((Below.alloc (Below.setCell (Below.setCell hbW.out hg3.out _) hg3.out _) (by simp only [World.size_setCell]; exact hbW.out.size) _).mono hbs)).grown hgr1.out (by simp only [World.size_alloc, World.size_setCell]; have := hbW.out.size; omega) (fun k hk => (hown.out.lt k hk).1)
            · simp only [intOf]; omega
        · have dfit : decide ((s.size : Int) < (a : Int) + 1 + (osz0 (opnd (bt s a)) : Int)) = true := by simp; omega
          go_wp2_with (first | (go_at_call 148; refine operandSize_any _ _ ho5 _ ?_))
          exact cl1 (no.out (posF_bad s _ a l hpos.out (by omega) hlt (.inr (by omega))) _ hbw.out) rfl
    · replace hbel := hd hbel
      replace hpos := hd hpos
      obtain ⟨ao, cap, rfl⟩ := own_sl hown
      replace hown := hd hown
      go_wp2
      exact cl1 (yes.out l (posF_end s _ a l hpos.out (by omega) hlt) _ _ hbw.out (own_base hown.out (by omega))) rfl

end Go.Proofs.YtidhiaaicmfabaaGreatDoor
