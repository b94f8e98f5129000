/- The contract of the document's own function goes: what is known ahead of each instruction, from the first to the last. -/
import Derived.Test.YtidhiaaicmfabaaGreatMem
import Derived.Test.YtidhiaaicmfabaaGreatSpec
import Derived.Test.YtidhiaaicmfabaaGreatRefA
import Derived.Test.YtidhiaaicmfabaaGreatRefC
import Derived.Test.YtidhiaaicmfabaaGreatSpec2
import Derived.WalkKit
import Derived.WalkSpells
import Derived.WalkLawsBesides
import Derived.Deep.OwnRows
import Derived.BigQuiet
import Derived.Handy
import Derived.Deep.Light
import Derived.Deep.RegionHeld3
import Derived.Deep.RegionWith
namespace Go.Proofs.YtidhiaaicmfabaaGreat
open Go.RowKit Go.Proofs Go.Deep

def isJump2 (op : Nat) : Prop := op = 17 ∨ op = 18
theorem infoMake : (Tryz.prog.info? 3).map (fun i => (i.zero, i.size, i.bytes)) = some (some (.int .i64 0), 1, 8) := by kernel_rfl

theorem keep_cell {w : World} {a p q : Addr} {v u1 u2 : Value} {o : Obj} (h : w.cell? a = some v) (h1 : p ≠ a) (h2 : q ≠ a) : (((w.setCell p u1).setCell q u2).alloc o).drew.cell? a = some v := by
  have hb := World.block_lt_of_cell? w a h
  show (((w.setCell p u1).setCell q u2).alloc o).cell? a = some v
  rw [World.cell?_alloc_lt _ _ _ (by rw [World.size_setCell, World.size_setCell]; exact hb), World.cell?_setCell_other _ _ _ _ h2, World.cell?_setCell_other _ _ _ _ h1]
  exact h
theorem cell_set_alloc {w : World} {a : Addr} {v u : Value} {o : Obj} (h : w.cell? a = some v) : ((w.setCell a u).alloc o).cell? a = some u := by
  have hb := World.block_lt_of_cell? w a h
  rw [World.cell?_alloc_lt _ _ _ (by rw [World.size_setCell]; exact hb), World.cell?_setCell_same _ _ _ h]

section
variable {op ToN : Nat → Nat} {N : Nat → Int} {n k : Nat} {H L : Nat → Int} {X : Option Int}
theorem go_unf (h : X = refGo op N ToN n (n - k) k H L) (hk : k < n) : X = (if op k = 0 then (if H k = 0 ∧ k + 1 = n then some (L k + 1) else none)
    else match refStep op N ToN k H L with | none => none | some S => refGo op N ToN n (n - (k + 1)) (k + 1) S.1 S.2) := by
  rw [h]
  obtain ⟨F, hF⟩ : ∃ F, n - k = F + 1 := ⟨n - k - 1, by omega⟩
  have hF' : n - (k + 1) = F := by omega
  rw [hF, hF']; rfl
theorem go_bad (h : X = refGo op N ToN n (n - k) k H L) (hk : k < n) (hb : H k < popsOf (op k) ∨ 32 < H k - popsOf (op k) + pushesOf (op k)) : X = none := by
  rw [go_unf h hk]
  by_cases e : op k = 0
  · rw [e] at hb
    have p : popsOf 0 = 0 := rfl
    have q : pushesOf 0 = 0 := rfl
    rw [p, q] at hb
    rw [if_pos e, if_neg (by omega)]
  · rw [if_neg e]
    have : refStep op N ToN k H L = none := by unfold refStep; rw [if_pos hb]
    rw [this]
theorem go_none (h : X = refGo op N ToN n (n - k) k H L) (hk : k < n) (e : op k ≠ 0) (hs : refStep op N ToN k H L = none) : X = none := by
  rw [go_unf h hk, if_neg e, hs]
theorem go_some (h : X = refGo op N ToN n (n - k) k H L) (hk : k < n) (e : op k ≠ 0) {S : (Nat → Int) × (Nat → Int)} (hs : refStep op N ToN k H L = some S) : X = refGo op N ToN n (n - (k + 1)) (k + 1) S.1 S.2 := by
  rw [go_unf h hk, if_neg e, hs]
theorem go_end (h : X = refGo op N ToN n (n - k) k H L) (hk : ¬ k < n) : X = none := by
  rw [h]
  have : n - k = 0 := by omega
  rw [this]; rfl
end
def GRel (w : World) (op ToN : Nat → Nat) (N : Nat → Int) (n : Nat) (i : Value) (wr : World) : Prop :=
  ∃ (k : Nat) (H L : Nat → Int), k ≤ n ∧ i = .int .i64 k ∧ Below w.heap.size w wr ∧ w.heap.size + 2 ≤ wr.heap.size ∧
    wr.rowIs w.heap.size 3 (n + 1) (fun j => .int .i64 (H j)) ∧ wr.rowIs (w.heap.size + 1) 3 (n + 1) (fun j => .int .i64 (L j)) ∧
    (∀ j, -1 ≤ H j ∧ H j ≤ 32) ∧ (∀ j, 0 ≤ L j ∧ L j ≤ 1099511627776 + k) ∧ refGo op N ToN n n 0 H0 L0 = refGo op N ToN n (n - k) k H L
theorem GRel.drew {w : World} {op ToN : Nat → Nat} {N : Nat → Int} {n : Nat} {i : Value} {wr : World} (h : GRel w op ToN N n i wr) : GRel w op ToN N n i wr.drew := by
  obtain ⟨k, H, L, a, b, c, r⟩ := h
  exact ⟨k, H, L, a, b, c.drew, r⟩
theorem GRel.alloc {w : World} {op ToN : Nat → Nat} {N : Nat → Int} {n : Nat} {i : Value} {wr : World} (h : GRel w op ToN N n i wr) (o : Obj) : GRel w op ToN N n i (wr.alloc o) := by
  obtain ⟨k, H, L, a, b, c, d, e, f, r⟩ := h
  exact ⟨k, H, L, a, b, c.alloc (by omega) _, by simp; omega, e.alloc _, f.alloc _, r⟩
theorem GRel.next {w W : World} {op ToN : Nat → Nat} {N : Nat → Int} {n k t : Nat} {H L : Nat → Int} {h d m : Int} (hk : k < n) (hbel : Below w.heap.size w W) (hsz : w.heap.size + 2 ≤ W.heap.size)
    (rh : W.rowIs w.heap.size 3 (n + 1) (fun j => .int .i64 (H j))) (rl : W.rowIs (w.heap.size + 1) 3 (n + 1) (fun j => .int .i64 (L j)))
    (hH : ∀ j, -1 ≤ H j ∧ H j ≤ 32) (hL : ∀ j, 0 ≤ L j ∧ L j ≤ 1099511627776 + (k + 1 : Nat)) (hh : -1 ≤ h ∧ h ≤ 32) (hdd : 0 ≤ d ∧ d ≤ 1099511627776 + (k + 1 : Nat)) (hm : m = max (L t) d)
    (hgo : refGo op N ToN n n 0 H0 L0 = refGo op N ToN n (n - (k + 1)) (k + 1) (upd H t h) (upd L t (max (L t) d))) :
    GRel w op ToN N n (.int .i64 ((k : Int) + 1)) ((W.setCell ⟨w.heap.size, t, none⟩ (.int .i64 h)).setCell ⟨w.heap.size + 1, t, none⟩ (.int .i64 m)) := by
  have hr := join_rows (bh := w.heap.size) (bl := w.heap.size + 1) (i := t) (h := h) (by omega) hm rh rl
  refine ⟨k + 1, _, _, by omega, by go_num, (hbel.setCell (Nat.le_refl _) _).setCell (Nat.le_succ _) _, by rw [World.size_setCell, World.size_setCell]; exact hsz, hr.1, hr.2, fun j => ?_, fun j => ?_, hgo⟩
  · unfold upd; split
    · exact hh
    · exact hH j
  · have h1 := hL t
    have h2 := hL j
    unfold upd; split <;> omega


theorem six6 {w : World} {g T : Nat} {v0 v1 v2 v3 v4 v5 : Value} (h : w.heap[g]? = some (.cells #[v0, v1, v2, v3, v4, v5] T (0, 0))) : w.cell? ⟨g, 1, none⟩ = some v1 ∧ w.cell? ⟨g, 4, none⟩ = some v4 := by
  refine ⟨?_, ?_⟩ <;> rw [cell_of_row w g _ _ T (0, 0) h] <;> rfl
/-- What join leaves behind. -/
structure JOut (w : World) (bh bl : Nat) (H L : Nat → Int) (i : Nat) (h d : Int) (r : Bool) (w' : World) : Prop where
  no : r = false → (0 ≤ H i ∧ H i ≠ h) ∧ w' = w
  yes : r = true → ¬ (0 ≤ H i ∧ H i ≠ h) ∧ w' = (w.setCell ⟨bh, i, none⟩ (.int .i64 h)).setCell ⟨bl, i, none⟩ (.int .i64 (max (L i) d))
theorem JOut.keep {w : World} {bh bl : Nat} {H L : Nat → Int} {i : Nat} {h d : Int} {r : Bool} {w' : World} (hj : JOut w bh bl H L i h d r w') {a : Addr} {v : Value} (ha : w.cell? a = some v)
    (h1 : ⟨bh, i, none⟩ ≠ a) (h2 : ⟨bl, i, none⟩ ≠ a) : w'.cell? a = some v := by
  cases r with
  | false => rw [(hj.no rfl).2]; exact ha
  | true => rw [(hj.yes rfl).2, World.cell?_setCell_other _ _ _ _ h2, World.cell?_setCell_other _ _ _ _ h1]; exact ha
theorem joinB (w : World) (bh bl n : Nat) (i : Nat) (ii : Int) (H L : Nat → Int) (h d : Int) (hii : ii = (i : Int)) (hi : i < n) (hn : n ≤ 10000) (hne : bh ≠ bl)
    (rh : w.rowIs bh 3 n (fun j => .int .i64 (H j))) (rl : w.rowIs bl 3 n (fun j => .int .i64 (L j)))
    (R : Ending → World → Prop) (fin : ∀ (r : Bool) (w' : World), Hid (JOut w bh bl H L i h d r w') → R (.returned (.bool r)) w') :
    Calls Tryz.prog 96 #[.slice (some ⟨bh, 0, none⟩) n n, .slice (some ⟨bl, 0, none⟩) n n, .int .i64 ii, .int .i64 h, .int .i64 d] w R := by
  subst hii
  refine join_any w bh bl n i H L h d hi hn hne rh rl R (fun h1 h2 => fin false w ⟨fun _ => ⟨⟨h1, h2⟩, rfl⟩, fun e => by cases e⟩) (fun m hm hc => fin true _ ⟨fun e => by (cases e), fun _ => ⟨fun hx => ?_, by rw [hm]⟩⟩)
  rcases hc with hc | hc <;> omega
set_option maxRecDepth 100000 in
set_option maxHeartbeats 40000000 in
theorem goes_any (w : World) (bx b n cap : Nat) (at_ op C ToN : Nat → Nat) (N To In : Nat → Int) (b0 : Int) (hn : n ≤ 8000) (hn0 : 0 < n) (_hne : bx ≠ b)
    (hx1 : w.cell? ⟨bx, 1, none⟩ = some (.slice (some ⟨b, 0, none⟩) n cap)) (hx2 : w.cell? ⟨bx, 2, none⟩ = some (.int .i64 b0)) (fx : w.frozen? ⟨bx, 2, none⟩ = false)
    (ht : Tab w b 109 6 n cap (codeA at_ op C N To In))
    (hTo : ∀ i, i < n → (op i = 17 ∨ op i = 18 ∨ op i = 20) → To i = (ToN i : Int))
    (hJ : ∀ i, i < n → (op i = 17 ∨ op i = 18) → i < ToN i ∧ ToN i < n) (hF : ∀ i, i < n → op i = 20 → ToN i < i ∧ op (ToN i) = 19)
    (hN : ∀ i, i < n → op i = 19 → 1 ≤ N i ∧ N i ≤ 65535)
    (R : Ending → World → Prop)
    (no : refGo op N ToN n n 0 H0 L0 = none → ∀ w', Only bx w w' → R (.returned (.bool false)) w')
    (yes : ∀ bd, refGo op N ToN n n 0 H0 L0 = some bd → 1 ≤ bd → bd ≤ 1100000000000 → ∀ w', Only bx w w' → w'.cell? ⟨bx, 2, none⟩ = some (.int .i64 bd) → (∃ w1, Below w.heap.size w w1 ∧ w' = w1.setCell ⟨bx, 2, none⟩ (.int .i64 bd)) → R (.returned (.bool true)) w') :
    Calls Tryz.prog 46 #[.pointer (some ⟨bx, 0, none⟩)] w R := by
  replace yes := hd yes
  replace no := hd no
  have hbx : bx < w.heap.size := World.block_lt_of_cell? w _ hx1
  have hb := ht.lt
  replace ht := hd ht
  replace hTo := hd hTo
  replace hJ := hd hJ
  replace hF := hd hF
  replace hN := hd hN
  have hmk := run_make_row' (P := Tryz.prog) 42 3 (.int .i64 0) 8 ulInts infoMake rfl .i64 .i64 (n + 1) (by omega) (by omega)
  have ec : ((n + 1 : Nat) : Int) = (n : Int) + 1 := by omega
  rw [ec] at hmk
  clear ec
  go_enter Tryz.func46, Tryz.ntmps46
  go_wp2
  go_loopw [6] (fun i wr => ∃ k : Nat, k ≤ n + 1 ∧ i = .int .i64 k ∧ Below w.heap.size w wr ∧ wr.heap.size = w.heap.size + 2 ∧
      wr.rowIs w.heap.size 3 (n + 1) (fun j => .int .i64 (if j < k then -1 else 0)) ∧ wr.rowIs (w.heap.size + 1) 3 (n + 1) (fun j => .int .i64 (L0 j))) (fun i _ => n + 1 - (intOf i).toNat)
  case atStart =>
    refine ⟨0, by omega, rfl, (by repeat (first | exact Below.refl _ _ | refine below_drewN ?_ _ | refine Below.drew ?_ | refine Below.alloc ?_ (by simp) _ | refine Below.setCell ?_ (by simp) _)), by simp, ?_, ?_⟩
    · exact (((World.rowIs_made w (.int .i64 0) (n + 1) 3).alloc _)).congr (fun j _ => by simp)
    · have := World.rowIs_made (w.alloc (Obj.cells (madeCells #[Value.int IntKind.i64 0] (n + 1)) 3)) (.int .i64 0) (n + 1) 3
      simpa [L0] using this
  case round =>
    obtain ⟨k, hk, rfl, hbel, hsz, rh, rl⟩ := hrel
    replace hbel := hd hbel
    by_cases hlt : k < n + 1
    · have c0 := rh.cell hlt
      have f0 := rh.frozen k
      replace rh := hd rh
      replace rl := hd rl
      replace hsz := hd hsz
      go_wp2
      refine ⟨⟨k + 1, by omega, by go_num, hbel.out.setCell (Nat.le_refl _) _, by rw [World.size_setCell]; exact hsz.out, (rh.out.set k _).congr (fun j _ => ?_), rl.out.setOther (a := ⟨w.heap.size, k, none⟩) (by simp) _⟩, by simp [intOf]; omega⟩
      by_cases e : j = k
      · subst e; simp
      · simp only [e, if_false]; congr 1; (repeat' split) <;> omega
    · have hk1 := hd (show k = n + 1 by omega)


      have c0 := rh.cell (show 0 < n + 1 by omega)
      have f0 := rh.frozen 0
      replace rh := hd rh
      replace rl := hd rl
      replace hsz := hd hsz
      go_wp2
      generalize Value.bool (decide (k ≤ n)) = q29
      go_loopw [7] (fun i wr => GRel w op ToN N n i wr) (fun i _ => n - (intOf i).toNat)
      case atStart =>
        refine ⟨0, H0, L0, by omega, rfl, hbel.out.setCell (Nat.le_refl _) _, by rw [World.size_setCell]; exact Nat.le_of_eq hsz.out.symm, (rh.out.set 0 _).congr (fun j hj => ?_), rl.out.setOther (a := ⟨w.heap.size, 0, none⟩) (by simp) _, fun j => ?_, fun j => ?_, rfl⟩
        · unfold H0; by_cases e : j = 0
          · simp [e]
          · simp only [e, if_false]; rw [if_pos (by have := hk1.out; omega)]
        · unfold H0; split <;> omega
        · unfold L0; omega
      case round =>
        clear c0 f0 rh rl hsz hbel
        obtain ⟨k, H, L, hk, rfl, hbel, hsz, rh, rl, hH, hL, hgo⟩ := hrel
        replace hgo := hd hgo
        by_cases hlt : k < n
        · have hx1' : wr.cell? ⟨bx, 1, none⟩ = some (.slice (some ⟨b, 0, none⟩) n cap) := by rw [hbel.cell hbx]; exact hx1
          have htab : Tab wr b 109 6 n cap (codeA at_ op C N To In) := ht.out.of_block (hbel.block b hb)
          have e0 : wr.cell? ⟨b, k * 6, none⟩ = some (.int .i64 (at_ k)) := htab.cell0 hlt (by omega)
          have e1 : wr.cell? ⟨b, k * 6 + 1, none⟩ = some (.int .i64 (op k)) := htab.cell hlt (f := 1) (by omega)
          have e2 : wr.cell? ⟨b, k * 6 + 2, none⟩ = some (.int .i64 (C k)) := htab.cell hlt (f := 2) (by omega)
          have e3 : wr.cell? ⟨b, k * 6 + 3, none⟩ = some (.int .i64 (N k)) := htab.cell hlt (f := 3) (by omega)
          have e4 : wr.cell? ⟨b, k * 6 + 4, none⟩ = some (.int .i64 (To k)) := htab.cell hlt (f := 4) (by omega)
          have e5 : wr.cell? ⟨b, k * 6 + 5, none⟩ = some (.int .i64 (In k)) := htab.cell hlt (f := 5) (by omega)
          have hbr : b < wr.heap.size := htab.lt
          replace hbel := hd hbel
          replace htab := hd htab
          replace hH := hd hH
          replace hL := hd hL
          replace rh := hd rh
          replace rl := hd rl
          replace hsz := hd hsz
          go_wp2_with (fail)
          refine effect_any _ _ _ ?_
          have h5 := heap_alloc_new wr (Obj.cells #[Value.int .i64 (at_ k : Int), .int .i64 (op k : Int), .int .i64 (C k : Int), .int .i64 (N k), .int .i64 (To k), .int .i64 (In k)] 109)
          have hal : Below wr.heap.size wr (wr.alloc (Obj.cells #[Value.int .i64 (at_ k : Int), .int .i64 (op k : Int), .int .i64 (C k : Int), .int .i64 (N k), .int .i64 (To k), .int .i64 (In k)] 109)) := (Below.refl _ _).alloc (Nat.le_refl _) _
          generalize (wr.alloc (Obj.cells #[Value.int .i64 (at_ k : Int), .int .i64 (op k : Int), .int .i64 (C k : Int), .int .i64 (N k), .int .i64 (To k), .int .i64 (In k)] 109)) = W1 at h5 hal ⊢
          obtain ⟨s1, s4⟩ := six6 h5
          have l5 := (Array.getElem?_eq_some_iff.1 h5).1
          have hbel1 : Below w.heap.size w W1 := hbel.out.trans (hal.mono (by have := hsz.out; omega))
          have hsz1 : w.heap.size + 2 ≤ W1.heap.size := Nat.le_trans hsz.out hal.size
          have rh1 : W1.rowIs w.heap.size 3 (n + 1) (fun j => .int .i64 (H j)) := rh.out.of_block (hal.block _ (by have := hsz.out; omega))
          have rl1 : W1.rowIs (w.heap.size + 1) 3 (n + 1) (fun j => .int .i64 (L j)) := rl.out.of_block (hal.block _ (by have := hsz.out; omega))
          have htab1 : Tab W1 b 109 6 n cap (codeA at_ op C N To In) := htab.out.of_block (hal.block b hbr)
          have hx11 : W1.cell? ⟨bx, 1, none⟩ = some (.slice (some ⟨b, 0, none⟩) n cap) := by rw [hbel1.cell hbx]; exact hx1
          have x2 : W1.cell? ⟨bx, 2, none⟩ = some (.int .i64 b0) := by rw [hbel1.cell hbx]; exact hx2
          have f2 : W1.frozen? ⟨bx, 2, none⟩ = false := by rw [hbel1.frozen hbx]; exact fx
          have hg5 : w.heap.size + 2 ≤ wr.heap.size := hsz.out
          generalize wr.heap.size = g5 at h5 s1 s4 l5 hg5 ⊢
          clear e0 e1 e2 e3 e4 e5 hal hbel hsz rh rl htab hx1' hbr hmk h5 hx1 hx2 fx ht
          have ch := rh1.cell (show k < n + 1 by omega)
          have cl := rl1.cell (show k < n + 1 by omega)
          have bH := hH.out k
          have bL := hL.out k
          replace rh1 := hd rh1
          replace rl1 := hd rl1
          replace hbel1 := hd hbel1
          replace htab1 := hd htab1
          have hpo : popsOf (op k) ≤ 2 := by unfold popsOf; (repeat' split) <;> omega
          have hpu : pushesOf (op k) ≤ 1 := by unfold pushesOf; (repeat' split) <;> omega
          by_cases hbad : H k < popsOf (op k) ∨ 32 < H k - popsOf (op k) + pushesOf (op k)
          · have hno := hd (go_bad hgo.out hlt hbad)
            by_cases hb1 : H k < popsOf (op k)
            · have d1 : decide (H k < (popsOf (op k) : Int)) = true := by simpa using hb1
              clear hbad
              go_wp2
              exact cl1 (no.out hno.out _ (Only.of_below hbel1.out)) rfl
            · have d1 : decide (H k < (popsOf (op k) : Int)) = false := by simpa using hb1
              have d2 : decide (32 < H k - (popsOf (op k) : Int) + (pushesOf (op k) : Int)) = true := by simp; omega
              clear hbad
              go_wp2
              exact cl1 (no.out hno.out _ (Only.of_below hbel1.out)) rfl
          · have d1 : decide (H k < (popsOf (op k) : Int)) = false := by simp; omega
            have d2 : decide (32 < H k - (popsOf (op k) : Int) + (pushesOf (op k) : Int)) = false := by simp; omega
            have hh : -1 ≤ H k - (popsOf (op k) : Int) + (pushesOf (op k) : Int) ∧ H k - (popsOf (op k) : Int) + (pushesOf (op k) : Int) ≤ 32 := by omega
            have hL1 := hd (fun j => (show 0 ≤ L j ∧ L j ≤ 1099511627776 + ((k + 1 : Nat) : Int) by have := hL.out j; omega))
            have hst := hd (show ∀ A B : Option ((Nat → Int) × (Nat → Int)), (if H k < popsOf (op k) ∨ 32 < H k - popsOf (op k) + pushesOf (op k) then A else B) = B from fun A B => if_neg hbad)
            have hwr : IntKind.i64.wrap (L k + 1) = L k + 1 := IntWalk.i64_in _ (by omega)
            have hwk : IntKind.i64.wrap ((k : Int) + 1) = (k : Int) + 1 := IntWalk.i64_in _ (by omega)
            clear hbad
            by_cases h0 : op k = 0
            · as_aux_lemma =>
                have t0 : ((op k : Int) == 0) = true := by simp [h0]
                have pq : H k - (popsOf (op k) : Int) + (pushesOf (op k) : Int) = H k := by
                  have p : popsOf 0 = 0 := rfl
                  have q : pushesOf 0 = 0 := rfl
                  rw [h0, p, q]; omega
                have hun := hd (go_unf hgo.out hlt)
                have hset := hd (World.cell?_setCell_same W1 ⟨bx, 2, none⟩ (.int .i64 (L k + 1)) x2)
                replace pq := hd pq
                replace h0 := hd h0
                by_cases hz : H k = 0
                · have dz : (H k - (popsOf (op k) : Int) + (pushesOf (op k) : Int) == 0) = true := by rw [pq.out]; simpa using hz
                  by_cases hl : k + 1 = n
                  · have dl : ((k : Int) == (n : Int) - 1) = true := by simp; omega
                    replace hz := hd hz
                    go_wp2
                    exact cl1 (yes.out (L k + 1) (by rw [hun.out, if_pos h0.out, if_pos ⟨hz.out, hl⟩]) (by omega) (by omega) _ ((Only.of_below hbel1.out).setCell (a := ⟨bx, 2, none⟩) (.inl rfl) _) hset.out ⟨_, hbel1.out, rfl⟩) rfl
                  · have dl : ((k : Int) == (n : Int) - 1) = false := by simp; omega
                    replace hz := hd hz
                    go_wp2
                    exact cl1 (no.out (by rw [hun.out, if_pos h0.out, if_neg (fun h => hl h.2)]) _ ((Only.of_below hbel1.out).setCell (a := ⟨bx, 2, none⟩) (.inl rfl) _)) rfl
                · have dz : (H k - (popsOf (op k) : Int) + (pushesOf (op k) : Int) == 0) = false := by rw [pq.out]; simpa using hz
                  go_wp2
                  exact cl1 (no.out (by rw [hun.out, if_pos h0.out, if_neg (fun h => hz h.1)]) _ ((Only.of_below hbel1.out).setCell (a := ⟨bx, 2, none⟩) (.inl rfl) _)) rfl
            · have t0 : ((op k : Int) == 0) = false := by simp; omega
              by_cases h17 : op k = 17
              · as_aux_lemma =>
                  have t17 : ((op k : Int) == 17) = true := by simp [h17]
                  have hto := hTo.out k hlt (.inl h17)
                  have hj := hJ.out k hlt (.inl h17)
                  have hs := hd (show refStep op N ToN k H L = jn H L (ToN k) (H k - popsOf (op k) + pushesOf (op k)) (L k + 1) by unfold refStep; rw [hst.out, if_pos h17])
                  rw [hto] at s4
                  replace h17 := hd h17
                  replace hto := hd hto
                  have ne1 : (⟨w.heap.size, ToN k, none⟩ : Addr) ≠ ⟨g5, 4, none⟩ := by intro e; injection e; omega
                  have ne2 : (⟨w.heap.size + 1, ToN k, none⟩ : Addr) ≠ ⟨g5, 4, none⟩ := by intro e; injection e; omega
                  have ne3 : (⟨w.heap.size, ToN k, none⟩ : Addr) ≠ ⟨w.heap.size + 1, k, none⟩ := by intro e; injection e; omega
                  have ne4 : (⟨w.heap.size + 1, ToN k, none⟩ : Addr) ≠ ⟨w.heap.size + 1, k, none⟩ := by intro e; injection e; omega
                  have ib3 : (k : Int) < (n : Int) + 1 := by omega
                  have ib0 : (0 : Int) ≤ (k : Int) := by omega
                  have ib4 : k < n + 1 := by omega
                  go_wp2_with (fail)
                  go_region_held3 (fun w' => w'.cell? ⟨g5, 4, none⟩ = some (.int .i64 (ToN k : Int)) ∧ w'.cell? ⟨w.heap.size + 1, k, none⟩ = some (.int .i64 (L k))) (first | exact ⟨hj1.out.keep s4 ne1 ne2, hj1.out.keep cl ne3 ne4⟩ | go_keep) (first | (go_at_call 96; refine joinB _ _ _ _ (ToN k) _ H L _ _ rfl (by omega) (by omega) (by omega) (by first | exact rh1.out | exact rh1.out.drew) (by first | exact rl1.out | exact rl1.out.drew) _ ?_; intro r1 w1 hj1))
                  cases r1
                  · go_wp2
                    exact cl1 (no.out (go_none hgo.out hlt h0 (by rw [hs.out]; exact jn_none (hj1.out.no rfl).1)) _ (Only.of_below (by rw [(hj1.out.no rfl).2]; exact hbel1.out.drew))) rfl
                  · go_wp2
                    go_roundw
                    case measure => simp [intOf]; omega
                    case rel =>
                      rw [(hj1.out.yes rfl).2]
                      exact (GRel.next hlt hbel1.out.drew hsz1 rh1.out.drew rl1.out.drew hH.out hL1.out hh (by omega) rfl (go_some hgo.out hlt h0 (by rw [hs.out]; exact jn_some (hj1.out.yes rfl).1)))
              · have t17 : ((op k : Int) == 17) = false := by simp; omega
                by_cases h18 : op k = 18
                · as_aux_lemma =>
                    have t18 : ((op k : Int) == 18) = true := by simp [h18]
                    have hto := hTo.out k hlt (.inr (.inl h18))
                    have hj := hJ.out k hlt (.inr h18)
                    have hs := hd (show refStep op N ToN k H L = (match jn H L (ToN k) (H k - popsOf (op k) + pushesOf (op k)) (L k + 1) with | none => none | some S => jn S.1 S.2 (k + 1) (H k - popsOf (op k) + pushesOf (op k)) (L k + 1)) by unfold refStep; rw [hst.out, if_neg h17, if_pos h18]; try rfl)
                    rw [hto] at s4
                    replace h18 := hd h18
                    replace hto := hd hto
                    have ne1 : (⟨w.heap.size, ToN k, none⟩ : Addr) ≠ ⟨g5, 4, none⟩ := by intro e; injection e; omega
                    have ne2 : (⟨w.heap.size + 1, ToN k, none⟩ : Addr) ≠ ⟨g5, 4, none⟩ := by intro e; injection e; omega
                    have ne3 : (⟨w.heap.size, ToN k, none⟩ : Addr) ≠ ⟨w.heap.size + 1, k, none⟩ := by intro e; injection e; omega
                    have ne4 : (⟨w.heap.size + 1, ToN k, none⟩ : Addr) ≠ ⟨w.heap.size + 1, k, none⟩ := by intro e; injection e; omega
                    have ib3 : (k : Int) < (n : Int) + 1 := by omega
                    have ib0 : (0 : Int) ≤ (k : Int) := by omega
                    have ib4 : k < n + 1 := by omega
                    go_wp2_with (fail)
                    go_region_held3 (fun w' => w'.cell? ⟨g5, 4, none⟩ = some (.int .i64 (ToN k : Int)) ∧ w'.cell? ⟨w.heap.size + 1, k, none⟩ = some (.int .i64 (L k))) (first | exact ⟨hj1.out.keep s4 ne1 ne2, hj1.out.keep cl ne3 ne4⟩ | go_keep) (first | (go_at_call 96; refine joinB _ _ _ _ (ToN k) _ H L _ _ rfl (by omega) (by omega) (by omega) (by first | exact rh1.out | exact rh1.out.drew) (by first | exact rl1.out | exact rl1.out.drew) _ ?_; intro r1 w1 hj1))
                    have cl1' := hd (hj1.out.keep cl ne3 ne4)
                    cases r1
                    · have hc1 := hd (hj1.out.no rfl).1
                      have hw1 := (hj1.out.no rfl).2
                      clear hj1 cl1'
                      subst hw1
                      go_wp2_with (fail)
                      refine joinB _ _ _ _ (k + 1) _ H L _ _ (by omega) (by omega) (by omega) (by omega) rh1.out.drew rl1.out.drew _ ?_
                      intro r2 w2 hj2
                      have hb2 : Below w.heap.size w w2 := by
                        cases r2 with
                        | false => rw [(hj2.out.no rfl).2]; exact hbel1.out.drew
                        | true => rw [(hj2.out.yes rfl).2]; exact (hbel1.out.drew.setCell (p := ⟨w.heap.size, k + 1, none⟩) (Nat.le_refl _) _).setCell (p := ⟨w.heap.size + 1, k + 1, none⟩) (Nat.le_succ _) _
                      replace hb2 := hd hb2
                      go_wp2
                      exact cl1 (no.out (go_none hgo.out hlt h0 (by rw [hs.out, jn_none hc1.out])) _ (Only.of_below hb2.out)) rfl
                    · have hc1 := hd (hj1.out.yes rfl).1
                      have hw1 := (hj1.out.yes rfl).2
                      have hr := join_rows (w := W1.drew) (bh := w.heap.size) (bl := w.heap.size + 1) (i := ToN k) (h := H k - popsOf (op k) + pushesOf (op k)) (m := max (L (ToN k)) (L k + 1)) (d := L k + 1) (by omega) rfl rh1.out.drew rl1.out.drew
                      rw [← hw1] at hr
                      have hb1' : Below w.heap.size w w1 := by rw [hw1]; exact (hbel1.out.drew.setCell (p := ⟨w.heap.size, ToN k, none⟩) (Nat.le_refl _) _).setCell (p := ⟨w.heap.size + 1, ToN k, none⟩) (Nat.le_succ _) _
                      have hz1 : w.heap.size + 2 ≤ w1.heap.size := by rw [hw1, World.size_setCell, World.size_setCell]; exact hsz1
                      clear hw1 hj1
                      have cl2 := cl1'.out
                      have hHN := hd (show ∀ j, -1 ≤ (upd H (ToN k) (H k - popsOf (op k) + pushesOf (op k))) j ∧ (upd H (ToN k) (H k - popsOf (op k) + pushesOf (op k))) j ≤ 32 by intro j; have := hH.out j; unfold upd; split <;> omega)
                      have hLN := hd (show ∀ j, 0 ≤ (upd L (ToN k) (max (L (ToN k)) (L k + 1))) j ∧ (upd L (ToN k) (max (L (ToN k)) (L k + 1))) j ≤ 1099511627776 + ((k + 1 : Nat) : Int) by intro j; have := hL.out j; have := hL.out (ToN k); have := hL.out k; unfold upd; split <;> omega)
                      replace hb1' := hd hb1'
                      replace hr := hd hr
                      go_wp2_with (fail)
                      refine joinB _ _ _ _ (k + 1) _ (upd H (ToN k) (H k - popsOf (op k) + pushesOf (op k))) (upd L (ToN k) (max (L (ToN k)) (L k + 1))) _ _ (by omega) (by omega) (by omega) (by omega) hr.out.1 hr.out.2 _ ?_
                      intro r2 w2 hj2
                      cases r2
                      · have hw2 := hd (hj2.out.no rfl)
                        go_wp2
                        exact cl1 (no.out (go_none hgo.out hlt h0 (by rw [hs.out, jn_some hc1.out]; exact jn_none hw2.out.1)) _ (Only.of_below (by rw [hw2.out.2]; exact hb1'.out))) rfl
                      · go_wp2
                        go_roundw
                        case measure => simp [intOf]; omega
                        case rel =>
                          rw [(hj2.out.yes rfl).2]
                          exact GRel.next hlt hb1'.out hz1 hr.out.1 hr.out.2 hHN.out hLN.out hh (by omega) rfl (go_some hgo.out hlt h0 (by rw [hs.out, jn_some hc1.out]; exact jn_some (hj2.out.yes rfl).1))
                · have t18 : ((op k : Int) == 18) = false := by simp; omega
                  by_cases h19 : op k = 19
                  · as_aux_lemma =>
                      have t19 : ((op k : Int) == 19) = true := by simp [h19]
                      have hs := hd (show refStep op N ToN k H L = jn H L (k + 1) (H k - popsOf (op k) + pushesOf (op k)) 0 by unfold refStep; rw [hst.out, if_neg h17, if_neg h18, if_pos h19])
                      replace h19 := hd h19
                      go_wp2_with (fail)
                      refine joinB _ _ _ _ (k + 1) _ H L _ _ (by omega) (by omega) (by omega) (by omega) rh1.out rl1.out _ ?_
                      intro r1 w1 hj1
                      cases r1
                      · have hw2 := hd (hj1.out.no rfl)
                        go_wp2
                        exact cl1 (no.out (go_none hgo.out hlt h0 (by rw [hs.out]; exact jn_none hw2.out.1)) _ (Only.of_below (by rw [hw2.out.2]; exact hbel1.out))) rfl
                      · go_wp2
                        go_roundw
                        case measure => simp [intOf]; omega
                        case rel =>
                          rw [(hj1.out.yes rfl).2]
                          exact GRel.next hlt hbel1.out hsz1 rh1.out rl1.out hH.out hL1.out hh (by omega) rfl (go_some hgo.out hlt h0 (by rw [hs.out]; exact jn_some (hj1.out.yes rfl).1))
                  · have t19 : ((op k : Int) == 19) = false := by simp; omega
                    by_cases h20 : op k = 20
                    · as_aux_lemma =>
                        have t20 : ((op k : Int) == 20) = true := by simp [h20]
                        have hto := hTo.out k hlt (.inr (.inr h20))
                        have hf := hF.out k hlt h20
                        have hnf := hN.out (ToN k) (by omega) hf.2
                        rw [hto] at s4
                        have ef3 : W1.cell? ⟨b, ToN k * 6 + 3, none⟩ = some (.int .i64 (N (ToN k))) := htab1.out.cell (by omega) (f := 3) (by omega)
                        have chf := rh1.out.cell (show ToN k + 1 < n + 1 by omega)
                        have clf := rl1.out.cell (show ToN k < n + 1 by omega)
                        have bLf := hL.out (ToN k)
                        have hi1 : 0 ≤ (ToN k : Int) + 1 ∧ (ToN k : Int) + 1 < (n : Int) + 1 := by omega
                        have hi2 : (ToN k : Int) + 1 < (n : Int) + 1 := by omega
                        have hi3 : ((ToN k : Int) + 1).toNat = ToN k + 1 := by omega
                        have hmul : N (ToN k) * (L k + 1) ≤ 65535 * 1099511636000 := by
                          have h1 : N (ToN k) * (L k + 1) ≤ 65535 * (L k + 1) := Int.mul_le_mul_of_nonneg_right hnf.2 (by omega)
                          omega
                        have hmul0 : 0 ≤ N (ToN k) * (L k + 1) := Int.mul_nonneg (by omega) (by omega)
                        have ew1 : IntKind.i64.wrap (L (ToN k) + 1) = L (ToN k) + 1 := IntWalk.i64_in _ (by omega)
                        have ew2 : IntKind.i64.wrap (N (ToN k) * (L k + 1)) = N (ToN k) * (L k + 1) := IntWalk.i64_in _ (by omega)
                        have ew3 : IntKind.i64.wrap (L (ToN k) + 1 + N (ToN k) * (L k + 1)) = L (ToN k) + 1 + N (ToN k) * (L k + 1) := IntWalk.i64_in _ (by omega)
                        have ew4 : IntKind.i64.wrap ((ToN k : Int) + 1) = (ToN k : Int) + 1 := IntWalk.i64_in _ (by omega)
                        have ib0 : (0 : Int) ≤ (k : Int) := by omega
                        have ib1 : (ToN k : Int) < (n : Int) + 1 := by omega
                        have ib2 : (ToN k : Int) < (n : Int) := by omega
                        have ib3 : (k : Int) < (n : Int) + 1 := by omega
                        have ib4 : ToN k < n + 1 := by omega
                        have ib5 : ToN k < n := by omega
                        have ib6 : k < n + 1 := by omega
                        by_cases heq : H k - popsOf (op k) + pushesOf (op k) = H (ToN k + 1)
                        · have deq : (H k - (popsOf (op k) : Int) + (pushesOf (op k) : Int) == H (ToN k + 1)) = true := by simpa using heq
                          have hs := hd (show refStep op N ToN k H L = jn H L (k + 1) (H k - popsOf (op k) + pushesOf (op k)) (min (L (ToN k) + 1 + N (ToN k) * (L k + 1)) 1099511627776) by
                            unfold refStep; rw [hst.out, if_neg h17, if_neg h18, if_neg h19, if_pos h20, if_pos heq])
                          replace heq := hd heq
                          replace h20 := hd h20
                          have nn : ∀ (a : Addr), a = ⟨w.heap.size, ToN k + 1, none⟩ ∨ a = ⟨w.heap.size + 1, ToN k, none⟩ ∨ a = ⟨w.heap.size + 1, k, none⟩ ∨ a = ⟨bx, 1, none⟩ ∨ a = ⟨b, ToN k * 6 + 3, none⟩ → (⟨w.heap.size, k + 1, none⟩ : Addr) ≠ a ∧ (⟨w.heap.size + 1, k + 1, none⟩ : Addr) ≠ a := by
                            intro a ha
                            rcases ha with rfl | rfl | rfl | rfl | rfl <;> (constructor <;> (intro e; injection e; omega))
                          have n1 := hd (nn _ (.inl rfl))
                          have n2 := hd (nn _ (.inr (.inl rfl)))
                          have n3 := hd (nn _ (.inr (.inr (.inl rfl))))
                          have n4 := hd (nn _ (.inr (.inr (.inr (.inl rfl)))))
                          have n5 := hd (nn _ (.inr (.inr (.inr (.inr rfl)))))
                          clear nn
                          have hbig : ∃ M : Int, min (L (ToN k) + 1 + N (ToN k) * (L k + 1)) 1099511627776 = M ∧ (((L (ToN k) + 1 + N (ToN k) * (L k + 1)) ≤ 1099511627776 ∧ M = (L (ToN k) + 1 + N (ToN k) * (L k + 1))) ∨ (1099511627776 < (L (ToN k) + 1 + N (ToN k) * (L k + 1)) ∧ M = 1099511627776)) := by
                            rcases Int.le_total (L (ToN k) + 1 + N (ToN k) * (L k + 1)) 1099511627776 with h | h
                            · exact ⟨_, rfl, .inl ⟨h, by omega⟩⟩
                            · by_cases e : (L (ToN k) + 1 + N (ToN k) * (L k + 1)) = 1099511627776
                              · exact ⟨_, rfl, .inl ⟨by omega, by omega⟩⟩
                              · exact ⟨_, rfl, .inr ⟨by omega, by omega⟩⟩
                          obtain ⟨M, hM, hbig⟩ := hbig
                          replace hM := hd hM
                          rcases hbig with ⟨hbig, hMX⟩ | ⟨hbig, hMX⟩
                          all_goals
                            replace hMX := hd hMX
                            go_wp2_with (fail)
                            go_region_held3 (fun w' => w'.cell? ⟨w.heap.size, ToN k + 1, none⟩ = some (.int .i64 (H (ToN k + 1))) ∧ w'.cell? ⟨w.heap.size + 1, ToN k, none⟩ = some (.int .i64 (L (ToN k))) ∧ w'.cell? ⟨w.heap.size + 1, k, none⟩ = some (.int .i64 (L k)) ∧ w'.cell? ⟨bx, 1, none⟩ = some (.slice (some ⟨b, 0, none⟩) n cap) ∧ w'.cell? ⟨b, ToN k * 6 + 3, none⟩ = some (.int .i64 (N (ToN k)))) (first | exact ⟨hj1.out.keep chf n1.out.1 n1.out.2, hj1.out.keep clf n2.out.1 n2.out.2, hj1.out.keep cl n3.out.1 n3.out.2, hj1.out.keep hx11 n4.out.1 n4.out.2, hj1.out.keep ef3 n5.out.1 n5.out.2⟩ | go_keep) (first | (go_at_call 96; refine joinB _ _ _ _ (k + 1) _ H L _ _ (by omega) (by omega) (by omega) (by omega) (by first | exact rh1.out | exact rh1.out.drew) (by first | exact rl1.out | exact rl1.out.drew) _ ?_; intro r1 w1 hj1))
                            have hjm : JOut W1.drew w.heap.size (w.heap.size + 1) H L (k + 1) (H k - popsOf (op k) + pushesOf (op k)) M r1 w1 := by
                              have h1 := hj1.out
                              have h2 := hMX.out
                              first | (rw [if_neg (by omega)] at h1; rw [h2]; exact h1) | (rw [h2]; exact h1)
                            replace hjm := hd hjm
                            clear hj1
                            cases r1
                            · have hw2 := hd (hjm.out.no rfl)
                              go_wp2
                              exact cl1 (no.out (go_none hgo.out hlt h0 (by rw [hs.out]; exact jn_none hw2.out.1)) _ (Only.of_below (by rw [hw2.out.2]; exact hbel1.out.drew))) rfl
                            · go_wp2
                              go_roundw
                              case measure => simp [intOf]; omega
                              case rel =>
                                rw [(hjm.out.yes rfl).2]
                                exact GRel.next hlt hbel1.out.drew hsz1 rh1.out.drew rl1.out.drew hH.out hL1.out hh (by have := hMX.out; omega) rfl (go_some hgo.out hlt h0 (by rw [hs.out, hM.out]; exact jn_some (hjm.out.yes rfl).1))
                        · have deq : (H k - (popsOf (op k) : Int) + (pushesOf (op k) : Int) == H (ToN k + 1)) = false := by simpa using heq
                          have hs : refStep op N ToN k H L = none := by
                            unfold refStep; rw [hst.out, if_neg h17, if_neg h18, if_neg h19, if_pos h20, if_neg heq]
                          have hno := hd (go_none hgo.out hlt h0 hs)
                          clear hs
                          replace h20 := hd h20
                          replace heq := hd heq
                          go_wp2_with (fail)
                          go_quiet (fail)
                          go_wp2
                          exact cl1 (no.out hno.out _ (Only.of_below (below_drewN hbel1.out _))) rfl
                    · as_aux_lemma =>
                        have t20 : ((op k : Int) == 20) = false := by simp; omega
                        have hs := hd (show refStep op N ToN k H L = jn H L (k + 1) (H k - popsOf (op k) + pushesOf (op k)) (L k + 1) by unfold refStep; rw [hst.out, if_neg h17, if_neg h18, if_neg h19, if_neg h20])
                        go_wp2_with (fail)
                        refine joinB _ _ _ _ (k + 1) _ H L _ _ (by omega) (by omega) (by omega) (by omega) rh1.out rl1.out _ ?_
                        intro r1 w1 hj1
                        cases r1
                        · have hw2 := hd (hj1.out.no rfl)
                          go_wp2
                          exact cl1 (no.out (go_none hgo.out hlt h0 (by rw [hs.out]; exact jn_none hw2.out.1)) _ (Only.of_below (by rw [hw2.out.2]; exact hbel1.out))) rfl
                        · go_wp2
                          go_roundw
                          case measure => simp [intOf]; omega
                          case rel =>
                            rw [(hj1.out.yes rfl).2]
                            exact GRel.next hlt hbel1.out hsz1 rh1.out rl1.out hH.out hL1.out hh (by omega) rfl (go_some hgo.out hlt h0 (by rw [hs.out]; exact jn_some (hj1.out.yes rfl).1))
        · go_wp2
          exact cl1 (no.out (go_end hgo.out hlt) _ (Only.of_below hbel)) rfl

end Go.Proofs.YtidhiaaicmfabaaGreat
