/- The walk over an image, one step. -/
import Derived.Test.YtidhiaaicmfabaaGreatDoorKaA
import Derived.Test.YtidhiaaicmfabaaGreatDoorKaB
import Derived.WalkKit
import Derived.WalkSpells
import Derived.WalkLawsBesides
import Derived.Deep.OwnRows
import Derived.BigQuiet
import Derived.Handy
import Derived.Deep.Light
import Derived.Deep.RegionHeld3
import Derived.Deep.RegionWith
import Derived.Laws.EntriesVeiled
import Derived.Test.YtidhiaaicmfabaaGreatDoorKaD
import Derived.Test.YtidhiaaicmfabaaGreatDoorKaC
import Derived.Test.YtidhiaaicmfabaaGreatDoorKaG

/- The contract of pass. -/
namespace Go.Proofs.YtidhiaaicmfabaaGreatDoor
open Go.RowKit Go.Proofs Go.Deep

theorem five {w : World} {g T : Nat} {v0 v1 v2 v3 v4 : Value} (h : w.heap[g]? = some (.cells #[v0, v1, v2, v3, v4] T (0, 0))) : w.cell? ⟨g, 2, none⟩ = some v2 ∧ w.cell? ⟨g, 3, none⟩ = some v3 := by
  refine ⟨?_, ?_⟩ <;> rw [cell_of_row w g _ _ T (0, 0) h] <;> rfl
theorem new_drew (w : World) (o : Obj) : (w.alloc o).drew.heap[w.heap.size]? = some o := heap_alloc_new w o
theorem WS.bound {w0 w : World} {B bw ba bs base n cap : Nat} {nm : Nat → ByteArray} {fv : Nat → Value} {H L : Nat → Int} {lo m : Nat} {A : Nat → Int} {bd : Int} {op at_ : Nat → Nat} {arg cnt lp to_ : Nat → Int}
    (hc : WC w0 B bw ba bs base n cap op at_ arg cnt lp to_) (h : WS w0 B bw ba bs base n cap nm fv H L lo m A bd w) (x : Int) : WS w0 B bw ba bs base n cap nm fv H L lo m A x (w.setCell ⟨bw, 113, none⟩ (.int .i64 x)) := by
  have hne := hc.hne
  have ho : ∀ o, o ≠ 113 → (w.setCell ⟨bw, 113, none⟩ (.int .i64 x)).cell? ⟨bw, o, none⟩ = w.cell? ⟨bw, o, none⟩ := fun o h113 => World.cell?_setCell_other _ _ _ _ (by intro e; injection e with _ e; omega)
  refine ⟨h.fr.setCell hc.hbw _, by rw [World.size_setCell]; exact h.sz, by rw [ho 0 (by omega)]; exact h.c0, fun o hl => ?_, by rw [ho 111 (by omega)]; exact h.ca, World.cell?_setCell_same _ _ _ h.cb, fun o => by simp [h.fz o], h.arr.setOther (a := ⟨bw, 113, none⟩) (Ne.symm hne) _, ?_, h.heap, h.inj, h.mem, h.hH, h.hL, h.hHL⟩
  · have hr := h.rows o hl
    rw [ho _ (by omega), ho _ (by omega), ho _ (by omega), ho _ (by omega), ho _ (by omega)]
    exact hr
  · obtain ⟨v, hv, hown⟩ := h.wh
    exact ⟨v, by rw [ho 112 (by omega)]; exact hv, own_set hown (show bw < base from hc.hw) _⟩
set_option maxRecDepth 100000 in
set_option maxHeartbeats 8000000 in
theorem pass_any {w0 : World} {B bw ba bs base n cap : Nat} {op at_ : Nat → Nat} {arg cnt lp to_ : Nat → Int} (hc : WC w0 B bw ba bs base n cap op at_ arg cnt lp to_)
    {nm : Nat → ByteArray} {fv : Nat → Value} {H L : Nat → Int} {lo m : Nat} {A : Nat → Int} {bd : Int} (w : World) (h : WS w0 B bw ba bs base n cap nm fv H L lo m A bd w) (To F : Nat → Nat)
    (i : Nat) (hi : i < n) (hlo : lo = i + 1) (hHi : 0 ≤ H i) (hop : op i < 22) (hin : op i ≠ 0 → op i ≠ 17 → i + 1 < n) (hfv : ∃ g c, fv (op i) = .func g #[] c)
    (hJ : (op i = 17 ∨ op i = 18) → to_ i = (To i : Int) ∧ i < To i ∧ To i < n) (hF : op i = 20 → lp i = (F i : Int) ∧ F i < n ∧ 1 ≤ arg (F i) ∧ arg (F i) ≤ 65535)
    (R : Ending → World → Prop)
    (no : (op i ≠ 0 → vmStep op arg To F i H L = none) → (op i = 0 → H i ≠ 0) → ∀ w', Below B w0 w' → R (.returned (.bool false)) w')
    (yes : op i ≠ 0 → ∀ S, vmStep op arg To F i H L = some S → ∀ w' m' A', WS w0 B bw ba bs base n cap nm fv S.1 S.2 lo m' A' bd w' → R (.returned (.bool true)) w')
    (yesEnd : op i = 0 → H i = 0 → ∀ w', WS w0 B bw ba bs base n cap nm fv H L lo m A (vmD (L i)) w' → R (.returned (.bool true)) w') :
    Calls Tryz.prog 111 #[.pointer (some ⟨bw, 0, none⟩), .int .i64 (i : Int)] w R := by
  obtain ⟨fg, fc, hfv⟩ := hfv
  replace no := hd no
  replace yes := hd yes
  replace yesEnd := hd yesEnd
  replace hJ := hd hJ
  replace hF := hd hF
  replace hin := hd hin
  have hn := hc.hn
  have hne := hc.hne
  have fB := Nat.le_trans (Nat.le_of_eq hc.hB) h.fr.size
  have hstep := hc.steps.of_block (w' := w) (h.fr.block bs (by rw [hc.hB]; exact hc.steps.lt))
  obtain ⟨x0, x1, x2, x3, x4, x5⟩ := hstep.six hi
  have hbs : bs < w.heap.size := hstep.lt
  have hbw : bw < w.heap.size := Nat.lt_of_lt_of_le hc.hw h.sz
  have hba : ba < w.heap.size := h.arr.lt
  have a0 := h.arr.cell0 hi (by omega)
  have a1 := h.arr.cell hi (f := 1) (by omega)
  have a2 := h.arr.cell hi (f := 2) (by omega)
  rw [arrA_0, show decide (0 ≤ H i) = true by simpa using hHi] at a0
  rw [arrA_1, if_pos hHi] at a1
  rw [arrA_2] at a2
  have c0 := h.c0
  have ca := h.ca
  obtain ⟨r0, r1, r2, r3, r4⟩ := h.rows (op i) hop
  rw [hfv] at r4
  clear hfv
  have ji : (i : Int) < (n : Int) := by omega
  have jo : (op i : Int) < 22 := by omega
  have bH := h.hH i
  have bL := h.hL i
  have hpo : popsOf (op i) ≤ 2 := by unfold popsOf; (repeat' split) <;> omega
  have hpu : pushesOf (op i) ≤ 1 := by unfold pushesOf; (repeat' split) <;> omega
  replace hstep := hd hstep
  replace h := hd h
  have hfr := hd h.out.fr
  have hWS := hd (fun w' (hb : Below w.heap.size w w') => h.out.mono hc hb)
  go_enter Tryz.func111, Tryz.ntmps111
  go_wp2_with (fail)
  go_region
  · have h5 := new_first w (Obj.cells #[Value.int .u8 (op i : Int), .int .i64 (at_ i : Int), .int .i64 (arg i), .int .i64 (cnt i), .int .i64 (lp i), .int .i64 (to_ i)] 254) (Obj.cells #[Value.bool true, .int .i64 (H i), .int .i64 (L i)] 267)
    have h6 := new_second w (Obj.cells #[Value.int .u8 (op i : Int), .int .i64 (at_ i : Int), .int .i64 (arg i), .int .i64 (cnt i), .int .i64 (lp i), .int .i64 (to_ i)] 254) (Obj.cells #[Value.bool true, .int .i64 (H i), .int .i64 (L i)] 267)
    have hbl := below_two w (Obj.cells #[Value.int .u8 (op i : Int), .int .i64 (at_ i : Int), .int .i64 (arg i), .int .i64 (cnt i), .int .i64 (lp i), .int .i64 (to_ i)] 254) (Obj.cells #[Value.bool true, .int .i64 (H i), .int .i64 (L i)] 267)
    generalize ((w.alloc (Obj.cells #[Value.int .u8 (op i : Int), .int .i64 (at_ i : Int), .int .i64 (arg i), .int .i64 (cnt i), .int .i64 (lp i), .int .i64 (to_ i)] 254)).alloc (Obj.cells #[Value.bool true, .int .i64 (H i), .int .i64 (L i)] 267)).drew = W1 at h5 h6 hbl ⊢
    generalize w.heap.size + 1 = g6 at h6 ⊢
    generalize hge : w.heap.size = g5 at h5 ⊢
    clear hge
    obtain ⟨s0, s1, s2, s3, s4, s5, sf⟩ := six h5
    obtain ⟨t0, t1, t2⟩ := three h6
    have l5 := blk_lt h5
    have l6 := blk_lt h6
    have q0 := (hbl.cell (p := ⟨bw, 1 + op i * 5, none⟩) hbw).trans r0
    have q1 := (hbl.cell (p := ⟨bw, 1 + op i * 5 + 1, none⟩) hbw).trans r1
    have q2 := (hbl.cell (p := ⟨bw, 1 + op i * 5 + 2, none⟩) hbw).trans r2
    have q3 := (hbl.cell (p := ⟨bw, 1 + op i * 5 + 3, none⟩) hbw).trans r3
    have q4 := (hbl.cell (p := ⟨bw, 1 + op i * 5 + 4, none⟩) hbw).trans r4
    have hbw1 : bw < W1.heap.size := Nat.lt_of_lt_of_le hbw hbl.size
    replace hbl := hd hbl
    replace h5 := hd h5
    replace h6 := hd h6
    clear x0 x1 x2 x3 x4 x5 a0 a1 a2 c0 ca r0 r1 r2 r3 r4
    go_wp2_with (fail)
    go_region
    have h7 := new_drew W1 (Obj.cells #[Value.string (nm (op i)), .int .u8 (opnd (op i) : Nat), .int .i64 (popsOf (op i) : Nat), .int .i64 (pushesOf (op i) : Nat), .func fg #[] fc] 211)
    have hb12 : Below W1.heap.size W1 (W1.alloc (Obj.cells #[Value.string (nm (op i)), .int .u8 (opnd (op i) : Nat), .int .i64 (popsOf (op i) : Nat), .int .i64 (pushesOf (op i) : Nat), .func fg #[] fc] 211)).drew := (Below.alloc (Below.refl _ _) (Nat.le_refl _) _).drew
    generalize (W1.alloc (Obj.cells #[Value.string (nm (op i)), .int .u8 (opnd (op i) : Nat), .int .i64 (popsOf (op i) : Nat), .int .i64 (pushesOf (op i) : Nat), .func fg #[] fc] 211)).drew = W2 at h7 hb12 ⊢
    have v0 := (hb12.cell (p := ⟨g5, 0, none⟩) l5).trans s0
    have v5 := (hb12.cell (p := ⟨g5, 5, none⟩) l5).trans s5
    have z1 := (hb12.cell (p := ⟨g6, 1, none⟩) l6).trans t1
    have z2 := (hb12.cell (p := ⟨g6, 2, none⟩) l6).trans t2
    obtain ⟨u2, u3⟩ := five h7
    have hbel2 : Below w.heap.size w W2 := hbl.out.trans (hb12.mono hbl.out.size)
    have hS2 := hWS.out W2 hbel2
    generalize W1.heap.size = g7 at h7 u2 u3 ⊢
    have bd113 := hS2.cb
    have fz113 := hS2.fz 113
    have hfr2 := hd hS2.fr
    replace hS2 := hd hS2
    replace hbel2 := hd hbel2
    clear h7 hb12 q0 q1 q2 q3 q4 s0 s1 s2 s3 s4 s5 sf t0 t1 t2 l5 l6 hbw1
    by_cases hbad : H i < popsOf (op i) ∨ 32 < H i - popsOf (op i) + pushesOf (op i)
    · have hnone := hd (show vmStep op arg To F i H L = none by unfold vmStep; rw [if_pos hbad])
      have hend := hd (show op i = 0 → H i ≠ 0 from fun h0 => by
        have p : popsOf 0 = 0 := rfl
        have q : pushesOf 0 = 0 := rfl
        rw [h0, p, q] at hbad
        omega)
      by_cases hb1 : H i < popsOf (op i)
      · have d1 : decide (H i < (popsOf (op i) : Int)) = true := by simpa using hb1
        clear hbad
        go_wp2
        exact cl1 (no.out (fun _ => hnone.out) hend.out _ hfr2.out) rfl
      · have d1 : decide (H i < (popsOf (op i) : Int)) = false := by simpa using hb1
        have d2 : decide (32 < H i - (popsOf (op i) : Int) + (pushesOf (op i) : Int)) = true := by simp; omega
        clear hbad
        go_wp2
        exact cl1 (no.out (fun _ => hnone.out) hend.out _ hfr2.out) rfl
    · have d1 : decide (H i < (popsOf (op i) : Int)) = false := by simp; omega
      have d2 : decide (32 < H i - (popsOf (op i) : Int) + (pushesOf (op i) : Int)) = false := by simp; omega
      have hh : 0 ≤ H i - (popsOf (op i) : Int) + (pushesOf (op i) : Int) ∧ H i - (popsOf (op i) : Int) + (pushesOf (op i) : Int) ≤ 32 := by omega
      have hst := hd (show ∀ X Y : Option ((Nat → Int) × (Nat → Int)), (if H i < popsOf (op i) ∨ 32 < H i - popsOf (op i) + pushesOf (op i) then X else Y) = Y from fun X Y => if_neg hbad)
      replace hbad := hd hbad
      go_wp2_with (fail)
      refine addB _ _ _ bL (by decide) _ ?_
      intro r hr br
      have er := hd (show r = vmD (L i) from hr.out)
      by_cases h0 : op i = 0
      · have t0 : ((op i : Int) == 0) = true := by simp [h0]
        have hfin := hd (hS2.out.bound hc r)
        rw [er.out] at hfin
        have hfr3 := hd (hfr2.out.setCell (p := ⟨bw, 113, none⟩) hc.hbw (.int .i64 (vmD (L i))))
        replace h0 := hd h0
        by_cases hz : H i = 0
        · have dz : (H i == 0) = true := by simpa using hz
          replace hz := hd hz
          go_wp2
          rw [er.out]
          exact cl1 (yesEnd.out h0.out hz.out _ hfin.out) rfl
        · have dz : (H i == 0) = false := by simpa using hz
          go_wp2
          rw [er.out]
          exact cl1 (no.out (fun h' => absurd h0.out h') (fun _ => hz) _ hfr3.out) rfl
      · have t0 : ((op i : Int) == 0) = false := by simp; omega
        by_cases h17 : op i = 17
        · have t17 : ((op i : Int) == 17) = true := by simp [h17]
          obtain ⟨hto, hlt1, hlt2⟩ := hJ.out (.inl h17)
          have hs := hd (show vmStep op arg To F i H L = jn H L (To i) (H i - popsOf (op i) + pushesOf (op i)) (vmD (L i)) by unfold vmStep; rw [hst.out, if_pos h17])
          replace h17 := hd h17
          rw [hto] at v5
          go_wp2_with (fail)
          refine come_any hc _ hS2.out (To i) _ _ _ rfl hlt2 (by omega) br hh _ ?_ ?_
          · intro hx w5 hw5
            replace hw5 := hd hw5
            replace hx := hd hx
            go_wp2
            exact cl1 (no.out (fun _ => by rw [hs.out]; exact jn_none hx.out) (fun h' => absurd h' h0) _ hw5.out) rfl
          · intro hx w5 m5 A5 hw5
            rw [er.out] at hw5
            replace hw5 := hd hw5
            replace hx := hd hx
            go_wp2
            exact cl1 (yes.out h0 _ (by rw [hs.out]; exact jn_some hx.out) _ _ _ hw5.out) rfl
        · have t17 : ((op i : Int) == 17) = false := by simp; omega
          have hi1 := hin.out h0 h17
          have hij := hd (show (i : Int) + 1 = ((i + 1 : Nat) : Int) by omega)
          by_cases h18 : op i = 18
          · have t18 : ((op i : Int) == 18) = true := by simp [h18]
            obtain ⟨hto, hlt1, hlt2⟩ := hJ.out (.inr h18)
            have hs := hd (show vmStep op arg To F i H L = (match jn H L (To i) (H i - popsOf (op i) + pushesOf (op i)) (vmD (L i)) with | none => none | some S => jn S.1 S.2 (i + 1) (H i - popsOf (op i) + pushesOf (op i)) (vmD (L i))) by unfold vmStep; rw [hst.out, if_neg h17, if_pos h18]; try rfl)
            replace h18 := hd h18
            rw [hto] at v5
            go_wp2_with (fail)
            refine come_any hc _ hS2.out (To i) _ _ _ rfl hlt2 (by omega) br hh _ ?_ ?_
            · intro hx w5 hw5
              replace hw5 := hd hw5
              replace hx := hd hx
              go_wp2
              exact cl1 (no.out (fun _ => by rw [hs.out, jn_none hx.out]) (fun h' => absurd h' h0) _ hw5.out) rfl
            · intro hx w5 m5 A5 hw5
              rw [er.out] at hw5
              replace hw5 := hd hw5
              replace hx := hd hx
              go_wp2_with (fail)
              refine come_any hc _ hw5.out (i + 1) _ _ _ hij.out hi1 (by omega) br hh _ ?_ ?_
              · intro hx2 w6 hw6
                replace hw6 := hd hw6
                replace hx2 := hd hx2
                go_wp2
                exact cl1 (no.out (fun _ => by rw [hs.out, jn_some hx.out]; exact jn_none hx2.out) (fun h' => absurd h' h0) _ hw6.out) rfl
              · intro hx2 w6 m6 A6 hw6
                rw [er.out] at hw6
                replace hw6 := hd hw6
                replace hx2 := hd hx2
                go_wp2
                exact cl1 (yes.out h0 _ (by rw [hs.out, jn_some hx.out]; exact jn_some hx2.out) _ _ _ hw6.out) rfl
          · have t18 : ((op i : Int) == 18) = false := by simp; omega
            by_cases h19 : op i = 19
            · have t19 : ((op i : Int) == 19) = true := by simp [h19]
              have hs := hd (show vmStep op arg To F i H L = jn H L (i + 1) (H i - popsOf (op i) + pushesOf (op i)) 0 by unfold vmStep; rw [hst.out, if_neg h17, if_neg h18, if_pos h19])
              replace h19 := hd h19
              go_wp2_with (fail)
              refine come_any hc _ hS2.out (i + 1) _ _ _ hij.out hi1 (by omega) (by decide) hh _ ?_ ?_
              · intro hx w5 hw5
                replace hw5 := hd hw5
                replace hx := hd hx
                go_wp2
                exact cl1 (no.out (fun _ => by rw [hs.out]; exact jn_none hx.out) (fun h' => absurd h' h0) _ hw5.out) rfl
              · intro hx w5 m5 A5 hw5
                replace hw5 := hd hw5
                replace hx := hd hx
                go_wp2
                exact cl1 (yes.out h0 _ (by rw [hs.out]; exact jn_some hx.out) _ _ _ hw5.out) rfl
            · have t19 : ((op i : Int) == 19) = false := by simp; omega
              by_cases h20 : op i = 20
              · have t20 : ((op i : Int) == 20) = true := by simp [h20]
                obtain ⟨hlp, hfn, ha1, ha2⟩ := hF.out h20
                have hs := hd (show vmStep op arg To F i H L = (if H i = dep H (F i) then jn H L (i + 1) (dep H (F i)) (min (vmD (L (F i)) + min (arg (F i) * vmD (L i)) 200001) 200001) else none) by unfold vmStep; rw [hst.out, if_neg h17, if_neg h18, if_neg h19, if_pos h20])
                replace h20 := hd h20
                go_wp2_with (fail)
                refine leave_any hc _ hS2.out i (F i) _ hi hfn hlp hi1 (by omega) ⟨ha1, ha2⟩ br hHi _ ?_ ?_
                · intro hx w5 hw5
                  replace hw5 := hd hw5
                  replace hx := hd hx
                  go_wp2
                  refine cl1 (no.out (fun _ => ?_) (fun h' => absurd h' h0) _ hw5.out) rfl
                  rw [hs.out]
                  rcases hx.out with hx | hx
                  · rw [if_neg hx]
                  · split
                    · exact jn_none hx
                    · rfl
                · intro hx1 hx w5 m5 A5 hw5
                  rw [er.out] at hw5
                  replace hw5 := hd hw5
                  replace hx := hd hx
                  replace hx1 := hd hx1
                  go_wp2
                  exact cl1 (yes.out h0 _ (by rw [hs.out, if_pos hx1.out]; exact jn_some hx.out) _ _ _ hw5.out) rfl
              · have t20 : ((op i : Int) == 20) = false := by simp; omega
                have hs := hd (show vmStep op arg To F i H L = jn H L (i + 1) (H i - popsOf (op i) + pushesOf (op i)) (vmD (L i)) by unfold vmStep; rw [hst.out, if_neg h17, if_neg h18, if_neg h19, if_neg h20])
                go_wp2_with (fail)
                refine come_any hc _ hS2.out (i + 1) _ _ _ hij.out hi1 (by omega) br hh _ ?_ ?_
                · intro hx w5 hw5
                  replace hw5 := hd hw5
                  replace hx := hd hx
                  go_wp2
                  exact cl1 (no.out (fun _ => by rw [hs.out]; exact jn_none hx.out) (fun h' => absurd h' h0) _ hw5.out) rfl
                · intro hx w5 m5 A5 hw5
                  rw [er.out] at hw5
                  replace hw5 := hd hw5
                  replace hx := hd hx
                  go_wp2
                  exact cl1 (yes.out h0 _ (by rw [hs.out]; exact jn_some hx.out) _ _ _ hw5.out) rfl
  · have h5 := new_second w (Obj.cells #[Value.bool true, .int .i64 (H i), .int .i64 (L i)] 267) (Obj.cells #[Value.int .u8 (op i : Int), .int .i64 (at_ i : Int), .int .i64 (arg i), .int .i64 (cnt i), .int .i64 (lp i), .int .i64 (to_ i)] 254)
    have h6 := new_first w (Obj.cells #[Value.bool true, .int .i64 (H i), .int .i64 (L i)] 267) (Obj.cells #[Value.int .u8 (op i : Int), .int .i64 (at_ i : Int), .int .i64 (arg i), .int .i64 (cnt i), .int .i64 (lp i), .int .i64 (to_ i)] 254)
    have hbl := below_two w (Obj.cells #[Value.bool true, .int .i64 (H i), .int .i64 (L i)] 267) (Obj.cells #[Value.int .u8 (op i : Int), .int .i64 (at_ i : Int), .int .i64 (arg i), .int .i64 (cnt i), .int .i64 (lp i), .int .i64 (to_ i)] 254)
    generalize ((w.alloc (Obj.cells #[Value.bool true, .int .i64 (H i), .int .i64 (L i)] 267)).alloc (Obj.cells #[Value.int .u8 (op i : Int), .int .i64 (at_ i : Int), .int .i64 (arg i), .int .i64 (cnt i), .int .i64 (lp i), .int .i64 (to_ i)] 254)).drew = W1 at h5 h6 hbl ⊢
    generalize w.heap.size + 1 = g5 at h5 ⊢
    generalize hge : w.heap.size = g6 at h6 ⊢
    clear hge
    obtain ⟨s0, s1, s2, s3, s4, s5, sf⟩ := six h5
    obtain ⟨t0, t1, t2⟩ := three h6
    have l5 := blk_lt h5
    have l6 := blk_lt h6
    have q0 := (hbl.cell (p := ⟨bw, 1 + op i * 5, none⟩) hbw).trans r0
    have q1 := (hbl.cell (p := ⟨bw, 1 + op i * 5 + 1, none⟩) hbw).trans r1
    have q2 := (hbl.cell (p := ⟨bw, 1 + op i * 5 + 2, none⟩) hbw).trans r2
    have q3 := (hbl.cell (p := ⟨bw, 1 + op i * 5 + 3, none⟩) hbw).trans r3
    have q4 := (hbl.cell (p := ⟨bw, 1 + op i * 5 + 4, none⟩) hbw).trans r4
    have hbw1 : bw < W1.heap.size := Nat.lt_of_lt_of_le hbw hbl.size
    replace hbl := hd hbl
    replace h5 := hd h5
    replace h6 := hd h6
    clear x0 x1 x2 x3 x4 x5 a0 a1 a2 c0 ca r0 r1 r2 r3 r4
    go_wp2_with (fail)
    go_region
    have h7 := new_drew W1 (Obj.cells #[Value.string (nm (op i)), .int .u8 (opnd (op i) : Nat), .int .i64 (popsOf (op i) : Nat), .int .i64 (pushesOf (op i) : Nat), .func fg #[] fc] 211)
    have hb12 : Below W1.heap.size W1 (W1.alloc (Obj.cells #[Value.string (nm (op i)), .int .u8 (opnd (op i) : Nat), .int .i64 (popsOf (op i) : Nat), .int .i64 (pushesOf (op i) : Nat), .func fg #[] fc] 211)).drew := (Below.alloc (Below.refl _ _) (Nat.le_refl _) _).drew
    generalize (W1.alloc (Obj.cells #[Value.string (nm (op i)), .int .u8 (opnd (op i) : Nat), .int .i64 (popsOf (op i) : Nat), .int .i64 (pushesOf (op i) : Nat), .func fg #[] fc] 211)).drew = W2 at h7 hb12 ⊢
    have v0 := (hb12.cell (p := ⟨g5, 0, none⟩) l5).trans s0
    have v5 := (hb12.cell (p := ⟨g5, 5, none⟩) l5).trans s5
    have z1 := (hb12.cell (p := ⟨g6, 1, none⟩) l6).trans t1
    have z2 := (hb12.cell (p := ⟨g6, 2, none⟩) l6).trans t2
    obtain ⟨u2, u3⟩ := five h7
    have hbel2 : Below w.heap.size w W2 := hbl.out.trans (hb12.mono hbl.out.size)
    have hS2 := hWS.out W2 hbel2
    generalize W1.heap.size = g7 at h7 u2 u3 ⊢
    have bd113 := hS2.cb
    have fz113 := hS2.fz 113
    have hfr2 := hd hS2.fr
    replace hS2 := hd hS2
    replace hbel2 := hd hbel2
    clear h7 hb12 q0 q1 q2 q3 q4 s0 s1 s2 s3 s4 s5 sf t0 t1 t2 l5 l6 hbw1
    by_cases hbad : H i < popsOf (op i) ∨ 32 < H i - popsOf (op i) + pushesOf (op i)
    · have hnone := hd (show vmStep op arg To F i H L = none by unfold vmStep; rw [if_pos hbad])
      have hend := hd (show op i = 0 → H i ≠ 0 from fun h0 => by
        have p : popsOf 0 = 0 := rfl
        have q : pushesOf 0 = 0 := rfl
        rw [h0, p, q] at hbad
        omega)
      by_cases hb1 : H i < popsOf (op i)
      · have d1 : decide (H i < (popsOf (op i) : Int)) = true := by simpa using hb1
        clear hbad
        go_wp2
        exact cl1 (no.out (fun _ => hnone.out) hend.out _ hfr2.out) rfl
      · have d1 : decide (H i < (popsOf (op i) : Int)) = false := by simpa using hb1
        have d2 : decide (32 < H i - (popsOf (op i) : Int) + (pushesOf (op i) : Int)) = true := by simp; omega
        clear hbad
        go_wp2
        exact cl1 (no.out (fun _ => hnone.out) hend.out _ hfr2.out) rfl
    · have d1 : decide (H i < (popsOf (op i) : Int)) = false := by simp; omega
      have d2 : decide (32 < H i - (popsOf (op i) : Int) + (pushesOf (op i) : Int)) = false := by simp; omega
      have hh : 0 ≤ H i - (popsOf (op i) : Int) + (pushesOf (op i) : Int) ∧ H i - (popsOf (op i) : Int) + (pushesOf (op i) : Int) ≤ 32 := by omega
      have hst := hd (show ∀ X Y : Option ((Nat → Int) × (Nat → Int)), (if H i < popsOf (op i) ∨ 32 < H i - popsOf (op i) + pushesOf (op i) then X else Y) = Y from fun X Y => if_neg hbad)
      replace hbad := hd hbad
      go_wp2_with (fail)
      refine addB _ _ _ bL (by decide) _ ?_
      intro r hr br
      have er := hd (show r = vmD (L i) from hr.out)
      by_cases h0 : op i = 0
      · have t0 : ((op i : Int) == 0) = true := by simp [h0]
        have hfin := hd (hS2.out.bound hc r)
        rw [er.out] at hfin
        have hfr3 := hd (hfr2.out.setCell (p := ⟨bw, 113, none⟩) hc.hbw (.int .i64 (vmD (L i))))
        replace h0 := hd h0
        by_cases hz : H i = 0
        · have dz : (H i == 0) = true := by simpa using hz
          replace hz := hd hz
          go_wp2
          rw [er.out]
          exact cl1 (yesEnd.out h0.out hz.out _ hfin.out) rfl
        · have dz : (H i == 0) = false := by simpa using hz
          go_wp2
          rw [er.out]
          exact cl1 (no.out (fun h' => absurd h0.out h') (fun _ => hz) _ hfr3.out) rfl
      · have t0 : ((op i : Int) == 0) = false := by simp; omega
        by_cases h17 : op i = 17
        · have t17 : ((op i : Int) == 17) = true := by simp [h17]
          obtain ⟨hto, hlt1, hlt2⟩ := hJ.out (.inl h17)
          have hs := hd (show vmStep op arg To F i H L = jn H L (To i) (H i - popsOf (op i) + pushesOf (op i)) (vmD (L i)) by unfold vmStep; rw [hst.out, if_pos h17])
          replace h17 := hd h17
          rw [hto] at v5
          go_wp2_with (fail)
          refine come_any hc _ hS2.out (To i) _ _ _ rfl hlt2 (by omega) br hh _ ?_ ?_
          · intro hx w5 hw5
            replace hw5 := hd hw5
            replace hx := hd hx
            go_wp2
            exact cl1 (no.out (fun _ => by rw [hs.out]; exact jn_none hx.out) (fun h' => absurd h' h0) _ hw5.out) rfl
          · intro hx w5 m5 A5 hw5
            rw [er.out] at hw5
            replace hw5 := hd hw5
            replace hx := hd hx
            go_wp2
            exact cl1 (yes.out h0 _ (by rw [hs.out]; exact jn_some hx.out) _ _ _ hw5.out) rfl
        · have t17 : ((op i : Int) == 17) = false := by simp; omega
          have hi1 := hin.out h0 h17
          have hij := hd (show (i : Int) + 1 = ((i + 1 : Nat) : Int) by omega)
          by_cases h18 : op i = 18
          · have t18 : ((op i : Int) == 18) = true := by simp [h18]
            obtain ⟨hto, hlt1, hlt2⟩ := hJ.out (.inr h18)
            have hs := hd (show vmStep op arg To F i H L = (match jn H L (To i) (H i - popsOf (op i) + pushesOf (op i)) (vmD (L i)) with | none => none | some S => jn S.1 S.2 (i + 1) (H i - popsOf (op i) + pushesOf (op i)) (vmD (L i))) by unfold vmStep; rw [hst.out, if_neg h17, if_pos h18]; try rfl)
            replace h18 := hd h18
            rw [hto] at v5
            go_wp2_with (fail)
            refine come_any hc _ hS2.out (To i) _ _ _ rfl hlt2 (by omega) br hh _ ?_ ?_
            · intro hx w5 hw5
              replace hw5 := hd hw5
              replace hx := hd hx
              go_wp2
              exact cl1 (no.out (fun _ => by rw [hs.out, jn_none hx.out]) (fun h' => absurd h' h0) _ hw5.out) rfl
            · intro hx w5 m5 A5 hw5
              rw [er.out] at hw5
              replace hw5 := hd hw5
              replace hx := hd hx
              go_wp2_with (fail)
              refine come_any hc _ hw5.out (i + 1) _ _ _ hij.out hi1 (by omega) br hh _ ?_ ?_
              · intro hx2 w6 hw6
                replace hw6 := hd hw6
                replace hx2 := hd hx2
                go_wp2
                exact cl1 (no.out (fun _ => by rw [hs.out, jn_some hx.out]; exact jn_none hx2.out) (fun h' => absurd h' h0) _ hw6.out) rfl
              · intro hx2 w6 m6 A6 hw6
                rw [er.out] at hw6
                replace hw6 := hd hw6
                replace hx2 := hd hx2
                go_wp2
                exact cl1 (yes.out h0 _ (by rw [hs.out, jn_some hx.out]; exact jn_some hx2.out) _ _ _ hw6.out) rfl
          · have t18 : ((op i : Int) == 18) = false := by simp; omega
            by_cases h19 : op i = 19
            · have t19 : ((op i : Int) == 19) = true := by simp [h19]
              have hs := hd (show vmStep op arg To F i H L = jn H L (i + 1) (H i - popsOf (op i) + pushesOf (op i)) 0 by unfold vmStep; rw [hst.out, if_neg h17, if_neg h18, if_pos h19])
              replace h19 := hd h19
              go_wp2_with (fail)
              refine come_any hc _ hS2.out (i + 1) _ _ _ hij.out hi1 (by omega) (by decide) hh _ ?_ ?_
              · intro hx w5 hw5
                replace hw5 := hd hw5
                replace hx := hd hx
                go_wp2
                exact cl1 (no.out (fun _ => by rw [hs.out]; exact jn_none hx.out) (fun h' => absurd h' h0) _ hw5.out) rfl
              · intro hx w5 m5 A5 hw5
                replace hw5 := hd hw5
                replace hx := hd hx
                go_wp2
                exact cl1 (yes.out h0 _ (by rw [hs.out]; exact jn_some hx.out) _ _ _ hw5.out) rfl
            · have t19 : ((op i : Int) == 19) = false := by simp; omega
              by_cases h20 : op i = 20
              · have t20 : ((op i : Int) == 20) = true := by simp [h20]
                obtain ⟨hlp, hfn, ha1, ha2⟩ := hF.out h20
                have hs := hd (show vmStep op arg To F i H L = (if H i = dep H (F i) then jn H L (i + 1) (dep H (F i)) (min (vmD (L (F i)) + min (arg (F i) * vmD (L i)) 200001) 200001) else none) by unfold vmStep; rw [hst.out, if_neg h17, if_neg h18, if_neg h19, if_pos h20])
                replace h20 := hd h20
                go_wp2_with (fail)
                refine leave_any hc _ hS2.out i (F i) _ hi hfn hlp hi1 (by omega) ⟨ha1, ha2⟩ br hHi _ ?_ ?_
                · intro hx w5 hw5
                  replace hw5 := hd hw5
                  replace hx := hd hx
                  go_wp2
                  refine cl1 (no.out (fun _ => ?_) (fun h' => absurd h' h0) _ hw5.out) rfl
                  rw [hs.out]
                  rcases hx.out with hx | hx
                  · rw [if_neg hx]
                  · split
                    · exact jn_none hx
                    · rfl
                · intro hx1 hx w5 m5 A5 hw5
                  rw [er.out] at hw5
                  replace hw5 := hd hw5
                  replace hx := hd hx
                  replace hx1 := hd hx1
                  go_wp2
                  exact cl1 (yes.out h0 _ (by rw [hs.out, if_pos hx1.out]; exact jn_some hx.out) _ _ _ hw5.out) rfl
              · have t20 : ((op i : Int) == 20) = false := by simp; omega
                have hs := hd (show vmStep op arg To F i H L = jn H L (i + 1) (H i - popsOf (op i) + pushesOf (op i)) (vmD (L i)) by unfold vmStep; rw [hst.out, if_neg h17, if_neg h18, if_neg h19, if_neg h20])
                go_wp2_with (fail)
                refine come_any hc _ hS2.out (i + 1) _ _ _ hij.out hi1 (by omega) br hh _ ?_ ?_
                · intro hx w5 hw5
                  replace hw5 := hd hw5
                  replace hx := hd hx
                  go_wp2
                  exact cl1 (no.out (fun _ => by rw [hs.out]; exact jn_none hx.out) (fun h' => absurd h' h0) _ hw5.out) rfl
                · intro hx w5 m5 A5 hw5
                  rw [er.out] at hw5
                  replace hw5 := hd hw5
                  replace hx := hd hx
                  go_wp2
                  exact cl1 (yes.out h0 _ (by rw [hs.out]; exact jn_some hx.out) _ _ _ hw5.out) rfl

end Go.Proofs.YtidhiaaicmfabaaGreatDoor
