/- The contract of readImage. -/
import Derived.Test.YtidhiaaicmfabaaGreatDoorMem
import Derived.Test.YtidhiaaicmfabaaGreatDoorSpec
import Derived.Test.YtidhiaaicmfabaaGreatDoorRefA
import Derived.Test.YtidhiaaicmfabaaGreatDoorRefC
import Derived.Test.YtidhiaaicmfabaaGreatDoorSpec2
import Derived.WalkKit
import Derived.WalkSpells
import Derived.WalkLawsBesides
import Derived.Deep.OwnRows
import Derived.BigQuiet
import Derived.Handy
import Derived.Deep.Light
import Derived.Deep.RegionHeld3
import Derived.Deep.RegionWith
import Derived.Test.YtidhiaaicmfabaaGreatDoorLibA
import Derived.Test.YtidhiaaicmfabaaGreatDoorSpec3
import Derived.Test.YtidhiaaicmfabaaGreatDoorVmA
import Derived.Test.YtidhiaaicmfabaaGreatDoorVmB
import Derived.Test.YtidhiaaicmfabaaGreatDoorVmC
namespace Go.Proofs.YtidhiaaicmfabaaGreatDoor
open Go.RowKit Go.Proofs Go.Deep

theorem ba_ext {a b : ByteArray} (h : a.data = b.data) : a = b := by cases a; cases b; simp_all
theorem extract2 (s : ByteArray) (a c : Nat) : (s.extract a s.size).extract c (s.extract a s.size).size = s.extract (a + c) s.size := by
  apply ba_ext
  simp only [ByteArray.data_extract, ByteArray.size_extract, Array.extract_extract]
  congr 1
  simp only [← ByteArray.size_data]
  omega
theorem extract3 (s : ByteArray) (a c : Nat) (h : a + c ≤ s.size) : (s.extract a s.size).extract 0 c = s.extract a (a + c) := by
  apply ba_ext
  simp only [ByteArray.data_extract, Array.extract_extract]
  congr 1
  simp only [← ByteArray.size_data] at h ⊢
  omega
theorem emptyL (r : ByteArray) : r.toList.isEmpty = decide (r.size = 0) := by
  have h : r.toList.length = r.size := by rw [ByteArray.toList_eq]; rfl
  cases hl : r.toList with
  | nil => rw [hl] at h; simp at h; simp [← h]
  | cons a t => rw [hl] at h; simp at h; simp [← h]
theorem rowProg : (Tryz.prog.underlying 115).map TypeDesc.isRow = some true := by kernel_rfl
theorem infoProg : (Tryz.prog.info? 115).map (·.size) = some 2 := by kernel_rfl
/-- Two results, the first in a cell of its own. -/
theorem ret_row2 {fn : Func} {R : Ending → World → Prop} {a : Act} {w : World} {p u : Tmp} {ty n : Nat} (h : fn.results = #[.cell p ty, .tmp u]) (hrow : (Tryz.prog.underlying ty).map TypeDesc.isRow = some true) (hi : (Tryz.prog.info? ty).map (·.size) = some n)
    (g T : Nat) (cs : Array Value) (hn : cs.size = n) (hp : a.tmps.getD p undef = .pointer (some ⟨g, 0, none⟩)) (hg : w.heap[g]? = some (.cells cs T (0, 0))) (hd : a.defers = []) (hR : R (.returned (.tuple #[.agg cs, a.tmps.getD u undef])) w) : bodyPost Tryz.prog fn R .ret a w := by
  obtain ⟨d, h1, h2⟩ := Option.map_eq_some_iff.1 hrow
  have hl := run_loadVar_mid w g 0 ty cs.toList d (range_of_block hg) h1 h2 (by rw [hi, ← hn]; simp)
  refine bodyPost_ret ?_ hd hR
  rw [results_cell_tmp h]
  rw [hp]
  simp [asAddr, Result.andThen, hl]
theorem blk2 {W : World} {g T : Nat} {a0 a1 v0 v1 : Value} (h : W.heap[g]? = some (.cells #[a0, a1] T (0, 0))) :
    ((W.setCell ⟨g, 0, none⟩ v0).setCell ⟨g, 1, none⟩ v1).heap[g]? = some (.cells #[v0, v1] T (0, 0)) := by
  simp [World.setCell, Array.getElem?_modify, h]
theorem two_cells {w : World} {g T : Nat} {v0 v1 : Value} (h : w.heap[g]? = some (.cells #[v0, v1] T (0, 0))) : w.cell? ⟨g, 0, none⟩ = some v0 ∧ w.cell? ⟨g, 1, none⟩ = some v1 ∧ ∀ j, w.frozen? ⟨g, j, none⟩ = false := by
  refine ⟨?_, ?_, fun j => by simp [World.frozen?, h]⟩ <;> rw [cell_of_row w g _ _ T (0, 0) h] <;> rfl
theorem blk_lt' {w : World} {g : Nat} {o : Obj} (h : w.heap[g]? = some o) : g < w.heap.size := (Array.getElem?_eq_some_iff.1 h).1
theorem b16_le (s : ByteArray) (a : Nat) : b16 s a ≤ 65535 := by
  have g1 := bt_le s a
  have g2 := bt_le s (a + 1)
  unfold b16; omega
set_option maxRecDepth 100000 in
set_option maxHeartbeats 2000000 in
theorem readImage_any (w : World) (s : ByteArray) (hs : s.size ≤ maxLen) (R : Ending → World → Prop)
    (no : (∀ bd, ¬ imgOk s bd) → ∀ (a : Option Addr) (n c : Nat) (a' : Option Addr) (n' c' : Nat) w', Below w.heap.size w w' → R (.returned (.tuple #[.agg #[.slice a n c, .slice a' n' c'], .bool false])) w')
    (yes : hdrOk s → sortsOk s → sizeOk s → ∀ l, posF (codeOf s) ((codeOf s).size + 1) 0 = some l → ∀ bc v w', Below w.heap.size w w' → w.heap.size ≤ bc → Tab w' bc 129 3 (bt s 6) (bt s 6) (cellA (fun i => bt s (7 + i) / 3) (fun i => bt s (7 + i) % 3)) →
      w'.ownsRow w.heap.size 254 6 v l.length (l.flatMap (stC (codeOf s))) → bc < w'.heap.size → R (.returned (.tuple #[.agg #[.slice (some ⟨bc, 0, none⟩) (bt s 6) (bt s 6), v], .bool true])) w') :
    Calls Tryz.prog 56 #[.string s] w R := by
  replace no := hd no
  replace yes := hd yes
  have hs' := hs
  unfold maxLen at hs'
  go_enter Tryz.func56, Tryz.ntmps56
  go_wp2_with (fail)
  refine cutPrefix_mark _ _ hs _ ?_ ?_
  · intro hm
    replace hm := hd hm
    go_wp2
    refine ret_row2 rfl rowProg infoProg w.heap.size 115 _ rfl rfl (heap_alloc_new w _) rfl ?_
    refine cl1 (no.out (fun bd h => hm.out ⟨by have := h.1.1; omega, h.1.2.1⟩) _ _ _ _ _ _ _ (by repeat (first | with_reducible exact Below.refl _ _ | with_reducible refine below_drewN ?_ _ | with_reducible refine Below.drew ?_ | with_reducible refine Below.alloc ?_ (by simp) _ | with_reducible refine Below.setCell ?_ (by simp) _))) rfl
  · intro hm
    have h6 := hm.1
    have hbad : ∀ (a : Option Addr) (n c : Nat) (a' : Option Addr) (n' c' : Nat) w', (¬ hdrOk s ∨ ¬ sortsOk s ∨ ¬ sizeOk s ∨ posF (codeOf s) ((codeOf s).size + 1) 0 = none) → Below w.heap.size w w' → R (.returned (.tuple #[.agg #[.slice a n c, .slice a' n' c'], .bool false])) w' := fun a n c a' n' c' w' h hb => no.out (fun bd hi => by
      obtain ⟨h1, h2, h3, ps, h4, _⟩ := hi
      rcases h with h | h | h | h
      · exact h h1
      · exact h h2
      · exact h h3
      · rw [h] at h4; cases h4) a n c a' n' c' w' hb
    have f1 : (s.extract 6 s.size).size = s.size - 6 := by rw [ByteArray.size_extract]; omega
    have f2 : 6 < s.size → bt (s.extract 6 s.size) 0 = bt s 6 := fun h => bt_extract s 6 s.size 0 (by omega) (Nat.le_refl _)
    have f3 : (s.extract 6 s.size).extract 1 (s.extract 6 s.size).size = s.extract 7 s.size := extract2 s 6 1
    have f4 : (s.extract 7 s.size).size = s.size - 7 := by rw [ByteArray.size_extract]; omega
    have f5 : ∀ c, 7 + c ≤ s.size → (s.extract 7 s.size).extract 0 c = s.extract 7 (7 + c) := fun c h => extract3 s 7 c h
    have f6 : ∀ c, (s.extract 7 s.size).extract c (s.extract 7 s.size).size = s.extract (7 + c) s.size := fun c => extract2 s 7 c
    generalize hr : s.extract 6 s.size = r at *
    generalize hr1 : s.extract 7 s.size = r1 at *
    replace hr := hd hr
    replace hr1 := hd hr1
    replace hbad := hd hbad
    replace f5 := hd f5
    by_cases h7 : r.size = 0
    · have er : r.toList.isEmpty = true := by
        rw [emptyL]; simpa using h7
      clear f6 f2
      replace f1 := hd f1
      replace f4 := hd f4
      replace hm := hd hm
      go_wp2
      refine ret_row2 rfl rowProg infoProg w.heap.size 115 _ rfl rfl (heap_alloc_new w _) rfl ?_
      exact cl1 (hbad.out _ _ _ _ _ _ _ (.inl (fun h => by have := h.1; have := f1.out; omega)) (by repeat (first | with_reducible exact Below.refl _ _ | with_reducible refine below_drewN ?_ _ | with_reducible refine Below.drew ?_ | with_reducible refine Below.alloc ?_ (by simp) _ | with_reducible refine Below.setCell ?_ (by simp) _))) rfl
    · have er : r.toList.isEmpty = false := by
        rw [emptyL]; simpa using h7
      have h0r : 0 < r.size := by omega
      have hb0 := bt_of r 0 h0r
      rw [f2 (by omega)] at hb0
      have hle := bt_le s 6
      generalize hnC : bt s 6 = nC at *
      replace hnC := hd hnC
      clear f2
      have i0 : (0 : Int) < (r.size : Int) := by omega
      have i1 : (1 : Int) ≤ (r.size : Int) := by omega
      by_cases hcnt : nC ≤ 100
      · have d100 : decide ((100 : Int) < (nC : Int)) = false := by simp; omega
        by_cases hfit : nC + 2 ≤ r1.size
        · have dfit : decide ((r1.size : Int) < (nC : Int) + 2) = false := by simp; omega
          have hsz7 := hd (show 9 + nC ≤ s.size by omega)
          replace f1 := hd f1
          replace f4 := hd f4
          replace f6 := hd f6
          replace hm := hd hm
          go_wp2_with (fail)
          have g5 := f5.out nC (by have := f4.out; omega)
          have gs : (r1.extract 0 nC).size = nC := by rw [g5, ByteArray.size_extract]; have := f4.out; omega
          have gb : ∀ i, i < nC → bt (r1.extract 0 nC) i = bt s (7 + i) := fun i hi => by rw [g5]; exact bt_extract s 7 (7 + nC) i (by omega) (by have := f4.out; omega)
          have g6 := f6.out nC
          have gs6 : (r1.extract nC r1.size).size = s.size - (7 + nC) := by rw [g6, ByteArray.size_extract]; omega
          have gb6 : b16 (r1.extract nC r1.size) 0 = b16 s (7 + nC) := by
            rw [g6]; unfold b16
            rw [bt_extract s (7 + nC) s.size 0 (by have := f4.out; omega) (Nat.le_refl _), bt_extract s (7 + nC) s.size (0 + 1) (by have := f4.out; omega) (Nat.le_refl _)]
            simp [Nat.add_assoc]
          have g7 : r1.extract (nC + 2) r1.size = codeOf s := by
            rw [f6.out (nC + 2)]; unfold codeOf; rw [hnC.out, show 7 + (nC + 2) = 9 + nC by omega]
          have gs7 : (codeOf s).size = s.size - (9 + nC) := by unfold codeOf; rw [hnC.out, ByteArray.size_extract]; omega
          generalize hq5 : r1.extract 0 nC = q5 at *
          generalize hq6 : r1.extract nC r1.size = q6 at *
          generalize hcc : codeOf s = cc at *
          have hu16 := b16_le q6 0
          have hhdr := hd (show hdrOk s from ⟨by have := hsz7.out; omega, hm.out.2, by rw [hnC.out]; exact hcnt, by rw [hnC.out]; exact hsz7.out⟩)
          have hsrt := hd (show (∀ i, i < q5.size → bt q5 i ≤ 8) ↔ sortsOk s from by
            unfold sortsOk
            rw [hnC.out, gs]
            constructor
            · intro h i hi; rw [← gb i hi]; exact h i hi
            · intro h i hi; rw [gb i hi]; exact h i hi)
          have hszk := hd (show (b16 q6 0 = cc.size ∧ b16 q6 0 ≤ 8000) ↔ sizeOk s from by
            unfold sizeOk
            rw [hnC.out, gb6, gs7]
            constructor
            · rintro ⟨a, b⟩; exact ⟨a.symm, b⟩
            · rintro ⟨a, b⟩; exact ⟨a.symm, b⟩)
          replace g5 := hd g5
          replace g6 := hd g6
          replace gb := hd gb
          replace gb6 := hd gb6
          replace gs := hd gs
          replace gs6 := hd gs6
          replace gs7 := hd gs7
          replace hcc := hd hcc
          refine readCells_any _ _ (by rw [gs.out]; exact hcnt) _ ?_ ?_
          · intro hx w2 hb2
            have hz : w2.heap[w.heap.size]? = some (.cells #[.slice none 0 0, .slice none 0 0] 115 (0, 0)) := (hb2.block _ (by simp)).trans (heap_alloc_new w _)
            obtain ⟨c0, c1, cf⟩ := two_cells hz
            have hbw := hd (bel_step (show Below w.heap.size w _ from (by repeat (first | with_reducible exact Below.refl _ _ | with_reducible refine below_drewN ?_ _ | with_reducible refine Below.drew ?_ | with_reducible refine Below.alloc ?_ (by simp) _ | with_reducible refine Below.setCell ?_ (by simp) _))) (Nat.le_refl _) hb2)
            replace hz := hd hz
            replace hb2 := hd hb2
            replace hx := hd hx
            go_wp2
            refine ret_row2 rfl rowProg infoProg w.heap.size 115 _ rfl rfl (blk2 hz.out) rfl ?_
            refine cl1 (hbad.out _ _ _ _ _ _ _ (.inr (.inl (fun h => ?_))) ((hbw.out.setCell (Nat.le_refl _) _).setCell (Nat.le_refl _) _)) rfl
            obtain ⟨i, hi, h8⟩ := hx.out
            have := hsrt.out.2 h i hi
            omega
          · intro hx w2 hb2 htab2
            have hz : w2.heap[w.heap.size]? = some (.cells #[.slice none 0 0, .slice none 0 0] 115 (0, 0)) := (hb2.block _ (by simp)).trans (heap_alloc_new w _)
            obtain ⟨c0, c1, cf⟩ := two_cells hz
            have hbw := hd (bel_step (show Below w.heap.size w _ from (by repeat (first | with_reducible exact Below.refl _ _ | with_reducible refine below_drewN ?_ _ | with_reducible refine Below.drew ?_ | with_reducible refine Below.alloc ?_ (by simp) _ | with_reducible refine Below.setCell ?_ (by simp) _))) (Nat.le_refl _) hb2)
            have hsok := hd (hsrt.out.1 hx)
            have hsz2 := blk_lt' hz
            rw [gs.out]
            have e1 : (w.alloc (Obj.cells #[.slice none 0 0, .slice none 0 0] 115)).heap.size = w.heap.size + 1 := by simp
            rw [e1] at htab2 ⊢
            rw [gs.out] at htab2
            have hlt2 := htab2.lt
            replace htab2 := hd htab2
            replace hz := hd hz
            replace hb2 := hd hb2
            clear hx e1
            go_wp2_with (fail)
            refine readU16_any _ _ (by rw [gs6.out]; have := hsz7.out; omega) (by rw [gs6.out]; unfold maxLen; omega) _ ?_
            intro k
            by_cases hok : b16 q6 0 = cc.size ∧ b16 q6 0 ≤ 8000
            · have d8 : decide ((8000 : Int) < (b16 q6 0 : Nat)) = false := by simp; omega
              have dn : (((b16 q6 0 : Nat) : Int) != (cc.size : Int)) = false := by simp; omega
              have hcl : cc.size ≤ 8000 := by omega
              have hszok := hd (hszk.out.1 hok)
              replace hok := hd hok
              go_wp2_with (fail)
              refine readCode_any _ _ hcl _ ?_ ?_
              · intro hp w3 hb3
                have hz3 : w3.heap[w.heap.size]? = some (.cells #[.slice none 0 0, .slice none 0 0] 115 (0, 0)) := (hb3.block _ hsz2).trans hz.out
                obtain ⟨c30, c31, cf3⟩ := two_cells hz3
                have hbw3 := hd (bel_step (below_drewN hbw.out k) (Nat.le_refl _) hb3)
                replace hz3 := hd hz3
                replace hb3 := hd hb3
                replace hp := hd hp
                go_wp2
                refine ret_row2 rfl rowProg infoProg w.heap.size 115 _ rfl rfl (blk2 hz3.out) rfl ?_
                exact cl1 (hbad.out _ _ _ _ _ _ _ (.inr (.inr (.inr hp.out))) ((hbw3.out.setCell (Nat.le_refl _) _).setCell (Nat.le_refl _) _)) rfl
              · intro l hl v w3 hb3 hown3
                have hz3 : w3.heap[w.heap.size]? = some (.cells #[.slice none 0 0, .slice none 0 0] 115 (0, 0)) := (hb3.block _ hsz2).trans hz.out
                obtain ⟨c30, c31, cf3⟩ := two_cells hz3
                have hbw3 := hd (bel_step (below_drewN hbw.out k) (Nat.le_refl _) hb3)
                have htab3 := hd (htab2.out.of_block (hb3.block _ hlt2))
                have hsz3 := hd hb3.size
                obtain ⟨ao, cv, rfl⟩ := own_sl hown3
                replace hz3 := hd hz3
                replace hb3 := hd hb3
                replace hl := hd hl
                replace hown3 := hd hown3
                go_wp2
                refine ret_row2 rfl rowProg infoProg w.heap.size 115 _ rfl rfl (blk2 hz3.out) rfl ?_
                refine cl1 (yes.out hhdr.out hsok.out hszok.out l hl.out (w.heap.size + 1) _ _ ((hbw3.out.setCell (Nat.le_refl _) _).setCell (Nat.le_refl _) _) (Nat.le_succ _) ?_ ?_ ?_) rfl
                · refine (((htab3.out.setOther (a := ⟨w.heap.size, 0, none⟩) (by simp) _).setOther (a := ⟨w.heap.size, 1, none⟩) (by simp) _)).congr (fun i hi f _ => ?_)
                  unfold cellA
                  simp only [gb.out i hi]
                · exact own_base (own_set (own_set hown3.out (a := ⟨w.heap.size, 0, none⟩) hsz2 _) (a := ⟨w.heap.size, 1, none⟩) hsz2 _) (Nat.le_of_lt hsz2)
                · rw [World.size_setCell, World.size_setCell]
                  have h3 : w2.heap.size ≤ w3.heap.size := hsz3.out
                  omega
            · have hnok := hd (show ¬ sizeOk s from fun h => hok (hszk.out.2 h))
              by_cases h8 : b16 q6 0 ≤ 8000
              · have d8 : decide ((8000 : Int) < (b16 q6 0 : Nat)) = false := by simp; omega
                have dn : (((b16 q6 0 : Nat) : Int) != (cc.size : Int)) = true := by simp; omega
                replace hok := hd hok
                go_wp2
                refine ret_row2 rfl rowProg infoProg w.heap.size 115 _ rfl rfl (blk2 (show (w2.drewN k).heap[w.heap.size]? = _ from hz.out)) rfl ?_
                exact cl1 (hbad.out _ _ _ _ _ _ _ (.inr (.inr (.inl hnok.out))) (((below_drewN hbw.out k).setCell (Nat.le_refl _) _).setCell (Nat.le_refl _) _)) rfl
              · have d8 : decide ((8000 : Int) < (b16 q6 0 : Nat)) = true := by simp; omega
                replace hok := hd hok
                go_wp2
                refine ret_row2 rfl rowProg infoProg w.heap.size 115 _ rfl rfl (blk2 (show (w2.drewN k).heap[w.heap.size]? = _ from hz.out)) rfl ?_
                exact cl1 (hbad.out _ _ _ _ _ _ _ (.inr (.inr (.inl hnok.out))) (((below_drewN hbw.out k).setCell (Nat.le_refl _) _).setCell (Nat.le_refl _) _)) rfl
        · have dfit : decide ((r1.size : Int) < (nC : Int) + 2) = true := by simp; omega
          clear f6
          have hsz7 : ¬ 9 + nC ≤ s.size := by omega
          replace f1 := hd f1
          replace f4 := hd f4
          replace hm := hd hm
          go_wp2
          refine ret_row2 rfl rowProg infoProg w.heap.size 115 _ rfl rfl (heap_alloc_new w _) rfl ?_
          exact cl1 (hbad.out _ _ _ _ _ _ _ (.inl (fun h => by have h2 := h.2.2.2; rw [hnC.out] at h2; omega)) (by repeat (first | with_reducible exact Below.refl _ _ | with_reducible refine below_drewN ?_ _ | with_reducible refine Below.drew ?_ | with_reducible refine Below.alloc ?_ (by simp) _ | with_reducible refine Below.setCell ?_ (by simp) _))) rfl
      · have d100 : decide ((100 : Int) < (nC : Int)) = true := by simp; omega
        clear f6
        replace f1 := hd f1
        replace f4 := hd f4
        replace hm := hd hm
        go_wp2
        refine ret_row2 rfl rowProg infoProg w.heap.size 115 _ rfl rfl (heap_alloc_new w _) rfl ?_
        exact cl1 (hbad.out _ _ _ _ _ _ _ (.inl (fun h => by have h2 := h.2.2.1; rw [hnC.out] at h2; omega)) (by repeat (first | with_reducible exact Below.refl _ _ | with_reducible refine below_drewN ?_ _ | with_reducible refine Below.drew ?_ | with_reducible refine Below.alloc ?_ (by simp) _ | with_reducible refine Below.setCell ?_ (by simp) _))) rfl

end Go.Proofs.YtidhiaaicmfabaaGreatDoor
