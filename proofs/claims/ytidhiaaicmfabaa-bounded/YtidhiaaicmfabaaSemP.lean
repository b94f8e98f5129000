/- Scan, Outputs and Steps. -/
import Derived.Test.YtidhiaaicmfabaaMem
import Derived.Test.YtidhiaaicmfabaaSpec
import Derived.Test.YtidhiaaicmfabaaRefA
import Derived.Test.YtidhiaaicmfabaaRefC
import Derived.Test.YtidhiaaicmfabaaSpec2
import Derived.WalkKit
import Derived.WalkSpells
import Derived.WalkLawsBesides
import Derived.Deep.OwnRows
import Derived.BigQuiet
import Derived.Handy
import Derived.Deep.Light
import Derived.Deep.RegionHeld3
import Derived.Deep.RegionWith
import Derived.Test.YtidhiaaicmfabaaSemO
namespace Go.Proofs.Ytidhiaaicmfabaa
open Go.RowKit Go.Proofs Go.Deep

theorem steps_any (w : World) (bx : Nat) (dn : Int) (h : w.cell? ⟨bx, 3, none⟩ = some (.int .i64 dn)) (R : Ending → World → Prop) (fin : R (.returned (.int .i64 dn)) w) :
    Calls Try.prog 11 #[.pointer (some ⟨bx, 0, none⟩)] w R := by
  replace fin := hd fin
  go_enter Try.func11, Try.ntmps11
  go_wp2
  exact cl1 fin.out rfl
theorem Twain.first {b c base base' : Nat} {w w1 w' : World} (h : Twain b c base' w1 w') (hb : Below base w w1) (hle : base ≤ base') : Twain b c base w w' :=
  ⟨h.os.trans hb.os, h.tape.trans hb.tape, h.output.trans hb.output, Nat.le_trans hle h.size, fun k hk h1 h2 => (h.block k (by omega) h1 h2).trans (hb.block k hk)⟩
theorem runM_w (M : Md) (w w1 : World) (d : Int) (C : Nat → Int) : runM M w d C = runM M w1 d C := by unfold runM; rw [runK_M M w w1 0 0 0 0 0 0 nmT nmT _ _ d]
set_option maxRecDepth 100000 in
set_option maxHeartbeats 1000000 in
theorem scan_any (w : World) (M : Md) (bc : Nat) (C : Nat → Int) (dn0 : Int) (h : Live M bc C dn0 w) (v : Value) (l : List Int) (d : Int) (hv : InpAt bc w v l) {To : Nat → Nat} {H L : Nat → Int} (hkw : ∀ w0 br bc base nm fv d, KW (mkK M w0 br bc base nm fv d) To M.bd H L) (hbd : M.bd ≤ 200000) (R : Ending → World → Prop)
    (bad : (fitsL M.rl M.kd M.nC 0 l = false ∨ d < 0 ∨ 1000000 < d) → ∀ w', Below w.heap.size w w' → R (.returned (.int .i64 3)) w')
    (ok : fitsL M.rl M.kd M.nC 0 l = true → 0 ≤ d ∧ d ≤ 1000000 → ∀ w' q' dn, runM M w d (layL M.rl M.kd M.nC 0 l C) = (q', dn, 0) → Live M bc q'.C dn w' → Twain M.bx bc w.heap.size w w' → 1 ≤ dn → dn ≤ M.bd → R (.returned (.int .i64 0)) w')
    (err : fitsL M.rl M.kd M.nC 0 l = true → 0 ≤ d ∧ d ≤ 1000000 → ∀ w' q' dn e cv, runM M w d (layL M.rl M.kd M.nC 0 l C) = (q', dn, e) → e ≠ 0 → Dead M cv C dn e w' → Twain M.bx bc w.heap.size w w' → 1 ≤ dn → dn ≤ M.bd → R (.returned (.int .i64 e)) w') :
    Calls Try.prog 12 #[.pointer (some ⟨M.bx, 0, none⟩), v, .int .i64 d] w R := by
  have c0 := h.row.cell (i := 0) (by omega)
  have c4 := h.row.cell (i := 4) (by omega)
  rw [show machF M (.slice (some ⟨bc, 0, none⟩) M.nC M.nC) dn0 0 0 = .slice (some ⟨bc, 0, none⟩) M.nC M.nC from rfl] at c0
  rw [show machF M (.slice (some ⟨bc, 0, none⟩) M.nC M.nC) dn0 0 4 = .int .i64 0 from rfl] at c4
  replace bad := hd bad
  replace ok := hd ok
  replace err := hd err
  replace hkw := hd hkw
  replace h := hd h
  replace hv := hd hv
  go_enter Try.func12, Try.ntmps12
  go_wp2_with (fail)
  refine takes_any _ M.bx bc M.nC M.nC M.rl M.kd C v l h.out.nC c0 h.out.cel hv.out _ ?_
  intro w1 hb1
  have hL1 := hd (h.out.below hb1)
  have hv1 := hd (hv.out.below hb1)
  replace hb1 := hd hb1
  by_cases hf : fitsL M.rl M.kd M.nC 0 l = true
  · rw [hf]
    by_cases d1 : d < 0
    · have t1 : decide (d < 0) = true := by simpa using d1
      replace hf := hd hf
      go_wp2
      exact cl1 (bad.out (.inr (.inl d1)) _ hb1.out) rfl
    · have t1 : decide (d < 0) = false := by simpa using d1
      by_cases d2 : 1000000 < d
      · have t2 : decide (1000000 < d) = true := by simpa using d2
        replace hf := hd hf
        go_wp2
        exact cl1 (bad.out (.inr (.inr d2)) _ hb1.out) rfl
      · have t2 : decide (1000000 < d) = false := by simpa using d2
        replace hf := hd hf
        go_wp2_with (fail)
        refine runOnce_any _ M bc C dn0 hL1.out v l d hv1.out hf.out ⟨by omega, by omega⟩ hkw.out hbd _ ?_ ?_
        · intro w' q' dn hr hl ht h1 h2
          have hfin := hd (ok.out hf.out ⟨by omega, by omega⟩ w' q' dn (by rw [runM_w M w w1]; exact hr) hl (ht.first hb1.out hb1.out.size) h1 h2)
          clear hl ht hr
          go_wp2
          exact cl1 hfin.out rfl
        · intro w' q' dn e cv hr he hl ht h1 h2
          have hfin := hd (err.out hf.out ⟨by omega, by omega⟩ w' q' dn e cv (by rw [runM_w M w w1]; exact hr) he hl (ht.first hb1.out hb1.out.size) h1 h2)
          clear hl ht hr
          go_wp2
          exact cl1 hfin.out rfl
  · have hf' : fitsL M.rl M.kd M.nC 0 l = false := by simpa using hf
    rw [hf']
    go_wp2
    exact cl1 (bad.out (.inl hf') _ hb1.out) rfl
theorem scan_dead (w : World) (M : Md) (cv : Value) (C : Nat → Int) (dn e : Int) (h : Dead M cv C dn e w) (v : Value) (d : Int) (R : Ending → World → Prop) (fin : R (.returned (.int .i64 e)) w) :
    Calls Try.prog 12 #[.pointer (some ⟨M.bx, 0, none⟩), v, .int .i64 d] w R := by
  have c4 := h.row.cell (i := 4) (by omega)
  rw [show machF M cv dn e 4 = .int .i64 e from rfl] at c4
  have te : (e != 0) = true := by simpa using h.ne
  replace fin := hd fin
  clear h
  go_enter Try.func12, Try.ntmps12
  go_wp2
  exact cl1 fin.out rfl
/-- What the cells of a role have, in their order. -/
def outsL (rl : Nat → Nat) (C : Nat → Int) : Nat → List Int
  | 0 => []
  | k + 1 => if rl k = 1 then C k :: outsL rl C k else outsL rl C k
theorem outsL_len (rl : Nat → Nat) (C : Nat → Int) : ∀ k, (outsL rl C k).length ≤ k
  | 0 => by simp [outsL]
  | k + 1 => by have := outsL_len rl C k; unfold outsL; split <;> simp <;> omega
set_option maxRecDepth 100000 in
set_option maxHeartbeats 1000000 in
theorem outputs_any (w : World) (bx bc nC cap : Nat) (rl kd : Nat → Nat) (C : Nat → Int) (hn : nC ≤ 100) (hC : ∀ j, in32 (C j)) (hx : w.cell? ⟨bx, 0, none⟩ = some (.slice (some ⟨bc, 0, none⟩) nC cap)) (ht : Tab w bc 93 3 nC cap (cellV rl kd C)) (R : Ending → World → Prop)
    (fin : ∀ v w', Below w.heap.size w w' → w'.ownsRow w.heap.size 3 1 v (outsL rl C nC).length (i64L (outsL rl C nC)) → R (.returned v) w') :
    Calls Try.prog 23 #[.pointer (some ⟨bx, 0, none⟩)] w R := by
  replace fin := hd fin
  replace ht := hd ht
  replace hC := hd hC
  have hbc := ht.out.lt
  go_enter Try.func23, Try.ntmps23
  go_wp2
  go_loopw [3, 11] (fun v i wr => ∃ (k : Nat), k ≤ nC ∧ i = .int .i64 k ∧ wr.ownsRow w.heap.size 3 1 v (outsL rl C k).length (i64L (outsL rl C k)) ∧ Below w.heap.size w wr) (fun _ i _ => nC - (intOf i).toNat)
  case atStart => exact ⟨0, by omega, rfl, World.ownsRow_nil _ _ _ _, Below.refl _ _⟩
  case round =>
    rename_i u3 u11
    obtain ⟨k, hk, rfl, hown, hbel⟩ := hrel
    obtain ⟨ao, cp, rfl⟩ := own_sl hown
    have hlen := outsL_len rl C k
    by_cases hlt : k < nC
    · have htr := ht.out.of_block (w' := wr) (hbel.block bc hbc)
      have k0 := htr.cell0 hlt (by omega)
      have k1 := htr.cell hlt (f := 1) (by omega)
      have k2 := htr.cell hlt (f := 2) (by omega)
      rw [cellV_0] at k0
      rw [cellV_1] at k1
      rw [cellV_2] at k2
      have hbr := htr.lt
      have hCk := hC.out k
      unfold in32 at hCk
      have hwr := hbel.size
      clear htr
      replace hbel := hd hbel
      by_cases h1 : rl k = 1
      · have t1 : ((rl k : Int) == 1) = true := by simp [h1]
        have ho : outsL rl C (k + 1) = C k :: outsL rl C k := by simp [outsL, h1]
        replace ho := hd ho
        replace h1 := hd h1
        replace hown := hd hown
        go_wp2_with (first | (at_builtin; refine wpList_app _ rfl _ _ 37 rfl w.heap.size 3 _ 1 8 ulInt infoI64 rfl (by decide) _ _ _ rfl (by exact (hown.out.alloc _).alloc _) _ 1 1 [.int .i64 (C k)] rfl (by exact alloc_at (by simp)) rfl (oneI64 _) (by unfold maxLen; omega) (by omega) (by simp; omega) ?_; intro v1 w1 hown1 hgr1; obtain ⟨ao1, cp1, rfl⟩ := own_sl hown1; replace hown1 := hd hown1; replace hgr1 := hd hgr1))
        refine ⟨⟨k + 1, by omega, by go_num, by rw [ho.out, i64L_cons]; exact hown1.out, ?_⟩, by simp [intOf]; omega⟩
        exact ((hbel.out.alloc hwr _).alloc (by simp; omega) _).grown hgr1.out (by simp; omega) (fun k hk => (hown.out.lt k hk).1)
      · have t1 : ((rl k : Int) == 1) = false := by simp; omega
        have ho : outsL rl C (k + 1) = outsL rl C k := by simp [outsL, h1]
        replace ho := hd ho
        replace hown := hd hown
        go_wp2
        exact ⟨⟨k + 1, by omega, by go_num, by rw [ho.out]; exact hown.out.alloc _, hbel.out.alloc hwr _⟩, by simp [intOf]; omega⟩
    · have hkn : k = nC := by omega
      subst hkn
      replace hown := hd hown
      replace hbel := hd hbel
      go_wp2
      exact cl1 (fin.out _ _ hbel.out hown.out) rfl

end Go.Proofs.Ytidhiaaicmfabaa
