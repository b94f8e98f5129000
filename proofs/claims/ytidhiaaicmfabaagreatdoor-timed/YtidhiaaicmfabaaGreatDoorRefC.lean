/- The contract of the document's own function loops. -/
import Derived.Test.YtidhiaaicmfabaaGreatDoorMem
import Derived.Test.YtidhiaaicmfabaaGreatDoorSpec
import Derived.Test.YtidhiaaicmfabaaGreatDoorRefA
import Derived.WalkKit
import Derived.WalkSpells
import Derived.WalkLawsBesides
import Derived.Deep.OwnRows
import Derived.BigQuiet
import Derived.Handy
import Derived.Deep.Light
namespace Go.Proofs.YtidhiaaicmfabaaGreatDoor
open Go.RowKit Go.Proofs Go.Deep

/-- The code's table as the document's own reader lays it: At, Op, C, N, To, In. -/
def codeA (at_ : Nat → Nat) (op : Nat → Nat) (C : Nat → Nat) (N : Nat → Int) (To In : Nat → Int) (i f : Nat) : Value :=
  .int .i64 (if f = 0 then (at_ i : Int) else if f = 1 then (op i : Int) else if f = 2 then (C i : Int) else if f = 3 then N i else if f = 4 then To i else In i)

def stV (st : List Nat) : List Value := st.reverse.map fun f : Nat => Value.int .i64 (f : Int)
theorem codeA_in {at_ op C : Nat → Nat} {N To In : Nat → Int} {k : Nat} {x : Int} (j g : Nat) (hg : g < 6) :
    (if j = k ∧ g = 5 then Value.int .i64 x else codeA at_ op C N To In j g) = codeA at_ op C N To (fun j => if j = k then x else In j) j g := by
  unfold codeA
  by_cases e : g = 5
  · subst e; by_cases e2 : j = k <;> simp [e2]
  · simp only [e, and_false, if_false]
    (repeat' split) <;> first | rfl | omega
theorem codeA_to {at_ op C : Nat → Nat} {N To In : Nat → Int} {k : Nat} {x : Int} (j g : Nat) :
    (if j = k ∧ g = 4 then Value.int .i64 x else codeA at_ op C N To In j g) = codeA at_ op C N (fun j => if j = k then x else To j) In j g := by
  unfold codeA
  by_cases e : g = 4
  · subst e; by_cases e2 : j = k <;> simp [e2]
  · simp only [e, and_false, if_false]
theorem inOf_nil {op : Nat → Nat} {k : Nat} (h : stk op k = some []) : inOf op k = -1 := by simp [inOf, h]
theorem inOf_cons {op : Nat → Nat} {k f : Nat} {t : List Nat} (h : stk op k = some (f :: t)) : inOf op k = f := by simp [inOf, h]
theorem stk_other {op : Nat → Nat} {k : Nat} {st : List Nat} (h : stk op k = some st) (h1 : op k ≠ 19) (h2 : op k ≠ 20) : stk op (k + 1) = some st := by simp [stk, h, h1, h2]
theorem stk_for {op : Nat → Nat} {k : Nat} {st : List Nat} (h : stk op k = some st) (h1 : op k = 19) (h2 : st.length < 10) : stk op (k + 1) = some (k :: st) := by
  simp [stk, h, h1]; omega
theorem stk_far {op : Nat → Nat} {k : Nat} {st : List Nat} (h : stk op k = some st) (h1 : op k = 19) (h2 : 10 ≤ st.length) : stk op (k + 1) = none := by
  simp [stk, h, h1, h2]
theorem stk_next {op : Nat → Nat} {k f : Nat} {t : List Nat} (h : stk op k = some (f :: t)) (h1 : op k = 20) : stk op (k + 1) = some t := by simp [stk, h, h1]
theorem stk_none20 {op : Nat → Nat} {k : Nat} (h : stk op k = some []) (h1 : op k = 20) : stk op (k + 1) = none := by simp [stk, h, h1]
theorem in_same {op : Nat → Nat} {k n : Nat} {In : Nat → Int} (h1 : ∀ j, j < k → In j = inOf op j) (h2 : ∀ j, k ≤ j → j < n → In j = -1) (hk : k < n) (h : inOf op k = -1) :
    (∀ j, j < k + 1 → In j = inOf op j) ∧ (∀ j, k + 1 ≤ j → j < n → In j = -1) :=
  ⟨fun j hj => by by_cases e : j = k
                  · subst e; rw [h2 j (by omega) hk, h]
                  · exact h1 j (by omega), fun j hj hn => h2 j (by omega) hn⟩
theorem in_set {op : Nat → Nat} {k n : Nat} {In : Nat → Int} {x : Int} (h1 : ∀ j, j < k → In j = inOf op j) (h2 : ∀ j, k ≤ j → j < n → In j = -1) (h : inOf op k = x) :
    (∀ j, j < k + 1 → (fun j => if j = k then x else In j) j = inOf op j) ∧ (∀ j, k + 1 ≤ j → j < n → (fun j => if j = k then x else In j) j = -1) :=
  ⟨fun j hj => by by_cases e : j = k
                  · subst e; simp [h]
                  · simp only [e, if_false]; exact h1 j (by omega), fun j hj hn => by
                      have e : j ≠ k := by omega
                      simp only [e, if_false]; exact h2 j (by omega) hn⟩
theorem to_other {op : Nat → Nat} {k : Nat} {To : Nat → Int} (h : ∀ j, j < k → op j = 20 → To j = inOf op j) (h1 : op k ≠ 20) : ∀ j, j < k + 1 → op j = 20 → To j = inOf op j :=
  fun j hj ho => by
    by_cases e : j = k
    · subst e; exact absurd ho h1
    · exact h j (by omega) ho
theorem own_set {w : World} {base e size : Nat} {v : Value} {n : Nat} {xs : List Value} (h : w.ownsRow base e size v n xs) {a : Addr} (ha : a.block < base) (u : Value) : (w.setCell a u).ownsRow base e size v n xs :=
  ownsRow_setCell_below h ha u
theorem stV_cons (f : Nat) (t : List Nat) : stV (f :: t) = stV t ++ [Value.int .i64 (f : Int)] := by simp [stV]
theorem stV_len (t : List Nat) : (stV t).length = t.length := by simp [stV]
theorem oneC1 (a : Int) : ∀ u ∈ [Value.int .i64 a], u.oneCell' = true := by
  intro u hu; simp only [List.mem_cons, List.not_mem_nil, or_false] at hu; rcases hu with rfl; rfl

theorem infoInt : (Tryz.prog.info? 3).map (fun i => (i.zero, i.size, i.bytes)) = some (some (.int .i64 0), 1, 8) := by kernel_rfl
theorem ulInts : Tryz.prog.underlying 38 = some (.slice 3) := by kernel_rfl

set_option maxRecDepth 100000 in
set_option maxHeartbeats 8000000 in
theorem loops_any (w : World) (bx b n cap : Nat) (at_ op C : Nat → Nat) (N To In : Nat → Int) (hn : n ≤ 8000) (hne : bx ≠ b)
    (hx : w.cell? ⟨bx, 1, none⟩ = some (.slice (some ⟨b, 0, none⟩) n cap))
    (ht : Tab w b 123 6 n cap (codeA at_ op C N To In)) (hIn : ∀ i, i < n → In i = -1)
    (R : Ending → World → Prop)
    (no : stk op n ≠ some [] → ∀ w', Only b w w' → R (.returned (.bool false)) w')
    (yes : stk op n = some [] → ∀ w' To', Only b w w' → Tab w' b 123 6 n cap (codeA at_ op C N To' (inOf op)) → (∀ i, i < n → op i = 20 → To' i = inOf op i) → R (.returned (.bool true)) w') :
    Calls Tryz.prog 96 #[.pointer (some ⟨bx, 0, none⟩)] w R := by
  replace yes := hd yes
  replace no := hd no
  replace hIn := hd hIn
  have hbx : bx < w.heap.size := World.block_lt_of_cell? w _ hx
  have hb := ht.lt
  replace ht := hd ht
  go_enter Tryz.func96, Tryz.ntmps96
  go_wp2
  go_loopw [3, 4] (fun v i wr => ∃ (k : Nat) (st : List Nat) (To' In' : Nat → Int), k ≤ n ∧ i = .int .i64 k ∧ stk op k = some st ∧ wr.ownsRow w.heap.size 3 1 v st.length (stV st) ∧
      Only b w wr ∧ Tab wr b 123 6 n cap (codeA at_ op C N To' In') ∧ (∀ j, j < k → In' j = inOf op j) ∧ (∀ j, k ≤ j → j < n → In' j = -1) ∧ (∀ j, j < k → op j = 20 → To' j = inOf op j)) (fun _ i _ => n - (intOf i).toNat)
  case atStart => exact ⟨0, [], To, In, by omega, rfl, rfl, World.ownsRow_nil _ _ _ _, Only.refl _ _, ht.out, by omega, fun j _ hj => hIn.out j hj, by omega⟩
  case round =>
    obtain ⟨k, st, To', In', hk, rfl, hst, hown, honly, htab, hin1, hin2, hto⟩ := hrel
    have hx1 : wr.cell? ⟨bx, 1, none⟩ = some (.slice (some ⟨b, 0, none⟩) n cap) := by rw [honly.cell hbx hne]; exact hx
    have hlen := stk_len op k st hst
    have hmem := hd (stk_mem op k st hst)
    obtain ⟨ao, capo, hv, hcapo, hform⟩ := own_form hown
    subst hv
    have hbs := honly.size
    replace hown := hd hown
    replace honly := hd honly
    replace hst := hd hst
    replace hin1 := hd hin1
    replace hin2 := hd hin2
    replace hto := hd hto
    replace hform := hd hform
    by_cases hlt : k < n
    · have c1 : wr.cell? ⟨b, k * 6 + 1, none⟩ = some (.int .i64 (op k)) := htab.cell hlt (f := 1) (by omega)
      have c5 : wr.cell? ⟨b, k * 6 + 5, none⟩ = some (.int .i64 (-1)) := by rw [htab.cell hlt (f := 5) (by omega), ← hin2.out k (by omega) hlt]; rfl
      have c4 : wr.cell? ⟨b, k * 6 + 4, none⟩ = some (.int .i64 (To' k)) := htab.cell hlt (f := 4) (by omega)
      have fz := fun o => htab.frozen o
      replace htab := hd htab
      cases st with
      | nil =>
        have hi0 := inOf_nil hst.out
        replace hi0 := hd hi0
        simp only [List.length_nil] at hcapo hlen hown hform ⊢
        by_cases h19 : op k = 19
        · replace h19 := hd h19
          have e19 : ((op k : Int) == 19) = true := by simp [h19.out]
          go_wp2_with (first | (at_builtin; refine wpList_app _ rfl _ _ 38 rfl w.heap.size 3 _ 1 8 ulInts infoInt rfl (by decide) _ _ _ rfl (by first | exact hown.out.alloc _ | exact (own_set hown.out hb _).alloc _) _ 1 1 _ rfl (alloc_at (by simp)) rfl (oneC1 _) (by unfold maxLen; omega) (by omega) (by simp; omega) ?_; intro v1 w1 hown1 hgr1; have hf1 := own_form hown1; replace hown1 := hd hown1; replace hgr1 := hd hgr1; obtain ⟨ao1, capo1, rfl, hcap1, hform1⟩ := hf1; replace hform1 := hd hform1))
          have hi := in_same hin1.out hin2.out hlt hi0.out
          refine ⟨⟨k + 1, [k], To', In', by omega, by go_num, stk_for hst.out h19.out (by simp), hown1.out, ?_, ?_, hi.1, hi.2, to_other hto.out (by rw [h19.out]; decide)⟩, by simp [intOf]; omega⟩
          · exact (honly.out.alloc _).grown hgr1.out (fun k hk => .inr (hown.out.lt k hk).1)
          · exact (htab.out.alloc _).of_block (hgr1.out.block b (by simp; omega) (fun e => by have := (hown.out.lt b e.symm).1; omega))
        · by_cases h20 : op k = 20
          · go_wp2
            refine cl1 (no.out (by rw [stk_none op (stk_none20 hst.out h20) (by omega)]; simp) _ honly.out) rfl
          · have e19 : ((op k : Int) == 19) = false := by simp; omega
            have e20 : ((op k : Int) == 20) = false := by simp; omega
            go_wp2
            have hi := in_same hin1.out hin2.out hlt hi0.out
            refine ⟨⟨k + 1, [], To', In', by omega, by go_num, stk_other hst.out h19 h20, hown.out, honly.out, htab.out, hi.1, hi.2, to_other hto.out h20⟩, by simp [intOf]; omega⟩
      | cons f t =>
        have hif := hd (inOf_cons hst.out)
        obtain ⟨g, hao, hg1, hg2, hgc⟩ := hform.out (by simp)
        subst hao
        have hfm := hmem.out f (by simp)
        have cg : wr.cell? ⟨g, t.length, none⟩ = some (.int .i64 (f : Int)) := hgc t.length _ (by rw [stV_cons, List.getElem?_append_right (by rw [stV_len]; omega), stV_len]; simp)
        have hgb : ¬ g = b := by omega
        have hgb' : ¬ b = g := by omega
        replace hgc := hd hgc
        simp only [List.length_cons] at hcapo hlen hown hform ⊢
        have hi := in_set hin1.out hin2.out (x := (f : Int)) hif.out
        have htab5 : Tab (wr.setCell ⟨b, k * 6 + 5, none⟩ (.int .i64 (f : Int))) b 123 6 n cap (codeA at_ op C N To' (fun j => if j = k then (f : Int) else In' j)) :=
          (htab.out.set k 5 (by omega) _).congr (fun j _ g hg => codeA_in j g hg)
        have honly5 : Only b w (wr.setCell ⟨b, k * 6 + 5, none⟩ (.int .i64 (f : Int))) := honly.out.setCell (.inl rfl) _
        replace hi := hd hi
        replace htab5 := hd htab5
        replace honly5 := hd honly5
        by_cases h19 : op k = 19
        · replace h19 := hd h19
          have e19 : ((op k : Int) == 19) = true := by simp [h19.out]
          by_cases hfull : 10 ≤ t.length + 1
          · have hlf : 10 < (t.length : Int) + 1 + 1 := by omega
            go_wp2_with (first | (at_builtin; refine wpList_app _ rfl _ _ 38 rfl w.heap.size 3 _ 1 8 ulInts infoInt rfl (by decide) _ _ _ rfl (by first | exact hown.out.alloc _ | exact (own_set hown.out hb _).alloc _) _ 1 1 _ rfl (alloc_at (by simp)) rfl (oneC1 _) (by unfold maxLen; omega) (by omega) (by simp; omega) ?_; intro v1 w1 hown1 hgr1; have hf1 := own_form hown1; replace hown1 := hd hown1; replace hgr1 := hd hgr1; obtain ⟨ao1, capo1, rfl, hcap1, hform1⟩ := hf1; replace hform1 := hd hform1))
            refine cl1 (no.out (by rw [stk_none op (stk_far hst.out h19.out (by simpa using hfull)) (by omega)]; simp) _ ?_) rfl
            exact (honly5.out.alloc _).grown hgr1.out (fun k hk => .inr (hown.out.lt k hk).1)
          · have hlf : t.length + 1 + 1 ≤ 10 := by omega
            go_wp2_with (first | (at_builtin; refine wpList_app _ rfl _ _ 38 rfl w.heap.size 3 _ 1 8 ulInts infoInt rfl (by decide) _ _ _ rfl (by first | exact hown.out.alloc _ | exact (own_set hown.out hb _).alloc _) _ 1 1 _ rfl (alloc_at (by simp)) rfl (oneC1 _) (by unfold maxLen; omega) (by omega) (by simp; omega) ?_; intro v1 w1 hown1 hgr1; have hf1 := own_form hown1; replace hown1 := hd hown1; replace hgr1 := hd hgr1; obtain ⟨ao1, capo1, rfl, hcap1, hform1⟩ := hf1; replace hform1 := hd hform1))
            refine ⟨⟨k + 1, k :: f :: t, To', _, by omega, by go_num, stk_for hst.out h19.out (by simp; omega), ?_, ?_, ?_, hi.out.1, hi.out.2, to_other hto.out (by rw [h19.out]; decide)⟩, by simp [intOf]; omega⟩
            · rw [stV_cons]; exact hown1.out
            · exact (honly5.out.alloc _).grown hgr1.out (fun k hk => .inr (hown.out.lt k hk).1)
            · exact (htab5.out.alloc _).of_block (hgr1.out.block b (by simp; omega) (fun e => by have := (hown.out.lt b e.symm).1; omega))
        · by_cases h20 : op k = 20
          · replace h20 := hd h20
            have e19 : ((op k : Int) == 19) = false := by simp; omega
            have e20 : ((op k : Int) == 20) = true := by simp [h20.out]
            have hfn : (f : Int) < (n : Int) := by omega
            have cf4 : wr.cell? ⟨b, f * 6 + 4, none⟩ = some (.int .i64 (To' f)) := htab.out.cell (by omega) (f := 4) (by omega)
            have hkf : ¬ f * 6 + 4 = k * 6 + 4 := by omega
            have hkf5 : ¬ f * 6 + 4 = k * 6 + 5 := by omega
            have e0 : ((t.length : Int) + 1 == 0) = false := by simp; omega
            go_wp2
            go_region
            go_wp2
            refine ⟨⟨k + 1, t, (fun j => if j = f then (k : Int) else if j = k then (f : Int) else To' j), _, by omega, by go_num, stk_next hst.out h20.out, ?_, ?_, ?_, hi.out.1, hi.out.2, ?_⟩, by simp [intOf]; omega⟩
            · have h1 := hown.out
              rw [stV_cons] at h1
              exact own_drew (own_set (own_set (own_set (ownsRow_pop (by rw [stV_len]; omega) h1) hb _) hb _) hb _)
            · exact ((honly5.out.setCell (.inl rfl) _).setCell (.inl rfl) _).drew
            · have h1 := (htab5.out.set k 4 (by omega) (.int .i64 (f : Int))).congr (fun j _ g _ => codeA_to j g)
              have h2 := (h1.set f 4 (by omega) (.int .i64 (k : Int))).congr (fun j _ g _ => codeA_to j g)
              exact h2.drew
            · intro j hj ho
              have hjf : j ≠ f := fun e => by rw [e, hfm.2] at ho; omega
              simp only [hjf, if_false]
              by_cases e : j = k
              · subst e; simp [hif.out]
              · simp only [e, if_false]; exact hto.out j (by omega) ho
          · have e19 : ((op k : Int) == 19) = false := by simp; omega
            have e20 : ((op k : Int) == 20) = false := by simp; omega
            go_wp2
            refine ⟨⟨k + 1, f :: t, To', _, by omega, by go_num, stk_other hst.out h19 h20, own_set hown.out hb _, honly5.out, htab5.out, hi.out.1, hi.out.2, to_other hto.out h20⟩, by simp [intOf]; omega⟩
    · have : k = n := by omega
      subst this
      go_wp2
      by_cases e : st = []
      · subst e
        refine cl1 (yes.out hst.out _ _ honly.out (htab.congr fun i hi f hf => ?_) hto.out) rfl
        unfold codeA
        (repeat' split) <;> first | rfl | (rw [hin1.out i hi])
      · refine cl1 (no.out (by rw [hst.out]; simpa using e) _ honly.out) ?_
        have : st.length ≠ 0 := by simpa using e
        simp [this]

end Go.Proofs.YtidhiaaicmfabaaGreatDoor
