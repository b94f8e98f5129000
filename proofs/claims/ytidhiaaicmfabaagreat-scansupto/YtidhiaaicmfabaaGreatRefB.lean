/- The contract of the document's own function split. -/
import Derived.Test.YtidhiaaicmfabaaGreatRefA
import Derived.WalkKit
import Derived.WalkSpells
import Derived.WalkLawsBesides
import Derived.Deep.OwnRows
import Derived.BigQuiet
import Derived.Handy
import Derived.Deep.Light
namespace Go.Proofs.YtidhiaaicmfabaaGreat
open Go.RowKit Go.Proofs Go.Deep

theorem infoDo : (Tryz.prog.info? 109).map (fun i => (i.zero, i.size, i.bytes)) = some (some (.agg #[.int .i64 0, .int .i64 0, .int .i64 0, .int .i64 0, .int .i64 0, .int .i64 0]), 6, 48) := by kernel_rfl
theorem ulDo : Tryz.prog.underlying 63 = some (.slice 109) := by kernel_rfl

set_option maxRecDepth 100000 in
set_option maxHeartbeats 8000000 in
theorem split_any (w : World) (s : ByteArray) (hs : s.size ≤ 8000) (R : Ending → World → Prop)
    (no : posF s (s.size + 1) 0 = none → ∀ w', Below w.heap.size w w' → R (.returned (.tuple #[.slice none 0 0, .bool false])) w')
    (yes : ∀ l, posF s (s.size + 1) 0 = some l → ∀ v w', Below w.heap.size w w' → w'.ownsRow w.heap.size 109 6 v l.length (l.flatMap (doC s)) → R (.returned (.tuple #[v, .bool true])) w') :
    Calls Tryz.prog 42 #[.string s] w R := by
  replace yes := hd yes
  replace no := hd no
  go_enter Tryz.func42, Tryz.ntmps42
  go_wp2
  go_loopw [4, 5] (fun out i wr => ∃ (l : List Nat) (a : Nat), a ≤ s.size ∧ l.length ≤ a ∧ i = .int .i64 a ∧ wr.ownsRow w.heap.size 109 6 out l.length (l.flatMap (doC s)) ∧ Below w.heap.size w wr ∧
      posF s (s.size + 1) 0 = (posF s (s.size + 1 - l.length) a).map (l ++ ·)) (fun _ i _ => s.size - (intOf i).toNat)
  case atStart => exact ⟨[], 0, by omega, by simp, rfl, World.ownsRow_nil _ _ _ _, Below.refl _ _, by simp⟩
  case round =>
    obtain ⟨l, a, ha, hla, rfl, hown, hbel, hpos⟩ := hrel
    have hbs : w.heap.size ≤ wr.heap.size := hbel.size
    have hml : l.length + 1 ≤ maxLen := by unfold maxLen; omega
    have hml2 : (l.length + 1) * 48 ≤ 140737488355328 := by omega
    replace hown := hd hown
    replace hbel := hd hbel
    replace hpos := hd hpos
    by_cases hlt : a < s.size
    · have hb0 := bt_of s a hlt
      have hle := bt_le s a
      by_cases hbad : osz (bt s a) = 0 ∨ s.size < a + osz (bt s a)
      · have hol : osz (bt s a) ≤ 5 := by unfold osz; (repeat' split) <;> omega
        by_cases h0 : osz (bt s a) = 0
        · replace hbad := hd hbad
          go_wp2_with (first | (go_at_call 93; refine size_any _ _ _ ?_) | (at_builtin; refine wpList_app _ rfl _ _ 63 rfl w.heap.size 109 _ 6 48 ulDo infoDo rfl (by decide) _ _ _ rfl (by first | exact (hown.out.alloc _).alloc _ | exact own_drew ((hown.out.alloc _).alloc _)) _ 1 1 _ rfl (alloc_at (by simp)) rfl (oneC6 _ _ _ _ _ _) hml hml2 (by simp; omega) ?_; intro v1 w1 hown1 hgr1; replace hown1 := hd hown1; replace hgr1 := hd hgr1))
          refine cl1 (no.out (posF_bad s _ a l hpos.out (by omega) hlt hbad.out) _ ?_) rfl
          exact hbel.out.alloc hbs _
        · have h0' : ((osz (bt s a) : Int) == 0) = false := by simp; omega
          have hbg : decide ((s.size : Int) < (a : Int) + osz (bt s a)) = true := by simp; omega
          have hbg2 : (s.size : Int) < (a : Int) + osz (bt s a) := by omega
          replace hbad := hd hbad
          go_wp2_with (first | (go_at_call 93; refine size_any _ _ _ ?_) | (at_builtin; refine wpList_app _ rfl _ _ 63 rfl w.heap.size 109 _ 6 48 ulDo infoDo rfl (by decide) _ _ _ rfl (by first | exact (hown.out.alloc _).alloc _ | exact own_drew ((hown.out.alloc _).alloc _)) _ 1 1 _ rfl (alloc_at (by simp)) rfl (oneC6 _ _ _ _ _ _) hml hml2 (by simp; omega) ?_; intro v1 w1 hown1 hgr1; replace hown1 := hd hown1; replace hgr1 := hd hgr1))
          refine cl1 (no.out (posF_bad s _ a l hpos.out (by omega) hlt hbad.out) _ ?_) rfl
          exact hbel.out.alloc hbs _
      · have h0 : osz (bt s a) ≠ 0 := fun h => hbad (.inl h)
        have hfit : a + osz (bt s a) ≤ s.size := by omega
        clear hbad
        by_cases hop : bt s a = 1
        · replace hop := hd hop
          have hsz : osz (bt s a) = 5 := by simp [osz, hop.out]
          rw [hsz] at hfit
          have hb1 := bt_of s (a + 1) (by omega)
          have hb2 := bt_of s (a + 2) (by omega)
          have hb3 := bt_of s (a + 3) (by omega)
          have hb4 := bt_of s (a + 4) (by omega)
          go_wp2_with (first | (go_at_call 93; refine size_any _ _ _ ?_) | (at_builtin; refine wpList_app _ rfl _ _ 63 rfl w.heap.size 109 _ 6 48 ulDo infoDo rfl (by decide) _ _ _ rfl (by first | exact (hown.out.alloc _).alloc _ | exact own_drew ((hown.out.alloc _).alloc _)) _ 1 1 _ rfl (alloc_at (by simp)) rfl (oneC6 _ _ _ _ _ _) hml hml2 (by simp; omega) ?_; intro v1 w1 hown1 hgr1; replace hown1 := hd hown1; replace hgr1 := hd hgr1))
          refine wp_loop_rounds 5 ?_
          rw [rounds_succ]; go_wp2
          rw [rounds_succ]; go_wp2
          rw [rounds_succ]; go_wp2
          rw [rounds_succ]; go_wp2
          rw [rounds_succ]; go_wp2_with (first | (go_at_call 93; refine size_any _ _ _ ?_) | (at_builtin; refine wpList_app _ rfl _ _ 63 rfl w.heap.size 109 _ 6 48 ulDo infoDo rfl (by decide) _ _ _ rfl (by first | exact (hown.out.alloc _).alloc _ | exact own_drew ((hown.out.alloc _).alloc _)) _ 1 1 _ rfl (alloc_at (by simp)) rfl (oneC6 _ _ _ _ _ _) hml hml2 (by simp; omega) ?_; intro v1 w1 hown1 hgr1; replace hown1 := hd hown1; replace hgr1 := hd hgr1))
          all_goals
            rename_i ht
            refine ⟨⟨l ++ [a], a + 5, by omega, by simp; omega, by go_num, own_next hown1.out (news_num s a _ hop.out ?_), ?_, posF_next s _ a 5 l hpos.out (by omega) hlt hsz (by omega) (by omega)⟩, by simp [intOf]; omega⟩
            · first | exact num_hi s (a + 1) _ (num_any s a) ht | exact num_lo s (a + 1) _ (num_any s a) ht
            · exact ((hbel.out.alloc hbs _).alloc (by simp; omega) _).grown hgr1.out (by simp; omega) (fun k hk => (hown.out.lt k hk).1)
        · by_cases h17 : bt s a = 17 ∨ bt s a = 18 ∨ bt s a = 19
          · rcases h17 with hop | hop | hop
            all_goals
              have hsz : osz _ = 3 := hop ▸ (show osz (bt s a) = 3 by simp [osz, hop])
              rw [hop, hsz] at hfit
              have hb1 := bt_of s (a + 1) (by omega)
              have hb2 := bt_of s (a + 2) (by omega)
              have g1 := bt_le s (a + 1)
              have g2 := bt_le s (a + 2)
              have j1 : 0 ≤ (a : Int) + 1 ∧ (a : Int) + 1 < (s.size : Int) := by omega
              have j2 : 0 ≤ (a : Int) + 2 ∧ (a : Int) + 2 < (s.size : Int) := by omega
              go_wp2_with (first | (go_at_call 93; refine size_any _ _ _ ?_) | (at_builtin; refine wpList_app _ rfl _ _ 63 rfl w.heap.size 109 _ 6 48 ulDo infoDo rfl (by decide) _ _ _ rfl (by first | exact (hown.out.alloc _).alloc _ | exact own_drew ((hown.out.alloc _).alloc _)) _ 1 1 _ rfl (alloc_at (by simp)) rfl (oneC6 _ _ _ _ _ _) hml hml2 (by simp; omega) ?_; intro v1 w1 hown1 hgr1; replace hown1 := hd hown1; replace hgr1 := hd hgr1))
              go_region
              go_wp2_with (first | (go_at_call 93; refine size_any _ _ _ ?_) | (at_builtin; refine wpList_app _ rfl _ _ 63 rfl w.heap.size 109 _ 6 48 ulDo infoDo rfl (by decide) _ _ _ rfl (by first | exact (hown.out.alloc _).alloc _ | exact own_drew ((hown.out.alloc _).alloc _)) _ 1 1 _ rfl (alloc_at (by simp)) rfl (oneC6 _ _ _ _ _ _) hml hml2 (by simp; omega) ?_; intro v1 w1 hown1 hgr1; replace hown1 := hd hown1; replace hgr1 := hd hgr1))
              refine ⟨⟨l ++ [a], a + 3, by omega, by simp; omega, by go_num, own_next hown1.out ?_, ?_, posF_next s _ a 3 l hpos.out (by omega) hlt (by simp [hop, osz]) (by omega) (by omega)⟩, by simp [intOf]; omega⟩
              · simp [doC, insC, insN, b16, hop, Nat.add_assoc]
              · exact ((hbel.out.alloc hbs _).alloc (by simp; omega) _).drew.grown hgr1.out (by simp; omega) (fun k hk => (hown.out.lt k hk).1)
          · by_cases h4 : bt s a = 4 ∨ bt s a = 5
            · rcases h4 with hop | hop
              all_goals
                have hsz : osz _ = 3 := hop ▸ (show osz (bt s a) = 3 by simp [osz, hop])
                rw [hop, hsz] at hfit
                have hb1 := bt_of s (a + 1) (by omega)
                have hb2 := bt_of s (a + 2) (by omega)
                have g1 := bt_le s (a + 1)
                have g2 := bt_le s (a + 2)
                go_wp2_with (first | (go_at_call 93; refine size_any _ _ _ ?_) | (at_builtin; refine wpList_app _ rfl _ _ 63 rfl w.heap.size 109 _ 6 48 ulDo infoDo rfl (by decide) _ _ _ rfl (by first | exact (hown.out.alloc _).alloc _ | exact own_drew ((hown.out.alloc _).alloc _)) _ 1 1 _ rfl (alloc_at (by simp)) rfl (oneC6 _ _ _ _ _ _) hml hml2 (by simp; omega) ?_; intro v1 w1 hown1 hgr1; replace hown1 := hd hown1; replace hgr1 := hd hgr1))
                refine ⟨⟨l ++ [a], a + 3, by omega, by simp; omega, by go_num, own_next hown1.out ?_, ?_, posF_next s _ a 3 l hpos.out (by omega) hlt (by simp [hop, osz]) (by omega) (by omega)⟩, by simp [intOf]; omega⟩
                · simp [doC, insC, insN, hop]
                · exact ((hbel.out.alloc hbs _).alloc (by simp; omega) _).grown hgr1.out (by simp; omega) (fun k hk => (hown.out.lt k hk).1)
            · by_cases h2 : bt s a = 2 ∨ bt s a = 3 ∨ bt s a = 21
              · rcases h2 with hop | hop | hop
                all_goals
                  have hsz : osz _ = 2 := hop ▸ (show osz (bt s a) = 2 by simp [osz, hop])
                  rw [hop, hsz] at hfit
                  have hb1 := bt_of s (a + 1) (by omega)
                  have g1 := bt_le s (a + 1)
                  go_wp2_with (first | (go_at_call 93; refine size_any _ _ _ ?_) | (at_builtin; refine wpList_app _ rfl _ _ 63 rfl w.heap.size 109 _ 6 48 ulDo infoDo rfl (by decide) _ _ _ rfl (by first | exact (hown.out.alloc _).alloc _ | exact own_drew ((hown.out.alloc _).alloc _)) _ 1 1 _ rfl (alloc_at (by simp)) rfl (oneC6 _ _ _ _ _ _) hml hml2 (by simp; omega) ?_; intro v1 w1 hown1 hgr1; replace hown1 := hd hown1; replace hgr1 := hd hgr1))
                  refine ⟨⟨l ++ [a], a + 2, by omega, by simp; omega, by go_num, own_next hown1.out ?_, ?_, posF_next s _ a 2 l hpos.out (by omega) hlt (by simp [hop, osz]) (by omega) (by omega)⟩, by simp [intOf]; omega⟩
                  · simp [doC, insC, insN, hop]
                  · exact ((hbel.out.alloc hbs _).alloc (by simp; omega) _).grown hgr1.out (by simp; omega) (fun k hk => (hown.out.lt k hk).1)
              · have hsz : osz (bt s a) = 1 := by
                  have h0' := h0
                  unfold osz at h0' ⊢
                  rw [if_neg hop, if_neg h2, if_neg (by omega)] at h0' ⊢
                  split <;> simp_all
                rw [hsz] at hfit
                have htest : (decide ((17 : Int) ≤ bt s a)) = true → decide ((bt s a : Int) ≤ 19) = false := by simp; omega
                by_cases h20 : 17 ≤ bt s a
                · have t1 : decide ((17 : Int) ≤ bt s a) = true := by simp; omega
                  have t2 : decide ((bt s a : Int) ≤ 19) = false := by simp; omega
                  have t3 : ¬ (bt s a : Int) ≤ 19 := by omega
                  have t4 : (17 : Int) ≤ bt s a := by omega
                  clear htest
                  go_wp2_with (first | (go_at_call 93; refine size_any _ _ _ ?_) | (at_builtin; refine wpList_app _ rfl _ _ 63 rfl w.heap.size 109 _ 6 48 ulDo infoDo rfl (by decide) _ _ _ rfl (by first | exact (hown.out.alloc _).alloc _ | exact own_drew ((hown.out.alloc _).alloc _)) _ 1 1 _ rfl (alloc_at (by simp)) rfl (oneC6 _ _ _ _ _ _) hml hml2 (by simp; omega) ?_; intro v1 w1 hown1 hgr1; replace hown1 := hd hown1; replace hgr1 := hd hgr1))
                  refine ⟨⟨l ++ [a], a + 1, by omega, by simp; omega, by go_num, own_next hown1.out ?_, ?_, posF_next s _ a 1 l hpos.out (by omega) hlt hsz (by omega) (by omega)⟩, by simp [intOf]; omega⟩
                  · simp only [not_or] at h17 h4 h2
                    simp [doC, insC, insN, hop, h17, h4, h2]
                  · exact ((hbel.out.alloc hbs _).alloc (by simp; omega) _).grown hgr1.out (by simp; omega) (fun k hk => (hown.out.lt k hk).1)
                · have t1 : decide ((17 : Int) ≤ bt s a) = false := by simp; omega
                  have t4 : ¬ (17 : Int) ≤ bt s a := by omega
                  clear htest
                  go_wp2_with (first | (go_at_call 93; refine size_any _ _ _ ?_) | (at_builtin; refine wpList_app _ rfl _ _ 63 rfl w.heap.size 109 _ 6 48 ulDo infoDo rfl (by decide) _ _ _ rfl (by first | exact (hown.out.alloc _).alloc _ | exact own_drew ((hown.out.alloc _).alloc _)) _ 1 1 _ rfl (alloc_at (by simp)) rfl (oneC6 _ _ _ _ _ _) hml hml2 (by simp; omega) ?_; intro v1 w1 hown1 hgr1; replace hown1 := hd hown1; replace hgr1 := hd hgr1))
                  refine ⟨⟨l ++ [a], a + 1, by omega, by simp; omega, by go_num, own_next hown1.out ?_, ?_, posF_next s _ a 1 l hpos.out (by omega) hlt hsz (by omega) (by omega)⟩, by simp [intOf]; omega⟩
                  · simp only [not_or] at h17 h4 h2
                    simp [doC, insC, insN, hop, h17, h4, h2]
                  · exact ((hbel.out.alloc hbs _).alloc (by simp; omega) _).grown hgr1.out (by simp; omega) (fun k hk => (hown.out.lt k hk).1)
    · go_wp2
      exact yes.out l (posF_end s _ a l hpos.out (by omega) hlt) _ _ hbel.out hown.out

end Go.Proofs.YtidhiaaicmfabaaGreat
