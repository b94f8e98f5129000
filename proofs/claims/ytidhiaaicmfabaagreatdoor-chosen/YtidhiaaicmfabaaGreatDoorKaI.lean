/- Load. -/
import Derived.Test.YtidhiaaicmfabaaGreatDoorKaA
import Derived.Test.YtidhiaaicmfabaaGreatDoorKaB
import Derived.WalkKit
import Derived.WalkSpells
import Derived.WalkLawsBesides
import Derived.Deep.OwnRows
import Derived.BigQuiet
import Derived.Handy
import Derived.Deep.Light
import Derived.Deep.RegionHeld3
import Derived.Deep.RegionWith
import Derived.Laws.EntriesVeiled
import Derived.Test.YtidhiaaicmfabaaGreatDoorKaD
import Derived.Test.YtidhiaaicmfabaaGreatDoorKaC
import Derived.Test.YtidhiaaicmfabaaGreatDoorKaG
import Derived.Test.YtidhiaaicmfabaaGreatDoorKaH
import Derived.Test.YtidhiaaicmfabaaGreatDoorKaE
import Derived.Test.YtidhiaaicmfabaaGreatDoorKaF

/- The contract of findBound: the machine's walk from a heap gives the document's bound. -/
namespace Go.Proofs.YtidhiaaicmfabaaGreatDoor
open Go.RowKit Go.Proofs Go.Deep


theorem infoArr : (Tryz.prog.info? 267).map (fun i => (i.zero, i.size, i.bytes)) = some (some (.agg #[.bool false, .int .i64 0, .int .i64 0]), 3, 24) := by kernel_rfl
theorem ulArr : Tryz.prog.underlying 214 = some (.slice 267) := by kernel_rfl
theorem infoWalk : (Tryz.prog.info? 217).map (·.size) = some 114 := by kernel_rfl
def walkC (X Y : Value) (cs : Array Value) : Array Value := #[X] ++ cs ++ #[Y, .slice none 0 0, .int .i64 0]
theorem run_build_walk (a : Option Addr) (n c : Nat) (a' : Option Addr) (n' c' : Nat) (fv : Nat → Value) (w : World) : (Instr.build 217 #[(0, .slice a n c), (1, .agg (tabC fv)), (2, .slice a' n' c')]).run Tryz.prog w = .ok (.agg (walkC (.slice a n c) (.slice a' n' c') (tabC fv))) w := by
  kernel_rfl

def walkP (X : Value) (fv : Nat → Value) : Array Value := walkC X (.slice none 0 0) (tabC fv)
theorem tab_size (fv : Nat → Value) : (tabC fv).size = 110 := rfl
theorem walk_fold (X : Value) (fv : Nat → Value) : Array.foldl (fun (cs : Array Value) (x : Value × Nat) => cs.setIfInBounds (1 + x.snd) x.fst) (Tryz.zeroCells217.setIfInBounds 0 X) (tabC fv).zipIdx 0 110 = walkP X fv := by kernel_rfl
theorem walkP_size (X : Value) (fv : Nat → Value) : (walkP X fv).size = 114 := by kernel_rfl
theorem walkC_size (X Y : Value) (fv : Nat → Value) : (walkC X Y (tabC fv)).size = 114 := by kernel_rfl
theorem walk_set (X Y : Value) (fv : Nat → Value) : (walkP X fv).setIfInBounds 111 Y = walkC X Y (tabC fv) := by kernel_rfl
def wl (bs n cap : Nat) (a' : Option Addr) (n' c' : Nat) (fv : Nat → Value) : List Value := (walkC (.slice (some ⟨bs, 0, none⟩) n cap) (.slice a' n' c') (tabC fv)).toList
theorem walk_one (X Y : Value) (fv : Nat → Value) (hX : X.oneCell' = true) (hY : Y.oneCell' = true) (hf : ∀ i, i < 22 → ∃ g c, fv i = .func g #[] c) : (walkC X Y (tabC fv)).all (·.oneCell') = true := by
  have h := (tabC_ok fv hf).2.1
  unfold walkC
  simp only [Array.all_append, h]
  have e1 : ∀ a n c, (Value.slice a n c).oneCell' = true := fun _ _ _ => rfl
  have e2 : ∀ k x, (Value.int k x).oneCell' = true := fun _ _ => rfl
  simp [hX, hY, e1, e2]
theorem zero_size : (Tryz.zeroCells217).size = 114 := by kernel_rfl
section
variable (bs n cap : Nat) (fv : Nat → Value) (hf : ∀ i, i < 22 → ∃ g c, fv i = .func g #[] c)
include hf
theorem store_at {W : World} {g : Nat} (h : W.there g 0 114) (a' : Option Addr) (n' c' : Nat) :
    (storeCells ⟨g, 0, none⟩ (walkC (.slice (some ⟨bs, 0, none⟩) n cap) (.slice a' n' c') (tabC fv)).toList 0).run Tryz.prog W = .ok () (W.setCells g 0 (wl bs n cap a' n' c' fv)) := by
  have h1 := walk_one (.slice (some ⟨bs, 0, none⟩) n cap) (.slice a' n' c') fv rfl rfl hf
  have hs := run_storeVar_mid (P := Tryz.prog) W g 0 217 (walkC (.slice (some ⟨bs, 0, none⟩) n cap) (.slice a' n' c') (tabC fv)) (by rw [walkC_size]; exact h) (by rw [walkC_size]; exact infoWalk) h1
  have hi := infoWalk
  cases hq : Tryz.prog.info? 217 with
  | none => simp [hq] at hi
  | some i =>
    have hsz : i.size = 114 := by simpa [hq] using hi
    simpa [storeVar, sizeOf, typeInfo, hq, Value.cells, hsz, walkC_size, wl] using hs
end

theorem there_new (W : World) : (W.alloc (.cells Tryz.zeroCells217 217)).there W.heap.size 0 114 := there_of_block (heap_alloc_new _ _) zero_size
theorem there_below {w w' : World} {g n : Nat} (h : w.there g 0 n) (hg : g < w.heap.size) (hb : Below w.heap.size w w') : w'.there g 0 n := fun j hj => by
  rw [hb.cell (p := ⟨g, 0 + j, none⟩) hg, hb.frozen (p := ⟨g, 0 + j, none⟩) hg]; exact h j hj
theorem exec_build {P : Program} {a : Act} {o : Oper} {t : TypeId} {parts : Array (Nat × Operand)} {vs : Array (Nat × Value)} {v : Value} (ho : o.op = .build t parts) (hvs : parts.map (fun (i, x) => (i, a.eval x)) = vs)
    (hrun : ∀ w, (Instr.build t vs).run P w = .ok v w) (w : World) : (execOp a.eval o).run P w = .ok (.value v) w := by
  unfold execOp
  simp only [ho, hvs, Sem.run_bind, hrun, Result.andThen_ok, Sem.run_pure]
def ArrZ (_i f : Nat) : Value := if f = 0 then .bool false else if f = 1 then .int .i64 0 else .int .i64 0
def frame (bs n cap bw ba : Nat) (V7 V11 : Value) : Act := ⟨#[.slice (some ⟨bs, 0, none⟩) n cap, undef, .int .i64 0, .bool false, .pointer (some ⟨bw, 0, none⟩), undef, .slice (some ⟨bs, 0, none⟩) n cap, V7, .slice (some ⟨bs, 0, none⟩) n cap, .int .i64 (n : Int), .slice (some ⟨ba, 0, none⟩) n n,
  V11, undef, undef, undef, undef, undef, undef, undef, undef, undef, undef, undef, undef, undef, undef, undef, undef, undef, undef, undef], []⟩
/-- The world ahead of the walk's store. -/
def Pre (w : World) (n bw ba : Nat) (fv : Nat → Value) (X : World) : Prop := (∀ i, i < 22 → ∃ g c, fv i = .func g #[] c) ∧ Below w.heap.size w X ∧ X.heap[bw]? = some (.cells Tryz.zeroCells217 217 (0, 0)) ∧ w.heap.size ≤ bw ∧ w.heap.size ≤ ba ∧ bw ≠ ba ∧ bw < X.heap.size ∧ Tab X ba 267 3 n n ArrZ
def Mid (w : World) (bs n cap : Nat) (e : Exit) (a : Act) (w' : World) : Prop := e = .normal ∧ ∃ bw ba fv X V7 V11, Pre w n bw ba fv X ∧ a = frame bs n cap bw ba V7 V11 ∧ w' = X.setCells bw 0 (wl bs n cap (some ⟨ba, 0, none⟩) n n fv)
theorem tab_of_made {X : World} {ba T n : Nat} {z0 z1 z2 : Value} (h : X.heap[ba]? = some (.cells (madeCells #[z0, z1, z2] (n * 3)) T (0, 0))) : Tab X ba T 3 n n (fun _ f => if f = 0 then z0 else if f = 1 then z1 else z2) := by
  refine ⟨_, h, by simp [madeCells], Nat.le_refl _, fun i hi f hf => ?_⟩
  have h1 : i * 3 + f < n * 3 := by omega
  have h2 : (i * 3 + f) % 3 = f := by omega
  simp only [madeCells, Array.getElem?_map, Array.getElem?_range, h1, if_true, Option.map_some, List.size_toArray, List.length_cons, List.length_nil, Nat.zero_add, Nat.reduceAdd, h2]
  have hc : f = 0 ∨ f = 1 ∨ f = 2 := by omega
  rcases hc with rfl | rfl | rfl <;> rfl
theorem pre_gen {w X : World} {n bw ba : Nat} {fv : Nat → Value} (hfv : ∀ i, i < 22 → ∃ g c, fv i = .func g #[] c) (hb : Below w.heap.size w X) (h1 : X.heap[bw]? = some (.cells Tryz.zeroCells217 217 (0, 0)))
    (h2 : X.heap[ba]? = some (.cells (madeCells #[Value.bool false, .int .i64 0, .int .i64 0] (n * 3)) 267 (0, 0))) (hbw : w.heap.size ≤ bw) (hba : w.heap.size ≤ ba) (hne : bw ≠ ba) : Pre w n bw ba fv X :=
  ⟨hfv, hb, h1, hbw, hba, hne, blk_lt h1, tab_of_made h2⟩
theorem drew_below {w w2 : World} (h : Below w.drew.heap.size w.drew w2) : Below w.heap.size w w2 := ⟨h.os, h.tape, h.output, h.size, h.block⟩
theorem second_new (w : World) (o o' : Obj) : ((w.alloc o).alloc o').heap[w.heap.size + 1]? = some o' := new_second w o o'
theorem first_new (w : World) (o o' : Obj) : ((w.alloc o).alloc o').heap[w.heap.size]? = some o := new_first w o o'
theorem walk_at0 (X Y : Value) (fv : Nat → Value) : (walkC X Y (tabC fv))[0]? = some X := by kernel_rfl
theorem walk_at111 (X Y : Value) (fv : Nat → Value) : (walkC X Y (tabC fv))[111]? = some Y := by kernel_rfl
theorem walk_at112 (X Y : Value) (fv : Nat → Value) : (walkC X Y (tabC fv))[112]? = some (.slice none 0 0) := by kernel_rfl
theorem walk_at113 (X Y : Value) (fv : Nat → Value) : (walkC X Y (tabC fv))[113]? = some (.int .i64 0) := by kernel_rfl
theorem walk_row (X Y : Value) (fv : Nat → Value) (k : Nat) (hk : k < 110) : (walkC X Y (tabC fv))[1 + k]? = (tabC fv)[k]? := by
  have hs := tab_size fv
  unfold walkC
  rw [Array.getElem?_append_left (by simp [hs]; omega), Array.getElem?_append_right (by simp)]
  simp
theorem heap_setCells_other (b : Nat) : ∀ (vs : List Value) (o : Nat) (w : World) (k : Nat), k ≠ b → (w.setCells b o vs).heap[k]? = w.heap[k]?
  | [], _, _, _, _ => rfl
  | v :: r, o, w, k, h => by rw [World.setCells, heap_setCells_other b r (o + 1) _ k h]; exact Below.heap_setCell _ _ _ _ h
theorem WS.start {w X : World} {bs n cap bw ba : Nat} {fv : Nat → Value} (hp : Pre w n bw ba fv X) :
    ∃ nm fv', (∀ o, o < 22 → ∃ g c, fv' o = .func g #[] c) ∧ WS w w.heap.size bw ba bs X.heap.size n cap nm fv' (fun _ => -1) (fun _ => 0) 0 0 (fun _ => 0) 0 (X.setCells bw 0 (wl bs n cap (some ⟨ba, 0, none⟩) n n fv)) := by
  obtain ⟨hfv, hb, hz, hbw, hba, hne, hlt, htab⟩ := hp
  have hth := there_of_block hz zero_size
  obtain ⟨_, _, nm, fv', hrow⟩ := tabC_ok fv hfv
  have hlen : (wl bs n cap (some ⟨ba, 0, none⟩) n n fv).length = 114 := by unfold wl; rw [Array.length_toList, walkC_size]
  have hr := World.rangeAt_setCells_same X bw 0 (wl bs n cap (some ⟨ba, 0, none⟩) n n fv) (by rw [hlen]; exact hth)
  have hcell : ∀ j v, (walkC (.slice (some ⟨bs, 0, none⟩) n cap) (.slice (some ⟨ba, 0, none⟩) n n) (tabC fv))[j]? = some v → (X.setCells bw 0 (wl bs n cap (some ⟨ba, 0, none⟩) n n fv)).cell? ⟨bw, j, none⟩ = some v := fun j v hv => by
    have := hr j v (by unfold wl; rw [Array.getElem?_toList]; exact hv)
    rwa [Nat.zero_add] at this
  have hfz : ∀ o, (X.setCells bw 0 (wl bs n cap (some ⟨ba, 0, none⟩) n n fv)).frozen? ⟨bw, o, none⟩ = false := fun o => by
    rw [World.frozen?_setCells]
    simp [World.frozen?, hz]
  refine ⟨nm, fv', fun o ho => (hrow o ho).2.2.2.2.2, below_setCells hbw _ _ _ hb, by rw [size_setCells]; exact Nat.le_refl _, hcell 0 _ (walk_at0 _ _ _), fun o ho => ?_, hcell 111 _ (walk_at111 _ _ _), hcell 113 _ (walk_at113 _ _ _), hfz, ?_, ⟨_, hcell 112 _ (walk_at112 _ _ _), World.ownsRow_nil _ _ _ _⟩, ?_, ?_, ?_, ?_, ?_, ?_⟩
  · obtain ⟨g0, g1, g2, g3, g4, _⟩ := hrow o ho
    have e : ∀ f v, f < 5 → (tabC fv)[o * 5 + f]? = some v → (X.setCells bw 0 (wl bs n cap (some ⟨ba, 0, none⟩) n n fv)).cell? ⟨bw, 1 + o * 5 + f, none⟩ = some v := fun f v hf hv => by
      have := hcell (1 + (o * 5 + f)) v (by rw [walk_row _ _ _ _ (by omega)]; exact hv)
      rwa [← Nat.add_assoc] at this
    exact ⟨e 0 _ (by omega) g0, e 1 _ (by omega) g1, e 2 _ (by omega) g2, e 3 _ (by omega) g3, e 4 _ (by omega) g4⟩
  · refine (htab.of_block (heap_setCells_other bw _ _ _ ba (Ne.symm hne))).congr (fun i _ f hf => ?_)
    have hc : f = 0 ∨ f = 1 ∨ f = 2 := by omega
    rcases hc with rfl | rfl | rfl <;> rfl
  · intro i h0 hi; omega
  · intro i j hi; omega
  · intro x
    constructor
    · rintro ⟨k, hk, _⟩; omega
    · rintro ⟨j, _, _, _, h⟩; omega
  · intro j; omega
  · intro j; omega
  · intro j _; rfl
set_option maxRecDepth 100000 in
set_option maxHeartbeats 4000000 in
theorem findBound_any (w : World) (bs n cap : Nat) (op at_ To : Nat → Nat) (arg cnt lp to_ : Nat → Int) (hn : n ≤ 8000) (hn0 : 0 < n) (hts : Tab w bs 254 6 n cap (stepA op at_ arg cnt lp to_))
    (hop : ∀ i, i < n → op i < 22) (hend : op (n - 1) = 0) (hend2 : ∀ j, j + 1 < n → op j ≠ 0)
    (hJ : ∀ i, i < n → (op i = 17 ∨ op i = 18) → to_ i = (To i : Int) ∧ i < To i ∧ To i < n) (hF : ∀ i, i < n → op i = 20 → lp i = (To i : Int) ∧ To i < i ∧ op (To i) = 19)
    (hN : ∀ i, i < n → op i = 19 → 1 ≤ arg i ∧ arg i ≤ 65535) (R : Ending → World → Prop)
    (no : refGo op arg To n n 0 H0 L0 = none → ∀ x w', Below w.heap.size w w' → R (.returned (.tuple #[.int .i64 x, .bool false])) w')
    (yes : ∀ bd, refGo op arg To n n 0 H0 L0 = some bd → ∀ w', Below w.heap.size w w' → R (.returned (.tuple #[.int .i64 (min bd 200001), .bool true])) w') :
    Calls Tryz.prog 58 #[.slice (some ⟨bs, 0, none⟩) n cap] w R := by
  replace no := hd no
  replace yes := hd yes
  replace hts := hd hts
  replace hop := hd hop
  replace hend := hd hend
  replace hend2 := hd hend2
  replace hJ := hd hJ
  replace hF := hd hF
  replace hN := hd hN
  have hmk := run_make_tab 214 267 _ _ _ ulArr infoArr n (by omega) (by omega)
  go_enter Tryz.func58, Tryz.ntmps58
  go_wp2_with (fail)
  refine Code.wp_mono (Q := Mid w bs n cap) ?_ ?_
  · clear hmk
    intro e a w' hmid
    unfold Mid at hmid
    obtain ⟨he, bw, ba, fv, X, V7, V11, hpre, ha, hw⟩ := hmid
    rw [he, ha, hw]
    clear he ha hw
    obtain ⟨nm, fv', hfv', hS⟩ := WS.start (bs := bs) (cap := cap) hpre
    have hc : WC w w.heap.size bw ba bs X.heap.size n cap op at_ arg cnt lp to_ := ⟨rfl, hpre.2.2.2.1, hpre.2.2.2.2.1, hpre.2.2.2.2.2.1, hpre.2.2.2.2.2.2.1, hpre.2.2.2.2.2.2.2.lt, hn, hts.out⟩
    generalize X.setCells bw 0 (wl bs n cap (some ⟨ba, 0, none⟩) n n fv) = w1 at hS ⊢
    generalize X.heap.size = base at hS hc
    unfold frame
    replace hfv' := hd hfv'
    clear hpre
    go_wp2_with (fail)
    refine come_any hc _ hS 0 _ _ _ rfl hn0 (Nat.le_refl _) (by decide) (by decide) _ ?_ ?_
    · intro hx
      exact absurd hx.1 (by decide)
    · intro _ w2 m2 A2 hS2
      replace hS := hd hS
      replace hS2 := hd hS2
      go_wp2
      go_loopw [5] (fun p wr => ∃ (pn lo m : Nat) (A H L : Nat → Int) (bd : Int), p = .int .i64 pn ∧ WS w w.heap.size bw ba bs base n cap nm fv' H L lo m A bd wr ∧ lo ≤ n ∧ pn ≤ lo ∧
          ((pn = lo ∧ lo < n ∧ Even op arg To n lo H L (refGo op arg To n n 0 H0 L0)) ∨ (pn < lo ∧ refGo op arg To n n 0 H0 L0 = none) ∨ (pn = n ∧ lo = n ∧ ∃ b, refGo op arg To n n 0 H0 L0 = some b ∧ bd = min b 200001))) (fun p _ => n - (intOf p).toNat)
      case atStart => exact ⟨0, 0, _, _, _, _, _, rfl, hS2.out, by omega, by omega, .inl ⟨rfl, hn0, Even.start op arg To n⟩⟩
      case round =>
        obtain ⟨pn, lo, m, A, H, L, bd, rfl, hWS, hlo, hpl, hph⟩ := hrel
        have hWS0 := hWS
        obtain ⟨v, hv, hown⟩ := hWS.wh
        obtain ⟨ao, cv, rfl⟩ := own_sl hown
        have hmn := hWS.le
        have cb := hWS.cb
        have hfr := hd hWS.fr
        replace hown := hd hown
        replace hph := hd hph
        by_cases hm : 0 < m
        · have dm : decide ((0 : Int) < (m : Int)) = true := by simp; omega
          have hta := assertInt
          replace hWS := hd hWS
          have hWS0 := hd hWS0
          go_wp2_with (first | (go_at_call 110; refine len_any _ _ _ _ _ ?_))
          refine wpop_any _ bw 112 base m A hm (by omega) hc.hw hWS0.out.sz (hWS0.out.fz 112) hWS0.out.wh hWS0.out.heap _ ?_
          intro A' w3 hK hwh' hheap' hS'
          obtain ⟨q, hq, hlq, hqn, hHq, hgap, hWS3⟩ := hWS0.out.pop hc hm hK hwh' hheap' hS'
          rw [hq]
          clear hK hwh' hheap' hS' hq
          have hopq := hop.out q hqn
          have hfr3 := hd hWS3.fr
          have hgap := hd hgap
          have hnot0 : op q ≠ 0 → q + 1 < n := fun h0 => by
            have : q ≠ n - 1 := fun e => h0 (by rw [e]; exact hend.out)
            omega
          have his0 : op q = 0 → q + 1 = n := fun h0 => by
            have : ¬ q + 1 < n := fun h' => hend2.out q h' h0
            omega
          have hEv := hd (show Even op arg To n lo H L (refGo op arg To n n 0 H0 L0) → q ≠ lo → refGo op arg To n n 0 H0 L0 = none from fun hE hne => hE.gap (hgap.out lo (Nat.le_refl _) (by omega)))
          have hFq : op q = 20 → lp q = (To q : Int) ∧ To q < n ∧ 1 ≤ arg (To q) ∧ arg (To q) ≤ 65535 := fun h20 => by
            obtain ⟨a1, a2, a3⟩ := hF.out q hqn h20
            exact ⟨a1, by omega, hN.out _ (by omega) a3⟩
          have hF20 : op q = 20 → To q < q ∧ op (To q) = 19 := fun h20 => (hF.out q hqn h20).2
          have hN1 : ∀ i, i < n → op i = 19 → 1 ≤ arg i := fun i hi h => (hN.out i hi h).1
          replace hnot0 := hd hnot0
          replace his0 := hd his0
          replace hFq := hd hFq
          replace hF20 := hd hF20
          replace hN1 := hd hN1
          have hWS3' := hd hWS3
          clear hWS3
          go_wp2_with (fail)
          refine pass_any hc _ hWS3'.out To To q hqn rfl hHq hopq (fun h0 _ => hnot0.out h0) (hfv'.out _ hopq) (fun h => hJ.out q hqn h) hFq.out _ ?_ ?_ ?_
          · intro hn1 hn2 w4 hb4
            replace hb4 := hd hb4
            have hX : refGo op arg To n n 0 H0 L0 = none := by
              rcases hph.out with ⟨_, hl, hE⟩ | ⟨_, hX⟩ | ⟨_, hl, _⟩
              · by_cases e : q = lo
                · subst e
                  by_cases h0 : op q = 0
                  · exact (hE.last (his0.out h0) h0).1 (hn2 h0)
                  · exact (hE.step hl h0 hHq hF20.out hN1.out).1 (hn1 h0)
                · exact hEv.out hE e
              · exact hX
              · omega
            replace hX := hd hX
            clear hn1 hn2
            go_wp2
            exact cl1 (no.out hX.out 0 _ hb4.out) rfl
          · intro h0 S hS w4 m4 A4 hW4
            replace hW4 := hd hW4
            have hph' : (pn + 1 = q + 1 ∧ q + 1 < n ∧ Even op arg To n (q + 1) S.1 S.2 (refGo op arg To n n 0 H0 L0)) ∨ (pn + 1 < q + 1 ∧ refGo op arg To n n 0 H0 L0 = none) := by
              rcases hph.out with ⟨e1, hl, hE⟩ | ⟨e1, hX⟩ | ⟨_, hl, _⟩
              · by_cases e : q = lo
                · subst e
                  exact .inl ⟨by omega, hnot0.out h0, (hE.step hl h0 hHq hF20.out hN1.out).2 S hS⟩
                · exact .inr ⟨by omega, hEv.out hE e⟩
              · exact .inr ⟨by omega, hX⟩
              · omega
            replace hph' := hd hph'
            replace hS := hd hS
            go_wp2
            refine ⟨⟨pn + 1, q + 1, m4, A4, S.1, S.2, bd, by go_num, hW4.out, by omega, by omega, ?_⟩, by simp [intOf]; omega⟩
            rcases hph'.out with h | h
            · exact .inl h
            · exact .inr (.inl h)
          · intro h0 hz w4 hW4
            replace hW4 := hd hW4
            have hph' : (pn + 1 < q + 1 ∧ refGo op arg To n n 0 H0 L0 = none) ∨ (pn + 1 = n ∧ q + 1 = n ∧ ∃ b, refGo op arg To n n 0 H0 L0 = some b ∧ vmD (L q) = min b 200001) := by
              have hq1 := his0.out h0
              rcases hph.out with ⟨e1, hl, hE⟩ | ⟨e1, hX⟩ | ⟨_, hl, _⟩
              · by_cases e : q = lo
                · subst e
                  exact .inr ⟨by omega, hq1, (hE.last hq1 h0).2 hz⟩
                · exact .inl ⟨by omega, hEv.out hE e⟩
              · exact .inl ⟨by omega, hX⟩
              · omega
            replace hph' := hd hph'
            replace h0 := hd h0
            replace hz := hd hz
            go_wp2
            refine ⟨⟨pn + 1, q + 1, _, _, H, L, vmD (L q), by go_num, hW4.out, by omega, by omega, ?_⟩, by simp [intOf]; omega⟩
            exact .inr hph'.out
        · have dm : decide ((0 : Int) < (m : Int)) = false := by simp; omega
          have hm0 : m = 0 := by omega
          replace hWS := hd hWS
          have hWS0 := hd hWS0
          go_wp2_with (first | (go_at_call 110; refine len_any _ _ _ _ _ ?_))
          rcases hph.out with ⟨e1, hl, hE⟩ | ⟨e1, hX⟩ | ⟨e1, hl, b, hX, hbd⟩
          · have hH : H lo < 0 := by
              rcases Int.lt_or_le (H lo) 0 with hx | hx
              · exact hx
              · obtain ⟨k, hk, _⟩ := (hWS0.out.mem (lo : Int)).2 ⟨lo, rfl, Nat.le_refl _, hl, hx⟩
                omega
            have e : ((pn : Int) == (n : Int)) = false := by simp; omega
            rw [e]
            exact cl1 (no.out (hE.gap hH) bd _ hfr.out) rfl
          · have e : ((pn : Int) == (n : Int)) = false := by simp; omega
            rw [e]
            exact cl1 (no.out hX bd _ hfr.out) rfl
          · have e : ((pn : Int) == (n : Int)) = true := by simp; omega
            rw [e, hbd]
            exact cl1 (yes.out b hX _ hfr.out) rfl
  · refine wp_region_any (by kernel_rfl) ?_
    change wpAny _ _ _ _ _ _ _ (World.drew _)
    refine wpAny_take (i := 0) (v := .slice (some ⟨bs, 0, none⟩) n cap) rfl (by kernel_rfl) (by kernel_rfl) (by kernel_rfl) (fun _ _ _ h => by cases h.1) (Or.inl ⟨by rfl, fun w => rfl⟩) ?_
    refine wpAny_take (i := 2) (v := .slice (some ⟨bs, 0, none⟩) n cap) rfl (by kernel_rfl) (by kernel_rfl) (by kernel_rfl) (fun _ _ _ h => by cases h.1) (Or.inl ⟨by rfl, fun w => rfl⟩) ?_
    refine wpAny_take (i := 3) (v := .int .i64 (n : Int)) rfl (by kernel_rfl) (by kernel_rfl) (by kernel_rfl) (fun _ _ _ h => by cases h.1) (Or.inl ⟨by rfl, fun w => ?_⟩) ?_
    · go_simp
    refine wpAny_ready (rs := [1, 4, 6]) (by kernel_rfl) (by simp) ?_
    refine AllReady.cons rfl (fun K hK => ?_) (AllReady.cons rfl (fun K hK => ?_) (AllReady.cons rfl (fun K hK => ?_) AllReady.nil))
    · go_simp
      refine table_fv _ _ ?_
      intro fv w2 hfv hb2
      replace hfv := hd hfv
      go_simp
      refine hK _ _ ?_
      clear hK K
      have hbw := drew_below hb2
      have hsz := hbw.size
      refine wpAny_ready (rs := [4, 6]) (by kernel_rfl) (by simp) ?_
      refine AllReady.cons rfl (fun K hK => ?_) (AllReady.cons rfl (fun K hK => ?_) AllReady.nil)
      · go_simp
        refine hK _ _ ?_
        clear hK K
        refine wpAny_take (i := 5) (v := .agg (walkC (.slice (some ⟨bs, 0, none⟩) n cap) (.slice (some ⟨w2.heap.size, 0, none⟩) n n) (tabC fv))) rfl (by kernel_rfl) (by kernel_rfl) (by kernel_rfl) (fun _ _ _ h => by cases h.1) (Or.inl ⟨by rfl, exec_build rfl (by simp [Act.eval]) (run_build_walk _ _ _ _ _ _ _)⟩) ?_
        generalize hV : Value.agg (walkC (.slice (some ⟨bs, 0, none⟩) n cap) (.slice (some ⟨w2.heap.size, 0, none⟩) n n) (tabC fv)) = V
        refine wpAny_ready (rs := [6]) (by kernel_rfl) (by simp) ?_
        refine AllReady.cons rfl (fun K hK => ?_) AllReady.nil
        go_simp
        refine hK _ _ ?_
        clear hK K
        have hpre : Pre w n (w2.heap.size + 1) (w2.heap.size) fv ((w2.alloc (.cells (madeCells #[Value.bool false, .int .i64 0, .int .i64 0] (n * 3)) 267)).alloc (.cells Tryz.zeroCells217 217)) := pre_gen hfv.out ((hbw.alloc hsz _).alloc (by simp; omega) _) (second_new w2 _ _) (first_new w2 _ _) (by omega) hsz (by omega)
        refine wpAny_ready (rs := [7]) (by kernel_rfl) (by simp) ?_
        refine AllReady.cons rfl (fun K hK => ?_) AllReady.nil
        rw [if_pos (by rfl)]
        refine wp_store_mid 217 _ _ rfl (w2.heap.size + 1) 0 (walkC (.slice (some ⟨bs, 0, none⟩) n cap) (.slice (some ⟨w2.heap.size, 0, none⟩) n n) (tabC fv)) rfl hV.symm (by rw [walkC_size]; exact there_of_block hpre.2.2.1 zero_size) (by rw [walkC_size]; exact infoWalk) (walk_one _ _ fv rfl rfl hfv.out) ?_
        refine hK _ _ ?_
        refine wpAny_done (by kernel_rfl) ?_ _
        exact ⟨rfl, _, _, fv, _, .agg (tabC fv), V, hpre, rfl, rfl⟩
      · go_simp
        refine hK _ _ ?_
        clear hK K
        refine wpAny_ready (rs := [4]) (by kernel_rfl) (by simp) ?_
        refine AllReady.cons rfl (fun K hK => ?_) AllReady.nil
        go_simp
        refine hK _ _ ?_
        clear hK K
        refine wpAny_take (i := 5) (v := .agg (walkC (.slice (some ⟨bs, 0, none⟩) n cap) (.slice (some ⟨w2.heap.size + 1, 0, none⟩) n n) (tabC fv))) rfl (by kernel_rfl) (by kernel_rfl) (by kernel_rfl) (fun _ _ _ h => by cases h.1) (Or.inl ⟨by rfl, exec_build rfl (by simp [Act.eval]) (run_build_walk _ _ _ _ _ _ _)⟩) ?_
        generalize hV : Value.agg (walkC (.slice (some ⟨bs, 0, none⟩) n cap) (.slice (some ⟨w2.heap.size + 1, 0, none⟩) n n) (tabC fv)) = V
        have hpre : Pre w n (w2.heap.size) (w2.heap.size + 1) fv ((w2.alloc (.cells Tryz.zeroCells217 217)).alloc (.cells (madeCells #[Value.bool false, .int .i64 0, .int .i64 0] (n * 3)) 267)) := pre_gen hfv.out ((hbw.alloc hsz _).alloc (by simp; omega) _) (first_new w2 _ _) (second_new w2 _ _) hsz (by omega) (by omega)
        refine wpAny_ready (rs := [7]) (by kernel_rfl) (by simp) ?_
        refine AllReady.cons rfl (fun K hK => ?_) AllReady.nil
        rw [if_pos (by rfl)]
        refine wp_store_mid 217 _ _ rfl (w2.heap.size) 0 (walkC (.slice (some ⟨bs, 0, none⟩) n cap) (.slice (some ⟨w2.heap.size + 1, 0, none⟩) n n) (tabC fv)) rfl hV.symm (by rw [walkC_size]; exact there_of_block hpre.2.2.1 zero_size) (by rw [walkC_size]; exact infoWalk) (walk_one _ _ fv rfl rfl hfv.out) ?_
        refine hK _ _ ?_
        refine wpAny_done (by kernel_rfl) ?_ _
        exact ⟨rfl, _, _, fv, _, .agg (tabC fv), V, hpre, rfl, rfl⟩
    · go_simp
      refine hK _ _ ?_
      clear hK K
      refine wpAny_ready (rs := [1, 6]) (by kernel_rfl) (by simp) ?_
      refine AllReady.cons rfl (fun K hK => ?_) (AllReady.cons rfl (fun K hK => ?_) AllReady.nil)
      · go_simp
        refine table_fv _ _ ?_
        intro fv w2 hfv hb2
        replace hfv := hd hfv
        go_simp
        refine hK _ _ ?_
        clear hK K
        have hbw := (bel_step (show Below w.heap.size w (w.alloc (.cells (madeCells #[Value.bool false, .int .i64 0, .int .i64 0] (n * 3)) 267)).drew from (Below.alloc (Below.refl _ _) (Nat.le_refl _) _).drew) (Nat.le_refl _) hb2)
        have hsz := hbw.size
        have hm : w2.heap[w.heap.size]? = _ := (hb2.block w.heap.size (by simp)).trans (new_drew w _)
        have hlt := blk_lt hm
        refine wpAny_take (i := 5) (v := .agg (walkC (.slice (some ⟨bs, 0, none⟩) n cap) (.slice (some ⟨w.heap.size, 0, none⟩) n n) (tabC fv))) rfl (by kernel_rfl) (by kernel_rfl) (by kernel_rfl) (fun _ _ _ h => by cases h.1) (Or.inl ⟨by rfl, exec_build rfl (by simp [Act.eval]) (run_build_walk _ _ _ _ _ _ _)⟩) ?_
        generalize hV : Value.agg (walkC (.slice (some ⟨bs, 0, none⟩) n cap) (.slice (some ⟨w.heap.size, 0, none⟩) n n) (tabC fv)) = V
        refine wpAny_ready (rs := [6]) (by kernel_rfl) (by simp) ?_
        refine AllReady.cons rfl (fun K hK => ?_) AllReady.nil
        go_simp
        refine hK _ _ ?_
        clear hK K
        have hpre : Pre w n (w2.heap.size) (w.heap.size) fv (w2.alloc (.cells Tryz.zeroCells217 217)) := pre_gen hfv.out (hbw.alloc hsz _) (heap_alloc_new w2 _) ((Below.heap_alloc w2 _ _ hlt).trans hm) hsz (Nat.le_refl _) (by omega)
        refine wpAny_ready (rs := [7]) (by kernel_rfl) (by simp) ?_
        refine AllReady.cons rfl (fun K hK => ?_) AllReady.nil
        rw [if_pos (by rfl)]
        refine wp_store_mid 217 _ _ rfl (w2.heap.size) 0 (walkC (.slice (some ⟨bs, 0, none⟩) n cap) (.slice (some ⟨w.heap.size, 0, none⟩) n n) (tabC fv)) rfl hV.symm (by rw [walkC_size]; exact there_of_block hpre.2.2.1 zero_size) (by rw [walkC_size]; exact infoWalk) (walk_one _ _ fv rfl rfl hfv.out) ?_
        refine hK _ _ ?_
        refine wpAny_done (by kernel_rfl) ?_ _
        exact ⟨rfl, _, _, fv, _, .agg (tabC fv), V, hpre, rfl, rfl⟩
      · go_simp
        refine hK _ _ ?_
        clear hK K
        refine wpAny_ready (rs := [1]) (by kernel_rfl) (by simp) ?_
        refine AllReady.cons rfl (fun K hK => ?_) AllReady.nil
        go_simp
        refine table_fv _ _ ?_
        intro fv w2 hfv hb2
        replace hfv := hd hfv
        go_simp
        refine hK _ _ ?_
        clear hK K
        have hbw := (bel_step (below_two w (.cells (madeCells #[Value.bool false, .int .i64 0, .int .i64 0] (n * 3)) 267) (.cells Tryz.zeroCells217 217)) (Nat.le_refl _) hb2)
        have hsz := hbw.size
        have hm : w2.heap[w.heap.size]? = _ := (hb2.block w.heap.size (by simp; omega)).trans (new_first w _ _)
        have hz : w2.heap[w.heap.size + 1]? = _ := (hb2.block (w.heap.size + 1) (by simp)).trans (new_second w _ _)
        refine wpAny_take (i := 5) (v := .agg (walkC (.slice (some ⟨bs, 0, none⟩) n cap) (.slice (some ⟨w.heap.size, 0, none⟩) n n) (tabC fv))) rfl (by kernel_rfl) (by kernel_rfl) (by kernel_rfl) (fun _ _ _ h => by cases h.1) (Or.inl ⟨by rfl, exec_build rfl (by simp [Act.eval]) (run_build_walk _ _ _ _ _ _ _)⟩) ?_
        generalize hV : Value.agg (walkC (.slice (some ⟨bs, 0, none⟩) n cap) (.slice (some ⟨w.heap.size, 0, none⟩) n n) (tabC fv)) = V
        have hpre : Pre w n (w.heap.size + 1) (w.heap.size) fv (w2) := pre_gen hfv.out hbw hz hm (by omega) (Nat.le_refl _) (by omega)
        refine wpAny_ready (rs := [7]) (by kernel_rfl) (by simp) ?_
        refine AllReady.cons rfl (fun K hK => ?_) AllReady.nil
        rw [if_pos (by rfl)]
        refine wp_store_mid 217 _ _ rfl (w.heap.size + 1) 0 (walkC (.slice (some ⟨bs, 0, none⟩) n cap) (.slice (some ⟨w.heap.size, 0, none⟩) n n) (tabC fv)) rfl hV.symm (by rw [walkC_size]; exact there_of_block hpre.2.2.1 zero_size) (by rw [walkC_size]; exact infoWalk) (walk_one _ _ fv rfl rfl hfv.out) ?_
        refine hK _ _ ?_
        refine wpAny_done (by kernel_rfl) ?_ _
        exact ⟨rfl, _, _, fv, _, .agg (tabC fv), V, hpre, rfl, rfl⟩
    · go_simp
      refine hK _ _ ?_
      clear hK K
      refine wpAny_ready (rs := [1, 4]) (by kernel_rfl) (by simp) ?_
      refine AllReady.cons rfl (fun K hK => ?_) (AllReady.cons rfl (fun K hK => ?_) AllReady.nil)
      · go_simp
        refine table_fv _ _ ?_
        intro fv w2 hfv hb2
        replace hfv := hd hfv
        go_simp
        refine hK _ _ ?_
        clear hK K
        have hbw := (bel_step (show Below w.heap.size w (w.alloc (.cells Tryz.zeroCells217 217)).drew from (Below.alloc (Below.refl _ _) (Nat.le_refl _) _).drew) (Nat.le_refl _) hb2)
        have hsz := hbw.size
        have hz : w2.heap[w.heap.size]? = _ := (hb2.block w.heap.size (by simp)).trans (new_drew w _)
        have hlt := blk_lt hz
        refine wpAny_ready (rs := [4]) (by kernel_rfl) (by simp) ?_
        refine AllReady.cons rfl (fun K hK => ?_) AllReady.nil
        go_simp
        refine hK _ _ ?_
        clear hK K
        refine wpAny_take (i := 5) (v := .agg (walkC (.slice (some ⟨bs, 0, none⟩) n cap) (.slice (some ⟨w2.heap.size, 0, none⟩) n n) (tabC fv))) rfl (by kernel_rfl) (by kernel_rfl) (by kernel_rfl) (fun _ _ _ h => by cases h.1) (Or.inl ⟨by rfl, exec_build rfl (by simp [Act.eval]) (run_build_walk _ _ _ _ _ _ _)⟩) ?_
        generalize hV : Value.agg (walkC (.slice (some ⟨bs, 0, none⟩) n cap) (.slice (some ⟨w2.heap.size, 0, none⟩) n n) (tabC fv)) = V
        have hpre : Pre w n (w.heap.size) (w2.heap.size) fv (w2.alloc (.cells (madeCells #[Value.bool false, .int .i64 0, .int .i64 0] (n * 3)) 267)) := pre_gen hfv.out (hbw.alloc hsz _) ((Below.heap_alloc w2 _ _ hlt).trans hz) (heap_alloc_new w2 _) (Nat.le_refl _) hsz (by omega)
        refine wpAny_ready (rs := [7]) (by kernel_rfl) (by simp) ?_
        refine AllReady.cons rfl (fun K hK => ?_) AllReady.nil
        rw [if_pos (by rfl)]
        refine wp_store_mid 217 _ _ rfl (w.heap.size) 0 (walkC (.slice (some ⟨bs, 0, none⟩) n cap) (.slice (some ⟨w2.heap.size, 0, none⟩) n n) (tabC fv)) rfl hV.symm (by rw [walkC_size]; exact there_of_block hpre.2.2.1 zero_size) (by rw [walkC_size]; exact infoWalk) (walk_one _ _ fv rfl rfl hfv.out) ?_
        refine hK _ _ ?_
        refine wpAny_done (by kernel_rfl) ?_ _
        exact ⟨rfl, _, _, fv, _, .agg (tabC fv), V, hpre, rfl, rfl⟩
      · go_simp
        refine hK _ _ ?_
        clear hK K
        refine wpAny_ready (rs := [1]) (by kernel_rfl) (by simp) ?_
        refine AllReady.cons rfl (fun K hK => ?_) AllReady.nil
        go_simp
        refine table_fv _ _ ?_
        intro fv w2 hfv hb2
        replace hfv := hd hfv
        go_simp
        refine hK _ _ ?_
        clear hK K
        have hbw := (bel_step (below_two w (.cells Tryz.zeroCells217 217) (.cells (madeCells #[Value.bool false, .int .i64 0, .int .i64 0] (n * 3)) 267)) (Nat.le_refl _) hb2)
        have hsz := hbw.size
        have hz : w2.heap[w.heap.size]? = _ := (hb2.block w.heap.size (by simp; omega)).trans (new_first w _ _)
        have hm : w2.heap[w.heap.size + 1]? = _ := (hb2.block (w.heap.size + 1) (by simp)).trans (new_second w _ _)
        refine wpAny_take (i := 5) (v := .agg (walkC (.slice (some ⟨bs, 0, none⟩) n cap) (.slice (some ⟨w.heap.size + 1, 0, none⟩) n n) (tabC fv))) rfl (by kernel_rfl) (by kernel_rfl) (by kernel_rfl) (fun _ _ _ h => by cases h.1) (Or.inl ⟨by rfl, exec_build rfl (by simp [Act.eval]) (run_build_walk _ _ _ _ _ _ _)⟩) ?_
        generalize hV : Value.agg (walkC (.slice (some ⟨bs, 0, none⟩) n cap) (.slice (some ⟨w.heap.size + 1, 0, none⟩) n n) (tabC fv)) = V
        have hpre : Pre w n (w.heap.size) (w.heap.size + 1) fv (w2) := pre_gen hfv.out hbw hz hm (Nat.le_refl _) (by omega) (by omega)
        refine wpAny_ready (rs := [7]) (by kernel_rfl) (by simp) ?_
        refine AllReady.cons rfl (fun K hK => ?_) AllReady.nil
        rw [if_pos (by rfl)]
        refine wp_store_mid 217 _ _ rfl (w.heap.size) 0 (walkC (.slice (some ⟨bs, 0, none⟩) n cap) (.slice (some ⟨w.heap.size + 1, 0, none⟩) n n) (tabC fv)) rfl hV.symm (by rw [walkC_size]; exact there_of_block hpre.2.2.1 zero_size) (by rw [walkC_size]; exact infoWalk) (walk_one _ _ fv rfl rfl hfv.out) ?_
        refine hK _ _ ?_
        refine wpAny_done (by kernel_rfl) ?_ _
        exact ⟨rfl, _, _, fv, _, .agg (tabC fv), V, hpre, rfl, rfl⟩

end Go.Proofs.YtidhiaaicmfabaaGreatDoor

/- The contract of readImage. -/
namespace Go.Proofs.YtidhiaaicmfabaaGreatDoor
open Go.RowKit Go.Proofs Go.Deep

theorem ba_ext {a b : ByteArray} (h : a.data = b.data) : a = b := by cases a; cases b; simp_all
theorem extract2 (s : ByteArray) (a c : Nat) : (s.extract a s.size).extract c (s.extract a s.size).size = s.extract (a + c) s.size := by
  apply ba_ext
  simp only [ByteArray.data_extract, ByteArray.size_extract, Array.extract_extract]
  congr 1
  simp only [← ByteArray.size_data]
  omega
theorem extract3 (s : ByteArray) (a c : Nat) (h : a + c ≤ s.size) : (s.extract a s.size).extract 0 c = s.extract a (a + c) := by
  apply ba_ext
  simp only [ByteArray.data_extract, Array.extract_extract]
  congr 1
  simp only [← ByteArray.size_data] at h ⊢
  omega
theorem emptyL (r : ByteArray) : r.toList.isEmpty = decide (r.size = 0) := by
  have h : r.toList.length = r.size := by rw [ByteArray.toList_eq]; rfl
  cases hl : r.toList with
  | nil => rw [hl] at h; simp at h; simp [← h]
  | cons a t => rw [hl] at h; simp at h; simp [← h]
theorem rowProg : (Tryz.prog.underlying 115).map TypeDesc.isRow = some true := by kernel_rfl
theorem infoProg : (Tryz.prog.info? 115).map (·.size) = some 2 := by kernel_rfl
/-- Two results, the first in a cell of its own. -/
theorem ret_row2 {fn : Func} {R : Ending → World → Prop} {a : Act} {w : World} {p u : Tmp} {ty n : Nat} (h : fn.results = #[.cell p ty, .tmp u]) (hrow : (Tryz.prog.underlying ty).map TypeDesc.isRow = some true) (hi : (Tryz.prog.info? ty).map (·.size) = some n)
    (g T : Nat) (cs : Array Value) (hn : cs.size = n) (hp : a.tmps.getD p undef = .pointer (some ⟨g, 0, none⟩)) (hg : w.heap[g]? = some (.cells cs T (0, 0))) (hd : a.defers = []) (hR : R (.returned (.tuple #[.agg cs, a.tmps.getD u undef])) w) : bodyPost Tryz.prog fn R .ret a w := by
  obtain ⟨d, h1, h2⟩ := Option.map_eq_some_iff.1 hrow
  have hl := run_loadVar_mid w g 0 ty cs.toList d (range_of_block hg) h1 h2 (by rw [hi, ← hn]; simp)
  refine bodyPost_ret ?_ hd hR
  rw [results_cell_tmp h]
  rw [hp]
  simp [asAddr, Result.andThen, hl]
theorem blk2 {W : World} {g T : Nat} {a0 a1 v0 v1 : Value} (h : W.heap[g]? = some (.cells #[a0, a1] T (0, 0))) :
    ((W.setCell ⟨g, 0, none⟩ v0).setCell ⟨g, 1, none⟩ v1).heap[g]? = some (.cells #[v0, v1] T (0, 0)) := by
  simp [World.setCell, Array.getElem?_modify, h]
theorem two_cells {w : World} {g T : Nat} {v0 v1 : Value} (h : w.heap[g]? = some (.cells #[v0, v1] T (0, 0))) : w.cell? ⟨g, 0, none⟩ = some v0 ∧ w.cell? ⟨g, 1, none⟩ = some v1 ∧ ∀ j, w.frozen? ⟨g, j, none⟩ = false := by
  refine ⟨?_, ?_, fun j => by simp [World.frozen?, h]⟩ <;> rw [cell_of_row w g _ _ T (0, 0) h] <;> rfl
theorem blk_lt' {w : World} {g : Nat} {o : Obj} (h : w.heap[g]? = some o) : g < w.heap.size := (Array.getElem?_eq_some_iff.1 h).1
theorem b16_le (s : ByteArray) (a : Nat) : b16 s a ≤ 65535 := by
  have g1 := bt_le s a
  have g2 := bt_le s (a + 1)
  unfold b16; omega
set_option maxRecDepth 100000 in
set_option maxHeartbeats 2000000 in
theorem readImage_any (w : World) (s : ByteArray) (hs : s.size ≤ maxLen) (R : Ending → World → Prop)
    (no : (∀ bd, ¬ imgOk s bd) → ∀ (a : Option Addr) (n c : Nat) (a' : Option Addr) (n' c' : Nat) w', Below w.heap.size w w' → R (.returned (.tuple #[.agg #[.slice a n c, .slice a' n' c'], .bool false])) w')
    (yes : hdrOk s → sortsOk s → sizeOk s → ∀ l, posF (codeOf s) ((codeOf s).size + 1) 0 = some l → ∀ bc v w', Below w.heap.size w w' → w.heap.size ≤ bc → Tab w' bc 129 3 (bt s 6) (bt s 6) (cellA (fun i => bt s (7 + i) / 3) (fun i => bt s (7 + i) % 3)) →
      w'.ownsRow w.heap.size 254 6 v l.length (l.flatMap (stC (codeOf s))) → bc < w'.heap.size → R (.returned (.tuple #[.agg #[.slice (some ⟨bc, 0, none⟩) (bt s 6) (bt s 6), v], .bool true])) w') :
    Calls Tryz.prog 56 #[.string s] w R := by
  replace no := hd no
  replace yes := hd yes
  have hs' := hs
  unfold maxLen at hs'
  go_enter Tryz.func56, Tryz.ntmps56
  go_wp2_with (fail)
  refine cutPrefix_mark _ _ hs _ ?_ ?_
  · intro hm
    replace hm := hd hm
    go_wp2
    refine ret_row2 rfl rowProg infoProg w.heap.size 115 _ rfl rfl (heap_alloc_new w _) rfl ?_
    refine cl1 (no.out (fun bd h => hm.out ⟨by have := h.1.1; omega, h.1.2.1⟩) _ _ _ _ _ _ _ (by repeat (first | with_reducible exact Below.refl _ _ | with_reducible refine below_drewN ?_ _ | with_reducible refine Below.drew ?_ | with_reducible refine Below.alloc ?_ (by simp) _ | with_reducible refine Below.setCell ?_ (by simp) _))) rfl
  · intro hm
    have h6 := hm.1
    have hbad : ∀ (a : Option Addr) (n c : Nat) (a' : Option Addr) (n' c' : Nat) w', (¬ hdrOk s ∨ ¬ sortsOk s ∨ ¬ sizeOk s ∨ posF (codeOf s) ((codeOf s).size + 1) 0 = none) → Below w.heap.size w w' → R (.returned (.tuple #[.agg #[.slice a n c, .slice a' n' c'], .bool false])) w' := fun a n c a' n' c' w' h hb => no.out (fun bd hi => by
      obtain ⟨h1, h2, h3, ps, h4, _⟩ := hi
      rcases h with h | h | h | h
      · exact h h1
      · exact h h2
      · exact h h3
      · rw [h] at h4; cases h4) a n c a' n' c' w' hb
    have f1 : (s.extract 6 s.size).size = s.size - 6 := by rw [ByteArray.size_extract]; omega
    have f2 : 6 < s.size → bt (s.extract 6 s.size) 0 = bt s 6 := fun h => bt_extract s 6 s.size 0 (by omega) (Nat.le_refl _)
    have f3 : (s.extract 6 s.size).extract 1 (s.extract 6 s.size).size = s.extract 7 s.size := extract2 s 6 1
    have f4 : (s.extract 7 s.size).size = s.size - 7 := by rw [ByteArray.size_extract]; omega
    have f5 : ∀ c, 7 + c ≤ s.size → (s.extract 7 s.size).extract 0 c = s.extract 7 (7 + c) := fun c h => extract3 s 7 c h
    have f6 : ∀ c, (s.extract 7 s.size).extract c (s.extract 7 s.size).size = s.extract (7 + c) s.size := fun c => extract2 s 7 c
    generalize hr : s.extract 6 s.size = r at *
    generalize hr1 : s.extract 7 s.size = r1 at *
    replace hr := hd hr
    replace hr1 := hd hr1
    replace hbad := hd hbad
    replace f5 := hd f5
    by_cases h7 : r.size = 0
    · have er : r.toList.isEmpty = true := by
        rw [emptyL]; simpa using h7
      clear f6 f2
      replace f1 := hd f1
      replace f4 := hd f4
      replace hm := hd hm
      go_wp2
      refine ret_row2 rfl rowProg infoProg w.heap.size 115 _ rfl rfl (heap_alloc_new w _) rfl ?_
      exact cl1 (hbad.out _ _ _ _ _ _ _ (.inl (fun h => by have := h.1; have := f1.out; omega)) (by repeat (first | with_reducible exact Below.refl _ _ | with_reducible refine below_drewN ?_ _ | with_reducible refine Below.drew ?_ | with_reducible refine Below.alloc ?_ (by simp) _ | with_reducible refine Below.setCell ?_ (by simp) _))) rfl
    · have er : r.toList.isEmpty = false := by
        rw [emptyL]; simpa using h7
      have h0r : 0 < r.size := by omega
      have hb0 := bt_of r 0 h0r
      rw [f2 (by omega)] at hb0
      have hle := bt_le s 6
      generalize hnC : bt s 6 = nC at *
      replace hnC := hd hnC
      clear f2
      have i0 : (0 : Int) < (r.size : Int) := by omega
      have i1 : (1 : Int) ≤ (r.size : Int) := by omega
      by_cases hcnt : nC ≤ 100
      · have d100 : decide ((100 : Int) < (nC : Int)) = false := by simp; omega
        by_cases hfit : nC + 2 ≤ r1.size
        · have dfit : decide ((r1.size : Int) < (nC : Int) + 2) = false := by simp; omega
          have hsz7 := hd (show 9 + nC ≤ s.size by omega)
          replace f1 := hd f1
          replace f4 := hd f4
          replace f6 := hd f6
          replace hm := hd hm
          go_wp2_with (fail)
          have g5 := f5.out nC (by have := f4.out; omega)
          have gs : (r1.extract 0 nC).size = nC := by rw [g5, ByteArray.size_extract]; have := f4.out; omega
          have gb : ∀ i, i < nC → bt (r1.extract 0 nC) i = bt s (7 + i) := fun i hi => by rw [g5]; exact bt_extract s 7 (7 + nC) i (by omega) (by have := f4.out; omega)
          have g6 := f6.out nC
          have gs6 : (r1.extract nC r1.size).size = s.size - (7 + nC) := by rw [g6, ByteArray.size_extract]; omega
          have gb6 : b16 (r1.extract nC r1.size) 0 = b16 s (7 + nC) := by
            rw [g6]; unfold b16
            rw [bt_extract s (7 + nC) s.size 0 (by have := f4.out; omega) (Nat.le_refl _), bt_extract s (7 + nC) s.size (0 + 1) (by have := f4.out; omega) (Nat.le_refl _)]
            simp [Nat.add_assoc]
          have g7 : r1.extract (nC + 2) r1.size = codeOf s := by
            rw [f6.out (nC + 2)]; unfold codeOf; rw [hnC.out, show 7 + (nC + 2) = 9 + nC by omega]
          have gs7 : (codeOf s).size = s.size - (9 + nC) := by unfold codeOf; rw [hnC.out, ByteArray.size_extract]; omega
          generalize hq5 : r1.extract 0 nC = q5 at *
          generalize hq6 : r1.extract nC r1.size = q6 at *
          generalize hcc : codeOf s = cc at *
          have hu16 := b16_le q6 0
          have hhdr := hd (show hdrOk s from ⟨by have := hsz7.out; omega, hm.out.2, by rw [hnC.out]; exact hcnt, by rw [hnC.out]; exact hsz7.out⟩)
          have hsrt := hd (show (∀ i, i < q5.size → bt q5 i ≤ 8) ↔ sortsOk s from by
            unfold sortsOk
            rw [hnC.out, gs]
            constructor
            · intro h i hi; rw [← gb i hi]; exact h i hi
            · intro h i hi; rw [gb i hi]; exact h i hi)
          have hszk := hd (show (b16 q6 0 = cc.size ∧ b16 q6 0 ≤ 8000) ↔ sizeOk s from by
            unfold sizeOk
            rw [hnC.out, gb6, gs7]
            constructor
            · rintro ⟨a, b⟩; exact ⟨a.symm, b⟩
            · rintro ⟨a, b⟩; exact ⟨a.symm, b⟩)
          replace g5 := hd g5
          replace g6 := hd g6
          replace gb := hd gb
          replace gb6 := hd gb6
          replace gs := hd gs
          replace gs6 := hd gs6
          replace gs7 := hd gs7
          replace hcc := hd hcc
          refine readCells_any _ _ (by rw [gs.out]; exact hcnt) _ ?_ ?_
          · intro hx w2 hb2
            have hz : w2.heap[w.heap.size]? = some (.cells #[.slice none 0 0, .slice none 0 0] 115 (0, 0)) := (hb2.block _ (by simp)).trans (heap_alloc_new w _)
            obtain ⟨c0, c1, cf⟩ := two_cells hz
            have hbw := hd (bel_step (show Below w.heap.size w _ from (by repeat (first | with_reducible exact Below.refl _ _ | with_reducible refine below_drewN ?_ _ | with_reducible refine Below.drew ?_ | with_reducible refine Below.alloc ?_ (by simp) _ | with_reducible refine Below.setCell ?_ (by simp) _))) (Nat.le_refl _) hb2)
            replace hz := hd hz
            replace hb2 := hd hb2
            replace hx := hd hx
            go_wp2
            refine ret_row2 rfl rowProg infoProg w.heap.size 115 _ rfl rfl (blk2 hz.out) rfl ?_
            refine cl1 (hbad.out _ _ _ _ _ _ _ (.inr (.inl (fun h => ?_))) ((hbw.out.setCell (Nat.le_refl _) _).setCell (Nat.le_refl _) _)) rfl
            obtain ⟨i, hi, h8⟩ := hx.out
            have := hsrt.out.2 h i hi
            omega
          · intro hx w2 hb2 htab2
            have hz : w2.heap[w.heap.size]? = some (.cells #[.slice none 0 0, .slice none 0 0] 115 (0, 0)) := (hb2.block _ (by simp)).trans (heap_alloc_new w _)
            obtain ⟨c0, c1, cf⟩ := two_cells hz
            have hbw := hd (bel_step (show Below w.heap.size w _ from (by repeat (first | with_reducible exact Below.refl _ _ | with_reducible refine below_drewN ?_ _ | with_reducible refine Below.drew ?_ | with_reducible refine Below.alloc ?_ (by simp) _ | with_reducible refine Below.setCell ?_ (by simp) _))) (Nat.le_refl _) hb2)
            have hsok := hd (hsrt.out.1 hx)
            have hsz2 := blk_lt' hz
            rw [gs.out]
            have e1 : (w.alloc (Obj.cells #[.slice none 0 0, .slice none 0 0] 115)).heap.size = w.heap.size + 1 := by simp
            rw [e1] at htab2 ⊢
            rw [gs.out] at htab2
            have hlt2 := htab2.lt
            replace htab2 := hd htab2
            replace hz := hd hz
            replace hb2 := hd hb2
            clear hx e1
            go_wp2_with (fail)
            refine readU16_any _ _ (by rw [gs6.out]; have := hsz7.out; omega) (by rw [gs6.out]; unfold maxLen; omega) _ ?_
            intro k
            by_cases hok : b16 q6 0 = cc.size ∧ b16 q6 0 ≤ 8000
            · have d8 : decide ((8000 : Int) < (b16 q6 0 : Nat)) = false := by simp; omega
              have dn : (((b16 q6 0 : Nat) : Int) != (cc.size : Int)) = false := by simp; omega
              have hcl : cc.size ≤ 8000 := by omega
              have hszok := hd (hszk.out.1 hok)
              replace hok := hd hok
              go_wp2_with (fail)
              refine readCode_any _ _ hcl _ ?_ ?_
              · intro hp w3 hb3
                have hz3 : w3.heap[w.heap.size]? = some (.cells #[.slice none 0 0, .slice none 0 0] 115 (0, 0)) := (hb3.block _ hsz2).trans hz.out
                obtain ⟨c30, c31, cf3⟩ := two_cells hz3
                have hbw3 := hd (bel_step (below_drewN hbw.out k) (Nat.le_refl _) hb3)
                replace hz3 := hd hz3
                replace hb3 := hd hb3
                replace hp := hd hp
                go_wp2
                refine ret_row2 rfl rowProg infoProg w.heap.size 115 _ rfl rfl (blk2 hz3.out) rfl ?_
                exact cl1 (hbad.out _ _ _ _ _ _ _ (.inr (.inr (.inr hp.out))) ((hbw3.out.setCell (Nat.le_refl _) _).setCell (Nat.le_refl _) _)) rfl
              · intro l hl v w3 hb3 hown3
                have hz3 : w3.heap[w.heap.size]? = some (.cells #[.slice none 0 0, .slice none 0 0] 115 (0, 0)) := (hb3.block _ hsz2).trans hz.out
                obtain ⟨c30, c31, cf3⟩ := two_cells hz3
                have hbw3 := hd (bel_step (below_drewN hbw.out k) (Nat.le_refl _) hb3)
                have htab3 := hd (htab2.out.of_block (hb3.block _ hlt2))
                have hsz3 := hd hb3.size
                obtain ⟨ao, cv, rfl⟩ := own_sl hown3
                replace hz3 := hd hz3
                replace hb3 := hd hb3
                replace hl := hd hl
                replace hown3 := hd hown3
                go_wp2
                refine ret_row2 rfl rowProg infoProg w.heap.size 115 _ rfl rfl (blk2 hz3.out) rfl ?_
                refine cl1 (yes.out hhdr.out hsok.out hszok.out l hl.out (w.heap.size + 1) _ _ ((hbw3.out.setCell (Nat.le_refl _) _).setCell (Nat.le_refl _) _) (Nat.le_succ _) ?_ ?_ ?_) rfl
                · refine (((htab3.out.setOther (a := ⟨w.heap.size, 0, none⟩) (by simp) _).setOther (a := ⟨w.heap.size, 1, none⟩) (by simp) _)).congr (fun i hi f _ => ?_)
                  unfold cellA
                  simp only [gb.out i hi]
                · exact own_base (own_set (own_set hown3.out (a := ⟨w.heap.size, 0, none⟩) hsz2 _) (a := ⟨w.heap.size, 1, none⟩) hsz2 _) (Nat.le_of_lt hsz2)
                · rw [World.size_setCell, World.size_setCell]
                  have h3 : w2.heap.size ≤ w3.heap.size := hsz3.out
                  omega
            · have hnok := hd (show ¬ sizeOk s from fun h => hok (hszk.out.2 h))
              by_cases h8 : b16 q6 0 ≤ 8000
              · have d8 : decide ((8000 : Int) < (b16 q6 0 : Nat)) = false := by simp; omega
                have dn : (((b16 q6 0 : Nat) : Int) != (cc.size : Int)) = true := by simp; omega
                replace hok := hd hok
                go_wp2
                refine ret_row2 rfl rowProg infoProg w.heap.size 115 _ rfl rfl (blk2 (show (w2.drewN k).heap[w.heap.size]? = _ from hz.out)) rfl ?_
                exact cl1 (hbad.out _ _ _ _ _ _ _ (.inr (.inr (.inl hnok.out))) (((below_drewN hbw.out k).setCell (Nat.le_refl _) _).setCell (Nat.le_refl _) _)) rfl
              · have d8 : decide ((8000 : Int) < (b16 q6 0 : Nat)) = true := by simp; omega
                replace hok := hd hok
                go_wp2
                refine ret_row2 rfl rowProg infoProg w.heap.size 115 _ rfl rfl (blk2 (show (w2.drewN k).heap[w.heap.size]? = _ from hz.out)) rfl ?_
                exact cl1 (hbad.out _ _ _ _ _ _ _ (.inr (.inr (.inl hnok.out))) (((below_drewN hbw.out k).setCell (Nat.le_refl _) _).setCell (Nat.le_refl _) _)) rfl
        · have dfit : decide ((r1.size : Int) < (nC : Int) + 2) = true := by simp; omega
          clear f6
          have hsz7 : ¬ 9 + nC ≤ s.size := by omega
          replace f1 := hd f1
          replace f4 := hd f4
          replace hm := hd hm
          go_wp2
          refine ret_row2 rfl rowProg infoProg w.heap.size 115 _ rfl rfl (heap_alloc_new w _) rfl ?_
          exact cl1 (hbad.out _ _ _ _ _ _ _ (.inl (fun h => by have h2 := h.2.2.2; rw [hnC.out] at h2; omega)) (by repeat (first | with_reducible exact Below.refl _ _ | with_reducible refine below_drewN ?_ _ | with_reducible refine Below.drew ?_ | with_reducible refine Below.alloc ?_ (by simp) _ | with_reducible refine Below.setCell ?_ (by simp) _))) rfl
      · have d100 : decide ((100 : Int) < (nC : Int)) = true := by simp; omega
        clear f6
        replace f1 := hd f1
        replace f4 := hd f4
        replace hm := hd hm
        go_wp2
        refine ret_row2 rfl rowProg infoProg w.heap.size 115 _ rfl rfl (heap_alloc_new w _) rfl ?_
        exact cl1 (hbad.out _ _ _ _ _ _ _ (.inl (fun h => by have h2 := h.2.2.1; rw [hnC.out] at h2; omega)) (by repeat (first | with_reducible exact Below.refl _ _ | with_reducible refine below_drewN ?_ _ | with_reducible refine Below.drew ?_ | with_reducible refine Below.alloc ?_ (by simp) _ | with_reducible refine Below.setCell ?_ (by simp) _))) rfl

end Go.Proofs.YtidhiaaicmfabaaGreatDoor

/- The contract of settle. -/
namespace Go.Proofs.YtidhiaaicmfabaaGreatDoor
open Go.RowKit Go.Proofs Go.Deep

/-- All rules that need no way through the steps. -/
def SetOk (rl kd : Nat → Nat) (nC n : Nat) (op at_ : Nat → Nat) (arg cnt : Nat → Int) : Prop :=
  (∀ i, i < n → OpOk rl kd nC (op i) (arg i) (cnt i)) ∧ EndsOk op n ∧ stk op n = some [] ∧ ∀ i, i < n → isJump (op i) → ∃ t, JumpOk at_ op arg n i t
set_option maxRecDepth 100000 in
set_option maxHeartbeats 2000000 in
theorem settle_any (w : World) (bc capc nC bs n cap : Nat) (rl kd : Nat → Nat) (sa : Option Addr) (op at_ : Nat → Nat) (arg cnt lp to_ : Nat → Int) (hC : nC ≤ 100) (hn : n ≤ 8000) (hmono : ∀ i j, i < j → j < n → at_ i < at_ j)
    (hb : ∀ i, i < n → (op i = 2 ∨ op i = 3 ∨ op i = 21 ∨ op i = 4 ∨ op i = 5) → 0 ≤ arg i ∧ arg i ≤ 255) (hb2 : ∀ i, i < n → (op i = 4 ∨ op i = 5) → 0 ≤ cnt i ∧ cnt i ≤ 255)
    (ht : Tab w bc 129 3 nC capc (cellA rl kd)) (hsa : 0 < n → sa = some ⟨bs, 0, none⟩ ∧ Tab w bs 254 6 n cap (stepA op at_ arg cnt lp to_)) (R : Ending → World → Prop)
    (no : ¬ SetOk rl kd nC n op at_ arg cnt → ∀ w', Only bs w w' → R (.returned (.bool false)) w')
    (yes : SetOk rl kd nC n op at_ arg cnt → ∀ To' : Nat → Int, (∀ i, i < n → isJump (op i) → ∃ t : Nat, To' i = (t : Int) ∧ JumpOk at_ op arg n i t) → ∀ w', Only bs w w' → Tab w' bs 254 6 n cap (stepA op at_ arg cnt (inOf op) To') → R (.returned (.bool true)) w') :
    Calls Tryz.prog 57 #[.agg #[.slice (some ⟨bc, 0, none⟩) nC capc, .slice sa n cap]] w R := by
  replace no := hd no
  replace yes := hd yes
  replace hmono := hd hmono
  have hbsz : 0 < n → bs < w.heap.size := fun h => (hsa h).2.lt
  replace hsa := hd hsa
  replace hbsz := hd hbsz
  replace hb := hd hb
  replace hb2 := hd hb2
  replace ht := hd ht
  go_enter Tryz.func57, Tryz.ntmps57
  go_wp2_with (fail)
  refine operandsRight_any _ bc capc nC bs n cap rl kd sa op at_ arg cnt lp to_ hC hn hb.out hb2.out (ht.out.alloc _) (fun h => ⟨(hsa.out h).1, (hsa.out h).2.alloc _⟩) _ ?_
  intro b1 w1 hb1 hbel1
  have hz1 : w1.heap[w.heap.size]? = some (.cells #[.slice (some ⟨bc, 0, none⟩) nC capc, .slice sa n cap] 115 (0, 0)) := (hbel1.block _ (by simp)).trans (heap_alloc_new w _)
  have hbw1 := bel_step (show Below w.heap.size w _ from (by repeat (first | with_reducible exact Below.refl _ _ | with_reducible refine below_drewN ?_ _ | with_reducible refine Below.drew ?_ | with_reducible refine Below.alloc ?_ (by simp) _ | with_reducible refine Below.setCell ?_ (by simp) _))) (Nat.le_refl _) hbel1
  have c1 : w1.cell? ⟨w.heap.size, 1, none⟩ = some (.slice sa n cap) := (cell_of_row _ _ 1 _ _ (0, 0) hz1).trans rfl
  have hlt1 : w.heap.size < w1.heap.size := (Array.getElem?_eq_some_iff.1 hz1).1
  have ht1 := hd (fun h => (⟨(hsa.out h).1, (hsa.out h).2.below hbw1⟩ : sa = some ⟨bs, 0, none⟩ ∧ Tab w1 bs 254 6 n cap (stepA op at_ arg cnt lp to_)))
  replace hbw1 := hd hbw1
  replace hz1 := hd hz1
  replace hbel1 := hd hbel1
  cases b1 with
  | false =>
    have hno := hd (show ¬ SetOk rl kd nC n op at_ arg cnt from fun h => by have := hb1.2 h.1; cases this)
    clear hb1
    go_wp2
    exact cl1 (no.out hno.out _ (Only.of_below hbw1.out)) rfl
  | true =>
    have hok1 := hd (hb1.1 rfl)
    clear hb1
    go_wp2_with (fail)
    refine endsOnce_any _ bs n cap sa op at_ arg cnt lp to_ hn ht1.out _ ?_
    intro b2 w2 hbb2 hbel2
    have hbw2 := bel_step hbw1.out (Nat.le_refl _) hbel2
    have c2 : w2.cell? ⟨w.heap.size, 1, none⟩ = some (.slice sa n cap) := (hbel2.cell (p := ⟨w.heap.size, 1, none⟩) hlt1).trans c1
    have hlt2 : w.heap.size < w2.heap.size := Nat.lt_of_lt_of_le hlt1 hbel2.size
    have ht2 := hd (fun h => (hsa.out h).2.below hbw2)
    replace hbw2 := hd hbw2
    replace hbel2 := hd hbel2
    cases b2 with
    | false =>
      have hno := hd (show ¬ SetOk rl kd nC n op at_ arg cnt from fun h => by have := hbb2.2 h.2.1; cases this)
      clear hbb2
      go_wp2
      exact cl1 (no.out hno.out _ (Only.of_below hbw2.out)) rfl
    | true =>
      have hends := hbb2.1 rfl
      have hn0 := hends.1
      have hsa0 := (hsa.out hn0).1
      subst hsa0
      replace hends := hd hends
      have hbs2 := hbsz.out hn0
      have hne : w.heap.size ≠ bs := by omega
      clear hbb2
      go_wp2_with (fail)
      refine nestLoops_any _ bs n cap op at_ arg cnt lp to_ hn (ht2.out hn0) _ ?_ ?_
      · intro hst w3 ho3
        have hno := hd (show ¬ SetOk rl kd nC n op at_ arg cnt from fun h => hst h.2.2.1)
        have ho := hd ((Only.of_below (b := bs) hbw2.out).trans ho3)
        clear hst ho3
        go_wp2
        exact cl1 (no.out hno.out _ ho.out) rfl
      · intro hst w3 ho3 ht3
        have c3 : w3.cell? ⟨w.heap.size, 1, none⟩ = some (.slice (some ⟨bs, 0, none⟩) n cap) := (ho3.cell (p := ⟨w.heap.size, 1, none⟩) hlt2 hne).trans c2
        have ho := hd ((Only.of_below (b := bs) hbw2.out).trans ho3)
        replace hst := hd hst
        replace ho3 := hd ho3
        replace ht3 := hd ht3
        go_wp2_with (fail)
        refine aimJumps_any _ bs n cap op at_ arg cnt to_ hn hmono.out ht3.out _ ?_ ?_
        · intro hj w4 ho4
          have hno := hd (show ¬ SetOk rl kd nC n op at_ arg cnt from fun h => by
            obtain ⟨i, hi, h1, h2⟩ := hj
            obtain ⟨t, ht⟩ := h.2.2.2 i hi h1
            exact h2 t ht)
          have ho5 := hd (ho.out.trans ho4)
          clear hj ho4
          go_wp2
          exact cl1 (no.out hno.out _ ho5.out) rfl
        · intro To' hj w4 ho4 ht4
          have hyes := hd (show SetOk rl kd nC n op at_ arg cnt from ⟨hok1.out, hends.out, hst.out, fun i hi h1 => by obtain ⟨t, _, ht⟩ := hj i hi h1; exact ⟨t, ht⟩⟩)
          have ho5 := hd (ho.out.trans ho4)
          replace hj := hd hj
          replace ho4 := hd ho4
          replace ht4 := hd ht4
          go_wp2
          exact cl1 (yes.out hyes.out To' hj.out _ ho5.out ht4.out) rfl

end Go.Proofs.YtidhiaaicmfabaaGreatDoor

/- What the machine reads of the code and what the document reads of it, held against each other. -/
namespace Go.Proofs.YtidhiaaicmfabaaGreatDoor
open Go.RowKit Go.Proofs Go.Deep

def argL (c : ByteArray) (ps : List Nat) (i : Nat) : Int := vArg c (atL ps i)
def cntL (c : ByteArray) (ps : List Nat) (i : Nat) : Int := vCnt c (atL ps i)
theorem flat_st (c : ByteArray) : ∀ (l : List Nat) (i f : Nat), i < l.length → f < 6 →
    (l.flatMap (stC c))[i * 6 + f]? = some (stepA (opL c l) (atL l) (argL c l) (cntL c l) (fun _ => 0) (fun _ => 0) i f)
  | [], i, f, hi, _ => by simp at hi
  | a :: l, 0, f, _, hf => by
    rw [List.flatMap_cons, List.getElem?_append_left (by simp [stC]; omega)]
    have : f = 0 ∨ f = 1 ∨ f = 2 ∨ f = 3 ∨ f = 4 ∨ f = 5 := by omega
    rcases this with rfl | rfl | rfl | rfl | rfl | rfl <;> rfl
  | a :: l, i + 1, f, hi, hf => by
    rw [List.flatMap_cons, List.getElem?_append_right (by simp [stC]; omega)]
    have h := flat_st c l i f (by simpa using hi) hf
    have e : (i + 1) * 6 + f - (stC c a).length = i * 6 + f := by simp [stC]; omega
    rw [e, h]
    rfl
/-- The places of the instructions rise, lie in the code, and each has its bytes. -/
theorem posF_facts (s : ByteArray) : ∀ (F a : Nat) (l : List Nat), posF s F a = some l → l.length ≤ s.size - a ∧ (∀ i, i < l.length → a ≤ atL l i ∧ atL l i < s.size ∧ osz (bt s (atL l i)) ≠ 0) ∧ (∀ i j, i < j → j < l.length → atL l i < atL l j)
  | 0, _, _, h => by simp [posF] at h
  | F + 1, a, l, h => by
    unfold posF at h
    split at h
    · rename_i ha
      split at h
      · cases h
      · rename_i hb
        obtain ⟨t, ht, rfl⟩ := Option.map_eq_some_iff.1 h
        obtain ⟨h1, h2, h3⟩ := posF_facts s F _ t ht
        simp only [not_or] at hb
        have hz := hb.1
        refine ⟨by simp; omega, fun i hi => ?_, fun i j hij hj => ?_⟩
        · cases i with
          | zero => exact ⟨Nat.le_refl _, ha, hz⟩
          | succ i =>
            have := h2 i (by simpa using hi)
            exact ⟨Nat.le_trans (Nat.le_add_right _ _) this.1, this.2⟩
        · cases j with
          | zero => omega
          | succ j =>
            have hj' : j < t.length := by simpa using hj
            cases i with
            | zero =>
              have := (h2 j hj').1
              show a < atL t j
              omega
            | succ i => exact h3 i j (by omega) hj'
    · injection h with h; subst h; simp
theorem osz_lt {o : Nat} (h : osz o ≠ 0) : o < 22 := by
  rcases Nat.lt_or_ge o 22 with h1 | h1
  · exact h1
  · exact absurd (osz_big o h1) h
theorem vArg_bd (c : ByteArray) (a : Nat) (h : bt c a = 2 ∨ bt c a = 3 ∨ bt c a = 21 ∨ bt c a = 4 ∨ bt c a = 5) : vArg c a = (insC c a : Nat) ∧ 0 ≤ vArg c a ∧ vArg c a ≤ 255 := by
  have := bt_le c (a + 1)
  unfold vArg insC
  rcases h with h | h | h | h | h <;> simp [h] <;> omega
theorem vCnt_bd (c : ByteArray) (a : Nat) (h : bt c a = 4 ∨ bt c a = 5) : vCnt c a = insN c a ∧ 0 ≤ vCnt c a ∧ vCnt c a ≤ 255 := by
  have := bt_le c (a + 2)
  unfold vCnt insN
  rcases h with h | h <;> simp [h] <;> omega
theorem vArg_jmp (c : ByteArray) (a : Nat) (h : bt c a = 17 ∨ bt c a = 18 ∨ bt c a = 19) : vArg c a = insN c a ∧ 0 ≤ vArg c a ∧ vArg c a ≤ 65535 := by
  have h1 := bt_le c (a + 1)
  have h2 := bt_le c (a + 1 + 1)
  unfold vArg insN b16
  rcases h with h | h | h <;> simp [h] <;> omega
theorem op_iff (s c : ByteArray) (nC a : Nat) : OpOk (fun i => bt s (7 + i) / 3) (fun i => bt s (7 + i) % 3) nC (bt c a) (vArg c a) (vCnt c a) ↔ insOk (rlOf s) (kdOf s) nC (bt c a) (insC c a) (insN c a) := by
  have key : ∀ k n, AlikeOk (fun i => bt s (7 + i) / 3) (fun i => bt s (7 + i) % 3) nC k n ↔ (1 ≤ n ∧ k + n ≤ nC ∧ ∀ i, i < n → rlOf s (k + i) = rlOf s k ∧ kdOf s (k + i) = kdOf s k) := by
    intro k n
    unfold AlikeOk rlOf kdOf
    constructor
    · rintro ⟨a, b, h⟩; exact ⟨a, b, fun i hi => by have := h i hi; dsimp only at this ⊢; omega⟩
    · rintro ⟨a, b, h⟩; exact ⟨a, b, fun i hi => by have := h i hi; dsimp only at this ⊢; omega⟩
  have r0 : ∀ k, (bt s (7 + k) / 3 ≠ 0) ↔ rlOf s k ≠ 0 := fun k => by unfold rlOf; omega
  have r2 : ∀ k, (bt s (7 + k) / 3 = 2 ∧ bt s (7 + k) % 3 = 2) ↔ (rlOf s k = 2 ∧ kdOf s k = 2) := fun k => by unfold rlOf kdOf; omega
  unfold OpOk insOk CellOk
  by_cases h2 : bt c a = 2
  · have e := vArg_bd c a (.inl h2)
    have en : insN c a = 1 := by simp [insN, h2]
    rw [e.1, en]; simp [h2, key]
  · by_cases h3 : bt c a = 3
    · have e := vArg_bd c a (.inr (.inl h3))
      have en : insN c a = 1 := by simp [insN, h3]
      rw [e.1, en]; simp only [h3, key]; simp [r0]
    · by_cases h21 : bt c a = 21
      · have e := vArg_bd c a (.inr (.inr (.inl h21)))
        have en : insN c a = 1 := by simp [insN, h21]
        rw [e.1, en]; simp only [h21, key]; simp [r2]
      · by_cases h4 : bt c a = 4
        · have e := vArg_bd c a (.inr (.inr (.inr (.inl h4))))
          have en := vCnt_bd c a (.inl h4)
          rw [e.1, en.1]; simp [h4, key]
        · by_cases h5 : bt c a = 5
          · have e := vArg_bd c a (.inr (.inr (.inr (.inr h5))))
            have en := vCnt_bd c a (.inr h5)
            rw [e.1, en.1]; simp only [h5, key]; simp [r0, and_assoc]
          · by_cases h19 : bt c a = 19
            · have e := vArg_jmp c a (.inr (.inr h19))
              rw [e.1]; simp [h19]
            · simp [h2, h3, h4, h5, h21, h19]
theorem refStep_congr {op : Nat → Nat} {N N' : Nat → Int} {To : Nat → Nat} {i : Nat} {H L : Nat → Int} (h : op i = 20 → N (To i) = N' (To i)) : refStep op N To i H L = refStep op N' To i H L := by
  unfold refStep
  by_cases h20 : op i = 20
  · rw [h h20]
  · simp only [h20, if_false]
theorem refGo_congr {op : Nat → Nat} {N N' : Nat → Int} {To : Nat → Nat} {n : Nat} (h : ∀ i, i < n → op i = 20 → N (To i) = N' (To i)) : ∀ (fuel i : Nat) (H L : Nat → Int), i + fuel ≤ n → refGo op N To n fuel i H L = refGo op N' To n fuel i H L
  | 0, _, _, _, _ => rfl
  | fuel + 1, i, H, L, hf => by
    simp only [refGo]
    rw [refStep_congr (h i (by omega))]
    split
    · rfl
    · split
      · rfl
      · exact refGo_congr h fuel (i + 1) _ _ (by omega)

end Go.Proofs.YtidhiaaicmfabaaGreatDoor

/- The contract of Load: it answers by what the image's bytes say. -/
namespace Go.Proofs.YtidhiaaicmfabaaGreatDoor
open Go.RowKit Go.Proofs Go.Deep

theorem img_iff {s : ByteArray} {bd : Int} {l : List Nat} (hh : hdrOk s) (hs : sortsOk s) (hz : sizeOk s) (hl : posF (codeOf s) ((codeOf s).size + 1) 0 = some l) : imgOk s bd ↔ codeOk (rlOf s) (kdOf s) (bt s 6) (codeOf s) l bd := by
  constructor
  · rintro ⟨_, _, _, ps, hps, hok⟩
    rw [hl] at hps
    injection hps with e
    subst e; exact hok
  · intro h; exact ⟨hh, hs, hz, l, hl, h⟩
theorem for_of {op : Nat → Nat} {n i : Nat} (h : stk op n = some []) (hi : i < n) (h20 : op i = 20) : ∃ f : Nat, inOf op i = f ∧ f < i ∧ op f = 19 := by
  cases hs : stk op i with
  | none => rw [stk_none op hs (by omega)] at h; cases h
  | some st =>
    cases st with
    | nil => rw [stk_none op (stk_none20 hs h20) (by omega)] at h; cases h
    | cons f t =>
      have := stk_mem op i _ hs f (by simp)
      exact ⟨f, inOf_cons hs, this.1, this.2⟩
theorem jump_arg {at_ op : Nat → Nat} {N N' : Nat → Int} {n i t : Nat} (e : N i = N' i) : JumpOk at_ op N n i t ↔ JumpOk at_ op N' n i t := by unfold JumpOk; rw [e]
theorem code_iff (s c : ByteArray) (nC : Nat) (l : List Nat) (bd : Int) : codeOk (rlOf s) (kdOf s) nC c l bd ↔
    (SetOk (fun i => bt s (7 + i) / 3) (fun i => bt s (7 + i) % 3) nC l.length (opL c l) (atL l) (argL c l) (cntL c l) ∧
      refGo (opL c l) (argL c l) (toL (atL l) (opL c l) (nL c l) l.length) l.length l.length 0 H0 L0 = some bd) := by
  have hj : ∀ i, isJump (opL c l i) → argL c l i = nL c l i := fun i h => (vArg_jmp c (atL l i) (by rcases h with h | h; exact .inl h; exact .inr (.inl h))).1
  have hgo : stk (opL c l) l.length = some [] → refGo (opL c l) (argL c l) (toL (atL l) (opL c l) (nL c l) l.length) l.length l.length 0 H0 L0 = refGo (opL c l) (nL c l) (toL (atL l) (opL c l) (nL c l) l.length) l.length l.length 0 H0 L0 := fun hst =>
    refGo_congr (fun i hi h20 => by
      obtain ⟨f, h1, _, h3⟩ := for_of hst hi h20
      have e : toL (atL l) (opL c l) (nL c l) l.length i = f := by unfold toL; rw [if_pos h20, h1]; omega
      rw [e]
      exact (vArg_jmp c (atL l f) (.inr (.inr h3))).1) _ _ _ _ (by omega)
  constructor
  · rintro ⟨h1, h2, h3, h4, h5⟩
    rw [← hgo h3] at h5
    obtain ⟨e1, _, e3, e4⟩ := refGo_ends _ _ _ _ _ _ _ _ _ (by omega) h5
    exact ⟨⟨fun i hi => (op_iff s c nC (atL l i)).2 (h2 i hi), ⟨e1, e3, fun j hj' => e4 j (by omega) hj'⟩, h3, fun i hi hx => by
      obtain ⟨t, ht⟩ := h4 i hi hx
      exact ⟨t, (jump_arg (hj i hx)).2 ht⟩⟩, h5⟩
  · rintro ⟨⟨h1, h2, h3, h4⟩, h5⟩
    rw [hgo h3] at h5
    refine ⟨fun e => by rw [e] at h2; exact absurd h2.1 (by simp), fun i hi => (op_iff s c nC (atL l i)).1 (h1 i hi), h3, fun i hi hx => ?_, h5⟩
    obtain ⟨t, ht⟩ := h4 i hi hx
    exact ⟨t, (jump_arg (hj i hx)).1 ht⟩
set_option maxRecDepth 100000 in
set_option maxHeartbeats 2000000 in
theorem load_any (w : World) (s : ByteArray) (hs : s.size ≤ maxLen) (R : Ending → World → Prop)
    (bad : (∀ bd, ¬ imgOk s bd) → ∀ w', Below w.heap.size w w' → R (.returned (.tuple #[.pointer none, .int .i64 1])) w')
    (long : ∀ bd, imgOk s bd → 200000 < bd → ∀ w', Below w.heap.size w w' → R (.returned (.tuple #[.pointer none, .int .i64 2])) w')
    (good : ∀ bd, imgOk s bd → bd ≤ 200000 → ∀ w' bx, Below w.heap.size w w' → w.heap.size ≤ bx → w'.cell? ⟨bx, 2, none⟩ = some (.int .i64 bd) → R (.returned (.tuple #[.pointer (some ⟨bx, 0, none⟩), .int .i64 0])) w') :
    Calls Tryz.prog 20 #[.string s] w R := by
  replace bad := hd bad
  replace long := hd long
  replace good := hd good
  go_enter Tryz.func20, Tryz.ntmps20
  go_wp2_with (fail)
  refine readImage_any _ _ hs _ ?_ ?_
  · intro hno a n c a' n' c' w1 hb1
    have hb1s := hb1.size
    replace hno := hd hno
    replace hb1 := hd hb1
    go_wp2
    exact cl1 (bad.out hno.out _ (hb1.out.alloc hb1s _)) rfl
  · intro hh hsr hsz l hl bc v w1 hb1 hbc htab hown hlt
    have hii := hd (fun bd => (img_iff (bd := bd) hh hsr hsz hl).trans (code_iff s (codeOf s) (bt s 6) l bd))
    obtain ⟨p1, p2, p3⟩ := posF_facts _ _ _ _ hl
    have h100 := hh.2.2.1
    have hlen : l.length ≤ 8000 := by
      have := hsz.1
      have := hsz.2
      have e : (codeOf s).size = s.size - (9 + bt s 6) := by unfold codeOf; rw [ByteArray.size_extract]; omega
      omega
    obtain ⟨sa, cap, rfl⟩ := own_sl hown
    have hb1s := hb1.size
    have hsteps : 0 < l.length → ∃ bs, w.heap.size ≤ bs ∧ sa = some ⟨bs, 0, none⟩ ∧ Tab w1 bs 254 6 l.length cap (stepA (opL (codeOf s) l) (atL l) (argL (codeOf s) l) (cntL (codeOf s) l) (fun _ => 0) (fun _ => 0)) := fun h0 => by
      obtain ⟨b, cap', e, hb, ht⟩ := own_tab hown h0 (fun i hi f hf => flat_st (codeOf s) l i f hi hf)
      injection e with e1 e2 e3
      subst e3
      exact ⟨b, hb, e1, ht⟩
    obtain ⟨bs, hbs, hsa⟩ : ∃ bs, w.heap.size ≤ bs ∧ (0 < l.length → sa = some ⟨bs, 0, none⟩ ∧ Tab w1 bs 254 6 l.length cap (stepA (opL (codeOf s) l) (atL l) (argL (codeOf s) l) (cntL (codeOf s) l) (fun _ => 0) (fun _ => 0))) := by
      rcases Nat.eq_zero_or_pos l.length with h0 | h0
      · exact ⟨w.heap.size, Nat.le_refl _, fun h => by omega⟩
      · obtain ⟨bs, a, b, c⟩ := hsteps h0
        exact ⟨bs, a, fun _ => ⟨b, c⟩⟩
    clear hsteps
    have hbsl : 0 < l.length → bs < w1.heap.size := fun h => (hsa h).2.lt
    replace hbsl := hd hbsl
    replace hsa := hd hsa
    replace htab := hd htab
    replace hown := hd hown
    replace hb1 := hd hb1
    replace p2 := hd p2
    replace p3 := hd p3
    replace hl := hd hl
    replace hh := hd hh
    replace hsr := hd hsr
    replace hsz := hd hsz
    generalize hnC : bt s 6 = nC at *
    replace hnC := hd hnC
    go_wp2_with (fail)
    refine settle_any _ bc nC nC bs l.length cap _ _ sa (opL (codeOf s) l) (atL l) (argL (codeOf s) l) (cntL (codeOf s) l) _ _ h100 hlen p3.out (fun i hi h => (vArg_bd _ _ h).2) (fun i hi h => (vCnt_bd _ _ h).2) (htab.out.alloc _) (fun h => ⟨(hsa.out h).1, (hsa.out h).2.alloc _⟩) _ ?_ ?_
    · intro hno w2 ho2
      have hbad := hd (show ∀ bd, ¬ imgOk s bd from fun bd h => hno ((hii.out bd).1 h).1)
      have hbel2 := hd ((hb1.out.alloc hb1s _).trans (ho2.below hbs (by simp; omega)))
      clear hno ho2
      go_wp2
      exact cl1 (bad.out hbad.out _ hbel2.out) rfl
    · intro hok To' hTo w2 ho2 ht2
      have hn0 := hok.2.1.1
      have hsa0 := (hsa.out hn0).1
      subst hsa0
      have hbsl0 := hbsl.out hn0
      have hbel2 := (hb1.out.alloc hb1s (.cells #[.slice (some ⟨bc, 0, none⟩) nC nC, .slice (some ⟨bs, 0, none⟩) l.length cap] 115)).trans (ho2.below hbs (by simp; omega))
      have c0 : w2.cell? ⟨w1.heap.size, 0, none⟩ = some (.slice (some ⟨bc, 0, none⟩) nC nC) := (ho2.cell (p := ⟨w1.heap.size, 0, none⟩) (by simp) (by simp; omega)).trans ((cell_of_row _ _ 0 _ _ (0, 0) (heap_alloc_new w1 _)).trans rfl)
      have c1 : w2.cell? ⟨w1.heap.size, 1, none⟩ = some (.slice (some ⟨bs, 0, none⟩) l.length cap) := (ho2.cell (p := ⟨w1.heap.size, 1, none⟩) (by simp) (by simp; omega)).trans ((cell_of_row _ _ 1 _ _ (0, 0) (heap_alloc_new w1 _)).trans rfl)
      have hlt2 : w1.heap.size < w2.heap.size := by have := ho2.size; simp at this; omega
      have hbs2 := hbel2.size
      have hgo := hd (fun bd => (hii.out bd).trans (show (SetOk _ _ nC l.length (opL (codeOf s) l) (atL l) (argL (codeOf s) l) (cntL (codeOf s) l) ∧ _) ↔ _ from ⟨fun h => h.2, fun h => ⟨hok, h⟩⟩))
      replace hbel2 := hd hbel2
      replace ho2 := hd ho2
      replace hTo := hd hTo
      replace ht2 := hd ht2
      replace hok := hd hok
      have q1 : ∀ i, i < l.length → opL (codeOf s) l i < 22 := fun i hi => osz_lt (p2.out i hi).2.2
      have q2 : ∀ i, i < l.length → opL (codeOf s) l i = 19 → 1 ≤ argL (codeOf s) l i ∧ argL (codeOf s) l i ≤ 65535 := fun i hi h => by
        have a1 := (hok.out.1 i hi).2.2.2.2 h
        have a2 := (vArg_jmp (codeOf s) (atL l i) (.inr (.inr h))).2.2
        exact ⟨a1, a2⟩
      have q3 : ∀ i, i < l.length → (opL (codeOf s) l i = 17 ∨ opL (codeOf s) l i = 18) → To' i = (toL (atL l) (opL (codeOf s) l) (nL (codeOf s) l) l.length i : Int) ∧ i < toL (atL l) (opL (codeOf s) l) (nL (codeOf s) l) l.length i ∧ toL (atL l) (opL (codeOf s) l) (nL (codeOf s) l) l.length i < l.length := fun i hi h => by
        obtain ⟨t, e, hJ⟩ := hTo.out i hi h
        have hne : opL (codeOf s) l i ≠ 20 := by rcases h with h | h <;> omega
        have ea : argL (codeOf s) l i = nL (codeOf s) l i := (vArg_jmp (codeOf s) (atL l i) (by rcases h with h | h; exact .inl h; exact .inr (.inl h))).1
        have hJ' : JumpOk (atL l) (opL (codeOf s) l) (nL (codeOf s) l) l.length i t := (jump_arg ea).1 hJ
        have et : toL (atL l) (opL (codeOf s) l) (nL (codeOf s) l) l.length i = t := by unfold toL; rw [if_neg hne]; exact tgt_eq hJ'
        rw [et]
        exact ⟨e, hJ.2.1, hJ.2.2.1⟩
      have q4 : ∀ i, i < l.length → opL (codeOf s) l i = 20 → inOf (opL (codeOf s) l) i = (toL (atL l) (opL (codeOf s) l) (nL (codeOf s) l) l.length i : Int) ∧ toL (atL l) (opL (codeOf s) l) (nL (codeOf s) l) l.length i < i ∧ opL (codeOf s) l (toL (atL l) (opL (codeOf s) l) (nL (codeOf s) l) l.length i) = 19 := fun i hi h => by
        obtain ⟨f, e1, e2, e3⟩ := for_of hok.out.2.2.1 hi h
        have et : toL (atL l) (opL (codeOf s) l) (nL (codeOf s) l) l.length i = f := by unfold toL; rw [if_pos h, e1]; omega
        rw [et]
        exact ⟨e1, e2, e3⟩
      have q5 := hok.out.2.1.2.1
      have q6 := hok.out.2.1.2.2
      generalize toL (atL l) (opL (codeOf s) l) (nL (codeOf s) l) l.length = TT at *
      generalize opL (codeOf s) l = OP at *
      generalize argL (codeOf s) l = AR at *
      generalize cntL (codeOf s) l = CN at *
      generalize atL l = AT at *
      replace q1 := hd q1
      replace q2 := hd q2
      replace q3 := hd q3
      replace q4 := hd q4
      replace q5 := hd q5
      replace q6 := hd q6
      go_wp2_with (fail)
      refine findBound_any _ bs l.length cap OP AT TT AR CN _ _ hlen hn0 ht2.out q1.out q5.out q6.out q3.out q4.out q2.out _ ?_ ?_
      · intro hX x w3 hb3
        have hbad := hd (show ∀ bd, ¬ imgOk s bd from fun bd h => by have := (hgo.out bd).1 h; rw [hX] at this; cases this)
        have hbel3 := hd (bel_step hbel2.out (Nat.le_refl _) hb3)
        clear hX hb3
        go_wp2
        exact cl1 (bad.out hbad.out _ hbel3.out) rfl
      · intro bd hX w3 hb3
        have himg := hd ((hgo.out bd).2 hX)
        have c30 := (hb3.cell (p := ⟨w1.heap.size, 0, none⟩) hlt2).trans c0
        have c31 := (hb3.cell (p := ⟨w1.heap.size, 1, none⟩) hlt2).trans c1
        have hbel3 := bel_step hbel2.out (Nat.le_refl _) hb3
        have hs3 := hbel3.size
        have hlt3 := Nat.lt_of_lt_of_le hlt2 hb3.size
        replace hbel3 := hd hbel3
        replace hb3 := hd hb3
        replace hX := hd hX
        by_cases hlong : 200000 < bd
        · have em : min bd 200001 = 200001 := by omega
          rw [em]
          go_wp2
          exact cl1 (long.out bd himg.out hlong _ hbel3.out) rfl
        · have em : min bd 200001 = bd := by omega
          rw [em]
          have dl : decide ((200000 : Int) < bd) = false := by simpa using hlong
          go_wp2
          refine cl1 (good.out bd himg.out (by omega) _ w3.heap.size (hbel3.out.alloc hs3 _) hs3 ?_) rfl
          exact (cell_of_row _ _ 2 _ _ (0, 0) (heap_alloc_new w3 _)).trans rfl

end Go.Proofs.YtidhiaaicmfabaaGreatDoor
