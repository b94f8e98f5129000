/- The contract of findBound: the machine's walk from a heap gives the document's bound. -/
import Derived.Test.YtidhiaaicmfabaaGreatDoorMem
import Derived.Test.YtidhiaaicmfabaaGreatDoorSpec
import Derived.Test.YtidhiaaicmfabaaGreatDoorRefA
import Derived.Test.YtidhiaaicmfabaaGreatDoorRefC
import Derived.Test.YtidhiaaicmfabaaGreatDoorSpec2
import Derived.WalkKit
import Derived.WalkSpells
import Derived.WalkLawsBesides
import Derived.Deep.OwnRows
import Derived.BigQuiet
import Derived.Handy
import Derived.Deep.Light
import Derived.Deep.RegionHeld3
import Derived.Deep.RegionWith
import Derived.Laws.EntriesVeiled
import Derived.Test.YtidhiaaicmfabaaGreatDoorLibA
import Derived.Test.YtidhiaaicmfabaaGreatDoorLibG
import Derived.Test.YtidhiaaicmfabaaGreatDoorVmA
import Derived.Test.YtidhiaaicmfabaaGreatDoorVmB
import Derived.Test.YtidhiaaicmfabaaGreatDoorVmC
import Derived.Test.YtidhiaaicmfabaaGreatDoorVmD
import Derived.Test.YtidhiaaicmfabaaGreatDoorVmG
import Derived.Test.YtidhiaaicmfabaaGreatDoorVmH
import Derived.Test.YtidhiaaicmfabaaGreatDoorVmI
import Derived.Test.YtidhiaaicmfabaaGreatDoorSpec4
namespace Go.Proofs.YtidhiaaicmfabaaGreatDoor
open Go.RowKit Go.Proofs Go.Deep


theorem infoArr : (Tryz.prog.info? 267).map (fun i => (i.zero, i.size, i.bytes)) = some (some (.agg #[.bool false, .int .i64 0, .int .i64 0]), 3, 24) := by kernel_rfl
theorem ulArr : Tryz.prog.underlying 214 = some (.slice 267) := by kernel_rfl
theorem infoWalk : (Tryz.prog.info? 217).map (·.size) = some 114 := by kernel_rfl
def walkC (X Y : Value) (cs : Array Value) : Array Value := #[X] ++ cs ++ #[Y, .slice none 0 0, .int .i64 0]
theorem run_build_walk (a : Option Addr) (n c : Nat) (a' : Option Addr) (n' c' : Nat) (fv : Nat → Value) (w : World) : (Instr.build 217 #[(0, .slice a n c), (1, .agg (tabC fv)), (2, .slice a' n' c')]).run Tryz.prog w = .ok (.agg (walkC (.slice a n c) (.slice a' n' c') (tabC fv))) w := by
  kernel_rfl

def walkP (X : Value) (fv : Nat → Value) : Array Value := walkC X (.slice none 0 0) (tabC fv)
theorem tab_size (fv : Nat → Value) : (tabC fv).size = 110 := rfl
theorem walk_fold (X : Value) (fv : Nat → Value) : Array.foldl (fun (cs : Array Value) (x : Value × Nat) => cs.setIfInBounds (1 + x.snd) x.fst) (Tryz.zeroCells217.setIfInBounds 0 X) (tabC fv).zipIdx 0 110 = walkP X fv := by kernel_rfl
theorem walkP_size (X : Value) (fv : Nat → Value) : (walkP X fv).size = 114 := by kernel_rfl
theorem walkC_size (X Y : Value) (fv : Nat → Value) : (walkC X Y (tabC fv)).size = 114 := by kernel_rfl
theorem walk_set (X Y : Value) (fv : Nat → Value) : (walkP X fv).setIfInBounds 111 Y = walkC X Y (tabC fv) := by kernel_rfl
def wl (bs n cap : Nat) (a' : Option Addr) (n' c' : Nat) (fv : Nat → Value) : List Value := (walkC (.slice (some ⟨bs, 0, none⟩) n cap) (.slice a' n' c') (tabC fv)).toList
theorem walk_one (X Y : Value) (fv : Nat → Value) (hX : X.oneCell' = true) (hY : Y.oneCell' = true) (hf : ∀ i, i < 22 → ∃ g c, fv i = .func g #[] c) : (walkC X Y (tabC fv)).all (·.oneCell') = true := by
  have h := (tabC_ok fv hf).2.1
  unfold walkC
  simp only [Array.all_append, h]
  have e1 : ∀ a n c, (Value.slice a n c).oneCell' = true := fun _ _ _ => rfl
  have e2 : ∀ k x, (Value.int k x).oneCell' = true := fun _ _ => rfl
  simp [hX, hY, e1, e2]
theorem zero_size : (Tryz.zeroCells217).size = 114 := by kernel_rfl
section
variable (bs n cap : Nat) (fv : Nat → Value) (hf : ∀ i, i < 22 → ∃ g c, fv i = .func g #[] c)
include hf
theorem store_at {W : World} {g : Nat} (h : W.there g 0 114) (a' : Option Addr) (n' c' : Nat) :
    (storeCells ⟨g, 0, none⟩ (walkC (.slice (some ⟨bs, 0, none⟩) n cap) (.slice a' n' c') (tabC fv)).toList 0).run Tryz.prog W = .ok () (W.setCells g 0 (wl bs n cap a' n' c' fv)) := by
  have h1 := walk_one (.slice (some ⟨bs, 0, none⟩) n cap) (.slice a' n' c') fv rfl rfl hf
  have hs := run_storeVar_mid (P := Tryz.prog) W g 0 217 (walkC (.slice (some ⟨bs, 0, none⟩) n cap) (.slice a' n' c') (tabC fv)) (by rw [walkC_size]; exact h) (by rw [walkC_size]; exact infoWalk) h1
  have hi := infoWalk
  cases hq : Tryz.prog.info? 217 with
  | none => simp [hq] at hi
  | some i =>
    have hsz : i.size = 114 := by simpa [hq] using hi
    simpa [storeVar, sizeOf, typeInfo, hq, Value.cells, hsz, walkC_size, wl] using hs
end

theorem there_new (W : World) : (W.alloc (.cells Tryz.zeroCells217 217)).there W.heap.size 0 114 := there_of_block (heap_alloc_new _ _) zero_size
theorem there_below {w w' : World} {g n : Nat} (h : w.there g 0 n) (hg : g < w.heap.size) (hb : Below w.heap.size w w') : w'.there g 0 n := fun j hj => by
  rw [hb.cell (p := ⟨g, 0 + j, none⟩) hg, hb.frozen (p := ⟨g, 0 + j, none⟩) hg]; exact h j hj
theorem exec_build {P : Program} {a : Act} {o : Oper} {t : TypeId} {parts : Array (Nat × Operand)} {vs : Array (Nat × Value)} {v : Value} (ho : o.op = .build t parts) (hvs : parts.map (fun (i, x) => (i, a.eval x)) = vs)
    (hrun : ∀ w, (Instr.build t vs).run P w = .ok v w) (w : World) : (execOp a.eval o).run P w = .ok (.value v) w := by
  unfold execOp
  simp only [ho, hvs, Sem.run_bind, hrun, Result.andThen_ok, Sem.run_pure]
def ArrZ (_i f : Nat) : Value := if f = 0 then .bool false else if f = 1 then .int .i64 0 else .int .i64 0
def frame (bs n cap bw ba : Nat) (V7 V11 : Value) : Act := ⟨#[.slice (some ⟨bs, 0, none⟩) n cap, undef, .int .i64 0, .bool false, .pointer (some ⟨bw, 0, none⟩), undef, .slice (some ⟨bs, 0, none⟩) n cap, V7, .slice (some ⟨bs, 0, none⟩) n cap, .int .i64 (n : Int), .slice (some ⟨ba, 0, none⟩) n n,
  V11, undef, undef, undef, undef, undef, undef, undef, undef, undef, undef, undef, undef, undef, undef, undef, undef, undef, undef, undef], []⟩
/-- The world ahead of the walk's store. -/
def Pre (w : World) (n bw ba : Nat) (fv : Nat → Value) (X : World) : Prop := (∀ i, i < 22 → ∃ g c, fv i = .func g #[] c) ∧ Below w.heap.size w X ∧ X.heap[bw]? = some (.cells Tryz.zeroCells217 217 (0, 0)) ∧ w.heap.size ≤ bw ∧ w.heap.size ≤ ba ∧ bw ≠ ba ∧ bw < X.heap.size ∧ Tab X ba 267 3 n n ArrZ
def Mid (w : World) (bs n cap : Nat) (e : Exit) (a : Act) (w' : World) : Prop := e = .normal ∧ ∃ bw ba fv X V7 V11, Pre w n bw ba fv X ∧ a = frame bs n cap bw ba V7 V11 ∧ w' = X.setCells bw 0 (wl bs n cap (some ⟨ba, 0, none⟩) n n fv)
theorem tab_of_made {X : World} {ba T n : Nat} {z0 z1 z2 : Value} (h : X.heap[ba]? = some (.cells (madeCells #[z0, z1, z2] (n * 3)) T (0, 0))) : Tab X ba T 3 n n (fun _ f => if f = 0 then z0 else if f = 1 then z1 else z2) := by
  refine ⟨_, h, by simp [madeCells], Nat.le_refl _, fun i hi f hf => ?_⟩
  have h1 : i * 3 + f < n * 3 := by omega
  have h2 : (i * 3 + f) % 3 = f := by omega
  simp only [madeCells, Array.getElem?_map, Array.getElem?_range, h1, if_true, Option.map_some, List.size_toArray, List.length_cons, List.length_nil, Nat.zero_add, Nat.reduceAdd, h2]
  have hc : f = 0 ∨ f = 1 ∨ f = 2 := by omega
  rcases hc with rfl | rfl | rfl <;> rfl
theorem pre_gen {w X : World} {n bw ba : Nat} {fv : Nat → Value} (hfv : ∀ i, i < 22 → ∃ g c, fv i = .func g #[] c) (hb : Below w.heap.size w X) (h1 : X.heap[bw]? = some (.cells Tryz.zeroCells217 217 (0, 0)))
    (h2 : X.heap[ba]? = some (.cells (madeCells #[Value.bool false, .int .i64 0, .int .i64 0] (n * 3)) 267 (0, 0))) (hbw : w.heap.size ≤ bw) (hba : w.heap.size ≤ ba) (hne : bw ≠ ba) : Pre w n bw ba fv X :=
  ⟨hfv, hb, h1, hbw, hba, hne, blk_lt h1, tab_of_made h2⟩
theorem drew_below {w w2 : World} (h : Below w.drew.heap.size w.drew w2) : Below w.heap.size w w2 := ⟨h.os, h.tape, h.output, h.size, h.block⟩
theorem second_new (w : World) (o o' : Obj) : ((w.alloc o).alloc o').heap[w.heap.size + 1]? = some o' := new_second w o o'
theorem first_new (w : World) (o o' : Obj) : ((w.alloc o).alloc o').heap[w.heap.size]? = some o := new_first w o o'
theorem walk_at0 (X Y : Value) (fv : Nat → Value) : (walkC X Y (tabC fv))[0]? = some X := by kernel_rfl
theorem walk_at111 (X Y : Value) (fv : Nat → Value) : (walkC X Y (tabC fv))[111]? = some Y := by kernel_rfl
theorem walk_at112 (X Y : Value) (fv : Nat → Value) : (walkC X Y (tabC fv))[112]? = some (.slice none 0 0) := by kernel_rfl
theorem walk_at113 (X Y : Value) (fv : Nat → Value) : (walkC X Y (tabC fv))[113]? = some (.int .i64 0) := by kernel_rfl
theorem walk_row (X Y : Value) (fv : Nat → Value) (k : Nat) (hk : k < 110) : (walkC X Y (tabC fv))[1 + k]? = (tabC fv)[k]? := by
  have hs := tab_size fv
  unfold walkC
  rw [Array.getElem?_append_left (by simp [hs]; omega), Array.getElem?_append_right (by simp)]
  simp
theorem heap_setCells_other (b : Nat) : ∀ (vs : List Value) (o : Nat) (w : World) (k : Nat), k ≠ b → (w.setCells b o vs).heap[k]? = w.heap[k]?
  | [], _, _, _, _ => rfl
  | v :: r, o, w, k, h => by rw [World.setCells, heap_setCells_other b r (o + 1) _ k h]; exact Below.heap_setCell _ _ _ _ h
theorem WS.start {w X : World} {bs n cap bw ba : Nat} {fv : Nat → Value} (hp : Pre w n bw ba fv X) :
    ∃ nm fv', (∀ o, o < 22 → ∃ g c, fv' o = .func g #[] c) ∧ WS w w.heap.size bw ba bs X.heap.size n cap nm fv' (fun _ => -1) (fun _ => 0) 0 0 (fun _ => 0) 0 (X.setCells bw 0 (wl bs n cap (some ⟨ba, 0, none⟩) n n fv)) := by
  obtain ⟨hfv, hb, hz, hbw, hba, hne, hlt, htab⟩ := hp
  have hth := there_of_block hz zero_size
  obtain ⟨_, _, nm, fv', hrow⟩ := tabC_ok fv hfv
  have hlen : (wl bs n cap (some ⟨ba, 0, none⟩) n n fv).length = 114 := by unfold wl; rw [Array.length_toList, walkC_size]
  have hr := World.rangeAt_setCells_same X bw 0 (wl bs n cap (some ⟨ba, 0, none⟩) n n fv) (by rw [hlen]; exact hth)
  have hcell : ∀ j v, (walkC (.slice (some ⟨bs, 0, none⟩) n cap) (.slice (some ⟨ba, 0, none⟩) n n) (tabC fv))[j]? = some v → (X.setCells bw 0 (wl bs n cap (some ⟨ba, 0, none⟩) n n fv)).cell? ⟨bw, j, none⟩ = some v := fun j v hv => by
    have := hr j v (by unfold wl; rw [Array.getElem?_toList]; exact hv)
    rwa [Nat.zero_add] at this
  have hfz : ∀ o, (X.setCells bw 0 (wl bs n cap (some ⟨ba, 0, none⟩) n n fv)).frozen? ⟨bw, o, none⟩ = false := fun o => by
    rw [World.frozen?_setCells]
    simp [World.frozen?, hz]
  refine ⟨nm, fv', fun o ho => (hrow o ho).2.2.2.2.2, below_setCells hbw _ _ _ hb, by rw [size_setCells]; exact Nat.le_refl _, hcell 0 _ (walk_at0 _ _ _), fun o ho => ?_, hcell 111 _ (walk_at111 _ _ _), hcell 113 _ (walk_at113 _ _ _), hfz, ?_, ⟨_, hcell 112 _ (walk_at112 _ _ _), World.ownsRow_nil _ _ _ _⟩, ?_, ?_, ?_, ?_, ?_, ?_⟩
  · obtain ⟨g0, g1, g2, g3, g4, _⟩ := hrow o ho
    have e : ∀ f v, f < 5 → (tabC fv)[o * 5 + f]? = some v → (X.setCells bw 0 (wl bs n cap (some ⟨ba, 0, none⟩) n n fv)).cell? ⟨bw, 1 + o * 5 + f, none⟩ = some v := fun f v hf hv => by
      have := hcell (1 + (o * 5 + f)) v (by rw [walk_row _ _ _ _ (by omega)]; exact hv)
      rwa [← Nat.add_assoc] at this
    exact ⟨e 0 _ (by omega) g0, e 1 _ (by omega) g1, e 2 _ (by omega) g2, e 3 _ (by omega) g3, e 4 _ (by omega) g4⟩
  · refine (htab.of_block (heap_setCells_other bw _ _ _ ba (Ne.symm hne))).congr (fun i _ f hf => ?_)
    have hc : f = 0 ∨ f = 1 ∨ f = 2 := by omega
    rcases hc with rfl | rfl | rfl <;> rfl
  · intro i h0 hi; omega
  · intro i j hi; omega
  · intro x
    constructor
    · rintro ⟨k, hk, _⟩; omega
    · rintro ⟨j, _, _, _, h⟩; omega
  · intro j; omega
  · intro j; omega
  · intro j _; rfl
set_option maxRecDepth 100000 in
set_option maxHeartbeats 4000000 in
theorem findBound_any (w : World) (bs n cap : Nat) (op at_ To : Nat → Nat) (arg cnt lp to_ : Nat → Int) (hn : n ≤ 8000) (hn0 : 0 < n) (hts : Tab w bs 254 6 n cap (stepA op at_ arg cnt lp to_))
    (hop : ∀ i, i < n → op i < 22) (hend : op (n - 1) = 0) (hend2 : ∀ j, j + 1 < n → op j ≠ 0)
    (hJ : ∀ i, i < n → (op i = 17 ∨ op i = 18) → to_ i = (To i : Int) ∧ i < To i ∧ To i < n) (hF : ∀ i, i < n → op i = 20 → lp i = (To i : Int) ∧ To i < i ∧ op (To i) = 19)
    (hN : ∀ i, i < n → op i = 19 → 1 ≤ arg i ∧ arg i ≤ 65535) (R : Ending → World → Prop)
    (no : refGo op arg To n n 0 H0 L0 = none → ∀ x w', Below w.heap.size w w' → R (.returned (.tuple #[.int .i64 x, .bool false])) w')
    (yes : ∀ bd, refGo op arg To n n 0 H0 L0 = some bd → ∀ w', Below w.heap.size w w' → R (.returned (.tuple #[.int .i64 (min bd 200001), .bool true])) w') :
    Calls Tryz.prog 58 #[.slice (some ⟨bs, 0, none⟩) n cap] w R := by
  replace no := hd no
  replace yes := hd yes
  replace hts := hd hts
  replace hop := hd hop
  replace hend := hd hend
  replace hend2 := hd hend2
  replace hJ := hd hJ
  replace hF := hd hF
  replace hN := hd hN
  have hmk := run_make_tab 214 267 _ _ _ ulArr infoArr n (by omega) (by omega)
  go_enter Tryz.func58, Tryz.ntmps58
  go_wp2_with (fail)
  refine Code.wp_mono (Q := Mid w bs n cap) ?_ ?_
  · clear hmk
    intro e a w' hmid
    unfold Mid at hmid
    obtain ⟨he, bw, ba, fv, X, V7, V11, hpre, ha, hw⟩ := hmid
    rw [he, ha, hw]
    clear he ha hw
    obtain ⟨nm, fv', hfv', hS⟩ := WS.start (bs := bs) (cap := cap) hpre
    have hc : WC w w.heap.size bw ba bs X.heap.size n cap op at_ arg cnt lp to_ := ⟨rfl, hpre.2.2.2.1, hpre.2.2.2.2.1, hpre.2.2.2.2.2.1, hpre.2.2.2.2.2.2.1, hpre.2.2.2.2.2.2.2.lt, hn, hts.out⟩
    generalize X.setCells bw 0 (wl bs n cap (some ⟨ba, 0, none⟩) n n fv) = w1 at hS ⊢
    generalize X.heap.size = base at hS hc
    unfold frame
    replace hfv' := hd hfv'
    clear hpre
    go_wp2_with (fail)
    refine come_any hc _ hS 0 _ _ _ rfl hn0 (Nat.le_refl _) (by decide) (by decide) _ ?_ ?_
    · intro hx
      exact absurd hx.1 (by decide)
    · intro _ w2 m2 A2 hS2
      replace hS := hd hS
      replace hS2 := hd hS2
      go_wp2
      go_loopw [5] (fun p wr => ∃ (pn lo m : Nat) (A H L : Nat → Int) (bd : Int), p = .int .i64 pn ∧ WS w w.heap.size bw ba bs base n cap nm fv' H L lo m A bd wr ∧ lo ≤ n ∧ pn ≤ lo ∧
          ((pn = lo ∧ lo < n ∧ Even op arg To n lo H L (refGo op arg To n n 0 H0 L0)) ∨ (pn < lo ∧ refGo op arg To n n 0 H0 L0 = none) ∨ (pn = n ∧ lo = n ∧ ∃ b, refGo op arg To n n 0 H0 L0 = some b ∧ bd = min b 200001))) (fun p _ => n - (intOf p).toNat)
      case atStart => exact ⟨0, 0, _, _, _, _, _, rfl, hS2.out, by omega, by omega, .inl ⟨rfl, hn0, Even.start op arg To n⟩⟩
      case round =>
        obtain ⟨pn, lo, m, A, H, L, bd, rfl, hWS, hlo, hpl, hph⟩ := hrel
        have hWS0 := hWS
        obtain ⟨v, hv, hown⟩ := hWS.wh
        obtain ⟨ao, cv, rfl⟩ := own_sl hown
        have hmn := hWS.le
        have cb := hWS.cb
        have hfr := hd hWS.fr
        replace hown := hd hown
        replace hph := hd hph
        by_cases hm : 0 < m
        · have dm : decide ((0 : Int) < (m : Int)) = true := by simp; omega
          have hta := assertInt
          replace hWS := hd hWS
          have hWS0 := hd hWS0
          go_wp2_with (first | (go_at_call 110; refine len_any _ _ _ _ _ ?_))
          refine wpop_any _ bw 112 base m A hm (by omega) hc.hw hWS0.out.sz (hWS0.out.fz 112) hWS0.out.wh hWS0.out.heap _ ?_
          intro A' w3 hK hwh' hheap' hS'
          obtain ⟨q, hq, hlq, hqn, hHq, hgap, hWS3⟩ := hWS0.out.pop hc hm hK hwh' hheap' hS'
          rw [hq]
          clear hK hwh' hheap' hS' hq
          have hopq := hop.out q hqn
          have hfr3 := hd hWS3.fr
          have hgap := hd hgap
          have hnot0 : op q ≠ 0 → q + 1 < n := fun h0 => by
            have : q ≠ n - 1 := fun e => h0 (by rw [e]; exact hend.out)
            omega
          have his0 : op q = 0 → q + 1 = n := fun h0 => by
            have : ¬ q + 1 < n := fun h' => hend2.out q h' h0
            omega
          have hEv := hd (show Even op arg To n lo H L (refGo op arg To n n 0 H0 L0) → q ≠ lo → refGo op arg To n n 0 H0 L0 = none from fun hE hne => hE.gap (hgap.out lo (Nat.le_refl _) (by omega)))
          have hFq : op q = 20 → lp q = (To q : Int) ∧ To q < n ∧ 1 ≤ arg (To q) ∧ arg (To q) ≤ 65535 := fun h20 => by
            obtain ⟨a1, a2, a3⟩ := hF.out q hqn h20
            exact ⟨a1, by omega, hN.out _ (by omega) a3⟩
          have hF20 : op q = 20 → To q < q ∧ op (To q) = 19 := fun h20 => (hF.out q hqn h20).2
          have hN1 : ∀ i, i < n → op i = 19 → 1 ≤ arg i := fun i hi h => (hN.out i hi h).1
          replace hnot0 := hd hnot0
          replace his0 := hd his0
          replace hFq := hd hFq
          replace hF20 := hd hF20
          replace hN1 := hd hN1
          have hWS3' := hd hWS3
          clear hWS3
          go_wp2_with (fail)
          refine pass_any hc _ hWS3'.out To To q hqn rfl hHq hopq (fun h0 _ => hnot0.out h0) (hfv'.out _ hopq) (fun h => hJ.out q hqn h) hFq.out _ ?_ ?_ ?_
          · intro hn1 hn2 w4 hb4
            replace hb4 := hd hb4
            have hX : refGo op arg To n n 0 H0 L0 = none := by
              rcases hph.out with ⟨_, hl, hE⟩ | ⟨_, hX⟩ | ⟨_, hl, _⟩
              · by_cases e : q = lo
                · subst e
                  by_cases h0 : op q = 0
                  · exact (hE.last (his0.out h0) h0).1 (hn2 h0)
                  · exact (hE.step hl h0 hHq hF20.out hN1.out).1 (hn1 h0)
                · exact hEv.out hE e
              · exact hX
              · omega
            replace hX := hd hX
            clear hn1 hn2
            go_wp2
            exact cl1 (no.out hX.out 0 _ hb4.out) rfl
          · intro h0 S hS w4 m4 A4 hW4
            replace hW4 := hd hW4
            have hph' : (pn + 1 = q + 1 ∧ q + 1 < n ∧ Even op arg To n (q + 1) S.1 S.2 (refGo op arg To n n 0 H0 L0)) ∨ (pn + 1 < q + 1 ∧ refGo op arg To n n 0 H0 L0 = none) := by
              rcases hph.out with ⟨e1, hl, hE⟩ | ⟨e1, hX⟩ | ⟨_, hl, _⟩
              · by_cases e : q = lo
                · subst e
                  exact .inl ⟨by omega, hnot0.out h0, (hE.step hl h0 hHq hF20.out hN1.out).2 S hS⟩
                · exact .inr ⟨by omega, hEv.out hE e⟩
              · exact .inr ⟨by omega, hX⟩
              · omega
            replace hph' := hd hph'
            replace hS := hd hS
            go_wp2
            refine ⟨⟨pn + 1, q + 1, m4, A4, S.1, S.2, bd, by go_num, hW4.out, by omega, by omega, ?_⟩, by simp [intOf]; omega⟩
            rcases hph'.out with h | h
            · exact .inl h
            · exact .inr (.inl h)
          · intro h0 hz w4 hW4
            replace hW4 := hd hW4
            have hph' : (pn + 1 < q + 1 ∧ refGo op arg To n n 0 H0 L0 = none) ∨ (pn + 1 = n ∧ q + 1 = n ∧ ∃ b, refGo op arg To n n 0 H0 L0 = some b ∧ vmD (L q) = min b 200001) := by
              have hq1 := his0.out h0
              rcases hph.out with ⟨e1, hl, hE⟩ | ⟨e1, hX⟩ | ⟨_, hl, _⟩
              · by_cases e : q = lo
                · subst e
                  exact .inr ⟨by omega, hq1, (hE.last hq1 h0).2 hz⟩
                · exact .inl ⟨by omega, hEv.out hE e⟩
              · exact .inl ⟨by omega, hX⟩
              · omega
            replace hph' := hd hph'
            replace h0 := hd h0
            replace hz := hd hz
            go_wp2
            refine ⟨⟨pn + 1, q + 1, _, _, H, L, vmD (L q), by go_num, hW4.out, by omega, by omega, ?_⟩, by simp [intOf]; omega⟩
            exact .inr hph'.out
        · have dm : decide ((0 : Int) < (m : Int)) = false := by simp; omega
          have hm0 : m = 0 := by omega
          replace hWS := hd hWS
          have hWS0 := hd hWS0
          go_wp2_with (first | (go_at_call 110; refine len_any _ _ _ _ _ ?_))
          rcases hph.out with ⟨e1, hl, hE⟩ | ⟨e1, hX⟩ | ⟨e1, hl, b, hX, hbd⟩
          · have hH : H lo < 0 := by
              rcases Int.lt_or_le (H lo) 0 with hx | hx
              · exact hx
              · obtain ⟨k, hk, _⟩ := (hWS0.out.mem (lo : Int)).2 ⟨lo, rfl, Nat.le_refl _, hl, hx⟩
                omega
            have e : ((pn : Int) == (n : Int)) = false := by simp; omega
            rw [e]
            exact cl1 (no.out (hE.gap hH) bd _ hfr.out) rfl
          · have e : ((pn : Int) == (n : Int)) = false := by simp; omega
            rw [e]
            exact cl1 (no.out hX bd _ hfr.out) rfl
          · have e : ((pn : Int) == (n : Int)) = true := by simp; omega
            rw [e, hbd]
            exact cl1 (yes.out b hX _ hfr.out) rfl
  · refine wp_region_any (by kernel_rfl) ?_
    change wpAny _ _ _ _ _ _ _ (World.drew _)
    refine wpAny_take (i := 0) (v := .slice (some ⟨bs, 0, none⟩) n cap) rfl (by kernel_rfl) (by kernel_rfl) (by kernel_rfl) (fun _ _ _ h => by cases h.1) (Or.inl ⟨by rfl, fun w => rfl⟩) ?_
    refine wpAny_take (i := 2) (v := .slice (some ⟨bs, 0, none⟩) n cap) rfl (by kernel_rfl) (by kernel_rfl) (by kernel_rfl) (fun _ _ _ h => by cases h.1) (Or.inl ⟨by rfl, fun w => rfl⟩) ?_
    refine wpAny_take (i := 3) (v := .int .i64 (n : Int)) rfl (by kernel_rfl) (by kernel_rfl) (by kernel_rfl) (fun _ _ _ h => by cases h.1) (Or.inl ⟨by rfl, fun w => ?_⟩) ?_
    · go_simp
    refine wpAny_ready (rs := [1, 4, 6]) (by kernel_rfl) (by simp) ?_
    refine AllReady.cons rfl (fun K hK => ?_) (AllReady.cons rfl (fun K hK => ?_) (AllReady.cons rfl (fun K hK => ?_) AllReady.nil))
    · go_simp
      refine table_fv _ _ ?_
      intro fv w2 hfv hb2
      replace hfv := hd hfv
      go_simp
      refine hK _ _ ?_
      clear hK K
      have hbw := drew_below hb2
      have hsz := hbw.size
      refine wpAny_ready (rs := [4, 6]) (by kernel_rfl) (by simp) ?_
      refine AllReady.cons rfl (fun K hK => ?_) (AllReady.cons rfl (fun K hK => ?_) AllReady.nil)
      · go_simp
        refine hK _ _ ?_
        clear hK K
        refine wpAny_take (i := 5) (v := .agg (walkC (.slice (some ⟨bs, 0, none⟩) n cap) (.slice (some ⟨w2.heap.size, 0, none⟩) n n) (tabC fv))) rfl (by kernel_rfl) (by kernel_rfl) (by kernel_rfl) (fun _ _ _ h => by cases h.1) (Or.inl ⟨by rfl, exec_build rfl (by simp [Act.eval]) (run_build_walk _ _ _ _ _ _ _)⟩) ?_
        generalize hV : Value.agg (walkC (.slice (some ⟨bs, 0, none⟩) n cap) (.slice (some ⟨w2.heap.size, 0, none⟩) n n) (tabC fv)) = V
        refine wpAny_ready (rs := [6]) (by kernel_rfl) (by simp) ?_
        refine AllReady.cons rfl (fun K hK => ?_) AllReady.nil
        go_simp
        refine hK _ _ ?_
        clear hK K
        have hpre : Pre w n (w2.heap.size + 1) (w2.heap.size) fv ((w2.alloc (.cells (madeCells #[Value.bool false, .int .i64 0, .int .i64 0] (n * 3)) 267)).alloc (.cells Tryz.zeroCells217 217)) := pre_gen hfv.out ((hbw.alloc hsz _).alloc (by simp; omega) _) (second_new w2 _ _) (first_new w2 _ _) (by omega) hsz (by omega)
        refine wpAny_ready (rs := [7]) (by kernel_rfl) (by simp) ?_
        refine AllReady.cons rfl (fun K hK => ?_) AllReady.nil
        rw [if_pos (by rfl)]
        refine wp_store_mid 217 _ _ rfl (w2.heap.size + 1) 0 (walkC (.slice (some ⟨bs, 0, none⟩) n cap) (.slice (some ⟨w2.heap.size, 0, none⟩) n n) (tabC fv)) rfl hV.symm (by rw [walkC_size]; exact there_of_block hpre.2.2.1 zero_size) (by rw [walkC_size]; exact infoWalk) (walk_one _ _ fv rfl rfl hfv.out) ?_
        refine hK _ _ ?_
        refine wpAny_done (by kernel_rfl) ?_ _
        exact ⟨rfl, _, _, fv, _, .agg (tabC fv), V, hpre, rfl, rfl⟩
      · go_simp
        refine hK _ _ ?_
        clear hK K
        refine wpAny_ready (rs := [4]) (by kernel_rfl) (by simp) ?_
        refine AllReady.cons rfl (fun K hK => ?_) AllReady.nil
        go_simp
        refine hK _ _ ?_
        clear hK K
        refine wpAny_take (i := 5) (v := .agg (walkC (.slice (some ⟨bs, 0, none⟩) n cap) (.slice (some ⟨w2.heap.size + 1, 0, none⟩) n n) (tabC fv))) rfl (by kernel_rfl) (by kernel_rfl) (by kernel_rfl) (fun _ _ _ h => by cases h.1) (Or.inl ⟨by rfl, exec_build rfl (by simp [Act.eval]) (run_build_walk _ _ _ _ _ _ _)⟩) ?_
        generalize hV : Value.agg (walkC (.slice (some ⟨bs, 0, none⟩) n cap) (.slice (some ⟨w2.heap.size + 1, 0, none⟩) n n) (tabC fv)) = V
        have hpre : Pre w n (w2.heap.size) (w2.heap.size + 1) fv ((w2.alloc (.cells Tryz.zeroCells217 217)).alloc (.cells (madeCells #[Value.bool false, .int .i64 0, .int .i64 0] (n * 3)) 267)) := pre_gen hfv.out ((hbw.alloc hsz _).alloc (by simp; omega) _) (first_new w2 _ _) (second_new w2 _ _) hsz (by omega) (by omega)
        refine wpAny_ready (rs := [7]) (by kernel_rfl) (by simp) ?_
        refine AllReady.cons rfl (fun K hK => ?_) AllReady.nil
        rw [if_pos (by rfl)]
        refine wp_store_mid 217 _ _ rfl (w2.heap.size) 0 (walkC (.slice (some ⟨bs, 0, none⟩) n cap) (.slice (some ⟨w2.heap.size + 1, 0, none⟩) n n) (tabC fv)) rfl hV.symm (by rw [walkC_size]; exact there_of_block hpre.2.2.1 zero_size) (by rw [walkC_size]; exact infoWalk) (walk_one _ _ fv rfl rfl hfv.out) ?_
        refine hK _ _ ?_
        refine wpAny_done (by kernel_rfl) ?_ _
        exact ⟨rfl, _, _, fv, _, .agg (tabC fv), V, hpre, rfl, rfl⟩
    · go_simp
      refine hK _ _ ?_
      clear hK K
      refine wpAny_ready (rs := [1, 6]) (by kernel_rfl) (by simp) ?_
      refine AllReady.cons rfl (fun K hK => ?_) (AllReady.cons rfl (fun K hK => ?_) AllReady.nil)
      · go_simp
        refine table_fv _ _ ?_
        intro fv w2 hfv hb2
        replace hfv := hd hfv
        go_simp
        refine hK _ _ ?_
        clear hK K
        have hbw := (bel_step (show Below w.heap.size w (w.alloc (.cells (madeCells #[Value.bool false, .int .i64 0, .int .i64 0] (n * 3)) 267)).drew from (Below.alloc (Below.refl _ _) (Nat.le_refl _) _).drew) (Nat.le_refl _) hb2)
        have hsz := hbw.size
        have hm : w2.heap[w.heap.size]? = _ := (hb2.block w.heap.size (by simp)).trans (new_drew w _)
        have hlt := blk_lt hm
        refine wpAny_take (i := 5) (v := .agg (walkC (.slice (some ⟨bs, 0, none⟩) n cap) (.slice (some ⟨w.heap.size, 0, none⟩) n n) (tabC fv))) rfl (by kernel_rfl) (by kernel_rfl) (by kernel_rfl) (fun _ _ _ h => by cases h.1) (Or.inl ⟨by rfl, exec_build rfl (by simp [Act.eval]) (run_build_walk _ _ _ _ _ _ _)⟩) ?_
        generalize hV : Value.agg (walkC (.slice (some ⟨bs, 0, none⟩) n cap) (.slice (some ⟨w.heap.size, 0, none⟩) n n) (tabC fv)) = V
        refine wpAny_ready (rs := [6]) (by kernel_rfl) (by simp) ?_
        refine AllReady.cons rfl (fun K hK => ?_) AllReady.nil
        go_simp
        refine hK _ _ ?_
        clear hK K
        have hpre : Pre w n (w2.heap.size) (w.heap.size) fv (w2.alloc (.cells Tryz.zeroCells217 217)) := pre_gen hfv.out (hbw.alloc hsz _) (heap_alloc_new w2 _) ((Below.heap_alloc w2 _ _ hlt).trans hm) hsz (Nat.le_refl _) (by omega)
        refine wpAny_ready (rs := [7]) (by kernel_rfl) (by simp) ?_
        refine AllReady.cons rfl (fun K hK => ?_) AllReady.nil
        rw [if_pos (by rfl)]
        refine wp_store_mid 217 _ _ rfl (w2.heap.size) 0 (walkC (.slice (some ⟨bs, 0, none⟩) n cap) (.slice (some ⟨w.heap.size, 0, none⟩) n n) (tabC fv)) rfl hV.symm (by rw [walkC_size]; exact there_of_block hpre.2.2.1 zero_size) (by rw [walkC_size]; exact infoWalk) (walk_one _ _ fv rfl rfl hfv.out) ?_
        refine hK _ _ ?_
        refine wpAny_done (by kernel_rfl) ?_ _
        exact ⟨rfl, _, _, fv, _, .agg (tabC fv), V, hpre, rfl, rfl⟩
      · go_simp
        refine hK _ _ ?_
        clear hK K
        refine wpAny_ready (rs := [1]) (by kernel_rfl) (by simp) ?_
        refine AllReady.cons rfl (fun K hK => ?_) AllReady.nil
        go_simp
        refine table_fv _ _ ?_
        intro fv w2 hfv hb2
        replace hfv := hd hfv
        go_simp
        refine hK _ _ ?_
        clear hK K
        have hbw := (bel_step (below_two w (.cells (madeCells #[Value.bool false, .int .i64 0, .int .i64 0] (n * 3)) 267) (.cells Tryz.zeroCells217 217)) (Nat.le_refl _) hb2)
        have hsz := hbw.size
        have hm : w2.heap[w.heap.size]? = _ := (hb2.block w.heap.size (by simp; omega)).trans (new_first w _ _)
        have hz : w2.heap[w.heap.size + 1]? = _ := (hb2.block (w.heap.size + 1) (by simp)).trans (new_second w _ _)
        refine wpAny_take (i := 5) (v := .agg (walkC (.slice (some ⟨bs, 0, none⟩) n cap) (.slice (some ⟨w.heap.size, 0, none⟩) n n) (tabC fv))) rfl (by kernel_rfl) (by kernel_rfl) (by kernel_rfl) (fun _ _ _ h => by cases h.1) (Or.inl ⟨by rfl, exec_build rfl (by simp [Act.eval]) (run_build_walk _ _ _ _ _ _ _)⟩) ?_
        generalize hV : Value.agg (walkC (.slice (some ⟨bs, 0, none⟩) n cap) (.slice (some ⟨w.heap.size, 0, none⟩) n n) (tabC fv)) = V
        have hpre : Pre w n (w.heap.size + 1) (w.heap.size) fv (w2) := pre_gen hfv.out hbw hz hm (by omega) (Nat.le_refl _) (by omega)
        refine wpAny_ready (rs := [7]) (by kernel_rfl) (by simp) ?_
        refine AllReady.cons rfl (fun K hK => ?_) AllReady.nil
        rw [if_pos (by rfl)]
        refine wp_store_mid 217 _ _ rfl (w.heap.size + 1) 0 (walkC (.slice (some ⟨bs, 0, none⟩) n cap) (.slice (some ⟨w.heap.size, 0, none⟩) n n) (tabC fv)) rfl hV.symm (by rw [walkC_size]; exact there_of_block hpre.2.2.1 zero_size) (by rw [walkC_size]; exact infoWalk) (walk_one _ _ fv rfl rfl hfv.out) ?_
        refine hK _ _ ?_
        refine wpAny_done (by kernel_rfl) ?_ _
        exact ⟨rfl, _, _, fv, _, .agg (tabC fv), V, hpre, rfl, rfl⟩
    · go_simp
      refine hK _ _ ?_
      clear hK K
      refine wpAny_ready (rs := [1, 4]) (by kernel_rfl) (by simp) ?_
      refine AllReady.cons rfl (fun K hK => ?_) (AllReady.cons rfl (fun K hK => ?_) AllReady.nil)
      · go_simp
        refine table_fv _ _ ?_
        intro fv w2 hfv hb2
        replace hfv := hd hfv
        go_simp
        refine hK _ _ ?_
        clear hK K
        have hbw := (bel_step (show Below w.heap.size w (w.alloc (.cells Tryz.zeroCells217 217)).drew from (Below.alloc (Below.refl _ _) (Nat.le_refl _) _).drew) (Nat.le_refl _) hb2)
        have hsz := hbw.size
        have hz : w2.heap[w.heap.size]? = _ := (hb2.block w.heap.size (by simp)).trans (new_drew w _)
        have hlt := blk_lt hz
        refine wpAny_ready (rs := [4]) (by kernel_rfl) (by simp) ?_
        refine AllReady.cons rfl (fun K hK => ?_) AllReady.nil
        go_simp
        refine hK _ _ ?_
        clear hK K
        refine wpAny_take (i := 5) (v := .agg (walkC (.slice (some ⟨bs, 0, none⟩) n cap) (.slice (some ⟨w2.heap.size, 0, none⟩) n n) (tabC fv))) rfl (by kernel_rfl) (by kernel_rfl) (by kernel_rfl) (fun _ _ _ h => by cases h.1) (Or.inl ⟨by rfl, exec_build rfl (by simp [Act.eval]) (run_build_walk _ _ _ _ _ _ _)⟩) ?_
        generalize hV : Value.agg (walkC (.slice (some ⟨bs, 0, none⟩) n cap) (.slice (some ⟨w2.heap.size, 0, none⟩) n n) (tabC fv)) = V
        have hpre : Pre w n (w.heap.size) (w2.heap.size) fv (w2.alloc (.cells (madeCells #[Value.bool false, .int .i64 0, .int .i64 0] (n * 3)) 267)) := pre_gen hfv.out (hbw.alloc hsz _) ((Below.heap_alloc w2 _ _ hlt).trans hz) (heap_alloc_new w2 _) (Nat.le_refl _) hsz (by omega)
        refine wpAny_ready (rs := [7]) (by kernel_rfl) (by simp) ?_
        refine AllReady.cons rfl (fun K hK => ?_) AllReady.nil
        rw [if_pos (by rfl)]
        refine wp_store_mid 217 _ _ rfl (w.heap.size) 0 (walkC (.slice (some ⟨bs, 0, none⟩) n cap) (.slice (some ⟨w2.heap.size, 0, none⟩) n n) (tabC fv)) rfl hV.symm (by rw [walkC_size]; exact there_of_block hpre.2.2.1 zero_size) (by rw [walkC_size]; exact infoWalk) (walk_one _ _ fv rfl rfl hfv.out) ?_
        refine hK _ _ ?_
        refine wpAny_done (by kernel_rfl) ?_ _
        exact ⟨rfl, _, _, fv, _, .agg (tabC fv), V, hpre, rfl, rfl⟩
      · go_simp
        refine hK _ _ ?_
        clear hK K
        refine wpAny_ready (rs := [1]) (by kernel_rfl) (by simp) ?_
        refine AllReady.cons rfl (fun K hK => ?_) AllReady.nil
        go_simp
        refine table_fv _ _ ?_
        intro fv w2 hfv hb2
        replace hfv := hd hfv
        go_simp
        refine hK _ _ ?_
        clear hK K
        have hbw := (bel_step (below_two w (.cells Tryz.zeroCells217 217) (.cells (madeCells #[Value.bool false, .int .i64 0, .int .i64 0] (n * 3)) 267)) (Nat.le_refl _) hb2)
        have hsz := hbw.size
        have hz : w2.heap[w.heap.size]? = _ := (hb2.block w.heap.size (by simp; omega)).trans (new_first w _ _)
        have hm : w2.heap[w.heap.size + 1]? = _ := (hb2.block (w.heap.size + 1) (by simp)).trans (new_second w _ _)
        refine wpAny_take (i := 5) (v := .agg (walkC (.slice (some ⟨bs, 0, none⟩) n cap) (.slice (some ⟨w.heap.size + 1, 0, none⟩) n n) (tabC fv))) rfl (by kernel_rfl) (by kernel_rfl) (by kernel_rfl) (fun _ _ _ h => by cases h.1) (Or.inl ⟨by rfl, exec_build rfl (by simp [Act.eval]) (run_build_walk _ _ _ _ _ _ _)⟩) ?_
        generalize hV : Value.agg (walkC (.slice (some ⟨bs, 0, none⟩) n cap) (.slice (some ⟨w.heap.size + 1, 0, none⟩) n n) (tabC fv)) = V
        have hpre : Pre w n (w.heap.size) (w.heap.size + 1) fv (w2) := pre_gen hfv.out hbw hz hm (Nat.le_refl _) (by omega) (by omega)
        refine wpAny_ready (rs := [7]) (by kernel_rfl) (by simp) ?_
        refine AllReady.cons rfl (fun K hK => ?_) AllReady.nil
        rw [if_pos (by rfl)]
        refine wp_store_mid 217 _ _ rfl (w.heap.size) 0 (walkC (.slice (some ⟨bs, 0, none⟩) n cap) (.slice (some ⟨w.heap.size + 1, 0, none⟩) n n) (tabC fv)) rfl hV.symm (by rw [walkC_size]; exact there_of_block hpre.2.2.1 zero_size) (by rw [walkC_size]; exact infoWalk) (walk_one _ _ fv rfl rfl hfv.out) ?_
        refine hK _ _ ?_
        refine wpAny_done (by kernel_rfl) ?_ _
        exact ⟨rfl, _, _, fv, _, .agg (tabC fv), V, hpre, rfl, rfl⟩

end Go.Proofs.YtidhiaaicmfabaaGreatDoor
