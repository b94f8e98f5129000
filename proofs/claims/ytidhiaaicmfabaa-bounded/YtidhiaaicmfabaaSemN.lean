/- What a scan stands on. -/
import Derived.Test.YtidhiaaicmfabaaMem
import Derived.Test.YtidhiaaicmfabaaSpec
import Derived.Test.YtidhiaaicmfabaaRefA
import Derived.Test.YtidhiaaicmfabaaRefC
import Derived.Test.YtidhiaaicmfabaaSpec2
import Derived.WalkKit
import Derived.WalkSpells
import Derived.WalkLawsBesides
import Derived.Deep.OwnRows
import Derived.BigQuiet
import Derived.Handy
import Derived.Deep.Light
import Derived.Deep.RegionHeld3
import Derived.Deep.RegionWith
import Derived.Test.YtidhiaaicmfabaaSemM
import Derived.Test.YtidhiaaicmfabaaSemH
import Derived.Test.YtidhiaaicmfabaaVmJ
namespace Go.Proofs.Ytidhiaaicmfabaa
open Go.RowKit Go.Proofs Go.Deep

theorem infoRun : (Try.prog.info? 97).map (·.size) = some 118 := by kernel_rfl
def runC (X Y : Value) (d : Int) (fv : Nat → Value) : Array Value := tabC fv ++ #[X, Y, .int .i64 d, .slice none 0 0, .slice none 0 0, .int .i64 0, .int .i64 0, .bool false]
theorem run_build_run (a : Option Addr) (n c : Nat) (a' : Option Addr) (n' c' : Nat) (d : Int) (fv : Nat → Value) (w : World) : (Instr.build 97 #[(0, .agg (tabC fv)), (1, .slice a n c), (2, .slice a' n' c'), (3, .int .i64 d)]).run Try.prog w = .ok (.agg (runC (.slice a n c) (.slice a' n' c') d fv)) w := by
  kernel_rfl
theorem runC_size (X Y : Value) (d : Int) (fv : Nat → Value) : (runC X Y d fv).size = 118 := by kernel_rfl
theorem zeroRun_size : (Try.zeroCells97).size = 118 := by kernel_rfl
theorem runC_one (a : Option Addr) (n c : Nat) (a' : Option Addr) (n' c' : Nat) (d : Int) (fv : Nat → Value) (hf : ∀ i, i < 22 → ∃ g c, fv i = .func g #[] c) : (runC (.slice a n c) (.slice a' n' c') d fv).all (·.oneCell') = true := by
  have h := (tabC_ok fv hf).2.1
  unfold runC
  simp only [Array.all_append, h]
  have e1 : ∀ a n c, (Value.slice a n c).oneCell' = true := fun _ _ _ => rfl
  have e2 : ∀ k x, (Value.int k x).oneCell' = true := fun _ _ => rfl
  have e3 : ∀ x, (Value.bool x).oneCell' = true := fun _ => rfl
  simp [e1, e2, e3]
theorem wp_normal {P : Program} {c : Code} {Q : Exit → Act → World → Prop} {a : Act} {w : World} (h : c.wp P (fun e a' w' => e = .normal ∧ Q .normal a' w') a w) : c.wp P Q a w := wp_mono h (fun _ _ _ hq => hq.1 ▸ hq.2)
theorem stepH {P : Program} {md : Region.Mode} {ops : Array Oper} {Q : Exit → Act → World → Prop} {S : World → Prop} {fuel : Nat} {listed : Array Bool} {a : Act} {w : World} {i : Nat} {o : Oper} (ho : ops[i]? = some o)
    (h : ∀ K' : Act → World → Prop, (∀ a w, S w → wpAnyH P md ops Q S fuel (listed.setIfInBounds i true) a w → K' a w) → if Region.wanted o (yielded ops a.tmps) = true then Oper.wp P o a w K' Q else K' (a.put o.dst undef) w) :
    wpOp P ops Q i (fun a' w' => S w' ∧ wpAnyH P md ops Q S fuel (listed.setIfInBounds i true) a' w') a w := wpOp_step ho (fun K' hK => h K' (fun a w hs hw => hK a w ⟨hs, hw⟩))
def nmT (o : Nat) : ByteArray := [⟨#[69, 78, 68]⟩, ⟨#[78, 85, 77]⟩, ⟨#[71, 69, 84]⟩, ⟨#[83, 69, 84]⟩, ⟨#[71, 69, 84, 88]⟩, ⟨#[83, 69, 84, 88]⟩, ⟨#[65, 68, 68]⟩, ⟨#[83, 85, 66]⟩, ⟨#[77, 85, 76]⟩, ⟨#[68, 73, 86]⟩, ⟨#[77, 79, 68]⟩, ⟨#[69, 81]⟩, ⟨#[76, 84]⟩, ⟨#[78, 79, 84]⟩, ⟨#[65, 78, 68]⟩, ⟨#[79, 82]⟩, ⟨#[83, 72, 79, 82, 84]⟩, ⟨#[74, 85, 77, 80]⟩, ⟨#[85, 78, 76, 69, 83, 83]⟩, ⟨#[70, 79, 82]⟩, ⟨#[78, 69, 88, 84]⟩, (⟨#[84, 73, 77, 69, 82]⟩ : ByteArray)].getD o ⟨#[]⟩
theorem tab_rowF (fv : Nat → Value) : tabC fv = ((List.range 110).map (rowF nmT fv)).toArray := by kernel_rfl
theorem setCells_row {b T : Nat} : ∀ (vs : List Value) (o : Nat) (w : World) (c : Array Value), w.heap[b]? = some (.cells c T (0, 0)) → ∃ c', (w.setCells b o vs).heap[b]? = some (.cells c' T (0, 0)) ∧ c'.size = c.size
  | [], _, _, c, h => ⟨c, h, rfl⟩
  | v :: r, o, w, c, h => by
    rw [World.setCells]
    have h1 : (w.setCell ⟨b, o, none⟩ v).heap[b]? = some (.cells (c.setIfInBounds o v) T (0, 0)) := by simp [World.setCell, Array.getElem?_modify, h]
    obtain ⟨c', h2, h3⟩ := setCells_row r (o + 1) _ _ h1
    exact ⟨c', h2, by rw [h3]; simp⟩
theorem runC_at (X Y : Value) (d : Int) (fv : Nat → Value) (K : Rc) (hnm : K.nm = nmT) (hfv : K.fv = fv) (hd : K.delta = d) (hX : X = .slice (some ⟨K.bs, 0, none⟩) K.n K.cap) (hY : Y = .slice (some ⟨K.bc, 0, none⟩) K.nC K.nC) (i : Nat) (hi : i < 118) :
    (runC X Y d fv)[i]? = some (runF K (.slice none 0 0) (.slice none 0 0) 0 0 false i) := by
  unfold runC runF
  subst hX hY hd hfv
  by_cases h : i < 110
  · rw [if_pos h, Array.getElem?_append_left (by rw [tab_size]; exact h), tab_rowF, hnm]
    simp [h]
  · rw [if_neg h, Array.getElem?_append_right (by rw [tab_size]; omega), tab_size]
    have hc : i = 110 ∨ i = 111 ∨ i = 112 ∨ i = 113 ∨ i = 114 ∨ i = 115 ∨ i = 116 ∨ i = 117 := by omega
    rcases hc with rfl | rfl | rfl | rfl | rfl | rfl | rfl | rfl <;> rfl
theorem run_row {X : World} (K : Rc) (hnm : K.nm = nmT) (hz : X.heap[K.br]? = some (.cells Try.zeroCells97 97 (0, 0))) :
    (X.setCells K.br 0 (runC (.slice (some ⟨K.bs, 0, none⟩) K.n K.cap) (.slice (some ⟨K.bc, 0, none⟩) K.nC K.nC) K.delta K.fv).toList).rowIs K.br 97 118 (runF K (.slice none 0 0) (.slice none 0 0) 0 0 false) := by
  obtain ⟨c', h1, h2⟩ := setCells_row (runC (.slice (some ⟨K.bs, 0, none⟩) K.n K.cap) (.slice (some ⟨K.bc, 0, none⟩) K.nC K.nC) K.delta K.fv).toList 0 X _ hz
  refine ⟨c', h1, by rw [h2, zeroRun_size], fun i hi => ?_⟩
  have hnew := World.rangeAt_setCells_same X K.br 0 (runC (.slice (some ⟨K.bs, 0, none⟩) K.n K.cap) (.slice (some ⟨K.bc, 0, none⟩) K.nC K.nC) K.delta K.fv).toList (there_of_block hz (by rw [zeroRun_size]; simp [runC_size]))
  have h3 := runC_at _ _ _ _ K hnm rfl rfl rfl rfl i hi
  have h4 := hnew i _ (by rw [Array.getElem?_toList]; exact h3)
  rw [Nat.zero_add, cell_of_row _ _ i c' _ (0, 0) h1] at h4
  exact h4
/-- A scan's variable, made beside the table. -/
structure PreR (W : World) (br : Nat) (fv : Nat → Value) (X : World) : Prop where
  bel : Below W.heap.size W X
  zero : X.heap[br]? = some (.cells Try.zeroCells97 97 (0, 0))
  le : W.heap.size ≤ br
  fv : ∃ lo Y, FvAt lo Y fv ∧ W.heap.size ≤ lo ∧ ∀ k, lo ≤ k → k < Y.heap.size → X.heap[k]? = Y.heap[k]? ∧ k ≠ br ∧ k < X.heap.size
/-- A machine's data. -/
structure Md where
  n : Nat
  cap : Nat
  nC : Nat
  bs : Nat
  bx : Nat
  op : Nat → Nat
  at_ : Nat → Nat
  arg : Nat → Int
  cnt : Nat → Int
  lp : Nat → Int
  to_ : Nat → Int
  rl : Nat → Nat
  kd : Nat → Nat
  bd : Int
def machF (M : Md) (cv : Value) (dn fl : Int) (j : Nat) : Value := if j = 0 then cv else if j = 1 then .slice (some ⟨M.bs, 0, none⟩) M.n M.cap else if j = 2 then .int .i64 M.bd else if j = 3 then .int .i64 dn else .int .i64 fl
/-- A machine in memory that no error has ended. -/
structure Live (M : Md) (bc : Nat) (C : Nat → Int) (dn : Int) (w : World) : Prop where
  row : w.rowIs M.bx 53 5 (machF M (.slice (some ⟨bc, 0, none⟩) M.nC M.nC) dn 0)
  cel : Tab w bc 93 3 M.nC M.nC (cellV M.rl M.kd C)
  steps : Tab w M.bs 103 6 M.n M.cap (stepA M.op M.at_ M.arg M.cnt M.lp M.to_)
  hC : ∀ j, in32 (C j)
  n : M.n ≤ 8000
  nC : M.nC ≤ 100
def mkK (M : Md) (w0 : World) (br bc base : Nat) (nm : Nat → ByteArray) (fv : Nat → Value) (d : Int) : Rc := ⟨w0, br, M.bs, bc, base, M.n, M.cap, M.nC, M.op, M.at_, M.arg, M.cnt, M.lp, M.to_, M.rl, M.kd, nm, fv, d⟩
/-- A machine that an error has ended: its outputs are those of the last scan that was OK. -/
structure Dead (M : Md) (cv : Value) (C : Nat → Int) (dn e : Int) (w : World) : Prop where
  row : w.rowIs M.bx 53 5 (machF M cv dn e)
  cel : (∃ bc cap, cv = .slice (some ⟨bc, 0, none⟩) M.nC cap ∧ Tab w bc 93 3 M.nC cap (cellV M.rl M.kd C)) ∨ (M.nC = 0 ∧ ∃ ao cap, cv = .slice ao 0 cap)
  hC : ∀ j, in32 (C j)
  ne : e ≠ 0
def runM (M : Md) (w : World) (d : Int) (C : Nat → Int) : Sc × Int × Int := runK (mkK M w 0 0 0 nmT (fun _ => undef) d) 300000 ⟨C, [], 0, false⟩ [] 0
theorem runK_M (M : Md) (w0 w1 : World) (br br' bc bc' base base' : Nat) (nm nm' : Nat → ByteArray) (fv fv' : Nat → Value) (d : Int) : ∀ (f : Nat) (q : Sc) (S : List Int) (dn : Int), runK (mkK M w0 br bc base nm fv d) f q S dn = runK (mkK M w1 br' bc' base' nm' fv' d) f q S dn
  | 0, _, _, _ => rfl
  | f + 1, q, S, dn => by
    have e : stepK (mkK M w0 br bc base nm fv d) q S = stepK (mkK M w1 br' bc' base' nm' fv' d) q S := rfl
    simp only [runK]
    rw [e, runK_M M w0 w1 br br' bc bc' base base' nm nm' fv fv' d f]
theorem tab_ne {w : World} {b b' T T' z z' n n' c c' : Nat} {A A' : Nat → Nat → Value} (h : Tab w b T z n c A) (h' : Tab w b' T' z' n' c' A') (hT : T ≠ T') : b ≠ b' := by
  rintro rfl
  obtain ⟨cur, h1, _⟩ := h
  obtain ⟨cur', h2, _⟩ := h'
  rw [h1] at h2
  injection h2 with h2
  injection h2 with _ h3
  exact hT h3
theorem row_ne {w : World} {b b' T T' z' n n' c' : Nat} {f : Nat → Value} {A' : Nat → Nat → Value} (h : w.rowIs b T n f) (h' : Tab w b' T' z' n' c' A') (hT : T ≠ T') : b ≠ b' := by
  rintro rfl
  obtain ⟨cur, h1, _⟩ := h
  obtain ⟨cur', h2, _⟩ := h'
  rw [h1] at h2
  injection h2 with h2
  injection h2 with _ h3
  exact hT h3
theorem Live.below {M : Md} {bc : Nat} {C : Nat → Int} {dn : Int} {w w' : World} (h : Live M bc C dn w) (hb : Below w.heap.size w w') : Live M bc C dn w' :=
  ⟨h.row.of_block (hb.block _ h.row.lt), h.cel.of_block (hb.block _ h.cel.lt), h.steps.of_block (hb.block _ h.steps.lt), h.hC, h.n, h.nC⟩
/-- All that a scan stands on, when its variable is made. -/
theorem start_ok {M : Md} {bc : Nat} {C : Nat → Int} {dn0 : Int} {W X : World} {br : Nat} {fv : Nat → Value} {d : Int} (h : Live M bc C dn0 W) (hp : PreR W br fv X) (hd : 0 ≤ d ∧ d ≤ 1000000) :
    ∃ K : Rc, K = mkK M (X.setCells br 0 (runC (.slice (some ⟨M.bs, 0, none⟩) M.n M.cap) (.slice (some ⟨bc, 0, none⟩) M.nC M.nC) d fv).toList) br bc X.heap.size nmT fv d ∧
      RcOk K ∧ FvOk K ∧ RS K 0 ⟨C, [], 0, false⟩ [] (X.setCells br 0 (runC (.slice (some ⟨M.bs, 0, none⟩) M.n M.cap) (.slice (some ⟨bc, 0, none⟩) M.nC M.nC) d fv).toList) := by
  refine ⟨_, rfl, ?_⟩
  have hbr : br < X.heap.size := (Array.getElem?_eq_some_iff.1 hp.zero).1
  have hsz := hp.bel.size
  have hle := hp.le
  have lb := h.cel.lt
  have ls := h.steps.lt
  have hB : Below W.heap.size W (X.setCells br 0 (runC (.slice (some ⟨M.bs, 0, none⟩) M.n M.cap) (.slice (some ⟨bc, 0, none⟩) M.nC M.nC) d fv).toList) := below_setCells hp.le _ _ _ hp.bel
  have hL := h.below hB
  have hne := tab_ne h.steps h.cel (by decide)
  have hrow := run_row (mkK M (X.setCells br 0 (runC (.slice (some ⟨M.bs, 0, none⟩) M.n M.cap) (.slice (some ⟨bc, 0, none⟩) M.nC M.nC) d fv).toList) br bc X.heap.size nmT fv d) rfl hp.zero
  have hK : RcOk (mkK M (X.setCells br 0 (runC (.slice (some ⟨M.bs, 0, none⟩) M.n M.cap) (.slice (some ⟨bc, 0, none⟩) M.nC M.nC) d fv).toList) br bc X.heap.size nmT fv d) :=
    ⟨hbr, show M.bs < X.heap.size by omega, show bc < X.heap.size by omega, show br ≠ M.bs by omega, show br ≠ bc by omega, hne, show X.heap.size ≤ (X.setCells br 0 _).heap.size by rw [sizeSetCells]; exact Nat.le_refl _, h.n, h.nC, hd, hL.steps⟩
  obtain ⟨lo, Y, hat, hlo, hap⟩ := hp.fv
  refine ⟨hK, fv_ok hK hat (fun k hk hk2 => ?_), ⟨⟨.slice none 0 0, .slice none 0 0, ⟨⟨rfl, rfl, rfl, hK.size, fun _ _ _ _ => rfl⟩, hrow, hL.cel⟩, World.ownsRow_nil _ _ _ _, World.ownsRow_nil _ _ _ _⟩, h.hC, fun x hx => by cases hx⟩⟩
  obtain ⟨a1, a2, a3⟩ := hap k hk hk2
  exact ⟨(heap_setCells a2 _ _ _).trans a1, a3, a2, show k ≠ bc by omega⟩

end Go.Proofs.Ytidhiaaicmfabaa
