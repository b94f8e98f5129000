/- The lists of the caller. -/
import Derived.Test.YtidhiaaicmfabaaGreatMem
import Derived.Test.YtidhiaaicmfabaaGreatSpec
import Derived.Test.YtidhiaaicmfabaaGreatRefA
import Derived.Test.YtidhiaaicmfabaaGreatRefC
import Derived.Test.YtidhiaaicmfabaaGreatSpec2
import Derived.WalkKit
import Derived.WalkSpells
import Derived.WalkLawsBesides
import Derived.Deep.OwnRows
import Derived.BigQuiet
import Derived.Handy
import Derived.Deep.Light
import Derived.Deep.RegionHeld3
import Derived.Deep.RegionWith
import Derived.Test.YtidhiaaicmfabaaGreatJnB
import Derived.Test.YtidhiaaicmfabaaGreatJnA
import Derived.Test.YtidhiaaicmfabaaGreatRefF

/- still: the caller's lists read as they were written (seats .Z, .ZD alone). -/
namespace Go.Proofs.YtidhiaaicmfabaaGreat
open Go.RowKit Go.Proofs Go.Deep

def keptC (ks : List (Int × Value)) : List Value := ks.flatMap (fun p => [.int .i64 p.1, p.2])
def keptA (ks : List (Int × Value)) (i f : Nat) : Value := if f = 0 then .int .i64 (ks.getD i (0, undef)).1 else (ks.getD i (0, undef)).2
theorem keptC_at : ∀ (ks : List (Int × Value)) (i f : Nat), i < ks.length → f < 2 → (keptC ks)[i * 2 + f]? = some (keptA ks i f)
  | [], i, f, hi, _ => by simp at hi
  | p :: ks, 0, f, _, hf => by
    have : f = 0 ∨ f = 1 := by omega
    rcases this with rfl | rfl <;> simp [keptC, keptA]
  | p :: ks, i + 1, f, hi, hf => by
    have ih := keptC_at ks i f (by simpa using hi) hf
    have e : keptC (p :: ks) = .int .i64 p.1 :: p.2 :: keptC ks := by simp [keptC]
    have e2 : keptA (p :: ks) (i + 1) f = keptA ks i f := by simp [keptA]
    rw [e, e2, ← ih, show (i + 1) * 2 + f = i * 2 + f + 2 by omega]
    simp
theorem keptC_len (ks : List (Int × Value)) : (keptC ks).length = ks.length * 2 := by
  induction ks with
  | nil => rfl
  | cons p ks ih => have e : keptC (p :: ks) = .int .i64 p.1 :: p.2 :: keptC ks := by simp [keptC]
                    rw [e]; simp [ih]; omega
theorem keptC_app (ks ls : List (Int × Value)) : keptC (ks ++ ls) = keptC ks ++ keptC ls := by simp [keptC]
/-- The caller's lists, as they lie in memory. -/
structure Wa (B bw : Nat) (n : Int) (kv : Value) (ks : List (Int × Value)) (w : World) : Prop where
  lt : bw < B
  size : B ≤ w.heap.size
  row : w.rowIs bw 28 2 (fun j => if j = 0 then .int .i64 n else kv)
  own : w.ownsRow B 76 2 kv ks.length (keptC ks)
  mark : ∀ p ∈ ks, Mrk B w p.1 p.2 ∧ 0 ≤ p.1 ∧ p.1 ≤ n
theorem Wa.below {B bw : Nat} {n : Int} {kv : Value} {ks : List (Int × Value)} {w w' : World} (h : Wa B bw n kv ks w) (hb : Below w.heap.size w w') : Wa B bw n kv ks w' :=
  ⟨h.lt, Nat.le_trans h.size hb.size, h.row.of_block (hb.block _ h.row.lt), own_below h.own hb, fun p hp => ⟨(h.mark p hp).1.keep (fun g _ _ e => hb.block g (Array.getElem?_eq_some_iff.1 e).1), (h.mark p hp).2⟩⟩
set_option maxRecDepth 100000 in
set_option maxHeartbeats 1000000 in
theorem still_any (w : World) {B bw : Nat} {n : Int} {kv : Value} {ks : List (Int × Value)} (h : Wa B bw n kv ks w) (hn : n ≤ 1000000000000000) (hks : ks.length ≤ 1000000000000000) (R : Ending → World → Prop) (fin : ∀ w', Below w.heap.size w w' → R (.returned (.bool true)) w') :
    Calls Tryz.prog 9 #[.pointer (some ⟨bw, 0, none⟩)] w R := by
  have c1 : w.cell? ⟨bw, 1, none⟩ = some kv := h.row.cell (i := 1) (by omega)
  have lw := h.row.lt
  obtain ⟨ao, cp, rfl⟩ := own_sl h.own
  replace h := hd h
  replace fin := hd fin
  go_enter Tryz.func9, Tryz.ntmps9
  go_wp2
  go_loopw [3] (fun i wr => ∃ k : Nat, k ≤ ks.length ∧ i = .int .i64 k ∧ Below w.heap.size w wr) (fun i _ => ks.length - (intOf i).toNat)
  case atStart => exact ⟨0, by omega, rfl, Below.refl _ _⟩
  case round =>
    obtain ⟨k, hk, rfl, hbel⟩ := hrel
    rename World => wo
    have c1' : wo.cell? ⟨bw, 1, none⟩ = some (.slice ao ks.length cp) := (hbel.cell (p := ⟨bw, 1, none⟩) lw).trans c1
    have hwr := hbel.size
    by_cases hlt : k < ks.length
    · obtain ⟨b, cap, e, hb, htab⟩ := own_tab h.out.own (by omega) (fun i hi f hf => keptC_at ks i f hi hf)
      injection e with e1 e2 e3
      subst e1 e3
      have htr := htab.of_block (w' := wo) (hbel.block b htab.lt)
      have k0 := htr.cell0 hlt (by omega)
      have k1 := htr.cell hlt (f := 1) (by omega)
      have hbk := htr.lt
      rw [show keptA ks k 0 = .int .i64 (ks.getD k (0, undef)).1 from rfl] at k0
      rw [show keptA ks k 1 = (ks.getD k (0, undef)).2 from rfl] at k1
      have hmem : ks.getD k (0, undef) ∈ ks := by rw [List.getD_eq_getElem?_getD, List.getElem?_eq_getElem hlt]; exact List.getElem_mem hlt
      obtain ⟨hmk, hp0, hp1⟩ := h.out.mark _ hmem
      generalize hp : ks.getD k (0, undef) = p at *
      obtain ⟨m, v⟩ := p
      obtain ⟨ao2, len, cap2, rfl, hlen, hcm, hcs⟩ := hmk
      simp only at k0 k1 hp0 hp1
      unfold maxLen at hcm
      have j0 : (0 : Int) ≤ (k : Int) ∧ (k : Int) < (ks.length : Int) := by omega
      have jm : wrap64 (-m) = -m := IntWalk.wrap64_in _ (by omega)
      have hcells : 0 < len → ∃ g, ao2 = some ⟨g, 0, none⟩ ∧ g < w.heap.size ∧ ∀ j, j < len → w.cell? ⟨g, j, none⟩ = some (.int .i64 (-m)) := fun h0 => by
        rcases hcs with hcs | ⟨g, cur, e, _, hg, hj⟩
        · omega
        · refine ⟨g, e, (Array.getElem?_eq_some_iff.1 hg).1, fun j hj' => ?_⟩
          rw [cell_of_row w g j cur _ (0, 0) hg]; exact hj j hj'
      clear hcs htr htab
      replace hcells := hd hcells
      replace hbel := hd hbel
      go_wp2
      go_loopw [5] (fun i wr2 => ∃ t : Nat, t ≤ len ∧ i = .int .i64 t ∧ Below wo.heap.size wo wr2 ∧ wr2.cell? ⟨wo.heap.size, 0, none⟩ = some (.int .i64 m) ∧ wr2.cell? ⟨wo.heap.size, 1, none⟩ = some (.slice ao2 len cap2)) (fun i _ => len - (intOf i).toNat)
      case atStart =>
        refine ⟨0, by omega, rfl, (Below.refl _ _).alloc (Nat.le_refl _) _, ?_, ?_⟩
        · exact (cell_of_row _ _ 0 _ _ (0, 0) (heap_alloc_new wo _)).trans rfl
        · exact (cell_of_row _ _ 1 _ _ (0, 0) (heap_alloc_new wo _)).trans rfl
      case round =>
        obtain ⟨t, ht, rfl, hb2, q0, q1⟩ := hrel
        have lq := World.block_lt_of_cell? _ _ q0
        by_cases htl : t < len
        · obtain ⟨g, rfl, hgl, hgc⟩ := hcells.out (by omega)
          have gc := hgc t htl
          have gc2 : wr.cell? ⟨g, t, none⟩ = some (.int .i64 (-m)) := (hb2.cell (p := ⟨g, t, none⟩) (Nat.lt_of_lt_of_le hgl hwr)).trans ((hbel.out.cell (p := ⟨g, t, none⟩) hgl).trans gc)
          have lg := World.block_lt_of_cell? _ _ gc2
          have jt : (0 : Int) ≤ (t : Int) ∧ (t : Int) < (len : Int) := by omega
          replace hb2 := hd hb2
          clear hgc gc
          go_wp2_with (fail)
          go_region
          go_wp2
          exact ⟨⟨t + 1, by omega, by go_num, hb2.out.drew, q0, q1⟩, by simp [intOf]; omega⟩
        · replace hb2 := hd hb2
          go_wp2
          exact ⟨⟨k + 1, by omega, by go_num, hbel.out.trans (hb2.out.mono hwr)⟩, by simp [intOf]; omega⟩
    · replace hbel := hd hbel
      go_wp2
      exact cl1 (fin.out _ hbel.out) rfl

end Go.Proofs.YtidhiaaicmfabaaGreat

/- lend: a list with spare room behind it (seats .Z, .ZD alone). -/
namespace Go.Proofs.YtidhiaaicmfabaaGreat
open Go.RowKit Go.Proofs Go.Deep

def intV (l : List Int) : List Value := l.map (fun x => Value.int .i64 x)
theorem intV_one (l : List Int) : ∀ u ∈ intV l, u.oneCell' = true := by
  intro u hu
  obtain ⟨x, _, rfl⟩ := List.mem_map.1 hu
  rfl
theorem intV_at {l : List Int} {j : Nat} {x : Int} (h : l[j]? = some x) : (intV l)[j]? = some (.int .i64 x) := by simp [intV, h]
theorem run_app0 {P : Program} (w : World) (t ty e : TypeId) (i : TypeInfo) (ht : P.underlying t = some (.slice e)) (hi : P.info? e = some i) (b : Option Addr) (n cap : Nat) (hle : n ≤ cap) (ao : Option Addr) (c : Nat) :
    (Builtin.append_ #[t, t] ty #[.slice b n cap, .slice ao 0 c]).run P w = .ok (.slice b n cap) w := by
  cases ao <;> cases b <;> simp [Builtin.append_, run_underlying ht, sizeOf, typeInfo, hi, Builtin.lenOf, Builtin.firstCells, loadCells, loadCellsFrom, hle, storeCells]
theorem wpList_app0 {P : Program} (w0 : World) {ops : Array Oper} {rest : List Oper} {o : Oper} {a : Act} {Q : Exit → Act → World → Prop} (hgd : o.guard = none) (s x : Operand) (t : TypeId)
    (ho : o.op = .call { callee := .builtin .append, args := #[s, x], argTypes := #[t, t] }) (e : TypeId) (ht : P.underlying t = some (.slice e)) (hi : (P.info? e).isSome = true) (b : Option Addr) (n cap : Nat) (hle : n ≤ cap) (ao : Option Addr) (c : Nat)
    (hs : a.eval s = .slice b n cap) (hx : a.eval x = .slice ao 0 c) (h : wpList P ops Q rest (a.put o.dst (.slice b n cap)) w0) : wpList P ops Q (o :: rest) a w0 := by
  obtain ⟨i, hi⟩ := Option.isSome_iff_exists.1 hi
  refine wpList_plain hgd fun K hK => ?_
  have hr := run_app0 (P := P) w0 t o.type e i ht hi b n cap hle ao c
  unfold Oper.wp execOp
  simp only [ho, resolve, invoke, builtin, Sem.run_bind, Sem.run_pure, Result.andThen_ok, List.map_toArray, List.map_cons, List.map_nil, hs, hx, hr]
  exact hK _ _ h
theorem own_empty {w : World} {base e : Nat} {g : Nat} (hg : w.heap[g]? = some (.cells #[] e (0, 0))) (hb : base ≤ g) : w.ownsRow base e 1 (.slice (some ⟨g, 0, none⟩) 0 0) 0 [] :=
  ⟨rfl, .inr ⟨g, 0, #[], rfl, hb, hg, Nat.le_refl _, Nat.zero_le _, rfl, rfl⟩⟩
set_option maxRecDepth 100000 in
theorem lend_any (w : World) (v : Value) (l : List Int) {nb : Nat} (hv : InpAt nb w v l) (hl : l.length ≤ 1000000000000) (R : Ending → World → Prop)
    (fin : ∀ v' w', Below w.heap.size w w' → w'.ownsRow w.heap.size 3 1 v' (l.length + 2) (intV l ++ [.int .i64 77, .int .i64 77]) → R (.returned v') w') :
    Calls Tryz.prog 22 #[v] w R := by
  obtain ⟨ao, cap, rfl, hcap, hcs⟩ := hv
  replace fin := hd fin
  have hE := hd (own_empty (e := 3) (heap_alloc_new w (Obj.cells #[] 3)) (Nat.le_refl w.heap.size))
  by_cases h0 : l = []
  · subst h0
    go_enter Tryz.func22, Tryz.ntmps22
    go_wp2_with (first
      | (at_builtin; refine wpList_app0 _ rfl _ _ 42 rfl 3 ulInt (by kernel_rfl) _ 0 0 (Nat.le_refl _) ao cap rfl rfl ?_)
      | (at_builtin; refine wpList_app4 _ rfl _ _ 42 rfl w.heap.size 3 _ 1 8 ulInt infoI64 rfl (by decide) _ 0 [] rfl (by exact hE.out.alloc _) _ 2 2 [.int .i64 77, .int .i64 77] rfl rfl (by exact news_at (alloc_at (by simp))) (intV_one [77, 77]) (by unfold maxLen; omega) (by omega) (by simp; omega) ?_; intro v1 w1 hown1 hgr1 _; obtain ⟨ao1, cp1, rfl⟩ := own_sl hown1; replace hown1 := hd hown1; replace hgr1 := hd hgr1))
    refine cl1 (fin.out _ _ ?_ hown1.out) rfl
    exact (((Below.refl _ _).alloc (Nat.le_refl _) _).alloc (by simp) _).grown hgr1.out (by simp; omega) (fun k hk => (hE.out.lt k hk).1)
  · obtain ⟨g, o, rfl, _, hgc⟩ : ∃ g o, ao = some ⟨g, o, none⟩ ∧ g ≠ nb ∧ ∀ j x, l[j]? = some x → w.cell? ⟨g, o + j, none⟩ = some (.int .i64 x) := by
      rcases hcs with h | h
      · exact h
      · exact absurd h h0
    have hnews : ∀ (W : World), Below w.heap.size w W → ∀ j u, (intV l)[j]? = some u → W.cell? ((⟨g, o, none⟩ : Addr).add j) = some u := fun W hW j u hu => by
      rw [Addr.add_lit]
      simp only [intV, List.getElem?_map, Option.map_eq_some_iff] at hu
      obtain ⟨x, hx, rfl⟩ := hu
      have := hgc j x hx
      exact (hW.cell (p := ⟨g, o + j, none⟩) (World.block_lt_of_cell? w _ this)).trans this
    replace hnews := hd hnews
    clear hgc hcs
    go_enter Tryz.func22, Tryz.ntmps22
    go_wp2_with (first
      | (at_builtin; refine wpList_app4 _ rfl _ _ 42 rfl w.heap.size 3 _ 1 8 ulInt infoI64 rfl (by decide) _ 0 [] rfl (by exact hE.out) ⟨g, o, none⟩ l.length cap (intV l) rfl (by simp [intV]) (hnews.out _ ((Below.refl _ _).alloc (Nat.le_refl _) _)) (intV_one l) (by unfold maxLen; omega) (by omega) (by simp) ?_; intro v1 w1 hown1 hgr1 _; have hB1 := ((Below.refl w.heap.size w).alloc (Nat.le_refl _) _).grown hgr1 (by simp) (fun k hk => (hE.out.lt k hk).1); rw [Nat.zero_add, List.nil_append] at hown1; obtain ⟨ao1, cp1, rfl⟩ := own_sl hown1; have hsz1 := hB1.size; replace hown1 := hd hown1; replace hB1 := hd hB1; clear hgr1)
      | (at_builtin; refine wpList_app4 _ rfl _ _ 42 rfl w.heap.size 3 _ 1 8 ulInt infoI64 rfl (by decide) _ l.length (intV l) rfl (by exact hown1.out.alloc _) _ 2 2 [.int .i64 77, .int .i64 77] rfl rfl (by exact news_at (alloc_at (by simp))) (intV_one [77, 77]) (by unfold maxLen; omega) (by omega) (by simp; omega) ?_; intro v2 w2 hown2 hgr2 _; obtain ⟨ao2, cp2, rfl⟩ := own_sl hown2; replace hown2 := hd hown2; replace hgr2 := hd hgr2))
    refine cl1 (fin.out _ _ ?_ hown2.out) rfl
    exact (hB1.out.alloc hsz1 _).grown hgr2.out (by simp; omega) (fun k hk => (hown1.out.lt k hk).1)

end Go.Proofs.YtidhiaaicmfabaaGreat

/- back: what was lent comes back as it was (seats .Z, .ZD alone). -/
namespace Go.Proofs.YtidhiaaicmfabaaGreat
open Go.RowKit Go.Proofs Go.Deep

def lentV (l : List Int) : List Value := intV l ++ [Value.int .i64 77, Value.int .i64 77]
theorem lentV_len (l : List Int) : (lentV l).length = l.length + 2 := by simp [lentV, intV]
/-- Nothing of what was there has turned but the blocks of P. -/
structure Fr (P : Nat → Prop) (w w' : World) : Prop where
  os : w'.os = w.os
  tape : w'.tape = w.tape
  output : w'.output = w.output
  size : w.heap.size ≤ w'.heap.size
  block : ∀ k, k < w.heap.size → ¬ P k → w'.heap[k]? = w.heap[k]?
section
variable {P : Nat → Prop} {w w' w'' : World}
theorem Fr.refl (P : Nat → Prop) (w : World) : Fr P w w := ⟨rfl, rfl, rfl, Nat.le_refl _, fun _ _ _ => rfl⟩
theorem Fr.trans (h : Fr P w w') (k : Fr P w' w'') : Fr P w w'' :=
  ⟨k.os.trans h.os, k.tape.trans h.tape, k.output.trans h.output, Nat.le_trans h.size k.size, fun i hi hb => (k.block i (Nat.lt_of_lt_of_le hi h.size) hb).trans (h.block i hi hb)⟩
theorem Fr.of_below (h : Below w.heap.size w w') : Fr P w w' := ⟨h.os, h.tape, h.output, h.size, fun k hk _ => h.block k hk⟩
theorem Fr.mono {Q : Nat → Prop} (h : Fr P w w') (hq : ∀ k, P k → Q k) : Fr Q w w' := ⟨h.os, h.tape, h.output, h.size, fun k hk hb => h.block k hk (fun hp => hb (hq k hp))⟩
theorem Fr.set (h : Fr P w w') {a : Addr} (ha : P a.block) (v : Value) : Fr P w (w'.setCell a v) :=
  ⟨h.os, h.tape, h.output, by have := h.size; simpa [World.setCell] using this, fun k hk hb => by
    rw [Below.heap_setCell w' a v k (fun e => hb (by rw [e]; exact ha))]; exact h.block k hk hb⟩
theorem Fr.grown {row : Option Nat} (h : Fr P w w') (hg : w'.grownBy w'' row) (hr : ∀ k, row = some k → P k ∨ w.heap.size ≤ k) : Fr P w w'' :=
  ⟨hg.os.trans h.os, hg.tape.trans h.tape, hg.output.trans h.output, Nat.le_trans h.size hg.size, fun k hk hb => by
    rw [hg.block k (Nat.lt_of_lt_of_le hk h.size) (fun e => by rcases hr k e.symm with h1 | h1; exact hb h1; omega)]; exact h.block k hk hb⟩
theorem Fr.alloc (h : Fr P w w') (o : Obj) : Fr P w (w'.alloc o) := h.trans (Fr.of_below ((Below.refl _ _).alloc (Nat.le_refl _) o))
end
/-- A list does not lie in block g. -/
def Aprt (g : Nat) (v : Value) : Prop := ∀ g' o len cap, v = .slice (some ⟨g', o, none⟩) len cap → len = 0 ∨ g' ≠ g
theorem Mrk.apart {B : Nat} {w : World} {n : Int} {v : Value} (h : Mrk B w n v) {g : Nat} (hg : w.heap.size ≤ g) : Aprt g v := by
  obtain ⟨ao, len, cap, rfl, _, _, h3⟩ := h
  intro g' o len' cap' e
  injection e with e1 e2 e3
  subst e2
  rcases h3 with h3 | ⟨g2, cur, a, _, c, _⟩
  · exact .inl h3
  · rw [e1] at a
    injection a with a
    injection a with a1 _
    subst a1
    have := (Array.getElem?_eq_some_iff.1 c).1
    exact .inr (by omega)
theorem Mrk.keepAp {B : Nat} {w w' : World} {n : Int} {v : Value} {g : Nat} (h : Mrk B w n v) (ha : Aprt g v) (hk : ∀ k cur, B ≤ k → k ≠ g → w.heap[k]? = some (.cells cur 3 (0, 0)) → w'.heap[k]? = w.heap[k]?) : Mrk B w' n v := by
  obtain ⟨ao, len, cap, rfl, h2, h2', h3⟩ := h
  refine ⟨ao, len, cap, rfl, h2, h2', ?_⟩
  rcases h3 with h3 | ⟨g2, cur, a, b, c, d⟩
  · exact .inl h3
  · subst a
    rcases ha g2 0 len cap rfl with e | e
    · exact .inl e
    · exact .inr ⟨g2, cur, rfl, b, (hk g2 cur b e c).trans c, d⟩
theorem own_type {w : World} {base e sz n : Nat} {v : Value} {xs : List Value} (h : w.ownsRow base e sz v n xs) {k : Nat} (hk : v.ownBlock = some k) : ∃ cur, w.heap[k]? = some (.cells cur e (0, 0)) := by
  rcases h.2 with ⟨rfl, _⟩ | ⟨g, cap, cur, rfl, _, hg, _⟩
  · cases hk
  · have : g = k := by simpa [Value.ownBlock] using hk
    subst this
    exact ⟨cur, hg⟩
theorem ulKept : Tryz.prog.underlying 26 = some (.slice 76) := by kernel_rfl
theorem infoKept : (Tryz.prog.info? 76).map (fun i => (i.zero, i.size, i.bytes)) = some (some (.agg #[.int .i64 0, .slice none 0 0]), 2, 32) := by kernel_rfl
theorem keptC_one (ks : List (Int × Value)) (h : ∀ p ∈ ks, ∃ a n c, p.2 = .slice a n c) : ∀ u ∈ keptC ks, u.oneCell' = true := by
  intro u hu
  simp only [keptC, List.mem_flatMap] at hu
  obtain ⟨p, hp, hu⟩ := hu
  obtain ⟨a, n, c, e⟩ := h p hp
  simp only [List.mem_cons, List.not_mem_nil, or_false] at hu
  rcases hu with rfl | rfl
  · rfl
  · rw [e]; rfl
theorem set_fill {α : Type} (a : α) (xs : List α) (t : Nat) (ht : t < xs.length) : (List.replicate t a ++ xs.drop t).set t a = List.replicate (t + 1) a ++ xs.drop (t + 1) := by
  rw [List.set_append_right _ _ (by simp), List.length_replicate, Nat.sub_self]
  cases hd : xs.drop t with
  | nil => simp at hd; omega
  | cons y r =>
    have e : xs.drop (t + 1) = r := by rw [← List.drop_drop, hd]; rfl
    rw [e, List.set_cons_zero, List.replicate_succ', List.append_assoc]; rfl
theorem fill_at {α : Type} (a : α) (xs : List α) (t : Nat) : (List.replicate t a ++ xs.drop t)[t]? = xs[t]? := by
  rw [List.getElem?_append_right (by simp)]; simp
theorem InpAt.only {g : Nat} {w w' : World} {v : Value} {l : List Int} (h : InpAt g w v l) (ho : Only g w w') : InpAt g w' v l := by
  obtain ⟨ao, cap, h1, h2, h3⟩ := h
  refine ⟨ao, cap, h1, h2, ?_⟩
  rcases h3 with ⟨g', o, e, hne, hc⟩ | h3
  · exact .inl ⟨g', o, e, hne, fun j x hx => (ho.cell (p := ⟨g', o + j, none⟩) (World.block_lt_of_cell? w _ (hc j x hx)) hne).trans (hc j x hx)⟩
  · exact .inr h3
theorem InpAt.setNe {g b : Nat} {w : World} {v : Value} {l : List Int} (h : InpAt g w v l) (h2 : InpAt b w v l) (o : Nat) (u : Value) : InpAt g (w.setCell ⟨b, o, none⟩ u) v l := by
  obtain ⟨ao, cap, h1, hc, h3⟩ := h
  refine ⟨ao, cap, h1, hc, ?_⟩
  rcases h3 with ⟨g', o', e, hne, hq⟩ | h3
  · obtain ⟨ao2, cap2, e2, _, h4⟩ := h2
    rcases h4 with ⟨g2, o2, e4, hne2, _⟩ | h4
    · rw [h1] at e2
      injection e2 with e2 _ _
      rw [e, e4] at e2
      injection e2 with e2
      injection e2 with e2 _
      subst e2
      exact .inl ⟨g', o', e, hne, fun j x hx => by rw [World.cell?_setCell_other _ _ _ _ (by intro e; injection e with e; exact hne2 e.symm)]; exact hq j x hx⟩
    · exact .inr h4
  · exact .inr h3
theorem rep_mem {a : Value} {t : Nat} : ∀ u ∈ List.replicate t a, u = a := fun _ hu => (List.mem_replicate.1 hu).2
set_option maxRecDepth 100000 in
set_option maxHeartbeats 2000000 in
theorem back_any (w : World) {B bw : Nat} {n : Int} {kv : Value} {ks : List (Int × Value)} (h : Wa B bw n kv ks w) (hn : 0 ≤ n ∧ n ≤ 100000000000000) (hks : ks.length ≤ 1000000000000) (g cap : Nat) (L : List Int) (hl : L.length ≤ 1000000000000)
    (hown : w.ownsRow B 3 1 (.slice (some ⟨g, 0, none⟩) (L.length + 2) cap) (L.length + 2) (lentV L)) (k : Value) (hk : InpAt g w k L) (hkb : InpAt bw w k L) (hap : ∀ p ∈ ks, Aprt g p.2) (R : Ending → World → Prop)
    (fin : ∀ w' kv', Wa B bw (n + 1) kv' (ks ++ [(n + 1, .slice (some ⟨g, 0, none⟩) (L.length + 2) cap)]) w' → Fr (fun k => k = bw ∨ k = g ∨ kv.ownBlock = some k) w w' → R (.returned (.bool true)) w') :
    Calls Tryz.prog 24 #[.pointer (some ⟨bw, 0, none⟩), .slice (some ⟨g, 0, none⟩) (L.length + 2) cap, k] w R := by
  have c0 : w.cell? ⟨bw, 0, none⟩ = some (.int .i64 n) := h.row.cell (i := 0) (by omega)
  have c1 : w.cell? ⟨bw, 1, none⟩ = some kv := h.row.cell (i := 1) (by omega)
  have f0 := h.row.frozen 0
  have f1 := h.row.frozen 1
  have lw := h.row.lt
  have hbg := (hown.lt g rfl).1
  have hgl := (hown.lt g rfl).2
  have hlt := h.lt
  have hne : bw ≠ g := by omega
  have hcap := own_cap hown rfl
  unfold maxLen at hcap
  have hlc : L.length + 2 ≤ cap := by
    obtain ⟨g2, cap2, e, hc2, _⟩ := own_one hown (by omega)
    injection e with _ _ e3
    omega
  obtain ⟨kao, kcap, rfl, hkc, hkcs⟩ := id hk
  obtain ⟨vo, vcp, rfl⟩ := own_sl h.own
  have jn : wrap64 (-(n + 1)) = -(n + 1) := IntWalk.wrap64_in _ (by omega)
  have jn2 : IntKind.i64.wrap (n + 1) = n + 1 := IntWalk.i64_in _ (by omega)
  replace fin := hd fin
  have hk1 := hd (hk.setNe hkb 0 (.int .i64 (n + 1)))
  have hown1 := hd (own_set hown (a := ⟨bw, 0, none⟩) hlt (.int .i64 (n + 1)))
  replace hown := hd hown
  replace h := hd h
  clear hk hkb hkcs
  go_enter Tryz.func24, Tryz.ntmps24
  go_wp2
  go_loopw [8, 9] (fun ok i wr => ∃ t : Nat, t ≤ L.length + 2 ∧ ok = .bool true ∧ i = .int .i64 t ∧ Only g (w.setCell ⟨bw, 0, none⟩ (.int .i64 (n + 1))) wr ∧
      wr.ownsRow B 3 1 (.slice (some ⟨g, 0, none⟩) (L.length + 2) cap) (L.length + 2) (List.replicate t (Value.int .i64 (-(n + 1))) ++ (lentV L).drop t)) (fun _ i _ => L.length + 2 - (intOf i).toNat)
  case atStart => exact ⟨0, by omega, rfl, rfl, Only.refl _ _, hown1.out⟩
  case round =>
    obtain ⟨t, ht, rfl, rfl, honly, hrow⟩ := hrel
    by_cases htl : t < L.length + 2
    · obtain ⟨gq, capq, e, _, _, hgl2, hgf, hgc⟩ := own_one hrow (by omega)
      injection e with e _ e3
      subst e3
      injection e with e
      injection e with e _
      subst e
      have gc := hgc t htl
      rw [fill_at] at gc
      have gf := hgf t
      have hst := hrow.stored t (.int .i64 (-(n + 1)))
      rw [set_fill _ _ _ (by rw [lentV_len]; exact htl)] at hst
      have hrow1 := hd hst.1
      have honly1 := hd (honly.setCell (a := ⟨g, t, none⟩) (.inl rfl) (.int .i64 (-(n + 1))))
      have hk2 := hk1.out.only honly
      have j0 : (0 : Int) ≤ (t : Int) ∧ (t : Int) < (L.length : Int) + 2 := by omega
      replace honly := hd honly
      clear hst hrow hgf hgc
      by_cases h1 : t < L.length
      · obtain ⟨x, hx⟩ : ∃ x, L[t]? = some x := ⟨_, List.getElem?_eq_getElem h1⟩
        have gx : (lentV L)[t]? = some (.int .i64 x) := by unfold lentV; rw [List.getElem?_append_left (by simp [intV]; omega)]; exact intV_at hx
        rw [gx] at gc
        obtain ⟨ao2, cap2, e2, hc2, hq⟩ := hk2
        injection e2 with e2 _ e3
        subst e2 e3
        obtain ⟨g2, o2, rfl, _, hq2⟩ : ∃ g2 o2, kao = some ⟨g2, o2, none⟩ ∧ g2 ≠ g ∧ ∀ j x, L[j]? = some x → wr.cell? ⟨g2, o2 + j, none⟩ = some (.int .i64 x) := by
          rcases hq with h | h
          · exact h
          · rw [h] at h1; simp at h1
        have kc := hq2 t x hx
        have lk := World.block_lt_of_cell? _ _ kc
        have j1 : (0 : Int) ≤ (t : Int) ∧ (t : Int) < (L.length : Int) := by omega
        have td : decide ((t : Int) < (L.length : Int)) = true := by simp; omega
        clear hq hq2 gx
        go_wp2_with (fail)
        go_quiet (fail)
        go_wp2
        exact ⟨⟨t + 1, by omega, by first | rfl | simp, by go_num, by first | exact honly1.out | exact honly1.out.drewN _, by first | exact hrow1.out | exact own_drewN hrow1.out _⟩, by simp [intOf]; omega⟩
      · have gx : (lentV L)[t]? = some (.int .i64 77) := by
          unfold lentV
          rw [List.getElem?_append_right (by simp [intV]; omega)]
          have : t - (intV L).length = 0 ∨ t - (intV L).length = 1 := by simp [intV]; omega
          rcases this with e | e <;> rw [e] <;> rfl
        rw [gx] at gc
        have td : decide ((t : Int) < (L.length : Int)) = false := by simp; omega
        clear gx hk2
        go_wp2
        exact ⟨⟨t + 1, by omega, by first | rfl | simp, by go_num, by first | exact honly1.out | exact honly1.out.drewN _, by first | exact hrow1.out | exact own_drewN hrow1.out _⟩, by simp [intOf]; omega⟩
    · have htt : t = L.length + 2 := by omega
      subst htt
      rw [List.drop_eq_nil_of_le (by rw [lentV_len]; exact Nat.le_refl _), List.append_nil] at hrow
      have c1' : wr.cell? ⟨bw, 1, none⟩ = some (.slice vo ks.length vcp) := by
        rw [honly.cell (p := ⟨bw, 1, none⟩) (by simp; omega) hne, World.cell?_setCell_other _ _ _ _ (by simp)]; exact c1
      have f1' : wr.frozen? ⟨bw, 1, none⟩ = false := by
        rw [honly.frozen (p := ⟨bw, 1, none⟩) (by simp; omega) hne]; simpa using f1
      have htg := (own_type hown.out (k := g) rfl)
      have htk : ∀ k', (Value.slice vo ks.length vcp).ownBlock = some k' → k' ≠ g := fun k' hk' e => by
        subst e
        obtain ⟨cu, e1⟩ := htg
        obtain ⟨cu2, e2⟩ := own_type h.out.own hk'
        rw [e1] at e2
        injection e2 with e2
        injection e2 with _ e3
        exact absurd e3 (by decide)
      have hkept := own_only (own_set h.out.own (a := ⟨bw, 0, none⟩) hlt (.int .i64 (n + 1))) honly htk
      have hwb : B ≤ wr.heap.size := by have := honly.size; have := h.out.size; simp at *; omega
      have lw2 : bw < wr.heap.size := by omega
      have hmk : Mrk B wr (n + 1) (.slice (some ⟨g, 0, none⟩) (L.length + 2) cap) := Mrk.of_own hrow rep_mem
      have hmks : ∀ p ∈ ks, Mrk B wr p.1 p.2 := fun p hp => by
        refine (h.out.mark p hp).1.keepAp (hap p hp) (fun k' cur hk' hkg e => ?_)
        have hkl := (Array.getElem?_eq_some_iff.1 e).1
        rw [honly.block k' (by simp; omega) hkg, Below.heap_setCell _ _ _ _ (by simp; omega)]
      have hrw : wr.rowIs bw 28 2 (fun j => if j = 0 then .int .i64 (n + 1) else .slice vo ks.length vcp) := by
        refine ((h.out.row.set 0 (.int .i64 (n + 1))).congr (fun i hi => ?_)).of_block (honly.block bw (by simp; omega) hne)
        by_cases e : i = 0 <;> simp [e]
      have hfr : Fr (fun k => k = bw ∨ k = g ∨ (Value.slice vo ks.length vcp).ownBlock = some k) w wr :=
        ((Fr.refl _ w).set (a := ⟨bw, 0, none⟩) (.inl rfl) (.int .i64 (n + 1))).trans ⟨honly.os, honly.tape, honly.output, honly.size, fun k' hk' hnp => honly.block k' hk' (fun e => hnp (.inr (.inl e)))⟩
      replace hkept := hd hkept
      replace hmk := hd hmk
      replace hmks := hd hmks
      replace hrw := hd hrw
      replace hfr := hd hfr
      replace hrow := hd hrow
      replace honly := hd honly
      replace htk := hd htk
      clear htg hk1
      go_wp2_with (first | (at_builtin; refine wpList_app4 _ rfl _ _ 26 rfl B 76 _ 2 32 ulKept infoKept rfl (by decide) _ ks.length (keptC ks) rfl (by exact hkept.out.alloc _) _ 1 1 (keptC [(n + 1, .slice (some ⟨g, 0, none⟩) (L.length + 2) cap)]) rfl rfl (by exact news_at (alloc_at (by simp))) (by exact keptC_one _ (fun p hp => by simp at hp; subst hp; exact ⟨_, _, _, rfl⟩)) (by unfold maxLen; omega) (by omega) (by simp; omega) ?_; intro v1 w1 hown1 hgr1 hat1; obtain ⟨ao1, cp1, rfl⟩ := own_sl hown1; have cx : w1.cell? ⟨bw, 1, none⟩ = some (.slice vo ks.length vcp) := far_of hgr1 (by exact cell_al c1' _) (fun e => by have := (hkept.out.lt bw e.symm).1; omega); have fx : w1.frozen? ⟨bw, 1, none⟩ = false := frz_of hgr1 (by exact frozen_al f1' lw2 _) (by simp; omega) (fun e => by have := (hkept.out.lt bw e.symm).1; omega); replace hown1 := hd hown1; replace hgr1 := hd hgr1; replace hat1 := hd hat1))
      have hsz1 := hgr1.out.size
      simp only [World.size_alloc] at hsz1
      have hbwk : ∀ k', (Value.slice vo ks.length vcp).ownBlock = some k' → B ≤ k' := fun k' hk' => (hkept.out.lt k' hk').1
      have hblk : ∀ k', k' < wr.heap.size → some k' ≠ (Value.slice vo ks.length vcp).ownBlock → w1.heap[k']? = wr.heap[k']? := fun k' hk' hnp => (hgr1.out.block k' (by simp; omega) hnp).trans (Below.heap_alloc _ _ _ hk')
      refine cl1 (fin.out _ (.slice ao1 (ks.length + 1) cp1) ⟨hlt, ?_, ?_, ?_, ?_⟩ ?_) rfl
      · simp; omega
      · refine ((hrw.out.of_block (hblk bw lw2 (fun e => by have := hbwk bw e.symm; omega))).set 1 _).congr (fun i hi => ?_)
        have : i = 0 ∨ i = 1 := by omega
        rcases this with rfl | rfl <;> simp
      · have := hown1.out
        rw [← keptC_app] at this
        rw [List.length_append]
        exact own_set this (a := ⟨bw, 1, none⟩) hlt _
      · intro p hp
        have keep : ∀ (m : Int) (v : Value), Mrk B wr m v → Mrk B (w1.setCell ⟨bw, 1, none⟩ (.slice ao1 (ks.length + 1) cp1)) m v := fun m v hm => hm.keep (fun k' cur hk' e => by
          have hkl := (Array.getElem?_eq_some_iff.1 e).1
          rw [Below.heap_setCell _ _ _ _ (by simp; omega)]
          refine hblk k' hkl (fun e' => ?_)
          obtain ⟨cu2, e2⟩ := own_type hkept.out e'.symm
          rw [e] at e2
          injection e2 with e2
          injection e2 with _ e3
          exact absurd e3 (by decide))
        rcases List.mem_append.1 hp with hp | hp
        · exact ⟨keep _ _ (hmks.out p hp), (h.out.mark p hp).2.1, by have := (h.out.mark p hp).2.2; omega⟩
        · simp only [List.mem_singleton] at hp
          subst hp
          exact ⟨keep _ _ hmk.out, by show (0 : Int) ≤ n + 1; omega, Int.le_refl _⟩
      · exact ((hfr.out.alloc _).grown hgr1.out (fun k' hk' => .inl (.inr (.inr hk')))).set (a := ⟨bw, 1, none⟩) (.inl rfl) _

end Go.Proofs.YtidhiaaicmfabaaGreat

/- ints: a list that came out is the document's, and becomes the caller's (seats .Z, .ZD alone). -/
namespace Go.Proofs.YtidhiaaicmfabaaGreat
open Go.RowKit Go.Proofs Go.Deep

/-- append onto an owned row, of something: in the same row, or in a new one with all the old ones left alone. -/
theorem run_app5 {P : Program} (w : World) (base : Nat) (t ty e : TypeId) (i : TypeInfo) (z : Value) (bytes : Nat) (ht : P.underlying t = some (.slice e)) (hi : P.info? e = some i) (hz : i.zero = some z)
    (hsize : i.size = 1) (hby : i.bytes = bytes) (hzs : z.cells.size = 1)
    (v : Value) (n : Nat) (xs : List Value) (hown : w.ownsRow base e 1 v n xs)
    (a : Addr) (m c : Nat) (news : List Value) (hm : 0 < m) (hl : news.length = m * 1) (hnews : ∀ j u, news[j]? = some u → w.cell? (a.add j) = some u) (h1 : ∀ u ∈ news, u.oneCell' = true)
    (h63 : n + m ≤ maxLen) (hbytes : (n + m) * bytes ≤ 140737488355328) (hbase : base ≤ w.heap.size) :
    ∃ v' w', (Builtin.append_ #[t, t] ty #[v, .slice (some a) m c]).run P w = .ok v' w' ∧ w'.ownsRow base e 1 v' (n + m) (xs ++ news) ∧ w.grownBy w' v.ownBlock ∧
      ((∃ ao cap, v = .slice ao n cap ∧ v' = .slice ao (n + m) cap) ∨ (v'.ownBlock = some w.heap.size ∧ w.grownBy w' none)) := by
  obtain ⟨v', w', hr, h2, h3, h5⟩ := run_app4 (P := P) w base t ty e i z 1 bytes ht hi hz hsize hby hzs (by omega) v n xs hown a m c news hl hnews h1 h63 hbytes hbase
  refine ⟨v', w', hr, h2, h3, ?_⟩
  rcases h5 with e5 | e5
  · rcases hown.2 with ⟨rfl, rfl⟩ | ⟨g, cap, cur, rfl, hbg, hg, hnc, hcm, hcs, htake⟩
    · exfalso
      rcases h2.2 with ⟨_, h0⟩ | ⟨g, cap, cur, rfl, _⟩
      · omega
      · cases e5
    · by_cases hroom : n + m ≤ cap
      · have hfit : n * i.size + news.length ≤ cur.size := by rw [hl, hcs, hsize, ← Nat.add_mul]; exact Nat.mul_le_mul_right _ hroom
        have hr2 := run_append_room (P := P) w t ty _ i ht hi g n cap cur hg a m c news (by rw [hsize]; exact hl) hnews h1 hroom hfit
        rw [hr2] at hr
        injection hr with e1 e2
        exact .inl ⟨_, cap, rfl, e1.symm⟩
      · exfalso
        have holds : ∀ j u, xs[j]? = some u → w.cell? ((⟨g, 0, none⟩ : Addr).add j) = some u := hown.cells (g := g) rfl
        obtain ⟨v2, w2, hr2, ho2, h7⟩ := run_append_arg_grows (P := P) w t ty _ i z 1 bytes ht hi hz hsize hby hzs (by omega) ⟨g, 0, none⟩ n cap xs hown.1 holds a m c news hl hnews (by omega) h63 hbytes
        rw [hr2] at hr
        injection hr with e1 e2
        subst e1
        have := (ho2.lt g e5).1
        have := (Array.getElem?_eq_some_iff.1 hg).1
        omega
  · exact .inr e5
theorem wpList_app5 {P : Program} (w0 : World) {ops : Array Oper} {rest : List Oper} {o : Oper} {a : Act} {Q : Exit → Act → World → Prop} (hgd : o.guard = none) (s x : Operand) (t : TypeId)
    (ho : o.op = .call { callee := .builtin .append, args := #[s, x], argTypes := #[t, t] })
    (base : Nat) (e : TypeId) (z : Value) (bytes : Nat) (ht : P.underlying t = some (.slice e))
    (hinfo : (P.info? e).map (fun i => (i.zero, i.size, i.bytes)) = some (some z, 1, bytes)) (hzs : z.cells.size = 1)
    (v : Value) (n : Nat) (xs : List Value) (hs : a.eval s = v) (hown : w0.ownsRow base e 1 v n xs)
    (ad : Addr) (m c : Nat) (news : List Value) (hm : 0 < m) (hx : a.eval x = .slice (some ad) m c) (hl : news.length = m * 1) (hg : ∀ j u, news[j]? = some u → w0.cell? (ad.add j) = some u) (h1 : ∀ u ∈ news, u.oneCell' = true)
    (h63 : n + m ≤ maxLen) (hbytes : (n + m) * bytes ≤ 140737488355328) (hbase : base ≤ w0.heap.size)
    (h : ∀ v' w', w'.ownsRow base e 1 v' (n + m) (xs ++ news) → w0.grownBy w' v.ownBlock → ((∃ ao cap, v = .slice ao n cap ∧ v' = .slice ao (n + m) cap) ∨ (v'.ownBlock = some w0.heap.size ∧ w0.grownBy w' none)) → wpList P ops Q rest (a.put o.dst v') w') :
    wpList P ops Q (o :: rest) a w0 := by
  obtain ⟨i, hi, hzz⟩ := Option.map_eq_some_iff.1 hinfo
  simp only [Prod.mk.injEq] at hzz
  obtain ⟨hz, hs1, hb1⟩ := hzz
  refine wpList_plain hgd fun K hK => ?_
  obtain ⟨v', w', hr, h2, h3, h5⟩ := run_app5 (P := P) w0 base t o.type e i z bytes ht hi hz hs1 hb1 hzs v n xs hown ad m c news hm hl hg h1 h63 hbytes hbase
  unfold Oper.wp execOp
  simp only [ho, resolve, invoke, builtin, Sem.run_bind, Sem.run_pure, Result.andThen_ok, List.map_toArray, List.map_cons, List.map_nil, hs, hx, hr]
  exact hK _ _ (h v' w' h2 h3 h5)
/-- A row that is full of one mark; the rows that were made of it; lists that lie apart from it. -/
structure Fulls (B : Nat) (m : Int) (v : Value) (len : Nat) (us : List Value) (ks : List (Int × Value)) (w : World) : Prop where
  size : B ≤ w.heap.size
  own : w.ownsRow B 3 1 v len (List.replicate len (Value.int .i64 (-m)))
  us : ∀ u ∈ us, Mrk B w m u
  ks : ∀ p ∈ ks, Mrk B w p.1 p.2
theorem Fulls.below {B : Nat} {m : Int} {v : Value} {len : Nat} {us : List Value} {ks : List (Int × Value)} {w w' : World} (h : Fulls B m v len us ks w) (hb : Below w.heap.size w w') : Fulls B m v len us ks w' :=
  ⟨Nat.le_trans h.size hb.size, own_below h.own hb, fun u hu => (h.us u hu).keep (fun g _ _ e => hb.block g (Array.getElem?_eq_some_iff.1 e).1), fun p hp => (h.ks p hp).keep (fun g _ _ e => hb.block g (Array.getElem?_eq_some_iff.1 e).1)⟩
theorem Fulls.app {B : Nat} {m : Int} {v v' : Value} {len t : Nat} {us : List Value} {ks : List (Int × Value)} {w w' : World} (h : Fulls B m v len us ks w) (hap : ∀ g, v.ownBlock = some g → ∀ p ∈ ks, Aprt g p.2)
    (hle : ∀ u ∈ us, ∀ ao k cap, u = .slice ao k cap → k ≤ len + t)
    (hown : w'.ownsRow B 3 1 v' (len + t) (List.replicate len (Value.int .i64 (-m)) ++ List.replicate t (Value.int .i64 (-m)))) (hg : w.grownBy w' v.ownBlock)
    (hat : (∃ ao cap, v = .slice ao len cap ∧ v' = .slice ao (len + t) cap) ∨ (v'.ownBlock = some w.heap.size ∧ w.grownBy w' none)) : Fulls B m v len (v' :: us) ks w' := by
  have hx : ∀ y ∈ List.replicate len (Value.int .i64 (-m)) ++ List.replicate t (Value.int .i64 (-m)), y = .int .i64 (-m) := fun y hy => by
    rcases List.mem_append.1 hy with hy | hy <;> exact rep_mem y hy
  have hat2 : v'.ownBlock = v.ownBlock ∨ (v'.ownBlock = some w.heap.size ∧ w.grownBy w' none) := by
    rcases hat with ⟨ao, cap, e1, e2⟩ | hat
    · left; rw [e1, e2]; cases ao <;> rfl
    · exact .inr hat
  refine ⟨Nat.le_trans h.size hg.size, ?_, fun u hu => ?_, fun p hp => ?_⟩
  · rcases hat with ⟨ao, cap, e1, e2⟩ | ⟨_, hat⟩
    · subst e1 e2
      have := own_take (m := len) hown (by omega)
      rw [List.take_left' (by simp)] at this
      exact this
    · exact h.own.kept hat (by cases v.ownBlock <;> simp)
  · rcases List.mem_cons.1 hu with rfl | hu
    · exact Mrk.of_own hown hx
    · exact Mrk.app (h.us u hu) (hle u hu) hown hx hg hat2
  · cases hq : v.ownBlock with
    | none =>
      rw [hq] at hg
      exact (h.ks p hp).keep (fun g cur _ e => hg.block g (Array.getElem?_eq_some_iff.1 e).1 (by simp))
    | some g =>
      rw [hq] at hg
      exact (h.ks p hp).keepAp (hap g hq p hp) (fun k cur _ hne e => hg.block k (Array.getElem?_eq_some_iff.1 e).1 (fun e' => hne (by simpa using e')))
structure St (B bw : Nat) (w0 : World) (m : Int) (kv v : Value) (len j : Nat) (us : List Value) (ks : List (Int × Value)) (w : World) : Prop where
  full : Fulls B m v len us ks w
  own : w.ownsRow B 76 2 kv ks.length (keptC ks)
  row : w.rowIs bw 28 2 (fun j => if j = 0 then .int .i64 m else kv)
  lt : bw < B
  fr : Fr (fun k => k = bw ∨ v.ownBlock = some k ∨ kv.ownBlock = some k) w0 w
  us : ∀ u ∈ us, ∃ ao k cap, u = .slice ao k cap ∧ k ≤ len + j
theorem St.app {B bw : Nat} {w0 : World} {m : Int} {kv v v' : Value} {len j t : Nat} {us : List Value} {ks : List (Int × Value)} {w w' : World} (h : St B bw w0 m kv v len j us ks w) (o : Obj) (hj : j ≤ t) (hap : ∀ g, v.ownBlock = some g → ∀ p ∈ ks, Aprt g p.2)
    (hown : w'.ownsRow B 3 1 v' (len + t) (List.replicate len (Value.int .i64 (-m)) ++ List.replicate t (Value.int .i64 (-m)))) (hg : (w.alloc o).grownBy w' v.ownBlock)
    (hat : (∃ ao cap, v = .slice ao len cap ∧ v' = .slice ao (len + t) cap) ∨ (v'.ownBlock = some (w.alloc o).heap.size ∧ (w.alloc o).grownBy w' none)) : St B bw w0 m kv v len t (v' :: us) ks w' := by
  have hf := h.full.below ((Below.refl _ _).alloc (Nat.le_refl _) o)
  have hsz := h.full.size
  refine ⟨hf.app hap (fun u hu ao k cap e => ?_) hown hg hat, (h.own.alloc o).kept hg (own_two hf.own (h.own.alloc o) (by decide)), ?_, h.lt, (h.fr.alloc o).grown hg (fun k hk => .inl (.inr (.inl hk))), fun u hu => ?_⟩
  · obtain ⟨ao', k', cap', e', hk'⟩ := h.us u hu
    rw [e'] at e
    injection e with _ e _
    omega
  · have hlt := h.lt
    refine (h.row.alloc o).of_block (hg.block bw (by simp; omega) (fun e => ?_))
    have := (hf.own.lt bw e.symm).1
    omega
  · rcases List.mem_cons.1 hu with rfl | hu
    · obtain ⟨ao, cap, e⟩ := own_sl hown
      exact ⟨ao, _, cap, e, Nat.le_refl _⟩
    · obtain ⟨ao', k', cap', e', hk'⟩ := h.us u hu
      exact ⟨ao', k', cap', e', by omega⟩
theorem rep_one (t : Nat) (x : Int) : ∀ u ∈ List.replicate t (Value.int .i64 x), u.oneCell' = true := fun u hu => by rw [rep_mem u hu]; rfl
theorem Mrk.keepAp2 {B : Nat} {w w' : World} {n : Int} {u : Value} {row : Option Nat} (h : Mrk B w n u) (ha : ∀ g, row = some g → Aprt g u) (hk : ∀ k cur, B ≤ k → (∀ g, row = some g → k ≠ g) → w.heap[k]? = some (.cells cur 3 (0, 0)) → w'.heap[k]? = w.heap[k]?) : Mrk B w' n u := by
  cases row with
  | none => exact h.keep (fun k cur hb e => hk k cur hb (fun g hg => by cases hg) e)
  | some g => exact h.keepAp (ha g rfl) (fun k cur hb hne e => hk k cur hb (fun g' hg' => by injection hg' with hg'; subst hg'; exact hne) e)
set_option maxRecDepth 100000 in
set_option maxHeartbeats 2000000 in
theorem ints_any (w : World) {B bw : Nat} {n : Int} {kv : Value} {ks : List (Int × Value)} (h : Wa B bw n kv ks w) (hn : 0 ≤ n ∧ n ≤ 100000000000000) (hks : ks.length ≤ 1000000000000) (v : Value) (L : List Int) (hl : L.length ≤ 1000)
    (hown : w.ownsRow B 3 1 v L.length (intV L)) (k : Value) {nb : Nat} (hk : InpAt nb w k L) (hap : ∀ g, v.ownBlock = some g → ∀ p ∈ ks, Aprt g p.2) (R : Ending → World → Prop)
    (fin : ∀ w' kv' a b c, Wa B bw (n + 1) kv' (ks ++ [(n + 1, v), (n + 1, a), (n + 1, b), (n + 1, c)]) w' → Fr (fun k => k = bw ∨ v.ownBlock = some k ∨ kv.ownBlock = some k) w w' → R (.returned (.bool true)) w') :
    Calls Tryz.prog 25 #[.pointer (some ⟨bw, 0, none⟩), v, k] w R := by
  have c0 : w.cell? ⟨bw, 0, none⟩ = some (.int .i64 n) := h.row.cell (i := 0) (by omega)
  have f0 := h.row.frozen 0
  have f1 := h.row.frozen 1
  have lw := h.row.lt
  have hlt := h.lt
  have hcap : ∀ ao m cap, v = .slice ao m cap → cap ≤ 9223372036854775807 := fun ao m cap e => by have := own_cap hown e; unfold maxLen at this; omega
  obtain ⟨ao, cp, rfl⟩ := own_sl hown
  have hcp := hcap _ _ _ rfl
  obtain ⟨kao, kcap, rfl, hkc, hkcs⟩ := id hk
  have jn : wrap64 (-(n + 1)) = -(n + 1) := IntWalk.wrap64_in _ (by omega)
  have jn2 : IntKind.i64.wrap (n + 1) = n + 1 := IntWalk.i64_in _ (by omega)
  have hlcell : 0 < L.length → ∃ g, ao = some ⟨g, 0, none⟩ ∧ L.length ≤ cp ∧ ∀ (j : Nat) (x : Int), L[j]? = some x → w.cell? ⟨g, j, none⟩ = some (.int .i64 x) := fun h0 => by
    obtain ⟨g, cq, e, e1, e2, e3, _, e5⟩ := own_one hown h0
    injection e with e _ e'
    subst e e'
    refine ⟨g, rfl, e1, fun j x hj => ?_⟩
    rw [e5 j (List.getElem?_eq_some_iff.1 hj).1]; exact intV_at hj
  have hkcell : 0 < L.length → ∃ g o, kao = some ⟨g, o, none⟩ ∧ ∀ (j : Nat) (x : Int), L[j]? = some x → w.cell? ⟨g, o + j, none⟩ = some (.int .i64 x) := fun h0 => by
    rcases hkcs with ⟨g, o, e1, _, e3⟩ | e
    · exact ⟨g, o, e1, e3⟩
    · rw [e] at h0; simp at h0
  replace hlcell := hd hlcell
  replace hkcell := hd hkcell
  replace fin := hd fin
  replace h := hd h
  replace hown := hd hown
  clear hk hkcs hcap
  go_enter Tryz.func25, Tryz.ntmps25
  go_wp2
  go_loopw [7, 8] (fun ok i wr => ∃ j : Nat, j ≤ L.length ∧ ok = .bool true ∧ i = .int .i64 j ∧ Below w.heap.size w wr) (fun _ i _ => L.length - (intOf i).toNat)
  case atStart => exact ⟨0, by omega, by simp, rfl, Below.refl _ _⟩
  case round =>
    obtain ⟨j, hj, rfl, rfl, hbel⟩ := hrel
    by_cases hjl : j < L.length
    · obtain ⟨x, hx⟩ : ∃ x, L[j]? = some x := ⟨_, List.getElem?_eq_getElem hjl⟩
      obtain ⟨g, rfl, hlc, hgc⟩ := hlcell.out (by omega)
      obtain ⟨g2, o2, rfl, hkc2⟩ := hkcell.out (by omega)
      have gc : wr.cell? ⟨g, j, none⟩ = some (.int .i64 x) := (hbel.cell (p := ⟨g, j, none⟩) (World.block_lt_of_cell? _ _ (hgc j x hx))).trans (hgc j x hx)
      have kc : wr.cell? ⟨g2, o2 + j, none⟩ = some (.int .i64 x) := (hbel.cell (p := ⟨g2, o2 + j, none⟩) (World.block_lt_of_cell? _ _ (hkc2 j x hx))).trans (hkc2 j x hx)
      have l1 := World.block_lt_of_cell? _ _ gc
      have l2 := World.block_lt_of_cell? _ _ kc
      have j0 : (0 : Int) ≤ (j : Int) ∧ (j : Int) < (L.length : Int) := by omega
      have td : decide ((j : Int) < (L.length : Int)) = true := by simp; omega
      replace hbel := hd hbel
      clear hgc hkc2
      go_wp2_with (fail)
      go_quiet (fail)
      go_wp2
      exact ⟨⟨j + 1, by omega, by first | rfl | simp, by go_num, below_drewN hbel.out _⟩, by simp [intOf]; omega⟩
    · have td : decide ((j : Int) < (L.length : Int)) = false := by simp; omega
      rename World => wa
      have hja := hbel.size
      have a0 : wa.cell? ⟨bw, 0, none⟩ = some (.int .i64 n) := (hbel.cell (p := ⟨bw, 0, none⟩) lw).trans c0
      have af : wa.frozen? ⟨bw, 0, none⟩ = false := (hbel.frozen (p := ⟨bw, 0, none⟩) lw).trans f0
      have lwa : bw < wa.heap.size := by omega
      have hwa := hd (h.out.below hbel)
      have howna := hd (own_set (own_below hown.out hbel) (a := ⟨bw, 0, none⟩) hlt (.int .i64 (n + 1)))
      replace hbel := hd hbel
      clear hlcell hkcell c0 f0 f1
      go_wp2
      go_loopw [10] (fun i wr2 => ∃ t : Nat, t ≤ L.length ∧ i = .int .i64 t ∧ Fr (fun k => (Value.slice ao L.length cp).ownBlock = some k) (wa.setCell ⟨bw, 0, none⟩ (.int .i64 (n + 1))) wr2 ∧
          wr2.ownsRow B 3 1 (.slice ao L.length cp) L.length (List.replicate t (Value.int .i64 (-(n + 1))) ++ (intV L).drop t)) (fun i _ => L.length - (intOf i).toNat)
      case atStart => exact ⟨0, by omega, rfl, Fr.refl _ _, howna.out⟩
      case round =>
        obtain ⟨t, ht, rfl, hfr, hrow⟩ := hrel
        by_cases htl : t < L.length
        · obtain ⟨g, capq, e, hcq, _, hgl2, hgf, hgc⟩ := own_one hrow (by omega)
          injection e with e _ e3
          subst e3
          subst e
          have gc := hgc t htl
          rw [fill_at] at gc
          obtain ⟨x, hx⟩ : ∃ x, L[t]? = some x := ⟨_, List.getElem?_eq_getElem htl⟩
          rw [intV_at hx] at gc
          have gf := hgf t
          have hst := hrow.stored t (.int .i64 (-(n + 1)))
          rw [set_fill _ _ _ (by simp [intV]; omega)] at hst
          have hrow1 := hd hst.1
          have hfr1 := hd (hfr.set (a := ⟨g, t, none⟩) rfl (.int .i64 (-(n + 1))))
          have j0 : (0 : Int) ≤ (t : Int) ∧ (t : Int) < (L.length : Int) := by omega
          clear hst hrow hgf hgc hfr
          go_wp2
          exact ⟨⟨t + 1, by omega, by go_num, hfr1.out, hrow1.out⟩, by simp [intOf]; omega⟩
        · have htt : t = L.length := by omega
          rename World => wc
          rw [htt, List.drop_eq_nil_of_le (by simp [intV]), List.append_nil] at hrow
          obtain ⟨vo, vcp, hkv⟩ := own_sl h.out.own
          subst hkv
          have hS0 : St B bw w (n + 1) (.slice vo ks.length vcp) (.slice ao L.length cp) L.length 0 [] ks wc := by
            have hob : ∀ k, (Value.slice ao L.length cp).ownBlock = some k → B ≤ k := fun k hk => (hrow.lt k hk).1
            refine ⟨⟨?_, hrow, fun u hu => by (cases hu), fun p hp => ?_⟩, ?_, ?_, hlt, ?_, fun u hu => by (cases hu)⟩
            · have := hfr.size
              have := hwa.out.size
              simp at *; omega
            · refine ((hwa.out.mark p hp).1.keep (w' := wa.setCell ⟨bw, 0, none⟩ (.int .i64 (n + 1))) (fun k cur hk e => Below.heap_setCell _ _ _ _ (show k ≠ bw by omega))).keepAp2 (fun g hg => hap g hg p hp) (fun k cur hk hne e => hfr.block k (Array.getElem?_eq_some_iff.1 e).1 (fun e' => hne k e' rfl))
            · refine (own_set hwa.out.own (a := ⟨bw, 0, none⟩) hlt (.int .i64 (n + 1))).kept (row := (Value.slice ao L.length cp).ownBlock) ⟨hfr.os, hfr.tape, hfr.output, hfr.size, fun k hk hne => hfr.block k hk (fun e => hne e.symm)⟩ (own_two howna.out (own_set hwa.out.own (a := ⟨bw, 0, none⟩) hlt (.int .i64 (n + 1))) (by decide))
            · refine ((hwa.out.row.set 0 (.int .i64 (n + 1))).congr (fun i hi => ?_)).of_block (hfr.block bw (by simp; omega) (fun e => by have := hob bw e; omega))
              by_cases e : i = 0 <;> simp [e]
            · exact (((Fr.of_below hbel.out).set (a := ⟨bw, 0, none⟩) (.inl rfl) (.int .i64 (n + 1)))).trans (hfr.mono (fun k hk => .inr (.inl hk)))
          have c1 : wc.cell? ⟨bw, 1, none⟩ = some (.slice vo ks.length vcp) := hS0.row.cell (i := 1) (by omega)
          have lwc := hS0.row.lt
          replace hS0 := hd hS0
          replace hwa := hd hwa
          clear hfr hrow howna
          go_wp2_with (first
            | (at_builtin; refine wpList_app5 _ rfl _ _ 42 rfl B 3 _ 8 ulInt infoI64 rfl _ L.length _ rfl (by exact hS0.out.full.own.alloc _) _ 1 1 (List.replicate 1 (Value.int .i64 (-(n + 1)))) (by omega) rfl rfl (by exact news_at (alloc_at (by simp))) (rep_one 1 _) (by unfold maxLen; omega) (by omega) (by have := hS0.out.full.size; simp; omega) ?_; intro v1 w1 hown1 hgr1 hat1; have hS1 := hS0.out.app _ (by omega) hap hown1 hgr1 hat1; obtain ⟨ao1, cp1, rfl⟩ := own_sl hown1; have q1 : w1.cell? ⟨bw, 1, none⟩ = some (.slice vo ks.length vcp) := hS1.row.cell (i := 1) (by omega); have qf1 := hS1.row.frozen 1; have ql1 := hS1.row.lt; replace hS1 := hd hS1; clear hown1 hgr1 hat1)
            | (at_builtin; refine wpList_app5 _ rfl _ _ 42 rfl B 3 _ 8 ulInt infoI64 rfl _ L.length _ rfl (by exact hS1.out.full.own.alloc _) _ 2 2 (List.replicate 2 (Value.int .i64 (-(n + 1)))) (by omega) rfl rfl (by exact news_at (alloc_at (by simp))) (rep_one 2 _) (by unfold maxLen; omega) (by omega) (by have := hS1.out.full.size; simp; omega) ?_; intro v2 w2 hown2 hgr2 hat2; have hS2 := hS1.out.app _ (by omega) hap hown2 hgr2 hat2; obtain ⟨ao2, cp2, rfl⟩ := own_sl hown2; have q2 : w2.cell? ⟨bw, 1, none⟩ = some (.slice vo ks.length vcp) := hS2.row.cell (i := 1) (by omega); have qf2 := hS2.row.frozen 1; have ql2 := hS2.row.lt; replace hS2 := hd hS2; clear hown2 hgr2 hat2)
            | (at_builtin; refine wpList_app5 _ rfl _ _ 42 rfl B 3 _ 8 ulInt infoI64 rfl _ L.length _ rfl (by exact hS2.out.full.own.alloc _) _ 3 3 (List.replicate 3 (Value.int .i64 (-(n + 1)))) (by omega) rfl rfl (by exact news_at (alloc_at (by simp))) (rep_one 3 _) (by unfold maxLen; omega) (by omega) (by have := hS2.out.full.size; simp; omega) ?_; intro v3 w3 hown3 hgr3 hat3; have hS3 := hS2.out.app _ (by omega) hap hown3 hgr3 hat3; obtain ⟨ao3, cp3, rfl⟩ := own_sl hown3; have q3 : w3.cell? ⟨bw, 1, none⟩ = some (.slice vo ks.length vcp) := hS3.row.cell (i := 1) (by omega); have qf3 := hS3.row.frozen 1; have ql3 := hS3.row.lt; replace hS3 := hd hS3; clear hown3 hgr3 hat3)
            | (at_builtin; refine wpList_app4 _ rfl _ _ 26 rfl B 76 _ 2 32 ulKept infoKept rfl (by decide) _ ks.length (keptC ks) rfl (by exact hS3.out.own.alloc _) _ 4 4 (keptC [(n + 1, .slice ao L.length cp), (n + 1, .slice ao1 (L.length + 1) cp1), (n + 1, .slice ao2 (L.length + 2) cp2), (n + 1, .slice ao3 (L.length + 3) cp3)]) rfl rfl (by exact news_at (alloc_at (by simp))) (by exact keptC_one _ (fun p hp => by simp at hp; rcases hp with rfl | rfl | rfl | rfl <;> exact ⟨_, _, _, rfl⟩)) (by unfold maxLen; omega) (by omega) (by have := hS3.out.full.size; simp; omega) ?_; intro v4 w4 hown4 hgr4 _; obtain ⟨ao4, cp4, rfl⟩ := own_sl hown4; have cx : w4.cell? ⟨bw, 1, none⟩ = some (.slice vo ks.length vcp) := far_of hgr4 (by exact cell_al q3 _) (fun e => by have := (hS3.out.own.lt bw e.symm).1; omega); have fx : w4.frozen? ⟨bw, 1, none⟩ = false := frz_of hgr4 (by exact frozen_al qf3 ql3 _) (by simp; omega) (fun e => by have := (hS3.out.own.lt bw e.symm).1; omega); replace hown4 := hd hown4; replace hgr4 := hd hgr4))
          have hsz1 := hgr4.out.size
          simp only [World.size_alloc] at hsz1
          have hBs := hS3.out.full.size
          have hbwk : ∀ k', (Value.slice vo ks.length vcp).ownBlock = some k' → B ≤ k' := fun k' hk' => (hS3.out.own.lt k' hk').1
          have hblk : ∀ k', k' < w3.heap.size → some k' ≠ (Value.slice vo ks.length vcp).ownBlock → w4.heap[k']? = w3.heap[k']? := fun k' hk' hnp => (hgr4.out.block k' (by simp; omega) hnp).trans (Below.heap_alloc _ _ _ hk')
          refine cl1 (fin.out _ (.slice ao4 (ks.length + 4) cp4) (.slice ao1 (L.length + 1) cp1) (.slice ao2 (L.length + 2) cp2) (.slice ao3 (L.length + 3) cp3) ⟨hlt, ?_, ?_, ?_, ?_⟩ ?_) rfl
          · simp; omega
          · refine ((hS3.out.row.of_block (hblk bw ql3 (fun e => by have := hbwk bw e.symm; omega))).set 1 _).congr (fun i hi => ?_)
            have : i = 0 ∨ i = 1 := by omega
            rcases this with rfl | rfl <;> simp
          · have := hown4.out
            rw [← keptC_app] at this
            rw [List.length_append]
            exact own_set this (a := ⟨bw, 1, none⟩) hlt _
          · intro p hp
            have keep : ∀ (m : Int) (v : Value), Mrk B w3 m v → Mrk B (w4.setCell ⟨bw, 1, none⟩ (.slice ao4 (ks.length + 4) cp4)) m v := fun m v hm => hm.keep (fun k' cur hk' e => by
              have hkl := (Array.getElem?_eq_some_iff.1 e).1
              rw [Below.heap_setCell _ _ _ _ (show k' ≠ bw by omega)]
              refine hblk k' hkl (fun e' => ?_)
              obtain ⟨cu2, e2⟩ := own_type hS3.out.own e'.symm
              rw [e] at e2
              injection e2 with e2
              injection e2 with _ e3
              exact absurd e3 (by decide))
            have hF := hS3.out.full
            rcases List.mem_append.1 hp with hp | hp
            · exact ⟨keep _ _ (hF.ks p hp), (h.out.mark p hp).2.1, by have := (h.out.mark p hp).2.2; omega⟩
            · simp only [List.mem_cons, List.not_mem_nil, or_false] at hp
              rcases hp with rfl | rfl | rfl | rfl
              · exact ⟨keep _ _ (Mrk.of_own hF.own rep_mem), by show (0 : Int) ≤ n + 1; omega, Int.le_refl _⟩
              · exact ⟨keep _ _ (hF.us _ (by simp)), by show (0 : Int) ≤ n + 1; omega, Int.le_refl _⟩
              · exact ⟨keep _ _ (hF.us _ (by simp)), by show (0 : Int) ≤ n + 1; omega, Int.le_refl _⟩
              · exact ⟨keep _ _ (hF.us _ (by simp)), by show (0 : Int) ≤ n + 1; omega, Int.le_refl _⟩
          · exact ((hS3.out.fr.alloc _).grown hgr4.out (fun k' hk' => .inl (.inr (.inr hk')))).set (a := ⟨bw, 1, none⟩) (.inl rfl) _

end Go.Proofs.YtidhiaaicmfabaaGreat
