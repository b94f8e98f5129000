/- The reader of texts: names, operators, pairs. -/
import Derived.Test.YtidhiaaicmfabaaGreatDoorKaA
import Derived.WalkKit
import Derived.WalkSpells
import Derived.WalkLawsBesides
import Derived.Deep.OwnRows
import Derived.BigQuiet
import Derived.Handy
import Derived.Deep.Light
import Derived.Deep.RegionHeld3
import Derived.Deep.RegionWith
import Derived.Test.YtidhiaaicmfabaaGreatDoorJyG
import Derived.Deep.RegionHeldLaw
import Derived.Maps.AppendAt
import Derived.ArgAppend
import Derived.Defers

/- The reader of texts: role (seat .ZD alone). -/
namespace Go.Proofs.YtidhiaaicmfabaaGreatDoor
open Go.RowKit Go.Proofs Go.Deep

def wIN : ByteArray := ⟨#[73, 78]⟩
def wOUT : ByteArray := ⟨#[79, 85, 84]⟩
def wVAR : ByteArray := ⟨#[86, 65, 82]⟩
set_option maxRecDepth 100000 in
theorem role_in (w : World) {bp : Nat} {pv : Value} {L : List ByteArray} {k : Nat} {d : Int} {uv : Value} {bad : Bool} (h : Pa bp pv L k d uv bad w) (hs : nextS L k = wIN) (R : Ending → World → Prop)
    (fin : ∀ w', Pa bp pv L (k + 1) d uv bad w' → Only bp w w' → R (.returned (.tuple #[.int .u8 0, .bool true])) w') : Calls Tryz.prog 130 #[.pointer (some ⟨bp, 0, none⟩)] w R := by
  replace fin := hd fin
  go_enter Tryz.func130, Tryz.ntmps130
  go_wp2_with (fail)
  refine accept_yes _ h wIN hs (by unfold wIN; intro e; injection e with e; exact absurd e (by decide)) _ ?_
  intro w1 h1 ho1
  replace h1 := hd h1
  replace ho1 := hd ho1
  go_wp2
  exact cl1 (fin.out _ h1.out ho1.out) rfl
theorem Only.step {b : Nat} {w w1 w2 : World} (h : Only b w w1) (h2 : Only b w1 w2) : Only b w w2 := h.trans h2
set_option maxRecDepth 100000 in
theorem role_out (w : World) {bp : Nat} {pv : Value} {L : List ByteArray} {k : Nat} {d : Int} {uv : Value} {bad : Bool} (h : Pa bp pv L k d uv bad w) (hs : nextS L k = wOUT) (R : Ending → World → Prop)
    (fin : ∀ w', Pa bp pv L (k + 1) d uv bad w' → Only bp w w' → R (.returned (.tuple #[.int .u8 1, .bool true])) w') : Calls Tryz.prog 130 #[.pointer (some ⟨bp, 0, none⟩)] w R := by
  have n1 : ((nextS L k).toList == wIN.toList) = false := by rw [hs]; kernel_rfl
  replace fin := hd fin
  go_enter Tryz.func130, Tryz.ntmps130
  go_wp2_with (fail)
  refine accept_no _ h wIN n1 _ ?_
  intro w1 h1 ho1
  replace ho1 := hd ho1
  go_wp2_with (fail)
  refine accept_yes _ h1 wOUT hs (by unfold wOUT; intro e; injection e with e; exact absurd e (by decide)) _ ?_
  intro w2 h2 ho2
  replace h2 := hd h2
  replace ho2 := hd ho2
  go_wp2
  exact cl1 (fin.out _ h2.out (ho1.out.step ho2.out)) rfl
set_option maxRecDepth 100000 in
theorem role_no (w : World) {bp : Nat} {pv : Value} {L : List ByteArray} {k : Nat} {d : Int} {uv : Value} {bad : Bool} (h : Pa bp pv L k d uv bad w) (n1 : ((nextS L k).toList == wIN.toList) = false) (n2 : ((nextS L k).toList == wOUT.toList) = false) (n3 : ((nextS L k).toList == wVAR.toList) = false) (R : Ending → World → Prop)
    (fin : ∀ w', Pa bp pv L k d uv bad w' → Only bp w w' → R (.returned (.tuple #[.int .u8 0, .bool false])) w') : Calls Tryz.prog 130 #[.pointer (some ⟨bp, 0, none⟩)] w R := by
  replace fin := hd fin
  go_enter Tryz.func130, Tryz.ntmps130
  go_wp2_with (fail)
  refine accept_no _ h wIN n1 _ ?_
  intro w1 h1 ho1
  replace ho1 := hd ho1
  go_wp2_with (fail)
  refine accept_no _ h1 wOUT n2 _ ?_
  intro w2 h2 ho2
  replace ho2 := hd ho2
  go_wp2_with (fail)
  refine accept_no _ h2 wVAR n3 _ ?_
  intro w3 h3 ho3
  replace h3 := hd h3
  replace ho3 := hd ho3
  go_wp2
  exact cl1 (fin.out _ h3.out ((ho1.out.step ho2.out).step ho3.out)) rfl

end Go.Proofs.YtidhiaaicmfabaaGreatDoor

/- The words of the language, expressions, where parts stand, what a call of the reader leaves alone (seat .ZD alone). -/
namespace Go.Proofs.YtidhiaaicmfabaaGreatDoor
open Go.RowKit Go.Proofs Go.Deep

/-- The words and signs that the language has. -/
def wLP : ByteArray := ⟨#[40]⟩
def wRP : ByteArray := ⟨#[41]⟩
def wLB : ByteArray := ⟨#[91]⟩
def wRB : ByteArray := ⟨#[93]⟩
def wCM : ByteArray := ⟨#[44]⟩
def wSC : ByteArray := ⟨#[59]⟩
def wCO : ByteArray := ⟨#[58]⟩
def wAS : ByteArray := ⟨#[58, 61]⟩
def wMI : ByteArray := ⟨#[45]⟩
def wNOT : ByteArray := ⟨#[78, 79, 84]⟩
def wSHORT : ByteArray := ⟨#[83, 72, 79, 82, 84]⟩
def wTON : ByteArray := ⟨#[84, 79, 78]⟩
def wTRUE : ByteArray := ⟨#[84, 82, 85, 69]⟩
def wFALSE : ByteArray := ⟨#[70, 65, 76, 83, 69]⟩
def wIF : ByteArray := ⟨#[73, 70]⟩
def wCASE : ByteArray := ⟨#[67, 65, 83, 69]⟩
def wFOR : ByteArray := ⟨#[70, 79, 82]⟩
def wEND : ByteArray := ⟨#[69, 78, 68]⟩
def wELSE : ByteArray := ⟨#[69, 76, 83, 69]⟩
def wTHEN : ByteArray := ⟨#[84, 72, 69, 78]⟩
def wOF : ByteArray := ⟨#[79, 70]⟩
def wWHEN : ByteArray := ⟨#[87, 72, 69, 78]⟩
def wTO : ByteArray := ⟨#[84, 79]⟩
def wDO : ByteArray := ⟨#[68, 79]⟩
def wBEGIN : ByteArray := ⟨#[66, 69, 71, 73, 78]⟩
def wTIMER : ByteArray := ⟨#[84, 73, 77, 69, 82]⟩
def wARRAY : ByteArray := ⟨#[65, 82, 82, 65, 89]⟩
def wBOOL : ByteArray := ⟨#[66, 79, 79, 76]⟩
def wINT : ByteArray := ⟨#[73, 78, 84]⟩
def wDINT : ByteArray := ⟨#[68, 73, 78, 84]⟩
/-- What stands between two expressions: its sign, its family, its instruction. -/
def opS : Nat → ByteArray
  | 0 => ⟨#[43]⟩ | 1 => ⟨#[45]⟩ | 2 => ⟨#[42]⟩ | 3 => ⟨#[47]⟩ | 4 => ⟨#[77, 79, 68]⟩ | 5 => ⟨#[61]⟩ | 6 => ⟨#[60]⟩ | 7 => ⟨#[65, 78, 68]⟩ | _ => ⟨#[79, 82]⟩
def opF : Nat → Nat
  | 0 => 0 | 1 => 0 | 2 => 0 | 3 => 0 | 4 => 0 | 5 => 1 | 6 => 2 | 7 => 3 | _ => 3
def opI : Nat → Nat
  | 0 => 6 | 1 => 7 | 2 => 8 | 3 => 9 | 4 => 10 | 5 => 11 | 6 => 12 | 7 => 14 | _ => 15
/-- An expression of a text, as it is read. -/
inductive Ex where
  | lit (n : Int)
  | tru (b : Bool)
  | plc (s : ByteArray)
  | idx (s : ByteArray) (i : Ex)
  | bin (o : Nat) (l r : Ex)
  | neg (e : Ex)
  | sho (e : Ex)
  | dly (t : ByteArray) (on span : Ex)
/-- Where l stands among the parts, from k on. -/
def TokAt (L : List ByteArray) (k : Nat) (l : List ByteArray) : Prop := ∀ j s, l[j]? = some s → nextS L (k + j) = s
theorem TokAt.head {L : List ByteArray} {k : Nat} {s : ByteArray} {l : List ByteArray} (h : TokAt L k (s :: l)) : nextS L k = s := h 0 s rfl
theorem TokAt.tail {L : List ByteArray} {k : Nat} {s : ByteArray} {l : List ByteArray} (h : TokAt L k (s :: l)) : TokAt L (k + 1) l := fun j x hx => by
  have := h (j + 1) x (by simpa using hx)
  rw [show k + 1 + j = k + (j + 1) by omega]; exact this
theorem TokAt.left {L : List ByteArray} {k : Nat} {a b : List ByteArray} (h : TokAt L k (a ++ b)) : TokAt L k a := fun j x hx => h j x (by rw [List.getElem?_append_left (List.getElem?_eq_some_iff.1 hx).1]; exact hx)
theorem TokAt.right {L : List ByteArray} {k : Nat} {a b : List ByteArray} (h : TokAt L k (a ++ b)) : TokAt L (k + a.length) b := fun j x hx => by
  rw [show k + a.length + j = k + (a.length + j) by omega]
  exact h (a.length + j) x (by rw [List.getElem?_append_right (by omega)]; simpa using hx)
/-- What a call of the reader leaves alone: all but the reader itself and the list of the names used. -/
structure Fu (bp : Nat) (u u' : Value) (w w' : World) : Prop where
  os : w'.os = w.os
  tape : w'.tape = w.tape
  output : w'.output = w.output
  size : w.heap.size ≤ w'.heap.size
  block : ∀ k, k < w.heap.size → k ≠ bp → u.ownBlock ≠ some k → w'.heap[k]? = w.heap[k]?
  own : u'.ownBlock = u.ownBlock ∨ ∃ k, u'.ownBlock = some k ∧ w.heap.size ≤ k
section
variable {bp : Nat} {u u' u'' : Value} {w w' w'' : World}
theorem Fu.refl (bp : Nat) (u : Value) (w : World) : Fu bp u u w w := ⟨rfl, rfl, rfl, Nat.le_refl _, fun _ _ _ _ => rfl, .inl rfl⟩
theorem Fu.notold (h : Fu bp u u' w w') {k : Nat} (hk : k < w.heap.size) (hu : u.ownBlock ≠ some k) : u'.ownBlock ≠ some k := by
  intro e
  rcases h.own with h1 | ⟨m, h1, h2⟩
  · exact hu (h1.symm.trans e)
  · rw [h1] at e; injection e with e; omega
theorem Fu.trans (h : Fu bp u u' w w') (k : Fu bp u' u'' w' w'') : Fu bp u u'' w w'' := by
  refine ⟨k.os.trans h.os, k.tape.trans h.tape, k.output.trans h.output, Nat.le_trans h.size k.size, fun i hi hb hu => ?_, ?_⟩
  · exact (k.block i (Nat.lt_of_lt_of_le hi h.size) hb (h.notold hi hu)).trans (h.block i hi hb hu)
  · rcases k.own with e | ⟨m, e, hm⟩
    · rcases h.own with e2 | ⟨m, e2, hm⟩
      · exact .inl (e.trans e2)
      · exact .inr ⟨m, e.trans e2, hm⟩
    · exact .inr ⟨m, e, Nat.le_trans h.size hm⟩
theorem Fu.of_only (h : Only bp w w') : Fu bp u u w w' := ⟨h.os, h.tape, h.output, h.size, fun k hk hb _ => h.block k hk hb, .inl rfl⟩
theorem Fu.of_below (h : Below w.heap.size w w') : Fu bp u u w w' := ⟨h.os, h.tape, h.output, h.size, fun k hk _ _ => h.block k hk, .inl rfl⟩
theorem Fu.cell (h : Fu bp u u' w w') {p : Addr} (hp : p.block < w.heap.size) (hb : p.block ≠ bp) (hu : u.ownBlock ≠ some p.block) : w'.cell? p = w.cell? p := World.cell?_of_block (w := w) (h.block p.block hp hb hu)
end

end Go.Proofs.YtidhiaaicmfabaaGreatDoor

/- append onto an owned row and where it lies; the reader with the names used; use (seat .ZD alone). -/
namespace Go.Proofs.YtidhiaaicmfabaaGreatDoor
open Go.RowKit Go.Proofs Go.Deep

/-- append onto an owned row: where the new one lies, and what is left alone. -/
theorem run_appZ {P : Program} (w : World) (base : Nat) (t ty e : TypeId) (i : TypeInfo) (z : Value) (size bytes : Nat) (ht : P.underlying t = some (.slice e)) (hi : P.info? e = some i) (hz : i.zero = some z)
    (hsize : i.size = size) (hby : i.bytes = bytes) (hzs : z.cells.size = size) (hsz : 0 < size)
    (v : Value) (n : Nat) (xs : List Value) (hown : w.ownsRow base e size v n xs)
    (a : Addr) (m c : Nat) (news : List Value) (hl : news.length = m * size) (hnews : ∀ j u, news[j]? = some u → w.cell? (a.add j) = some u) (h1 : ∀ u ∈ news, u.oneCell' = true)
    (h63 : n + m ≤ maxLen) (hbytes : (n + m) * bytes ≤ 140737488355328) (hbase : base ≤ w.heap.size) :
    ∃ v' w', (Builtin.append_ #[t, t] ty #[v, .slice (some a) m c]).run P w = .ok v' w' ∧ w'.ownsRow base e size v' (n + m) (xs ++ news) ∧ w.grownBy w' v.ownBlock ∧
      (v'.ownBlock = v.ownBlock ∨ (v'.ownBlock = some w.heap.size ∧ w.grownBy w' none)) := by
  obtain ⟨v', w', hr, h2, h3, _, h5⟩ := run_append_own_at (P := P) w base t ty e i z size bytes ht hi hz hsize hby hzs hsz v n xs hown a m c news hl hnews h1 h63 hbytes hbase
  refine ⟨v', w', hr, h2, h3, ?_⟩
  rcases h5 with e | e
  · exact .inl e
  rcases hown.2 with ⟨rfl, rfl⟩ | ⟨g, cap, cur, rfl, hbg, hg, hnc, hcm, hcs, htake⟩
  · exact .inr ⟨e, h3⟩
  · by_cases hroom : n + m ≤ cap
    · subst hsize
      have hfit : n * i.size + news.length ≤ cur.size := by rw [hl, hcs, ← Nat.add_mul]; exact Nat.mul_le_mul_right _ hroom
      have hr2 := run_append_room (P := P) w t ty _ i ht hi g n cap cur hg a m c news hl hnews h1 hroom hfit
      rw [hr2] at hr
      injection hr with e1 e2
      left
      rw [← e1]; rfl
    · have holds : ∀ j u, xs[j]? = some u → w.cell? ((⟨g, 0, none⟩ : Addr).add j) = some u := hown.cells (g := g) rfl
      obtain ⟨v2, w2, hr2, _, h7⟩ := run_append_arg_grows (P := P) w t ty _ i z size bytes ht hi hz hsize hby hzs hsz ⟨g, 0, none⟩ n cap xs hown.1 holds a m c news hl hnews (by omega) h63 hbytes
      rw [hr2] at hr
      injection hr with e1 e2
      subst e2
      exact .inr ⟨e, h7⟩
theorem news_atZ {w : World} {g e : Nat} {news : List Value} (hg : w.heap[g]? = some (.cells news.toArray e)) : ∀ j u, news[j]? = some u → w.cell? ((⟨g, 0, none⟩ : Addr).add j) = some u := by
  intro j u hu
  have hadd : (⟨g, 0, none⟩ : Addr).add j = ⟨g, j, none⟩ := by unfold Addr.add; split <;> simp_all
  rw [hadd, cell_of_row _ g j news.toArray e (0, 0) hg]
  simpa using hu
theorem wpList_appZ {P : Program} (w0 : World) {ops : Array Oper} {rest : List Oper} {o : Oper} {a : Act} {Q : Exit → Act → World → Prop} (hgd : o.guard = none) (s x : Operand) (t : TypeId)
    (ho : o.op = .call { callee := .builtin .append, args := #[s, x], argTypes := #[t, t] })
    (base : Nat) (e : TypeId) (z : Value) (size bytes : Nat) (ht : P.underlying t = some (.slice e))
    (hinfo : (P.info? e).map (fun i => (i.zero, i.size, i.bytes)) = some (some z, size, bytes)) (hzs : z.cells.size = size) (hsz : 0 < size)
    (v : Value) (n : Nat) (xs : List Value) (hs : a.eval s = v) (hown : w0.ownsRow base e size v n xs)
    (ad : Addr) (m c : Nat) (news : List Value) (hx : a.eval x = .slice (some ad) m c) (hl : news.length = m * size) (hg : ∀ j u, news[j]? = some u → w0.cell? (ad.add j) = some u) (h1 : ∀ u ∈ news, u.oneCell' = true)
    (h63 : n + m ≤ maxLen) (hbytes : (n + m) * bytes ≤ 140737488355328) (hbase : base ≤ w0.heap.size)
    (h : ∀ v' w', w'.ownsRow base e size v' (n + m) (xs ++ news) → w0.grownBy w' v.ownBlock → (v'.ownBlock = v.ownBlock ∨ (v'.ownBlock = some w0.heap.size ∧ w0.grownBy w' none)) → wpList P ops Q rest (a.put o.dst v') w') :
    wpList P ops Q (o :: rest) a w0 := by
  obtain ⟨i, hi, hzz⟩ := Option.map_eq_some_iff.1 hinfo
  simp only [Prod.mk.injEq] at hzz
  obtain ⟨hz, hs1, hb1⟩ := hzz
  refine wpList_plain hgd fun K hK => ?_
  obtain ⟨v', w', hr, h2, h3, h5⟩ := run_appZ (P := P) w0 base t o.type e i z size bytes ht hi hz hs1 hb1 hzs hsz v n xs hown ad m c news hl hg h1 h63 hbytes hbase
  unfold Oper.wp execOp
  simp only [ho, resolve, invoke, builtin, Sem.run_bind, Sem.run_pure, Result.andThen_ok, List.map_toArray, List.map_cons, List.map_nil, hs, hx, hr]
  exact hK _ _ (h v' w' h2 h3 h5)
theorem farZ {w w' : World} {v : Value} {a : Addr} {u : Value} (hg : w.grownBy w' v.ownBlock) (h : w.cell? a = some u) (hne : some a.block ≠ v.ownBlock) : w'.cell? a = some u := by
  rw [World.cell?_of_block (hg.block a.block (World.block_lt_of_cell? w a h) hne)]; exact h
theorem frzZ {w w' : World} {v : Value} {a : Addr} (hg : w.grownBy w' v.ownBlock) (h : w.frozen? a = false) (hl : a.block < w.heap.size) (hne : some a.block ≠ v.ownBlock) : w'.frozen? a = false := by
  rw [World.frozen?_of_block (hg.block a.block hl hne)]; exact h
theorem cellZ {w : World} {a : Addr} {v : Value} (h : w.cell? a = some v) (o : Obj) : (w.alloc o).cell? a = some v := by
  rw [World.cell?_alloc_lt _ _ _ (World.block_lt_of_cell? w a h)]; exact h
theorem frozZ {w : World} {a : Addr} (h : w.frozen? a = false) (hl : a.block < w.heap.size) (o : Obj) : (w.alloc o).frozen? a = false := by
  rw [World.frozen?_of_block (w := w) (w' := w.alloc o) (Below.heap_alloc w o a.block hl)]; exact h
theorem newZ {w : World} {o : Obj} {g : Nat} (h : g = w.heap.size) : (w.alloc o).heap[g]? = some o := by subst h; exact heap_alloc_new w o
/-- An owned row lies as it lay where its block is as it was. -/
theorem own_keep {w w' : World} {base e sz n : Nat} {v : Value} {xs : List Value} (h : w.ownsRow base e sz v n xs) (hk : ∀ k, v.ownBlock = some k → base ≤ k → k < w.heap.size → w'.heap[k]? = w.heap[k]?) : w'.ownsRow base e sz v n xs := by
  obtain ⟨h1, h2⟩ := h
  refine ⟨h1, ?_⟩
  rcases h2 with h2 | ⟨g, cap, cur, rfl, hb, hg, r⟩
  · exact .inl h2
  · have hlt : g < w.heap.size := (Array.getElem?_eq_some_iff.1 hg).1
    exact .inr ⟨g, cap, cur, rfl, hb, (hk g rfl hb hlt).trans hg, r⟩
/-- The table of operators, as it lies. -/
def opC : List Value := (List.range 9).flatMap (fun o => [.string (opS o), .int .u8 (opF o), .int .u8 (opI o)])
/-- The reader with the names used so far, at no fault; the table of operators. -/
structure Ps (B bp : Nat) (pv : Value) (L : List ByteArray) (k : Nat) (d : Int) (us : List ByteArray) (uv : Value) (w : World) : Prop where
  pa : Pa bp pv L k d uv false w
  own : w.ownsRow B 9 1 uv us.length (strV us)
  lt : bp < B
  le : B ≤ w.heap.size
  few : us.length ≤ k
  old : ∀ g cp, pv = .slice (some ⟨g, 0, none⟩) L.length cp → g < B
  ops : ∀ i v, opC[i]? = some v → w.cell? ⟨4, i, none⟩ = some v
  opB : 4 < B ∧ 4 ≠ bp
section
variable {B bp : Nat} {pv : Value} {L : List ByteArray} {k : Nat} {d : Int} {us : List ByteArray} {uv : Value} {w : World}
theorem Ps.only (h : Ps B bp pv L k d us uv w) {k' : Nat} {d' : Int} {w' : World} (hp : Pa bp pv L k' d' uv false w') (ho : Only bp w w') (hk : k ≤ k') : Ps B bp pv L k' d' us uv w' :=
  ⟨hp, own_keep h.own (fun j _ hB hj => ho.block j hj (by have := h.lt; omega)), h.lt, Nat.le_trans h.le ho.size, Nat.le_trans h.few hk, h.old, fun i v hv => (ho.cell (p := ⟨4, i, none⟩) (by have := h.opB.1; have := h.le; show 4 < _; omega) h.opB.2).trans (h.ops i v hv), h.opB⟩
theorem Ps.fu (h : Ps B bp pv L k d us uv w) {k' : Nat} {d' : Int} {w' : World} (hp : Pa bp pv L k' d' uv false w') (ho : Only bp w w') (hk : k ≤ k') : Ps B bp pv L k' d' us uv w' ∧ Fu bp uv uv w w' := ⟨h.only hp ho hk, Fu.of_only ho⟩
end
theorem Pa.setUsed {bp : Nat} {pv : Value} {L : List ByteArray} {k : Nat} {d : Int} {uv : Value} {bad : Bool} {w : World} (h : Pa bp pv L k d uv bad w) (uv' : Value) : Pa bp pv L k d uv' bad (w.setCell ⟨bp, 3, none⟩ uv') := h.set 3 _ h.le (fun i hi => by
  have : i = 0 ∨ i = 1 ∨ i = 2 ∨ i = 3 ∨ i = 4 := by omega
  rcases this with rfl | rfl | rfl | rfl | rfl <;> rfl)
set_option maxRecDepth 100000 in
set_option maxHeartbeats 1000000 in
theorem use_yes {w : World} {B bp : Nat} {pv : Value} {L : List ByteArray} {k : Nat} {d : Int} {us : List ByteArray} {uv : Value} (h : Ps B bp pv L k d us uv w) (hn : LowName (nextS L k)) (R : Ending → World → Prop)
    (fin : ∀ w' uv', Ps B bp pv L (k + 1) d (us ++ [nextS L k]) uv' w' → Fu bp uv uv' w w' → R (.returned (.string (nextS L k))) w') : Calls Tryz.prog 238 #[.pointer (some ⟨bp, 0, none⟩)] w R := by
  replace fin := hd fin
  go_enter Tryz.func238, Tryz.ntmps238
  go_wp2_with (fail)
  refine name_yes _ h.pa hn _ ?_
  intro w1 h1 ho1
  have hp := h.only h1 ho1 (by omega)
  have hfu : Fu bp uv uv w w1 := Fu.of_only ho1
  have hfew := h.few
  clear ho1 h1 h
  generalize nextS L k = s at *
  have c3 : w1.cell? ⟨bp, 3, none⟩ = some uv := hp.pa.row.cell (i := 3) (by omega)
  have f3 := hp.pa.row.frozen 3
  have lb := hp.pa.row.lt
  have hlt := hp.lt
  have hle := hp.le
  have hsm : us.length ≤ 1000000 := by have := hp.few; have := hp.pa.le; have := hp.pa.sm; omega
  have nb1 : some bp ≠ uv.ownBlock := fun e => by have := (hp.own.lt bp e.symm).1; omega
  have nb2 : some w1.heap.size ≠ uv.ownBlock := fun e => by have := (hp.own.lt w1.heap.size e.symm).2; omega
  obtain ⟨ao, cp, rfl⟩ := own_slS hp.own
  have hr := hd hp.own
  replace nb1 := hd nb1
  replace nb2 := hd nb2
  replace hp := hd hp
  replace hfu := hd hfu
  go_wp2_with (first | (at_builtin; refine wpList_appZ _ rfl _ _ 81 rfl B 9 _ 1 16 ulStrs infoStrZ rfl (by decide) _ us.length (strV us) rfl (by exact hr.out.alloc _) ⟨w1.heap.size, 0, none⟩ 1 1 [.string s] rfl rfl (by exact news_atZ (newZ (by simp))) (oneStr _) (by unfold maxLen; omega) (by omega) (by simp; omega) ?_; intro v2 w2 hown2 hgr2 hl2; obtain ⟨ao2, cp2, rfl⟩ := own_slS hown2; have cx : w2.cell? ⟨bp, 3, none⟩ = some (.slice ao us.length cp) := farZ hgr2 (by exact cellZ c3 _) nb1.out; have fx : w2.frozen? ⟨bp, 3, none⟩ = false := frzZ hgr2 (by exact frozZ f3 lb _) (by simp; omega) nb1.out; replace hown2 := hd hown2; replace hgr2 := hd hgr2; replace hl2 := hd hl2))
  have ha : Only bp w1 (w1.alloc (Obj.cells #[.string s] 9)) := (Only.refl bp w1).alloc _
  have hb : ∀ i, i < w1.heap.size → (Value.slice ao us.length cp).ownBlock ≠ some i → w2.heap[i]? = w1.heap[i]? := fun i hi hne => (hgr2.out.block i (by simp; omega) (fun e => hne e.symm)).trans (Below.heap_alloc _ _ _ hi)
  have hps := hp.out
  have hbn : (Value.slice ao us.length cp).ownBlock ≠ some bp := fun e => nb1.out e.symm
  have hpa : Pa bp pv L (k + 1) d (.slice ao us.length cp) false w2 := by
    obtain ⟨po, pc, e, hc, hp2⟩ := hps.pa.parts
    refine ⟨hps.pa.row.of_block (hb _ lb hbn), hps.pa.le, hps.pa.sm, po, pc, e, hc, fun h0 => ?_⟩
    obtain ⟨g, e1, e2, e3, e4⟩ := hp2 h0
    have hg : (Value.slice ao us.length cp).ownBlock ≠ some g := fun e => by have := hps.old g pc (by rw [← e1]; assumption); have := (hps.own.lt g e).1; omega
    exact ⟨g, e1, e2, Nat.lt_of_lt_of_le e3 (Nat.le_trans ha.size hgr2.out.size), fun j x hj => (World.cell?_of_block (w := w1) (a := ⟨g, j, none⟩) (hb g e3 hg)).trans (e4 j x hj)⟩
  have hsz : w1.heap.size ≤ w2.heap.size := Nat.le_trans ha.size hgr2.out.size
  refine cl1 (fin.out _ (.slice ao2 (us.length + 1) cp2) ⟨hpa.setUsed _, ?_, hlt, by rw [World.size_setCell]; omega, by rw [List.length_append]; simpa using hfew, hps.old, fun i v hv => ?_, hps.opB⟩ (hfu.out.trans ?_)) rfl
  rotate_left
  · have h4 : (Value.slice ao us.length cp).ownBlock ≠ some 4 := fun e => by have := (hps.own.lt 4 e).1; have := hps.opB.1; omega
    rw [World.cell?_setCell_other _ _ _ _ (by intro e; injection e with e; exact hps.opB.2 e.symm)]
    exact (World.cell?_of_block (w := w1) (a := ⟨4, i, none⟩) (hb 4 (by have := hps.opB.1; omega) h4)).trans (hps.ops i v hv)
  rotate_left
  · have := ownsRow_setCell_below (a := ⟨bp, 3, none⟩) hown2.out hlt (.slice ao2 (us.length + 1) cp2)
    rw [List.length_append]
    simpa [strV] using this
  · refine ⟨hgr2.out.os, hgr2.out.tape, hgr2.out.output, by rw [World.size_setCell]; exact hsz, fun i hi hne hu => ?_, ?_⟩
    · rw [Below.heap_setCell _ _ _ _ hne]; exact hb i hi hu
    · rcases hl2.out with e | ⟨e, _⟩
      · exact .inl e
      · exact .inr ⟨_, e, by simp⟩

end Go.Proofs.YtidhiaaicmfabaaGreatDoor

/- Steps of the reader with the names used; place without an index (seat .ZD alone). -/
namespace Go.Proofs.YtidhiaaicmfabaaGreatDoor
open Go.RowKit Go.Proofs Go.Deep

section
variable {B bp : Nat} {pv : Value} {L : List ByteArray} {k : Nat} {d : Int} {us : List ByteArray} {uv : Value} {w : World}
theorem pAcc (h : Ps B bp pv L k d us uv w) {s : ByteArray} (hs : nextS L k = s) (h0 : s.size ≠ 0) (R : Ending → World → Prop) (fin : ∀ w', Ps B bp pv L (k + 1) d us uv w' → Fu bp uv uv w w' → R (.returned (.bool true)) w') :
    Calls Tryz.prog 196 #[.pointer (some ⟨bp, 0, none⟩), .string s] w R :=
  accept_yes _ h.pa s hs (fun e => h0 (by rw [e]; rfl)) _ (fun w' h1 ho => fin w' (h.only h1 ho (by omega)) (Fu.of_only ho))
theorem pNot (h : Ps B bp pv L k d us uv w) {s : ByteArray} (hs : ((nextS L k).toList == s.toList) = false) (R : Ending → World → Prop) (fin : ∀ w', Ps B bp pv L k d us uv w' → Fu bp uv uv w w' → R (.returned (.bool false)) w') :
    Calls Tryz.prog 196 #[.pointer (some ⟨bp, 0, none⟩), .string s] w R :=
  accept_no _ h.pa s hs _ (fun w' h1 ho => fin w' (h.only h1 ho (by omega)) (Fu.of_only ho))
theorem pExp (h : Ps B bp pv L k d us uv w) {s : ByteArray} (hs : nextS L k = s) (h0 : s.size ≠ 0) (R : Ending → World → Prop) (fin : ∀ w', Ps B bp pv L (k + 1) d us uv w' → Fu bp uv uv w w' → R (.returned (.tuple #[])) w') :
    Calls Tryz.prog 132 #[.pointer (some ⟨bp, 0, none⟩), .string s] w R :=
  expect_yes _ h.pa s hs (fun e => h0 (by rw [e]; rfl)) _ (fun w' h1 ho => fin w' (h.only h1 ho (by omega)) (Fu.of_only ho))
theorem pNext (h : Ps B bp pv L k d us uv w) (R : Ending → World → Prop) (fin : ∀ w', Ps B bp pv L k d us uv w' → Fu bp uv uv w w' → R (.returned (.string (nextS L k))) w') :
    Calls Tryz.prog 134 #[.pointer (some ⟨bp, 0, none⟩)] w R :=
  next_any _ h.pa _ (fun w' h1 hb => fin w' (h.only h1 (Only.of_below hb) (by omega)) (Fu.of_below hb))
theorem pName (h : Ps B bp pv L k d us uv w) (hn : LowName (nextS L k)) (R : Ending → World → Prop) (fin : ∀ w', Ps B bp pv L (k + 1) d us uv w' → Fu bp uv uv w w' → R (.returned (.string (nextS L k))) w') :
    Calls Tryz.prog 197 #[.pointer (some ⟨bp, 0, none⟩)] w R :=
  name_yes _ h.pa hn _ (fun w' h1 ho => fin w' (h.only h1 ho (by omega)) (Fu.of_only ho))
theorem pEnter (h : Ps B bp pv L k d us uv w) (hd0 : 0 ≤ d ∧ d ≤ 9) (R : Ending → World → Prop) (fin : ∀ w', Ps B bp pv L k (d + 1) us uv w' → Fu bp uv uv w w' → R (.returned (.tuple #[])) w') :
    Calls Tryz.prog 234 #[.pointer (some ⟨bp, 0, none⟩)] w R :=
  enter_ok _ h.pa hd0 _ (fun w' h1 ho => fin w' (h.only h1 ho (by omega)) (Fu.of_only ho))
theorem Ps.alloc (h : Ps B bp pv L k d us uv w) (o : Obj) : Ps B bp pv L k d us uv (w.alloc o) :=
  h.only (h.pa.below ((Below.refl _ w).alloc (Nat.le_refl _) o)) ((Only.refl bp w).alloc o) (by omega)
theorem Ps.drew (h : Ps B bp pv L k d us uv w) : Ps B bp pv L k d us uv w.drew :=
  h.only (h.pa.below (below_drewN (Below.refl _ w) 1)) ((Only.refl bp w).drew) (by omega)
/-- A block that is no part of the reader is as it was. -/
theorem Ps.apart (h : Ps B bp pv L k d us uv w) {g : Nat} {cur : Array Value} {T : Nat} {fz : Nat × Nat} (hg : w.heap[g]? = some (.cells cur T fz)) (hT : T ≠ 9) (hB : bp ≠ g) {uv' : Value} {w' : World} (hf : Fu bp uv uv' w w') : w'.heap[g]? = some (.cells cur T fz) := by
  have hlt : g < w.heap.size := (Array.getElem?_eq_some_iff.1 hg).1
  refine (hf.block g hlt (fun e => hB e.symm) (fun e => ?_)).trans hg
  rcases h.own.2 with ⟨rfl, _⟩ | ⟨g', cap, cur', rfl, _, hg', _⟩
  · simp [Value.ownBlock] at e
  · simp only [Value.ownBlock, Option.some.injEq] at e
    subst e
    rw [hg] at hg'
    injection hg' with e1
    injection e1 with _ e2
    exact hT e2
theorem Ps.setNew (h : Ps B bp pv L k d us uv w) {g : Nat} {cur : Array Value} {T : Nat} {fz : Nat × Nat} (hg : w.heap[g]? = some (.cells cur T fz)) (hT : T ≠ 9) (hB : B ≤ g) (i : Nat) (v : Value) : Ps B bp pv L k d us uv (w.setCell ⟨g, i, none⟩ v) := by
  have hlt := h.lt
  have hlt2 := h.pa.row.lt
  have hb : ∀ j, j ≠ g → (w.setCell ⟨g, i, none⟩ v).heap[j]? = w.heap[j]? := fun j hj => Below.heap_setCell _ _ _ _ hj
  refine ⟨?_, own_keep h.own (fun j hj _ _ => hb j (fun e => ?_)), h.lt, by rw [World.size_setCell]; exact h.le, h.few, h.old, fun j x hx => (World.cell?_of_block (w := w) (a := ⟨4, j, none⟩) (hb 4 (by have := h.opB.1; omega))).trans (h.ops j x hx), h.opB⟩
  · obtain ⟨po, pc, e, hc, hp2⟩ := h.pa.parts
    refine ⟨h.pa.row.of_block (hb _ (by omega)), h.pa.le, h.pa.sm, po, pc, e, hc, fun h0 => ?_⟩
    obtain ⟨q, e1, e2, e3, e4⟩ := hp2 h0
    have hq := h.old q pc (by rw [e, e1])
    exact ⟨q, e1, e2, by rw [World.size_setCell]; exact e3, fun j x hj => (World.cell?_of_block (w := w) (a := ⟨q, j, none⟩) (hb q (by omega))).trans (e4 j x hj)⟩
  · subst e
    rcases h.own.2 with ⟨rfl, _⟩ | ⟨g', cap, cur', rfl, _, hg', _⟩
    · simp [Value.ownBlock] at hj
    · simp only [Value.ownBlock, Option.some.injEq] at hj
      subst hj
      rw [hg] at hg'
      injection hg' with e1
      injection e1 with _ e2
      exact hT e2
theorem Fu.setNew {u u' : Value} {w' : World} (h : Fu bp u u' w w') {g : Nat} (hg : w.heap.size ≤ g) (i : Nat) (v : Value) : Fu bp u u' w (w'.setCell ⟨g, i, none⟩ v) :=
  ⟨h.os, h.tape, h.output, by rw [World.size_setCell]; exact h.size, fun j hj hb hu => (Below.heap_setCell _ _ _ _ (by show j ≠ g; omega)).trans (h.block j hj hb hu), h.own⟩
theorem heapSet {g i T : Nat} {cur : Array Value} {fz : Nat × Nat} (h : w.heap[g]? = some (.cells cur T fz)) (v : Value) : (w.setCell ⟨g, i, none⟩ v).heap[g]? = some (.cells (cur.setIfInBounds i v) T fz) := by
  simp [World.setCell, Array.getElem?_modify, h]
end
theorem allocCells {w : World} {cur : Array Value} {T : Nat} {fz : Nat × Nat} : (w.alloc (.cells cur T fz)).heap[w.heap.size]? = some (.cells cur T fz) := heap_alloc_new w _
theorem cellOf {w : World} {g i : Nat} {cur : Array Value} {T : Nat} {fz : Nat × Nat} {v : Value} (h : w.heap[g]? = some (.cells cur T fz)) (hv : cur[i]? = some v) : w.cell? ⟨g, i, none⟩ = some v := by
  simp [World.cell?, h, hv]
theorem frozOf {w : World} {g i : Nat} {cur : Array Value} {T : Nat} (h : w.heap[g]? = some (.cells cur T)) : w.frozen? ⟨g, i, none⟩ = false := by
  simp [World.frozen?, h]
set_option maxRecDepth 100000 in
set_option maxHeartbeats 1000000 in
theorem place_plain {w : World} {B bp : Nat} {pv : Value} {L : List ByteArray} {k : Nat} {d : Int} {us : List ByteArray} {uv : Value} (h : Ps B bp pv L k d us uv w) (hn : LowName (nextS L k)) (hl : ((nextS L (k + 1)).toList == wLB.toList) = false) (R : Ending → World → Prop)
    (fin : ∀ w' uv', Ps B bp pv L (k + 1) d (us ++ [nextS L k]) uv' w' → Fu bp uv uv' w w' → R (.returned (.agg #[.string (nextS L k), .nilIface])) w') : Calls Tryz.prog 232 #[.pointer (some ⟨bp, 0, none⟩)] w R := by
  have hne : bp ≠ w.heap.size := by have := h.pa.row.lt; omega
  have hB0 := h.le
  replace fin := hd fin
  go_enter Tryz.func232, Tryz.ntmps232
  go_wp2_with (fail)
  refine use_yes (h.alloc _) hn _ ?_
  intro w1 uv1 h1 hf1
  have hb1 := (h.alloc _).apart allocCells (by decide) hne hf1
  have hf2 := hd (((Fu.of_below (bp := bp) (u := uv) ((Below.refl _ w).alloc (Nat.le_refl _) _)).trans hf1))
  have hn1 : bp ≠ w1.heap.size := by have := h1.pa.row.lt; omega
  have hl1 : w.heap.size < w1.heap.size := by have := hf1.size; simp at this; omega
  clear hf1 h
  go_wp2_with (fail)
  refine pNot (s := wLB) (h1.alloc _) hl _ ?_
  intro w2 h2 hf3
  have hb2 := (h1.alloc (Obj.cells #[Value.string (nextS L k), Value.nilIface] 305)).apart ((Below.heap_alloc _ _ _ hl1).trans hb1) (by decide) hne hf3
  have hb3 := (h1.alloc _).apart allocCells (by decide) hn1 hf3
  have a0 := cellOf (i := 0) hb2 rfl
  have a1 := cellOf (i := 1) hb2 rfl
  have e0 := cellOf (i := 0) hb3 rfl
  have e1 := cellOf (i := 1) hb3 rfl
  have fa := frozOf (i := 0) hb2
  have fb := frozOf (i := 1) hb2
  have hs2 := hf3.size
  have hf4 := hd (hf2.out.trans (((Fu.of_below ((Below.refl _ w1).alloc (Nat.le_refl _) _)).trans hf3)))
  replace h2 := hd h2
  generalize hz : w.heap.size = z at *
  replace hz := hd hz
  generalize w1.heap.size = z1 at *
  clear hb1 hf3 h1 hf2 hn hl
  generalize nextS L k = s at *
  replace hb2 := hd hb2
  replace hb3 := hd hb3
  go_wp2
  have r0 : ((w2.setCell ⟨z, 0, none⟩ (Value.string s)).setCell ⟨z, 1, none⟩ Value.nilIface).cell? ⟨z, 0, none⟩ = some (.string s) := by
    rw [World.cell?_setCell_other _ _ _ _ (by simp)]; exact World.cell?_setCell_same _ _ _ a0
  have r1 : ((w2.setCell ⟨z, 0, none⟩ (Value.string s)).setCell ⟨z, 1, none⟩ Value.nilIface).cell? ⟨z, 1, none⟩ = some .nilIface := World.cell?_setCell_same _ _ _ (by rw [World.cell?_setCell_other _ _ _ _ (by simp)]; exact a1)
  refine bodyPost_ret (v := .agg #[.string s, .nilIface]) (by simp [results, Tryz.results232, go_sem, r0, r1]) rfl ?_
  exact fin.out _ uv1 ((h2.out.setNew hb2.out (by decide) hB0 0 _).setNew (heapSet hb2.out _) (by decide) hB0 1 _) ((hf4.out.setNew (Nat.le_of_eq hz.out) 0 _).setNew (Nat.le_of_eq hz.out) 1 _)

end Go.Proofs.YtidhiaaicmfabaaGreatDoor

/- The table of operators; operator (seat .ZD alone). -/
namespace Go.Proofs.YtidhiaaicmfabaaGreatDoor
open Go.RowKit Go.Proofs Go.Deep

theorem opS_size (o : Nat) : (opS o).size ≠ 0 := by unfold opS; split <;> decide
theorem op_tab : ((List.range 9).all fun o => (List.range 9).all fun i => i == o || !((opS o).toList == (opS i).toList)) = true := by kernel_rfl
theorem op_ne {o i : Nat} (ho : o < 9) (hi : i < 9) (h : i ≠ o) : ((opS o).toList == (opS i).toList) = false := by
  have := List.all_eq_true.1 (List.all_eq_true.1 op_tab o (List.mem_range.2 ho)) i (List.mem_range.2 hi)
  rw [beq_eq_false_iff_ne.2 h, Bool.false_or] at this
  simpa using this
theorem opIdx : ∀ (i : Nat), i < 9 → ∀ (w : World), (Instr.index 362 (.agg opC.toArray) (.int .i64 (i : Int))).run Tryz.prog w = .ok (.agg #[.string (opS i), .int .u8 (opF i), .int .u8 (opI i)]) w
  | 0, _, _ => by kernel_rfl
  | 1, _, _ => by kernel_rfl
  | 2, _, _ => by kernel_rfl
  | 3, _, _ => by kernel_rfl
  | 4, _, _ => by kernel_rfl
  | 5, _, _ => by kernel_rfl
  | 6, _, _ => by kernel_rfl
  | 7, _, _ => by kernel_rfl
  | 8, _, _ => by kernel_rfl
  | _ + 9, h, _ => absurd h (by omega)
set_option maxRecDepth 100000 in
set_option maxHeartbeats 2000000 in
theorem operator_yes {w : World} {B bp : Nat} {pv : Value} {L : List ByteArray} {k : Nat} {d : Int} {us : List ByteArray} {uv : Value} (h : Ps B bp pv L k d us uv w) (o : Nat) (ho : o < 9) (hs : nextS L k = opS o) (R : Ending → World → Prop)
    (fin : ∀ w', Ps B bp pv L (k + 1) d us uv w' → Fu bp uv uv w w' → R (.returned (.agg #[.string (opS o), .int .u8 (opF o), .int .u8 (opI o)])) w') : Calls Tryz.prog 262 #[.pointer (some ⟨bp, 0, none⟩)] w R := by
  have hne : bp ≠ w.heap.size := by have := h.pa.row.lt; omega
  have hB0 := h.le
  have h4 : 4 < w.heap.size := by have := h.opB.1; omega
  have hno : ∀ i, i < 9 → i ≠ o → ((nextS L k).toList == (opS i).toList) = false := fun i hi hne => by rw [hs]; exact op_ne ho hi hne
  obtain ⟨C, hC⟩ : ∃ C, C = opC := ⟨_, rfl⟩
  have hcs : w.rangeAt 4 0 C := fun j v hv => by rw [Nat.zero_add]; exact h.ops j v (hC ▸ hv)
  have hcs2 : (w.alloc (Obj.cells #[.string ⟨#[]⟩, .int .u8 0, .int .u8 0] 349)).rangeAt 4 0 C := fun j v hv => (World.cell?_of_block (w := w) (a := ⟨4, 0 + j, none⟩) (Below.heap_alloc _ _ _ h4)).trans (hcs j v hv)
  have hlen : (Tryz.prog.info? 362).map (·.size) = some C.length := by rw [hC]; kernel_rfl
  replace hcs2 := hd hcs2
  replace hlen := hd hlen
  replace hC := hd hC
  clear hcs
  replace fin := hd fin
  replace hno := hd hno
  replace h := hd h
  go_enter Tryz.func262, Tryz.ntmps262
  go_wp2_with (refine wpList_load_mid rfl 362 _ rfl 4 0 rfl C (.array 9 349) hcs2.out (by kernel_rfl) rfl hlen.out ?_)
  go_loopw [4, 6] (fun q iv wr => ∃ i : Nat, i ≤ o ∧ iv = .int .i64 (i : Int) ∧ Ps B bp pv L k d us uv wr ∧ Fu bp uv uv w wr ∧ wr.heap[w.heap.size]? = some (.cells #[.string ⟨#[]⟩, .int .u8 0, .int .u8 0] 349)) (fun _ iv _ => 9 - (intOf iv).toNat)
  case atStart => exact ⟨0, by omega, rfl, h.out.alloc _, Fu.of_below ((Below.refl _ w).alloc (Nat.le_refl _) _), allocCells⟩
  case round =>
    obtain ⟨i, hi, rfl, hp, hf, hb⟩ := hrel
    have hidx := opIdx i (by omega)
    rw [← hC.out] at hidx
    have hrl := hf.size
    have hl0 : w.heap.size < wr.heap.size := (Array.getElem?_eq_some_iff.1 hb).1
    have hnr : bp ≠ wr.heap.size := by have := hp.pa.row.lt; omega
    have t9 : decide ((i : Int) < 9) = true := by simp; omega
    replace hp := hd hp
    replace hf := hd hf
    replace hb := hd hb
    go_wp2_with (fail)
    by_cases he : i = o
    · subst he
      refine pAcc (s := opS i) (hp.out.alloc _) hs (opS_size _) _ ?_
      intro w1 h1 hf1
      have hb2 := (hp.out.alloc (Obj.cells #[.string (opS i), .int .u8 (opF i), .int .u8 (opI i)] 349)).apart ((Below.heap_alloc _ _ _ hl0).trans hb.out) (by decide) hne hf1
      have hb3 := (hp.out.alloc _).apart allocCells (by decide) hnr hf1
      have a0 := cellOf (i := 0) hb2 rfl
      have a1 := cellOf (i := 1) hb2 rfl
      have a2 := cellOf (i := 2) hb2 rfl
      have e0 := cellOf (i := 0) hb3 rfl
      have e1 := cellOf (i := 1) hb3 rfl
      have e2 := cellOf (i := 2) hb3 rfl
      have fa := frozOf (i := 0) hb2
      have fb := frozOf (i := 1) hb2
      have fc := frozOf (i := 2) hb2
      have hs2 := hf1.size
      have hf4 := hd (hf.out.trans (((Fu.of_below ((Below.refl _ wr).alloc (Nat.le_refl _) _)).trans hf1)))
      replace h1 := hd h1
      generalize hz : w.heap.size = z at *
      replace hz := hd hz
      generalize wr.heap.size = z1 at *
      clear hf1 hp hf hs
      generalize opS i = s at *
      generalize (opF i : Int) = fi at *
      generalize (opI i : Int) = ii at *
      replace hb2 := hd hb2
      replace hb3 := hd hb3
      go_wp2
      have hbz := heapSet (i := 2) (heapSet (i := 1) (heapSet (i := 0) hb2.out (.string s)) (.int .u8 fi)) (.int .u8 ii)
      have r0 := cellOf (i := 0) hbz rfl
      have r1 := cellOf (i := 1) hbz rfl
      have r2 := cellOf (i := 2) hbz rfl
      refine bodyPost_ret (v := .agg #[.string s, .int .u8 fi, .int .u8 ii]) (by simp [results, Tryz.results262, go_sem, r0, r1, r2]) rfl ?_
      exact fin.out _ (((h1.out.setNew hb2.out (by decide) hB0 0 _).setNew (heapSet hb2.out _) (by decide) hB0 1 _).setNew (heapSet (heapSet hb2.out _) _) (by decide) hB0 2 _) (((hf4.out.setNew (Nat.le_of_eq hz.out) 0 _).setNew (Nat.le_of_eq hz.out) 1 _).setNew (Nat.le_of_eq hz.out) 2 _)
    · refine pNot (s := opS i) (hp.out.alloc _) (hno.out i (by omega) he) _ ?_
      intro w1 h1 hf1
      have hb2 := (hp.out.alloc (Obj.cells #[.string (opS i), .int .u8 (opF i), .int .u8 (opI i)] 349)).apart ((Below.heap_alloc _ _ _ hl0).trans hb.out) (by decide) hne hf1
      have hf4 := hd (hf.out.trans (((Fu.of_below ((Below.refl _ wr).alloc (Nat.le_refl _) _)).trans hf1)))
      replace h1 := hd h1
      replace hb2 := hd hb2
      clear hf1 hp hf hs
      go_wp2
      exact ⟨⟨i + 1, by omega, by go_num, h1.out, hf4.out, hb2.out⟩, by simp [intOf]; omega⟩

end Go.Proofs.YtidhiaaicmfabaaGreatDoor

/- Expressions as they are written and as they lie in memory (seat .ZD alone). -/
namespace Go.Proofs.YtidhiaaicmfabaaGreatDoor
open Go.RowKit Go.Proofs Go.Deep

/-- A number as it is written. -/
def digs : Nat → List UInt8
  | n => if h : n < 10 then [UInt8.ofNat (48 + n)] else digs (n / 10) ++ [UInt8.ofNat (48 + n % 10)]
termination_by n => n
def numW (n : Nat) : ByteArray := ⟨(digs n).toArray⟩
def litW (n : Int) : List ByteArray := if n < 0 then [wMI, numW n.natAbs] else [numW n.natAbs]
/-- An expression as it is written. -/
def toks : Ex → List ByteArray
  | .lit n => litW n
  | .tru b => [if b then wTRUE else wFALSE]
  | .plc s => [s]
  | .idx s i => s :: wLB :: (toks i ++ [wRB])
  | .bin o l r => wLP :: (toks l ++ opS o :: (toks r ++ [wRP]))
  | .neg e => wNOT :: toks e
  | .sho e => wSHORT :: toks e
  | .dly t a b => wTON :: wLP :: t :: wCM :: (toks a ++ wCM :: (toks b ++ [wRP]))
/-- The names that stand in it. -/
def namesE : Ex → List ByteArray
  | .lit _ => []
  | .tru _ => []
  | .plc s => [s]
  | .idx s i => s :: namesE i
  | .bin _ l r => namesE l ++ namesE r
  | .neg e => namesE e
  | .sho e => namesE e
  | .dly t a b => t :: (namesE a ++ namesE b)
def depE : Ex → Int
  | .lit _ => 0
  | .tru _ => 0
  | .plc _ => 0
  | .idx _ i => depE i + 1
  | .bin _ l r => max (depE l) (depE r) + 1
  | .neg e => depE e + 1
  | .sho e => depE e + 1
  | .dly _ a b => max (depE a) (depE b) + 1
def prF (vl vr : Value) (o : Nat) (kd : Int) (i : Nat) : Value := if i = 0 then vl else if i = 1 then vr else if i = 2 then .string (opS o) else if i = 3 then .int .u8 (opF o) else if i = 4 then .int .u8 (opI o) else .int .u8 kd
/-- An expression in memory: its pairs lie in the blocks from lo to hi, each with its kind. -/
def ExIn (kk : Ex → Int) : Ex → Nat → Nat → World → Value → Prop
  | .lit n, _, _, _, v => v = .iface 331 (.agg #[.int .i64 n])
  | .tru b, _, _, _, v => v = .iface 333 (.agg #[.bool b])
  | .plc s, _, _, _, v => v = .iface 305 (.agg #[.string s, .nilIface])
  | .idx s i, lo, hi, w, v => ∃ vi, v = .iface 305 (.agg #[.string s, vi]) ∧ ExIn kk i lo hi w vi
  | .bin o l r, lo, hi, w, v => ∃ b vl vr, v = .iface 346 (.pointer (some ⟨b, 0, none⟩)) ∧ lo ≤ b ∧ b < hi ∧ w.rowIs b 351 6 (prF vl vr o (kk (.bin o l r))) ∧ ExIn kk l lo b w vl ∧ ExIn kk r (b + 1) hi w vr
  | .neg e, lo, hi, w, v => ∃ ve, v = .iface 335 (.agg #[ve]) ∧ ExIn kk e lo hi w ve
  | .sho e, lo, hi, w, v => ∃ ve, v = .iface 336 (.agg #[ve]) ∧ ExIn kk e lo hi w ve
  | .dly t a s, lo, hi, w, v => ∃ va vs m, v = .iface 354 (.agg #[.string t, va, vs]) ∧ lo ≤ m ∧ m ≤ hi ∧ ExIn kk a lo m w va ∧ ExIn kk s m hi w vs
theorem ExIn.keep {kk : Ex → Int} {w w' : World} : ∀ {e : Ex} {lo hi : Nat} {v : Value}, ExIn kk e lo hi w v → (∀ b cur, lo ≤ b → b < hi → w.heap[b]? = some (.cells cur 351 (0, 0)) → w'.heap[b]? = w.heap[b]?) → ExIn kk e lo hi w' v
  | .lit _, _, _, _, h, _ => h
  | .tru _, _, _, _, h, _ => h
  | .plc _, _, _, _, h, _ => h
  | .idx _ _, _, _, _, ⟨vi, e1, h⟩, k => ⟨vi, e1, h.keep k⟩
  | .bin _ _ _, lo, hi, _, ⟨b, vl, vr, e1, h1, h2, h3, h4, h5⟩, k => ⟨b, vl, vr, e1, h1, h2, by
      obtain ⟨cur, hc⟩ : ∃ cur, w.heap[b]? = some (.cells cur 351 (0, 0)) := by
        obtain ⟨c, hc, _⟩ := h3
        exact ⟨c, hc⟩
      exact h3.of_block (k b cur h1 h2 hc), h4.keep (fun c cur a1 a2 a3 => k c cur a1 (by omega) a3), h5.keep (fun c cur a1 a2 a3 => k c cur (by omega) a2 a3)⟩
  | .neg _, _, _, _, ⟨vi, e1, h⟩, k => ⟨vi, e1, h.keep k⟩
  | .sho _, _, _, _, ⟨vi, e1, h⟩, k => ⟨vi, e1, h.keep k⟩
  | .dly _ _ _, lo, hi, _, ⟨va, vs, m, e1, h1, h2, h3, h4⟩, k => ⟨va, vs, m, e1, h1, h2, h3.keep (fun c cur a1 a2 a3 => k c cur a1 (by omega) a3), h4.keep (fun c cur a1 a2 a3 => k c cur (by omega) a2 a3)⟩
theorem ExIn.wide {kk : Ex → Int} {w : World} : ∀ {e : Ex} {lo hi lo' hi' : Nat} {v : Value}, ExIn kk e lo hi w v → lo' ≤ lo → hi ≤ hi' → ExIn kk e lo' hi' w v
  | .lit _, _, _, _, _, _, h, _, _ => h
  | .tru _, _, _, _, _, _, h, _, _ => h
  | .plc _, _, _, _, _, _, h, _, _ => h
  | .idx _ _, _, _, _, _, _, ⟨vi, e1, h⟩, a, b => ⟨vi, e1, h.wide a b⟩
  | .bin _ _ _, _, _, _, _, _, ⟨b, vl, vr, e1, h1, h2, h3, h4, h5⟩, p, q => ⟨b, vl, vr, e1, by omega, by omega, h3, h4.wide p (by omega), h5.wide (by omega) q⟩
  | .neg _, _, _, _, _, _, ⟨vi, e1, h⟩, a, b => ⟨vi, e1, h.wide a b⟩
  | .sho _, _, _, _, _, _, ⟨vi, e1, h⟩, a, b => ⟨vi, e1, h.wide a b⟩
  | .dly _ _ _, _, _, _, _, _, ⟨va, vs, m, e1, h1, h2, h3, h4⟩, a, b => ⟨va, vs, m, e1, by omega, by omega, h3.wide a (by omega), h4.wide (by omega) b⟩
theorem ExIn.iface {kk : Ex → Int} {w : World} {e : Ex} {lo hi : Nat} {v : Value} (h : ExIn kk e lo hi w v) : ∃ t u, v = .iface t u := by
  cases e <;> first | exact ⟨_, _, h⟩ | (obtain ⟨_, e1, _⟩ := h; exact ⟨_, _, e1⟩) | (obtain ⟨_, _, _, e1, _⟩ := h; exact ⟨_, _, e1⟩)
/-- The reader reads the expression that stands ahead. -/
def ExprOk (e : Ex) : Prop := ∀ {w : World} {B bp : Nat} {pv : Value} {L : List ByteArray} {k : Nat} {d : Int} {us : List ByteArray} {uv : Value}, Ps B bp pv L k d us uv w → TokAt L k (toks e) → ((nextS L (k + (toks e).length)).toList == wLB.toList) = false → 0 ≤ d → d + depE e ≤ 10 →
    ∀ (R : Ending → World → Prop), (∀ w' v uv', Ps B bp pv L (k + (toks e).length) d (us ++ namesE e) uv' w' → Fu bp uv uv' w w' → ExIn (fun _ => 0) e w.heap.size w'.heap.size w' v → R (.returned v) w') →
    Calls Tryz.prog 233 #[.pointer (some ⟨bp, 0, none⟩)] w R
theorem depE_nonneg : ∀ e : Ex, 0 ≤ depE e
  | .lit _ => Int.le_refl _
  | .tru _ => Int.le_refl _
  | .plc _ => Int.le_refl _
  | .idx _ i => by have := depE_nonneg i; simp only [depE]; omega
  | .bin _ l r => by have := depE_nonneg l; have := depE_nonneg r; simp only [depE]; omega
  | .neg e => by have := depE_nonneg e; simp only [depE]; omega
  | .sho e => by have := depE_nonneg e; simp only [depE]; omega
  | .dly _ a b => by have := depE_nonneg a; have := depE_nonneg b; simp only [depE]; omega
theorem Fu.exIn {kk : Ex → Int} {B bp : Nat} {pv : Value} {L : List ByteArray} {k : Nat} {d : Int} {us : List ByteArray} {uv uv' : Value} {w w' : World} (hf : Fu bp uv uv' w w') (hp : Ps B bp pv L k d us uv w) {e : Ex} {lo hi : Nat} {v : Value} (h : ExIn kk e lo hi w v) (hb : bp < lo) : ExIn kk e lo hi w' v :=
  h.keep (fun b cur h1 _ hc => (hp.apart hc (by decide) (by omega) hf).trans hc.symm)
theorem leave_d (w : World) (bp : Nat) (d : Int) (hd0 : 0 ≤ d ∧ d ≤ 11) (c2 : w.cell? ⟨bp, 2, none⟩ = some (.int .i64 d)) (f2 : w.frozen? ⟨bp, 2, none⟩ = false) (u : FrameMode) :
    CallsD Tryz.prog 235 #[.pointer (some ⟨bp, 0, none⟩)] u w fun ed u' w' => u' = u ∧ (ed = .returned (.tuple #[]) ∧ w' = w.setCell ⟨bp, 2, none⟩ (.int .i64 (d - 1))) := by
  have j1 : IntKind.i64.wrap (d - 1) = d - 1 := IntWalk.i64_in _ (by omega)
  go_enter_d Tryz.func235, Tryz.ntmps235
  go_wp2
  go_end0
  exact ⟨rfl, rfl⟩

end Go.Proofs.YtidhiaaicmfabaaGreatDoor

/- A pair is read (seat .ZD alone). -/
namespace Go.Proofs.YtidhiaaicmfabaaGreatDoor
open Go.RowKit Go.Proofs Go.Deep

theorem op_lb_tab : ((List.range 9).all fun o => !((opS o).toList == wLB.toList)) = true := by kernel_rfl
theorem op_lb {o : Nat} (ho : o < 9) : ((opS o).toList == wLB.toList) = false := by
  have := List.all_eq_true.1 op_lb_tab o (List.mem_range.2 ho)
  simpa using this
theorem rowOf {w : World} {b T n : Nat} {cur : Array Value} {f : Nat → Value} (h : w.heap[b]? = some (.cells cur T)) (hs : cur.size = n) (hf : ∀ i, i < n → cur[i]? = some (f i)) : w.rowIs b T n f := ⟨cur, h, hs, hf⟩
set_option maxRecDepth 100000 in
set_option maxHeartbeats 2000000 in
theorem pair_ok {o : Nat} {l r : Ex} (ho : o < 9) (hl : ExprOk l) (hr : ExprOk r) {w : World} {B bp : Nat} {pv : Value} {L : List ByteArray} {k : Nat} {d : Int} {us : List ByteArray} {uv : Value} (h : Ps B bp pv L k d us uv w) (ht : TokAt L k (toks l ++ opS o :: (toks r ++ [wRP]))) (hd0 : 0 ≤ d) (hd1 : d + depE (.bin o l r) ≤ 10)
    (R : Ending → World → Prop) (fin : ∀ w' v uv', Ps B bp pv L (k + (toks l ++ opS o :: (toks r ++ [wRP])).length) d (us ++ namesE (.bin o l r)) uv' w' → Fu bp uv uv' w w' → ExIn (fun _ => 0) (.bin o l r) w.heap.size w'.heap.size w' v → R (.returned v) w') :
    Calls Tryz.prog 249 #[.pointer (some ⟨bp, 0, none⟩)] w R := by
  have hdl := depE_nonneg l
  have hdr := depE_nonneg r
  simp only [depE] at hd1
  have n1 : ((nextS L (k + (toks l).length)).toList == wLB.toList) = false := by
    rw [ht.right.head]; exact op_lb ho
  have n2 : ((nextS L (k + (toks l).length + 1 + (toks r).length)).toList == wLB.toList) = false := by
    rw [ht.right.tail.right.head]; kernel_rfl
  replace fin := hd fin
  go_enter_defers Tryz.func249, Tryz.ntmps249
  go_wp2_with (fail)
  refine pEnter h ⟨hd0, by omega⟩ _ ?_
  intro w1 h1 hf1
  go_wp2_with (fail)
  refine hl h1 ht.left n1 (by omega) (by omega) _ ?_
  intro w2 vl uv2 h2 hf2 hx2
  obtain ⟨tl, ul, rfl⟩ := hx2.iface
  have hlt1 := h1.pa.row.lt
  have hlt2 := h2.pa.row.lt
  have hz1 := hf1.size
  have hz2 := hf2.size
  have hw0 := h.pa.row.lt
  have hB0 := h2.le
  have hne : bp ≠ w2.heap.size := by omega
  have hfA := hd (hf1.trans hf2)
  clear hf1 hf2
  go_wp2_with (fail)
  refine operator_yes (h2.alloc _) o ho ht.right.head _ ?_
  intro w3 h3 hf3
  have hb3 := (h2.alloc _).apart allocCells (by decide) hne hf3
  have hz3 := hf3.size
  rw [World.size_alloc] at hz3
  have hx3 := hd (hf3.exIn (h2.alloc _) (hx2.keep (fun b cur _ hb hc => Below.heap_alloc _ _ _ (by omega))) (show bp < w1.heap.size by omega))
  have hfB := hd (hfA.out.trans ((Fu.of_below ((Below.refl _ w2).alloc (Nat.le_refl _) _)).trans hf3))
  clear hf3 hfA hx2
  have a2 := cellOf (i := 2) hb3 rfl
  have a3 := cellOf (i := 3) hb3 rfl
  have a4 := cellOf (i := 4) hb3 rfl
  have fz := fun i => frozOf (i := i) hb3
  generalize hg : w2.heap.size = b at *
  replace hg := hd hg
  have hbb := hd (heapSet (i := 4) (heapSet (i := 3) (heapSet (i := 2) hb3 (.string (opS o))) (.int .u8 (opF o))) (.int .u8 (opI o)))
  have h4 := hd (((h3.setNew hb3 (by decide) hB0 2 (.string (opS o))).setNew (heapSet hb3 _) (by decide) hB0 3 (.int .u8 (opF o))).setNew (heapSet (heapSet hb3 _) _) (by decide) hB0 4 (.int .u8 (opI o)))
  replace h3 := hd h3
  replace hb3 := hd hb3
  go_wp2_with (fail)
  refine hr h4.out (by exact ht.right.tail.left) n2 (by omega) (by omega) _ ?_
  intro w5 vr uv5 h5 hf5 hx5
  obtain ⟨tr, ur, rfl⟩ := hx5.iface
  have hb5 := h4.out.apart hbb.out (by decide) hne hf5
  have hz5 := hf5.size
  simp only [World.size_setCell] at hz5 hx5
  have hx4 : ExIn (fun _ => 0) l w1.heap.size b (((w3.setCell ⟨b, 2, none⟩ (Value.string (opS o))).setCell ⟨b, 3, none⟩ (Value.int .u8 (opF o))).setCell ⟨b, 4, none⟩ (Value.int .u8 (opI o))) (.iface tl ul) :=
    hx3.out.keep (fun c cur _ hc _ => ((Below.heap_setCell _ _ _ _ (show c ≠ b by omega)).trans (Below.heap_setCell _ _ _ _ (show c ≠ b by omega))).trans (Below.heap_setCell _ _ _ _ (show c ≠ b by omega)))
  have hxl := hf5.exIn h4.out hx4 (by omega)
  have hlt5 := h5.pa.row.lt
  have hfC := hd (((((hfB.out.setNew (show w.heap.size ≤ b by omega) 2 (.string (opS o))).setNew (show w.heap.size ≤ b by omega) 3 (.int .u8 (opF o))).setNew (show w.heap.size ≤ b by omega) 4 (.int .u8 (opI o))).trans hf5).setNew (show w.heap.size ≤ b by omega) 1 (.iface tr ur))
  have a1 := cellOf (i := 1) hb5 rfl
  have f1 := frozOf (i := 1) hb5
  have hb6 := hd (heapSet (i := 1) hb5 (.iface tr ur))
  have h6 := hd (h5.setNew hb5 (by decide) hB0 1 (.iface tr ur))
  have hxl6 := hd (hxl.keep (w' := w5.setCell ⟨b, 1, none⟩ (.iface tr ur)) (fun c cur _ hc _ => (Below.heap_setCell _ _ _ _ (show c ≠ b by omega))))
  have hxr6 := hd ((hx5.wide (show b + 1 ≤ w3.heap.size by omega) (Nat.le_refl _)).keep (w' := w5.setCell ⟨b, 1, none⟩ (.iface tr ur)) (fun c cur hc _ _ => (Below.heap_setCell _ _ _ _ (show c ≠ b by omega))))
  clear hx4 hxl hx5 hx3 hf5 hb5 h5 h4 hbb
  go_wp2_with (fail)
  refine pExp (s := wRP) h6.out (by exact ht.right.tail.right.head) (by decide) _ ?_
  intro w7 h7 hf7
  have hb7 := h6.out.apart hb6.out (by decide) hne hf7
  have hxl7 := hf7.exIn h6.out hxl6.out (by omega)
  have hxr7 := hf7.exIn h6.out hxr6.out (by omega)
  have hz7 := hf7.size
  rw [World.size_setCell] at hz7
  have hfD := hfC.out.trans hf7
  have c2 : w7.cell? ⟨bp, 2, none⟩ = some (.int .i64 (d + 1)) := h7.pa.row.cell (i := 2) (by omega)
  have f2 := h7.pa.row.frozen 2
  clear hxl6 hxr6 hf7 hb6 h6 hfC
  replace hb7 := hd hb7
  replace hxl7 := hd hxl7
  replace hxr7 := hd hxr7
  replace hfD := hd hfD
  replace h7 := hd h7
  go_wp2
  refine leaves_cons (f := 235) (args := #[.pointer (some ⟨bp, 0, none⟩)]) (by simp) (by simp [go_sem]) ?_
  refine (leave_d _ bp (d + 1) (by omega) c2 f2 .returning).mono ?_
  rintro e u' w8 ⟨rfl, rfl, rfl⟩
  refine ⟨_, results_tmp rfl _ _ _, ?_⟩
  have ed : d + 1 - 1 = d := by omega
  rw [ed]
  have hz8 : (w7.setCell ⟨bp, 2, none⟩ (.int .i64 d)).heap.size = w7.heap.size := World.size_setCell _ _ _
  have hk : ∀ c, w.heap.size ≤ c → (w7.setCell ⟨bp, 2, none⟩ (.int .i64 d)).heap[c]? = w7.heap[c]? := fun c hc => Below.heap_setCell _ _ _ _ (show c ≠ bp by omega)
  have hps : Ps B bp pv L (k + (toks l).length + 1 + (toks r).length + 1) d (us ++ namesE l ++ namesE r) uv5 (w7.setCell ⟨bp, 2, none⟩ (.int .i64 d)) := h7.out.only (h7.out.pa.setDep d) ((Only.refl bp w7).setCell (a := ⟨bp, 2, none⟩) (.inl rfl) _) (by omega)
  refine cl1 (fin.out _ (.iface 346 (.pointer (some ⟨b, 0, none⟩))) uv5 ?_ (hfD.out.trans (Fu.of_only ((Only.refl bp w7).setCell (a := ⟨bp, 2, none⟩) (.inl rfl) _))) ⟨b, .iface tl ul, .iface tr ur, rfl, by omega, by rw [hz8]; omega, ?_, ?_, ?_⟩) rfl
  · simp only [namesE, List.length_append, List.length_cons, List.length_nil]
    rw [List.append_assoc] at hps
    rw [show k + ((toks l).length + ((toks r).length + (0 + 1) + 1)) = k + (toks l).length + 1 + (toks r).length + 1 by omega]
    exact hps
  · refine rowOf ((hk b (by omega)).trans hb7.out) rfl (fun i hi => ?_)
    have : i = 0 ∨ i = 1 ∨ i = 2 ∨ i = 3 ∨ i = 4 ∨ i = 5 := by omega
    rcases this with rfl | rfl | rfl | rfl | rfl | rfl <;> rfl
  · exact (hxl7.out.wide (by omega) (Nat.le_refl _)).keep (fun c cur hc _ _ => hk c hc)
  · rw [hz8]
    refine (hxr7.out.wide (Nat.le_refl _) ?_).keep (fun c cur hc _ _ => hk c (by omega))
    omega

end Go.Proofs.YtidhiaaicmfabaaGreatDoor

/- Expressions are read: names and pairs (seat .ZD alone). -/
namespace Go.Proofs.YtidhiaaicmfabaaGreatDoor
open Go.RowKit Go.Proofs Go.Deep

theorem isNumber_no (w : World) (s : ByteArray) (h1 : s.size = 0 ∨ isDg (bt s 0) = false) (R : Ending → World → Prop) (fin : R (.returned (.bool false)) w) : Calls Tryz.prog 223 #[.string s] w R := by
  replace fin := hd fin
  by_cases h0 : s.size = 0
  · have t0 := nil_beq (t := s) h0
    go_enter Tryz.func223, Tryz.ntmps223
    go_wp2
    exact cl1 fin.out rfl
  · have t0 := pos_beq (t := s) h0
    have hb := bt_of s 0 (by omega)
    have j0 : (0 : Int) < (s.size : Int) := by omega
    have h2 : isDg (bt s 0) = false := by rcases h1 with h | h; exact absurd h h0; exact h
    go_enter Tryz.func223, Tryz.ntmps223
    go_wp2_with (first | (go_at_call 193; refine isDigit_any _ _ _ ?_; rw [h2]))
    exact cl1 fin.out (by first | rfl | simp)
theorem isNumber_yes (w : World) (s : ByteArray) (h0 : s.size ≠ 0) (h2 : isDg (bt s 0) = true) (R : Ending → World → Prop) (fin : R (.returned (.bool true)) w) : Calls Tryz.prog 223 #[.string s] w R := by
  replace fin := hd fin
  have t0 := pos_beq (t := s) h0
  have hb := bt_of s 0 (by omega)
  have j0 : (0 : Int) < (s.size : Int) := by omega
  go_enter Tryz.func223, Tryz.ntmps223
  go_wp2_with (first | (go_at_call 193; refine isDigit_any _ _ _ ?_; rw [h2]))
  exact cl1 fin.out (by first | rfl | simp)
theorem head_ne {s : ByteArray} {c : UInt8} {l : List UInt8} (h : 0 < s.size) (hb : bt s 0 ≠ c.toNat) : (s.toList == (c :: l)) = false := by
  refine beq_eq_false_iff_ne.2 (fun e => hb ?_)
  have h2 : s.data.toList = c :: l := by rw [← ByteArray.toList_eq]; exact e
  have h3 : s.data[0]? = some c := by rw [← Array.getElem?_toList, h2]; rfl
  have h4 : bt s 0 = c.toNat := by
    have := bt_of s 0 h
    rw [← this]
    have h5 := Array.getElem?_eq_some_iff.1 h3
    obtain ⟨_, h5⟩ := h5
    show (s.data[0]).toNat = _
    rw [h5]
  exact h4
theorem low_first {s : ByteArray} (h : LowName s) : 97 ≤ bt s 0 ∧ bt s 0 ≤ 122 := by
  have h1 := h.first
  have h2 := h.low 0 h.pos
  simp only [isLt, Bool.or_eq_true, Bool.and_eq_true, decide_eq_true_eq] at h1
  omega
set_option maxRecDepth 100000 in
set_option maxHeartbeats 2000000 in
theorem expr_plc {s : ByteArray} (hn : LowName s) : ExprOk (.plc s) := by
  intro w B bp pv L k d us uv h ht hfo hd0 hd1 R fin
  simp only [toks, List.length_cons, List.length_nil, Nat.zero_add, namesE] at ht hfo fin
  have hs := ht.head
  have hlo := low_first hn
  have t1 : (s.toList == [45]) = false := head_ne hn.pos (by show bt s 0 ≠ 45; omega)
  have t2 : isDg (bt s 0) = false := by simp [isDg]; omega
  replace fin := hd fin
  go_enter Tryz.func233, Tryz.ntmps233
  go_wp2_with (fail)
  refine pNext h _ ?_
  intro w1 h1 hf1
  rw [hs]
  go_wp2_with (fail)
  refine isNumber_no _ s (.inr t2) _ ?_
  go_wp2_with (fail)
  refine isName_yes _ s hn.pos hn.le hn.first hn.low _ ?_
  go_wp2_with (fail)
  refine place_plain h1 (by rw [hs]; exact hn) hfo _ ?_
  intro w2 uv2 h2 hf2
  rw [hs] at h2 ⊢
  have hf3 := hd (hf1.trans hf2)
  replace h2 := hd h2
  clear hf1 hf2
  go_wp2
  exact cl1 (fin.out _ (.iface 305 (.agg #[.string s, .nilIface])) uv2 h2.out hf3.out rfl) rfl
set_option maxRecDepth 100000 in
set_option maxHeartbeats 2000000 in
theorem expr_bin {o : Nat} {l r : Ex} (ho : o < 9) (hl : ExprOk l) (hr : ExprOk r) : ExprOk (.bin o l r) := by
  intro w B bp pv L k d us uv h ht hfo hd0 hd1 R fin
  simp only [toks, List.length_cons] at ht hfo fin
  have hs := ht.head
  have t1 : (wLP.toList == [45]) = false := by kernel_rfl
  have t2 : isDg (bt wLP 0) = false := by decide
  have t3 : isLt (bt wLP 0) = false := by decide
  replace fin := hd fin
  go_enter Tryz.func233, Tryz.ntmps233
  go_wp2_with (fail)
  refine pNext h _ ?_
  intro w1 h1 hf1
  rw [hs]
  go_wp2_with (fail)
  refine isNumber_no _ wLP (.inr t2) _ ?_
  go_wp2_with (fail)
  refine isName_no _ wLP (.inr t3) _ ?_
  go_wp2_with (fail)
  refine pNot (s := wTRUE) h1 (by rw [hs]; kernel_rfl) _ ?_
  intro w2 h2 hf2
  go_wp2_with (fail)
  refine pNot (s := wFALSE) h2 (by rw [hs]; kernel_rfl) _ ?_
  intro w3 h3 hf3
  go_wp2_with (fail)
  refine pAcc (s := wLP) h3 hs (by decide) _ ?_
  intro w4 h4 hf4
  have hfA := hd (((hf1.trans hf2).trans hf3).trans hf4)
  have hz1 : w.heap.size ≤ w4.heap.size := hfA.out.size
  clear hf1 hf2 hf3 hf4
  go_wp2_with (fail)
  refine pair_ok ho hl hr h4 ht.tail hd0 hd1 _ ?_
  intro w5 v uv5 h5 hf5 hx5
  have hx6 := hd (hx5.wide hz1 (Nat.le_refl _))
  have hfB := hd (hfA.out.trans hf5)
  rw [show k + 1 + (toks l ++ opS o :: (toks r ++ [wRP])).length = k + ((toks l ++ opS o :: (toks r ++ [wRP])).length + 1) by omega] at h5
  replace h5 := hd h5
  obtain ⟨t, u, rfl⟩ := hx5.iface
  clear hf5 hx5
  go_wp2
  exact cl1 (fin.out _ (.iface t u) uv5 h5.out hfB.out hx6.out) rfl

end Go.Proofs.YtidhiaaicmfabaaGreatDoor
