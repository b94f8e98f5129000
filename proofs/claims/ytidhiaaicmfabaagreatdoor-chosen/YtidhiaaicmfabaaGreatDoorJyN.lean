/- The code of a text. -/
import Derived.Test.YtidhiaaicmfabaaGreatDoorKaA
import Derived.WalkKit
import Derived.WalkSpells
import Derived.WalkLawsBesides
import Derived.Deep.OwnRows
import Derived.BigQuiet
import Derived.Handy
import Derived.Deep.Light
import Derived.Deep.RegionHeld3
import Derived.Deep.RegionWith
import Derived.Test.YtidhiaaicmfabaaGreatDoorJyM
import Derived.Maps.AppendAt
import Derived.ArgAppend

/- The writer; put (seat .ZD alone). -/
namespace Go.Proofs.YtidhiaaicmfabaaGreatDoor
open Go.RowKit Go.Proofs Go.Deep

def u8V (l : List Int) : List Value := l.map (fun n => .int .u8 n)
def wrF (bm : Nat) (cv : Value) (sp : Int) (kp : Bool) (i : Nat) : Value := if i = 0 then .map (some bm) else if i = 1 then cv else if i = 2 then .int .u8 sp else .bool kp
/-- The writer with the code that it has, and all that it looks at. -/
structure Wr (B bw bm : Nat) (fst : Nat → Int) (vs : List Vd) (bs : List Nat) (sp : Int) (kp : Bool) (cv : Value) (code : List Int) (w : World) : Prop where
  row : w.rowIs bw 155 4 (wrF bm cv sp kp)
  own : w.ownsRow B 5 1 cv code.length (u8V code)
  lt : bw < B
  le : B ≤ w.heap.size
  nm : NmAt w bm vs.length (findB vs bs)
  vars : VarsIn fst 0 w vs bs
  names : ∀ v ∈ vs, LowName v.name
  few : code.length ≤ 1000000
section
variable {B bw bm : Nat} {fst : Nat → Int} {vs : List Vd} {bs : List Nat} {sp : Int} {kp : Bool} {cv cv' : Value} {code : List Int} {w w' : World}
theorem Wr.obj (h : Wr B bw bm fst vs bs sp kp cv code w) (hf : Fu bw cv cv' w w') {b : Nat} {o : Obj} (hb : w.heap[b]? = some o) (h1 : ∀ cur, o ≠ .cells cur 155 (0, 0)) (h2 : ∀ cur, o ≠ .cells cur 5 (0, 0)) : w'.heap[b]? = some o := by
  have hlt : b < w.heap.size := (Array.getElem?_eq_some_iff.1 hb).1
  refine (hf.block b hlt (fun e => ?_) (fun e => ?_)).trans hb
  · subst e
    obtain ⟨c, hc, _⟩ := h.row
    rw [hb] at hc
    injection hc with e1
    exact h1 c e1
  · rcases h.own.2 with ⟨rfl, _⟩ | ⟨g', cap, cur', rfl, _, hg', _⟩
    · simp [Value.ownBlock] at e
    · simp only [Value.ownBlock, Option.some.injEq] at e
      subst e
      rw [hb] at hg'
      injection hg' with e1
      exact h2 cur' e1
theorem Wr.tag (h : Wr B bw bm fst vs bs sp kp cv code w) (hf : Fu bw cv cv' w w') {b T : Nat} {cur : Array Value} {fz : Nat × Nat} (hb : w.heap[b]? = some (.cells cur T fz)) (h1 : T ≠ 155) (h2 : T ≠ 5) : w'.heap[b]? = some (.cells cur T fz) :=
  h.obj hf hb (fun c e => by injection e with _ e; exact h1 e) (fun c e => by injection e with _ e; exact h2 e)
theorem Wr.nm' (h : Wr B bw bm fst vs bs sp kp cv code w) (hf : Fu bw cv cv' w w') : NmAt w' bm vs.length (findB vs bs) := by
  obtain ⟨D, ⟨es, c, h1, h2⟩, h3⟩ := h.nm
  exact ⟨D, ⟨es, c, h.obj hf h1 (fun _ e => by cases e) (fun _ e => by cases e), h2⟩, h3⟩
theorem Wr.vars' (h : Wr B bw bm fst vs bs sp kp cv code w) (hf : Fu bw cv cv' w w') : VarsIn fst 0 w' vs bs := h.vars.keep (fun b cur _ hc => (h.tag hf hc (by decide) (by decide)).trans hc.symm)
theorem Wr.exIn {kk : Ex → Int} {e : Ex} {lo hi : Nat} {v : Value} (h : Wr B bw bm fst vs bs sp kp cv code w) (hf : Fu bw cv cv' w w') (hx : ExIn kk e lo hi w v) : ExIn kk e lo hi w' v := hx.keep (fun b cur _ _ hc => (h.tag hf hc (by decide) (by decide)).trans hc.symm)
theorem Wr.below (h : Wr B bw bm fst vs bs sp kp cv code w) (hb : Below w.heap.size w w') : Wr B bw bm fst vs bs sp kp cv code w' :=
  ⟨h.row.of_block (hb.block _ h.row.lt), own_keep h.own (fun j _ _ hj => hb.block j hj), h.lt, Nat.le_trans h.le hb.size, h.nm.keep (hb.block _ h.nm.lt), h.vars.keep (fun b _ _ hc => hb.block b (Array.getElem?_eq_some_iff.1 hc).1), h.names, h.few⟩
theorem Wr.alloc (h : Wr B bw bm fst vs bs sp kp cv code w) (o : Obj) : Wr B bw bm fst vs bs sp kp cv code (w.alloc o) := h.below ((Below.refl _ w).alloc (Nat.le_refl _) o)
end
theorem ulBytes : Tryz.prog.underlying 133 = some (.slice 5) := by kernel_rfl
theorem infoU8 : (Tryz.prog.info? 5).map (fun i => (i.zero, i.size, i.bytes)) = some (some (.int .u8 0), 1, 1) := by kernel_rfl
theorem oneU8 (l : List Int) : ∀ x ∈ u8V l, x.oneCell' = true := by
  intro x hx
  unfold u8V at hx
  obtain ⟨n, _, rfl⟩ := List.mem_map.1 hx
  rfl
set_option maxRecDepth 100000 in
set_option maxHeartbeats 2000000 in
theorem put_ok {B bw bm : Nat} {fst : Nat → Int} {vs : List Vd} {bs : List Nat} {sp : Int} {kp : Bool} {cv : Value} {code : List Int} {w : World} (h : Wr B bw bm fst vs bs sp kp cv code w) (ns : List Int) (g m c : Nat) (hm : m = ns.length) (hg : w.heap[g]? = some (.cells (u8V ns).toArray 5)) (hns : code.length + ns.length ≤ 1000000) (R : Ending → World → Prop)
    (fin : ∀ w' cv', Wr B bw bm fst vs bs sp kp cv' (code ++ ns) w' → Fu bw cv cv' w w' → R (.returned (.tuple #[])) w') : Calls Tryz.prog 74 #[.pointer (some ⟨bw, 0, none⟩), .slice (some ⟨g, 0, none⟩) m c] w R := by
  subst hm
  have c1 : w.cell? ⟨bw, 1, none⟩ = some cv := h.row.cell (i := 1) (by omega)
  have f1 := h.row.frozen 1
  have lb := h.row.lt
  have hlt := h.lt
  have hle := h.le
  have nb1 : some bw ≠ cv.ownBlock := fun e => by have := (h.own.lt bw e.symm).1; omega
  obtain ⟨ao, cp, rfl⟩ := own_slS h.own
  have hr := hd h.own
  replace nb1 := hd nb1
  replace fin := hd fin
  replace h := hd h
  have hln : (u8V ns).length = ns.length * 1 := by unfold u8V; simp
  go_enter Tryz.func74, Tryz.ntmps74
  go_wp2_with (first | (at_builtin; refine wpList_appZ _ rfl _ _ 133 rfl B 5 _ 1 1 ulBytes infoU8 rfl (by decide) _ code.length (u8V code) rfl (by exact hr.out) ⟨g, 0, none⟩ ns.length c (u8V ns) rfl hln (by exact news_atZ hg) (oneU8 ns) (by unfold maxLen; omega) (by omega) (by omega) ?_; intro v2 w2 hown2 hgr2 hl2; obtain ⟨ao2, cp2, rfl⟩ := own_slS hown2; have cx : w2.cell? ⟨bw, 1, none⟩ = some (.slice ao code.length cp) := farZ hgr2 c1 nb1.out; have fx : w2.frozen? ⟨bw, 1, none⟩ = false := frzZ hgr2 f1 lb nb1.out; replace hown2 := hd hown2; replace hgr2 := hd hgr2; replace hl2 := hd hl2))
  go_end0
  have hb : ∀ i, i < w.heap.size → (Value.slice ao code.length cp).ownBlock ≠ some i → w2.heap[i]? = w.heap[i]? := fun i hi hne => hgr2.out.block i hi (fun e => hne e.symm)
  have hsz : w.heap.size ≤ w2.heap.size := hgr2.out.size
  have hfu : Fu bw (.slice ao code.length cp) (.slice ao2 (code.length + ns.length) cp2) w (w2.setCell ⟨bw, 1, none⟩ (.slice ao2 (code.length + ns.length) cp2)) := by
    refine ⟨hgr2.out.os, hgr2.out.tape, hgr2.out.output, by rw [World.size_setCell]; exact hsz, fun i hi hne hu => ?_, ?_⟩
    · rw [Below.heap_setCell _ _ _ _ hne]; exact hb i hi hu
    · rcases hl2.out with e | ⟨e, _⟩
      · exact .inl e
      · exact .inr ⟨_, e, Nat.le_refl _⟩
  refine fin.out _ _ ⟨?_, ?_, hlt, by rw [World.size_setCell]; omega, h.out.nm' hfu, h.out.vars' hfu, h.out.names, by rw [List.length_append]; exact hns⟩ hfu
  · refine ((h.out.row.of_block (hb _ lb (fun e => nb1.out e.symm))).set 1 _).congr (fun i hi => ?_)
    have : i = 0 ∨ i = 1 ∨ i = 2 ∨ i = 3 := by omega
    rcases this with rfl | rfl | rfl | rfl <;> rfl
  · have := ownsRow_setCell_below (a := ⟨bw, 1, none⟩) hown2.out hlt (.slice ao2 (code.length + ns.length) cp2)
    rw [List.length_append]
    unfold u8V at this ⊢
    rw [List.map_append]
    exact this

end Go.Proofs.YtidhiaaicmfabaaGreatDoor

/- The code of a name (seat .ZD alone). -/
namespace Go.Proofs.YtidhiaaicmfabaaGreatDoor
open Go.RowKit Go.Proofs Go.Deep

/-- The first cell of a variable. -/
def firstV : List Vd → Int → ByteArray → Int
  | [], _, _ => 0
  | v :: t, a, s => if s = v.name then a else firstV t (a + v.len) s
def fstV (vs : List Vd) (i : Nat) : Int := lenV (vs.take i)
theorem look_first : ∀ (vs : List Vd) (bs : List Nat) (s : ByteArray) (v : Vd) (a : Int), bs.length = vs.length → lookV vs s = some v → ∃ (i b : Nat), vs[i]? = some v ∧ bs[i]? = some b ∧ findB vs bs s = some b ∧ a + lenV (vs.take i) = firstV vs a s
  | [], _, _, _, _, _, h => by simp [lookV] at h
  | _ :: _, [], _, _, _, h, _ => by simp at h
  | u :: vs, b :: bs, s, v, a, h, hl => by
    simp only [lookV] at hl
    simp only [findB, firstV]
    by_cases e : s = u.name
    · rw [if_pos e] at hl
      injection hl with hl
      subst hl
      exact ⟨0, b, rfl, rfl, if_pos e, by rw [if_pos e]; simp [lenV]⟩
    · rw [if_neg e] at hl
      obtain ⟨i, c, h1, h2, h3, h4⟩ := look_first vs bs s v (a + u.len) (by simpa using h) hl
      refine ⟨i + 1, c, by simpa using h1, by simpa using h2, by rw [if_neg e]; exact h3, ?_⟩
      rw [if_neg e, ← h4]
      simp only [List.take_succ_cons, lenV]
      omega
/-- A number's four bytes. -/
def numB (n : Int) : List Int := [1, n / 16777216 % 256, n / 65536 % 256, n / 256 % 256, n % 256]
def lenOf (vs : List Vd) (s : ByteArray) : Int := match lookV vs s with | some v => v.len | none => 0
/-- The code of an expression. -/
def codeE (vs : List Vd) : Ex → List Int
  | .lit n => numB n
  | .tru b => numB (if b then 1 else 0)
  | .plc s => [2, firstV vs 0 s]
  | .idx s i => codeE vs i ++ [4, firstV vs 0 s, lenOf vs s]
  | .bin o l r => codeE vs l ++ codeE vs r ++ [(opI o : Int)] ++ (if kE vs (.bin o l r) = 1 then [16] else [])
  | .neg e => codeE vs e ++ [13]
  | .sho e => codeE vs e ++ [16]
  | .dly t a s => codeE vs a ++ codeE vs s ++ [21, firstV vs 0 t]
def wfn : Ex → Nat
  | .lit _ => 333
  | .tru _ => 336
  | .plc _ => 309
  | .idx _ _ => 309
  | .bin _ _ _ => 345
  | .neg _ => 339
  | .sho _ => 342
  | .dly _ _ _ => 348
theorem meth_write {kk : Ex → Int} {e : Ex} {lo hi t : Nat} {w : World} {u : Value} (h : ExIn kk e lo hi w (.iface t u)) : Meth "sluice/sluice.write" t u (wfn e) := by
  cases e with
  | lit n => injection h with h1 h2; subst h1; exact ⟨fun _ => by kernel_rfl, fun _ _ => by kernel_rfl⟩
  | tru n => injection h with h1 h2; subst h1; exact ⟨fun _ => by kernel_rfl, fun _ _ => by kernel_rfl⟩
  | plc n => injection h with h1 h2; subst h1; exact ⟨fun _ => by kernel_rfl, fun _ _ => by kernel_rfl⟩
  | idx s i => obtain ⟨_, h, _⟩ := h; injection h with h1 h2; subst h1; exact ⟨fun _ => by kernel_rfl, fun _ _ => by kernel_rfl⟩
  | bin o l r => obtain ⟨_, _, _, h, _⟩ := h; injection h with h1 h2; subst h1; exact ⟨fun _ => by kernel_rfl, fun _ _ => by kernel_rfl⟩
  | neg e => obtain ⟨_, h, _⟩ := h; injection h with h1 h2; subst h1; exact ⟨fun _ => by kernel_rfl, fun _ _ => by kernel_rfl⟩
  | sho e => obtain ⟨_, h, _⟩ := h; injection h with h1 h2; subst h1; exact ⟨fun _ => by kernel_rfl, fun _ _ => by kernel_rfl⟩
  | dly a b c => obtain ⟨_, _, _, h, _⟩ := h; injection h with h1 h2; subst h1; exact ⟨fun _ => by kernel_rfl, fun _ _ => by kernel_rfl⟩
/-- The code of an expression is written. -/
def WriteOk (vs : List Vd) (e : Ex) : Prop := ∀ {B bw bm lo hi t : Nat} {bs : List Nat} {sp : Int} {kp : Bool} {cv u : Value} {code : List Int} {w : World}, Wr B bw bm (fstV vs) vs bs sp kp cv code w → ExIn (kE vs) e lo hi w (.iface t u) → code.length + (codeE vs e).length ≤ 1000000 →
    ∀ (R : Ending → World → Prop), (∀ w' cv', Wr B bw bm (fstV vs) vs bs sp kp cv' (code ++ codeE vs e) w' → Fu bw cv cv' w w' → R (.returned (.tuple #[])) w') → Calls Tryz.prog (wfn e) #[u, .pointer (some ⟨bw, 0, none⟩)] w R
theorem Fu.pre {bp : Nat} {u u' : Value} {w w1 w' : World} (hb : Below w.heap.size w w1) (hf : Fu bp u u' w1 w') : Fu bp u u' w w' := (Fu.of_below hb).trans hf
set_option maxRecDepth 100000 in
set_option maxHeartbeats 2000000 in
theorem write_plc {vs : List Vd} {s : ByteArray} {v : Vd} (hv : lookV vs s = some v) : WriteOk vs (.plc s) := by
  intro B bw bm lo hi t bs sp kp cv u code w h hx hc R fin
  injection hx with e1 e2
  subst e1 e2
  obtain ⟨i, b, h1, h2, h3, h4⟩ := look_first vs bs s v 0 h.vars.len hv
  obtain ⟨_, hrow⟩ := h.vars.row i v b h1 h2
  obtain ⟨hm, hnm⟩ := lookV_mem vs s v hv
  have hsz : s.size ≤ maxLen := by rw [← hnm]; have := (h.names v hm).le; unfold maxLen; omega
  have c0 : w.cell? ⟨bw, 0, none⟩ = some (.map (some bm)) := h.row.cell (i := 0) (by omega)
  have lb := h.row.lt
  have b5 : w.cell? ⟨b, 5, none⟩ = some (.int .u8 (firstV vs 0 s)) := by
    have := hrow.cell (i := 5) (by omega)
    rw [show vdF v (fstV vs i) 5 = .int .u8 (fstV vs i) from rfl] at this
    rw [this, show fstV vs i = firstV vs 0 s from by unfold fstV; rw [← h4]; omega]
  have lbb := hrow.lt
  have hl : ∀ n, (Instr.lookup 90 (.map (some bm)) (.string s) false).run Tryz.prog ((w.alloc (Obj.cells #[.string s, .nilIface] 305)).drewN n) = .ok (.pointer (some ⟨b, 0, none⟩)) ((w.alloc (Obj.cells #[.string s, .nilIface] 305)).drewN n) := fun n => by
    have hnm2 : NmAt ((w.alloc (Obj.cells #[.string s, .nilIface] 305)).drewN n) bm vs.length (findB vs bs) := h.nm.keep (Below.heap_alloc _ _ _ h.nm.lt)
    have hl := hnm2.look s hsz
    rw [h3] at hl
    exact hl
  simp only [codeE] at fin hc
  replace fin := hd fin
  replace h := hd h
  replace hrow := hd hrow
  clear h1 h2 h3 hm hnm hv h4
  simp only [wfn]
  generalize firstV vs 0 s = fv at *
  go_enter Tryz.func309, Tryz.ntmps309
  go_wp2_with (fail)
  go_quiet (fail)
  go_wp2_with (fail)
  have hbel : Below w.heap.size w ((w.alloc (Obj.cells #[.string s, .nilIface] 305)).drewN nq) := below_drewN ((Below.refl _ w).alloc (Nat.le_refl _) _) nq
  have hW := (h.out.below hbel).alloc (Obj.cells #[.int .u8 2, .int .u8 fv] 5)
  have hgg : (((w.alloc (Obj.cells #[.string s, .nilIface] 305)).drewN nq).alloc (Obj.cells #[.int .u8 2, .int .u8 fv] 5)).heap[w.heap.size + 1]? = some (.cells (u8V [2, fv]).toArray 5) := by
    have := allocCells (w := (w.alloc (Obj.cells #[.string s, .nilIface] 305)).drewN nq) (cur := #[.int .u8 2, .int .u8 fv]) (T := 5) (fz := (0, 0))
    have e : ((w.alloc (Obj.cells #[.string s, .nilIface] 305)).drewN nq).heap.size = w.heap.size + 1 := by show (w.alloc _).heap.size = _; simp
    rw [e] at this
    exact this
  refine put_ok hW [2, fv] (w.heap.size + 1) 2 2 rfl hgg hc _ ?_
  intro w2 cv2 h2 hf2
  have hF := hd (Fu.pre (hbel.trans (((Below.refl _ _).alloc (Nat.le_refl _) _).mono hbel.size)) hf2)
  replace h2 := hd h2
  clear hf2 hW hgg hbel
  go_wp2
  go_end0
  exact fin.out _ _ h2.out hF.out

end Go.Proofs.YtidhiaaicmfabaaGreatDoor

/- The code of a pair (seat .ZD alone). -/
namespace Go.Proofs.YtidhiaaicmfabaaGreatDoor
open Go.RowKit Go.Proofs Go.Deep

set_option maxRecDepth 100000 in
set_option maxHeartbeats 4000000 in
theorem write_bin {vs : List Vd} {o : Nat} {l r : Ex} (hl : WriteOk vs l) (hr : WriteOk vs r) : WriteOk vs (.bin o l r) := by
  intro B bw bm lo hi t bs sp kp cv u code w h hx hc R fin
  obtain ⟨b, vl, vr, hv, hlo, hhi, hrow, hxl, hxr⟩ := hx
  injection hv with e1 e2
  subst e1 e2
  obtain ⟨tl, ul, rfl⟩ := hxl.iface
  obtain ⟨tr, ur, rfl⟩ := hxr.iface
  have ml := meth_write hxl
  have mr := meth_write hxr
  have ml1 := ml.m
  have ml2 := ml.c
  have mr1 := mr.m
  have mr2 := mr.c
  obtain ⟨cur, hcur, hcs, hcf⟩ := hrow
  have q0 : w.cell? ⟨b, 0, none⟩ = some (.iface tl ul) := cellOf hcur (hcf 0 (by omega))
  simp only [codeE] at fin hc
  simp only [wfn]
  have costL := hd (fun (W : World) => @hl B bw bm lo b tl bs sp kp cv ul code W)
  have cR := hd (fun (CV : Value) (W : World) => @hr B bw bm (b + 1) hi tr bs sp kp CV ur (code ++ codeE vs l) W)
  replace fin := hd fin
  clear hl hr ml mr
  have hk1 : ∃ kk, kE vs (.bin o l r) = kk := ⟨_, rfl⟩
  obtain ⟨kk, hkk⟩ := hk1
  rw [hkk] at fin hc hcf
  simp only [List.length_append, List.length_cons, List.length_nil] at hc
  generalize wfn l = FL at *
  generalize wfn r = FR at *
  go_enter Tryz.func345, Tryz.ntmps345
  go_wp2_with (fail)
  refine costL.out _ h hxl (by omega) _ ?_
  intro w1 cv1 h1 hf1
  have hcur1 := h.tag hf1 hcur (by decide) (by decide)
  have hxr1 := h.exIn hf1 hxr
  have q1 : w1.cell? ⟨b, 1, none⟩ = some (.iface tr ur) := cellOf hcur1 (hcf 1 (by omega))
  replace hf1 := hd hf1
  replace costL := hd costL
  clear q0 hcur
  go_wp2_with (fail)
  refine cR.out _ _ h1 hxr1 (by rw [List.length_append]; omega) _ ?_
  intro w2 cv2 h2 hf2
  have hcur2 := h1.tag hf2 hcur1 (by decide) (by decide)
  have q4 : w2.cell? ⟨b, 4, none⟩ = some (.int .u8 (opI o : Int)) := cellOf hcur2 (hcf 4 (by omega))
  have hF2 := hf1.out.trans hf2
  clear q1 hcur1 hf2 hf1
  have lbb : b < w2.heap.size := (Array.getElem?_eq_some_iff.1 hcur2).1
  go_wp2_with (fail)
  have hgg : (w2.alloc (Obj.cells #[.int .u8 (opI o : Int)] 5)).heap[w2.heap.size]? = some (.cells (u8V [(opI o : Int)]).toArray 5) := allocCells
  refine put_ok (h2.alloc _) [(opI o : Int)] w2.heap.size 1 1 rfl hgg (by simp only [List.length_append, List.length_cons, List.length_nil]; omega) _ ?_
  intro w3 cv3 h3 hf3
  have hcur3 := (h2.alloc (Obj.cells #[.int .u8 (opI o : Int)] 5)).tag hf3 ((Below.heap_alloc _ _ _ lbb).trans hcur2) (by decide) (by decide)
  have q5 : w3.cell? ⟨b, 5, none⟩ = some (.int .u8 kk) := cellOf hcur3 (hcf 5 (by omega))
  have hF3 := hd (hF2.trans (Fu.pre ((Below.refl _ w2).alloc (Nat.le_refl _) _) hf3))
  clear hF2 hf3 hcur2 q4 hgg
  by_cases hk : kk = 1
  · subst hk
    rw [if_pos rfl] at fin hc
    go_wp2_with (fail)
    have hgg : (w3.alloc (Obj.cells #[.int .u8 16] 5)).heap[w3.heap.size]? = some (.cells (u8V [16]).toArray 5) := allocCells
    refine put_ok (h3.alloc _) [16] w3.heap.size 1 1 rfl hgg (by simp only [List.length_append, List.length_cons, List.length_nil] at hc ⊢; omega) _ ?_
    intro w4 cv4 h4 hf4
    have hF4 := hd (hF3.out.trans (Fu.pre ((Below.refl _ w3).alloc (Nat.le_refl _) _) hf4))
    replace h4 := hd h4
    clear hF3 hf4 hgg
    go_wp2
    go_end0
    refine fin.out _ _ ?_ hF4.out
    have := h4.out
    simp only [List.append_assoc] at this ⊢
    exact this
  · have tk : (kk == 1) = false := by simpa using hk
    rw [if_neg hk] at fin
    replace h3 := hd h3
    go_wp2
    go_end0
    refine fin.out _ _ ?_ hF3.out
    have := h3.out
    simp only [List.append_assoc, List.append_nil] at this ⊢
    exact this

end Go.Proofs.YtidhiaaicmfabaaGreatDoor

/- The code of a setting (seat .ZD alone). -/
namespace Go.Proofs.YtidhiaaicmfabaaGreatDoor
open Go.RowKit Go.Proofs Go.Deep

def swfn : Stz → Nat
  | .set _ _ => 312
  | .setx _ _ _ => 312
  | .ife _ _ _ => 317
  | .cas _ _ _ => 321
  | .loop _ _ _ _ => 327
theorem meth_swrite {kk : Ex → Int} {s : Stz} {lo hi t : Nat} {w : World} {u : Value} (h : StIn kk s lo hi w (.iface t u)) : Meth "sluice/sluice.write" t u (swfn s) := by
  cases s with
  | set n e => obtain ⟨_, h, _⟩ := h; injection h with h1 h2; subst h1; exact ⟨fun _ => by kernel_rfl, fun _ _ => by kernel_rfl⟩
  | setx n i e => obtain ⟨_, _, _, h, _⟩ := h; injection h with h1 h2; subst h1; exact ⟨fun _ => by kernel_rfl, fun _ _ => by kernel_rfl⟩
  | ife c a b => obtain ⟨_, _, _, _, _, h, _⟩ := h; injection h with h1 h2; subst h1; exact ⟨fun _ => by kernel_rfl, fun _ _ => by kernel_rfl⟩
  | cas c a b => obtain ⟨_, _, _, _, _, h, _⟩ := h; injection h with h1 h2; subst h1; exact ⟨fun _ => by kernel_rfl, fun _ _ => by kernel_rfl⟩
  | loop c a b d => obtain ⟨_, h, _⟩ := h; injection h with h1 h2; subst h1; exact ⟨fun _ => by kernel_rfl, fun _ _ => by kernel_rfl⟩
/-- The code of a statement is written: f gives it for where it begins; q: whether a number is kept. -/
def SWriteOk (vs : List Vd) (sp : Int) (s : Stz) (f : Nat → List Int) (q : Bool) : Prop := ∀ {B bw bm lo hi t : Nat} {bs : List Nat} {kp : Bool} {cv u : Value} {code : List Int} {w : World}, Wr B bw bm (fstV vs) vs bs sp kp cv code w → StIn (kE vs) s lo hi w (.iface t u) → code.length + (f code.length).length ≤ 1000000 →
    ∀ (R : Ending → World → Prop), (∀ w' cv', Wr B bw bm (fstV vs) vs bs sp (kp || q) cv' (code ++ f code.length) w' → Fu bw cv cv' w w' → R (.returned (.tuple #[])) w') → Calls Tryz.prog (swfn s) #[u, .pointer (some ⟨bw, 0, none⟩)] w R
set_option maxRecDepth 100000 in
set_option maxHeartbeats 4000000 in
theorem swrite_set {vs : List Vd} {sp : Int} {s : ByteArray} {e : Ex} {v : Vd} (he : WriteOk vs e) (hv : lookV vs s = some v) : SWriteOk vs sp (.set s e) (fun _ => codeE vs e ++ [3, firstV vs 0 s]) false := by
  intro B bw bm lo hi t bs kp cv u code w h hx hc R fin
  obtain ⟨ve, hve, hxe⟩ := hx
  injection hve with e1 e2
  subst e1 e2
  obtain ⟨te, ue, rfl⟩ := hxe.iface
  have me := meth_write hxe
  have me1 := me.m
  have me2 := me.c
  simp only [swfn]
  simp only [Bool.or_false] at fin
  simp only [List.length_append, List.length_cons, List.length_nil] at hc
  obtain ⟨i, b, h1, h2, h3, h4⟩ := look_first vs bs s v 0 h.vars.len hv
  obtain ⟨_, hrow⟩ := h.vars.row i v b h1 h2
  obtain ⟨cur, hcur, hcs, hcf⟩ := hrow
  obtain ⟨hm, hnm⟩ := lookV_mem vs s v hv
  have hsz : s.size ≤ maxLen := by rw [← hnm]; have := (h.names v hm).le; unfold maxLen; omega
  have c0 : w.cell? ⟨bw, 0, none⟩ = some (.map (some bm)) := h.row.cell (i := 0) (by omega)
  have lb := h.row.lt
  have lbb : b < w.heap.size := (Array.getElem?_eq_some_iff.1 hcur).1
  have hfv : fstV vs i = firstV vs 0 s := by unfold fstV; rw [← h4]; omega
  have hl : ∀ n, (Instr.lookup 90 (.map (some bm)) (.string s) false).run Tryz.prog ((w.alloc (Obj.cells #[.string s, .nilIface, .iface te ue] 309)).drewN n) = .ok (.pointer (some ⟨b, 0, none⟩)) ((w.alloc (Obj.cells #[.string s, .nilIface, .iface te ue] 309)).drewN n) := fun n => by
    have hnm2 : NmAt ((w.alloc (Obj.cells #[.string s, .nilIface, .iface te ue] 309)).drewN n) bm vs.length (findB vs bs) := h.nm.keep (Below.heap_alloc _ _ _ h.nm.lt)
    have hl := hnm2.look s hsz
    rw [h3] at hl
    exact hl
  have cC := hd (fun (W : World) => @he B bw bm lo hi te bs sp kp cv ue code W)
  replace fin := hd fin
  replace h := hd h
  replace hxe := hd hxe
  clear he me h1 h2 h3 hm hnm hv h4
  generalize wfn e = FE at *
  go_enter Tryz.func312, Tryz.ntmps312
  go_wp2_with (fail)
  go_quiet (fail)
  have hbel : Below w.heap.size w ((w.alloc (Obj.cells #[.string s, .nilIface, .iface te ue] 309)).drewN nq) := below_drewN ((Below.refl _ w).alloc (Nat.le_refl _) _) nq
  have hW := h.out.below hbel
  have hxW : ExIn (kE vs) e lo hi ((w.alloc (Obj.cells #[.string s, .nilIface, .iface te ue] 309)).drewN nq) (.iface te ue) := hxe.out.keep (fun c _ _ _ hc => hbel.block c (Array.getElem?_eq_some_iff.1 hc).1)
  have hcurW : ((w.alloc (Obj.cells #[.string s, .nilIface, .iface te ue] 309)).drewN nq).heap[b]? = some (.cells cur 147) := (hbel.block b lbb).trans hcur
  replace hbel := hd hbel
  replace hcur := hd hcur
  go_wp2_with (fail)
  refine cC.out _ hW hxW (by omega) _ ?_
  intro w2 cv2 h2 hf2
  have hcur2 := hW.tag hf2 hcurW (by decide) (by decide)
  have q5 : w2.cell? ⟨b, 5, none⟩ = some (.int .u8 (firstV vs 0 s)) := by
    have := cellOf hcur2 (hcf 5 (by omega))
    rw [show vdF v (fstV vs i) 5 = .int .u8 (fstV vs i) from rfl, hfv] at this
    exact this
  have lb2 : b < w2.heap.size := (Array.getElem?_eq_some_iff.1 hcur2).1
  have hF2 := hd (Fu.pre hbel.out hf2)
  clear hf2 hW hxW hcurW hl hcur2 hfv
  generalize firstV vs 0 s = fv at *
  go_wp2_with (fail)
  have hgg : (w2.alloc (Obj.cells #[.int .u8 3, .int .u8 fv] 5)).heap[w2.heap.size]? = some (.cells (u8V [3, fv]).toArray 5) := allocCells
  refine put_ok (h2.alloc _) [3, fv] w2.heap.size 2 2 rfl hgg (by simp only [List.length_append, List.length_cons, List.length_nil]; omega) _ ?_
  intro w3 cv3 h3 hf3
  have hF3 := hd (hF2.out.trans (Fu.pre ((Below.refl _ w2).alloc (Nat.le_refl _) _) hf3))
  replace h3 := hd h3
  clear hF2 hf3 hgg
  go_wp2
  go_end0
  refine fin.out _ _ ?_ hF3.out
  have := h3.out
  simp only [List.append_assoc] at this ⊢
  exact this

end Go.Proofs.YtidhiaaicmfabaaGreatDoor

/- The code of statements (seat .ZD alone). -/
namespace Go.Proofs.YtidhiaaicmfabaaGreatDoor
open Go.RowKit Go.Proofs Go.Deep

/-- Statements whose code can be written. -/
inductive AllW (vs : List Vd) (sp : Int) : Sl → (Nat → List Int) → Bool → Prop where
  | nil : AllW vs sp .nil (fun _ => []) false
  | cons {h : Stz} {t : Sl} {fh ft : Nat → List Int} {qh qt : Bool} (h1 : SWriteOk vs sp h fh qh) (h2 : AllW vs sp t ft qt) : AllW vs sp (.cons h t) (fun a => fh a ++ ft (a + (fh a).length)) (qh || qt)
/-- What is left to write, and what is written. -/
structure WrL (vs : List Vd) (sp : Int) (B bw bm : Nat) (bs : List Nat) (kp : Bool) (code : List Int) (cv : Value) (l : Sl) (f : Nat → List Int) (q : Bool) (w : World) (i : Nat) (wr : World) (rest : Sl) : Prop where
  ex : ∃ (done : Sl) (fr : Nat → List Int) (qr : Bool) (cv' : Value) (code' : List Int) (kp' : Bool), l = done.app rest ∧ i = done.len ∧ AllW vs sp rest fr qr ∧ Wr B bw bm (fstV vs) vs bs sp kp' cv' code' wr ∧ Fu bw cv cv' w wr ∧ code' ++ fr code'.length = code ++ f code.length ∧ (kp' || qr) = (kp || q)
theorem Wr.same {B bw bm : Nat} {fst : Nat → Int} {vs : List Vd} {bs : List Nat} {sp : Int} {kp : Bool} {cv cv' : Value} {code : List Int} {w w' : World} (h : Wr B bw bm fst vs bs sp kp cv code w) (hf : Fu bw cv cv' w w') {b hi : Nat} (hb : b < hi) (hh : hi ≤ bw) : w'.heap[b]? = w.heap[b]? :=
  hf.block b (by have := h.row.lt; omega) (by omega) (fun e => by have := (h.own.lt b e).1; have := h.lt; omega)
end Go.Proofs.YtidhiaaicmfabaaGreatDoor
