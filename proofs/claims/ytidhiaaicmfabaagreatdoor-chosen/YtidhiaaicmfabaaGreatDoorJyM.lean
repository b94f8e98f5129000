/- What a text costs. -/
import Derived.Test.YtidhiaaicmfabaaGreatDoorKaA
import Derived.WalkKit
import Derived.WalkSpells
import Derived.WalkLawsBesides
import Derived.Deep.OwnRows
import Derived.BigQuiet
import Derived.Handy
import Derived.Deep.Light
import Derived.Deep.RegionHeld3
import Derived.Deep.RegionWith
import Derived.Test.YtidhiaaicmfabaaGreatDoorJyL

/- What expressions cost (seat .ZD alone). -/
namespace Go.Proofs.YtidhiaaicmfabaaGreatDoor
open Go.RowKit Go.Proofs Go.Deep

/-- What an expression costs. -/
def cE : Ex → Int
  | .lit _ => 1
  | .tru _ => 1
  | .plc _ => 1
  | .idx _ i => 1 + cE i
  | .bin _ l r => 1 + cE l + cE r
  | .neg e => 1 + cE e
  | .sho e => 1 + cE e
  | .dly _ a s => 1 + cE a + cE s
theorem cE_pos : ∀ e : Ex, 1 ≤ cE e
  | .lit _ => Int.le_refl _
  | .tru _ => Int.le_refl _
  | .plc _ => Int.le_refl _
  | .idx _ i => by have := cE_pos i; simp only [cE]; omega
  | .bin _ l r => by have := cE_pos l; have := cE_pos r; simp only [cE]; omega
  | .neg e => by have := cE_pos e; simp only [cE]; omega
  | .sho e => by have := cE_pos e; simp only [cE]; omega
  | .dly _ a s => by have := cE_pos a; have := cE_pos s; simp only [cE]; omega
def cfn : Ex → Nat
  | .lit _ => 331
  | .tru _ => 334
  | .plc _ => 307
  | .idx _ _ => 307
  | .bin _ _ _ => 343
  | .neg _ => 337
  | .sho _ => 340
  | .dly _ _ _ => 346
theorem meth_cost {kk : Ex → Int} {e : Ex} {lo hi t : Nat} {w : World} {u : Value} (h : ExIn kk e lo hi w (.iface t u)) : Meth "sluice/sluice.cost" t u (cfn e) := by
  cases e with
  | lit n => injection h with h1 h2; subst h1; exact ⟨fun _ => by kernel_rfl, fun _ _ => by kernel_rfl⟩
  | tru n => injection h with h1 h2; subst h1; exact ⟨fun _ => by kernel_rfl, fun _ _ => by kernel_rfl⟩
  | plc n => injection h with h1 h2; subst h1; exact ⟨fun _ => by kernel_rfl, fun _ _ => by kernel_rfl⟩
  | idx s i => obtain ⟨_, h, _⟩ := h; injection h with h1 h2; subst h1; exact ⟨fun _ => by kernel_rfl, fun _ _ => by kernel_rfl⟩
  | bin o l r => obtain ⟨_, _, _, h, _⟩ := h; injection h with h1 h2; subst h1; exact ⟨fun _ => by kernel_rfl, fun _ _ => by kernel_rfl⟩
  | neg e => obtain ⟨_, h, _⟩ := h; injection h with h1 h2; subst h1; exact ⟨fun _ => by kernel_rfl, fun _ _ => by kernel_rfl⟩
  | sho e => obtain ⟨_, h, _⟩ := h; injection h with h1 h2; subst h1; exact ⟨fun _ => by kernel_rfl, fun _ _ => by kernel_rfl⟩
  | dly a b c => obtain ⟨_, _, _, h, _⟩ := h; injection h with h1 h2; subst h1; exact ⟨fun _ => by kernel_rfl, fun _ _ => by kernel_rfl⟩
/-- The cost of an expression is reckoned. -/
def CostOk (kk : Ex → Int) (e : Ex) : Prop := ∀ {lo hi t : Nat} {u : Value} {w : World}, ExIn kk e lo hi w (.iface t u) → hi ≤ w.heap.size → cE e ≤ 100000 →
    ∀ (R : Ending → World → Prop), (∀ w', Below w.heap.size w w' → R (.returned (.int .i64 (cE e))) w') → Calls Tryz.prog (cfn e) #[u] w R
theorem ExIn.below {kk : Ex → Int} {e : Ex} {lo hi : Nat} {w w' : World} {v : Value} (h : ExIn kk e lo hi w v) (hb : Below w.heap.size w w') (hh : hi ≤ w.heap.size) : ExIn kk e lo hi w' v := h.keep (fun b _ _ h2 _ => hb.block b (by omega))
set_option maxRecDepth 100000 in
theorem place_cost1 (w : World) (s : ByteArray) (R : Ending → World → Prop) (fin : ∀ w', Below w.heap.size w w' → R (.returned (.int .i64 1)) w') : Calls Tryz.prog 307 #[.agg #[.string s, .nilIface]] w R := by
  replace fin := hd fin
  go_enter Tryz.func307, Tryz.ntmps307
  go_wp2
  exact cl1 (fin.out _ ((Below.refl _ w).alloc (Nat.le_refl _) _)) rfl
theorem cost_plc {kk : Ex → Int} {s : ByteArray} : CostOk kk (.plc s) := by
  intro lo hi t u w hx hh hc R fin
  injection hx with e1 e2
  subst e1 e2
  exact place_cost1 w s R fin
set_option maxRecDepth 100000 in
set_option maxHeartbeats 4000000 in
theorem cost_bin {kk : Ex → Int} {o : Nat} {l r : Ex} (hl : CostOk kk l) (hr : CostOk kk r) : CostOk kk (.bin o l r) := by
  intro lo hi t u w hx hh hc R fin
  obtain ⟨b, vl, vr, hv, hlo, hhi, hrow, hxl, hxr⟩ := hx
  injection hv with e1 e2
  subst e1 e2
  obtain ⟨tl, ul, rfl⟩ := hxl.iface
  obtain ⟨tr, ur, rfl⟩ := hxr.iface
  have ml := meth_cost hxl
  have mr := meth_cost hxr
  have ml1 := ml.m
  have ml2 := ml.c
  have mr1 := mr.m
  have mr2 := mr.c
  have q0 : w.cell? ⟨b, 0, none⟩ = some (.iface tl ul) := hrow.cell (i := 0) (by omega)
  have q1 : w.cell? ⟨b, 1, none⟩ = some (.iface tr ur) := hrow.cell (i := 1) (by omega)
  simp only [cfn]
  simp only [cE] at fin hc
  have pl := cE_pos l
  have pr := cE_pos r
  have costL := hd (fun (W : World) => @hl lo b tl ul W)
  have cR := hd (fun (W : World) => @hr (b + 1) hi tr ur W)
  have hbw := hrow.lt
  replace fin := hd fin
  replace hxl := hd hxl
  replace hxr := hd hxr
  replace hrow := hd hrow
  clear hl hr ml mr
  generalize cE l = kl at *
  generalize cE r = kr at *
  generalize cfn l = FL at *
  generalize cfn r = FR at *
  have hL1 : kl ≤ 100000 := by omega
  have hR1 : kr ≤ 100000 := by omega
  have hbl : b ≤ w.heap.size := by omega
  have j1 : IntKind.i64.wrap (1 + kl) = 1 + kl := IntWalk.i64_in _ (by omega)
  have j2 : IntKind.i64.wrap (1 + kl + kr) = 1 + kl + kr := IntWalk.i64_in _ (by omega)
  go_enter Tryz.func343, Tryz.ntmps343
  go_wp2_with (fail)
  go_region_held3 (fun w' => w'.cell? ⟨b, 0, none⟩ = some (.iface tl ul) ∧ w'.cell? ⟨b, 1, none⟩ = some (.iface tr ur)) (first | exact ⟨(b1.out.cell (p := ⟨b, 0, none⟩) hbw).trans q0, (b1.out.cell (p := ⟨b, 1, none⟩) hbw).trans q1⟩ | exact ⟨(b2.out.cell (p := ⟨b, 0, none⟩) (Nat.lt_of_lt_of_le hbw b1.out.size)).trans ((b1.out.cell (p := ⟨b, 0, none⟩) hbw).trans q0), (b2.out.cell (p := ⟨b, 1, none⟩) (Nat.lt_of_lt_of_le hbw b1.out.size)).trans ((b1.out.cell (p := ⟨b, 1, none⟩) hbw).trans q1)⟩ | go_keep)
    (first
      | (refine costL.out _ (by exact hxl.out.drew) (by exact hbl) hL1 _ ?_; intro w1 b1; replace b1 := hd b1)
      | (refine cR.out _ (by exact hxr.out.drew.below b1.out hh) (by exact Nat.le_trans hh b1.out.size) hR1 _ ?_; intro w2 b2; replace b2 := hd b2))
  have hB := hd (show Below w.heap.size w w2 from (below_drewN (Below.refl _ w) 1).trans (b1.out.trans (b2.out.mono b1.out.size)))
  go_wp2
  first | exact cl1 (fin.out _ hB.out) rfl | (go_ret; exact cl1 (fin.out _ hB.out) rfl)

end Go.Proofs.YtidhiaaicmfabaaGreatDoor

/- What a setting costs (seat .ZD alone). -/
namespace Go.Proofs.YtidhiaaicmfabaaGreatDoor
open Go.RowKit Go.Proofs Go.Deep

mutual
/-- What statements cost. -/
def cS : Stz → Int
  | .set _ e => 1 + cE e
  | .setx _ i e => 1 + cE i + cE e
  | .ife c t o => 1 + cE c + max (costL t) (costL o)
  | .cas e ws o => 1 + cE e + cN ws + cW ws (costL o)
  | .loop _ f l b => 1 + max 0 (l - f + 1) * (1 + costL b)
def costL : Sl → Int
  | .nil => 0
  | .cons h t => cS h + costL t
def cN : Wl → Int
  | .nil => 0
  | .cons ns _ t => ns.length + cN t
def cW : Wl → Int → Int
  | .nil, m => m
  | .cons _ b t, m => cW t (max m (costL b))
end
def csfn : Stz → Nat
  | .set _ _ => 311
  | .setx _ _ _ => 311
  | .ife _ _ _ => 316
  | .cas _ _ _ => 320
  | .loop _ _ _ _ => 326
theorem meth_scost {kk : Ex → Int} {s : Stz} {lo hi t : Nat} {w : World} {u : Value} (h : StIn kk s lo hi w (.iface t u)) : Meth "sluice/sluice.cost" t u (csfn s) := by
  cases s with
  | set n e => obtain ⟨_, h, _⟩ := h; injection h with h1 h2; subst h1; exact ⟨fun _ => by kernel_rfl, fun _ _ => by kernel_rfl⟩
  | setx n i e => obtain ⟨_, _, _, h, _⟩ := h; injection h with h1 h2; subst h1; exact ⟨fun _ => by kernel_rfl, fun _ _ => by kernel_rfl⟩
  | ife c a b => obtain ⟨_, _, _, _, _, h, _⟩ := h; injection h with h1 h2; subst h1; exact ⟨fun _ => by kernel_rfl, fun _ _ => by kernel_rfl⟩
  | cas c a b => obtain ⟨_, _, _, _, _, h, _⟩ := h; injection h with h1 h2; subst h1; exact ⟨fun _ => by kernel_rfl, fun _ _ => by kernel_rfl⟩
  | loop c a b d => obtain ⟨_, h, _⟩ := h; injection h with h1 h2; subst h1; exact ⟨fun _ => by kernel_rfl, fun _ _ => by kernel_rfl⟩
/-- The cost of a statement is reckoned. -/
def SCostOk (kk : Ex → Int) (s : Stz) : Prop := ∀ {lo hi t : Nat} {u : Value} {w : World}, StIn kk s lo hi w (.iface t u) → hi ≤ w.heap.size → 0 ≤ cS s → cS s ≤ 100000 →
    ∀ (R : Ending → World → Prop), (∀ w', Below w.heap.size w w' → R (.returned (.int .i64 (cS s))) w') → Calls Tryz.prog (csfn s) #[u] w R
set_option maxRecDepth 100000 in
set_option maxHeartbeats 4000000 in
theorem scost_set {kk : Ex → Int} {s : ByteArray} {e : Ex} (he : CostOk kk e) : SCostOk kk (.set s e) := by
  intro lo hi t u w hx hh _ hc R fin
  obtain ⟨ve, hve, hxe⟩ := hx
  injection hve with e1 e2
  subst e1 e2
  obtain ⟨te, ue, rfl⟩ := hxe.iface
  have me := meth_cost hxe
  have me1 := me.m
  have me2 := me.c
  simp only [csfn]
  simp only [cS] at fin hc
  have pe := cE_pos e
  have cC := hd (fun (W : World) => @he lo hi te ue W)
  obtain ⟨Z, hZ⟩ : ∃ Z, Z = w.alloc (Obj.cells #[.string s, .nilIface, .iface te ue] 309) := ⟨_, rfl⟩
  have hbZ : Below w.heap.size w Z := by rw [hZ]; exact (Below.refl _ w).alloc (Nat.le_refl _) _
  have hxZ : ExIn kk e lo hi Z (.iface te ue) := hxe.below hbZ hh
  have hzl : w.heap.size < Z.heap.size := by rw [hZ]; simp
  have hnewb : Z.heap[w.heap.size]? = some (.cells #[.string s, .nilIface, .iface te ue] 309) := by rw [hZ]; exact allocCells
  have q0 : Z.cell? ⟨w.heap.size, 0, none⟩ = some (.string s) := cellOf (i := 0) hnewb rfl
  have q1 : Z.cell? ⟨w.heap.size, 1, none⟩ = some .nilIface := cellOf (i := 1) hnewb rfl
  have q2 : Z.cell? ⟨w.heap.size, 2, none⟩ = some (.iface te ue) := cellOf (i := 2) hnewb rfl
  replace fin := hd fin
  replace hxZ := hd hxZ
  have hhZ : hi ≤ Z.heap.size := by omega
  clear he me hxe
  generalize cE e = kl at *
  generalize cfn e = FL at *
  have hL1 : kl ≤ 100000 := by omega
  have j1 : IntKind.i64.wrap (1 + kl) = 1 + kl := IntWalk.i64_in _ (by omega)
  go_enter Tryz.func311, Tryz.ntmps311
  go_wp2_with (fail)
  rw [← hZ]
  replace hZ := hd hZ
  replace hbZ := hd hbZ
  replace hnewb := hd hnewb
  generalize hz : w.heap.size = z at *
  replace hz := hd hz
  go_region_held3 (fun w' => w'.cell? ⟨z, 0, none⟩ = some (.string s) ∧ w'.cell? ⟨z, 1, none⟩ = some .nilIface ∧ w'.cell? ⟨z, 2, none⟩ = some (.iface te ue)) (first | exact ⟨(b1.out.cell (p := ⟨z, 0, none⟩) hzl).trans q0, (b1.out.cell (p := ⟨z, 1, none⟩) hzl).trans q1, (b1.out.cell (p := ⟨z, 2, none⟩) hzl).trans q2⟩ | exact ⟨(b2.out.cell (p := ⟨z, 0, none⟩) (Nat.lt_of_lt_of_le hzl b1.out.size)).trans ((b1.out.cell (p := ⟨z, 0, none⟩) hzl).trans q0), (b2.out.cell (p := ⟨z, 1, none⟩) (Nat.lt_of_lt_of_le hzl b1.out.size)).trans ((b1.out.cell (p := ⟨z, 1, none⟩) hzl).trans q1), (b2.out.cell (p := ⟨z, 2, none⟩) (Nat.lt_of_lt_of_le hzl b1.out.size)).trans ((b1.out.cell (p := ⟨z, 2, none⟩) hzl).trans q2)⟩ | go_keep)
    (first
      | (go_at_call 307; refine place_cost1 _ s _ ?_; intro w1 b1; replace b1 := hd b1)
      | (refine cC.out _ (by exact hxZ.out.drew.below b1.out hhZ) (by exact Nat.le_trans hhZ b1.out.size) hL1 _ ?_; intro w2 b2; replace b2 := hd b2))
  have hB := hd (show Below w.heap.size w w2 from by
    have e := hz.out
    rw [e]
    exact hbZ.out.trans (((below_drewN (Below.refl _ Z) 1).trans (b1.out.trans (b2.out.mono b1.out.size))).mono (Nat.le_of_lt hzl)))
  go_wp2
  have e := hz.out
  first | exact cl1 (fin.out _ (by rw [← e]; exact hB.out)) rfl | (go_ret; exact cl1 (fin.out _ (by rw [← e]; exact hB.out)) rfl)

end Go.Proofs.YtidhiaaicmfabaaGreatDoor

/- What statements cost (seat .ZD alone). -/
namespace Go.Proofs.YtidhiaaicmfabaaGreatDoor
open Go.RowKit Go.Proofs Go.Deep

theorem SlIn.at {kk : Ex → Int} {g : Option Nat} {w : World} {s : Stz} {t : Sl} : ∀ {done : Sl} {lo hi : Nat} {xs : List Value}, SlIn kk g (done.app (.cons s t)) lo hi w xs → ∃ v a b, xs[done.len]? = some v ∧ lo ≤ a ∧ a ≤ b ∧ b ≤ hi ∧ StIn kk s a b w v
  | .nil, _, _, _, ⟨v, ys, a, b, m, e1, h1, h2, h3, h4, _, h6, _⟩ => ⟨v, a, b, by rw [e1]; rfl, h1, h2, by omega, h6⟩
  | .cons _ d, _, _, _, ⟨v, ys, a, b, m, e1, h1, h2, h3, h4, _, _, h7⟩ => by
    obtain ⟨v', a', b', p1, p2, p3, p4, p5⟩ := SlIn.at (done := d) h7
    exact ⟨v', a', b', by rw [e1]; simpa [Sl.len] using p1, by omega, p3, p4, p5⟩
theorem SlIn.below {kk : Ex → Int} {g : Option Nat} {l : Sl} {lo hi : Nat} {w w' : World} {xs : List Value} (h : SlIn kk g l lo hi w xs) (hb : Below w.heap.size w w') (hh : hi ≤ w.heap.size) : SlIn kk g l lo hi w' xs := h.keep (fun b _ _ _ _ h2 _ _ => hb.block b (by omega))
def AllCo (kk : Ex → Int) : Sl → Prop
  | .nil => True
  | .cons h t => SCostOk kk h ∧ 0 ≤ cS h ∧ AllCo kk t
theorem cL_nonneg {kk : Ex → Int} : ∀ {l : Sl}, AllCo kk l → 0 ≤ costL l
  | .nil, _ => Int.le_refl _
  | .cons _ t, h => by have := cL_nonneg (l := t) h.2.2; have := h.2.1; simp only [costL]; omega
theorem cL_app : ∀ a b : Sl, costL (a.app b) = costL a + costL b
  | .nil, b => by simp only [Sl.app, costL]; omega
  | .cons h t, b => by simp only [Sl.app, costL, cL_app t b]; omega
theorem ifMin {a : Int} (h : a ≤ 4000) : min a 4001 = a := by omega
set_option maxRecDepth 100000 in
set_option maxHeartbeats 4000000 in
theorem costs_ok {kk : Ex → Int} {l : Sl} (hl : AllCo kk l) (hlen : l.len ≤ 1000000) (hc : costL l ≤ 4000) {lo hi base : Nat} {bv : Value} {g : Option Nat} {xs : List Value} {w : World} (hown : w.ownsRow base 240 1 bv l.len xs) (hx : SlIn kk g l lo hi w xs) (hh : hi ≤ w.heap.size)
    (R : Ending → World → Prop) (fin : ∀ w', Below w.heap.size w w' → R (.returned (.int .i64 (costL l))) w') : Calls Tryz.prog 71 #[bv] w R := by
  obtain ⟨bo, bcp, rfl, hcp, hbo⟩ := own_form hown
  replace fin := hd fin
  replace hbo := hd hbo
  replace hown := hd hown
  replace hx := hd hx
  go_enter Tryz.func71, Tryz.ntmps71
  go_wp2
  go_loopw [3, 5, 8] (fun sv _ iv wr => ∃ (i : Nat) (done rest : Sl), iv = .int .i64 (i : Int) ∧ sv = .int .i64 (costL done) ∧ l = done.app rest ∧ i = done.len ∧ Below w.heap.size w wr ∧ AllCo kk rest ∧ 0 ≤ costL done) (fun _ _ iv _ => l.len - (intOf iv).toNat)
  case atStart => exact ⟨0, .nil, l, rfl, rfl, rfl, rfl, Below.refl _ _, hl, Int.le_refl _⟩
  case round =>
    obtain ⟨i, done, rest, rfl, rfl, happ, hie, hbel, hok, hnn⟩ := hrel
    have hll : l.len = done.len + rest.len := by rw [happ, Sl.len_app]
    have hcl : costL l = costL done + costL rest := by rw [happ, cL_app]
    cases rest with
    | nil =>
      simp only [Sl.len] at hll
      have td : decide ((i : Int) < (l.len : Int)) = false := by simp; omega
      have hnl : ¬ i < l.len := by omega
      have hce : costL done = costL l := by simp only [costL] at hcl; omega
      rw [hce]
      clear hll hie happ hcl hce hnn
      replace hbel := hd hbel
      go_wp2
      exact cl1 (fin.out _ hbel.out) rfl
    | cons s t =>
      simp only [Sl.len] at hll
      have td : decide ((i : Int) < (l.len : Int)) = true := by simp; omega
      have hnl : i < l.len := by omega
      obtain ⟨v, a, b, p1, p2, p3, p4, p5⟩ := SlIn.at (done := done) (s := s) (t := t) (by rw [← happ]; exact hx.out)
      obtain ⟨tv, uv, rfl⟩ := p5.iface
      have mc := meth_scost p5
      have mc1 := mc.m
      have mc2 := mc.c
      obtain ⟨gb, rfl, hgl, hgs, hg⟩ := hbo.out (by omega)
      rw [← hie] at p1
      have c1 : wr.cell? ⟨gb, i, none⟩ = some (.iface tv uv) := (hbel.cell (p := ⟨gb, i, none⟩) hgs).trans (hg i _ p1)
      have j0 : (0 : Int) ≤ (i : Int) ∧ (i : Int) < (l.len : Int) := by omega
      have hco : SCostOk kk s := hok.1
      have cC := hd (fun (W : World) => @hco a b tv uv W)
      have hns := hok.2.1
      have htn := cL_nonneg hok.2.2
      simp only [costL] at hcl
      have hsl : cS s ≤ 100000 := by omega
      have hp5 := hd (p5.keep (w' := wr) (fun c _ _ _ _ h2 _ _ => hbel.block c (by omega)))
      have hbs : b ≤ wr.heap.size := by have := hbel.size; omega
      have e1 : IntKind.i64.wrap (costL done + cS s) = costL done + cS s := IntWalk.i64_in _ (by omega)
      have e2 : min (costL done + cS s) 4001 = costL done + cS s := ifMin (by omega)
      have e3 : costL (done.app (.cons s .nil)) = costL done + cS s := by rw [cL_app]; simp only [costL]; omega
      have e4 : (done.app (.cons s .nil)).len = done.len + 1 := by rw [Sl.len_app]; rfl
      have e5 : l = (done.app (.cons s .nil)).app t := by rw [happ, Sl.app_assoc]; rfl
      generalize csfn s = FS at *
      generalize cS s = ks at *
      generalize hcd : costL done = kd at *
      replace hll := hd hll
      replace hie := hd hie
      replace happ := hd happ
      replace hcl := hd hcl
      replace hbel := hd hbel
      replace e3 := hd e3
      replace e4 := hd e4
      replace e5 := hd e5
      replace hcd := hd hcd
      clear hg mc hco p5 p1
      go_wp2_with (fail)
      refine cC.out _ hp5.out hbs hns hsl _ ?_
      intro w1 b1
      have hB := hd (hbel.out.trans (b1.mono hbel.out.size))
      clear b1 hbel
      go_wp2
      exact ⟨⟨i + 1, done.app (.cons s .nil), t, by go_num, by rw [e3.out], e5.out, by rw [e4.out, hie.out], hB.out, hok.2.2, by rw [e3.out]; omega⟩, by have := hll.out; have := hie.out; simp [intOf]; omega⟩
set_option maxRecDepth 100000 in
theorem pcost_ok {kk : Ex → Int} {l : Sl} (hl : AllCo kk l) (hlen : l.len ≤ 1000000) (hc : costL l ≤ 3999) {lo hi base : Nat} {vo uo bo : Option Addr} {n1 c1 n2 c2 bc : Nat} {g : Option Nat} {xs : List Value} {w : World} (hown : w.ownsRow base 240 1 (.slice bo l.len bc) l.len xs) (hx : SlIn kk g l lo hi w xs) (hh : hi ≤ w.heap.size)
    (R : Ending → World → Prop) (fin : ∀ w', Below w.heap.size w w' → R (.returned (.int .i64 (1 + costL l))) w') : Calls Tryz.prog 45 #[.agg #[.slice vo n1 c1, .slice uo n2 c2, .slice bo l.len bc]] w R := by
  replace fin := hd fin
  have hnn := cL_nonneg hl
  have j1 : IntKind.i64.wrap (1 + costL l) = 1 + costL l := IntWalk.i64_in _ (by omega)
  have hb1 : Below w.heap.size w (w.alloc (Obj.cells #[.slice vo n1 c1, .slice uo n2 c2, .slice bo l.len bc] 87)) := (Below.refl _ w).alloc (Nat.le_refl _) _
  have ho := hd (own_keep hown (fun j _ _ hj => hb1.block j hj))
  have hs := hd (hx.below hb1 hh)
  go_enter Tryz.func45, Tryz.ntmps45
  go_wp2_with (fail)
  refine costs_ok hl hlen (by omega) ho.out hs.out (by simp; omega) _ ?_
  intro w1 b1
  have hB := hd (hb1.trans (b1.mono (by simp)))
  clear b1 hb1
  generalize costL l = k at *
  go_wp2
  exact cl1 (fin.out _ hB.out) rfl

end Go.Proofs.YtidhiaaicmfabaaGreatDoor

/- How many cells (seat .ZD alone). -/
namespace Go.Proofs.YtidhiaaicmfabaaGreatDoor
open Go.RowKit Go.Proofs Go.Deep

/-- How many cells variables have together. -/
def lenV : List Vd → Int
  | [] => 0
  | v :: t => v.len + lenV t
theorem lenV_app : ∀ a b : List Vd, lenV (a ++ b) = lenV a + lenV b
  | [], b => by simp only [List.nil_append, lenV]; omega
  | v :: t, b => by simp only [List.cons_append, lenV, lenV_app t b]; omega
theorem lenV_take {vs : List Vd} {i : Nat} {v : Vd} (h : vs[i]? = some v) : lenV (vs.take (i + 1)) = lenV (vs.take i) + v.len := by
  rw [take_snoc h, lenV_app]; simp only [lenV]; omega
theorem lenV_bound : ∀ (vs : List Vd), (∀ v ∈ vs, wtV v = true) → 0 ≤ lenV vs ∧ lenV vs ≤ 16 * vs.length
  | [], _ => by simp [lenV]
  | v :: t, h => by
    have h1 := lenV_bound t (fun u hu => h u (List.mem_cons_of_mem _ hu))
    have h2 := h v (List.mem_cons_self ..)
    simp only [wtV, Bool.and_eq_true, decide_eq_true_eq] at h2
    simp only [lenV, List.length_cons]
    omega
set_option maxRecDepth 100000 in
set_option maxHeartbeats 4000000 in
theorem cells_ok {lo : Nat} {w : World} {vs : List Vd} {bs : List Nat} {fst : Nat → Int} {vo uo bo : Option Addr} {vc n2 c2 n3 c3 : Nat} (hown : w.ownsRow lo 144 1 (.slice vo vs.length vc) vs.length (ptzV bs)) (hvars : VarsIn fst lo w vs bs) (hwv : ∀ v ∈ vs, wtV v = true) (hvl : vs.length ≤ 1000000)
    (R : Ending → World → Prop) (fin : ∀ w', Below w.heap.size w w' → R (.returned (.int .i64 (lenV vs))) w') :
    Calls Tryz.prog 44 #[.agg #[.slice vo vs.length vc, .slice uo n2 c2, .slice bo n3 c3]] w R := by
  obtain ⟨vo', vc', e0, hvc, hvo⟩ := own_form hown
  injection e0 with e1 _ e2
  subst e1 e2
  obtain ⟨W0, hW0⟩ : ∃ W0, W0 = w.alloc (Obj.cells #[.slice vo vs.length vc, .slice uo n2 c2, .slice bo n3 c3] 87) := ⟨_, rfl⟩
  have hbel : Below w.heap.size w W0 := by rw [hW0]; exact (Below.refl _ w).alloc (Nat.le_refl _) _
  replace hW0 := hd hW0
  replace fin := hd fin
  replace hvo := hd hvo
  go_enter Tryz.func44, Tryz.ntmps44
  go_wp2
  go_loopw [3, 5, 9] (fun sv _ iv wr => ∃ i : Nat, i ≤ vs.length ∧ iv = .int .i64 (i : Int) ∧ sv = .int .i64 (lenV (vs.take i)) ∧ wr = W0) (fun _ _ iv _ => vs.length - (intOf iv).toNat)
  case atStart => exact ⟨0, Nat.zero_le _, rfl, rfl, by rw [hW0.out]⟩
  case round =>
    obtain ⟨i, hi, rfl, rfl, rfl⟩ := hrel
    by_cases hlt : i < vs.length
    · have td : decide ((i : Int) < (vs.length : Int)) = true := by simp; omega
      obtain ⟨v, hv⟩ : ∃ v, vs[i]? = some v := ⟨_, List.getElem?_eq_getElem hlt⟩
      obtain ⟨b, hb⟩ : ∃ b, bs[i]? = some b := ⟨_, List.getElem?_eq_getElem (by rw [hvars.len]; exact hlt)⟩
      obtain ⟨g, rfl, hgl, hgs, hg⟩ := hvo.out (by omega)
      obtain ⟨hblo, hbr⟩ := hvars.row i v b hv hb
      have hblt := hbr.lt
      have hwt := hwv v (List.mem_of_getElem? hv)
      simp only [wtV, Bool.and_eq_true, decide_eq_true_eq] at hwt
      have c1 : wr.cell? ⟨g, i, none⟩ = some (.pointer (some ⟨b, 0, none⟩)) := (hbel.cell (p := ⟨g, i, none⟩) hgs).trans (hg i _ (by unfold ptzV; rw [List.getElem?_map, hb]; rfl))
      have c4 : wr.cell? ⟨b, 4, none⟩ = some (.int .i64 v.len) := (hbel.cell (p := ⟨b, 4, none⟩) hblt).trans (hbr.cell (i := 4) (by omega))
      have j0 : (0 : Int) ≤ (i : Int) ∧ (i : Int) < (vs.length : Int) := by omega
      have hnx := lenV_take hv
      have hbd := lenV_bound (vs.take i) (fun u hu => hwv u (List.mem_of_mem_take hu))
      have hbl : ((vs.take i).length : Int) ≤ 1000000 := by rw [List.length_take]; omega
      have e1 : IntKind.i64.wrap (lenV (vs.take i) + v.len) = lenV (vs.take i) + v.len := IntWalk.i64_in _ (by omega)
      generalize lenV (vs.take i) = k at *
      replace hnx := hd hnx
      clear hg hbr hv hb hbd
      go_wp2
      exact ⟨⟨i + 1, by omega, by go_num, by rw [hnx.out], by first | rfl | trivial⟩, by simp [intOf]; omega⟩
    · have td : decide ((i : Int) < (vs.length : Int)) = false := by simp; omega
      have hie : i = vs.length := by omega
      subst hie
      rw [List.take_length]
      replace hbel := hd hbel
      go_wp2
      exact cl1 (fin.out _ hbel.out) rfl

end Go.Proofs.YtidhiaaicmfabaaGreatDoor
