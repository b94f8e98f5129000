/- Statements and variables are read. -/
import Derived.Test.YtidhiaaicmfabaaGreatDoorKaA
import Derived.WalkKit
import Derived.WalkSpells
import Derived.WalkLawsBesides
import Derived.Deep.OwnRows
import Derived.BigQuiet
import Derived.Handy
import Derived.Deep.Light
import Derived.Deep.RegionHeld3
import Derived.Deep.RegionWith
import Derived.Test.YtidhiaaicmfabaaGreatDoorJyH
import Derived.Shelf.Strings.OnBuilder
import Derived.Test.YtidhiaaicmfabaaGreatDoorProg
import Derived.Deep.LoopGhost

/- Statements as they are written and as they lie in memory (seat .ZD alone). -/
namespace Go.Proofs.YtidhiaaicmfabaaGreatDoor
open Go.RowKit Go.Proofs Go.Deep

mutual
/-- A statement of a text, as it is read. -/
inductive Stz where
  | set (s : ByteArray) (e : Ex)
  | setx (s : ByteArray) (i e : Ex)
  | ife (c : Ex) (t o : Sl)
  | cas (e : Ex) (ws : Wl) (o : Sl)
  | loop (s : ByteArray) (f l : Int) (b : Sl)
inductive Sl where
  | nil
  | cons (h : Stz) (t : Sl)
inductive Wl where
  | nil
  | cons (ns : List Int) (b : Sl) (t : Wl)
end
def Sl.app : Sl → Sl → Sl
  | .nil, r => r
  | .cons h t, r => .cons h (t.app r)
def Sl.isNil : Sl → Bool
  | .nil => true
  | .cons _ _ => false
def Sl.len : Sl → Nat
  | .nil => 0
  | .cons _ t => t.len + 1
theorem Sl.app_nil : ∀ l : Sl, l.app .nil = l
  | .nil => rfl
  | .cons h t => by simp only [Sl.app]; rw [Sl.app_nil t]
theorem Sl.app_assoc : ∀ a b c : Sl, (a.app b).app c = a.app (b.app c)
  | .nil, _, _ => rfl
  | .cons h t, b, c => by simp only [Sl.app]; rw [Sl.app_assoc t b c]
/-- Numbers behind WHEN. -/
def litsW : List Int → List ByteArray
  | [] => []
  | n :: r => wCM :: (litW n ++ litsW r)
mutual
/-- Statements as they are written. -/
def toksS : Stz → List ByteArray
  | .set s e => s :: wAS :: toks e
  | .setx s i e => s :: wLB :: (toks i ++ wRB :: wAS :: toks e)
  | .ife c t o => wIF :: (toks c ++ wTHEN :: (toksL t ++ ((if o.isNil then [] else wELSE :: toksL o) ++ [wEND])))
  | .cas e ws o => wCASE :: (toks e ++ wOF :: (toksW ws ++ ((if o.isNil then [] else wELSE :: toksL o) ++ [wEND])))
  | .loop s f l b => wFOR :: s :: wAS :: (litW f ++ wTO :: (litW l ++ wDO :: (toksL b ++ [wEND])))
def toksL : Sl → List ByteArray
  | .nil => []
  | .cons h t => toksS h ++ wSC :: toksL t
def toksW : Wl → List ByteArray
  | .nil => []
  | .cons ns b t => wWHEN :: ((litsW ns).drop 1 ++ wCO :: (toksL b ++ toksW t))
end
mutual
/-- The names that stand in them. -/
def namesS : Stz → List ByteArray
  | .set s e => s :: namesE e
  | .setx s i e => s :: (namesE i ++ namesE e)
  | .ife c t o => namesE c ++ (namesL t ++ namesL o)
  | .cas e ws o => namesE e ++ (namesW ws ++ namesL o)
  | .loop s _ _ b => s :: namesL b
def namesL : Sl → List ByteArray
  | .nil => []
  | .cons h t => namesS h ++ namesL t
def namesW : Wl → List ByteArray
  | .nil => []
  | .cons _ b t => namesL b ++ namesW t
end
theorem toksL_app : ∀ a b : Sl, toksL (a.app b) = toksL a ++ toksL b
  | .nil, _ => rfl
  | .cons h t, b => by simp only [Sl.app, toksL, toksL_app t b, List.append_assoc, List.cons_append]
theorem namesL_app : ∀ a b : Sl, namesL (a.app b) = namesL a ++ namesL b
  | .nil, _ => rfl
  | .cons h t, b => by simp only [Sl.app, namesL, namesL_app t b, List.append_assoc]
mutual
def depS : Stz → Int
  | .set _ e => depE e
  | .setx _ i e => max (depE i + 1) (depE e)
  | .ife c t o => max (depE c) (max (depL t) (depL o)) + 1
  | .cas e ws o => max (depE e) (max (depW ws) (depL o)) + 1
  | .loop _ _ _ b => depL b + 1
def depL : Sl → Int
  | .nil => 0
  | .cons h t => max (depS h) (depL t)
def depW : Wl → Int
  | .nil => 0
  | .cons _ b t => max (depL b) (depW t)
end
def litV (ns : List Int) : List Value := ns.map (fun n => .int .i64 n)
/-- An owned row in the blocks from lo to hi. -/
def RowIn (w : World) (lo hi T sz : Nat) (v : Value) (n : Nat) (xs : List Value) : Prop := w.ownsRow lo T sz v n xs ∧ ∀ g, v.ownBlock = some g → g < hi
/-- No block from a to b is g. -/
def Off (g : Option Nat) (a b : Nat) : Prop := ∀ x, g = some x → x < a ∨ b ≤ x
mutual
/-- A statement in memory; all that is its own lies in the blocks from lo to hi. -/
def StIn (kk : Ex → Int) : Stz → Nat → Nat → World → Value → Prop
  | .set s e, lo, hi, w, v => ∃ ve, v = .iface 309 (.agg #[.string s, .nilIface, ve]) ∧ ExIn kk e lo hi w ve
  | .setx s i e, lo, hi, w, v => ∃ vi ve m, v = .iface 309 (.agg #[.string s, vi, ve]) ∧ lo ≤ m ∧ m ≤ hi ∧ ExIn kk i lo m w vi ∧ ExIn kk e m hi w ve
  | .ife c t o, lo, hi, w, v => ∃ vc vt vo m1 m2, v = .iface 311 (.agg #[vc, vt, vo]) ∧ lo ≤ m1 ∧ m1 ≤ m2 ∧ m2 ≤ hi ∧ ExIn kk c lo m1 w vc ∧ (∃ xs, RowIn w m1 m2 240 1 vt t.len xs ∧ SlIn kk vt.ownBlock t m1 m2 w xs) ∧ (∃ xs, RowIn w m2 hi 240 1 vo o.len xs ∧ SlIn kk vo.ownBlock o m2 hi w xs)
  | .cas e ws o, lo, hi, w, v => ∃ vc vw vo m1 m2, v = .iface 314 (.agg #[vc, vw, vo]) ∧ lo ≤ m1 ∧ m1 ≤ m2 ∧ m2 ≤ hi ∧ ExIn kk e lo m1 w vc ∧ (∃ n xs, RowIn w m1 m2 317 2 vw n xs ∧ WlIn kk vw.ownBlock ws m1 m2 w xs) ∧ (∃ xs, RowIn w m2 hi 240 1 vo o.len xs ∧ SlIn kk vo.ownBlock o m2 hi w xs)
  | .loop s f l b, lo, hi, w, v => ∃ vb, v = .iface 320 (.agg #[.string s, .int .i64 f, .int .i64 l, vb]) ∧ (∃ xs, RowIn w lo hi 240 1 vb b.len xs ∧ SlIn kk vb.ownBlock b lo hi w xs)
def SlIn (kk : Ex → Int) (g : Option Nat) : Sl → Nat → Nat → World → List Value → Prop
  | .nil, _, _, _, xs => xs = []
  | .cons h t, lo, hi, w, xs => ∃ v ys a b m, xs = v :: ys ∧ lo ≤ a ∧ a ≤ b ∧ b ≤ m ∧ m ≤ hi ∧ Off g a b ∧ StIn kk h a b w v ∧ SlIn kk g t m hi w ys
def WlIn (kk : Ex → Int) (g : Option Nat) : Wl → Nat → Nat → World → List Value → Prop
  | .nil, _, _, _, xs => xs = []
  | .cons ns b t, lo, hi, w, xs => ∃ vn vb ys a m1 c m, xs = vn :: vb :: ys ∧ lo ≤ a ∧ a ≤ m1 ∧ m1 ≤ c ∧ c ≤ m ∧ m ≤ hi ∧ Off g a c ∧ RowIn w a m1 2 1 vn ns.length (litV ns) ∧ (∃ zs, RowIn w m1 c 240 1 vb b.len zs ∧ SlIn kk vb.ownBlock b m1 c w zs) ∧ WlIn kk g t m hi w ys
end
/-- Blocks that are as they were. -/
def Samz (w w' : World) (lo hi : Nat) (g : Option Nat) : Prop := ∀ b cur T, T ≠ 9 → lo ≤ b → b < hi → g ≠ some b → w.heap[b]? = some (.cells cur T (0, 0)) → w'.heap[b]? = w.heap[b]?
theorem Samz.sub {w w' : World} {lo hi lo' hi' : Nat} {g g' : Option Nat} (h : Samz w w' lo hi g) (h1 : lo ≤ lo') (h2 : hi' ≤ hi) (h3 : ∀ b, lo' ≤ b → b < hi' → g' ≠ some b → g ≠ some b) : Samz w w' lo' hi' g' :=
  fun b cur T a0 a1 a2 a3 a4 => h b cur T a0 (by omega) (by omega) (h3 b a1 a2 a3) a4
theorem RowIn.keep {w w' : World} {lo hi T sz n : Nat} {v : Value} {xs : List Value} (h : RowIn w lo hi T sz v n xs) (hT : T ≠ 9) (k : Samz w w' lo hi none) : RowIn w' lo hi T sz v n xs := by
  refine ⟨⟨h.1.1, ?_⟩, h.2⟩
  rcases h.1.2 with h2 | ⟨g, cap, cur, rfl, hb, hg, r⟩
  · exact .inl h2
  · exact .inr ⟨g, cap, cur, rfl, hb, (k g cur T hT hb (h.2 g rfl) (by simp) hg).trans hg, r⟩
theorem ExIn.keep' {kk : Ex → Int} {w w' : World} {e : Ex} {lo hi : Nat} {v : Value} (h : ExIn kk e lo hi w v) (k : Samz w w' lo hi none) : ExIn kk e lo hi w' v := h.keep (fun b cur a1 a2 a3 => k b cur _ (by decide) a1 a2 (by simp) a3)
mutual
theorem StIn.keep {kk : Ex → Int} {w w' : World} : ∀ {s : Stz} {lo hi : Nat} {v : Value}, StIn kk s lo hi w v → Samz w w' lo hi none → StIn kk s lo hi w' v
  | .set _ _, _, _, _, ⟨ve, e1, h⟩, k => ⟨ve, e1, h.keep' k⟩
  | .setx _ _ _, _, _, _, ⟨vi, ve, m, e1, h1, h2, h3, h4⟩, k => ⟨vi, ve, m, e1, h1, h2, h3.keep' (k.sub (by omega) (by omega) (by simp)), h4.keep' (k.sub (by omega) (by omega) (by simp))⟩
  | .ife _ _ _, _, _, _, ⟨vc, vt, vo, m1, m2, e1, h1, h2, h3, h4, ⟨xs, h5, h6⟩, ⟨ys, h7, h8⟩⟩, k => ⟨vc, vt, vo, m1, m2, e1, h1, h2, h3, h4.keep' (k.sub (by omega) (by omega) (by simp)), ⟨xs, h5.keep (by decide) (k.sub (by omega) (by omega) (by simp)), h6.keep (k.sub (by omega) (by omega) (by simp))⟩, ⟨ys, h7.keep (by decide) (k.sub (by omega) (by omega) (by simp)), h8.keep (k.sub (by omega) (by omega) (by simp))⟩⟩
  | .cas _ _ _, _, _, _, ⟨vc, vt, vo, m1, m2, e1, h1, h2, h3, h4, ⟨n, xs, h5, h6⟩, ⟨ys, h7, h8⟩⟩, k => ⟨vc, vt, vo, m1, m2, e1, h1, h2, h3, h4.keep' (k.sub (by omega) (by omega) (by simp)), ⟨n, xs, h5.keep (by decide) (k.sub (by omega) (by omega) (by simp)), h6.keep (k.sub (by omega) (by omega) (by simp))⟩, ⟨ys, h7.keep (by decide) (k.sub (by omega) (by omega) (by simp)), h8.keep (k.sub (by omega) (by omega) (by simp))⟩⟩
  | .loop _ _ _ _, _, _, _, ⟨vb, e1, ⟨xs, h5, h6⟩⟩, k => ⟨vb, e1, ⟨xs, h5.keep (by decide) k, h6.keep (k.sub (by omega) (by omega) (by simp))⟩⟩
theorem SlIn.keep {kk : Ex → Int} {w w' : World} {g : Option Nat} : ∀ {l : Sl} {lo hi : Nat} {xs : List Value}, SlIn kk g l lo hi w xs → Samz w w' lo hi g → SlIn kk g l lo hi w' xs
  | .nil, _, _, _, h, _ => h
  | .cons _ _, _, _, _, ⟨v, ys, a, b, m, e1, h1, h2, h3, h4, h5, h6, h7⟩, k => ⟨v, ys, a, b, m, e1, h1, h2, h3, h4, h5, h6.keep (k.sub (by omega) (by omega) (fun c c1 c2 _ e => by have := h5 c e; omega)), h7.keep (k.sub (by omega) (by omega) (fun c c1 c2 c3 => c3))⟩
theorem WlIn.keep {kk : Ex → Int} {w w' : World} {g : Option Nat} : ∀ {l : Wl} {lo hi : Nat} {xs : List Value}, WlIn kk g l lo hi w xs → Samz w w' lo hi g → WlIn kk g l lo hi w' xs
  | .nil, _, _, _, h, _ => h
  | .cons _ _ _, _, _, _, ⟨vn, vb, ys, a, m1, c, m, e1, h1, h2, h3, h4, h5, h6, h7, ⟨zs, h8, h9⟩, h10⟩, k => ⟨vn, vb, ys, a, m1, c, m, e1, h1, h2, h3, h4, h5, h6, h7.keep (by decide) (k.sub (by omega) (by omega) (fun d d1 d2 _ e => by have := h6 d e; omega)), ⟨zs, h8.keep (by decide) (k.sub (by omega) (by omega) (fun d d1 d2 _ e => by have := h6 d e; omega)), h9.keep (k.sub (by omega) (by omega) (fun d d1 d2 _ e => by have := h6 d e; omega))⟩, h10.keep (k.sub (by omega) (by omega) (fun c c1 c2 c3 => c3))⟩
end
theorem SlIn.len {kk : Ex → Int} {w : World} {g : Option Nat} : ∀ {l : Sl} {lo hi : Nat} {xs : List Value}, SlIn kk g l lo hi w xs → xs.length = l.len
  | .nil, _, _, _, h => by rw [h]; rfl
  | .cons _ _, _, _, _, ⟨v, ys, a, b, m, e1, h1, h2, h3, h4, h5, h6, h7⟩ => by rw [e1]; simp only [List.length_cons, Sl.len, h7.len]
/-- One more statement behind. -/
theorem SlIn.snoc {kk : Ex → Int} {w : World} {g : Option Nat} {s : Stz} {v : Value} {a b hi : Nat} (hs : StIn kk s a b w v) (hab : a ≤ b) (hbh : b ≤ hi) (ho : Off g a b) : ∀ {l : Sl} {lo : Nat} {xs : List Value}, lo ≤ a → SlIn kk g l lo a w xs → SlIn kk g (l.app (.cons s .nil)) lo hi w (xs ++ [v])
  | .nil, lo, xs, h1, h => by
    rw [show xs = [] from h]
    exact ⟨v, [], a, b, b, rfl, h1, hab, Nat.le_refl _, hbh, ho, hs, rfl⟩
  | .cons _ _, lo, xs, h1, ⟨v', ys, a', b', m, e1, p1, p2, p3, p4, p5, p6, p7⟩ => by
    rw [e1]
    exact ⟨v', ys ++ [v], a', b', m, rfl, p1, p2, p3, by omega, p5, p6, SlIn.snoc hs hab hbh ho p4 p7⟩
/-- Another hole. -/
theorem SlIn.hole {kk : Ex → Int} {w : World} {g g' : Option Nat} : ∀ {l : Sl} {lo hi : Nat} {xs : List Value}, SlIn kk g l lo hi w xs → Off g' lo hi → SlIn kk g' l lo hi w xs
  | .nil, _, _, _, h, _ => h
  | .cons _ _, _, _, _, ⟨v, ys, a, b, m, e1, h1, h2, h3, h4, h5, h6, h7⟩, k => ⟨v, ys, a, b, m, e1, h1, h2, h3, h4, fun x e => by have := k x e; omega, h6, h7.hole (fun x e => by have := k x e; omega)⟩
theorem SlIn.wide {kk : Ex → Int} {w : World} {g : Option Nat} : ∀ {l : Sl} {lo hi lo' hi' : Nat} {xs : List Value}, SlIn kk g l lo hi w xs → lo' ≤ lo → hi ≤ hi' → SlIn kk g l lo' hi' w xs
  | .nil, _, _, _, _, _, h, _, _ => h
  | .cons _ _, _, _, _, _, _, ⟨v, ys, a, b, m, e1, h1, h2, h3, h4, h5, h6, h7⟩, p, q => ⟨v, ys, a, b, m, e1, by omega, h2, h3, by omega, h5, h6, h7.wide (Nat.le_refl _) q⟩
theorem StIn.iface {kk : Ex → Int} {w : World} {s : Stz} {lo hi : Nat} {v : Value} (h : StIn kk s lo hi w v) : ∃ t u, v = .iface t u := by
  cases s <;> first | (obtain ⟨_, e1, _⟩ := h; exact ⟨_, _, e1⟩) | (obtain ⟨_, _, _, e1, _⟩ := h; exact ⟨_, _, e1⟩) | (obtain ⟨_, _, _, _, _, e1, _⟩ := h; exact ⟨_, _, e1⟩)

end Go.Proofs.YtidhiaaicmfabaaGreatDoor

/- Settings are read (seat .ZD alone). -/
namespace Go.Proofs.YtidhiaaicmfabaaGreatDoor
open Go.RowKit Go.Proofs Go.Deep

/-- The reader reads the statement that stands ahead. -/
def StmtOk (s : Stz) : Prop := ∀ {w : World} {B bp : Nat} {pv : Value} {L : List ByteArray} {k : Nat} {d : Int} {us : List ByteArray} {uv : Value}, Ps B bp pv L k d us uv w → TokAt L k (toksS s) → ((nextS L (k + (toksS s).length)).toList == wLB.toList) = false → 0 ≤ d → d + depS s ≤ 10 →
    ∀ (R : Ending → World → Prop), (∀ w' v uv', Ps B bp pv L (k + (toksS s).length) d (us ++ namesS s) uv' w' → Fu bp uv uv' w w' → StIn (fun _ => 0) s w.heap.size w'.heap.size w' v → R (.returned (.tuple #[v, .bool true])) w') →
    Calls Tryz.prog 200 #[.pointer (some ⟨bp, 0, none⟩)] w R
set_option maxRecDepth 100000 in
set_option maxHeartbeats 2000000 in
theorem setting_plain {s : ByteArray} {e : Ex} (hn : LowName s) (he : ExprOk e) {w : World} {B bp : Nat} {pv : Value} {L : List ByteArray} {k : Nat} {d : Int} {us : List ByteArray} {uv : Value} (h : Ps B bp pv L k d us uv w) (ht : TokAt L k (s :: wAS :: toks e)) (hfo : ((nextS L (k + 1 + 1 + (toks e).length)).toList == wLB.toList) = false) (hd0 : 0 ≤ d) (hd1 : d + depE e ≤ 10)
    (R : Ending → World → Prop) (fin : ∀ w' v uv', Ps B bp pv L (k + 1 + 1 + (toks e).length) d (us ++ (s :: namesE e)) uv' w' → Fu bp uv uv' w w' → StIn (fun _ => 0) (.set s e) w.heap.size w'.heap.size w' v → R (.returned v) w') :
    Calls Tryz.prog 224 #[.pointer (some ⟨bp, 0, none⟩)] w R := by
  have hs := ht.head
  have hs2 := ht.tail.head
  replace fin := hd fin
  go_enter Tryz.func224, Tryz.ntmps224
  go_wp2_with (fail)
  refine place_plain h (by rw [hs]; exact hn) (by rw [hs2]; kernel_rfl) _ ?_
  intro w1 uv1 h1 hf1
  rw [hs] at h1 ⊢
  have hn1 : bp ≠ w1.heap.size := by have := h1.pa.row.lt; omega
  have hfA := hd hf1
  have hz1 := hf1.size
  clear hf1
  go_wp2_with (fail)
  refine pExp (s := wAS) (h1.alloc _) hs2 (by decide) _ ?_
  intro w2 h2 hf2
  have hb2 := (h1.alloc _).apart allocCells (by decide) hn1 hf2
  have hfB := hd (hfA.out.trans ((Fu.of_below ((Below.refl _ w1).alloc (Nat.le_refl _) _)).trans hf2))
  have hz2 := hf2.size
  rw [World.size_alloc] at hz2
  have a0 := cellOf (i := 0) hb2 rfl
  have a1 := cellOf (i := 1) hb2 rfl
  clear hf2 hfA h1 h
  generalize hz : w1.heap.size = z at *
  replace hz := hd hz
  go_wp2_with (fail)
  have h2' := hd h2
  have hb2' := hd hb2
  clear h2 hb2
  go_region_with (go_at_call 233; refine he (by exact h2'.out.drew) ht.tail.tail hfo hd0 hd1 _ ?_; intro w5 v uv5 h5 hf5 hx5; have hb5 := h2'.out.drew.apart hb2'.out (by decide) hn1 hf5; have b0 := cellOf (i := 0) hb5 rfl; have b1 := cellOf (i := 1) hb5 rfl; obtain ⟨t, u, rfl⟩ := hx5.iface; replace h5 := hd h5; replace hf5 := hd hf5; replace hx5 := hd hx5; replace hb5 := hd hb5)
  all_goals
    have hfC := hd (hfB.out.trans ((Fu.of_below (below_drewN (Below.refl _ w2) 1)).trans hf5.out))
    have hx6 := hd (hx5.out.wide (show w.heap.size ≤ w2.drew.heap.size from Nat.le_trans hz1 (Nat.le_trans (Nat.le_succ _) hz2)) (Nat.le_refl _))
    have h6 := h5.out
    rw [List.append_assoc] at h6
    replace h6 := hd h6
    clear h5 hf5 hx5
    go_wp2
    go_ret
    exact cl1 (fin.out _ (.iface 309 (.agg #[.string s, .nilIface, .iface t u])) uv5 h6.out hfC.out ⟨_, rfl, hx6.out⟩) rfl
set_option maxRecDepth 100000 in
set_option maxHeartbeats 2000000 in
theorem stmt_set {s : ByteArray} {e : Ex} (hn : LowName s) (he : ExprOk e) : StmtOk (.set s e) := by
  intro w B bp pv L k d us uv h ht hfo hd0 hd1 R fin
  simp only [toksS, depS, List.length_cons, namesS] at ht hfo hd1 fin
  rw [show k + ((toks e).length + 1 + 1) = k + 1 + 1 + (toks e).length by omega] at hfo fin
  have hs := ht.head
  replace fin := hd fin
  go_enter Tryz.func200, Tryz.ntmps200
  go_wp2_with (fail)
  refine pNext h _ ?_
  intro w1 h1 hf1
  rw [hs]
  go_wp2_with (fail)
  refine isName_yes _ s hn.pos hn.le hn.first hn.low _ ?_
  go_wp2_with (fail)
  refine setting_plain hn he h1 ht hfo hd0 hd1 _ ?_
  intro w2 v uv2 h2 hf2 hx2
  have hfA := hd (hf1.trans hf2)
  obtain ⟨ve, rfl, hx3⟩ := hx2
  replace hx3 := hd (hx3.wide hf1.size (Nat.le_refl _))
  replace h2 := hd h2
  clear hf1 hf2
  go_wp2
  exact cl1 (fin.out _ _ uv2 h2.out hfA.out ⟨ve, rfl, hx3.out⟩) rfl

end Go.Proofs.YtidhiaaicmfabaaGreatDoor

/- strings.ToLower of ASCII text, laid at this program (what the shelf's command prints in its plain mode; seat .ZD alone). -/
namespace Go.Proofs
open Go.Shelf
def Tryz.lays159_ren : Go.Shelf.Ren := ⟨fun | 159 => 229 | 165 => 240 | 166 => 76 | 167 => 77 | 169 => 80 | 230 => 241 | 204 => 242 | 240 => 137 | 241 => 251 | 197 => 252 | 118 => 253 | 168 => 254 | 270 => 255 | 262 => 256 | 276 => 201 | 277 => 263 | 260 => 264 | 242 => 265 | 313 => 266 | 278 => 268 | 274 => 269 | 275 => 270 | n => n, fun | 9 => 9 | 4 => 4 | 3 => 3 | 5 => 5 | 72 => 160 | 0 => 0 | 76 => 163 | 75 => 162 | 107 => 322 | 70 => 158 | 20 => 20 | 37 => 133 | 127 => 246 | 21 => 21 | 105 => 337 | 164 => 282 | 162 => 358 | 203 => 356 | 119 => 363 | 46 => 245 | 139 => 366 | 138 => 365 | 51 => 299 | 160 => 367 | 208 => 374 | 206 => 372 | 80 => 168 | n => n, fun | 13 => 3 | 3 => 5 | 4 => 6 | n => n⟩
theorem Tryz.lays159 : Go.Proofs.Lays.n159 Tryz.prog Tryz.lays159_ren := {
  mixed := by kernel_rfl
  f118 := Tryz.func253.trans (congrArg some (by kernel_rfl))
  f159 := Tryz.func229.trans (congrArg some (by kernel_rfl))
  f165 := Tryz.func240.trans (congrArg some (by kernel_rfl))
  f166 := Tryz.func76.trans (congrArg some (by kernel_rfl))
  f167 := Tryz.func77.trans (congrArg some (by kernel_rfl))
  f168 := Tryz.func254.trans (congrArg some (by kernel_rfl))
  f169 := Tryz.func80.trans (congrArg some (by kernel_rfl))
  f197 := Tryz.func252.trans (congrArg some (by kernel_rfl))
  f204 := Tryz.func242.trans (congrArg some (by kernel_rfl))
  f230 := Tryz.func241.trans (congrArg some (by kernel_rfl))
  f240 := Tryz.func137.trans (congrArg some (by kernel_rfl))
  f241 := Tryz.func251.trans (congrArg some (by kernel_rfl))
  f242 := Tryz.func265.trans (congrArg some (by kernel_rfl))
  f260 := Tryz.func264.trans (congrArg some (by kernel_rfl))
  f262 := Tryz.func256.trans (congrArg some (by kernel_rfl))
  f270 := Tryz.func255.trans (congrArg some (by kernel_rfl))
  f274 := Tryz.func269.trans (congrArg some (by kernel_rfl))
  f275 := Tryz.func270.trans (congrArg some (by kernel_rfl))
  f276 := Tryz.func201.trans (congrArg some (by kernel_rfl))
  f277 := Tryz.func263.trans (congrArg some (by kernel_rfl))
  f278 := Tryz.func268.trans (congrArg some (by kernel_rfl))
  f313 := Tryz.func266.trans (congrArg some (by kernel_rfl))
  t0 := Tryz.underlying0
  a0 := Tryz.isAgg0
  z0 := Tryz.sizeOf0
  v0 := Tryz.zeroValue0
  t3 := Tryz.underlying3
  a3 := Tryz.isAgg3
  z3 := Tryz.sizeOf3
  v3 := Tryz.zeroValue3
  t4 := Tryz.underlying4
  a4 := Tryz.isAgg4
  z4 := Tryz.sizeOf4
  v4 := Tryz.zeroValue4
  t5 := Tryz.underlying5
  a5 := Tryz.isAgg5
  z5 := Tryz.sizeOf5
  v5 := Tryz.zeroValue5
  t9 := Tryz.underlying9
  a9 := Tryz.isAgg9
  z9 := Tryz.sizeOf9
  v9 := Tryz.zeroValue9
  t20 := Tryz.underlying20
  a20 := Tryz.isAgg20
  z20 := Tryz.sizeOf20
  v20 := Tryz.zeroValue20
  t21 := Tryz.underlying21
  a21 := Tryz.isAgg21
  z21 := Tryz.sizeOf21
  v21 := Tryz.zeroValue21
  t37 := Tryz.underlying133
  a37 := Tryz.isAgg133
  z37 := Tryz.sizeOf133
  v37 := Tryz.zeroValue133
  t46 := Tryz.underlying245
  a46 := Tryz.isAgg245
  z46 := Tryz.sizeOf245
  v46 := Tryz.zeroValue245
  t51 := Tryz.underlying299
  a51 := Tryz.isAgg299
  z51 := Tryz.sizeOf299
  v51 := Tryz.zeroValue299
  t70 := Tryz.underlying158
  a70 := Tryz.isAgg158
  z70 := Tryz.sizeOf158
  v70 := Tryz.zeroValue158
  t72 := Tryz.underlying160
  a72 := Tryz.isAgg160
  z72 := Tryz.sizeOf160
  v72 := Tryz.zeroValue160
  t75 := Tryz.underlying162
  a75 := Tryz.isAgg162
  z75 := Tryz.sizeOf162
  v75 := Tryz.zeroValue162
  t76 := Tryz.underlying163
  a76 := Tryz.isAgg163
  z76 := Tryz.sizeOf163
  v76 := Tryz.zeroValue163
  t105 := Tryz.underlying337
  a105 := Tryz.isAgg337
  z105 := Tryz.sizeOf337
  v105 := Tryz.zeroValue337
  t107 := Tryz.underlying322
  a107 := Tryz.isAgg322
  z107 := Tryz.sizeOf322
  v107 := Tryz.zeroValue322
  t119 := Tryz.underlying363
  a119 := Tryz.isAgg363
  z119 := Tryz.sizeOf363
  t127 := Tryz.underlying246
  a127 := Tryz.isAgg246
  z127 := Tryz.sizeOf246
  v127 := Tryz.zeroValue246
  t138 := Tryz.underlying365
  a138 := Tryz.isAgg365
  z138 := Tryz.sizeOf365
  v138 := Tryz.zeroValue365
  t139 := Tryz.underlying366
  a139 := Tryz.isAgg366
  z139 := Tryz.sizeOf366
  v139 := Tryz.zeroValue366
  t160 := Tryz.underlying367
  a160 := Tryz.isAgg367
  z160 := Tryz.sizeOf367
  v160 := Tryz.zeroValue367
  t162 := Tryz.underlying358
  a162 := Tryz.isAgg358
  z162 := Tryz.sizeOf358
  v162 := Tryz.zeroValue358
  t164 := Tryz.underlying282
  a164 := Tryz.isAgg282
  z164 := Tryz.sizeOf282
  v164 := Tryz.zeroValue282
  t203 := Tryz.underlying356
  a203 := Tryz.isAgg356
  z203 := Tryz.sizeOf356
  v203 := Tryz.zeroValue356
  t206 := Tryz.underlying372
  a206 := Tryz.isAgg372
  z206 := Tryz.sizeOf372
  v206 := Tryz.zeroValue372
  t208 := Tryz.underlying374
  a208 := Tryz.isAgg374
  z208 := Tryz.sizeOf374
  v208 := Tryz.zeroValue374
  g3 := by kernel_rfl
  g4 := by kernel_rfl
  g13 := by kernel_rfl }
theorem Tryz.Builder_Extra_159 : Builder.Extra Tryz.prog Tryz.lays159_ren := {
  sizeBuilder := by kernel_rfl
  liesBuilder := by kernel_rfl
  t5 := Tryz.underlying5
  a5 := Tryz.isAgg5
  z5 := Tryz.sizeOf5
  v5 := Tryz.zeroValue5
  infoByte := by kernel_rfl
  cellsByte := by kernel_rfl
  sizeByte := by kernel_rfl
  neB5 := by decide }
open Go.RowKit in
theorem Tryz.strings_ToLower_ascii (s : ByteArray) (w : World) (hs : s.size ≤ 140737488355328) (hascii : ∀ (j : Nat) (b : UInt8), s.data.toList[j]? = some b → b.toNat < 128) :
    Calls Tryz.prog 229 #[.string s] w fun e w' => e = .returned (.string ⟨(Lib.toLowerA s.data.toList).toArray⟩) ∧ Below w.heap.size w w' := Any.strings_ToLower_ascii Tryz.lays159 Tryz.Builder_Extra_159 s w hs hascii
end Go.Proofs

/- Words with capitals are no names; where no statement begins (seat .ZD alone). -/
namespace Go.Proofs.YtidhiaaicmfabaaGreatDoor
open Go.RowKit Go.Proofs Go.Deep

set_option maxRecDepth 100000 in
/-- A word with a capital is no name. -/
theorem isName_cap (w : World) (s : ByteArray) (h0 : 0 < s.size) (h12 : s.size ≤ 12) (h1 : isLt (bt s 0) = true) (ha : ∀ (j : Nat) (b : UInt8), s.data.toList[j]? = some b → b.toNat < 128) (hc : (s.toList == (⟨(Lib.toLowerA s.data.toList).toArray⟩ : ByteArray).toList) = false)
    (R : Ending → World → Prop) (fin : ∀ w', Below w.heap.size w w' → R (.returned (.bool false)) w') : Calls Tryz.prog 221 #[.string s] w R := by
  have hb := bt_of s 0 h0
  have j0 : (0 : Int) < (s.size : Int) := by omega
  have t0 := pos_beq (t := s) (by omega)
  have t1 : decide ((s.size : Int) ≤ 12) = true := by simp; omega
  replace fin := hd fin
  replace ha := hd ha
  go_enter Tryz.func221, Tryz.ntmps221
  go_wp2_with (first | (go_at_call 190; refine isLetter_any _ _ _ ?_; rw [h1]))
  refine (Tryz.strings_ToLower_ascii s _ (by omega) ha.out).mono ?_
  rintro e w' ⟨rfl, hbel⟩
  generalize (⟨(Lib.toLowerA s.data.toList).toArray⟩ : ByteArray) = z at *
  replace hbel := hd hbel
  go_wp2
  exact cl1 (fin.out _ hbel.out) (by first | rfl | simp)
/-- A known word: it begins with a letter, is no name, and short. -/
def capW (s : ByteArray) : Bool := decide (0 < s.size) && decide (s.size ≤ 12) && isLt (bt s 0) && s.data.toList.all (fun b => decide (b.toNat < 128)) && !(s.toList == (⟨(Lib.toLowerA s.data.toList).toArray⟩ : ByteArray).toList)
theorem isName_capW (w : World) (s : ByteArray) (h : capW s = true) (R : Ending → World → Prop) (fin : ∀ w', Below w.heap.size w w' → R (.returned (.bool false)) w') : Calls Tryz.prog 221 #[.string s] w R := by
  simp only [capW, Bool.and_eq_true, decide_eq_true_eq, List.all_eq_true, Bool.not_eq_true'] at h
  obtain ⟨⟨⟨⟨h1, h2⟩, h3⟩, h4⟩, h5⟩ := h
  exact isName_cap w s h1 h2 h3 (fun j b hb => h4 b (List.mem_of_getElem? hb)) h5 R fin
theorem cap_END : capW wEND = true := by kernel_rfl
theorem cap_ELSE : capW wELSE = true := by kernel_rfl
theorem cap_WHEN : capW wWHEN = true := by kernel_rfl
theorem cap_IF : capW wIF = true := by kernel_rfl
theorem cap_CASE : capW wCASE = true := by kernel_rfl
/-- A word at which no statement begins. -/
structure StopW (s : ByteArray) : Prop where
  cap : capW s = true
  n1 : (s.toList == wIF.toList) = false
  n2 : (s.toList == wCASE.toList) = false
  n3 : (s.toList == wFOR.toList) = false
theorem stop_END : StopW wEND := ⟨cap_END, by kernel_rfl, by kernel_rfl, by kernel_rfl⟩
theorem stop_ELSE : StopW wELSE := ⟨cap_ELSE, by kernel_rfl, by kernel_rfl, by kernel_rfl⟩
theorem stop_WHEN : StopW wWHEN := ⟨cap_WHEN, by kernel_rfl, by kernel_rfl, by kernel_rfl⟩
set_option maxRecDepth 100000 in
set_option maxHeartbeats 2000000 in
theorem stmt_no {w : World} {B bp : Nat} {pv : Value} {L : List ByteArray} {k : Nat} {d : Int} {us : List ByteArray} {uv : Value} (h : Ps B bp pv L k d us uv w) (hs : StopW (nextS L k)) (R : Ending → World → Prop)
    (fin : ∀ w', Ps B bp pv L k d us uv w' → Fu bp uv uv w w' → R (.returned (.tuple #[.nilIface, .bool false])) w') : Calls Tryz.prog 200 #[.pointer (some ⟨bp, 0, none⟩)] w R := by
  replace fin := hd fin
  go_enter Tryz.func200, Tryz.ntmps200
  go_wp2_with (fail)
  refine pNext h _ ?_
  intro w1 h1 hf1
  go_wp2_with (fail)
  refine isName_capW _ _ hs.cap _ ?_
  intro w2 hb2
  have h2 := h1.only (h1.pa.below hb2) (Only.of_below hb2) (by omega)
  have hf2 := hf1.trans (Fu.of_below hb2)
  clear hf1 hb2 h1
  go_wp2_with (fail)
  refine pNot (s := wIF) h2 hs.n1 _ ?_
  intro w3 h3 hf3
  go_wp2_with (fail)
  refine pNot (s := wCASE) h3 hs.n2 _ ?_
  intro w4 h4 hf4
  go_wp2_with (fail)
  refine pNot (s := wFOR) h4 hs.n3 _ ?_
  intro w5 h5 hf5
  have hfA := hd (((hf2.trans hf3).trans hf4).trans hf5)
  replace h5 := hd h5
  clear hf2 hf3 hf4 hf5 h2 h3 h4
  go_wp2
  exact cl1 (fin.out _ h5.out hfA.out) rfl

end Go.Proofs.YtidhiaaicmfabaaGreatDoor

/- Statements are read one behind another (seat .ZD alone). -/
namespace Go.Proofs.YtidhiaaicmfabaaGreatDoor
open Go.RowKit Go.Proofs Go.Deep

def AllOk : Sl → Prop
  | .nil => True
  | .cons h t => StmtOk h ∧ AllOk t
theorem len_le : ∀ l : Sl, l.len ≤ (toksL l).length
  | .nil => Nat.le_refl _
  | .cons _ t => by have := len_le t; simp only [Sl.len, toksL, List.length_append, List.length_cons]; omega
mutual
theorem depL_nonneg : ∀ l : Sl, 0 ≤ depL l
  | .nil => Int.le_refl _
  | .cons _ t => by have := depL_nonneg t; simp only [depL]; omega
end
theorem Ps.grow {B bp : Nat} {pv : Value} {L : List ByteArray} {k : Nat} {d : Int} {us : List ByteArray} {uv : Value} {w w' : World} (h : Ps B bp pv L k d us uv w) {base T sz n : Nat} {lv : Value} {xs : List Value} (hown : w.ownsRow base T sz lv n xs) (hT : T ≠ 9) (hB : B ≤ base) (hs : w.heap.size ≤ w'.heap.size)
    (hk : ∀ b, b < w.heap.size → lv.ownBlock ≠ some b → w'.heap[b]? = w.heap[b]?) : Ps B bp pv L k d us uv w' := by
  have hlt := h.lt
  have hle := h.le
  have hlt2 := h.pa.row.lt
  have hB2 : ∀ b, b < B → lv.ownBlock ≠ some b := fun b hb e => by have := (hown.lt b e).1; omega
  refine ⟨?_, own_keep h.own (fun j hj hBj hjs => hk j hjs (fun e => ?_)), h.lt, Nat.le_trans h.le hs, h.few, h.old, fun j x hx => (World.cell?_of_block (w := w) (a := ⟨4, j, none⟩) (hk 4 (by have := h.opB.1; omega) (hB2 4 h.opB.1))).trans (h.ops j x hx), h.opB⟩
  · obtain ⟨po, pc, e, hc, hp2⟩ := h.pa.parts
    refine ⟨h.pa.row.of_block (hk _ hlt2 (hB2 _ hlt)), h.pa.le, h.pa.sm, po, pc, e, hc, fun h0 => ?_⟩
    obtain ⟨q, e1, e2, e3, e4⟩ := hp2 h0
    have hq := h.old q pc (by rw [e, e1])
    exact ⟨q, e1, e2, Nat.lt_of_lt_of_le e3 hs, fun j x hj => (World.cell?_of_block (w := w) (a := ⟨q, j, none⟩) (hk q e3 (hB2 q hq))).trans (e4 j x hj)⟩
  · rcases h.own.2 with ⟨rfl, _⟩ | ⟨g', cap, cur', rfl, _, hg', _⟩
    · simp [Value.ownBlock] at hj
    · simp only [Value.ownBlock, Option.some.injEq] at hj
      subst hj
      rcases hown.2 with ⟨rfl, _⟩ | ⟨g2, cap2, cur2, rfl, _, hg2, _⟩
      · simp [Value.ownBlock] at e
      · simp only [Value.ownBlock, Option.some.injEq] at e
        subst e
        rw [hg2] at hg'
        injection hg' with e1
        injection e1 with _ e2
        exact hT e2
theorem Fu.grow {bp : Nat} {u u' lv : Value} {w0 w w' : World} (h : Fu bp u u' w0 w) (ho : w'.os = w.os) (ht : w'.tape = w.tape) (hp : w'.output = w.output) (hs : w.heap.size ≤ w'.heap.size) (hk : ∀ b, b < w.heap.size → lv.ownBlock ≠ some b → w'.heap[b]? = w.heap[b]?) (hn : ∀ b, lv.ownBlock = some b → w0.heap.size ≤ b) : Fu bp u u' w0 w' :=
  ⟨ho.trans h.os, ht.trans h.tape, hp.trans h.output, Nat.le_trans h.size hs, fun j hj hb hu => (hk j (Nat.lt_of_lt_of_le hj h.size) (fun e => by have := hn j e; omega)).trans (h.block j hj hb hu), h.own⟩
/-- What the reader has, where the statements r were ahead. -/
def HeadP (B bp : Nat) (pv : Value) (L : List ByteArray) (d : Int) (r : Sl) (k : Nat) (us : List ByteArray) (a : Nat) (w : World) (sv : Value) (ok : Bool) (uv : Value) : Prop :=
  (r = .nil ∧ ok = false ∧ Ps B bp pv L k d us uv w) ∨ (∃ h t, r = .cons h t ∧ ok = true ∧ (∃ t' u, sv = .iface t' u) ∧ Ps B bp pv L (k + (toksS h).length) d (us ++ namesS h) uv w ∧ StIn (fun _ => 0) h a w.heap.size w sv)
theorem stmt_head {r : Sl} (hr : AllOk r) {w : World} {B bp : Nat} {pv : Value} {L : List ByteArray} {k : Nat} {d : Int} {us : List ByteArray} {uv : Value} (h : Ps B bp pv L k d us uv w) (ht : TokAt L k (toksL r)) (hst : StopW (nextS L (k + (toksL r).length))) (hd0 : 0 ≤ d) (hd1 : d + depL r ≤ 10)
    (R : Ending → World → Prop) (fin : ∀ w' sv ok uv', HeadP B bp pv L d r k us w.heap.size w' sv ok uv' → Fu bp uv uv' w w' → R (.returned (.tuple #[sv, .bool ok])) w') : Calls Tryz.prog 200 #[.pointer (some ⟨bp, 0, none⟩)] w R := by
  cases r with
  | nil => exact stmt_no h hst R (fun w' h1 hf => fin w' _ _ _ (.inl ⟨rfl, rfl, h1⟩) hf)
  | cons s t =>
    simp only [toksL] at ht
    have n1 : ((nextS L (k + (toksS s).length)).toList == wLB.toList) = false := by rw [ht.right.head]; kernel_rfl
    refine hr.1 h ht.left n1 hd0 (by simp only [depL] at hd1; omega) R (fun w' v uv' h1 hf hx => ?_)
    exact fin w' _ _ _ (.inr ⟨s, t, rfl, rfl, hx.iface, h1, hx⟩) hf
theorem ulStmts : Tryz.prog.underlying 85 = some (.slice 240) := by kernel_rfl
theorem infoStmt : (Tryz.prog.info? 240).map (fun i => (i.zero, i.size, i.bytes)) = some (some .nilIface, 1, 16) := by kernel_rfl
theorem oneIf (t : Nat) (u : Value) : ∀ x ∈ [Value.iface t u], x.oneCell' = true := by
  intro x hx; simp only [List.mem_cons, List.not_mem_nil, or_false] at hx; subst hx; rfl
theorem Fu.same {B bp : Nat} {pv : Value} {L : List ByteArray} {k : Nat} {d : Int} {us : List ByteArray} {uv uv' : Value} {w w' : World} (hf : Fu bp uv uv' w w') (hp : Ps B bp pv L k d us uv w) {lo hi : Nat} (hb : bp < lo) (g : Option Nat) : Samz w w' lo hi g :=
  fun b cur T hT h1 _ _ hc => (hp.apart hc hT (by omega) hf).trans hc.symm
theorem depL_cons {h : Stz} {t : Sl} {d : Int} (hd : d + depL (.cons h t) ≤ 10) : d + depL t ≤ 10 := by simp only [depL] at hd; omega
/-- The reader reads statements. -/
def StmtsOk (l : Sl) : Prop := ∀ {w : World} {B bp : Nat} {pv : Value} {L : List ByteArray} {k : Nat} {d : Int} {us : List ByteArray} {uv : Value}, Ps B bp pv L k d us uv w → TokAt L k (toksL l) → StopW (nextS L (k + (toksL l).length)) → 0 ≤ d → d + depL l ≤ 10 →
    ∀ (R : Ending → World → Prop), (∀ w' v xs uv', Ps B bp pv L (k + (toksL l).length) d (us ++ namesL l) uv' w' → Fu bp uv uv' w w' → RowIn w' w.heap.size w'.heap.size 240 1 v l.len xs → SlIn (fun _ => 0) v.ownBlock l w.heap.size w'.heap.size w' xs → R (.returned v) w') →
    Calls Tryz.prog 133 #[.pointer (some ⟨bp, 0, none⟩)] w R
/-- Where the reader stands in the loop over statements. -/
structure LoopP (B bp : Nat) (pv : Value) (L : List ByteArray) (d : Int) (l : Sl) (k : Nat) (us : List ByteArray) (uv : Value) (w : World) (lv sv : Value) (ok : Bool) (wr : World) (rest : Sl) : Prop where
  ex : ∃ done xs a uv', l = done.app rest ∧ HeadP B bp pv L d rest (k + (toksL done).length) (us ++ namesL done) a wr sv ok uv' ∧ Fu bp uv uv' w wr ∧ wr.ownsRow w.heap.size 240 1 lv done.len xs ∧ (∀ g, lv.ownBlock = some g → g < a) ∧ SlIn (fun _ => 0) lv.ownBlock done w.heap.size a wr xs ∧ w.heap.size ≤ a ∧ a ≤ wr.heap.size ∧ AllOk rest ∧ d + depL rest ≤ 10
set_option maxRecDepth 100000 in
set_option maxHeartbeats 2000000 in
theorem stmts_ok {l : Sl} (hl : AllOk l) : StmtsOk l := by
  intro w B bp pv L k d us uv h ht hst hd0 hd1 R fin
  replace fin := hd fin
  have hbw := h.pa.row.lt
  go_enter Tryz.func133, Tryz.ntmps133
  go_wp2_with (fail)
  refine stmt_head hl h ht hst hd0 hd1 _ ?_
  intro w1 sv ok uv1 h1 hf1
  have hL1 : LoopP B bp pv L d l k us uv w (.slice none 0 0) sv ok w1 l := ⟨.nil, [], w.heap.size, uv1, rfl, by simpa [toksL, namesL] using h1, hf1, World.ownsRow_nil _ _ _ _, by simp [Value.ownBlock], rfl, Nat.le_refl _, hf1.size, hl, hd1⟩
  replace hL1 := hd hL1
  clear h1 hf1
  go_wp2
  go_loopg [3, 4, 5] l.len (fun gk lv sv okv wr => ∃ ok rest, okv = .bool ok ∧ gk = rest.len ∧ LoopP B bp pv L d l k us uv w lv sv ok wr rest)
  case atStart => exact ⟨ok, l, rfl, rfl, hL1.out⟩
  case round =>
    obtain ⟨ok2, rest, rfl, hgk, done, xs, a, uv2, happ, hh, hfu, hown, hoa, hsl, ha1, ha2, hrest, hdr⟩ := hrel
    clear hL1
    rcases hh with ⟨rfl, rfl, hps⟩ | ⟨s, t, rfl, rfl, ⟨ti, ui, rfl⟩, hps, hst2⟩
    · rw [Sl.app_nil] at happ
      subst happ
      obtain ⟨ao, cp, rfl⟩ := own_slS hown
      have hr := hd (show RowIn wr w.heap.size wr.heap.size 240 1 (.slice ao l.len cp) l.len xs from ⟨hown, fun g hg => (hown.lt g hg).2⟩)
      replace hsl := hd (hsl.wide (Nat.le_refl _) ha2)
      replace hps := hd hps
      replace hfu := hd hfu
      clear hown hoa
      go_wp2
      exact cl1 (fin.out _ _ xs uv2 hps.out hfu.out hr.out hsl.out) rfl
    · have hlt := hps.pa.row.lt
      have hle := hps.le
      have hlen : done.len ≤ 1000000 := by
        have h1 := hps.pa.le
        have h2 := hps.pa.sm
        have h3 := len_le done
        omega
      have hbw2 := hfu.size
      obtain ⟨ao, cp, rfl⟩ := own_slS hown
      have nb1 : (Value.slice ao done.len cp).ownBlock ≠ some bp := fun e => by have := (hown.lt bp e).1; omega
      have hr := hd hown
      replace hps := hd hps
      replace hfu := hd hfu
      replace hsl := hd hsl
      replace hst2 := hd hst2
      replace hoa := hd hoa
      replace nb1 := hd nb1
      go_wp2_with (first | (at_builtin; refine wpList_appZ _ rfl _ _ 85 rfl w.heap.size 240 _ 1 16 ulStmts infoStmt rfl (by decide) _ done.len xs rfl (by exact hr.out.alloc _) ⟨wr.heap.size, 0, none⟩ 1 1 [.iface ti ui] rfl rfl (by exact news_atZ (newZ (by simp))) (oneIf _ _) (by unfold maxLen; omega) (by omega) (by simp; omega) ?_; intro v2 w2 hown2 hgr2 hl2; obtain ⟨ao2, cp2, rfl⟩ := own_slS hown2; replace hown2 := hd hown2; replace hgr2 := hd hgr2; replace hl2 := hd hl2))
      have hk2 : ∀ b, b < wr.heap.size → (Value.slice ao done.len cp).ownBlock ≠ some b → w2.heap[b]? = wr.heap[b]? := fun i hi hne => (hgr2.out.block i (by simp; omega) (fun e => hne e.symm)).trans (Below.heap_alloc _ _ _ hi)
      have hz2 : wr.heap.size + 1 ≤ w2.heap.size := by have := hgr2.out.size; simp at this; omega
      have hps2 := hps.out.grow (w' := w2) hr.out (by decide) (Nat.le_trans h.le (Nat.le_refl _)) (by omega) hk2
      have hfu2 := hfu.out.grow (w' := w2) hgr2.out.os hgr2.out.tape hgr2.out.output (by omega) hk2 (fun b hb => (hr.out.lt b hb).1)
      have hsame : ∀ lo hi, hi ≤ wr.heap.size → Samz wr w2 lo hi (Value.slice ao done.len cp).ownBlock := fun lo hi hh b cur T _ _ h2 h3 _ => hk2 b (by omega) h3
      have hst3 : StIn (fun _ => 0) s a wr.heap.size w2 (.iface ti ui) := hst2.out.keep (fun b cur T h0 h1 h2 h3 h4 => hsame a wr.heap.size (Nat.le_refl _) b cur T h0 h1 h2 (fun e => by have := hoa.out b e; omega) h4)
      have hsl3 : SlIn (fun _ => 0) (Value.slice ao done.len cp).ownBlock done w.heap.size a w2 xs := hsl.out.keep (hsame _ _ ha2)
      have hoff2 : Off (Value.slice ao2 (done.len + 1) cp2).ownBlock a wr.heap.size ∧ SlIn (fun _ => 0) (Value.slice ao2 (done.len + 1) cp2).ownBlock done w.heap.size a w2 xs := by
        rcases hl2.out with e | ⟨e, _⟩
        · rw [e]
          exact ⟨fun x hx => .inl (hoa.out x hx), hsl3⟩
        · have hge : ∀ x, (Value.slice ao2 (done.len + 1) cp2).ownBlock = some x → wr.heap.size ≤ x := fun x hx => by rw [e] at hx; injection hx with hx; simp at hx; omega
          exact ⟨fun x hx => .inr (hge x hx), hsl3.hole (fun x hx => .inr (by have := hge x hx; omega))⟩
      have hsl4 := hd (SlIn.snoc hst3 ha2 (Nat.le_refl _) hoff2.1 ha1 hoff2.2)
      have ht1 : TokAt L (k + (toksL done).length) (toksS s ++ wSC :: toksL t) := by
        have := ht
        rw [happ, toksL_app] at this
        exact this.right
      clear hst3 hsl3 hoff2 hst2 hsl hps
      refine pExp (s := wSC) hps2 (by exact ht1.right.head) (by decide) _ ?_
      intro w3 h3 hf3
      have hsl5 := hd (hsl4.out.keep (hf3.same hps2 (by omega) _))
      have hz3 := hf3.size
      have hown3 := hd (own_keep (w' := w3) hown2.out (fun j hj _ hjs => by
        obtain ⟨cur, hcur⟩ : ∃ cur, w2.heap[j]? = some (.cells cur 240 (0, 0)) := by
          rcases hown2.out.2 with ⟨e1, e2⟩ | ⟨g, cap, cur, e1, _, hg, _⟩
          · omega
          · rw [e1] at hj
            simp only [Value.ownBlock, Option.some.injEq] at hj
            subst hj
            exact ⟨cur, hg⟩
        exact (hps2.apart hcur (by decide) (by have := (hown2.out.lt j hj).1; omega) hf3).trans hcur.symm))
      have hfu3 := hd (hfu2.trans hf3)
      have hog : ∀ g, (Value.slice ao2 (done.len + 1) cp2).ownBlock = some g → g < w3.heap.size := fun g hg => by have := (hown2.out.lt g hg).2; omega
      replace hog := hd hog
      have h3' := h3
      clear hps2 hfu2 hf3 hsl4 hown2 hgr2 hl2 hr hk2 hsame nb1 hoa
      go_wp2_with (fail)
      refine stmt_head (r := t) hrest.2 h3 (by exact ht1.right.tail) ?_ hd0 (depL_cons hdr) _ ?_
      · have e : k + (toksL done).length + (toksS s).length + 1 + (toksL t).length = k + (toksL l).length := by
          rw [happ, toksL_app]
          simp only [toksL, List.length_append, List.length_cons]
          omega
        rw [e]; exact hst
      intro w4 sv4 ok4 uv4 h4 hf4
      have hsl6 := hd (hsl5.out.keep (hf4.same h3' (by omega) _))
      have hown4 := hd (own_keep (w' := w4) hown3.out (fun j hj _ hjs => by
        obtain ⟨cur, hcur⟩ : ∃ cur, w3.heap[j]? = some (.cells cur 240 (0, 0)) := by
          rcases hown3.out.2 with ⟨e1, e2⟩ | ⟨g, cap, cur, e1, _, hg, _⟩
          · omega
          · rw [e1] at hj
            simp only [Value.ownBlock, Option.some.injEq] at hj
            subst hj
            exact ⟨cur, hg⟩
        exact (h3'.apart hcur (by decide) (by have := (hown3.out.lt j hj).1; omega) hf4).trans hcur.symm))
      have hz4 := hf4.size
      have hloop : LoopP B bp pv L d l k us uv w (.slice ao2 (done.len + 1) cp2) sv4 ok4 w4 t := by
        refine ⟨done.app (.cons s .nil), xs ++ [.iface ti ui], w3.heap.size, uv4, ?_, ?_, hfu3.out.trans hf4, ?_, hog.out, hsl6.out.wide (Nat.le_refl _) (by omega), by omega, hz4, hrest.2, depL_cons hdr⟩
        · rw [happ, Sl.app_assoc]; rfl
        · rw [toksL_app, namesL_app]
          simp only [toksL, namesL, List.append_nil, List.length_append, List.length_cons, List.length_nil]
          rw [← List.append_assoc, show k + ((toksL done).length + ((toksS s).length + (0 + 1))) = k + (toksL done).length + (toksS s).length + 1 by omega]
          exact h4
        · have e : (done.app (.cons s .nil)).len = done.len + 1 := by
            have := hsl6.out.len
            rw [← this, List.length_append]
            simp only [List.length_cons, List.length_nil]
            have := hown4.out.1
            rw [List.length_append] at this
            simp only [List.length_cons, List.length_nil] at this
            omega
          rw [e]
          exact hown4.out
      replace hloop := hd hloop
      clear h4 hf4 hsl6 hown4 hsl5 hown3 hog hfu3 h3 h3'
      go_wp2
      go_roundg (gk - 1)
      case measure => rw [hgk]; simp only [Sl.len]; omega
      case rel => exact ⟨ok4, t, rfl, by rw [hgk]; simp only [Sl.len]; omega, hloop.out⟩

end Go.Proofs.YtidhiaaicmfabaaGreatDoor

/- Variables are read (seat .ZD alone). -/
namespace Go.Proofs.YtidhiaaicmfabaaGreatDoor
open Go.RowKit Go.Proofs Go.Deep

/-- A variable that a text declares. -/
structure Vd where
  name : ByteArray
  role : Nat
  kind : Nat
  arr : Bool
  len : Int
def kW : Nat → ByteArray
  | 0 => wBOOL | 1 => wINT | 2 => wDINT | _ => wTIMER
def rW : Nat → ByteArray
  | 0 => wIN | 1 => wOUT | _ => wVAR
def toksV (v : Vd) : List ByteArray := v.name :: wCO :: ((if v.arr then [wARRAY, numW v.len.toNat, wOF] else []) ++ [kW v.kind, wSC])
def vdF (v : Vd) (fst : Int) (i : Nat) : Value := if i = 0 then .string v.name else if i = 1 then .int .u8 v.role else if i = 2 then .int .u8 v.kind else if i = 3 then .bool v.arr else if i = 4 then .int .i64 v.len else .int .u8 fst
/-- The reader reads the variable that stands ahead. -/
def VarOk (v : Vd) : Prop := ∀ {w : World} {B bp : Nat} {pv : Value} {L : List ByteArray} {k : Nat} {d : Int} {us : List ByteArray} {uv : Value}, Ps B bp pv L k d us uv w → TokAt L k (toksV v) →
    ∀ (R : Ending → World → Prop), (∀ w' b, Ps B bp pv L (k + (toksV v).length) d us uv w' → Fu bp uv uv w w' → w.heap.size ≤ b → w'.rowIs b 147 6 (vdF v 0) → R (.returned (.pointer (some ⟨b, 0, none⟩))) w') →
    Calls Tryz.prog 131 #[.pointer (some ⟨bp, 0, none⟩), .int .u8 (v.role : Int)] w R
set_option maxRecDepth 100000 in
theorem cellKind_ok {w : World} {B bp : Nat} {pv : Value} {L : List ByteArray} {k : Nat} {d : Int} {us : List ByteArray} {uv : Value} (h : Ps B bp pv L k d us uv w) (c : Nat) (hc : c < 3) (hs : nextS L k = kW c) (R : Ending → World → Prop)
    (fin : ∀ w', Ps B bp pv L (k + 1) d us uv w' → Fu bp uv uv w w' → R (.returned (.int .u8 (c : Int))) w') : Calls Tryz.prog 199 #[.pointer (some ⟨bp, 0, none⟩)] w R := by
  replace fin := hd fin
  have hc3 : c = 0 ∨ c = 1 ∨ c = 2 := by omega
  rcases hc3 with rfl | rfl | rfl
  · go_enter Tryz.func199, Tryz.ntmps199
    go_wp2_with (fail)
    refine pAcc (s := wBOOL) h hs (by decide) _ ?_
    intro w1 h1 hf1
    replace h1 := hd h1
    replace hf1 := hd hf1
    go_wp2
    exact cl1 (fin.out _ h1.out hf1.out) rfl
  · go_enter Tryz.func199, Tryz.ntmps199
    go_wp2_with (fail)
    refine pNot (s := wBOOL) h (by rw [hs]; kernel_rfl) _ ?_
    intro w1 h1 hf1
    go_wp2_with (fail)
    refine pAcc (s := wINT) h1 hs (by decide) _ ?_
    intro w2 h2 hf2
    have hfA := hd (hf1.trans hf2)
    replace h2 := hd h2
    clear hf1 hf2
    go_wp2
    exact cl1 (fin.out _ h2.out hfA.out) rfl
  · go_enter Tryz.func199, Tryz.ntmps199
    go_wp2_with (fail)
    refine pNot (s := wBOOL) h (by rw [hs]; kernel_rfl) _ ?_
    intro w1 h1 hf1
    go_wp2_with (fail)
    refine pNot (s := wINT) h1 (by rw [hs]; kernel_rfl) _ ?_
    intro w2 h2 hf2
    go_wp2_with (fail)
    refine pExp (s := wDINT) h2 hs (by decide) _ ?_
    intro w3 h3 hf3
    have hfA := hd ((hf1.trans hf2).trans hf3)
    replace h3 := hd h3
    clear hf1 hf2 hf3
    go_wp2
    exact cl1 (fin.out _ h3.out hfA.out) rfl
theorem kW_timer0 : ∀ c, c < 3 → ((kW c).toList == wTIMER.toList) = false
  | 0, _ => by kernel_rfl
  | 1, _ => by kernel_rfl
  | 2, _ => by kernel_rfl
  | _ + 3, h => absurd h (by omega)
theorem kW_timer {c : Nat} (hc : c < 3) : ((kW c).toList == wTIMER.toList) = false := kW_timer0 c hc
theorem kW_array0 : ∀ c, c < 3 → ((kW c).toList == wARRAY.toList) = false
  | 0, _ => by kernel_rfl
  | 1, _ => by kernel_rfl
  | 2, _ => by kernel_rfl
  | _ + 3, h => absurd h (by omega)
theorem kW_array {c : Nat} (hc : c < 3) : ((kW c).toList == wARRAY.toList) = false := kW_array0 c hc
set_option maxRecDepth 100000 in
set_option maxHeartbeats 2000000 in
theorem var_plain {v : Vd} (hn : LowName v.name) (hk3 : v.kind < 3) (ha : v.arr = false) (hl : v.len = 1) : VarOk v := by
  obtain ⟨nm, rl, kd, ar, ln⟩ := v
  simp only at hn hk3 ha hl
  subst ha hl
  intro w B bp pv L k d us uv h ht R fin
  simp only [toksV, Bool.false_eq_true, if_false, List.nil_append, List.length_cons, List.length_nil] at ht fin
  have hs1 := ht.head
  have hs2 := ht.tail.head
  have hs3 := ht.tail.tail.head
  have hs4 := ht.tail.tail.tail.head
  have hB0 := h.le
  replace fin := hd fin
  go_enter Tryz.func131, Tryz.ntmps131
  go_wp2_with (fail)
  refine pName h (by rw [hs1]; exact hn) _ ?_
  intro w1 h1 hf1
  rw [hs1]
  have hne : bp ≠ w1.heap.size := by have := h1.pa.row.lt; omega
  have hz1 := hf1.size
  go_wp2_with (fail)
  refine pExp (s := wCO) (h1.alloc _) hs2 (by decide) _ ?_
  intro w2 h2 hf2
  have hb2 := (h1.alloc _).apart allocCells (by decide) hne hf2
  have hfA := hf1.trans ((Fu.of_below ((Below.refl _ w1).alloc (Nat.le_refl _) _)).trans hf2)
  clear hf1 hf2 h1
  generalize w1.heap.size = b at *
  go_wp2_with (fail)
  refine pNot (s := wTIMER) h2 (by rw [hs3]; exact kW_timer hk3) _ ?_
  intro w3 h3 hf3
  have hb3 := h2.apart hb2 (by decide) hne hf3
  have hfB := hfA.trans hf3
  clear hfA hf3 hb2 h2
  go_wp2_with (fail)
  refine pNot (s := wARRAY) h3 (by rw [hs3]; exact kW_array hk3) _ ?_
  intro w4 h4 hf4
  have hb4 := h3.apart hb3 (by decide) hne hf4
  have hfC := hfB.trans hf4
  clear hfB hf4 hb3 h3
  have a3 := cellOf (i := 3) hb4 rfl
  have f3 := frozOf (i := 3) hb4
  have hz4 : b < w4.heap.size := (Array.getElem?_eq_some_iff.1 hb4).1
  have h5 := hd (h4.setNew hb4 (by decide) (by omega) 3 (.bool false))
  have hb5 := hd (heapSet (i := 3) hb4 (.bool false))
  have hfD := hd (hfC.setNew (show w.heap.size ≤ b by omega) 3 (.bool false))
  have a3' := cellOf (i := 3) hb5.out rfl
  replace h4 := hd h4
  replace hb4 := hd hb4
  clear hfC
  go_wp2_with (fail)
  refine cellKind_ok h5.out kd hk3 hs3 _ ?_
  intro w6 h6 hf6
  have hb6 := h5.out.apart hb5.out (by decide) hne hf6
  have hfE := hfD.out.trans hf6
  have a2 := cellOf (i := 2) hb6 rfl
  have f2 := frozOf (i := 2) hb6
  clear hf6 hfD hb5 h5 a3 f3 a3'
  have h7 := hd (h6.setNew hb6 (by decide) (by omega) 2 (.int .u8 (kd : Int)))
  have hb7 := hd (heapSet (i := 2) hb6 (.int .u8 (kd : Int)))
  have hfF := hd (hfE.setNew (show w.heap.size ≤ b by omega) 2 (.int .u8 (kd : Int)))
  have hz6 : b < w6.heap.size := (Array.getElem?_eq_some_iff.1 hb6).1
  replace h6 := hd h6
  replace hb6 := hd hb6
  clear hfE
  go_wp2_with (fail)
  refine pExp (s := wSC) h7.out hs4 (by decide) _ ?_
  intro w8 h8 hf8
  have hb8 := hd (h7.out.apart hb7.out (by decide) hne hf8)
  have hfG := hd (hfF.out.trans hf8)
  replace h8 := hd h8
  clear hf8 hfF hb7 h7
  go_wp2
  refine cl1 (fin.out _ b h8.out hfG.out (by omega) (rowOf hb8.out rfl (fun i hi => ?_))) rfl
  have : i = 0 ∨ i = 1 ∨ i = 2 ∨ i = 3 ∨ i = 4 ∨ i = 5 := by omega
  rcases this with rfl | rfl | rfl | rfl | rfl | rfl <;> rfl

end Go.Proofs.YtidhiaaicmfabaaGreatDoor
