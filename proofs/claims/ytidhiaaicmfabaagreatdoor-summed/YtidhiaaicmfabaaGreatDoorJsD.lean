/- Summed's text, its image and its runs. -/
import Derived.Test.YtidhiaaicmfabaaGreatDoorKaA
import Derived.WalkKit
import Derived.WalkSpells
import Derived.WalkLawsBesides
import Derived.Deep.OwnRows
import Derived.BigQuiet
import Derived.Handy
import Derived.Deep.Light
import Derived.Deep.RegionHeld3
import Derived.Deep.RegionWith
import Derived.Test.YtidhiaaicmfabaaGreatDoorJsC
import Derived.Test.YtidhiaaicmfabaaGreatDoorJsA
import Derived.Test.YtidhiaaicmfabaaGreatDoorJzR
import Derived.Test.YtidhiaaicmfabaaGreatDoorJzV

/- The parts of Summed's text (seat .ZD alone). -/
namespace Go.Proofs.YtidhiaaicmfabaaGreatDoor
open Go.RowKit Go.Proofs Go.Deep

def su1 : List UInt8 := [73, 78, 32, 107, 58, 32, 68, 73, 78, 84, 59, 32, 86, 65, 82, 32, 108, 58, 32, 65, 82, 82, 65, 89, 32]
def su1T : List (List UInt8) := [[73, 78], [107], [58], [68, 73, 78, 84], [59], [86, 65, 82], [108], [58], [65, 82, 82, 65, 89]]
theorem su1R (t : List UInt8) : spR 15 (su1 ++ t) [] = some (su1T, t) := by kernel_rfl
def su2 : List UInt8 := [32, 79, 70, 32, 68, 73, 78, 84, 59, 32, 86, 65, 82, 32, 105, 58, 32, 73, 78, 84, 59, 32, 79, 85, 84, 32, 115, 58, 32, 68, 73, 78, 84, 59, 32, 79, 85, 84, 32, 101, 58, 32, 68, 73, 78, 84, 59, 32, 79, 85, 84, 32, 106, 58, 32, 73, 78, 84, 59, 32, 66, 69, 71, 73, 78, 32, 70, 79, 82, 32, 105, 32, 58, 61, 32, 48, 32, 84, 79, 32]
def su2T : List (List UInt8) := [[79, 70], [68, 73, 78, 84], [59], [86, 65, 82], [105], [58], [73, 78, 84], [59], [79, 85, 84], [115], [58], [68, 73, 78, 84], [59], [79, 85, 84], [101], [58], [68, 73, 78, 84], [59], [79, 85, 84], [106], [58], [73, 78, 84], [59], [66, 69, 71, 73, 78], [70, 79, 82], [105], [58, 61], [48], [84, 79]]
theorem su2R (t : List UInt8) : spR 50 (su2 ++ t) [] = some (su2T, t) := by kernel_rfl
def su3 : List UInt8 := [32, 68, 79, 32, 108, 91, 105, 93, 32, 58, 61, 32, 40]
def su3T : List (List UInt8) := [[68, 79], [108], [91], [105], [93], [58, 61], [40]]
theorem su3R (t : List UInt8) : spR 11 (su3 ++ t) [] = some (su3T, t) := by kernel_rfl
def su4 : List UInt8 := [32, 43, 32, 40, 105, 32, 42, 32]
def su4T : List (List UInt8) := [[43], [40], [105], [42]]
theorem su4R (t : List UInt8) : spR 8 (su4 ++ t) [] = some (su4T, t) := by kernel_rfl
def su5 : List UInt8 := [41, 41, 59, 32, 69, 78, 68, 59, 32, 115, 32, 58, 61, 32, 48, 59, 32, 70, 79, 82, 32, 105, 32, 58, 61, 32, 48, 32, 84, 79, 32]
def su5T : List (List UInt8) := [[41], [41], [59], [69, 78, 68], [59], [115], [58, 61], [48], [59], [70, 79, 82], [105], [58, 61], [48], [84, 79]]
theorem su5R (t : List UInt8) : spR 24 (su5 ++ t) [] = some (su5T, t) := by kernel_rfl
def su6 : List UInt8 := [32, 68, 79, 32, 115, 32, 58, 61, 32, 40, 115, 32, 43, 32, 108, 91, 105, 93, 41, 59, 32, 69, 78, 68, 59, 32, 101, 32, 58, 61, 32, 108, 91, 107, 93, 59, 32, 106, 32, 58, 61, 32, 105, 59, 32, 69, 78, 68]
def su6T : List (List UInt8) := [[68, 79], [115], [58, 61], [40], [115], [43], [108], [91], [105], [93], [41], [59], [69, 78, 68], [59], [101], [58, 61], [108], [91], [107], [93], [59], [106], [58, 61], [105], [59], [69, 78, 68]]
theorem su6R : spR 40 su6 [] = some (su6T, []) := by kernel_rfl
def suText (n : Nat) (a d : Int) : ByteArray := ba (su1 ++ (litB n ++ (su2 ++ (litB ((n : Int) - 1) ++ (su3 ++ (litB a ++ (su4 ++ (litB d ++ (su5 ++ (litB ((n : Int) - 1) ++ su6))))))))))
theorem suLen (n : Nat) (hn : 1 ≤ n ∧ n ≤ 16) (a d : Int) (ha : -1000 ≤ a ∧ a ≤ 1000) (hd : -100 ≤ d ∧ d ≤ 100) : 148 + (litN n + litN ((n : Int) - 1) + litN a + litN d + litN ((n : Int) - 1)) ≤ (suText n a d).size ∧ (suText n a d).size ≤ 700 := by
  have h1 := litB_len n (by omega)
  have h2 := litB_len ((n : Int) - 1) (by omega)
  have h3 := litB_len a (by omega)
  have h4 := litB_len d (by omega)
  have e1 : su1.length = 25 := rfl
  have e2 : su2.length = 80 := rfl
  have e3 : su3.length = 13 := rfl
  have e4 : su4.length = 8 := rfl
  have e5 : su5.length = 31 := rfl
  have e6 : su6.length = 48 := rfl
  unfold suText
  rw [ba_size]
  simp only [List.length_append]
  omega
theorem suSp (n : Nat) (hn : 1 ≤ n ∧ n ≤ 16) (a d : Int) (ha : -1000 ≤ a ∧ a ≤ 1000) (hd : -100 ≤ d ∧ d ≤ 100) : spF (suText n a d).size (suText n a d) = some (toksP (suV n) (suS n a d)) := by
  have hlen := (suLen n hn a d ha hd).1
  unfold suText at hlen ⊢
  rw [ba_size] at hlen
  rw [sp_list, ba_size]
  have h6 : Lex su6 su6T [] 40 := lex_spR su6R
  have n5 := lex_lit ((n : Int) - 1) (r := su6) (fun c hc => by
    have : c = 32 := by simpa [su6] using hc.symm
    subst this
    decide)
  have h5 : Lex (su5 ++ (litB ((n : Int) - 1) ++ (su6))) su5T (litB ((n : Int) - 1) ++ (su6)) 24 := lex_spR (su5R _)
  have n4 := lex_lit d (r := su5 ++ (litB ((n : Int) - 1) ++ (su6))) (fun c hc => by
    have : c = 41 := by simpa [su5] using hc.symm
    subst this
    decide)
  have h4 : Lex (su4 ++ (litB d ++ (su5 ++ (litB ((n : Int) - 1) ++ (su6))))) su4T (litB d ++ (su5 ++ (litB ((n : Int) - 1) ++ (su6)))) 8 := lex_spR (su4R _)
  have n3 := lex_lit a (r := su4 ++ (litB d ++ (su5 ++ (litB ((n : Int) - 1) ++ (su6))))) (fun c hc => by
    have : c = 32 := by simpa [su4] using hc.symm
    subst this
    decide)
  have h3 : Lex (su3 ++ (litB a ++ (su4 ++ (litB d ++ (su5 ++ (litB ((n : Int) - 1) ++ (su6))))))) su3T (litB a ++ (su4 ++ (litB d ++ (su5 ++ (litB ((n : Int) - 1) ++ (su6)))))) 11 := lex_spR (su3R _)
  have n2 := lex_lit ((n : Int) - 1) (r := su3 ++ (litB a ++ (su4 ++ (litB d ++ (su5 ++ (litB ((n : Int) - 1) ++ (su6))))))) (fun c hc => by
    have : c = 32 := by simpa [su3] using hc.symm
    subst this
    decide)
  have h2 : Lex (su2 ++ (litB ((n : Int) - 1) ++ (su3 ++ (litB a ++ (su4 ++ (litB d ++ (su5 ++ (litB ((n : Int) - 1) ++ (su6))))))))) su2T (litB ((n : Int) - 1) ++ (su3 ++ (litB a ++ (su4 ++ (litB d ++ (su5 ++ (litB ((n : Int) - 1) ++ (su6)))))))) 50 := lex_spR (su2R _)
  have n1 := lex_lit (n : Int) (r := su2 ++ (litB ((n : Int) - 1) ++ (su3 ++ (litB a ++ (su4 ++ (litB d ++ (su5 ++ (litB ((n : Int) - 1) ++ (su6))))))))) (fun c hc => by
    have : c = 32 := by simpa [su2] using hc.symm
    subst this
    decide)
  have h1 : Lex (su1 ++ (litB (n : Int) ++ (su2 ++ (litB ((n : Int) - 1) ++ (su3 ++ (litB a ++ (su4 ++ (litB d ++ (su5 ++ (litB ((n : Int) - 1) ++ (su6))))))))))) su1T (litB (n : Int) ++ (su2 ++ (litB ((n : Int) - 1) ++ (su3 ++ (litB a ++ (su4 ++ (litB d ++ (su5 ++ (litB ((n : Int) - 1) ++ (su6)))))))))) 15 := lex_spR (su1R _)
  have hA := lex_done (h1.app (n1.app (h2.app (n2.app (h3.app (n3.app (h4.app (n4.app (h5.app (n5.app h6)))))))))) (by omega)
  rw [hA]
  have l1 := lit_tok (n : Int)
  have l2 := lit_tok ((n : Int) - 1)
  have l3 := lit_tok a
  have l4 := lit_tok d
  have ln : litW (n : Int) = [numW n] := by
    unfold litW
    rw [if_neg (by omega)]
    rfl
  have l0 : litW 0 = [ba [48]] := by
    unfold litW
    rw [if_neg (by omega)]
    show [numW 0] = _
    unfold numW
    rw [digs]
    rfl
  have e : toksP (suV n) (suS n a d) = su1T.map ba ++ (([numW n]) ++ (su2T.map ba ++ (litW ((n : Int) - 1) ++ (su3T.map ba ++ (litW a ++ (su4T.map ba ++ (litW d ++ (su5T.map ba ++ (litW ((n : Int) - 1) ++ su6T.map ba))))))))) := by
    simp only [toksP, suV, suS, suB1, suB2, exV, exU, toksD, toksV, toksL, toksS, toks, List.cons_append, List.append_assoc, List.nil_append, if_true, l0, Int.toNat_natCast]
    generalize litW ((n : Int) - 1) = A
    generalize litW a = B
    generalize litW d = C
    first | rfl | kernel_rfl | trace_state
  rw [e, ← ln, ← l1, ← l2, ← l3, ← l4]
  simp only [Option.map_some, List.map_append]

end Go.Proofs.YtidhiaaicmfabaaGreatDoor

/- The image of Summed's text is right (seat .ZD alone). -/
namespace Go.Proofs.YtidhiaaicmfabaaGreatDoor
open Go.RowKit Go.Proofs Go.Deep

def suCs (n : Nat) : List Int := 2 :: (List.replicate n 8 ++ [7, 5, 5, 4])
theorem suCs_len (n : Nat) : (suCs n).length = n + 5 := by simp [suCs]
theorem suCells (n : Nat) : cellsB (suV n) = suCs n := by
  have e : cellsB (suV n) = List.replicate 1 2 ++ (List.replicate n 8 ++ (List.replicate 1 7 ++ (List.replicate 1 5 ++ (List.replicate 1 5 ++ (List.replicate 1 4 ++ []))))) := by
    simp only [suV, cellsB, Int.toNat_natCast]
    rfl
  rw [e]
  rfl
theorem suCs_in (n : Nat) : ∀ m ∈ suCs n, 0 ≤ m ∧ m ≤ 8 := by
  intro m hm
  simp only [suCs, List.mem_cons, List.mem_append, List.mem_replicate, List.not_mem_nil, or_false] at hm
  omega
structure SuBt (n : Nat) (s : ByteArray) : Prop where
  hk : bt s (7 + 0) = 2
  hl : ∀ q, q < n → bt s (7 + (1 + q)) = 8
  hi : bt s (7 + (1 + n)) = 7
  hs : bt s (7 + (2 + n)) = 5
  he : bt s (7 + (3 + n)) = 5
  hj : bt s (7 + (4 + n)) = 4
theorem suBt (n : Nat) (hn : n ≤ 16) (l : List Int) (hl : l.length ≤ 8000) : SuBt n (imgG (suCs n) l) := by
  have F := img_facts (suCs n) l (by rw [suCs_len]; omega) (suCs_in n) hl
  have hq : ∀ q, q < 4 → (suCs n)[1 + n + q]? = [7, 5, 5, 4][q]? := fun q hq => by
    unfold suCs
    rw [show 1 + n + q = (n + q) + 1 by omega, List.getElem?_cons_succ, List.getElem?_append_right (by simp)]
    simp
  refine ⟨F.cell 0 2 rfl, fun q hq => F.cell (1 + q) 8 ?_, F.cell (1 + n) 7 (hq 0 (by omega)), ?_, ?_, ?_⟩
  · unfold suCs
    rw [show 1 + q = q + 1 by omega, List.getElem?_cons_succ, List.getElem?_append_left (by simpa using hq), List.getElem?_replicate, if_pos hq]
  · rw [show 2 + n = 1 + n + 1 by omega]; exact F.cell _ 5 (hq 1 (by omega))
  · rw [show 3 + n = 1 + n + 2 by omega]; exact F.cell _ 5 (hq 2 (by omega))
  · rw [show 4 + n = 1 + n + 3 by omega]; exact F.cell _ 4 (hq 3 (by omega))
theorem suPr (n : Nat) (a d : Int) {f : Nat → List Int} (hf : f 0 = (flat 0 (suC n a d)).flatten) : imgS (suV n) f = imgG (suCs n) (prW (suC n a d)).flatten := by
  unfold imgS
  rw [hf, suCells]
  simp only [prW, List.flatten_append, List.flatten_cons, List.flatten_nil, List.append_nil]
  rfl
theorem ht_rep {n h : Nat} {b : Cd} (hb : htC b h = some h) : htC (.rep n b) h = some h := by simp only [htC]; rw [if_pos hb]
theorem ht_loopC {n : Nat} {b : Cd} (hb : htC b 0 = some 0) : htC (loopC n b) 0 = some 0 := by
  have h1 : htC (.seq (.seq (.seq (.one [2, suI n]) (.one (numB 1))) (.seq (.one [6]) (.one [3, suI n]))) b) 0 = some 0 :=
    ht_seq (ht_seq (ht_seq (ht_one 2 rfl (by decide) rfl (by decide)) (ht_one 1 rfl (by decide) rfl (by decide))) (ht_seq (ht_one 6 rfl (by decide) rfl (by decide)) (ht_one 3 rfl (by decide) rfl (by decide)))) hb
  have h2 : htC (.seq (.one (numB (0 - 1))) (.one [3, suI n])) 0 = some 0 := ht_seq (ht_one 1 rfl (by decide) rfl (by decide)) (ht_one 3 rfl (by decide) rfl (by decide))
  exact ht_seq h2 (ht_rep h1)
theorem suCd (n : Nat) (hn : 1 ≤ n ∧ n ≤ 16) (a d : Int) : CdOk (suCs n) (suC n a d) := by
  have hsz := suSz n a d
  have hb := suBt n hn.2 (prW (suC n a d)).flatten (by rw [prW_sz]; omega)
  obtain ⟨y1, y2, y3, y4, y5, y6⟩ := bytI hn
  have hrow : rowL (rlOf (imgG (suCs n) (prW (suC n a d)).flatten)) (kdOf (imgG (suCs n) (prW (suC n a d)).flatten)) n := fun i hi => by
    have h1 := hb.hl i hi
    have h2 := hb.hl 0 (by omega)
    unfold rlOf kdOf
    rw [h1, show bt (imgG (suCs n) (prW (suC n a d)).flatten) (7 + 1) = 8 from h2]
    exact ⟨rfl, rfl⟩
  generalize hrl : rlOf (imgG (suCs n) (prW (suC n a d)).flatten) = rl at *
  generalize hkd : kdOf (imgG (suCs n) (prW (suC n a d)).flatten) = kd at *
  have cell1 : ∀ (o : Int) (q : Nat), (o = 2 ∨ o = 3) → q < n + 5 → (o = 3 → rl q ≠ 0) → q ≤ 255 → insOk rl kd (n + 5) (oc [o, (q : Int)]) (insC (bys [o, (q : Int)]) 0) (insN (bys [o, (q : Int)]) 0) := fun o q ho hq hr h255 => by
    refine ins_cell (by omega) (by unfold byt; omega) ⟨by decide, by omega, fun i hi => ?_, fun h => ?_, fun h => ?_⟩
    · have : i = 0 := by omega
      subst this; exact ⟨rfl, rfl⟩
    · simp only [Int.toNat_natCast]
      exact hr (by rcases ho with rfl | rfl <;> simp_all)
    · rcases ho with rfl | rfl <;> simp at h
  have r1 : rl (1 + n) ≠ 0 := by rw [← hrl]; unfold rlOf; rw [hb.hi]; decide
  have r2 : rl (2 + n) ≠ 0 := by rw [← hrl]; unfold rlOf; rw [hb.hs]; decide
  have r3 : rl (3 + n) ≠ 0 := by rw [← hrl]; unfold rlOf; rw [hb.he]; decide
  have r4 : rl (4 + n) ≠ 0 := by rw [← hrl]; unfold rlOf; rw [hb.hj]; decide
  have e1 : suI n = ((1 + n : Nat) : Int) := by unfold suI; omega
  have e2 : suI n + 1 = ((2 + n : Nat) : Int) := by unfold suI; omega
  have e3 : suI n + 1 + 1 = ((3 + n : Nat) : Int) := by unfold suI; omega
  have e4 : suI n + 1 + 1 + 1 = ((4 + n : Nat) : Int) := by unfold suI; omega
  have g1 := cell1 2 (1 + n) (.inl rfl) (by omega) (fun h => by omega) (by omega)
  have t1 := cell1 3 (1 + n) (.inr rfl) (by omega) (fun _ => r1) (by omega)
  have t2 := cell1 3 (2 + n) (.inr rfl) (by omega) (fun _ => r2) (by omega)
  have t3 := cell1 3 (3 + n) (.inr rfl) (by omega) (fun _ => r3) (by omega)
  have t4 := cell1 3 (4 + n) (.inr rfl) (by omega) (fun _ => r4) (by omega)
  rw [← e1] at g1 t1
  rw [← e2] at t2
  rw [← e3] at t3
  rw [← e4] at t4
  have lp : ∀ b, celC rl kd (n + 5) b → celC rl kd (n + 5) (loopC n b) := fun b hb => ⟨⟨ins_free (.inl rfl), t1⟩, ⟨⟨g1, ins_free (.inl rfl)⟩, ins_free (.inr (by decide)), t1⟩, hb⟩
  have sx : insOk rl kd (n + 5) (oc [5, 1, (n : Int)]) (insC (bys [5, 1, (n : Int)]) 0) (insN (bys [5, 1, (n : Int)]) 0) := by
    refine ins_cells (by omega) y6 y5 ?_
    have e : ((n : Int)).toNat = n := Int.toNat_natCast n
    rw [e]
    refine ⟨hn.1, by show 1 + n ≤ n + 5; omega, hrow, fun _ => ?_, fun h => by simp at h⟩
    show rl 1 ≠ 0
    rw [← hrl]
    unfold rlOf
    rw [show bt (imgG (suCs n) (prW (suC n a d)).flatten) (7 + 1) = 8 from hb.hl 0 (by omega)]
    decide
  have b1 := bnd_cdE (suV n) (.plc nmI)
  have b2 := bnd_cdE (suV n) (exV a d)
  have b3 := bnd_cdE (suV n) exU
  have b4 := bnd_cdE (suV n) (.idx nmL (.plc nmK))
  have b5 := bnd_cdE (suV n) (.lit 0)
  rw [show cE (.plc nmI) = 1 from rfl] at b1
  rw [show cE (exV a d) = 5 from rfl] at b2
  rw [show cE exU = 4 from rfl] at b3
  rw [show cE (.idx nmL (.plc nmK)) = 2 from rfl] at b4
  rw [show cE (.lit 0) = 1 from rfl] at b5
  have hI := (ht_cdE (rl := fun _ => 0) (kd := fun _ => 0) _ 0 (oI _ _ hn) (by decide)).2
  have hV := (ht_cdE (rl := fun _ => 0) (kd := fun _ => 0) (exV a d) 1 (oV _ _ hn a d) (by show (1 : Int) + 2 + 1 ≤ 32; decide)).2
  have hU := (ht_cdE (rl := fun _ => 0) (kd := fun _ => 0) exU 0 (oU hn (row0 n)) (by decide)).2
  have hK := (ht_cdE (rl := fun _ => 0) (kd := fun _ => 0) _ 0 (oL hn (row0 n) (oK _ _ hn)) (by decide)).2
  refine ⟨by rw [suCs_len]; omega, suCs_in n, suWf n hn a d, by omega, ?_, ?_, ?_, ?_⟩
  · simp only [suC, loopC, fdC, fd_cdE]
    decide
  · exact ht_seq (ht_loopC (ht_seq (ht_seq hI hV) (ht_one 5 rfl (by decide) rfl (by decide)))) (ht_seq (ht_seq (ht_one 1 rfl (by decide) rfl (by decide)) (ht_one 3 rfl (by decide) rfl (by decide))) (ht_seq (ht_loopC (ht_seq hU (ht_one 3 rfl (by decide) rfl (by decide)))) (ht_seq (ht_seq hK (ht_one 3 rfl (by decide) rfl (by decide))) (ht_seq hI (ht_one 3 rfl (by decide) rfl (by decide))))))
  · simp only [suC, loopC, bndC]
    have m1 : n * (1 + 1 + (1 + 1) + (bndC (cdE (suV n) (.plc nmI)) + bndC (cdE (suV n) (exV a d)) + 1) + 1) ≤ 16 * 30 := Nat.mul_le_mul hn.2 (by omega)
    have m2 : n * (1 + 1 + (1 + 1) + (bndC (cdE (suV n) exU) + 1) + 1) ≤ 16 * 30 := Nat.mul_le_mul hn.2 (by omega)
    omega
  · rw [suCs_len, hrl, hkd]
    exact ⟨lp _ ⟨⟨cel_cdE _ (oI rl kd hn), cel_cdE _ (oV rl kd hn a d)⟩, sx⟩, ⟨ins_free (.inl rfl), t2⟩, lp _ ⟨cel_cdE _ (oU hn hrow), t2⟩, ⟨cel_cdE _ (oL hn hrow (oK rl kd hn)), t3⟩, cel_cdE _ (oI rl kd hn), t4⟩

end Go.Proofs.YtidhiaaicmfabaaGreatDoor

/- What Summed's code does (seat .ZD alone). -/
namespace Go.Proofs.YtidhiaaicmfabaaGreatDoor
open Go.RowKit Go.Proofs Go.Deep

section
variable {kd : Nat → Nat} {dl : Int} {n : Nat}
/-- The head of a round. -/
theorem ex_head (hn : 1 ≤ n ∧ n ≤ 16) (hkI : kd (1 + n) = 1) {C : Nat → Int} {m : Int} (hC : C (1 + n) = m) (hm : -1 ≤ m ∧ m ≤ 100) (b : Cd) :
    exC kd dl (.seq (.seq (.seq (.one [2, suI n]) (.one (numB 1))) (.seq (.one [6]) (.one [3, suI n]))) b) C [] = exC kd dl b (upd C (1 + n) (m + 1)) [] := by
  have y1 := (bytI hn).1
  have e1 : (suI n).toNat = 1 + n := by unfold suI; omega
  have l1 : layK 1 (m + 1) = m + 1 := by
    show IntKind.i16.wrap (m + 1) = m + 1
    unfold IntKind.wrap
    by_cases h3 : (m + 1) % 65536 ≥ 32768 <;> simp [IntKind.bits, IntKind.signed, h3] <;> omega
  have w1 : wrap32 1 = 1 := w32_id (by unfold in32; omega)
  have w2 : wrap32 (m + 1) = m + 1 := w32_id (by unfold in32; omega)
  have ho : ex1 kd dl [6] C [1, m] = .ok (C, [wrap32 (m + 1)]) := ex_op (o := 0) (by decide)
  simp only [exC, thenE, ex_get y1, e1, hC, ex_num, w1, ho, w2, ex_set y1, hkI, l1]
theorem ex_loop (hn : 1 ≤ n ∧ n ≤ 16) (hkI : kd (1 + n) = 1) (b : Cd) (P : Nat → (Nat → Int) → Prop) (hP : ∀ m C x, P m C → P m (upd C (1 + n) x))
    (hb : ∀ m C, m < n → C (1 + n) = (m : Int) → P m C → ∃ C', exC kd dl b C [] = .ok (C', []) ∧ C' (1 + n) = (m : Int) ∧ P (m + 1) C') :
    ∀ (k m : Nat) (C : Nat → Int), m + k = n → C (1 + n) = (m : Int) - 1 → P m C → ∃ C', itN (exC kd dl (.seq (.seq (.seq (.one [2, suI n]) (.one (numB 1))) (.seq (.one [6]) (.one [3, suI n]))) b)) k C [] = .ok (C', []) ∧ C' (1 + n) = (n : Int) - 1 ∧ P n C'
  | 0, m, C, hk, hC, h => by
    have : m = n := by omega
    subst this
    exact ⟨C, rfl, hC, h⟩
  | k + 1, m, C, hk, hC, h => by
    have hx : ((m : Int) - 1 + 1) = (m : Int) := by omega
    obtain ⟨C1, h1, h2, h3⟩ := hb m (upd C (1 + n) (m : Int)) (by omega) (upd_same ..) (hP _ _ _ h)
    obtain ⟨C2, g1, g2, g3⟩ := ex_loop hn hkI b P hP hb k (m + 1) C1 (by omega) (by rw [h2]; omega) h3
    refine ⟨C2, ?_, g2, g3⟩
    rw [itN, ex_head hn hkI hC (by omega), hx, h1]
    exact g1
theorem ex_loopC (hn : 1 ≤ n ∧ n ≤ 16) (hkI : kd (1 + n) = 1) (b : Cd) (P : Nat → (Nat → Int) → Prop) (hP : ∀ m C x, P m C → P m (upd C (1 + n) x))
    (hb : ∀ m C, m < n → C (1 + n) = (m : Int) → P m C → ∃ C', exC kd dl b C [] = .ok (C', []) ∧ C' (1 + n) = (m : Int) ∧ P (m + 1) C') (C : Nat → Int) (h : P 0 C) :
    ∃ C', exC kd dl (loopC n b) C [] = .ok (C', []) ∧ C' (1 + n) = (n : Int) - 1 ∧ P n C' := by
  have y1 := (bytI hn).1
  have e1 : (suI n).toNat = 1 + n := by unfold suI; omega
  have l1 : layK 1 (-1) = -1 := by decide
  have w1 : wrap32 (0 - 1) = -1 := by unfold wrap32; omega
  obtain ⟨C', g1, g2, g3⟩ := ex_loop hn hkI b P hP hb n 0 (upd C (1 + n) (-1)) (by omega) (upd_same ..) (hP _ _ _ h)
  refine ⟨C', ?_, g2, g3⟩
  simp only [loopC, exC, thenE, ex_num, w1, ex_set y1, e1, hkI, l1]
  exact g1
/-- The sum of the first m elements. -/
def sumT (a d : Int) : Nat → Int
  | 0 => 0
  | m + 1 => sumT a d m + (a + m * d)
theorem md_bd {m : Nat} {d : Int} (hm : m ≤ 16) (hd : -100 ≤ d ∧ d ≤ 100) : -1600 ≤ (m : Int) * d ∧ (m : Int) * d ≤ 1600 := by
  have h : ((m : Int) * d).natAbs ≤ 16 * 100 := by
    rw [Int.natAbs_mul]
    exact Nat.mul_le_mul (by omega) (by omega)
  omega
theorem sum_bd {a d : Int} (ha : -1000 ≤ a ∧ a ≤ 1000) (hd : -100 ≤ d ∧ d ≤ 100) : ∀ m : Nat, m ≤ 16 → -(2600 * (m : Int)) ≤ sumT a d m ∧ sumT a d m ≤ 2600 * (m : Int)
  | 0, _ => by simp [sumT]
  | m + 1, h => by
    have h1 := sum_bd ha hd m (by omega)
    have h2 := md_bd (m := m) (by omega) hd
    simp only [sumT]
    omega
theorem i16_id {x : Int} (h : -32768 ≤ x ∧ x ≤ 32767) : IntKind.i16.wrap x = x := by
  unfold IntKind.wrap
  by_cases h3 : x % 65536 ≥ 32768 <;> simp [IntKind.bits, IntKind.signed, h3] <;> omega
theorem ev_V (n : Nat) (a d : Int) (ha : -1000 ≤ a ∧ a ≤ 1000) (hd : -100 ≤ d ∧ d ≤ 100) {C : Nat → Int} {m : Nat} (hm : m ≤ 16) (hC : C (1 + n) = (m : Int)) : evE (suV n) dl (exV a d) C = .ok (C, a + (m : Int) * d) := by
  have h1 := md_bd hm hd
  have k1 := (wID n d (by omega)).2
  have k2 := (wV n a d (by omega) (by omega)).2
  have e1 : ((1 : Int) + (n : Int)).toNat = 1 + n := by omega
  unfold exV at k2 ⊢
  simp only [evE, andV, sfI, e1, hC, binV, k1, k2, if_true]
  rw [w32_id (x := a) (by unfold in32; omega), w32_id (x := d) (by unfold in32; omega), w32_id (x := (m : Int) * d) (by unfold in32; omega), i16_id (x := (m : Int) * d) (by omega), w32_id (by unfold in32; omega), i16_id (by omega)]
theorem ev_U (n : Nat) {C : Nat → Int} {m : Nat} (hm : m < n) (hC : C (1 + n) = (m : Int)) {s x : Int} (hs : C (2 + n) = s) (hx : C (1 + m) = x) (hb : in32 (s + x)) : evE (suV n) dl exU C = .ok (C, s + x) := by
  have k2 := (wU n).2
  have e1 : ((1 : Int) + (n : Int)).toNat = 1 + n := by omega
  have e2 : ((1 : Int) + (n : Int) + 1).toNat = 2 + n := by omega
  have e3 : ((1 : Int) + (m : Int)).toNat = 1 + m := by omega
  unfold exU at k2 ⊢
  simp only [evE, andV, sfI, sfS, sfL, sgL, e1, e2, hC, hs]
  rw [if_pos (by omega)]
  simp only [e3, hx, binV, k2]
  rw [w32_id hb]
  rfl
end
/-- What the cells are, once the first FOR is done m times. -/
def P1 (n : Nat) (a d k : Int) (m : Nat) (C : Nat → Int) : Prop := C 0 = k ∧ ∀ q, q < m → q < n → C (1 + q) = a + (q : Int) * d
def P2 (n : Nat) (a d k : Int) (m : Nat) (C : Nat → Int) : Prop := P1 n a d k n C ∧ C (2 + n) = sumT a d m
structure SuKd (n : Nat) (kd : Nat → Nat) : Prop where
  l : ∀ q, q < n → kd (1 + q) = 2
  i : kd (1 + n) = 1
  s : kd (2 + n) = 2
  e : kd (3 + n) = 2
  j : kd (4 + n) = 1
theorem su_ex (n : Nat) (hn : 1 ≤ n ∧ n ≤ 16) (a d : Int) (ha : -1000 ≤ a ∧ a ≤ 1000) (hd : -100 ≤ d ∧ d ≤ 100) {kd : Nat → Nat} (K : SuKd n kd) (dl : Int) (k : Int) (C : Nat → Int) (hk : C 0 = k) :
    (0 ≤ k → k < n → ∃ C', exC kd dl (suC n a d) C [] = .ok (C', []) ∧ C' (2 + n) = sumT a d n ∧ C' (3 + n) = a + k * d ∧ C' (4 + n) = (n : Int) - 1) ∧ ((n : Int) ≤ k → exC kd dl (suC n a d) C [] = .error 5) := by
  obtain ⟨y1, y2, y3, y4, y5, y6⟩ := bytI hn
  have e1 : (suI n).toNat = 1 + n := by unfold suI; omega
  have e2 : (suI n + 1).toNat = 2 + n := by unfold suI; omega
  have e3 : (suI n + 1 + 1).toNat = 3 + n := by unfold suI; omega
  have e4 : (suI n + 1 + 1 + 1).toNat = 4 + n := by unfold suI; omega
  have i1 : ((1 : Int) + (n : Int)).toNat = 1 + n := by omega
  obtain ⟨C1, g1, g2, g3⟩ := ex_loopC (dl := dl) hn K.i (.seq (.seq (cdE (suV n) (.plc nmI)) (cdE (suV n) (exV a d))) (.one [5, 1, (n : Int)])) (P1 n a d k) (fun m C x h => ⟨by rw [upd_ne _ _ (by omega)]; exact h.1, fun q hq hq2 => by rw [upd_ne _ _ (by omega)]; exact h.2 q hq hq2⟩) (fun m C hm hC h => by
    have v1 := ev_V (dl := dl) n a d ha hd (m := m) (by omega) hC
    have mb := md_bd (m := m) (by omega) hd
    have lk : layK 2 (a + (m : Int) * d) = a + (m : Int) * d := w32_id (by unfold in32; omega)
    refine ⟨upd C (1 + m) (a + (m : Int) * d), ?_, by rw [upd_ne _ _ (by omega)]; exact hC, by rw [upd_ne _ _ (by omega)]; exact h.1, fun q hq hq2 => ?_⟩
    · simp only [exC, ex_E (rl := fun _ => 0) (kd' := fun _ => 0) _ _ _ (oI (fun _ => 0) (fun _ => 0) hn)]
      simp only [evE, onS, thenE, sfI, i1, hC]
      rw [ex_E (rl := fun _ => 0) (kd' := fun _ => 0) _ _ _ (oV (fun _ => 0) (fun _ => 0) hn a d), v1]
      simp only [onS]
      rw [ex_setx y6 y5, if_pos (by omega), show ((1 : Int) + (m : Int)).toNat = 1 + m by omega, K.l m hm, lk]
    · by_cases e : q = m
      · subst e; exact upd_same ..
      · rw [upd_ne _ _ (by omega)]; exact h.2 q (by omega) hq2) C ⟨hk, fun q hq => by omega⟩
  obtain ⟨C2, f1, f2, f3⟩ := ex_loopC (dl := dl) hn K.i (.seq (cdE (suV n) exU) (.one [3, suI n + 1])) (P2 n a d k) (fun m C x h => ⟨⟨by rw [upd_ne _ _ (by omega)]; exact h.1.1, fun q hq hq2 => by rw [upd_ne _ _ (by omega)]; exact h.1.2 q hq hq2⟩, by rw [upd_ne _ _ (by omega)]; exact h.2⟩) (fun m C hm hC h => by
    have hx := h.1.2 m hm hm
    have mb := md_bd (m := m) (by omega) hd
    have sb := sum_bd ha hd m (by omega)
    have v1 := ev_U (dl := dl) n hm hC h.2 hx (by unfold in32; omega)
    have lk : layK 2 (sumT a d m + (a + (m : Int) * d)) = sumT a d m + (a + (m : Int) * d) := w32_id (by unfold in32; omega)
    refine ⟨upd C (2 + n) (sumT a d m + (a + (m : Int) * d)), ?_, by rw [upd_ne _ _ (by omega)]; exact hC, ⟨by rw [upd_ne _ _ (by omega)]; exact h.1.1, fun q hq hq2 => by rw [upd_ne _ _ (by omega)]; exact h.1.2 q hq hq2⟩, ?_⟩
    · simp only [exC]
      rw [ex_E (rl := fun _ => 0) (kd' := fun _ => 0) _ _ _ (oU hn (row0 n)), v1]
      simp only [onS, thenE]
      rw [ex_set y2, e2, K.s, lk]
    · rw [upd_same]; rfl) (upd C1 (2 + n) 0) ⟨⟨by rw [upd_ne _ _ (by omega)]; exact g3.1, fun q hq hq2 => by rw [upd_ne _ _ (by omega)]; exact g3.2 q hq hq2⟩, by rw [upd_same]; rfl⟩
  have w0 : wrap32 0 = 0 := by unfold wrap32; omega
  have l0 : layK 2 0 = 0 := w0
  have hpre : exC kd dl (suC n a d) C [] = thenE (exC kd dl (.seq (cdE (suV n) (.idx nmL (.plc nmK))) (.one [3, suI n + 1 + 1])) C2 []) (exC kd dl (.seq (cdE (suV n) (.plc nmI)) (.one [3, suI n + 1 + 1 + 1]))) := by
    unfold suC
    rw [exC, g1]
    simp only [thenE]
    rw [exC]
    have hs : exC kd dl (.seq (cdE (suV n) (.lit 0)) (.one [3, suI n + 1])) C1 [] = .ok (upd C1 (2 + n) 0, []) := by
      simp only [cdE, exC, ex_num, thenE, w0, ex_set y2, e2, K.s, l0]
    rw [hs]
    simp only [thenE]
    rw [exC, f1]
    simp only [thenE]
    rw [exC]
    rfl
  have hev : evE (suV n) dl (.idx nmL (.plc nmK)) C2 = if 0 ≤ k ∧ k < n then .ok (C2, C2 (1 + k).toNat) else .error 5 := by
    simp only [evE, andV, sfK, sfL, sgL]
    rw [show C2 (Int.toNat 0) = k from f3.1.1]
  have hE := ex_E (rl := fun _ => 0) (kd' := fun _ => 0) (kd := kd) (dl := dl) (.idx nmL (.plc nmK)) C2 [] (oL hn (row0 n) (oK (fun _ => 0) (fun _ => 0) hn))
  refine ⟨fun h0 h1 => ?_, fun h0 => ?_⟩
  · obtain ⟨q, rfl⟩ : ∃ q : Nat, k = (q : Int) := ⟨k.toNat, by omega⟩
    have hq : q < n := by omega
    have hx := f3.1.2 q hq hq
    have mb := md_bd (m := q) (by omega) hd
    have lk : layK 2 (a + (q : Int) * d) = a + (q : Int) * d := w32_id (by unfold in32; omega)
    have lj : layK 1 ((n : Int) - 1) = (n : Int) - 1 := i16_id (by omega)
    rw [if_pos ⟨h0, h1⟩, show ((1 : Int) + (q : Int)).toNat = 1 + q by omega, hx] at hev
    have hB : exC kd dl (.seq (cdE (suV n) (.idx nmL (.plc nmK))) (.one [3, suI n + 1 + 1])) C2 [] = .ok (upd C2 (3 + n) (a + (q : Int) * d), []) := by
      simp only [exC]
      rw [hE, hev]
      simp only [onS, thenE]
      rw [ex_set y3, e3, K.e, lk]
    have hC : exC kd dl (.seq (cdE (suV n) (.plc nmI)) (.one [3, suI n + 1 + 1 + 1])) (upd C2 (3 + n) (a + (q : Int) * d)) [] = .ok (upd (upd C2 (3 + n) (a + (q : Int) * d)) (4 + n) ((n : Int) - 1), []) := by
      simp only [exC]
      rw [ex_E (rl := fun _ => 0) (kd' := fun _ => 0) _ _ _ (oI (fun _ => 0) (fun _ => 0) hn)]
      simp only [evE, onS, thenE, sfI, i1]
      rw [upd_ne _ _ (by omega), f2, ex_set y4, e4, K.j, lj]
    refine ⟨upd (upd C2 (3 + n) (a + (q : Int) * d)) (4 + n) ((n : Int) - 1), ?_, ?_, ?_, ?_⟩
    · rw [hpre, hB]
      simp only [thenE]
      exact hC
    · rw [upd_ne _ _ (by omega), upd_ne _ _ (by omega)]; exact f3.2
    · rw [upd_ne _ _ (by omega), upd_same]
    · rw [upd_same]
  · rw [if_neg (by omega)] at hev
    rw [hpre]
    simp only [exC]
    rw [hE, hev]
    rfl

end Go.Proofs.YtidhiaaicmfabaaGreatDoor

/- The second text of Summed; scans that are errors (seat .ZD alone). -/
namespace Go.Proofs.YtidhiaaicmfabaaGreatDoor
open Go.RowKit Go.Proofs Go.Deep

set_option maxRecDepth 100000 in
/-- A scan of such code that is an error. -/
theorem cscan_err (B : Nat) (w : World) {cs : List Int} {c : Cd} {cap bs bx bc : Nat} {To' : Nat → Int} {C : Nat → Int} {dn : Int} (ok : CdOk cs c) (h : Live (cMd cs c cap bs bx To') bc C dn w) (hk : cKW cs c cap bs bx To') (hB1 : B ≤ bx) (hB2 : B ≤ bc) (hB3 : B ≤ w.heap.size)
    {v : Value} {l : List Int} {d e : Int} (hv : InpAt bc w v l) (hfit : fitsL (cMd cs c cap bs bx To').rl (cMd cs c cap bs bx To').kd (cMd cs c cap bs bx To').nC 0 l = true) (hd0 : 0 ≤ d ∧ d ≤ 1000000)
    (hex : exC (cMd cs c cap bs bx To').kd d c (layL (cMd cs c cap bs bx To').rl (cMd cs c cap bs bx To').kd (cMd cs c cap bs bx To').nC 0 l C) [] = .error e) (R : Ending → World → Prop)
    (fin : ∀ w' cv dn', Below B w w' → Dead (cMd cs c cap bs bx To') cv C dn' e w' → R (.returned (.int .i64 e)) w') :
    Calls Tryz.prog 26 #[.pointer (some ⟨bx, 0, none⟩), v, .int .i64 d] w R := by
  obtain ⟨he, hrun⟩ := (c_run ok hk w d _).2 e hex
  have hbd := ok.bd
  obtain ⟨To, H, L, kw, hTo⟩ := hk
  refine scan_any _ (cMd cs c cap bs bx To') bc C dn h _ l d hv kw (by show ((bndC c + 1 : Nat) : Int) ≤ 200000; omega) _ ?_ ?_ ?_
  · intro hbad
    rcases hbad with hbad | hbad | hbad
    · rw [hfit] at hbad; cases hbad
    · omega
    · omega
  · intro _ _ w2 q' dn2 hr2
    rw [hr2] at hrun
    exact absurd hrun.symm he
  · intro _ _ w2 q' dn2 e2 cv hr2 he2 hdead ht _ _
    rw [hr2] at hrun
    simp only at hrun
    subst hrun
    exact fin w2 cv dn2 (ht.below hB1 hB2 hB3 rfl) hdead
/-- The text with an array of BOOLs. -/
def sxV : List Vd := [⟨nmK, 0, 1, false, 1⟩, ⟨nmL, 2, 0, true, 3⟩]
def sxS : Sl := .cons (.setx nmL (.plc nmK) (.tru true)) .nil
def sxC : Cd := .seq (.seq (cdE sxV (.plc nmK)) (cdE sxV (.tru true))) (.one [5, 1, 3])
def sxText : ByteArray := ⟨#[73, 78, 32, 107, 58, 32, 73, 78, 84, 59, 32, 86, 65, 82, 32, 108, 58, 32, 65, 82, 82, 65, 89, 32, 51, 32, 79, 70, 32, 66, 79, 79, 76, 59, 32, 66, 69, 71, 73, 78, 32, 108, 91, 107, 93, 32, 58, 61, 32, 84, 82, 85, 69, 59, 32, 69, 78, 68]⟩
theorem sxSp : spF sxText.size sxText = some (toksP sxV sxS) := by kernel_rfl
theorem xlK : lookV sxV nmK = some ⟨nmK, 0, 1, false, 1⟩ := by kernel_rfl
theorem xlL : lookV sxV nmL = some ⟨nmL, 2, 0, true, 3⟩ := by kernel_rfl
theorem sxMem {P : Vd → Prop} (h0 : P ⟨nmK, 0, 1, false, 1⟩) (h1 : P ⟨nmL, 2, 0, true, 3⟩) : ∀ v ∈ sxV, P v := by
  intro v hv
  unfold sxV at hv
  simp only [List.mem_cons, List.not_mem_nil, or_false] at hv
  rcases hv with rfl | rfl <;> assumption
theorem xoK (rl kd : Nat → Int) : okE rl kd 4 sxV (.plc nmK) := by
  have e : firstV sxV 0 nmK = 0 := by kernel_rfl
  simp only [okE, e, byt]
  omega
theorem sxWf : wfC sxC := ⟨⟨wf_cdE _ (xoK (fun _ => 0) (fun _ => 0)), pl_num _⟩, pl_three (by omega) (by unfold byt; omega) (by unfold byt; omega)⟩
theorem sxTx : ∃ f, TxL sxV sxS f ∧ f 0 = (flat 0 sxC).flatten := by
  have hlen : ∀ v ∈ sxV, 0 ≤ v.len ∧ v.len ≤ 255 := sxMem (by decide) (by decide)
  have wK : wtE sxV (.plc nmK) = true := by kernel_rfl
  have wT : wtE sxV (.tru true) = true := rfl
  obtain ⟨sp, hsp⟩ : ∃ sp : Int, sp = ((cellsB sxV).length : Int) := ⟨_, rfl⟩
  have s1 : SWriteOk sxV sp (.setx nmL (.plc nmK) (.tru true)) (fun _ => codeE sxV (.plc nmK) ++ codeE sxV (.tru true) ++ [5, firstV sxV 0 nmL, lenOf sxV nmL]) false := swrite_setx (write_all _ hlen _ wK) (write_all _ hlen _ wT) xlL (by decide)
  have t1 : SWriteOkL sxV sp (.setx nmL (.plc nmK) (.tru true)) (fun _ => codeE sxV (.plc nmK) ++ codeE sxV (.tru true) ++ [5, firstV sxV 0 nmL, lenOf sxV nmL]) false := SWriteOk.toL @s1
  have b1 := @AllWL.cons sxV sp _ _ _ _ _ _ @t1 .nil
  obtain ⟨f, hfw, hf0⟩ : ∃ f, AllWL sxV sp sxS f false ∧ f 0 = (flat 0 sxC).flatten := ⟨_, b1, by kernel_rfl⟩
  refine ⟨f, { vr := sxMem ⟨by decide, var_plain lowK (by decide) rfl rfl⟩ ⟨by decide, var_array lowL (by decide) rfl (by decide)⟩, rd := ⟨stmt_setx lowL (expr_plc lowK) expr_tru, trivial⟩, dep := by decide, low := sxMem lowK lowL, dis := by decide, us := ?_, wv := sxMem (by decide) (by decide), ck := ?_, co := ⟨scost_setx (cost_all _ _) (cost_all _ _), by decide, trivial⟩, cost := by decide, wr := (by rw [← hsp]; exact hfw), ln := by decide, bl := by decide, cd := ?_, ci := ?_ }, hf0⟩
  · intro u hu
    have e : namesL sxS = [nmL, nmK] := rfl
    rw [e] at hu
    simp only [List.mem_cons, List.not_mem_nil, or_false] at hu
    rcases hu with rfl | rfl
    · exact ⟨_, (lookV_mem _ _ _ xlL).1, rfl⟩
    · exact ⟨_, (lookV_mem _ _ _ xlK).1, rfl⟩
  · have c1 : CheckOk sxV [] (.setx nmL (.plc nmK) (.tru true)) := check_setx (kind_all _ _ wK) (kind_all _ _ wT) (by kernel_rfl) (by decide)
    exact ⟨CheckOk.toL @c1, trivial⟩
  · rw [hf0, flat_sz]; decide
  · rw [hf0]; exact flat_in sxWf 0
def sxCs : List Int := [1, 6, 6, 6]
theorem sxImg {f : Nat → List Int} (hf : f 0 = (flat 0 sxC).flatten) : imgS sxV f = imgG sxCs (prW sxC).flatten := by
  unfold imgS
  rw [hf, show cellsB sxV = sxCs by decide]
  simp only [prW, List.flatten_append, List.flatten_cons, List.flatten_nil, List.append_nil]
  rfl
theorem sxBt (l : List Int) (hl : l.length ≤ 8000) : bt (imgG sxCs l) (7 + 0) = 1 ∧ bt (imgG sxCs l) (7 + 1) = 6 ∧ bt (imgG sxCs l) (7 + 2) = 6 ∧ bt (imgG sxCs l) (7 + 3) = 6 := by
  have F := img_facts sxCs l (by decide) (by decide) hl
  exact ⟨F.cell 0 1 rfl, F.cell 1 6 rfl, F.cell 2 6 rfl, F.cell 3 6 rfl⟩
theorem sxCd : CdOk sxCs sxC := by
  have hb := sxBt (prW sxC).flatten (by rw [prW_sz]; decide)
  refine ⟨by decide, by decide, sxWf, by decide, by decide, by decide, by decide, ⟨⟨cel_cdE _ (xoK _ _), ins_free (.inl rfl)⟩, ins_cells (by omega) (by unfold byt; omega) (by unfold byt; omega) ⟨by decide, by decide, fun i hi => ?_, fun _ => ?_, fun h => absurd h (by decide)⟩⟩⟩
  · have h3 : i = 0 ∨ i = 1 ∨ i = 2 := by have : i < 3 := hi; omega
    unfold rlOf kdOf
    rcases h3 with rfl | rfl | rfl
    · exact ⟨rfl, rfl⟩
    · exact ⟨by show ((bt _ (7 + 2) / 3 : Nat) : Int) = ((bt _ (7 + 1) / 3 : Nat) : Int); rw [hb.2.1, hb.2.2.1], by show ((bt _ (7 + 2) % 3 : Nat) : Int) = ((bt _ (7 + 1) % 3 : Nat) : Int); rw [hb.2.1, hb.2.2.1]⟩
    · exact ⟨by show ((bt _ (7 + 3) / 3 : Nat) : Int) = ((bt _ (7 + 1) / 3 : Nat) : Int); rw [hb.2.1, hb.2.2.2], by show ((bt _ (7 + 3) % 3 : Nat) : Int) = ((bt _ (7 + 1) % 3 : Nat) : Int); rw [hb.2.1, hb.2.2.2]⟩
  · show rlOf _ 1 ≠ 0
    unfold rlOf
    rw [hb.2.1]
    decide
theorem sx_ex (kd : Nat → Nat) (dl : Int) (C : Nat → Int) (h : C 0 < 0) : exC kd dl sxC C [] = .error 5 := by
  have y : ex1 kd dl [5, 1, 3] C [1, C 0] = .error 5 := by
    rw [ex_setx (by unfold byt; omega) (by unfold byt; omega), if_neg (by omega)]
  simp only [sxC, exC]
  rw [ex_E (rl := fun _ => 0) (kd' := fun _ => 0) _ _ _ (xoK (fun _ => 0) (fun _ => 0))]
  have e : firstV sxV 0 nmK = 0 := by kernel_rfl
  simp only [evE, onS, thenE, e]
  rw [ex_E (rl := fun _ => 0) (kd' := fun _ => 0) (nC := 4) (vs := sxV) (.tru true) C _ trivial]
  simp only [evE, onS]
  exact y

end Go.Proofs.YtidhiaaicmfabaaGreatDoor

/- Scans of Summed's machines (seat .ZD alone). -/
namespace Go.Proofs.YtidhiaaicmfabaaGreatDoor
open Go.RowKit Go.Proofs Go.Deep

theorem fits_none (rl kd : Nat → Nat) : ∀ (m i : Nat), (∀ j, i ≤ j → j < i + m → rl j ≠ 0) → fitsL rl kd m i [] = true
  | 0, _, _ => rfl
  | m + 1, i, h => by
    simp only [fitsL]
    rw [if_neg (h i (Nat.le_refl _) (by omega))]
    exact fits_none rl kd m (i + 1) (fun j h1 h2 => h j (by omega) (by omega))
theorem lay_none (rl kd : Nat → Nat) (C : Nat → Int) : ∀ (m i : Nat), layL rl kd m i [] C = C
  | 0, _ => rfl
  | m + 1, i => by
    simp only [layL]
    split
    · rfl
    · exact lay_none rl kd C m (i + 1)
theorem outs_none (rl : Nat → Nat) (C : Nat → Int) : ∀ m : Nat, (∀ j, j < m → rl j ≠ 1) → outsL rl C m = []
  | 0, _ => rfl
  | m + 1, h => by
    simp only [outsL]
    rw [if_neg (h m (by omega))]
    exact outs_none rl C m (fun j hj => h j (by omega))
structure SuRl (n : Nat) (rl : Nat → Nat) : Prop where
  k : rl 0 = 0
  l : ∀ q, q < n → rl (1 + q) = 2
  i : rl (1 + n) = 2
  s : rl (2 + n) = 1
  e : rl (3 + n) = 1
  j : rl (4 + n) = 1
theorem su_fits {n : Nat} {rl kd : Nat → Nat} (R : SuRl n rl) (hk0 : kd 0 = 2) {k : Int} (hk : in32 k) (C : Nat → Int) : fitsL rl kd (n + 5) 0 [k] = true ∧ layL rl kd (n + 5) 0 [k] C = upd C 0 k := by
  have l2 : layK 2 k = k := w32_id hk
  have hz : ∀ j, 1 ≤ j → j < 1 + (n + 4) → rl j ≠ 0 := fun j h1 h2 => by
    have hc : (∃ q, q < n ∧ j = 1 + q) ∨ j = 1 + n ∨ j = 2 + n ∨ j = 3 + n ∨ j = 4 + n := by
      by_cases h : j < 1 + n
      · exact .inl ⟨j - 1, by omega, by omega⟩
      · omega
    rcases hc with ⟨q, hq, rfl⟩ | rfl | rfl | rfl | rfl
    · rw [R.l q hq]; decide
    · rw [R.i]; decide
    · rw [R.s]; decide
    · rw [R.e]; decide
    · rw [R.j]; decide
  refine ⟨?_, ?_⟩
  · simp only [fitsL, R.k, if_true, hk0, l2, beq_self_eq_true, Bool.true_and]
    exact fits_none rl kd (n + 4) 1 hz
  · simp only [layL, R.k, if_true, hk0, l2]
    exact lay_none rl kd _ (n + 4) 1
theorem su_outs {n : Nat} {rl : Nat → Nat} (R : SuRl n rl) (C : Nat → Int) : outsL rl C (n + 5) = [C (4 + n), C (3 + n), C (2 + n)] := by
  have e4 : rl (n + 4) = 1 := by rw [Nat.add_comm]; exact R.j
  have e3 : rl (n + 3) = 1 := by rw [Nat.add_comm]; exact R.e
  have e2 : rl (n + 2) = 1 := by rw [Nat.add_comm]; exact R.s
  have e1 : rl (n + 1) = 2 := by rw [Nat.add_comm]; exact R.i
  have h0 : outsL rl C (n + 2) = [] := outs_none rl C (n + 2) (fun j hj => by
    by_cases h : j = 0
    · subst h; rw [R.k]; decide
    · by_cases h2 : j < 1 + n
      · have := R.l (j - 1) (by omega)
        rw [show 1 + (j - 1) = j by omega] at this
        rw [this]; decide
      · have : j = n + 1 := by omega
        subst this; rw [e1]; decide)
  rw [show n + 5 = (n + 4) + 1 from rfl, outsL, if_pos e4, show n + 4 = (n + 3) + 1 from rfl, outsL, if_pos e3, show n + 3 = (n + 2) + 1 from rfl, outsL, if_pos e2, h0]
  rw [show n + 2 + 1 + 1 = 4 + n by omega, show n + 2 + 1 = 3 + n by omega, show n + 2 = 2 + n by omega]
theorem su_rk (n : Nat) (hn : 1 ≤ n ∧ n ≤ 16) (a d : Int) (cap bs bx : Nat) (To' : Nat → Int) : SuRl n (cMd (suCs n) (suC n a d) cap bs bx To').rl ∧ SuKd n (cMd (suCs n) (suC n a d) cap bs bx To').kd ∧ (cMd (suCs n) (suC n a d) cap bs bx To').kd 0 = 2 ∧ (cMd (suCs n) (suC n a d) cap bs bx To').nC = n + 5 := by
  have hb := suBt n hn.2 (prW (suC n a d)).flatten (by rw [prW_sz]; have := suSz n a d; omega)
  refine ⟨⟨?_, fun q hq => ?_, ?_, ?_, ?_, ?_⟩, ⟨fun q hq => ?_, ?_, ?_, ?_, ?_⟩, ?_, suCs_len n⟩
  · show bt _ (7 + 0) / 3 = 0; rw [hb.hk]
  · show bt _ (7 + (1 + q)) / 3 = 2; rw [hb.hl q hq]
  · show bt _ (7 + (1 + n)) / 3 = 2; rw [hb.hi]
  · show bt _ (7 + (2 + n)) / 3 = 1; rw [hb.hs]
  · show bt _ (7 + (3 + n)) / 3 = 1; rw [hb.he]
  · show bt _ (7 + (4 + n)) / 3 = 1; rw [hb.hj]
  · show bt _ (7 + (1 + q)) % 3 = 2; rw [hb.hl q hq]
  · show bt _ (7 + (1 + n)) % 3 = 1; rw [hb.hi]
  · show bt _ (7 + (2 + n)) % 3 = 2; rw [hb.hs]
  · show bt _ (7 + (3 + n)) % 3 = 2; rw [hb.he]
  · show bt _ (7 + (4 + n)) % 3 = 1; rw [hb.hj]
  · show bt _ (7 + 0) % 3 = 2; rw [hb.hk]
theorem suTold (Bs : Nat) (w : World) {n : Nat} (hn : 1 ≤ n ∧ n ≤ 16) {a d : Int} (ha : -1000 ≤ a ∧ a ≤ 1000) (hd : -100 ≤ d ∧ d ≤ 100) {cap bs bx bc : Nat} {To' : Nat → Int} {C0 : Nat → Int} {dn : Int} (h : Live (cMd (suCs n) (suC n a d) cap bs bx To') bc C0 dn w) (hkw : cKW (suCs n) (suC n a d) cap bs bx To') (hB1 : Bs ≤ bx) (hB2 : Bs ≤ bc) (hB3 : Bs ≤ w.heap.size)
    {v : Value} {k : Int} (hv : InpAt bc w v [k]) (hk0 : 0 ≤ k) (hk1 : k < n) (R : Ending → World → Prop)
    (fin : ∀ w' go dn' C', Below Bs w w' → Live (cMd (suCs n) (suC n a d) cap bs bx To') bc C' dn' w' → w'.cell? ⟨go, 0, none⟩ = some (.int .i64 (sumT a d n)) → w'.cell? ⟨go, 1, none⟩ = some (.int .i64 (a + k * d)) → w'.cell? ⟨go, 2, none⟩ = some (.int .i64 ((n : Int) - 1)) → ∀ cp, R (.returned (.tuple #[.slice (some ⟨go, 0, none⟩) 3 cp, .bool true])) w') :
    Calls Tryz.prog 36 #[.pointer (some ⟨bx, 0, none⟩), v, .int .i64 0] w R := by
  obtain ⟨RL, KD, kd0, nC⟩ := su_rk n hn a d cap bs bx To'
  have ok := suCd n hn a d
  obtain ⟨f1, f2⟩ := su_fits RL kd0 (k := k) (by unfold in32; omega) C0
  obtain ⟨C', x1, x2, x3, x4⟩ := (su_ex n hn a d ha hd KD 0 k (upd C0 0 k) (upd_same ..)).1 hk0 hk1
  have ho : outsL (cMd (suCs n) (suC n a d) cap bs bx To').rl C' (suCs n).length = [(n : Int) - 1, a + k * d, sumT a d n] := by
    rw [suCs_len, su_outs RL C', x2, x3, x4]
  refine ctold Bs w ok h hkw hB1 hB2 hB3 (l := [k]) hv (by rw [nC]; exact f1) (by omega) (C' := C') (S' := []) (by rw [nC, f2]; exact x1) (by rw [ho]; simp) R ?_
  intro w' go dn' hb hl hg cp
  rw [ho] at hg ⊢
  exact fin w' go dn' C' hb hl (hg 0 _ rfl) (hg 1 _ rfl) (hg 2 _ rfl) cp
theorem suErr (Bs : Nat) (w : World) {n : Nat} (hn : 1 ≤ n ∧ n ≤ 16) {a d : Int} (ha : -1000 ≤ a ∧ a ≤ 1000) (hd : -100 ≤ d ∧ d ≤ 100) {cap bs bx bc : Nat} {To' : Nat → Int} {C0 : Nat → Int} {dn : Int} (h : Live (cMd (suCs n) (suC n a d) cap bs bx To') bc C0 dn w) (hkw : cKW (suCs n) (suC n a d) cap bs bx To') (hB1 : Bs ≤ bx) (hB2 : Bs ≤ bc) (hB3 : Bs ≤ w.heap.size)
    {v : Value} {k : Int} (hv : InpAt bc w v [k]) (hk0 : (n : Int) ≤ k) (hk1 : k ≤ 2147483647) (R : Ending → World → Prop)
    (fin : ∀ w' cv dn', Below Bs w w' → Dead (cMd (suCs n) (suC n a d) cap bs bx To') cv C0 dn' 5 w' → R (.returned (.int .i64 5)) w') :
    Calls Tryz.prog 26 #[.pointer (some ⟨bx, 0, none⟩), v, .int .i64 0] w R := by
  obtain ⟨RL, KD, kd0, nC⟩ := su_rk n hn a d cap bs bx To'
  obtain ⟨f1, f2⟩ := su_fits RL kd0 (k := k) (by unfold in32; omega) C0
  have x1 := (su_ex n hn a d ha hd KD 0 k (upd C0 0 k) (upd_same ..)).2 hk0
  exact cscan_err Bs w (suCd n hn a d) h hkw hB1 hB2 hB3 (l := [k]) hv (by rw [nC]; exact f1) (by omega) (by rw [nC, f2]; exact x1) R fin
theorem sxErr (Bs : Nat) (w : World) {cap bs bx bc : Nat} {To' : Nat → Int} {C0 : Nat → Int} {dn : Int} (h : Live (cMd sxCs sxC cap bs bx To') bc C0 dn w) (hkw : cKW sxCs sxC cap bs bx To') (hB1 : Bs ≤ bx) (hB2 : Bs ≤ bc) (hB3 : Bs ≤ w.heap.size)
    {v : Value} {k : Int} (hv : InpAt bc w v [k]) (hk0 : k < 0) (hk1 : -32768 ≤ k) (R : Ending → World → Prop)
    (fin : ∀ w', Below Bs w w' → R (.returned (.int .i64 5)) w') :
    Calls Tryz.prog 26 #[.pointer (some ⟨bx, 0, none⟩), v, .int .i64 0] w R := by
  obtain ⟨b0, b1, b2, b3⟩ := sxBt (prW sxC).flatten (by rw [prW_sz]; decide)
  have r0 : (cMd sxCs sxC cap bs bx To').rl 0 = 0 := by show bt _ (7 + 0) / 3 = 0; rw [b0]
  have r1 : (cMd sxCs sxC cap bs bx To').rl 1 = 2 := by show bt _ (7 + 1) / 3 = 2; rw [b1]
  have r2 : (cMd sxCs sxC cap bs bx To').rl 2 = 2 := by show bt _ (7 + 2) / 3 = 2; rw [b2]
  have r3 : (cMd sxCs sxC cap bs bx To').rl 3 = 2 := by show bt _ (7 + 3) / 3 = 2; rw [b3]
  have k0 : (cMd sxCs sxC cap bs bx To').kd 0 = 1 := by show bt _ (7 + 0) % 3 = 1; rw [b0]
  have l1 : layK 1 k = k := i16_id (by omega)
  have f1 : fitsL (cMd sxCs sxC cap bs bx To').rl (cMd sxCs sxC cap bs bx To').kd 4 0 [k] = true := by
    simp only [fitsL, r0, if_true, k0, l1, beq_self_eq_true, Bool.true_and]
    exact fits_none _ (cMd sxCs sxC cap bs bx To').kd 3 1 (fun j h1 h2 => by
      have : j = 1 ∨ j = 2 ∨ j = 3 := by omega
      rcases this with rfl | rfl | rfl
      · rw [r1]; decide
      · rw [r2]; decide
      · rw [r3]; decide)
  have f2 : layL (cMd sxCs sxC cap bs bx To').rl (cMd sxCs sxC cap bs bx To').kd 4 0 [k] C0 = upd C0 0 k := by
    simp only [layL, r0, if_true, k0, l1]
    exact lay_none _ (cMd sxCs sxC cap bs bx To').kd _ 3 1
  exact cscan_err Bs w sxCd h hkw hB1 hB2 hB3 (l := [k]) hv f1 (by omega) (by show exC _ 0 _ (layL _ _ 4 0 _ _) [] = _; rw [f2]; exact sx_ex _ _ _ (by rw [upd_same]; exact hk0)) R (fun w' _ _ hb _ => fin w' hb)

end Go.Proofs.YtidhiaaicmfabaaGreatDoor
