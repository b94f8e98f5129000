/- Chosen, and its row lifted. -/
import Derived.Test.YtidhiaaicmfabaaGreatDoorKaA
import Derived.WalkKit
import Derived.WalkSpells
import Derived.WalkLawsBesides
import Derived.Deep.OwnRows
import Derived.BigQuiet
import Derived.Handy
import Derived.Deep.Light
import Derived.Deep.RegionHeld3
import Derived.Deep.RegionWith
import Derived.Test.YtidhiaaicmfabaaGreatDoorJcE
import Derived.Test.YtidhiaaicmfabaaGreatDoorJcA
import Derived.Test.YtidhiaaicmfabaaGreatDoorJyR

/- Chosen (seat .ZD alone). -/
namespace Go.Proofs.YtidhiaaicmfabaaGreatDoor
open Go.RowKit Go.Proofs Go.Deep

theorem whsB_snoc (n : Int) : ∀ (l : List Int) (i : Nat), whsB i (l ++ [n]) = whsB i l ++ (ch2 ++ (litB n ++ (ch3 ++ (litB (n + 50) ++ (ch4 ++ (litB ((i + l.length : Nat) : Int) ++ ch5))))))
  | [], i => by simp only [List.nil_append, whsB, List.append_nil, List.length_nil, Nat.add_zero]
  | m :: r, i => by
    simp only [List.cons_append, whsB, whsB_snoc n r, List.length_cons, List.append_assoc]
    rw [show i + 1 + r.length = i + (r.length + 1) by omega]
/-- The pairs of the numbers and their places, the last first. -/
def rvp : Nat → List (Nat × Int) → List Int → List (Nat × Int)
  | _, acc, [] => acc
  | i, acc, n :: r => rvp (i + 1) ((i, n) :: acc) r
theorem rvp_snoc (n : Int) : ∀ (l : List Int) (i : Nat) (acc : List (Nat × Int)), rvp i acc (l ++ [n]) = (i + l.length, n) :: rvp i acc l
  | [], i, acc => by simp [rvp]
  | m :: r, i, acc => by
    simp only [List.cons_append, rvp, rvp_snoc n r, List.length_cons]
    rw [show i + 1 + r.length = i + (r.length + 1) by omega]
theorem rvp_ok : ∀ (l : List Int) (i : Nat) (acc : List (Nat × Int)), nsOk l → i + l.length ≤ 8 → acc.length = i → psOk acc → psOk (rvp i acc l)
  | [], _, _, _, _, _, h => h
  | n :: r, i, acc, h, hi, ha, hp => by
    simp only [List.length_cons] at hi
    refine rvp_ok r (i + 1) ((i, n) :: acc) h.tail (by omega) (by simp [ha]) ⟨by simp only [List.length_cons]; omega, fun p hm => ?_⟩
    rcases List.mem_cons.1 hm with rfl | hm
    · exact ⟨by show i ≤ 8; omega, h.2 n (List.mem_cons_self ..)⟩
    · exact hp.2 p hm
/-- Which branch has the number, if one has it. -/
def fw (v : Int) : Nat → List Int → Int
  | _, [] => -1
  | i, n :: r => if n = v then (i : Int) else fw v (i + 1) r
theorem fw_bd (v : Int) : ∀ (l : List Int) (i : Nat), -1 ≤ fw v i l ∧ fw v i l < i + l.length + 1
  | [], i => by simp only [fw, List.length_nil]; omega
  | n :: r, i => by
    have := fw_bd v r (i + 1)
    simp only [fw, List.length_cons]
    split <;> omega
theorem fw_eq {v m : Int} {r : List Int} {i : Nat} (e : m = v) : fw v i (m :: r) = (i : Int) := if_pos e
theorem fw_ne {v m : Int} {r : List Int} {i : Nat} (e : m ≠ v) : fw v i (m :: r) = fw v (i + 1) r := if_neg e
theorem fw_snoc (v n : Int) : ∀ (l : List Int) (i : Nat), (fw v i l < 0 → n = v → fw v i (l ++ [n]) = ((i + l.length : Nat) : Int)) ∧ (fw v i l < 0 → n ≠ v → fw v i (l ++ [n]) = fw v i l) ∧ (0 ≤ fw v i l → fw v i (l ++ [n]) = fw v i l)
  | [], i => ⟨fun _ e => fw_eq e, fun _ e => fw_ne e, fun h => by simp only [fw] at h; omega⟩
  | m :: r, i => by
    obtain ⟨h1, h2, h3⟩ := fw_snoc v n r (i + 1)
    by_cases e : m = v
    · have a1 : fw v i (m :: r) = (i : Int) := fw_eq e
      have a2 : fw v i (m :: r ++ [n]) = (i : Int) := fw_eq e
      rw [a1, a2]
      exact ⟨fun h => by omega, fun h => by omega, fun _ => rfl⟩
    · have a1 : fw v i (m :: r) = fw v (i + 1) r := fw_ne e
      have a2 : fw v i (m :: r ++ [n]) = fw v (i + 1) (r ++ [n]) := fw_ne e
      rw [a1, a2, List.length_cons, show i + (r.length + 1) = i + 1 + r.length by omega]
      exact ⟨h1, h2, h3⟩
theorem fw_res (v : Int) : ∀ (l : List Int) (i : Nat), (fw v i l < 0 → resW v i l = 77) ∧ (0 ≤ fw v i l → resW v i l = fw v i l)
  | [], i => ⟨fun _ => rfl, fun h => by simp only [fw] at h; omega⟩
  | m :: r, i => by
    obtain ⟨h1, h2⟩ := fw_res v r (i + 1)
    by_cases e : m = v
    · have a1 : fw v i (m :: r) = (i : Int) := fw_eq e
      have a2 : resW v i (m :: r) = (i : Int) := if_pos e
      rw [a1, a2]
      exact ⟨fun h => by omega, fun _ => rfl⟩
    · have a1 : fw v i (m :: r) = fw v (i + 1) r := fw_ne e
      have a2 : resW v i (m :: r) = resW v (i + 1) r := if_neg e
      rw [a1, a2]
      exact ⟨h1, h2⟩
theorem chJoin (X : List UInt8) (n : Int) (i : Nat) : (((((((ba X ++ ba ch2) ++ ba (litB n)) ++ ba ch3) ++ ba (litB (n + 50))) ++ ba ch4) ++ ba (litB i)) ++ ba ch5) = ba (X ++ (ch2 ++ (litB n ++ (ch3 ++ (litB (n + 50) ++ (ch4 ++ (litB i ++ ch5))))))) := by
  simp only [ba_app, List.append_assoc]
theorem ifJoin (ps : List (Nat × Int)) (n : Int) (i : Nat) : ((((((((ba if3 ++ ba (litB n)) ++ ba if4) ++ ba (litB (n + 50))) ++ ba if5) ++ ba (litB i)) ++ ba if6) ++ ba (ifB ps)) ++ ba if7) = ba (ifB ((i, n) :: ps)) := by
  simp only [ba_app, ifB, List.append_assoc]
theorem str_callC {X Y : ByteArray} {f : Nat} {w : World} {R : Ending → World → Prop} (h : X = Y) (hc : Calls Tryz.prog f #[.string Y] w R) : Calls Tryz.prog f #[.string X] w R := h ▸ hc
/-- The numbers of the branches. -/
def nsOf (raw : List Int) : List Int := (raw.take 8).map (fun x => pickV x 10 - 3)
theorem nsOf_ok (raw : List Int) : nsOk (nsOf raw) := by
  refine ⟨by unfold nsOf; simp only [List.length_map, List.length_take]; omega, fun n hn => ?_⟩
  unfold nsOf at hn
  obtain ⟨x, _, rfl⟩ := List.mem_map.1 hn
  have := pick_bd x 10 (by omega)
  omega
set_option maxRecDepth 100000 in
set_option maxHeartbeats 4000000 in
theorem chosenK_any (w : World) (hops : ∀ i v, opC[i]? = some v → w.cell? ⟨4, i, none⟩ = some v) (vr : Value) (raw : List Int) (nb : Nat) (hin : InpAt nb w vr raw) (hraw : ∀ x ∈ raw, -9223372036854775808 ≤ x ∧ x ≤ 9223372036854775807) (z : Int) (hz : -9223372036854775808 ≤ z ∧ z ≤ 9223372036854775807)
    (R : Ending → World → Prop) (fin : ∀ w', Below w.heap.size w w' → R (.returned (.bool true)) w') :
    Calls Tryz.prog 9 #[vr, .int .i64 z] w R := by
  have h4 : 4 < w.heap.size := World.block_lt_of_cell? w ⟨4, 0, none⟩ (hops 0 _ rfl)
  obtain ⟨ns, hns⟩ : ∃ ns, ns = nsOf raw := ⟨_, rfl⟩
  have hok : nsOk ns := by rw [hns]; exact nsOf_ok raw
  have hpk : psOk (rvp 0 [] ns) := rvp_ok ns 0 [] hok (by have := hok.1; omega) rfl ⟨by decide, fun p hp => by cases hp⟩
  have hnl : ns.length = min raw.length 8 := by rw [hns]; unfold nsOf; simp only [List.length_map, List.length_take]; omega
  have hnx : ∀ j x, j < ns.length → raw[j]? = some x → ns[j]? = some (pickV x 10 - 3) := fun j x hj hx => by
    rw [hns]
    unfold nsOf
    rw [List.getElem?_map, List.getElem?_take_of_lt (by omega), hx]
    rfl
  obtain ⟨f, hTx, hf0⟩ := chTx ns hok
  have hIm := chPr ns hf0
  have hIx := ifPr (rvp 0 [] ns)
  obtain ⟨hSp, hSz⟩ := chSp ns hok
  obtain ⟨hSp2, hSz2⟩ := ifSp (rvp 0 [] ns) hpk
  have hM : ∀ (W : World), Below w.heap.size w W → ∀ (R' : Ending → World → Prop), (∀ cap bs bx bc To' w', Below W.heap.size W w' → W.heap.size ≤ bx → W.heap.size ≤ bs → W.heap.size ≤ bc → Live (cMd chCs (chC ns) cap bs bx To') bc (fun _ => 0) 0 w' → cKW chCs (chC ns) cap bs bx To' → R' (.returned (.pointer (some ⟨bx, 0, none⟩))) w') → Calls Tryz.prog 35 #[.string (chText ns)] W R' := fun W hW R' hR' =>
    cmachine W (chCd ns hok.1) (fun R2 h2 => compile_okK hTx (chText ns) hSz hSp W (fun i v hv => (hW.cell (p := ⟨4, i, none⟩) h4).trans (hops i v hv)) R2 (by rw [hIm]; exact h2)) R' hR'
  have hX : ∀ (W : World), Below w.heap.size w W → ∀ (R' : Ending → World → Prop), (∀ cap bs bx bc To' w', Below W.heap.size W w' → W.heap.size ≤ bx → W.heap.size ≤ bs → W.heap.size ≤ bc → Live (cMd ifCs (ifC (rvp 0 [] ns)) cap bs bx To') bc (fun _ => 0) 0 w' → cKW ifCs (ifC (rvp 0 [] ns)) cap bs bx To' → R' (.returned (.pointer (some ⟨bx, 0, none⟩))) w') → Calls Tryz.prog 35 #[.string (ifText (rvp 0 [] ns))] W R' := fun W hW R' hR' =>
    cmachine W (ifCd _ hpk.1) (fun R2 h2 => compile_okL (ifTx _ hpk) (ifText (rvp 0 [] ns)) hSz2 hSp2 W (fun i v hv => (hW.cell (p := ⟨4, i, none⟩) h4).trans (hops i v hv)) R2 (by rw [hIx]; exact h2)) R' hR'
  have pz := pick_bd z 12 (by omega)
  obtain ⟨v, hv⟩ : ∃ v : Int, pickV z 12 = v + 3 := ⟨pickV z 12 - 3, by omega⟩
  have hvb : -3 ≤ v ∧ v ≤ 8 := by omega
  have ev : v + 3 - 3 = v := by omega
  obtain ⟨ro, rc, rfl, hrc, hrx⟩ := hin
  replace fin := hd fin
  replace hM := hd hM
  replace hX := hd hX
  replace hnx := hd hnx
  replace hrx := hd hrx
  replace hraw := hd hraw
  replace hns := hd hns
  clear hTx hSp hIm hIx hf0 hops hSp2
  go_enter Tryz.func9, Tryz.ntmps9
  go_wp2_with (fail)
  refine copies_any _ _ ?_
  intro w1 hb1
  have hz1 := hb1.size
  replace hb1 := hd hb1
  go_wp2_with (fail)
  refine pick_any _ _ _ hz (by omega) _ ?_
  rw [hv]
  clear hv pz
  have hlen8 := hok.1
  replace hnl := hd hnl
  go_wp2
  go_loopw [6, 7, 9, 10, 11] (fun tv ov wv iv _ wr => ∃ k : Nat, k ≤ ns.length ∧ iv = .int .i64 (k : Int) ∧ tv = .string (ba (ch1 ++ whsB 0 (ns.take k))) ∧ ov = .string (ba (ifB (rvp 0 [] (ns.take k)))) ∧ wv = .int .i64 (fw v 0 (ns.take k)) ∧ Below w.heap.size w wr) (fun _ _ _ iv _ _ => ns.length - (intOf iv).toNat)
  case atStart => exact ⟨0, Nat.zero_le _, rfl, rfl, rfl, rfl, hb1.out⟩
  case round =>
    obtain ⟨k, hk, rfl, rfl, rfl, rfl, hbr⟩ := hrel
    by_cases hlt : k < ns.length
    · have hkr : k < raw.length := by have := hnl.out; omega
      have hk8 : k < 8 := by omega
      have tr1 : decide ((k : Int) < (raw.length : Int)) = true := by simp; omega
      have tr2 : decide ((k : Int) < 8) = true := by simp; omega
      obtain ⟨y, hy⟩ : ∃ y, raw[k]? = some y := ⟨_, List.getElem?_eq_getElem hkr⟩
      have hyb := hraw.out y (List.mem_of_getElem? hy)
      have hny := hnx.out k y hlt hy
      have pb := pick_bd y 10 (by omega)
      obtain ⟨n, hn⟩ : ∃ n : Int, pickV y 10 = n + 3 := ⟨pickV y 10 - 3, by omega⟩
      rw [hn, show n + 3 - 3 = n by omega] at hny
      have en : n + 3 - 3 = n := by omega
      have hnb : -3 ≤ n ∧ n ≤ 6 := by omega
      rcases hrx.out with ⟨g, o, rfl, hgn, hgc⟩ | hnil
      · have c1 : w.cell? ⟨g, o + k, none⟩ = some (.int .i64 y) := hgc k y hy
        have hgw : g < w.heap.size := World.block_lt_of_cell? w ⟨g, o + k, none⟩ c1
        have c2 : wr.cell? ⟨g, o + k, none⟩ = some (.int .i64 y) := (hbr.cell (p := ⟨g, o + k, none⟩) hgw).trans c1
        have j0 : (0 : Int) ≤ (k : Int) ∧ (k : Int) < (raw.length : Int) := by omega
        have jn : IntKind.i64.wrap (n + 50) = n + 50 := IntWalk.i64_in _ (by omega)
        have etk : ns.take (k + 1) = ns.take k ++ [n] := by rw [List.take_add_one, hny]; rfl
        have ekl : (ns.take k).length = k := by rw [List.length_take]; omega
        have hokk : nsOk (ns.take k) := ⟨by rw [ekl]; omega, fun m hm => hok.2 m (List.mem_of_mem_take hm)⟩
        have hpkk : psOk (rvp 0 [] (ns.take k)) := rvp_ok _ 0 [] hokk (by rw [ekl]; omega) rfl ⟨by decide, fun p hp => by cases hp⟩
        have hJ1 := chJoin (ch1 ++ whsB 0 (ns.take k)) n k
        have hJ2 := ifJoin (rvp 0 [] (ns.take k)) n k
        have hw1 : ba (ch1 ++ whsB 0 (ns.take k) ++ (ch2 ++ (litB n ++ (ch3 ++ (litB (n + 50) ++ (ch4 ++ (litB k ++ ch5))))))) = ba (ch1 ++ whsB 0 (ns.take (k + 1))) := by
          rw [etk, whsB_snoc, ekl, Nat.zero_add, List.append_assoc]
        have hw2 : ba (ifB ((k, n) :: rvp 0 [] (ns.take k))) = ba (ifB (rvp 0 [] (ns.take (k + 1)))) := by
          rw [etk, rvp_snoc, ekl, Nat.zero_add]
        rw [hw1] at hJ1
        rw [hw2] at hJ2
        have hfs := fw_snoc v n (ns.take k) 0
        rw [← etk, ekl, Nat.zero_add] at hfs
        have hfb := fw_bd v (ns.take k) 0
        rw [ekl] at hfb
        have z1 : (ba (ch1 ++ whsB 0 (ns.take k))).size ≤ 400 := by
          obtain ⟨_, _, h2, _⟩ := whs_lex (ns.take k) 0 [] hokk (by rw [ekl]; omega)
          rw [ba_size, List.length_append, show ch1.length = 61 from rfl]
          rw [ekl] at h2
          omega
        have z2 : (ba (ifB (rvp 0 [] (ns.take k)))).size ≤ 600 := by
          obtain ⟨_, _, h2, _⟩ := if_lex _ [] hpkk
          have := hpkk.1
          rw [ba_size]
          omega
        have s1 : (ba (litB n)).size ≤ 6 := by rw [ba_size]; exact (litB_len n (by omega)).2
        have s2 : (ba (litB (n + 50))).size ≤ 6 := by rw [ba_size]; exact (litB_len (n + 50) (by omega)).2
        have s3 : (ba (litB k)).size ≤ 6 := by rw [ba_size]; exact (litB_len k (by omega)).2
        generalize ba (ch1 ++ whsB 0 (ns.take k)) = TX at *
        generalize ba (ifB (rvp 0 [] (ns.take k))) = OX at *
        generalize hF : fw v 0 (ns.take k) = FW at *
        have d1 := hd (fun (W : World) => digits_any W n (by omega))
        have d2 := hd (fun (W : World) => digits_any W (n + 50) (by omega))
        have d3 := hd (fun (W : World) => digits_any W (k : Int) (by omega))
        generalize ba (litB n) = S1 at *
        generalize ba (litB (n + 50)) = S2 at *
        generalize ba (litB (k : Int)) = S3 at *
        replace hJ1 := hd hJ1
        replace hJ2 := hd hJ2
        replace hfs := hd hfs
        replace hn := hd hn
        replace hF := hd hF
        have hbrz := hbr.size
        replace hbr := hd hbr
        clear hgc c1 hny hy etk hokk hpkk hw1 hw2 ekl
        go_wp2_with (fail)
        refine pick_any _ _ _ hyb (by omega) _ ?_
        rw [hn.out]
        go_wp2_with (fail)
        refine d1.out _ _ ?_
        intro w2 b2
        have B2 := hd (hbr.out.trans (b2.mono hbrz))
        clear b2
        go_wp2_with (fail)
        refine d2.out _ _ ?_
        intro w3 b3
        have B3 := hd (B2.out.trans (b3.mono B2.out.size))
        clear b3
        go_wp2_with (fail)
        refine d3.out _ _ ?_
        intro w4 b4
        have B4 := hd (B3.out.trans (b4.mono B3.out.size))
        clear b4
        go_wp2_with (fail)
        refine d1.out _ _ ?_
        intro w5 b5
        have B5 := hd (B4.out.trans (b5.mono B4.out.size))
        clear b5
        go_wp2_with (fail)
        refine d2.out _ _ ?_
        intro w6 b6
        have B6 := hd (B5.out.trans (b6.mono B5.out.size))
        clear b6
        go_wp2_with (fail)
        refine d3.out _ _ ?_
        intro w7 b7
        have B7 := hd (B6.out.trans (b7.mono B6.out.size))
        clear b7 B2 B3 B4 B5 B6
        by_cases e1 : n = v
        · have u1 : (n == v) = true := by simp [e1]
          by_cases e2 : FW < 0
          · have u2 : decide (FW < 0) = true := by simpa using e2
            have hnew := hd (hfs.out.1 e2 e1)
            go_wp2
            exact ⟨⟨k + 1, by omega, by go_num, congrArg Value.string hJ1.out, congrArg Value.string hJ2.out, by rw [hnew.out], B7.out⟩, by simp [intOf]; omega⟩
          · have u2 : decide (FW < 0) = false := by simpa using e2
            have hnew := hd (hfs.out.2.2 (by omega))
            go_wp2
            exact ⟨⟨k + 1, by omega, by go_num, congrArg Value.string hJ1.out, congrArg Value.string hJ2.out, by rw [hnew.out], B7.out⟩, by simp [intOf]; omega⟩
        · have u1 : (n == v) = false := by simpa using e1
          have hnew := hd (show fw v 0 (ns.take (k + 1)) = FW from by
            by_cases e2 : FW < 0
            · exact hfs.out.2.1 e2 e1
            · exact hfs.out.2.2 (by omega))
          go_wp2
          exact ⟨⟨k + 1, by omega, by go_num, congrArg Value.string hJ1.out, congrArg Value.string hJ2.out, by rw [hnew.out], B7.out⟩, by simp [intOf]; omega⟩
      · rw [hnil] at hkr
        simp at hkr
    · have hkn : ns.take k = ns := List.take_of_length_le (by omega)
      rw [hkn]
      have hcase : (¬ k < raw.length ∧ decide ((k : Int) < (raw.length : Int)) = false) ∨ (k < raw.length ∧ decide ((k : Int) < (raw.length : Int)) = true ∧ ¬ k < 8 ∧ decide ((k : Int) < 8) = false) := by
        have := hnl.out
        by_cases h : k < raw.length
        · exact .inr ⟨h, by simp; omega, by omega, by simp; omega⟩
        · exact .inl ⟨h, by simp; omega⟩
      have hfb := fw_bd v ns 0
      have hfr := fw_res v ns 0
      clear hkn hlt
      have hT1 : ba (ch1 ++ whsB 0 ns) ++ ba ch6 = chText ns := by
        unfold chText
        rw [ba_app, List.append_assoc]
      have hT2 : (ba if1 ++ ba (ifB (rvp 0 [] ns))) ++ ba if8 = ifText (rvp 0 [] ns) := by
        unfold ifText
        rw [ba_app, ba_app, List.append_assoc]
      have z1 : (ba (ch1 ++ whsB 0 ns)).size ≤ 400 := by
        obtain ⟨_, _, h2, _⟩ := whs_lex ns 0 [] hok (by omega)
        rw [ba_size, List.length_append, show ch1.length = 61 from rfl]
        omega
      have z2 : (ba (ifB (rvp 0 [] ns))).size ≤ 600 := by
        obtain ⟨_, _, h2, _⟩ := if_lex _ [] hpk
        have := hpk.1
        rw [ba_size]
        omega
      generalize ba (ch1 ++ whsB 0 ns) = TX at *
      generalize ba (ifB (rvp 0 [] ns)) = OX at *
      generalize fw v 0 ns = FW at *
      replace hT1 := hd hT1
      replace hT2 := hd hT2
      have hbrz := hbr.size
      replace hbr := hd hbr
      replace hlen8 := hd hlen8
      have hw : (FW < 0 ∧ resW v 0 ns = 77) ∨ (¬ FW < 0 ∧ resW v 0 ns = FW) := by
        by_cases h : FW < 0
        · exact .inl ⟨h, hfr.1 h⟩
        · exact .inr ⟨h, hfr.2 (by omega)⟩
      rcases hcase with ⟨t0, t1⟩ | ⟨t0, t1, t2, t3⟩ <;> rcases hw with ⟨e1, e2⟩ | ⟨e1, e2⟩
      all_goals
        first
          | (have u1 : decide (FW < 0) = true := by simpa using e1)
          | (have u1 : decide (FW < 0) = false := by simpa using e1)
        go_wp2_with (fail)
        refine str_callC hT1.out ?_
        refine hM.out _ hbr.out _ ?_
        intro cap bs bx bc To' w7 hb7 hbx hbs hbc hlive hkw
        have hB7 := hbr.out.trans (hb7.mono hbr.out.size)
        have hz7 := hB7.size
        have hbxl := hlive.row.lt
        have hbcl := hlive.cel.lt
        have hneA : w7.heap.size ≠ bc := by omega
        have hlA := hlive.below ((Below.refl _ w7).alloc (Nat.le_refl _) (.cells #[.int .i64 v] 3))
        have hcall := hd (fun R' => chTold (R := R') w.heap.size (w7.alloc (.cells #[.int .i64 v] 3)) hok hlA hkw (by omega) (by omega) (by simp; omega) (inp1 allocCells hneA) hvb)
        replace hB7 := hd hB7
        clear hb7 hlive hlA hkw
        go_wp2_with (fail)
        refine hcall.out _ ?_
        intro w8 go b8 g0 g1 cp
        rw [e2] at g0
        have B8 : Below w.heap.size w w8 := (hB7.out.alloc hz7 (.cells #[.int .i64 v] 3)).trans b8
        have hz8 : w.heap.size ≤ w8.heap.size := B8.size
        replace B8 := hd B8
        clear hcall b8 hB7
        go_wp2
        go_loopw [15, 16] (fun lv iv wq => ∃ q : Nat, q ≤ ns.length ∧ iv = .int .i64 (q : Int) ∧ lv = .int .i64 (resI v (rvp 0 [] (ns.take q))) ∧ wq = w8) (fun _ iv _ => ns.length - (intOf iv).toNat)
        case atStart => exact ⟨0, Nat.zero_le _, rfl, rfl, rfl⟩
        case round =>
          obtain ⟨q, hq, rfl, rfl, rfl⟩ := hrel
          by_cases hlt : q < ns.length
          · have hkr : q < raw.length := by have := hnl.out; omega
            have hk8 : q < 8 := by have := hlen8.out; omega
            have tr1 : decide ((q : Int) < (raw.length : Int)) = true := by simp; omega
            have tr2 : decide ((q : Int) < 8) = true := by simp; omega
            obtain ⟨y, hy⟩ : ∃ y, raw[q]? = some y := ⟨_, List.getElem?_eq_getElem hkr⟩
            have hyb := hraw.out y (List.mem_of_getElem? hy)
            have hny := hnx.out q y hlt hy
            have pb := pick_bd y 10 (by omega)
            obtain ⟨n, hn⟩ : ∃ n : Int, pickV y 10 = n + 3 := ⟨pickV y 10 - 3, by omega⟩
            rw [hn, show n + 3 - 3 = n by omega] at hny
            have en : n + 3 - 3 = n := by omega
            have hnb : -3 ≤ n ∧ n ≤ 6 := by omega
            rcases hrx.out with ⟨gg, oo, rfl, hgn, hgc⟩ | hnil
            · have c1 : w.cell? ⟨gg, oo + q, none⟩ = some (.int .i64 y) := hgc q y hy
              have hgw : gg < w.heap.size := World.block_lt_of_cell? w ⟨gg, oo + q, none⟩ c1
              have c2 : wr.cell? ⟨gg, oo + q, none⟩ = some (.int .i64 y) := (B8.out.cell (p := ⟨gg, oo + q, none⟩) hgw).trans c1
              have j0 : (0 : Int) ≤ (q : Int) ∧ (q : Int) < (raw.length : Int) := by omega
              have etk : ns.take (q + 1) = ns.take q ++ [n] := by rw [List.take_add_one, hny]; rfl
              have ekl : (ns.take q).length = q := by rw [List.length_take]; omega
              have hrs : rvp 0 [] (ns.take (q + 1)) = (q, n) :: rvp 0 [] (ns.take q) := by rw [etk, rvp_snoc, ekl, Nat.zero_add]
              have ry : n = v → resI v (rvp 0 [] (ns.take (q + 1))) = (q : Int) := fun e => by rw [hrs]; exact if_pos e
              have rn : n ≠ v → resI v (rvp 0 [] (ns.take (q + 1))) = resI v (rvp 0 [] (ns.take q)) := fun e => by rw [hrs]; exact if_neg e
              generalize resI v (rvp 0 [] (ns.take q)) = RQ at *
              replace hn := hd hn
              replace ry := hd ry
              replace rn := hd rn
              clear hgc c1 hny hy etk ekl hrs
              go_wp2_with (fail)
              refine pick_any _ _ _ hyb (by omega) _ ?_
              rw [hn.out]
              by_cases e1' : n = v
              · have u3 : (n == v) = true := by simp [e1']
                have hnew := hd (ry.out e1')
                go_wp2
                exact ⟨⟨q + 1, by omega, by go_num, by rw [hnew.out], by first | rfl | trivial⟩, by simp [intOf]; omega⟩
              · have u3 : (n == v) = false := by simpa using e1'
                have hnew := hd (rn.out e1')
                go_wp2
                exact ⟨⟨q + 1, by omega, by go_num, by rw [hnew.out], by first | rfl | trivial⟩, by simp [intOf]; omega⟩
            · rw [hnil] at hkr
              simp at hkr
          · have hkn : ns.take q = ns := List.take_of_length_le (by omega)
            rw [hkn]
            have hcase : (¬ q < raw.length ∧ decide ((q : Int) < (raw.length : Int)) = false) ∨ (q < raw.length ∧ decide ((q : Int) < (raw.length : Int)) = true ∧ ¬ q < 8 ∧ decide ((q : Int) < 8) = false) := by
              have := hnl.out
              by_cases h : q < raw.length
              · exact .inr ⟨h, by simp; omega, by omega, by simp; omega⟩
              · exact .inl ⟨h, by simp; omega⟩
            clear hkn hlt
            generalize hRS : resI v (rvp 0 [] ns) = RS at *
            replace hRS := hd hRS
            rcases hcase with ⟨t0, t1⟩ | ⟨t0, t1, t2, t3⟩
            all_goals
              go_wp2_with (fail)
              refine str_callC hT2.out ?_
              refine hX.out _ B8.out _ ?_
              intro cap' bs' bx' bc' To2 wa hba hbxa hbsa hbca hlive2 hkw2
              have Ba : Below w.heap.size w wa := B8.out.trans (hba.mono B8.out.size)
              have hza : w.heap.size ≤ wa.heap.size := Ba.size
              have hbcl2 := hlive2.cel.lt
              have hneC : wa.heap.size ≠ bc' := by omega
              have hlC := hlive2.below ((Below.refl _ wa).alloc (Nat.le_refl _) (.cells #[.int .i64 v] 3))
              have hcal4 := hd (fun R' => ifTold (R := R') w.heap.size (wa.alloc (.cells #[.int .i64 v] 3)) hpk hlC hkw2 (by omega) (by omega) (by simp; omega) (inp1 allocCells hneC) hvb)
              replace Ba := hd Ba
              clear hba hlive2 hlC hkw2
              go_wp2_with (fail)
              refine hcal4.out _ ?_
              intro wb gb bb gb0 cpb
              rw [hRS.out] at gb0
              have Bb := hd ((Ba.out.alloc hza (.cells #[.int .i64 v] 3)).trans bb)
              clear bb Ba
              go_wp2
              exact cl1 (fin.out _ Bb.out) rfl

end Go.Proofs.YtidhiaaicmfabaaGreatDoor

/- Chosen's row, lifted (seat .ZD alone). -/
namespace Go.Proofs.YtidhiaaicmfabaaGreatDoor
open Go.RowKit Go.Proofs Go.Deep

open Go.ChangeShapes Go.WideShapes Go.ChangeAt
set_option maxRecDepth 100000 in
theorem cn_lifted (os : Os) (started : os.Started) (H : Type) (enc : TypeId × Value → H) :
    ReturnsInHanded {} Tryz.checked os 9 .any (fun w args => (Rows.chosenSpec.pre enc Tryz.prog Tryz.f9 Rows.chosenRow.domain false w args ∧ laidMetH Tryz.prog Rows.chosenRow.laid w) ∧ sizedMet enc Tryz.prog Tryz.f9 (OpenSpec.ofChange Rows.chosenSpec) false w args)
      (Rows.chosenSpec.post enc Tryz.prog Tryz.f9 false true false false) := by
  refine returnsInHanded_of_change_and (C := Tryz.checked) (X := fun w _ => laidMetH Tryz.prog Rows.chosenRow.laid w) (fun _ _ _ hh h => h.of_heap hh) own_knobD started (by kernel_rfl) Tryz.func9
    (ChangeSpec.witness_shaped (enc := enc) (C := Tryz.checked) (os := os) (X := fun w _ => laidMetH Tryz.prog Rows.chosenRow.laid w) false (World.laidAll Tryz.prog os Rows.chosenRow.laid) #[.slice none 0 0, .int .i64 0] 8 (World.laidAll_os _ _ _)
      (World.shaped_of_ZipB (by kernel_rfl) (by kernel_rfl)) (by kernel_rfl) (by kernel_rfl) (by kernel_rfl)
      (by rw [MakeChecks.laidMetH_plain _ _ _ (by kernel_rfl)]; exact laidMet_laidAll _ (by kernel_rfl) (by kernel_rfl))) ?_
  intro W base args ds gs before hval0 hW _ _ hL _
  have hval : ∀ (j : Nat) t v, Tryz.f9.params[j]? = some t → args[j]? = some v → Value.okWide Tryz.prog W .any base t v := hval0
  have hW' := hW
  obtain ⟨p, q, hA0, hV, rfl, _, _⟩ := hW
  have hA : DataW.TrodAll enc Tryz.prog W 0 (fun _ => true) true Tryz.f9.params.toList args.toList ds p := hA0
  rw [Tryz.params9] at hA hval
  obtain ⟨v0, v1, d0, d1, p0, p1, rfl, rfl, rfl, h0, h1⟩ := trodAll_two hA
  obtain ⟨rfl, rfl⟩ := trodVars_none hV
  obtain ⟨a, rfl, rfl, rfl, wa⟩ := open_int Tryz.underlying3 (hval 1 3 v1 rfl rfl) h1
  obtain ⟨l, hin, hl⟩ := inp_of_ints (hval 0 38 v0 rfl rfl) h0
  rw [MakeChecks.laidMetH_plain _ _ _ (by kernel_rfl)] at hL
  have hops := ops_cells hL (.tail _ (.tail _ (.tail _ (.tail _ (.tail _ (.tail _ (.head _)))))))
  clear hA0 hval0
  simp only [List.append_nil] at hW'
  have hlt : ∀ x ∈ p0, x.block < W.heap.size := fun x hx => by simpa using hW'.lt x hx
  refine chosenK_any W hops v0 l W.heap.size hin hl a (wf_i64 wa) _ fun W' hB => ?_
  have hA3 := trodAll_mk2 (Below.trod laidOutZ (by kernel_rfl) (of_decide_eq_true (by kernel_rfl)) h0 hB hlt) (shut_int Tryz.underlying3 wa)
  simp only [List.append_nil] at hA3
  exact ⟨_, rfl, _, _, _, [], p0, [], hW', trodAll_mk1 (shut_bool Tryz.underlying4 _), hA3, rfl, hB.frame _, fun h => by cases h⟩

end Go.Proofs.YtidhiaaicmfabaaGreatDoor
