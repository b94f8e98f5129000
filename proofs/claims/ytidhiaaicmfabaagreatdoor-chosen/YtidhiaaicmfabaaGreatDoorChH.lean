/- Chosen of every row of numbers and every number answers true: of a CASE with up to eight branches the first that has the number is done, the ELSE if none has it, and IFs in one another say the same. No condition but the row's own: the listed package variables start as the text lays them. -/
import Derived.Test.YtidhiaaicmfabaaGreatDoorKaA
import Derived.WalkKit
import Derived.WalkSpells
import Derived.WalkLawsBesides
import Derived.Deep.OwnRows
import Derived.BigQuiet
import Derived.Handy
import Derived.Deep.Light
import Derived.Deep.RegionHeld3
import Derived.Deep.RegionWith
import Derived.Test.YtidhiaaicmfabaaGreatDoorCards
import Derived.Test.YtidhiaaicmfabaaGreatDoorTie
import Derived.Test.YtidhiaaicmfabaaGreatDoorJcF
import Derived.Test.YtidhiaaicmfabaaGreatDoorChG
import Derived.SevenTiedAt
namespace Go.Proofs.YtidhiaaicmfabaaGreatDoor
open Go.RowKit Go.Proofs Go.Deep

open Go.ChangeShapes Go.WideShapes Go.ChangeAt
theorem cn_said : Rows.ChosenSaid :=
  OpenClaim.holds_of_wide 9 Tryz.f9 rfl rfl rfl rfl rfl rfl rfl ⟨rfl, rfl, rfl, rfl, rfl⟩ rfl rfl rfl rfl rfl (by kernel_rfl) Tryz.func9 cn_facts
    (of_decide_eq_true (by kernel_rfl)) (by unfold Func.isWrapper; first | (rw [if_pos (by decide +kernel)]; kernel_rfl) | (rw [if_neg (by decide +kernel)]; exact ⟨rfl, rfl⟩))
    (fun os started H enc _ => cn_lifted os started H enc)
theorem chosen_holds : Rows.ChosenCardSaid :=
  Claim7.holds_tied_plain_at .later [] _ _ _ _ cn_said (fun _ h => by cases h) (by kernel_rfl) (fun _ h => by cases h) chosen_row_tie rfl ⟨rfl, rfl⟩ (by kernel_rfl) rfl
    (fun f fn hf hfn => by
      obtain rfl : f = 9 := Option.some.inj ((show Tryz.prog.funcNamed "sluice/sluicekeep.Chosen" = some 9 by kernel_rfl).symm.trans hf) |>.symm
      obtain rfl : fn = Tryz.f9 := (Option.some.inj (Tryz.func9.symm.trans hfn)).symm
      exact ⟨by kernel_rfl, fun j t ht => by
        rw [Tryz.params9] at ht
        have hm : t ∈ [38, 3] := by simpa using Array.mem_of_getElem? ht
        have hall : ([38, 3].all fun u => !Tryz.prog.wantsStandIn u) = true := by kernel_rfl
        exact (show Tryz.prog.wantsStandIn t = false by simpa using List.all_eq_true.1 hall t hm)⟩)
    (by kernel_rfl)

end Go.Proofs.YtidhiaaicmfabaaGreatDoor
