/- The closed facts of Chosen's row (seat .ZD alone). -/
import Derived.Test.YtidhiaaicmfabaaGreatDoorKaA
import Derived.WalkKit
import Derived.WalkSpells
import Derived.WalkLawsBesides
import Derived.Deep.OwnRows
import Derived.BigQuiet
import Derived.Handy
import Derived.Deep.Light
import Derived.Deep.RegionHeld3
import Derived.Deep.RegionWith
import Derived.Test.YtidhiaaicmfabaaGreatDoorRows
import Derived.ProofKit
import Derived.OpenShut
import Derived.Stop.Joined
namespace Go.Proofs.YtidhiaaicmfabaaGreatDoor
open Go.RowKit Go.Proofs Go.Deep

open Go.ChangeShapes Go.WideShapes Go.ChangeAt
/-- The closed facts of Chosen's row. -/
theorem cn_facts : joinedFacts Tryz.prog 9 Tryz.f9 Rows.chosenSpec Rows.chosenRow = true := by kernel_rfl

end Go.Proofs.YtidhiaaicmfabaaGreatDoor
