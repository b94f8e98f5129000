/- Texts (its parts, joined). -/
import Derived.Test.YtidhiaaicmfabaaGreatDoorTqAD
import Derived.Deep.RegionHeld3
import Derived.Deep.RegionWith
import Derived.Test.YtidhiaaicmfabaaGreatDoorRows
import Derived.ProofKit
import Derived.OpenShut
import Derived.Stop.Joined
import Derived.JoinedCond
namespace Go.Proofs.YtidhiaaicmfabaaGreatDoor
open Go.RowKit Go.Proofs Go.Deep
set_option maxRecDepth 100000
set_option maxHeartbeats 4000000
open Go.ChangeShapes Go.WideShapes Go.ChangeAt
theorem B2e:joinedFacts Tryz.prog 3 Tryz.f3 (Rows.OpenSpec.upto Rows.textsSpec).bare Rows.textsUptoRow=true:=by kernel_rfl
end Go.Proofs.YtidhiaaicmfabaaGreatDoor
