/- Texts (its parts, joined). -/
import Derived.Test.YtidhiaaicmfabaaGreatDoorTqAX
import Derived.Test.YtidhiaaicmfabaaGreatDoorTqAO
namespace Go.Proofs.YtidhiaaicmfabaaGreatDoor
open Go.RowKit Go.Proofs Go.Deep
set_option maxRecDepth 100000
set_option maxHeartbeats 4000000
theorem B6u:Tryz.prog.underlying 315=some (.slice 2):=by kernel_rfl
theorem B1k:(Tryz.prog.info? 2).map (fun i=>(i.zero,i.size,i.bytes))=some (some (.int .i64 0),1,8):=by kernel_rfl
theorem B9S (m:Int):∀x∈[Value.int .i64 m],x.oneCell'=true:=by intro x a;simp only[List.mem_cons,List.not_mem_nil,or_false] at a;subst a;rfl
end Go.Proofs.YtidhiaaicmfabaaGreatDoor
