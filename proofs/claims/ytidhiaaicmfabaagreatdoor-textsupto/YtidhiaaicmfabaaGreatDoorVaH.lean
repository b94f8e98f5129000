/- Texts of every text whose bulk is at most 1048576 answers true: Compile answers as the document does; where it is OK, its image is right, of the inputs and outputs that are declared, and not too long for its cost; the input reads as it did. Conditions: the row's own (the bulk; the listed package variables start as the text lays them). -/
import Derived.Test.YtidhiaaicmfabaaGreatDoorCards
import Derived.Test.YtidhiaaicmfabaaGreatDoorTie
import Derived.Test.YtidhiaaicmfabaaGreatDoorVaF
import Derived.Test.YtidhiaaicmfabaaGreatDoorVaG
namespace Go.Proofs.YtidhiaaicmfabaaGreatDoor
open Go.RowKit Go.Proofs Go.Deep
set_option maxRecDepth 100000
set_option maxHeartbeats 4000000
open Go.ChangeShapes Go.WideShapes Go.ChangeAt
theorem B3Q:Rows.TextsUptoSaid:=
 OpenClaim.holds_of_cond 3 Tryz.f3 rfl rfl rfl rfl rfl rfl rfl ⟨rfl,rfl,rfl,rfl,rfl⟩ rfl rfl rfl rfl rfl (by kernel_rfl) Tryz.func3 B2e
  (of_decide_eq_true (by kernel_rfl)) (by unfold Func.isWrapper;first|(rw[if_pos (by decide+kernel)];kernel_rfl)|(rw[if_neg (by decide+kernel)];exact⟨rfl,rfl⟩))
  (fun c a H b _ F=>B0v c a H b F)
theorem texts_holds:Rows.TextsUptoCardSaid:=
 Claim7.holds_tied_plain_at .later [] _ _ _ _ B3Q (fun _ h=>by cases h) (by kernel_rfl) (fun _ h=>by cases h) textsUpto_row_tie rfl ⟨rfl,rfl⟩ (by kernel_rfl) rfl
  (fun f g e b=>by
   obtain rfl:f=3:=Option.some.inj ((show Tryz.prog.funcNamed "sluice/sluicelaw.Texts" =some 3 by kernel_rfl).symm.trans e) |>.symm;obtain rfl:g=Tryz.f3:=(Option.some.inj (Tryz.func3.symm.trans b)).symm;exact⟨by kernel_rfl,fun j t c=>by rw[Tryz.params3] at c;have d:t∈[9]:=(by simpa using Array.mem_of_getElem? c);have a:([9].all fun u=> !Tryz.prog.wantsStandIn u)=true:=(by kernel_rfl);exact (show Tryz.prog.wantsStandIn t=false by simpa using List.all_eq_true.1 a t d)⟩)
  (by kernel_rfl)
end Go.Proofs.YtidhiaaicmfabaaGreatDoor
