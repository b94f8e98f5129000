/- The text of Divided and its machine. -/
import Derived.Test.YtidhiaaicmfabaaGreatDoorKaA
import Derived.WalkKit
import Derived.WalkSpells
import Derived.WalkLawsBesides
import Derived.Deep.OwnRows
import Derived.BigQuiet
import Derived.Handy
import Derived.Deep.Light
import Derived.Deep.RegionHeld3
import Derived.Deep.RegionWith
import Derived.Test.YtidhiaaicmfabaaGreatDoorJzF
import Derived.Test.YtidhiaaicmfabaaGreatDoorJyO

/- A run of Divided's machine (seat .ZD alone). -/
namespace Go.Proofs.YtidhiaaicmfabaaGreatDoor
open Go.RowKit Go.Proofs Go.Deep

section
variable {K : Rc}
theorem st_endZ {i : Nat} {C : Nat → Int} {Lf : List Int} {S : List Int} (h : K.op i = 0) : stepK K ⟨C, Lf, (i : Int), false⟩ S = (⟨C, Lf, ((i + 1 : Nat) : Int), true⟩, S, 0) := by
  unfold stepK doesK doesV pushS
  simp [h, popsOf, pushesOf]
theorem run_stepZ {f : Nat} {q q' : Sc} {S S' : List Int} {dn : Int} (ho : q.ov = false) (h : stepK K q S = (q', S', 0)) : runK K (f + 1) q S dn = runK K f q' S' (dn + 1) := by
  simp only [runK]
  rw [h]
  simp [ho]
theorem run_overZ {f : Nat} {q : Sc} {S : List Int} {dn : Int} (ho : q.ov = true) : runK K (f + 1) q S dn = (q, dn, 0) := by
  simp only [runK]
  simp [ho]
end
theorem w32_id {x : Int} (h : in32 x) : wrap32 x = x := by unfold in32 at h; unfold wrap32; omega
end Go.Proofs.YtidhiaaicmfabaaGreatDoor

/- Divided's text is a right text (seat .ZD alone). -/
namespace Go.Proofs.YtidhiaaicmfabaaGreatDoor
open Go.RowKit Go.Proofs Go.Deep

theorem low1 (c : UInt8) (h1 : 97 ≤ c.toNat) (h2 : c.toNat ≤ 122) : LowName ⟨#[c]⟩ := by
  have e : bt ⟨#[c]⟩ 0 = c.toNat := rfl
  refine ⟨by show 0 < 1; omega, by show 1 ≤ 12; omega, ?_, fun i hi => ?_⟩
  · rw [e]
    simp only [isLt, Bool.or_eq_true, Bool.and_eq_true, decide_eq_true_eq]
    omega
  · have hi1 : i < 1 := hi
    have : i = 0 := by omega
    subst this
    rw [e]
    omega
end Go.Proofs.YtidhiaaicmfabaaGreatDoor
