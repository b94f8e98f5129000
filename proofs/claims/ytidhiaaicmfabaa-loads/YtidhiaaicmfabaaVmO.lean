/- Loads answers true at every image. -/
import Derived.Test.YtidhiaaicmfabaaMem
import Derived.Test.YtidhiaaicmfabaaSpec
import Derived.Test.YtidhiaaicmfabaaRefA
import Derived.Test.YtidhiaaicmfabaaRefC
import Derived.Test.YtidhiaaicmfabaaSpec2
import Derived.WalkKit
import Derived.WalkSpells
import Derived.WalkLawsBesides
import Derived.Deep.OwnRows
import Derived.BigQuiet
import Derived.Handy
import Derived.Deep.Light
import Derived.Deep.RegionHeld3
import Derived.Deep.RegionWith
import Derived.Test.YtidhiaaicmfabaaVmM
import Derived.Test.YtidhiaaicmfabaaVmN
import Derived.Test.YtidhiaaicmfabaaRefF
namespace Go.Proofs.Ytidhiaaicmfabaa
open Go.RowKit Go.Proofs Go.Deep

set_option maxHeartbeats 1000000 in
theorem loads_any (w : World) (s : ByteArray) (hs : s.size ≤ maxLen) (R : Ending → World → Prop) (fin : ∀ w', Below w.heap.size w w' → R (.returned (.bool true)) w') :
    Calls Try.prog 3 #[.string s] w R := by
  replace fin := hd fin
  go_enter Try.func3, Try.ntmps3
  go_wp2_with (fail)
  refine loaded_any _ _ ?_
  intro w1 hb1
  replace hb1 := hd hb1
  go_wp2_with (fail)
  refine load_any _ s hs _ ?_ ?_ ?_
  · intro hno w2 hb2
    have hbw2 := hd (bel_step hb1.out (Nat.le_refl _) hb2)
    replace hb2 := hd hb2
    replace hno := hd hno
    go_wp2_with (fail)
    refine read_any _ s hs _ ?_ ?_ ?_
    · intro _ w3 hb3
      have hbw3 := hd (bel_step hbw2.out (Nat.le_refl _) hb3)
      replace hb3 := hd hb3
      go_wp2_with (first | (go_at_call 8; refine num_call _ _ _ ?_))
      exact cl1 (fin.out _ hbw3.out) rfl
    · intro bd h; exact absurd h (hno.out bd)
    · intro bd h; exact absurd h (hno.out bd)
  · intro bd hi hl w2 hb2
    have hbw2 := hd (bel_step hb1.out (Nat.le_refl _) hb2)
    replace hb2 := hd hb2
    replace hi := hd hi
    replace hl := hd hl
    go_wp2_with (fail)
    refine read_any _ s hs _ ?_ ?_ ?_
    · intro h; exact absurd hi.out (h bd)
    · intro bd' _ _ w3 hb3
      have hbw3 := hd (bel_step hbw2.out (Nat.le_refl _) hb3)
      replace hb3 := hd hb3
      go_wp2_with (first | (go_at_call 8; refine num_call _ _ _ ?_))
      exact cl1 (fin.out _ hbw3.out) rfl
    · intro bd' h' hle
      have := img_unique hi.out h'
      have := hl.out
      omega
  · intro bd hi hle w2 bx hb2 hbx hcx
    have hbw2 := hd (bel_step hb1.out (Nat.le_refl _) hb2)
    have hlt : bx < w2.heap.size := World.block_lt_of_cell? w2 _ hcx
    replace hb2 := hd hb2
    replace hi := hd hi
    replace hle := hd hle
    go_wp2_with (fail)
    refine read_any _ s hs _ ?_ ?_ ?_
    · intro h; exact absurd hi.out (h bd)
    · intro bd' h' hl
      have := img_unique hi.out h'
      have := hle.out
      omega
    · intro bd' h' _ w3 by_ hb3 hby hcy
      have e := img_unique hi.out h'
      subst e
      have hcx3 : w3.cell? ⟨bx, 2, none⟩ = some (.int .i64 bd) := (hb3.cell (p := ⟨bx, 2, none⟩) hlt).trans hcx
      have hbw3 := hd (bel_step hbw2.out (Nat.le_refl _) hb3)
      replace hb3 := hd hb3
      replace h' := hd h'
      go_wp2_with (first | (go_at_call 8; refine num_call _ _ _ ?_) | (go_at_call 9; refine bound_any _ bx bd hcx3 _ ?_))
      exact cl1 (fin.out _ hbw3.out) (by simp)

end Go.Proofs.Ytidhiaaicmfabaa
