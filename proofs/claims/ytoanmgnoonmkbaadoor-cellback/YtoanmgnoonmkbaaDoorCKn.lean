/-
  The statements' own known().
-/
import Derived.Test.YtoanmgnoonmkbaaDoorCTag
set_option linter.unusedVariables false
namespace Go.Proofs.YtoanmgnoonmkbaaDoor
open Go.RowKit

theorem head_known : IsHead 1074273285 := ⟨by decide, by decide, by decide⟩

set_option maxHeartbeats 1000000 in
theorem known2_any (w : World) (hL : Laid w) :
    Calls Tryd.prog 8 #[] w fun e w' => e = .returned (.bool true) ∧ Below w.heap.size w w' := by
  have hp := pack_any 0 1 2 1 0 7 false w hL
  rw [show pck 1 2 1 0 7 false = 1074273285 by decide, show flt 1 2 1 0 7 = 0 by decide] at hp
  go_enter Tryd.func8, Tryd.ntmps8
  go_wp2_with fail
  refine hp.mono ?_
  rintro e w1 ⟨rfl, b1⟩
  have hL1 := hL.keep b1
  have hu := unpack_yes 1074273285 ⟨by decide, by decide⟩ head_known w1 hL1
  rw [show kdOf 1074273285 = 1 by decide, show ptOf 1074273285 = 2 by decide, show rwOf 1074273285 = 1 by decide, show agOf 1074273285 = 0 by decide, show stOf 1074273285 = 7 by decide, show hdOf 1074273285 = false by decide] at hu
  go_wp2_with fail
  refine hu.mono ?_
  rintro e w2 ⟨rfl, b2⟩
  have b3 := b1.trans (b2.mono b1.size)
  have hL2 := hL1.keep b2
  clear hp hu b1 b2 hL1
  have b4 := Below.alloc b3 b3.size (.cells (hcells 0 1 2 1 0 7 false) 25)
  have hL3 := hL2.alloc (.cells (hcells 0 1 2 1 0 7 false) 25)
  have hs := size_any 1074273285 ⟨by decide, by decide⟩ _ hL3
  rw [show siz 1074273285 = 5 by unfold siz; rw [if_pos head_known]; decide] at hs
  go_wp2_with fail
  refine hs.mono ?_
  rintro e w3 ⟨rfl, b5⟩
  have b6 := b4.trans (b5.mono b4.size)
  clear hs b5 b4 b3 hL2 hL3
  go_wp2_with fail
  refine (forward_any 5 w3).mono ?_
  rintro e w' ⟨rfl, rfl⟩
  rw [show tg 2 5 = 22 by decide]
  go_wp2_with fail
  refine (filler_any 1 _).mono ?_
  rintro e w' ⟨rfl, rfl⟩
  rw [show tg 3 1 = 7 by decide]
  go_wp2
  go_ret
  exact ⟨rfl, b6⟩

end Go.Proofs.YtoanmgnoonmkbaaDoor
