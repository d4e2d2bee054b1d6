/-
  Images: Hold.
-/
import Derived.Test.YtckgcpoheodbcaaGreatDoorRM14
set_option linter.unusedVariables false
set_option maxRecDepth 20000
namespace Go.Proofs.YtckgcpoheodbcaaGreatDoor
open Go.RowKit Go.Shelf

set_option maxHeartbeats 4000000 in
/-- No mark is written over. -/
theorem roomHold_rg {w : World} {R : Nat} {N : Nat → Nat} {S : RS} (H : Rg w R N S) :
    Calls Tryz.prog 10 #[.pointer (some ⟨R, 0, none⟩)] w fun e w' => e = .returned (.bool true) ∧ Below w.heap.size w w' := by
  have HB0 : Hid (Below w.heap.size w w) := Below.refl _ _
  have HR : Hid (∀ w', Below w.heap.size w w' → Rg w' R N S) := fun w' b' => H.keep (Keeps.below b')
  clear H
  go_enter Tryz.func10, Tryz.ntmps10
  have hc0 := roomHB_nil (w := w) (R := R) ((HR.out w HB0.out).c 0 (by omega))
  go_wp2_with fail
  refine hc0.mono ?_
  rintro e w1 ⟨rfl, b1⟩
  have HB1 : Hid (Below w.heap.size w w1) := HB0.out.trans (b1.mono HB0.out.size)
  clear hc0 b1
  have hc1 := roomHI_rg (HR.out w1 HB1.out)
  go_wp2_with fail
  refine hc1.mono ?_
  rintro e w2 ⟨rfl, b2⟩
  have HB2 : Hid (Below w.heap.size w w2) := HB1.out.trans (b2.mono HB1.out.size)
  clear hc1 b2
  have hc2 := roomHW_rg (HR.out w2 HB2.out)
  go_wp2_with fail
  refine hc2.mono ?_
  rintro e w3 ⟨rfl, b3⟩
  have HB3 : Hid (Below w.heap.size w w3) := HB2.out.trans (b3.mono HB2.out.size)
  clear hc2 b3
  have hc3 := roomHT_nil (w := w3) (R := R) ((HR.out w3 HB3.out).c 3 (by omega))
  go_wp2_with fail
  refine hc3.mono ?_
  rintro e w4 ⟨rfl, b4⟩
  have HB4 : Hid (Below w.heap.size w w4) := HB3.out.trans (b4.mono HB3.out.size)
  clear hc3 b4
  have hc4 := roomHO_nil (w := w4) (R := R) ((HR.out w4 HB4.out).c 4 (by omega))
  go_wp2_with fail
  refine hc4.mono ?_
  rintro e w5 ⟨rfl, b5⟩
  have HB5 : Hid (Below w.heap.size w w5) := HB4.out.trans (b5.mono HB4.out.size)
  clear hc4 b5
  have hc5 := roomHL_rg (HR.out w5 HB5.out)
  go_wp2_with fail
  refine hc5.mono ?_
  rintro e w6 ⟨rfl, b6⟩
  have HB6 : Hid (Below w.heap.size w w6) := HB5.out.trans (b6.mono HB5.out.size)
  clear hc5 b6
  have hc6 := roomHF_rg (HR.out w6 HB6.out)
  go_wp2_with fail
  refine hc6.mono ?_
  rintro e w7 ⟨rfl, b7⟩
  have HB7 : Hid (Below w.heap.size w w7) := HB6.out.trans (b7.mono HB6.out.size)
  clear hc6 b7
  have hc7 := roomHJ_rg (HR.out w7 HB7.out)
  go_wp2_with fail
  refine hc7.mono ?_
  rintro e w8 ⟨rfl, b8⟩
  have HB8 : Hid (Below w.heap.size w w8) := HB7.out.trans (b8.mono HB7.out.size)
  clear hc7 b8
  go_wp2
  go_ret
  exact ⟨rfl, HB8.out⟩

end Go.Proofs.YtckgcpoheodbcaaGreatDoor
