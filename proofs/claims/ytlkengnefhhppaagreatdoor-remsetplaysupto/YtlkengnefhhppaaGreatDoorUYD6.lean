import Derived.Test.YtlkengnefhhppaaGreatDoorPDb
import Derived.Test.YtlkengnefhhppaaGreatDoorPYg
set_option linter.unusedVariables false
set_option maxHeartbeats 8000000
set_option maxRecDepth 20000
namespace Go.Proofs.YtlkengnefhhppaaGreatDoor
open Go.RowKit Go.Shelf
section
variable {w w' : World} {vb b : Nat} {g : Nat → Nat} {lv : Value} {c : Cfg} {x : Tps} {sw : Bool} {ws ws0 : Nat → Int} {th : List Tng} {l : List Int}
theorem r6List_any (H : Dx w vb b g lv c x sw ws th l) (hl : l.length ≤ 4294967296) : Calls Tryz.prog 33 #[.pointer (some ⟨vb, 0, none⟩)] w fun e w' => ∃ v', e = .returned v' ∧ w'.ownsRow w.heap.size 3 1 v' l.length (ints l) ∧ Below w.heap.size w w' := by
 have k1 : w.cell? ⟨vb, 1, none⟩ = some lv := H.cell 1
 have Hrd : Hid (Lrd w.heap.size w lv .i64 l) := Lrd.of_row H.row
 obtain ⟨i0, hi0, hj0, hj1, hj2⟩ := info_parts Tryz.infoInt
 have HI : Hid (Tryz.prog.info? 3 = some i0 ∧ i0.zero = some (.int .i64 0) ∧ i0.size = 1 ∧ i0.bytes = 8) := ⟨hi0, hj0, hj1, hj2⟩
 obtain ⟨ad, nn, cp, rfl⟩ := row_slice H.row
 clear H hi0 hj0 hj1 hj2
 go_enter Tryz.func33, Tryz.ntmps33
 go_wp2_with (at_builtin; refine wpList_append_copy rfl _ _ 32 rfl .i64 3 i0 8 Tryz.underlying32 HI.out.1 HI.out.2.1 HI.out.2.2.1 HI.out.2.2.2 (by decide) rfl (.slice ad nn cp) l _ rfl Hrd.out hl ?_)
 intro v' w2 hown hbel
 go_wp2
 go_ret
 exact ⟨_, rfl, hown, hbel⟩
end
end Go.Proofs.YtlkengnefhhppaaGreatDoor
