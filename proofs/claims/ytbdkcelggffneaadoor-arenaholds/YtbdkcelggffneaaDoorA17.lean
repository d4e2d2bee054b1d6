/-
  The statements' known().
-/
import Derived.Test.YtbdkcelggffneaaDoorA16
set_option linter.unusedVariables false
namespace Go.Proofs.YtbdkcelggffneaaDoor
open Go.RowKit Go.Shelf

abbrev csm : Cfg := ⟨64, 64, 100, 40, 30, 2, 1, 50, 3, 1, 16, 4, 0, 1⟩
abbrev cze : Cfg := ⟨0, 0, 0, 0, 0, 0, 0, 0, 0, 0, 0, 0, 0, 0⟩

theorem csm_ok : csm.Ok := by constructor <;> decide
theorem cze_no : ¬ cze.Ok := fun h => by have := h.e0; revert this; decide

set_option maxHeartbeats 1000000 in
theorem small_any (w : World) : Calls Tryd.prog 25 #[] w fun e w' => e = .returned (cv csm) ∧ Below w.heap.size w w' := by
  go_enter Tryd.func25, Tryd.ntmps25
  go_wp2
  go_returns
  refine ⟨rfl, ?_⟩
  go_grown

abbrev wsm : Nat → Int := putw (fun _ => 0) 1 5 (wrd 1 1 2 0 0 false) 7

theorem wsm1 : wat csm wsm 1 = 2147745797 := by decide
theorem wsm2 : wat csm wsm 2 = 7 := by decide

theorem past_sm1 : Past csm wsm 6 1 1 := Past.done (.inr (by rw [wsm1]; decide))
theorem stands_sm : Stands csm wsm 6 1 := by
  unfold Stands osz
  rw [wsm1]
  decide
theorem osz_sm : osz csm wsm 1 = 5 := by
  unfold osz
  rw [wsm1]
  decide
theorem walk_sm : Walk csm wsm 6 1 [1] 6 := Walk.obj (by decide) stands_sm (by rw [osz_sm]; exact Past.done (.inl (by decide))) (Walk.done (by decide))

set_option maxRecDepth 4000 in
set_option maxHeartbeats 4000000 in
theorem known3_any (w : World) (hL : Laid w) :
    Calls Tryd.prog 5 #[] w fun e w' => e = .returned (.bool true) ∧ Below w.heap.size w w' := by
  go_enter Tryd.func5, Tryd.ntmps5
  go_wp2_with fail
  refine (small_any w).mono ?_
  rintro e w1 ⟨rfl, b1⟩
  go_wp2_with fail
  refine (new_yes csm csm_ok w1).mono ?_
  rintro e w2 ⟨b, g, rfl, a2, b2, hb2, hg2⟩
  have b3 := b1.trans (b2.mono b1.size)
  have hb3 : w.heap.size ≤ b := Nat.le_trans b1.size hb2
  have hg3 : w.heap.size ≤ g := Nat.le_trans b1.size hg2
  have hL2 := hL.keep b3
  have hpu := put_yes b g csm (tops0 csm) false (fun _ => 0) 1 7 1 1 2 0 0 false ⟨by decide, by decide⟩ (by decide) 1 5 (by decide) (by decide) (by decide) w2 a2 hL2
  clear b1 b2 hb2 hg2 a2
  have h0 := hL2.lt0
  have h1 := hL2.lt1
  have h0' := hL.lt0
  have h1' := hL.lt1
  go_wp2_with fail
  refine hpu.mono ?_
  rintro e w3 ⟨rfl, a3, t3⟩
  have b4 : Below w.heap.size w w3 := b3.trans (t3.below b3.size (fun q hq => by simp at hq; omega))
  have hL3 := hL.keep b4
  have a3' : Ar w3 b g csm ⟨6, 65, 129, 193⟩ false wsm := a3
  have hob := objects3_any b g csm ⟨6, 65, 129, 193⟩ false wsm 1 [1] 1 6 past_sm1 walk_sm 9 (by decide) (by decide) w3 a3' hL3
  have A3 : Hid (Ar w3 b g csm ⟨6, 65, 129, 193⟩ false wsm) := a3'
  clear hpu a3 a3' t3 b3
  go_wp2_with fail
  refine hob.mono ?_
  rintro e w4 ⟨tb, f, va, vh, rfl, k4, b5⟩
  have a4 := A3.out.below b5
  have b6 := b4.trans (b5.mono b4.size)
  obtain ⟨g1, c1, rfl, y1⟩ := k4.nums.at_ 0 1 rfl
  obtain ⟨g2, c2, rfl, y2⟩ := k4.heads.at_ 0 1 rfl
  have y3 : w4.cell? ⟨g2, 0, none⟩ = some (.int .u64 (wat csm wsm (1 + 1))) := y2 0 (by decide)
  rw [show wat csm wsm (1 + 1) = 7 from wsm2] at y3
  have d0 : w4.cell? ⟨tb, 0, none⟩ = some (.slice (some ⟨g1, 0, none⟩) 1 c1) := (k4.row.cell (i := 0) (by decide)).trans (congrArg some k4.f0)
  have d1 : w4.cell? ⟨tb, 1, none⟩ = some (.slice (some ⟨g2, 0, none⟩) 1 c2) := (k4.row.cell (i := 1) (by decide)).trans (congrArg some k4.f1)
  have hto := top_any b g csm ⟨6, 65, 129, 193⟩ false wsm 1 w4 a4
  rw [show (Tps.mk 6 65 129 193).top 1 = 6 from rfl] at hto
  clear hob A3 b5 y2 k4 a4 b4
  go_wp2_with fail
  refine hto.mono ?_
  rintro e w5 ⟨rfl, b7⟩
  have b8 := b6.trans (b7.mono b6.size)
  clear hto d0 d1 y1 y3 b6 b7
  go_wp2_with fail
  refine (new_no cze cze_no w5).mono ?_
  rintro e w6 ⟨rfl, b9⟩
  have b10 := b8.trans (b9.mono b8.size)
  clear b8 b9
  go_wp2
  go_ret
  exact ⟨rfl, b10⟩

end Go.Proofs.YtbdkcelggffneaaDoor
