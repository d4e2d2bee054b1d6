/-
  Size; what a head's word tells.
-/
import Derived.Test.YtpiemfchjlihfaaGreatDoorPCa
set_option linter.unusedVariables false
namespace Go.Proofs.YtpiemfchjlihfaaGreatDoor
open Go.RowKit

theorem parts_wrd {k p r a t : Int} {h : Bool} (m : May k p r a t) : kdOf (wrd k p r a t h) = k ∧ ptOf (wrd k p r a t h) = p ∧ rwOf (wrd k p r a t h) = r ∧ agOf (wrd k p r a t h) = a ∧ stOf (wrd k p r a t h) = t ∧ hdOf (wrd k p r a t h) = h ∧ wrd k p r a t h % 4 = 1 ∧ wrd k p r a t h / 70368744177664 % 262144 = 0 := by
  obtain ⟨h1, h2, h3, h4, h5, h6, h7, h8, h9, h10, h11, h12⟩ := m
  unfold kdOf ptOf rwOf agOf stOf hdOf
  cases h
  · have e : wrd k p r a t false = 1 + 4 * k + 64 * a + 1024 * t + 262144 * p + 1073741824 * r := by unfold wrd; simp
    rw [e]
    refine ⟨by omega, by omega, by omega, by omega, by omega, ?_, by omega, by omega⟩
    rw [decide_eq_false]
    omega
  · have e : wrd k p r a t true = 1 + 4 * k + 32 + 64 * a + 1024 * t + 262144 * p + 1073741824 * r := by unfold wrd; simp
    rw [e]
    refine ⟨by omega, by omega, by omega, by omega, by omega, ?_, by omega, by omega⟩
    rw [decide_eq_true]
    omega

theorem head_wrd {k p r a t : Int} {h : Bool} (m : May k p r a t) : IsHead (wrd k p r a t h) := by
  obtain ⟨e1, e2, e3, e4, e5, e6, e7, e8⟩ := parts_wrd (h := h) m
  refine ⟨e7, e8, ?_⟩
  rw [e1, e2, e3, e4, e5]
  exact m.flt

/-- P2.7. -/
def siz (m : Int) : Int := if IsHead m then 2 + ptOf m + rwOf m else tn 3 m

set_option maxHeartbeats 1000000 in
theorem size_any (m : Int) (hm : Wd m) (w : World) (hL : Laid w) :
    Calls Tryz.prog 51 #[.int .u64 m] w fun e w' => e = .returned (.int .i64 (siz m)) ∧ Below w.heap.size w w' := by
  by_cases h : IsHead m
  · have e : siz m = 2 + ptOf m + rwOf m := by unfold siz; rw [if_pos h]
    have hu := unpack_yes m hm h w hL
    have p0 : 0 ≤ ptOf m := by unfold ptOf; omega
    have p1 : ptOf m ≤ 4095 := by unfold ptOf; omega
    have r0 : 0 ≤ rwOf m := by unfold rwOf; omega
    have r1 : rwOf m ≤ 65535 := by unfold rwOf; omega
    rw [e]
    clear e h
    generalize kdOf m = k, ptOf m = p, rwOf m = r, agOf m = a, stOf m = t, hdOf m = hh at hu p0 p1 r0 r1 ⊢
    go_enter Tryz.func51, Tryz.ntmps51
    go_wp2_with fail
    refine hu.mono ?_
    rintro e w1 ⟨rfl, b⟩
    go_wp2
    go_ret
    refine ⟨rfl, ?_⟩
    go_grown
    exact b.size
  · have e : siz m = tn 3 m := by unfold siz; rw [if_neg h]
    have hu := unpack_no m hm h w hL
    rw [e]
    clear e h
    go_enter Tryz.func51, Tryz.ntmps51
    go_wp2_with fail
    refine hu.mono ?_
    rintro e w1 ⟨rfl, b⟩
    have hL1 := (hL.keep b).alloc (.cells (hcells 0 0 0 0 0 0 false) 46)
    have b1 := Below.alloc b b.size (.cells (hcells 0 0 0 0 0 0 false) 46)
    go_wp2_with fail
    refine (filled_any m hm _ hL1.b).mono ?_
    rintro e w' ⟨rfl, n, rfl⟩
    generalize (w1.alloc (.cells (hcells 0 0 0 0 0 0 false) 46)) = w2 at *
    go_wp2
    go_ret
    exact ⟨rfl, below_drewN b1 _⟩

end Go.Proofs.YtpiemfchjlihfaaGreatDoor
