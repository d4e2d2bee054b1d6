import Derived.Test.YtckgcpoheodbcaaDoorPCa
import Derived.Deep.Cut
/-
  The document's own answer for heads.
-/
set_option linter.unusedVariables false
namespace Go.Proofs.YtckgcpoheodbcaaDoor
open Go.RowKit

set_option maxHeartbeats 1000000 in
theorem rcheck_bad (s k p r a t : Int) (h : Bool) (hk : k < 1 ∨ 4 < k ∨ (k = 2 ∧ p < 1) ∨ (k = 3 ∧ p < 2)) (w : World) :
    Calls Tryd.prog 69 #[hv s k p r a t h] w fun e w' => e = .returned (.int .i64 20) ∧ w' = w.alloc (.cells (hcells s k p r a t h) 104) := by
  rcases hk with c | c | ⟨rfl, c⟩ | ⟨rfl, c⟩
  all_goals
    go_enter Tryd.func69, Tryd.ntmps69
    go_wp2
    go_ret
    exact ⟨rfl, rfl⟩

structure Good (k p : Int) : Prop where
  h : ¬ (k < 1 ∨ 4 < k ∨ (k = 2 ∧ p < 1) ∨ (k = 3 ∧ p < 2))

set_option maxHeartbeats 1000000 in
theorem rcheck_good (s k p r a t : Int) (h : Bool) (hk : ¬ (k < 1 ∨ 4 < k ∨ (k = 2 ∧ p < 1) ∨ (k = 3 ∧ p < 2))) (w : World) :
    Calls Tryd.prog 69 #[hv s k p r a t h] w fun e w' => e = .returned (.int .i64 (flt k p r a t)) ∧ w' = w.alloc (.cells (hcells s k p r a t h) 104) := by
  generalize hf : flt k p r a t = f
  have hg : Good k p := ⟨hk⟩
  obtain rfl | rfl | ⟨rfl, hp⟩ | ⟨rfl, hp⟩ : k = 1 ∨ k = 4 ∨ (k = 2 ∧ 1 ≤ p) ∨ (k = 3 ∧ 2 ≤ p) := by omega
  all_goals
    clear hk
    go_enter Tryd.func69, Tryd.ntmps69
    go_upto_region 3 with fail
    by_cases c0 : p < 0
    · first
      | (exfalso; omega)
      | (go_wp2
         go_ret
         refine ⟨?_, rfl⟩
         rw [← hf, flt_ptrs hg.h (by omega)]
         rfl)
    by_cases c1 : 4095 < p
    · go_wp2
      go_ret
      refine ⟨?_, rfl⟩
      rw [← hf, flt_ptrs hg.h (by omega)]
      rfl
    by_cases c2 : r < 0
    · go_wp2
      go_ret
      refine ⟨?_, rfl⟩
      rw [← hf, flt_raws hg.h (by omega) (by omega)]
      rfl
    by_cases c3 : 65535 < r
    · go_wp2
      go_ret
      refine ⟨?_, rfl⟩
      rw [← hf, flt_raws hg.h (by omega) (by omega)]
      rfl
    by_cases c4 : a < 0
    · go_wp2
      go_ret
      refine ⟨?_, rfl⟩
      rw [← hf, flt_age hg.h (by omega) (by omega) (by omega)]
      rfl
    by_cases c5 : 15 < a
    · go_wp2
      go_ret
      refine ⟨?_, rfl⟩
      rw [← hf, flt_age hg.h (by omega) (by omega) (by omega)]
      rfl
    by_cases c6 : t < 0
    · go_wp2
      go_ret
      refine ⟨?_, rfl⟩
      rw [← hf, flt_site hg.h (by omega) (by omega) (by omega) (by omega)]
      rfl
    by_cases c7 : 255 < t
    · go_wp2
      go_ret
      refine ⟨?_, rfl⟩
      rw [← hf, flt_site hg.h (by omega) (by omega) (by omega) (by omega)]
      rfl
    go_wp2
    go_ret
    refine ⟨?_, rfl⟩
    rw [← hf, flt_ok hg.h (by omega) (by omega) (by omega) (by omega)]
    rfl

theorem rcheck_any (s k p r a t : Int) (h : Bool) (w : World) :
    Calls Tryd.prog 69 #[hv s k p r a t h] w fun e w' => e = .returned (.int .i64 (flt k p r a t)) ∧ w' = w.alloc (.cells (hcells s k p r a t h) 104) := by
  by_cases hk : k < 1 ∨ 4 < k ∨ (k = 2 ∧ p < 1) ∨ (k = 3 ∧ p < 2)
  · rw [flt_kind hk]
    exact rcheck_bad s k p r a t h hk w
  · exact rcheck_good s k p r a t h hk w

end Go.Proofs.YtckgcpoheodbcaaDoor

/-
  The document's own answer: Pack, Unpack, Size.
-/
set_option linter.unusedVariables false
namespace Go.Proofs.YtckgcpoheodbcaaDoor
open Go.RowKit

set_option maxHeartbeats 1000000 in
theorem rpack_any (s k p r a t : Int) (h : Bool) (w : World) :
    Calls Tryd.prog 55 #[hv s k p r a t h] w fun e w' => e = .returned (.tuple #[.int .u64 (pck k p r a t h), .int .i64 (flt k p r a t)]) ∧ Below w.heap.size w w' := by
  by_cases hf : flt k p r a t = 0
  · have hp : pck k p r a t h = wrd k p r a t h := by unfold pck; rw [if_pos hf]
    have hfa := rcheck_any s k p r a t h (w.alloc (.cells (hcells s k p r a t h) 104))
    obtain ⟨h1, h2, h3, h4, h5, h6, h7, h8, h9, h10, h11, h12⟩ := May.of hf
    clear h3 h4
    rw [hf] at hfa ⊢
    rw [hp]
    clear hf hp
    have hw : wrd k p r a t h = ((((((r * 4096 + p) * 256 + t) * 16 + a) * 2 + (if h then 1 else 0)) * 8 + k) * 4 + 1) := by
      unfold wrd
      cases h <;> simp <;> omega
    rw [hw]
    clear hw
    have hb : Below w.heap.size w ((w.alloc (.cells (hcells s k p r a t h) 104)).alloc (.cells (hcells s k p r a t h) 104)) := by go_grown
    cases h
    all_goals
      go_enter Tryd.func55, Tryd.ntmps55
      go_wp2_with fail
      refine hfa.mono ?_
      rintro e w' ⟨rfl, rfl⟩
      go_wp2
      go_ret2
      refine ⟨?_, hb⟩
      simp
  · have hp : pck k p r a t h = 0 := by unfold pck; rw [if_neg hf]
    have hfa := rcheck_any s k p r a t h (w.alloc (.cells (hcells s k p r a t h) 104))
    rw [hp]
    generalize flt k p r a t = f at hf hfa ⊢
    go_enter Tryd.func55, Tryd.ntmps55
    go_wp2_with fail
    refine hfa.mono ?_
    rintro e w' ⟨rfl, rfl⟩
    go_wp2
    go_ret2
    refine ⟨rfl, ?_⟩
    go_grown

end Go.Proofs.YtckgcpoheodbcaaDoor

