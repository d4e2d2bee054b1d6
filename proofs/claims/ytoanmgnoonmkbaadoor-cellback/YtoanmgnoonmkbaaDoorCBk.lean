/-
  CellBack: what the walk needs.
-/
import Derived.Test.YtoanmgnoonmkbaaDoorCTurn
import Derived.Test.YtoanmgnoonmkbaaDoorCKn
set_option linter.unusedVariables false
namespace Go.Proofs.YtoanmgnoonmkbaaDoor
open Go.RowKit

set_option maxHeartbeats 400000 in
theorem among_any (a n : Int) (ha : -9223372036854775808 ≤ a ∧ a ≤ 9223372036854775807) (hn : 0 < n) (hn' : n ≤ 9223372036854775807) (w : World) :
    Calls Tryd.prog 29 #[.int .i64 a, .int .i64 n] w fun e w' => ∃ r, e = .returned (.int .i64 r) ∧ 0 ≤ r ∧ r < n ∧ w = w' := by
  obtain ⟨a0, a1⟩ := ha
  by_cases c : a < 0
  · go_enter Tryd.func29, Tryd.ntmps29
    go_wp2
    go_ret
    refine ⟨_, rfl, ?_, ?_, rfl⟩
    · rw [← Int.neg_tmod, Int.tmod_eq_emod_of_nonneg (by omega)]
      exact Int.emod_nonneg _ (by omega)
    · rw [← Int.neg_tmod, Int.tmod_eq_emod_of_nonneg (by omega)]
      exact Int.emod_lt_of_pos _ hn
  · go_enter Tryd.func29, Tryd.ntmps29
    go_wp2
    go_ret
    refine ⟨_, rfl, ?_, ?_, rfl⟩
    · exact Int.emod_nonneg _ (by omega)
    · exact Int.emod_lt_of_pos _ hn

theorem wrd_wd {k p r a t : Int} {h : Bool} (m : May k p r a t) : Wd (wrd k p r a t h) := by
  obtain ⟨h1, h2, h3, h4, h5, h6, h7, h8, h9, h10, h11, h12⟩ := m
  unfold wrd
  cases h <;> simp <;> omega

theorem parts_wrd {k p r a t : Int} {h : Bool} (m : May k p r a t) : kdOf (wrd k p r a t h) = k ∧ ptOf (wrd k p r a t h) = p ∧ rwOf (wrd k p r a t h) = r ∧ agOf (wrd k p r a t h) = a ∧ stOf (wrd k p r a t h) = t ∧ hdOf (wrd k p r a t h) = h ∧ wrd k p r a t h % 4 = 1 ∧ wrd k p r a t h / 70368744177664 % 262144 = 0 := by
  obtain ⟨h1, h2, h3, h4, h5, h6, h7, h8, h9, h10, h11, h12⟩ := m
  unfold kdOf ptOf rwOf agOf stOf hdOf
  cases h
  · have e : wrd k p r a t false = 1 + 4 * k + 64 * a + 1024 * t + 262144 * p + 1073741824 * r := by unfold wrd; simp
    rw [e]
    refine ⟨by omega, by omega, by omega, by omega, by omega, ?_, by omega, by omega⟩
    rw [decide_eq_false]
    omega
  · have e : wrd k p r a t true = 1 + 4 * k + 32 + 64 * a + 1024 * t + 262144 * p + 1073741824 * r := by unfold wrd; simp
    rw [e]
    refine ⟨by omega, by omega, by omega, by omega, by omega, ?_, by omega, by omega⟩
    rw [decide_eq_true]
    omega

theorem head_wrd {k p r a t : Int} {h : Bool} (m : May k p r a t) : IsHead (wrd k p r a t h) := by
  obtain ⟨e1, e2, e3, e4, e5, e6, e7, e8⟩ := parts_wrd (h := h) m
  refine ⟨e7, e8, ?_⟩
  rw [e1, e2, e3, e4, e5]
  exact m.flt

theorem unpack_wrd {k p r a t : Int} {h : Bool} (m : May k p r a t) (w : World) (hL : Laid w) :
    Calls Tryd.prog 9 #[.int .u64 (wrd k p r a t h)] w fun e w' => e = .returned (.tuple #[hv 0 k p r a t h, .bool true]) ∧ Below w.heap.size w w' := by
  have hu := unpack_yes _ (wrd_wd m) (head_wrd m (h := h)) w hL
  obtain ⟨e1, e2, e3, e4, e5, e6, e7, e8⟩ := parts_wrd (h := h) m
  rw [e1, e2, e3, e4, e5, e6] at hu
  exact hu

theorem siz_wrd {k p r a t : Int} {h : Bool} (m : May k p r a t) : siz (wrd k p r a t h) = 2 + p + r := by
  obtain ⟨e1, e2, e3, e4, e5, e6, e7, e8⟩ := parts_wrd (h := h) m
  unfold siz
  rw [if_pos (head_wrd m), e2, e3]

theorem wage_wrd {k p r a t x : Int} {h : Bool} (m : May k p r a t) (m' : May k p r x t) : wage (wrd k p r a t h) x = wrd k p r x t h := by
  obtain ⟨e1, e2, e3, e4, e5, e6, e7, e8⟩ := parts_wrd (h := h) m
  unfold wage
  rw [if_pos (head_wrd m), e1, e2, e3, e5, e6, trn_ok m'.flt]

theorem wheld_wrd {k p r a t : Int} {h x : Bool} (m : May k p r a t) : wheld (wrd k p r a t h) x = wrd k p r a t x := by
  obtain ⟨e1, e2, e3, e4, e5, e6, e7, e8⟩ := parts_wrd (h := h) m
  unfold wheld
  rw [if_pos (head_wrd m), e1, e2, e3, e4, e5, trn_ok m.flt]

theorem wkind_wrd {k p r a t x : Int} {h : Bool} (m : May k p r a t) (m' : May x p r a t) : wkind (wrd k p r a t h) x = wrd x p r a t h := by
  obtain ⟨e1, e2, e3, e4, e5, e6, e7, e8⟩ := parts_wrd (h := h) m
  unfold wkind
  rw [if_pos (head_wrd m), e2, e3, e4, e5, e6, trn_ok m'.flt]

theorem wkind_no {k p r a t x : Int} {h : Bool} (m : May k p r a t) (m' : (x = 2 ∧ p < 1) ∨ (x = 3 ∧ p < 2)) : wkind (wrd k p r a t h) x = wrd k p r a t h := by
  obtain ⟨e1, e2, e3, e4, e5, e6, e7, e8⟩ := parts_wrd (h := h) m
  unfold wkind
  rw [if_pos (head_wrd m), e2, e3, e4, e5, e6, trn_no]
  rw [flt_kind (by omega)]
  decide

theorem tg_in {c n : Int} (h0 : 1 ≤ n) (h1 : n ≤ 1099511627776) (c0 : 0 ≤ c) (c1 : c < 4) : tg c n = n * 4 + c := by
  unfold tg
  rw [if_neg (by omega)]

theorem tg_tag {c n : Int} (h0 : 1 ≤ n) (h1 : n ≤ 1099511627776) (c0 : 0 ≤ c) (c1 : c < 4) : IsTag c (tg c n) := by
  rw [tg_in h0 h1 c0 c1]
  exact ⟨by omega, by omega, by omega⟩

theorem tn_tg {c n : Int} (h0 : 1 ≤ n) (h1 : n ≤ 1099511627776) (c0 : 0 ≤ c) (c1 : c < 4) : tn c (tg c n) = n := by
  unfold tn
  rw [if_pos (tg_tag h0 h1 c0 c1), tg_in h0 h1 c0 c1]
  omega

theorem tg_wd {c n : Int} (h0 : 1 ≤ n) (h1 : n ≤ 1099511627776) (c0 : 0 ≤ c) (c1 : c < 4) : Wd (tg c n) := by
  rw [tg_in h0 h1 c0 c1]
  exact ⟨by omega, by omega⟩

theorem wage_tg {n : Int} (h0 : 1 ≤ n) (h1 : n ≤ 1099511627776) (x : Int) : wage (tg 2 n) x = tg 2 n := by
  unfold wage
  rw [if_neg]
  intro h
  have := h.1
  rw [tg_in h0 h1 (by decide) (by decide)] at this
  omega

end Go.Proofs.YtoanmgnoonmkbaaDoor
