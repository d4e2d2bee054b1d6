/-
  There, Place, Places.
-/
import Derived.Test.YtfihjmoaibmllaaDoorPYa
set_option linter.unusedVariables false
set_option maxRecDepth 20000
namespace Go.Proofs.YtfihjmoaibmllaaDoor
open Go.RowKit Go.Shelf

/-- The cells of a thing of a lay. -/
theorem Ly.thing {n1 : Nat} {w : World} {lb : Nat} {c : Cfg} {L : List LT} (h : Ly n1 w lb c L) {i : Nat} {T : LT} (hT : L[i]? = some T) : ∃ q off cap q' off' cap', w.cell? ⟨lb, 14, none⟩ = some (.slice (some ⟨q, off, none⟩) L.length cap) ∧ w.cell? ⟨lb, 15, none⟩ = some (.slice (some ⟨q', off', none⟩) L.length cap') ∧ (∀ j, j < 11 → w.cell? ⟨q, off + i * 11 + j, none⟩ = T.cells[j]?) ∧ w.cell? ⟨q', off' + i, none⟩ = some (.int .i64 T.at_) ∧ q < n1 ∧ q' < n1 ∧ L.length ≤ cap' := by
  obtain ⟨v, h1, a, cap, rfl, h2⟩ := h.things
  obtain ⟨u, h3, a', cap', h4, hcp, h5⟩ := h.ats
  obtain ⟨-, -, -, q, off, rfl, h7, h8⟩ := h2 i T hT
  obtain ⟨q', off', rfl, h9, h10⟩ := h5 i T.at_ (by rw [List.getElem?_map, hT]; rfl)
  rw [List.length_map] at h4 hcp
  subst h4
  exact ⟨q, off, cap, q', off', cap', h1, h3, h8, h10, h7, h9, hcp⟩

theorem Ly.lens {n1 : Nat} {w : World} {lb : Nat} {c : Cfg} {L : List LT} (h : Ly n1 w lb c L) : ∃ a cap a' cap', w.cell? ⟨lb, 14, none⟩ = some (.slice a L.length cap) ∧ w.cell? ⟨lb, 15, none⟩ = some (.slice a' L.length cap') := by
  obtain ⟨v, h1, a, cap, rfl, h2⟩ := h.things
  obtain ⟨u, h3, a', cap', h4, -, h5⟩ := h.ats
  rw [List.length_map] at h4
  subst h4
  exact ⟨a, cap, a', cap', h1, h3⟩

theorem thr_low {L : List LT} {z : Int} (h : z < 1 ∨ (L.length : Int) < z) : thr L z = false := by
  cases e : thr L z
  · rfl
  · obtain ⟨T, hT⟩ := thr_iff.1 e
    obtain ⟨h1, h2, -⟩ := ob_some.1 hT
    have := (List.getElem?_eq_some_iff.1 h2).1
    omega

theorem thr_at {L : List LT} {i : Nat} {T : LT} (h : L[i]? = some T) : thr L ((i : Int) + 1) = decide (0 < T.at_ ∧ T.fill = 0) := by
  have e : ((i : Int) + 1 - 1).toNat = i := by omega
  unfold thr ob
  rw [if_pos (by omega), e, h]
  by_cases hh : 0 < T.at_ ∧ T.fill = 0
  · simp [Option.filter, hh]
  · simp [Option.filter, hh]

set_option maxHeartbeats 4000000 in
theorem there_any {n1 : Nat} {w : World} {lb : Nat} {c : Cfg} {L : List LT} (h : Ly n1 w lb c L) (hlen : L.length ≤ 400) (z : Int) (hz : InI z) :
    Calls Tryd.prog 11 #[.pointer (some ⟨lb, 0, none⟩), .int .i64 z] w fun e w' => e = .returned (.bool (thr L z)) ∧ Below w.heap.size w w' := by
  by_cases h1 : z < 1
  · rw [thr_low (.inl h1)]
    have g1 : decide (1 ≤ z) = false := by simp; omega
    clear h
    go_enter Tryd.func11, Tryd.ntmps11
    go_wp2
    go_ret
    exact ⟨rfl, by go_grown⟩
  · obtain ⟨a, cap, a', cap', k14, k15⟩ := h.lens
    by_cases h2 : (L.length : Int) < z
    · rw [thr_low (.inr h2)]
      have g1 : decide (1 ≤ z) = true := by simp; omega
      have g2 : decide (z ≤ (L.length : Int)) = false := by simp; omega
      clear h
      go_enter Tryd.func11, Tryd.ntmps11
      go_wp2
      go_ret
      exact ⟨rfl, by go_grown⟩
    · obtain ⟨i, rfl⟩ : ∃ i : Nat, z = (i : Int) + 1 := ⟨(z - 1).toNat, by omega⟩
      have hi : i < L.length := by omega
      have hT : L[i]? = some (L[i]'hi) := List.getElem?_eq_getElem hi
      generalize L[i]'hi = T at hT
      obtain ⟨q, off, cap2, q', off', cap2', l14, l15, hc, ka, -, -, hcp⟩ := h.thing hT
      have kf : w.cell? ⟨q, off + i * 11 + 10, none⟩ = some (.int .i64 T.fill) := hc 10 (by decide)
      rw [thr_at hT]
      generalize L.length = N at *
      clear h hT hc k14 k15 a cap a' cap'
      generalize T.at_ = A at *
      generalize T.fill = F at *
      by_cases hA : 0 < A
      · by_cases hF : F = 0
        · subst hF
          go_enter Tryd.func11, Tryd.ntmps11
          go_wp2
          go_ret
          exact ⟨by simp, by go_grown⟩
        · have hF' : (F == 0) = false := by simpa using hF
          go_enter Tryd.func11, Tryd.ntmps11
          go_wp2
          go_ret
          exact ⟨by simp, by go_grown⟩
      · have hA' : decide (A > 0) = false := by simpa using hA
        go_enter Tryd.func11, Tryd.ntmps11
        go_wp2
        go_ret
        exact ⟨by simp, by go_grown⟩

end Go.Proofs.YtfihjmoaibmllaaDoor
