/-
  The document's own tenure: New, Threshold, Turn.
-/
import Derived.Test.YtdcmpilgfkaamaaDoorT8
set_option linter.unusedVariables false
set_option maxRecDepth 20000
namespace Go.Proofs.YtdcmpilgfkaamaaDoor
open Go.RowKit

/-- The document's tenure in block b: what is wanted, the greatest, all thresholds; F: its blocks. -/
structure Tr (w : World) (base b : Nat) (wa : Int) (mo : Nat) (L : List Int) (F : List Nat) : Prop where
  row : ∃ v : Value, w.heap[b]? = some (.cells #[.int .i64 wa, .int .i64 mo, v] 67 (0, 0)) ∧ base ≤ b ∧ w.ownsRow base 3 1 v L.length (ints L) ∧ F = b :: v.ownBlock.toList
  w0 : 0 ≤ wa
  w1 : wa ≤ 65536
  m0 : 1 ≤ mo
  m1 : mo ≤ 15
  l0 : L ≠ []

theorem Tr.mem {w : World} {base b : Nat} {wa : Int} {mo : Nat} {L : List Int} {F : List Nat} (h : Tr w base b wa mo L F) : ∀ k, k ∈ F → base ≤ k ∧ k < w.heap.size := by
  obtain ⟨v, hh, hb, hr, rfl⟩ := h.row
  intro k hk
  rcases List.mem_cons.1 hk with rfl | hk
  · exact ⟨hb, heap_lt hh⟩
  · exact hr.lt k (by simpa using hk)

theorem Tr.keep {w w' : World} {base b : Nat} {wa : Int} {mo : Nat} {L : List Int} {F G : List Nat} (h : Tr w base b wa mo L F) (ht : Touch G w w') (ha : Apart F G) : Tr w' base b wa mo L F := by
  obtain ⟨v, hh, hb, hr, rfl⟩ := h.row
  refine ⟨⟨v, ?_, hb, row_keep2 hr ht (fun k hk => ha k (by simp [hk])), rfl⟩, h.w0, h.w1, h.m0, h.m1, h.l0⟩
  rw [ht.block b (heap_lt hh) (ha b (by simp))]; exact hh

theorem Tr.nil {w w' : World} {base b : Nat} {wa : Int} {mo : Nat} {L : List Int} {F : List Nat} (h : Tr w base b wa mo L F) (hb : Below w.heap.size w w') : Tr w' base b wa mo L F := h.keep (Touch.of_below hb []) (fun k _ h => by cases h)

theorem ownsRow_succ {w : World} {base n e s : Nat} {v : Value} {xs : List Value} (h : w.ownsRow base e s v (n + 1) xs) : ∃ g cap, v = .slice (some ⟨g, 0, none⟩) (n + 1) cap := by
  rcases h.2 with ⟨_, h0⟩ | ⟨g, cap, cur, rfl, _⟩
  · omega
  · exact ⟨g, cap, rfl⟩

theorem row_cell {w : World} {base n e : Nat} {v : Value} {zs : List Int} (h : w.ownsRow base e 1 v n (ints zs)) (j : Nat) (x : Int) (hj : zs[j]? = some x) : ∃ g cap, v = .slice (some ⟨g, 0, none⟩) n cap ∧ w.cell? ⟨g, j, none⟩ = some (.int .i64 x) := by
  have hjl := (List.getElem?_eq_some_iff.1 hj).1
  have hl : zs.length = n := by simpa using h.1
  rcases h.2 with ⟨rfl, h0⟩ | ⟨g, cap, cur, rfl, _⟩
  · omega
  · refine ⟨g, cap, rfl, ?_⟩
    rw [h.cellAt _ (by omega)]; simp [hj]

theorem isnext_ex (wa : Int) (ws : Nat → Int) : ∀ m, ∃ r, IsNext wa (m + 1) ws r
  | 0 => ⟨1, Nat.le_refl _, Nat.le_refl _, fun a h1 h2 => by omega, .inl rfl⟩
  | m + 1 => by
    obtain ⟨r, h⟩ := isnext_ex wa ws m
    by_cases h1 : wa < psum ws r
    · exact ⟨r, h.lo, by have := h.hi; omega, h.below, .inr h1⟩
    · have h2 : r = m + 1 := h.own.resolve_right h1
      subst h2
      refine ⟨m + 1 + 1, by omega, Nat.le_refl _, fun a h3 h4 => ?_, .inl rfl⟩
      by_cases h5 : a = m + 1
      · subst h5; omega
      · exact h.below a h3 (by omega)

set_option maxHeartbeats 4000000 in
theorem rnew_no (s t m : Int) (h : ¬ May s t m) (w : World) :
    Calls Tryd.prog 17 #[.int .i64 s, .int .i64 t, .int .i64 m] w fun e w' => e = .returned (.tuple #[.pointer none, .int .i64 70]) ∧ w = w' := by
  have HH : Hid (¬ May s t m) := h
  clear h
  go_enter Tryd.func17, Tryd.ntmps17
  go_upto_region 1 with fail
  by_cases c1 : s < 1
  · go_wp2; go_ret2; exact ⟨rfl, rfl⟩
  by_cases c2 : 65536 < s
  · go_wp2; go_ret2; exact ⟨rfl, rfl⟩
  by_cases c3 : t < 1
  · go_wp2; go_ret2; exact ⟨rfl, rfl⟩
  by_cases c4 : 100 < t
  · go_wp2; go_ret2; exact ⟨rfl, rfl⟩
  by_cases c5 : m < 1
  · go_wp2; go_ret2; exact ⟨rfl, rfl⟩
  by_cases c6 : 15 < m
  · go_wp2; go_ret2; exact ⟨rfl, rfl⟩
  exact absurd ⟨by omega, by omega, by omega, by omega, by omega, by omega⟩ HH.out

set_option maxHeartbeats 4000000 in
theorem rnew_yes (s t : Int) (m : Nat) (h : May s t m) (w : World) :
    Calls Tryd.prog 17 #[.int .i64 s, .int .i64 t, .int .i64 m] w fun e w' => ∃ b F, e = .returned (.tuple #[.pointer (some ⟨b, 0, none⟩), .int .i64 0]) ∧ Tr w' w.heap.size b (wan s t) m [(m : Int)] F ∧ Below w.heap.size w w' := by
  obtain ⟨h1, h2, h3, h4, h5, h6⟩ := h
  obtain ⟨q1, q2, q3, q4⟩ := wan_bd s t h1 h2 h3 h4
  have c1 : decide (s < 1) = false := by simp; omega
  have c2 : decide (65536 < s) = false := by simp; omega
  have c3 : decide (t < 1) = false := by simp; omega
  have c4 : decide (100 < t) = false := by simp; omega
  have c5 : decide ((m : Int) < 1) = false := by simp; omega
  have c6 : decide (15 < (m : Int)) = false := by simp; omega
  have HQ : Hid (0 ≤ wan s t ∧ wan s t ≤ 65536) := ⟨q1, q2⟩
  clear q1 q2 h1 h2 h3 h4
  go_enter Tryd.func17, Tryd.ntmps17
  go_wp2
  go_ret2
  refine ⟨_, _, rfl, ⟨⟨_, heap_alloc2_new w _ _, by omega, ?_, rfl⟩, HQ.out.1, HQ.out.2, by omega, by omega, by simp⟩, (two_blocks w _ _).2.2⟩
  exact (World.ownsRow_lit w #[.int .i64 (m : Int)] 1 (Nat.le_refl _) (by decide) rfl).alloc _

set_option maxHeartbeats 2000000 in
theorem rthreshold_any {w : World} {base b : Nat} {wa : Int} {mo : Nat} {L : List Int} {F : List Nat} (H : Tr w base b wa mo L F) (x : Int) (hx : L[L.length - 1]? = some x) (hlen : L.length < 1000000) :
    Calls Tryd.prog 7 #[.pointer (some ⟨b, 0, none⟩)] w fun e w' => e = .returned (.int .i64 x) ∧ Below w.heap.size w w' := by
  obtain ⟨v, hh, hb, hr, rfl⟩ := H.row
  obtain ⟨g, cap, rfl, hc⟩ := row_cell hr _ _ hx
  have hc2 := heap_cell hh 2
  simp only [List.getElem?_toArray, List.getElem?_cons_zero, List.getElem?_cons_succ] at hc2
  have hl : 1 ≤ L.length := by have := H.l0; cases L <;> simp_all
  clear hr hh hx H
  obtain ⟨n, hn⟩ : ∃ n, L.length = n + 1 := ⟨L.length - 1, by omega⟩
  rw [hn] at hc hc2 hlen
  rw [Nat.add_sub_cancel] at hc
  have hi : ((n + 1 : Nat) : Int) - 1 = n := by omega
  clear hl hn
  go_enter Tryd.func7, Tryd.ntmps7
  go_wp2_with fail
  go_quiet (fail)
  go_wp2
  go_ret
  exact ⟨rfl, Touch.below (Touch.drewN [] w nq) (Nat.le_refl _) (fun k hk => by cases hk)⟩

end Go.Proofs.YtdcmpilgfkaamaaDoor
