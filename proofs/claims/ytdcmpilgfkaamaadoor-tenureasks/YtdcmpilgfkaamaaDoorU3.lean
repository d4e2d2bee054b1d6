/-
  The document's own tenure: History; sameInts; begin.
-/
import Derived.Test.YtdcmpilgfkaamaaDoorU2
set_option linter.unusedVariables false
set_option maxRecDepth 20000
namespace Go.Proofs.YtdcmpilgfkaamaaDoor
open Go.RowKit

/-- The last sixteen. -/
def last16 (L : List Int) : List Int := L.drop (L.length - 16)

/-- A list of numbers that lies in a row from cell 0 of a block on. -/
def Li (w : World) (base : Nat) (v : Value) (l : List Int) : Prop := ∃ g cap, v = .slice (some ⟨g, 0, none⟩) l.length cap ∧ base ≤ g ∧ ∀ (j : Nat) x, l[j]? = some x → w.cell? ⟨g, j, none⟩ = some (.int .i64 x)

theorem Lone.li {w : World} {k base : Nat} {l : List Int} (h : Lone w k l) (hk : base ≤ k) (cap : Nat) : Li w base (.slice (some ⟨k, 0, none⟩) l.length cap) l :=
  ⟨k, cap, rfl, hk, fun j x hj => by rw [heap_cell h]; simp [ints, hj]⟩

theorem Li.up {w w' : World} {base : Nat} {v : Value} {l : List Int} (h : Li w base v l) (hb : Below w.heap.size w w') (hl : l ≠ []) : Li w' base v l := by
  obtain ⟨g, cap, rfl, hg, hc⟩ := h
  refine ⟨g, cap, rfl, hg, fun j x hj => ?_⟩
  have := hc j x hj
  rw [← this]
  simp [World.cell?, hb.block g (World.block_lt_of_cell? _ _ this)]

theorem sub16 (L : List Int) (k : Nat) (x : Int) (hk : L.length - 16 ≤ k) (hx : L[k]? = some x) : (last16 L).take (k - (L.length - 16)) ++ [x] = (last16 L).take (k + 1 - (L.length - 16)) := by
  obtain ⟨j, rfl⟩ : ∃ j, k = (L.length - 16) + j := ⟨k - (L.length - 16), by omega⟩
  rw [Nat.add_sub_cancel_left, show L.length - 16 + j + 1 - (L.length - 16) = j + 1 by omega, List.take_add_one]
  have : (last16 L)[j]? = some x := by unfold last16; rw [List.getElem?_drop]; exact hx
  rw [this]; rfl

set_option maxHeartbeats 4000000 in
theorem rhistory_any {w : World} {base b : Nat} {wa : Int} {mo : Nat} {L : List Int} {F : List Nat} (H : Tr w base b wa mo L F) (hlen : L.length < 1000000) :
    Calls Tryd.prog 11 #[.pointer (some ⟨b, 0, none⟩)] w fun e w' => ∃ v, e = .returned v ∧ w'.ownsRow w.heap.size 3 1 v (last16 L).length (ints (last16 L)) ∧ Below w.heap.size w w' := by
  obtain ⟨v, hh, hb, hr, rfl⟩ := H.row
  obtain ⟨va, vc, rfl⟩ : ∃ a cap, v = .slice a L.length cap := by
    rcases hr.2 with ⟨rfl, h0⟩ | ⟨g, cap, cur, rfl, _⟩
    · exact ⟨_, _, by rw [h0]⟩
    · exact ⟨_, _, rfl⟩
  obtain ⟨i0, hi, hz0, hz1, hz2⟩ := info_parts Tryd.infoInt
  have HI0 : Hid (Tryd.prog.info? 3 = some i0 ∧ i0.zero = some (.int .i64 0) ∧ i0.size = 1 ∧ i0.bytes = 8) := ⟨hi, hz0, hz1, hz2⟩
  clear hi hz0 hz1 hz2
  have Hh : Hid (_ = _) := hh
  have Hr : Hid (w.ownsRow base 3 1 (.slice va L.length vc) L.length (ints L)) := hr
  have c2 := heap_cell hh 2
  simp only [List.getElem?_toArray, List.getElem?_cons_zero, List.getElem?_cons_succ] at c2
  clear hh hr H
  go_enter Tryd.func11, Tryd.ntmps11
  go_wp2
  clear c2
  go_loopw [3, 4] (fun l0 i wr => ∃ l, l = l0 ∧ ∃ k : Int, (L.length : Int) - 16 ≤ k ∧ k ≤ L.length ∧ i = .int .i64 k ∧ (∃ n, n = ((last16 L).take (k.toNat - (L.length - 16))).length ∧ wr.ownsRow w.heap.size 3 1 l n (ints ((last16 L).take (k.toNat - (L.length - 16))))) ∧ Below w.heap.size w wr) (fun _ i _ => ((L.length : Int) - intOf i).toNat)
  case atStart =>
    refine ⟨_, rfl, (L.length : Int) - 16, Int.le_refl _, by omega, rfl, ⟨0, ?_, ?_⟩, Below.refl _ _⟩
    · rw [show ((L.length : Int) - 16).toNat - (L.length - 16) = 0 by omega]; rfl
    · rw [show ((L.length : Int) - 16).toNat - (L.length - 16) = 0 by omega]; exact World.ownsRow_nil _ _ _ _
  case round =>
    obtain ⟨l, hl0, k, hk1, hk2, rfl, ⟨n, hn, hrow⟩, hbel⟩ := hrel
    subst hl0
    have hh2 : wr.heap[b]? = _ := (hbel.block b (heap_lt Hh.out)).trans Hh.out
    have c2 := heap_cell hh2 2
    simp only [List.getElem?_toArray, List.getElem?_cons_zero, List.getElem?_cons_succ] at c2
    have HN : Hid (n = ((last16 L).take (k.toNat - (L.length - 16))).length) := hn
    have HB : Hid (Below w.heap.size w wr) := hbel
    have HRow : Hid (wr.ownsRow w.heap.size 3 1 l n (ints ((last16 L).take (k.toNat - (L.length - 16))))) := hrow
    have hn16 : n ≤ 16 := by rw [hn]; simp [last16]; omega
    clear hh2 hn hbel hrow
    by_cases hlt : k < L.length
    · by_cases h0 : 0 ≤ k
      · obtain ⟨j, rfl⟩ : ∃ j : Nat, k = j := ⟨k.toNat, by omega⟩
        obtain ⟨y, hy⟩ : ∃ y, L[j]? = some y := ⟨_, List.getElem?_eq_getElem (by omega)⟩
        obtain ⟨g, cap, e1, hcy⟩ := row_cell Hr.out j y hy
        simp only [Value.slice.injEq, true_and] at e1
        obtain ⟨rfl, rfl⟩ := e1
        have hcy' : wr.cell? ⟨g, j, none⟩ = some (.int .i64 y) := by
          rw [← hcy]; simp [World.cell?, HB.out.block g (World.block_lt_of_cell? _ _ hcy)]
        have Hys := sub16 L j y (by omega) hy
        have hjl : j < L.length := by omega
        obtain ⟨la, lc, rfl⟩ : ∃ a cap, l = .slice a n cap := by
          rcases HRow.out.2 with ⟨rfl, h0⟩ | ⟨g, cap, cur, rfl, _⟩
          · exact ⟨_, _, by rw [h0]⟩
          · exact ⟨_, _, rfl⟩
        have HY : Hid (_ = _) := Hys
        clear hcy hy Hys
        go_wp2_with (at_builtin; refine wpList_append_own_at _ rfl _ _ 29 rfl w.heap.size 3 i0 (.int .i64 0) 1 8 Tryd.underlying29 HI0.out.1 HI0.out.2.1 HI0.out.2.2.1 HI0.out.2.2.2 rfl (by decide) _ _ _ rfl (HRow.out.alloc _) ⟨wr.heap.size, 0, none⟩ 1 1 [.int .i64 y] rfl rfl (cell_one_new _ _ _) (by simp [Value.oneCell']) (by simp [maxLen]; omega) (by omega) (by have := HB.out.size; simp; omega) ?_)
        intro v' w2 hown' hgrow _ hat
        have HB2 : Hid (Below w.heap.size w w2) := HB.out.trans ((Touch.below (F := (Value.slice la n lc).ownBlock.toList) ((Touch.alloc _ wr _).trans (Touch.grown hgrow (fun j hj => by simp [hj]))) HB.out.size (fun k hk => (HRow.out.lt k (by simpa using hk)).1)))
        rw [← List.map_take] at hown'
        have Hown : Hid (w2.ownsRow w.heap.size 3 1 v' (n + 1) (ints ((last16 L).take (j - (L.length - 16))) ++ [.int .i64 y])) := hown'
        clear hown' hgrow hat c2 hcy'
        go_wp2
        go_roundw
        case rel =>
          refine ⟨_, rfl, (j : Int) + 1, by omega, by omega, by go_num, ⟨n + 1, ?_, ?_⟩, HB2.out⟩
          · have := HN.out
            rw [show ((j : Int) + 1).toNat = j + 1 by omega, ← HY.out]
            simp at this ⊢
            omega
          · rw [show ((j : Int) + 1).toNat = j + 1 by omega, ← HY.out]
            have h5 := Hown.out
            simpa [ints] using h5
        case measure => simp [intOf]; omega
      · go_wp2
        go_roundw
        case rel =>
          refine ⟨_, rfl, k + 1, by omega, by omega, by go_num, ⟨n, ?_, ?_⟩, HB.out⟩
          · rw [show (k + 1).toNat = k.toNat by omega]; exact HN.out
          · rw [show (k + 1).toNat = k.toNat by omega]; exact HRow.out
        case measure => simp [intOf]; omega
    · obtain rfl : k = L.length := by omega
      go_wp2
      go_ret
      refine ⟨_, rfl, ?_, HB.out⟩
      have h5 := HRow.out
      have h6 := HN.out
      have h7 : (last16 L).take ((L.length : Int).toNat - (L.length - 16)) = last16 L := by
        apply List.take_of_length_le
        simp [last16]
      rw [h7] at h5 h6
      rw [← h6]
      exact h5

set_option maxHeartbeats 2000000 in
theorem same7_some (b off cap b' off' cap' : Nat) (xs : List Int) (w : World) (hlen : xs.length < 1000000)
    (h1 : ∀ (j : Nat) x, xs[j]? = some x → w.cell? ⟨b, off + j, none⟩ = some (.int .i64 x)) (h2 : ∀ (j : Nat) x, xs[j]? = some x → w.cell? ⟨b', off' + j, none⟩ = some (.int .i64 x)) :
    Calls Tryd.prog 10 #[.slice (some ⟨b, off, none⟩) xs.length cap, .slice (some ⟨b', off', none⟩) xs.length cap'] w fun e w' => e = .returned (.bool true) ∧ ∃ nq, w' = w.drewN nq := by
  have H1 : Hid (∀ (j : Nat) x, xs[j]? = some x → w.cell? ⟨b, off + j, none⟩ = some (.int .i64 x)) := h1
  have H2 : Hid (∀ (j : Nat) x, xs[j]? = some x → w.cell? ⟨b', off' + j, none⟩ = some (.int .i64 x)) := h2
  clear h1 h2
  go_enter Tryd.func10, Tryd.ntmps10
  go_wp2
  go_loopw [5] (fun i wr => ∃ k nq : Nat, k ≤ xs.length ∧ i = .int .i64 k ∧ wr = w.drewN nq) (fun i _ => xs.length - (intOf i).toNat)
  case atStart => exact ⟨0, 0, Nat.zero_le _, rfl, rfl⟩
  case round =>
    obtain ⟨k, nq, hk, rfl, rfl⟩ := hrel
    by_cases hlt : k < xs.length
    · obtain ⟨x, hx⟩ : ∃ x, xs[k]? = some x := ⟨_, List.getElem?_eq_getElem hlt⟩
      have c1 := H1.out k x hx
      have c2 := H2.out k x hx
      have hki : (k : Int) < xs.length := by omega
      clear hx
      go_wp2_with fail
      go_quiet (fail)
      go_wp2
      go_roundw
      case rel => exact ⟨k + 1, _, hlt, by go_num, rfl⟩
      case measure => simp [intOf]; omega
    · obtain rfl : k = xs.length := by omega
      go_wp2
      go_ret
      exact ⟨rfl, nq, rfl⟩

end Go.Proofs.YtdcmpilgfkaamaaDoor
