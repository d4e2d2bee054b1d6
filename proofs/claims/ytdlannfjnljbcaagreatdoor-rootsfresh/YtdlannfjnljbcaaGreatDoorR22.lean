/-
  same, place, known.
-/
import Derived.Test.YtdlannfjnljbcaaGreatDoorR21
set_option linter.unusedVariables false
namespace Go.Proofs.YtdlannfjnljbcaaGreatDoor
open Go.RowKit

theorem own_is {w : World} {base n : Nat} {v : Value} {xs : List Int} (h : w.ownsRow base 3 1 v n (ints xs)) : SliceIs w.heap.size w v xs := by
  have hl : xs.length = n := by simpa using h.1
  subst hl
  rcases h.2 with ⟨rfl, h0⟩ | ⟨g, cap, cur, rfl, hb, hg, rest⟩
  · exact .inl ⟨rfl, List.eq_nil_of_length_eq_zero h0⟩
  · refine .inr ⟨g, 0, cap, rfl, heap_lt hg, fun j x hj => ?_⟩
    have := (List.getElem?_eq_some_iff.1 hj).1
    rw [Nat.zero_add, h.cellAt _ (by omega)]
    simp [hj]

theorem is_slice {n0 : Nat} {w : World} {v : Value} {xs : List Int} (h : SliceIs n0 w v xs) : ∃ a cap, v = .slice a xs.length cap ∧ ∀ j x, xs[j]? = some x → ∃ b off, a = some ⟨b, off, none⟩ ∧ w.cell? ⟨b, off + j, none⟩ = some (.int .i64 x) := by
  rcases h with ⟨rfl, rfl⟩ | ⟨b, off, cap, rfl, _, hc⟩
  · exact ⟨none, 0, rfl, fun j x h => by simp at h⟩
  · exact ⟨_, _, rfl, fun j x h => ⟨b, off, rfl, hc j x h⟩⟩

theorem is_keep {w w' : World} {v : Value} {xs : List Int} (h : SliceIs w.heap.size w v xs) (hb : Below w.heap.size w w') : SliceIs w'.heap.size w' v xs := by
  rcases h with h | ⟨b, off, cap, e, hlt, hc⟩
  · exact .inl h
  · exact .inr ⟨b, off, cap, e, Nat.lt_of_lt_of_le hlt hb.size, fun j x hj => (hb.cell (p := ⟨b, off + j, none⟩) hlt).trans (hc j x hj)⟩

set_option maxRecDepth 20000 in
set_option maxHeartbeats 1000000 in
theorem same_any (va vb : Value) (xs ys : List Int) (w : World) (ha : SliceIs w.heap.size w va xs) (hb : SliceIs w.heap.size w vb ys) (hx : xs.length < 9223372036854775807) :
    Calls Tryz.prog 15 #[va, vb] w fun e w' => e = .returned (.bool (decide (xs = ys))) ∧ ∃ nq, w' = w.drewN nq := by
  obtain ⟨a, ca, rfl, ha'⟩ := is_slice ha
  obtain ⟨b, cb, rfl, hb'⟩ := is_slice hb
  clear ha hb
  by_cases hl : xs.length = ys.length
  · have h1 : ((xs.length : Int) == (ys.length : Int)) = true := by simp [hl]
    have Hl : Hid (xs.length = ys.length) := hl
    have Ha : Hid (∀ j x, xs[j]? = some x → ∃ b off, a = some ⟨b, off, none⟩ ∧ w.cell? ⟨b, off + j, none⟩ = some (.int .i64 x)) := ha'
    have Hb : Hid (∀ j x, ys[j]? = some x → ∃ b_1 off, b = some ⟨b_1, off, none⟩ ∧ w.cell? ⟨b_1, off + j, none⟩ = some (.int .i64 x)) := hb'
    clear ha' hb' hl
    go_enter Tryz.func15, Tryz.ntmps15
    go_wp2
    go_loopw [5] (fun i wr => ∃ (k q : Nat), k ≤ xs.length ∧ i = .int .i64 k ∧ wr = w.drewN q ∧ Hid (xs.take k = ys.take k)) (fun i _ => xs.length - (intOf i).toNat)
    case atStart => exact ⟨0, 0, Nat.zero_le _, rfl, rfl, by show xs.take 0 = ys.take 0; simp⟩
    case round =>
      obtain ⟨k, q, hk, rfl, rfl, hp⟩ := hrel
      by_cases hlt : k < xs.length
      · obtain ⟨x, hx1⟩ : ∃ x, xs[k]? = some x := ⟨_, List.getElem?_eq_getElem hlt⟩
        obtain ⟨y, hy1⟩ : ∃ y, ys[k]? = some y := ⟨_, List.getElem?_eq_getElem (by have := Hl.out; omega)⟩
        obtain ⟨g1, o1, e1, c1⟩ := Ha.out k x hx1
        obtain ⟨g2, o2, e2, c2⟩ := Hb.out k y hy1
        subst e1 e2
        have hki : (k : Int) < (xs.length : Int) := by omega
        have hki2 : (k : Int) < (ys.length : Int) := by have := Hl.out; omega
        by_cases e : x = y
        · subst e
          have hp2 : Hid (xs.take (k + 1) = ys.take (k + 1)) := by show xs.take (k + 1) = ys.take (k + 1); rw [← take_snoc' hx1, ← take_snoc' hy1, hp.out]
          clear hx1 hy1
          go_wp2
          go_quiet (fail)
          go_wp2
          go_roundw
          case rel => exact ⟨k + 1, _, hlt, by go_num, rfl, hp2⟩
          case measure => simp [intOf]; omega
        · have h2 : (x == y) = false := by simpa using e
          have hd : Hid (decide (xs = ys) = false) := by
            show decide (xs = ys) = false
            rw [decide_eq_false]
            rintro rfl
            rw [hx1] at hy1
            exact e (by simpa using hy1)
          clear hx1 hy1
          go_wp2
          go_quiet (fail)
          go_wp2
          go_ret
          exact ⟨by rw [hd.out]; rfl, q + nq, World.drewN_drewN _ _ _⟩
      · obtain rfl : k = xs.length := by omega
        have hd : Hid (decide (xs = ys) = true) := by
          show decide (xs = ys) = true
          rw [decide_eq_true]
          have h3 := hp.out
          rw [List.take_length, Hl.out, List.take_length] at h3
          exact h3
        go_wp2
        go_ret
        exact ⟨by rw [hd.out]; rfl, _, rfl⟩
  · have h1 : ((xs.length : Int) == (ys.length : Int)) = false := by simp; omega
    have e : decide (xs = ys) = false := by
      rw [decide_eq_false]; rintro rfl; exact hl rfl
    rw [e]
    clear ha' hb' hl e
    go_enter Tryz.func15, Tryz.ntmps15
    go_wp2
    go_ret
    exact ⟨rfl, 0, rfl⟩

/-- A number brought among n. -/
def plc (a n : Int) : Int := if a < 0 then (-(a + 1)) % n else a % n

theorem place_any (a : Int) (n : Nat) (hn : 0 < n) (hn2 : n < 1000) (ha : -9223372036854775808 ≤ a ∧ a < 9223372036854775808) (w : World) :
    Calls Tryz.prog 20 #[.int .i64 a, .int .i64 n] w fun e w' => e = .returned (.int .i64 (plc a n)) ∧ w = w' := by
  have hnz : ¬ ((n : Int) = 0) := by omega
  have hz : ((n : Int) == 0) = false := by simpa using hnz
  unfold plc
  by_cases h : a < 0
  · rw [if_pos h]
    have e : (-(a + 1)) % (n : Int) = -((a + 1).tmod (n : Int)) := by rw [← Int.neg_tmod]; exact (Int.tmod_eq_emod_of_nonneg (by omega)).symm
    rw [e]
    clear e
    have hb : -9223372036854775808 ≤ a + 1 ∧ a + 1 < 9223372036854775808 := by omega
    have hb2 : -9223372036854775808 ≤ -(a + 1) ∧ -(a + 1) < 9223372036854775808 := by omega
    go_enter Tryz.func20, Tryz.ntmps20
    go_wp2
    go_ret
    exact ⟨rfl, rfl⟩
  · rw [if_neg h]
    go_enter Tryz.func20, Tryz.ntmps20
    go_wp2
    go_ret
    exact ⟨rfl, rfl⟩

theorem plc_lt (a : Int) (n : Nat) (hn : 0 < n) : 0 ≤ plc a n ∧ plc a n < n := by
  unfold plc
  split
  · exact ⟨Int.emod_nonneg _ (by omega), Int.emod_lt_of_pos _ (by omega)⟩
  · exact ⟨Int.emod_nonneg _ (by omega), Int.emod_lt_of_pos _ (by omega)⟩

/-- What is made may be. -/
theorem sta0_ok {T most H : Nat} (h1 : 1 ≤ T) (h2 : T ≤ 8) (h3 : 1 ≤ most) (h4 : most ≤ 4096) (h5 : H ≤ 1024) : (sta0 T most H).Ok :=
  ⟨h1, h2, h3, h4, by simpa [sta0] using h5, fun t ht => by simp [sta0], fun t ht n hn => by simp [sta0] at hn, fun t ht => by simp [sta0], fun t ht x hx => by simp [sta0] at hx, fun x hx => by simp [sta0] at hx, fun x hx => by simp [sta0] at hx⟩

/-- The roots that known makes. -/
def kn1 : Sta := (sta0 2 4 2).pushS 1 2
def kn2 : Sta := kn1.setS 1 1 7
def kn3 : Sta := kn2.openS 5
def kn4 : Sta := kn3.enqS 8

theorem kn_e1 : (sta0 2 4 2).pushE 1 2 = 0 := by decide
theorem kn_e2 : kn1.slotE 1 1 = 0 := by decide
theorem kn_e3 : kn2.openV = 0 := by decide
theorem kn_e4 : kn2.openE = 0 := by decide
theorem kn_all : kn4.all = [7, 5, 8] := by decide

/-- Facts on three cells that were just laid. -/
theorem is_three (w : World) (a b c : Int) : SliceIs (w.alloc (.cells #[.int .i64 a, .int .i64 b, .int .i64 c] 3)).heap.size (w.alloc (.cells #[.int .i64 a, .int .i64 b, .int .i64 c] 3)) (.slice (some ⟨w.heap.size, 0, none⟩) 3 3) [a, b, c] := by
  refine .inr ⟨w.heap.size, 0, 3, rfl, by simp, fun j x hj => ?_⟩
  match j, hj with
  | 0, h | 1, h | 2, h => simp at h; subst h; simp
  | j + 3, h => simp at h

set_option maxRecDepth 20000 in
set_option maxHeartbeats 2000000 in
theorem known_any (w : World) : Calls Tryz.prog 4 #[] w fun e w' => e = .returned (.bool true) ∧ Below w.heap.size w w' := by
  have hnew := new_in 2 4 2 (by decide) (by decide) (by decide) (by decide) (by decide) w
  have ok0 := sta0_ok (T := 2) (most := 4) (H := 2) (by decide) (by decide) (by decide) (by decide) (by decide)
  go_enter Tryz.func4, Tryz.ntmps4
  go_wp2_with fail
  refine hnew.mono ?_
  rintro e w1 ⟨b, F1, rfl, H1, t1⟩
  have hp := push_any w.heap.size b 0 1 2 _ F1 w1 H1 ok0 t1.size
  rw [kn_e1] at hp
  have B1 : Hid (Below w.heap.size w w1) := t1.below (Nat.le_refl _) (fun k h => by cases h)
  clear hnew t1
  go_wp2_with fail
  refine hp.mono ?_
  rintro e w2 ⟨rfl, F2, H2, t2, n2⟩
  have B2 : Hid (Below w.heap.size w w2) := B1.out.trans (t2.below B1.out.size (fun k h => (H1.mem k h).1))
  have ok1 := ok0.pushS 1 2
  have hs := set_any w.heap.size b 0 1 1 7 _ F2 w2 H2 ok1
  rw [show ((sta0 2 4 2).pushS 1 2).slotE 1 1 = 0 from kn_e2] at hs
  clear hp t2 n2 H1 B1
  go_wp2_with fail
  refine hs.mono ?_
  rintro e w3 ⟨rfl, H3, t3⟩
  have B3 : Hid (Below w.heap.size w w3) := B2.out.trans (t3.below B2.out.size (fun k h => (H2.mem k h).1))
  have ok2 := ok1.setS 1 1 7
  have ho := hopen_any w.heap.size b 0 5 _ F2 w3 H3 ok2
  rw [show (((sta0 2 4 2).pushS 1 2).setS 1 1 7).openV = 0 from kn_e3, show (((sta0 2 4 2).pushS 1 2).setS 1 1 7).openE = 0 from kn_e4] at ho
  clear hs t3 H2 B2
  go_wp2_with fail
  refine ho.mono ?_
  rintro e w4 ⟨rfl, H4, t4⟩
  have B4 : Hid (Below w.heap.size w w4) := B3.out.trans (t4.below B3.out.size (fun k h => (H3.mem k h).1))
  have ok3 := ok2.openS 5
  have hq := enqueue_any w.heap.size b 0 8 _ F2 w4 H4 B4.out.size (by decide)
  clear ho t4 H3 B3
  go_wp2_with fail
  refine hq.mono ?_
  rintro e w5 ⟨rfl, F5, H5, t5, n5⟩
  have B5 : Hid (Below w.heap.size w w5) := B4.out.trans (t5.below B4.out.size (fun k h => (H4.mem k h).1))
  have ok4 := ok3.enqS 8
  have ha := all_any w.heap.size b 1 _ F5 w5 H5 ok4 (by decide)
  rw [show ((((sta0 2 4 2).pushS 1 2).setS 1 1 7).openS 5).enqS 8 = kn4 from rfl, kn_all] at ha
  clear hq t5 n5 H4 B4
  go_wp2_with fail
  refine ha.mono ?_
  rintro e w6 ⟨v, rfl, ho6, H6, t6⟩
  have B6 : Hid (Below w.heap.size w w6) := B5.out.trans (t6.below B5.out.size (fun k h => (H5.mem k h).1))
  obtain ⟨a6, c6, rfl⟩ := own_slice ho6
  have hsa := same_any _ _ [7, 5, 8] [7, 5, 8] (w6.alloc (.cells #[.int .i64 7, .int .i64 5, .int .i64 8] 3)) (own_is (ho6.alloc _)) (is_three w6 7 5 8) (by decide)
  rw [show decide ([7, 5, 8] = ([7, 5, 8] : List Int)) = true from by decide] at hsa
  clear ha t6 H5 B5 H6 ho6
  go_wp2_with fail
  refine hsa.mono ?_
  rintro e w7 ⟨rfl, nq, rfl⟩
  clear hsa
  go_wp2
  go_ret
  exact ⟨rfl, below_drewN (B6.out.alloc B6.out.size _) _⟩

end Go.Proofs.YtdlannfjnljbcaaGreatDoor
