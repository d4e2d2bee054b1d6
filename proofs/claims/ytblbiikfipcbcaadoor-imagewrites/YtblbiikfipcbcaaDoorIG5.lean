/-
  Images: slices.Equal.
-/
import Derived.Test.YtblbiikfipcbcaaDoorIG4
set_option linter.unusedVariables false
set_option maxRecDepth 20000
namespace Go.Proofs.YtblbiikfipcbcaaDoor
open Go.RowKit Go.Shelf

set_option maxHeartbeats 1000000 in
/-- slices.Equal of two lists of numbers. -/
theorem slEqual_any (n0 : Nat) (va vb : Value) (xs ys : List Int) (w : World) (ha : Lrd n0 w va .i64 xs) (hb : Lrd n0 w vb .i64 ys) (hx : xs.length < 9223372036854775807) :
    Calls Tryd.prog 85 #[va, vb] w fun e w' => e = .returned (.bool (decide (xs = ys))) ∧ ∃ nq, w' = w.drewN nq := by
  obtain ⟨a, ca, rfl, -, ha'⟩ := ha
  obtain ⟨b, cb, rfl, -, hb'⟩ := hb
  by_cases hl : xs.length = ys.length
  · have h1 : ((xs.length : Int) == (ys.length : Int)) = true := by simp [hl]
    have Hl : Hid (xs.length = ys.length) := hl
    have Ha : Hid (∀ (f : Nat) z, xs[f]? = some z → ∃ q off, a = some ⟨q, off, none⟩ ∧ q < n0 ∧ w.cell? ⟨q, off + f, none⟩ = some (.int .i64 z)) := ha'
    have Hb : Hid (∀ (f : Nat) z, ys[f]? = some z → ∃ q off, b = some ⟨q, off, none⟩ ∧ q < n0 ∧ w.cell? ⟨q, off + f, none⟩ = some (.int .i64 z)) := hb'
    clear ha' hb' hl
    go_enter Tryd.func85, Tryd.ntmps85
    go_wp2
    go_loopw [13] (fun i wr => ∃ (k q : Nat), k ≤ xs.length ∧ i = .int .i64 k ∧ wr = w.drewN q ∧ Hid (xs.take k = ys.take k)) (fun i _ => xs.length - (intOf i).toNat)
    case atStart => exact ⟨0, 0, Nat.zero_le _, rfl, rfl, by show xs.take 0 = ys.take 0; simp⟩
    case round =>
      obtain ⟨k, q, hk, rfl, rfl, hp⟩ := hrel
      by_cases hlt : k < xs.length
      · obtain ⟨x, hx1⟩ : ∃ x, xs[k]? = some x := ⟨_, List.getElem?_eq_getElem hlt⟩
        obtain ⟨y, hy1⟩ : ∃ y, ys[k]? = some y := ⟨_, List.getElem?_eq_getElem (by have := Hl.out; omega)⟩
        obtain ⟨g1, o1, e1, -, c1⟩ := Ha.out k x hx1
        obtain ⟨g2, o2, e2, -, c2⟩ := Hb.out k y hy1
        subst e1 e2
        have hki : (k : Int) < (xs.length : Int) := by omega
        have hki2 : (k : Int) < (ys.length : Int) := by have := Hl.out; omega
        by_cases e : x = y
        · subst e
          have hp2 : Hid (xs.take (k + 1) = ys.take (k + 1)) := by show xs.take (k + 1) = ys.take (k + 1); rw [take_snocL hx1, take_snocL hy1, hp.out]
          clear hx1 hy1
          go_wp2
          go_quiet (fail)
          go_wp2
          go_roundw
          case rel => exact ⟨k + 1, _, hlt, by go_num, rfl, hp2⟩
          case measure => simp [intOf]; omega
        · have h2 : (x == y) = false := by simpa using e
          have hd : Hid (decide (xs = ys) = false) := by
            show decide (xs = ys) = false
            rw [decide_eq_false]
            rintro rfl
            rw [hx1] at hy1
            exact e (by simpa using hy1)
          clear hx1 hy1
          go_wp2
          go_quiet (fail)
          go_wp2
          go_ret
          exact ⟨by rw [hd.out]; rfl, q + nq, World.drewN_drewN _ _ _⟩
      · obtain rfl : k = xs.length := by omega
        have hki : ¬ (xs.length : Int) < (xs.length : Int) := by omega
        have hd : Hid (decide (xs = ys) = true) := by
          show decide (xs = ys) = true
          rw [decide_eq_true]
          have h3 := hp.out
          rw [List.take_length, Hl.out, List.take_length] at h3
          exact h3
        go_wp2
        go_ret
        exact ⟨by rw [hd.out]; rfl, q, rfl⟩
  · have h1 : ((xs.length : Int) == (ys.length : Int)) = false := by simp; omega
    have hd : Hid (decide (xs = ys) = false) := by
      show decide (xs = ys) = false
      rw [decide_eq_false]
      rintro rfl
      exact hl rfl
    go_enter Tryd.func85, Tryd.ntmps85
    go_wp2
    go_ret
    exact ⟨by rw [hd.out]; rfl, 0, rfl⟩

end Go.Proofs.YtblbiikfipcbcaaDoor
