/-
  BufferMakes: its walk.
-/
import Derived.Test.YtpiemfchjlihfaaBM1
set_option linter.unusedVariables false
set_option maxRecDepth 20000
namespace Go.Proofs.Ytpiemfchjlihfaa
open Go.RowKit

abbrev csm : Cfg := ⟨64, 64, 64, 64, 0, 1, 1, 50, 1, 2, 1, 0, 0, 1⟩

theorem csm_ok : csm.Ok := by constructor <;> decide

theorem small_any (w : World) : Calls Try.prog 6 #[] w fun e w' => e = .returned (cv csm) ∧ Below w.heap.size w w' := by
  go_enter Try.func6, Try.ntmps6
  go_wp2
  go_returns
  exact ⟨rfl, Below.alloc (Below.refl _ _) (Nat.le_refl _) _⟩

theorem makes_no (n s t : Int) (h : ¬ (1 ≤ n ∧ n ≤ 8 ∧ 0 ≤ s ∧ s ≤ 65536)) (w : World) :
    Calls Try.prog 3 #[.int .i64 n, .int .i64 s, .int .i64 t] w fun e w' => e = .returned (.bool true) ∧ Below w.heap.size w w' := by
  have q := bnew_no n s h w
  have b0 : Below w.heap.size w w := Below.refl _ _
  have Hh : Hid (¬ (1 ≤ n ∧ n ≤ 8 ∧ 0 ≤ s ∧ s ≤ 65536)) := h
  clear h
  go_enter Try.func3, Try.ntmps3
  go_wp2_with fail
  refine q.mono ?_
  rintro e9 w1 ⟨rfl, rfl⟩
  clear q
  by_cases h1 : 1 ≤ n
  · by_cases h2 : n ≤ 8
    · by_cases h3 : 0 ≤ s
      · have h4 : ¬ s ≤ 65536 := fun h4 => Hh.out ⟨h1, h2, h3, h4⟩
        go_wp2
        go_returns
        exact ⟨rfl, b0⟩
      · go_wp2
        go_returns
        exact ⟨rfl, b0⟩
    · go_wp2
      go_returns
      exact ⟨rfl, b0⟩
  · go_wp2
    go_returns
    exact ⟨rfl, b0⟩

set_option maxHeartbeats 2000000 in
theorem makes_yes (n s t : Int) (h : 1 ≤ n ∧ n ≤ 8 ∧ 0 ≤ s ∧ s ≤ 65536) (w : World) :
    Calls Try.prog 3 #[.int .i64 n, .int .i64 s, .int .i64 t] w fun e w' => e = .returned (.bool true) ∧ Below w.heap.size w w' := by
  have q := bnew_yes n s h w
  obtain ⟨h1, h2, h3, h4⟩ := h
  go_enter Try.func3, Try.ntmps3
  go_wp2_with fail
  refine q.mono ?_
  rintro e9 w1 ⟨b, rfl, hb, b1, hlo⟩
  have HB : Hid (Bf w1 b (bfs0 n s)) := hb
  have H1 : Hid (Below w.heap.size w w1) := b1
  clear q hb b1 hlo
  have q := small_any w1
  go_wp2_with fail
  refine q.mono ?_
  rintro e9 w2 ⟨rfl, b2⟩
  have q2 := new_yes csm csm_ok w2
  have HB2 : Hid (Bf w2 b (bfs0 n s)) := HB.out.below b2
  have H2 : Hid (Below w.heap.size w w2) := H1.out.trans (b2.mono H1.out.size)
  clear q b2 HB H1
  go_wp2_with fail
  refine q2.mono ?_
  rintro e9 w3 ⟨ab, ag, rfl, hA, b3, -, -⟩
  have HB3 : Hid (Bf w3 b (bfs0 n s)) := HB2.out.below b3
  have H3 : Hid (Below w.heap.size w w3) := H2.out.trans (b3.mono H2.out.size)
  have HA : Hid (Ar w3 ab ag csm (tops0 csm) false (fun _ => 0)) := hA
  clear q2 b3 HB2 H2 hA
  by_cases ht : 0 ≤ t ∧ t < n
  · obtain ⟨m, rfl⟩ : ∃ m : Nat, t = m := ⟨t.toNat, by omega⟩
    have q := brest_yes HB3.out m ht.2
    have hm : (m : Int) < n := ht.2
    have hm0 : 0 ≤ (m : Int) := by omega
    clear ht
    go_wp2_with fail
    refine q.mono ?_
    rintro e9 w4 ⟨rfl, b4⟩
    have q2 := broom_yes (HB3.out.below b4) m hm (HA.out.below b4)
    have H4 : Hid (Below w.heap.size w w4) := H3.out.trans (b4.mono H3.out.size)
    have hmx : max ((bfs0 n s).ws m) (bhd csm 1 - (tops0 csm).top 1) = 64 := by show max (0 : Int) (1 + 64 - 1) = 64; omega
    rw [hmx] at q2
    clear q b4 HB3 H3 HA hmx
    go_wp2_with fail
    refine q2.mono ?_
    rintro e9 w5 ⟨rfl, b5⟩
    have H5 : Hid (Below w.heap.size w w5) := H4.out.trans (b5.mono H4.out.size)
    clear q2 b5 H4
    go_wp2
    go_returns
    exact ⟨rfl, H5.out⟩
  · have q := brest_no HB3.out t ht
    have q2 := broom_no HB3.out t ht (.pointer (some ⟨ab, 0, none⟩))
    go_wp2_with fail
    refine q.mono ?_
    rintro e9 w4 ⟨rfl, rfl⟩
    clear q
    by_cases h5 : 0 ≤ t
    · have h6 : ¬ t < n := fun h => ht ⟨h5, h⟩
      clear ht
      go_wp2_with fail
      refine q2.mono ?_
      rintro e9 w5 ⟨rfl, rfl⟩
      clear q2
      go_wp2
      go_returns
      exact ⟨rfl, H3.out⟩
    · clear ht
      go_wp2_with fail
      refine q2.mono ?_
      rintro e9 w5 ⟨rfl, rfl⟩
      clear q2
      go_wp2
      go_returns
      exact ⟨rfl, H3.out⟩

theorem makes_any (n s t : Int) (w : World) :
    Calls Try.prog 3 #[.int .i64 n, .int .i64 s, .int .i64 t] w fun e w' => e = .returned (.bool true) ∧ Below w.heap.size w w' := by
  by_cases h : 1 ≤ n ∧ n ≤ 8 ∧ 0 ≤ s ∧ s ≤ 65536
  · exact makes_yes n s t h w
  · exact makes_no n s t h w

end Go.Proofs.Ytpiemfchjlihfaa
