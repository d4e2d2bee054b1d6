/-
  The document's arena: an object's words written.
-/
import Derived.Test.YtbdkcelggffneaaGreatDoorB13
set_option linter.unusedVariables false
set_option maxRecDepth 20000
namespace Go.Proofs.YtbdkcelggffneaaGreatDoor
open Go.RowKit Go.Shelf

section
variable (b : Nat) (g : Nat → Nat) (c : Cfg) (x : Tps) (sw : Bool) (ws : Nat → Int)

set_option maxHeartbeats 2000000 in
theorem rsetPtr_no (a i v : Int) (hno : ¬ (At c x ws a ∧ (0 ≤ i ∧ i < ptOf (wat c ws a)) ∧ (0 ≤ v ∧ v < c.words))) (hw : Wd (wat c ws a)) (w : World) (hA : Ra w b g c x sw ws) :
    Calls Tryz.prog 67 #[.pointer (some ⟨b, 0, none⟩), .int .i64 a, .int .i64 i, .int .i64 v] w fun e w' => e = .returned (.bool false) ∧ Below w.heap.size w w' := by
  by_cases hat : At c x ws a
  · have hh := rhead_at b g c x sw ws a hat hw w hA
    have hno' : ¬ ((0 ≤ i ∧ i < ptOf (wat c ws a)) ∧ (0 ≤ v ∧ v < c.words)) := fun h => hno ⟨hat, h⟩
    have HZ : Hid (∀ w1, Below w.heap.size w w1 → Calls Tryz.prog 44 #[.pointer (some ⟨b, 0, none⟩)] w1 fun e w' => e = .returned (.int .i64 c.words) ∧ w' = w1) := fun w1 l => rsize_any b g c x sw ws w1 (hA.below l)
    unfold hdv at hh
    clear hA hno hat hw
    generalize c.words = cw at *
    generalize wat c ws (a + 1) = m1 at *
    generalize kdOf (wat c ws a) = K at *
    generalize ptOf (wat c ws a) = P at *
    generalize rwOf (wat c ws a) = R at *
    generalize agOf (wat c ws a) = A at *
    generalize stOf (wat c ws a) = U at *
    generalize hdOf (wat c ws a) = H at *
    go_enter Tryz.func67, Tryz.ntmps67
    go_wp2_with fail
    refine hh.mono ?_
    rintro e w1 ⟨rfl, l1⟩
    clear hh
    go_upto_region 2 with fail
    have hY := Box.new w1 31 (.int .u64 m1) (.int .i64 K) (.int .i64 P) (.int .i64 R) (.int .i64 A) (.int .i64 U) (.bool H)
    have l2 := Below.alloc l1 l1.size (.cells (hcells m1 K P R A U H) 31)
    generalize (w1.alloc (.cells (hcells m1 K P R A U H) 31)) = w2 at *
    obtain ⟨y0, y1, y2, y3, y4, y5, y6, -, -, -, -, -, -, -⟩ := hY
    clear l1
    by_cases hi : i < 0
    · clear hno' HZ
      go_wp2
      go_ret
      exact ⟨rfl, l2⟩
    · have hi' : decide (i < 0) = false := decide_eq_false hi
      by_cases hP : P ≤ i
      · clear hno' HZ
        go_wp2
        go_ret
        exact ⟨rfl, l2⟩
      · have hP' : decide (P ≤ i) = false := decide_eq_false hP
        by_cases hv0 : v < 0
        · clear hno' HZ
          go_wp2
          go_ret
          exact ⟨rfl, l2⟩
        · have hv0' : decide (v < 0) = false := decide_eq_false hv0
          have hv1 : cw ≤ v := by omega
          clear hno'
          go_wp2_with fail
          refine (HZ.out w2 l2).mono ?_
          rintro e w3 ⟨rfl, rfl⟩
          clear HZ
          go_wp2
          go_ret
          exact ⟨rfl, l2⟩
  · have hh := rhead_nat b g c x sw ws a hat hw w hA
    clear hA hno hat hw
    go_enter Tryz.func67, Tryz.ntmps67
    go_wp2_with fail
    refine hh.mono ?_
    rintro e w1 ⟨rfl, l1⟩
    clear hh
    have l2 : Hid (Below w.heap.size w (w1.alloc (.cells (hcells 0 0 0 0 0 0 false) 31))) := Below.alloc l1 l1.size _
    clear l1
    go_upto_region 2 with fail
    generalize (w1.alloc (.cells (hcells 0 0 0 0 0 0 false) 31)) = w2 at *
    go_wp2
    go_ret
    exact ⟨rfl, l2.out⟩

set_option maxHeartbeats 2000000 in
theorem rsetRaw_no (a i v : Int) (hno : ¬ (At c x ws a ∧ (0 ≤ i ∧ i < rwOf (wat c ws a)))) (hw : Wd (wat c ws a)) (w : World) (hA : Ra w b g c x sw ws) :
    Calls Tryz.prog 69 #[.pointer (some ⟨b, 0, none⟩), .int .i64 a, .int .i64 i, .int .u64 v] w fun e w' => e = .returned (.bool false) ∧ Below w.heap.size w w' := by
  by_cases hat : At c x ws a
  · have hh := rhead_at b g c x sw ws a hat hw w hA
    have hno' : ¬ ((0 ≤ i ∧ i < rwOf (wat c ws a))) := fun h => hno ⟨hat, h⟩
    unfold hdv at hh
    clear hA hno hat hw
    generalize wat c ws (a + 1) = m1 at *
    generalize kdOf (wat c ws a) = K at *
    generalize ptOf (wat c ws a) = P at *
    generalize rwOf (wat c ws a) = R at *
    generalize agOf (wat c ws a) = A at *
    generalize stOf (wat c ws a) = U at *
    generalize hdOf (wat c ws a) = H at *
    go_enter Tryz.func69, Tryz.ntmps69
    go_wp2_with fail
    refine hh.mono ?_
    rintro e w1 ⟨rfl, l1⟩
    clear hh
    go_upto_region 2 with fail
    have hY := Box.new w1 31 (.int .u64 m1) (.int .i64 K) (.int .i64 P) (.int .i64 R) (.int .i64 A) (.int .i64 U) (.bool H)
    have l2 := Below.alloc l1 l1.size (.cells (hcells m1 K P R A U H) 31)
    generalize (w1.alloc (.cells (hcells m1 K P R A U H) 31)) = w2 at *
    obtain ⟨y0, y1, y2, y3, y4, y5, y6, -, -, -, -, -, -, -⟩ := hY
    clear l1
    by_cases hi : i < 0
    · clear hno'
      go_wp2
      go_ret
      exact ⟨rfl, l2⟩
    · have hi' : decide (i < 0) = false := decide_eq_false hi
      by_cases hP : R ≤ i
      · clear hno'
        go_wp2
        go_ret
        exact ⟨rfl, l2⟩
      · exact absurd (show 0 ≤ i ∧ i < R from ⟨by omega, by omega⟩) hno'
  · have hh := rhead_nat b g c x sw ws a hat hw w hA
    clear hA hno hat hw
    go_enter Tryz.func69, Tryz.ntmps69
    go_wp2_with fail
    refine hh.mono ?_
    rintro e w1 ⟨rfl, l1⟩
    clear hh
    have l2 : Hid (Below w.heap.size w (w1.alloc (.cells (hcells 0 0 0 0 0 0 false) 31))) := Below.alloc l1 l1.size _
    clear l1
    go_upto_region 2 with fail
    generalize (w1.alloc (.cells (hcells 0 0 0 0 0 0 false) 31)) = w2 at *
    go_wp2
    go_ret
    exact ⟨rfl, l2.out⟩

set_option maxHeartbeats 2000000 in
theorem rsetPtr_yes (a i v : Int) (hat : At c x ws a) (hi0 : 0 ≤ i) (hi1 : i < ptOf (wat c ws a)) (hv0 : 0 ≤ v) (hv1 : v < c.words) (hw : Wd (wat c ws a)) (w : World) (hA : Ra w b g c x sw ws) :
    Calls Tryz.prog 67 #[.pointer (some ⟨b, 0, none⟩), .int .i64 a, .int .i64 i, .int .i64 v] w fun e w' => e = .returned (.bool true) ∧ Ra w' b g c x sw (upd ws (a + 2 + i).toNat v) ∧ Touch (rft b g) w w' := by
  have hh := rhead_at b g c x sw ws a hat hw w hA
  have hin := at_in hA hat
  have hpt := pt_in (wat c ws a)
  have hrw := rw_in (wat c ws a)
  have HW : Hid (∀ w1, Below w.heap.size w w1 → Calls Tryz.prog 71 #[.pointer (some ⟨b, 0, none⟩), .int .i64 (a + 2 + i), .int .u64 v] w1 fun e w' => e = .returned (.bool true) ∧ Ra w' b g c x sw (upd ws (a + 2 + i).toNat v) ∧ Touch (rft b g) w1 w') := fun w1 l => rsetWord_int b g c x sw ws _ v (by omega) (by omega) w1 (hA.below l)
  have HZ : Hid (∀ w1, Below w.heap.size w w1 → Calls Tryz.prog 44 #[.pointer (some ⟨b, 0, none⟩)] w1 fun e w' => e = .returned (.int .i64 c.words) ∧ w' = w1) := fun w1 l => rsize_any b g c x sw ws w1 (hA.below l)
  unfold hdv at hh
  clear hA hat hw
  obtain ⟨ws', hws⟩ : ∃ ws', ws' = upd ws (a + 2 + i).toNat v := ⟨_, rfl⟩
  rw [← hws] at HW ⊢
  clear hws
  have hcw := hin.2.2
  have hvb : v < 262145 := by omega
  generalize c.words = cw at *
  generalize wat c ws (a + 1) = m1 at *
  generalize kdOf (wat c ws a) = K at *
  generalize ptOf (wat c ws a) = P at *
  generalize rwOf (wat c ws a) = R at *
  generalize agOf (wat c ws a) = A at *
  generalize stOf (wat c ws a) = U at *
  generalize hdOf (wat c ws a) = H at *
  obtain ⟨p0, p1⟩ := hpt
  obtain ⟨r0, r1⟩ := hrw
  have ha1 := hin.1
  have ha2 : a < 262145 := by omega
  clear hin
  go_enter Tryz.func67, Tryz.ntmps67
  go_wp2_with fail
  refine hh.mono ?_
  rintro e w1 ⟨rfl, l1⟩
  clear hh
  go_upto_region 2 with fail
  have hY := Box.new w1 31 (.int .u64 m1) (.int .i64 K) (.int .i64 P) (.int .i64 R) (.int .i64 A) (.int .i64 U) (.bool H)
  have l2 := Below.alloc l1 l1.size (.cells (hcells m1 K P R A U H) 31)
  generalize (w1.alloc (.cells (hcells m1 K P R A U H) 31)) = w2 at *
  obtain ⟨y0, y1, y2, y3, y4, y5, y6, -, -, -, -, -, -, -⟩ := hY
  clear l1
  have hi0' : decide (i < 0) = false := decide_eq_false (by omega)
  have hi1' : decide (P ≤ i) = false := decide_eq_false (by omega)
  have hv0' : decide (v < 0) = false := decide_eq_false (by omega)
  have hv1' : decide (cw ≤ v) = false := decide_eq_false (by omega)
  go_wp2_with fail
  refine (HZ.out w2 l2).mono ?_
  rintro e w3 ⟨rfl, rfl⟩
  clear HZ
  go_wp2_with fail
  refine (HW.out w3 l2).mono ?_
  rintro e w4 ⟨rfl, hA4, t4⟩
  have T4 : Hid (Touch (rft b g) w w4) := (Touch.of_below l2 _).trans t4
  have HA4 : Hid _ := hA4
  clear l2 t4 hA4 y0 y1 y2 y3 y4 y5 y6 HW
  go_wp2
  go_ret
  exact ⟨rfl, HA4.out, T4.out⟩

set_option maxHeartbeats 2000000 in
theorem rsetRaw_yes (a i v : Int) (hat : At c x ws a) (hi0 : 0 ≤ i) (hi1 : i < rwOf (wat c ws a)) (hw : Wd (wat c ws a)) (w : World) (hA : Ra w b g c x sw ws) :
    Calls Tryz.prog 69 #[.pointer (some ⟨b, 0, none⟩), .int .i64 a, .int .i64 i, .int .u64 v] w fun e w' => e = .returned (.bool true) ∧ Ra w' b g c x sw (upd ws (a + 2 + ptOf (wat c ws a) + i).toNat v) ∧ Touch (rft b g) w w' := by
  have hh := rhead_at b g c x sw ws a hat hw w hA
  have hin := at_in hA hat
  have hpt := pt_in (wat c ws a)
  have hrw := rw_in (wat c ws a)
  have HW : Hid (∀ w1, Below w.heap.size w w1 → Calls Tryz.prog 71 #[.pointer (some ⟨b, 0, none⟩), .int .i64 (a + 2 + ptOf (wat c ws a) + i), .int .u64 v] w1 fun e w' => e = .returned (.bool true) ∧ Ra w' b g c x sw (upd ws (a + 2 + ptOf (wat c ws a) + i).toNat v) ∧ Touch (rft b g) w1 w') := fun w1 l => rsetWord_int b g c x sw ws _ v (by omega) (by omega) w1 (hA.below l)
  unfold hdv at hh
  clear hA hat hw
  obtain ⟨ws', hws⟩ : ∃ ws', ws' = upd ws (a + 2 + ptOf (wat c ws a) + i).toNat v := ⟨_, rfl⟩
  rw [← hws] at HW ⊢
  clear hws
  generalize wat c ws (a + 1) = m1 at *
  generalize kdOf (wat c ws a) = K at *
  generalize ptOf (wat c ws a) = P at *
  generalize rwOf (wat c ws a) = R at *
  generalize agOf (wat c ws a) = A at *
  generalize stOf (wat c ws a) = U at *
  generalize hdOf (wat c ws a) = H at *
  obtain ⟨p0, p1⟩ := hpt
  obtain ⟨r0, r1⟩ := hrw
  have ha1 := hin.1
  have ha2 : a < 262145 := by omega
  clear hin
  go_enter Tryz.func69, Tryz.ntmps69
  go_wp2_with fail
  refine hh.mono ?_
  rintro e w1 ⟨rfl, l1⟩
  clear hh
  go_upto_region 2 with fail
  have hY := Box.new w1 31 (.int .u64 m1) (.int .i64 K) (.int .i64 P) (.int .i64 R) (.int .i64 A) (.int .i64 U) (.bool H)
  have l2 := Below.alloc l1 l1.size (.cells (hcells m1 K P R A U H) 31)
  generalize (w1.alloc (.cells (hcells m1 K P R A U H) 31)) = w2 at *
  obtain ⟨y0, y1, y2, y3, y4, y5, y6, -, -, -, -, -, -, -⟩ := hY
  clear l1
  have hi0' : decide (i < 0) = false := decide_eq_false (by omega)
  have hi1' : decide (R ≤ i) = false := decide_eq_false (by omega)
  go_wp2_with fail
  refine (HW.out w2 l2).mono ?_
  rintro e w4 ⟨rfl, hA4, t4⟩
  have T4 : Hid (Touch (rft b g) w w4) := (Touch.of_below l2 _).trans t4
  have HA4 : Hid _ := hA4
  clear l2 t4 hA4 y0 y1 y2 y3 y4 y5 y6 HW
  go_wp2
  go_ret
  exact ⟨rfl, HA4.out, T4.out⟩

end

end Go.Proofs.YtbdkcelggffneaaGreatDoor
