/-
  The document's arena: an object's words.
-/
import Derived.Test.YtbdkcelggffneaaGreatDoorB12
set_option linter.unusedVariables false
set_option maxRecDepth 20000
namespace Go.Proofs.YtbdkcelggffneaaGreatDoor
open Go.RowKit Go.Shelf

/-- An object stands at a. -/
def At (c : Cfg) (x : Tps) (ws : Nat → Int) (a : Int) : Prop := spc c a ≠ 0 ∧ a < x.top (spc c a) ∧ Stands c ws (x.top (spc c a)) a

section
variable (b : Nat) (g : Nat → Nat) (c : Cfg) (x : Tps) (sw : Bool) (ws : Nat → Int)

theorem rhead_at (a : Int) (h : At c x ws a) (hw : Wd (wat c ws a)) (w : World) (hA : Ra w b g c x sw ws) :
    Calls Tryz.prog 30 #[.pointer (some ⟨b, 0, none⟩), .int .i64 a] w fun e w' => e = .returned (.tuple #[hdv c ws a, .bool true]) ∧ Below w.heap.size w w' :=
  rhead_yes b g c x sw ws a h.1 h.2.1 h.2.2.1 h.2.2.2 hw w hA

theorem rhead_nat (a : Int) (h : ¬ At c x ws a) (hw : Wd (wat c ws a)) (w : World) (hA : Ra w b g c x sw ws) :
    Calls Tryz.prog 30 #[.pointer (some ⟨b, 0, none⟩), .int .i64 a] w fun e w' => e = .returned (.tuple #[hv 0 0 0 0 0 0 false, .bool false]) ∧ Below w.heap.size w w' := by
  by_cases h0 : spc c a = 0
  · exact rhead_out b g c x sw ws a (.inl h0) w hA
  · by_cases h1 : a < x.top (spc c a)
    · by_cases h2 : IsHead (wat c ws a)
      · refine rhead_short b g c x sw ws a h0 h1 h2 ?_ hw w hA
        have h3 : ¬ osz c ws a ≤ x.top (spc c a) - a := fun hh => h ⟨h0, h1, h2, hh⟩
        omega
      · exact rhead_bad b g c x sw ws a h0 h1 h2 hw w hA
    · exact rhead_out b g c x sw ws a (.inr (by omega)) w hA

/-- Where the words of an object that stands lie. -/
theorem at_in {w : World} {b : Nat} {g : Nat → Nat} {c : Cfg} {x : Tps} {sw : Bool} {ws : Nat → Int} (hA : Ra w b g c x sw ws) {a : Int} (h : At c x ws a) : 1 ≤ a ∧ a + 2 + ptOf (wat c ws a) + rwOf (wat c ws a) ≤ c.words ∧ c.words ≤ 262145 := by
  obtain ⟨h0, h1, h2, h3⟩ := h
  have q := spc_in hA.ok a
  obtain ⟨n, hn⟩ : ∃ n : Nat, spc c a = n := ⟨(spc c a).toNat, by omega⟩
  rw [hn] at h0 h1 h3 q
  have f1 := fst_one hA.ok n (by omega) (by omega)
  have t1 := hA.top_in n (by omega) (by omega)
  have w1 := bhd_words hA.ok (n : Int)
  have q2 := q.2.2.1 h0
  unfold osz at h3
  have := hA.ok.e1; have := hA.ok.s1; have := hA.ok.t1
  refine ⟨by omega, by omega, by unfold Cfg.words; omega⟩

set_option maxHeartbeats 2000000 in
theorem rptr_no (a i : Int) (hno : ¬ (At c x ws a ∧ 0 ≤ i ∧ i < ptOf (wat c ws a))) (hw : Wd (wat c ws a)) (w : World) (hA : Ra w b g c x sw ws) :
    Calls Tryz.prog 33 #[.pointer (some ⟨b, 0, none⟩), .int .i64 a, .int .i64 i] w fun e w' => e = .returned (.tuple #[.int .i64 0, .bool false]) ∧ Below w.heap.size w w' := by
  by_cases hat : At c x ws a
  · have hh := rhead_at b g c x sw ws a hat hw w hA
    have hno' : ¬ (0 ≤ i ∧ i < ptOf (wat c ws a)) := fun h => hno ⟨hat, h⟩
    unfold hdv at hh
    clear hA hno hat hw
    generalize wat c ws (a + 1) = m1 at *
    generalize kdOf (wat c ws a) = K at *
    generalize ptOf (wat c ws a) = P at *
    generalize rwOf (wat c ws a) = R at *
    generalize agOf (wat c ws a) = A at *
    generalize stOf (wat c ws a) = U at *
    generalize hdOf (wat c ws a) = H at *
    go_enter Tryz.func33, Tryz.ntmps33
    go_wp2_with fail
    refine hh.mono ?_
    rintro e w1 ⟨rfl, l1⟩
    clear hh
    go_upto_region 2 with fail
    have hY := Box.new w1 31 (.int .u64 m1) (.int .i64 K) (.int .i64 P) (.int .i64 R) (.int .i64 A) (.int .i64 U) (.bool H)
    have l2 : Hid (Below w.heap.size w (w1.alloc (.cells (hcells m1 K P R A U H) 31))) := Below.alloc l1 l1.size _
    generalize (w1.alloc (.cells (hcells m1 K P R A U H) 31)) = w2 at *
    obtain ⟨y0, y1, y2, y3, y4, y5, y6, -, -, -, -, -, -, -⟩ := hY
    clear l1
    by_cases hi : i < 0
    · clear hno'
      go_wp2
      go_ret2
      exact ⟨rfl, l2.out⟩
    · have hi' : decide (i < 0) = false := decide_eq_false hi
      have hge : P ≤ i := by omega
      clear hno'
      go_wp2
      go_ret2
      exact ⟨rfl, l2.out⟩
  · have hh := rhead_nat b g c x sw ws a hat hw w hA
    clear hA hno hat hw
    go_enter Tryz.func33, Tryz.ntmps33
    go_wp2_with fail
    refine hh.mono ?_
    rintro e w1 ⟨rfl, l1⟩
    clear hh
    have l2 : Hid (Below w.heap.size w (w1.alloc (.cells (hcells 0 0 0 0 0 0 false) 31))) := Below.alloc l1 l1.size _
    clear l1
    go_upto_region 2 with fail
    generalize (w1.alloc (.cells (hcells 0 0 0 0 0 0 false) 31)) = w2 at *
    go_wp2
    go_ret2
    exact ⟨rfl, l2.out⟩

set_option maxHeartbeats 2000000 in
theorem rraw_no (a i : Int) (hno : ¬ (At c x ws a ∧ 0 ≤ i ∧ i < rwOf (wat c ws a))) (hw : Wd (wat c ws a)) (w : World) (hA : Ra w b g c x sw ws) :
    Calls Tryz.prog 35 #[.pointer (some ⟨b, 0, none⟩), .int .i64 a, .int .i64 i] w fun e w' => e = .returned (.tuple #[.int .u64 0, .bool false]) ∧ Below w.heap.size w w' := by
  by_cases hat : At c x ws a
  · have hh := rhead_at b g c x sw ws a hat hw w hA
    have hno' : ¬ (0 ≤ i ∧ i < rwOf (wat c ws a)) := fun h => hno ⟨hat, h⟩
    unfold hdv at hh
    clear hA hno hat hw
    generalize wat c ws (a + 1) = m1 at *
    generalize kdOf (wat c ws a) = K at *
    generalize ptOf (wat c ws a) = P at *
    generalize rwOf (wat c ws a) = R at *
    generalize agOf (wat c ws a) = A at *
    generalize stOf (wat c ws a) = U at *
    generalize hdOf (wat c ws a) = H at *
    go_enter Tryz.func35, Tryz.ntmps35
    go_wp2_with fail
    refine hh.mono ?_
    rintro e w1 ⟨rfl, l1⟩
    clear hh
    go_upto_region 2 with fail
    have hY := Box.new w1 31 (.int .u64 m1) (.int .i64 K) (.int .i64 P) (.int .i64 R) (.int .i64 A) (.int .i64 U) (.bool H)
    have l2 : Hid (Below w.heap.size w (w1.alloc (.cells (hcells m1 K P R A U H) 31))) := Below.alloc l1 l1.size _
    generalize (w1.alloc (.cells (hcells m1 K P R A U H) 31)) = w2 at *
    obtain ⟨y0, y1, y2, y3, y4, y5, y6, -, -, -, -, -, -, -⟩ := hY
    clear l1
    by_cases hi : i < 0
    · clear hno'
      go_wp2
      go_ret2
      exact ⟨rfl, l2.out⟩
    · have hi' : decide (i < 0) = false := decide_eq_false hi
      have hge : R ≤ i := by omega
      clear hno'
      go_wp2
      go_ret2
      exact ⟨rfl, l2.out⟩
  · have hh := rhead_nat b g c x sw ws a hat hw w hA
    clear hA hno hat hw
    go_enter Tryz.func35, Tryz.ntmps35
    go_wp2_with fail
    refine hh.mono ?_
    rintro e w1 ⟨rfl, l1⟩
    clear hh
    have l2 : Hid (Below w.heap.size w (w1.alloc (.cells (hcells 0 0 0 0 0 0 false) 31))) := Below.alloc l1 l1.size _
    clear l1
    go_upto_region 2 with fail
    generalize (w1.alloc (.cells (hcells 0 0 0 0 0 0 false) 31)) = w2 at *
    go_wp2
    go_ret2
    exact ⟨rfl, l2.out⟩

set_option maxHeartbeats 2000000 in
theorem rptr_yes (a i : Int) (hat : At c x ws a) (hi0 : 0 ≤ i) (hi1 : i < ptOf (wat c ws a)) (hv : wat c ws (a + 2 + i) < c.words) (hw : ∀ j, Wd (wat c ws j)) (w : World) (hA : Ra w b g c x sw ws) :
    Calls Tryz.prog 33 #[.pointer (some ⟨b, 0, none⟩), .int .i64 a, .int .i64 i] w fun e w' => e = .returned (.tuple #[.int .i64 (wat c ws (a + 2 + i)), .bool true]) ∧ Below w.heap.size w w' := by
  have hh := rhead_at b g c x sw ws a hat (hw a) w hA
  have hin := at_in hA hat
  have hpt := pt_in (wat c ws a)
  have hrw := rw_in (wat c ws a)
  have HW : Hid (∀ w1, Below w.heap.size w w1 → Calls Tryz.prog 19 #[.pointer (some ⟨b, 0, none⟩), .int .i64 (a + 2 + i)] w1 fun e w' => e = .returned (.int .u64 (wat c ws (a + 2 + i))) ∧ Below w1.heap.size w1 w') := fun w1 l => rword_any b g c x sw ws _ w1 (hA.below l)
  have HZ : Hid (∀ w1, Below w.heap.size w w1 → Calls Tryz.prog 44 #[.pointer (some ⟨b, 0, none⟩)] w1 fun e w' => e = .returned (.int .i64 c.words) ∧ w' = w1) := fun w1 l => rsize_any b g c x sw ws w1 (hA.below l)
  have hwv := hw (a + 2 + i)
  have hv0 := hwv.1
  unfold hdv at hh
  clear hA hat hw
  generalize wat c ws (a + 2 + i) = v at *
  have hcw := hin.2.2
  have hcw0 : 0 ≤ c.words := by omega
  generalize c.words = cw at *
  generalize wat c ws (a + 1) = m1 at *
  generalize kdOf (wat c ws a) = K at *
  generalize ptOf (wat c ws a) = P at *
  generalize rwOf (wat c ws a) = R at *
  generalize agOf (wat c ws a) = A at *
  generalize stOf (wat c ws a) = U at *
  generalize hdOf (wat c ws a) = H at *
  obtain ⟨p0, p1⟩ := hpt
  obtain ⟨r0, r1⟩ := hrw
  have ha1 := hin.1
  have ha2 : a < 262145 := by omega
  clear hin
  go_enter Tryz.func33, Tryz.ntmps33
  go_wp2_with fail
  refine hh.mono ?_
  rintro e w1 ⟨rfl, l1⟩
  clear hh
  go_upto_region 2 with fail
  have hY := Box.new w1 31 (.int .u64 m1) (.int .i64 K) (.int .i64 P) (.int .i64 R) (.int .i64 A) (.int .i64 U) (.bool H)
  have l2 := Below.alloc l1 l1.size (.cells (hcells m1 K P R A U H) 31)
  generalize (w1.alloc (.cells (hcells m1 K P R A U H) 31)) = w2 at *
  obtain ⟨y0, y1, y2, y3, y4, y5, y6, -, -, -, -, -, -, -⟩ := hY
  clear l1
  have hi0' : decide (i < 0) = false := decide_eq_false (by omega)
  go_wp2_with fail
  refine (HW.out w2 l2).mono ?_
  rintro e w3 ⟨rfl, l3⟩
  have l4 := l2.trans (l3.mono l2.size)
  clear l2 l3 y0 y1 y2 y3 y4 y5 y6 HW
  go_wp2_with fail
  refine (HZ.out w3 l4).mono ?_
  rintro e w4 ⟨rfl, rfl⟩
  clear HZ
  go_wp2
  go_ret2
  exact ⟨rfl, l4⟩

set_option maxHeartbeats 2000000 in
theorem rptr_wild (a i : Int) (hat : At c x ws a) (hi0 : 0 ≤ i) (hi1 : i < ptOf (wat c ws a)) (hv : c.words ≤ wat c ws (a + 2 + i)) (hw : ∀ j, Wd (wat c ws j)) (w : World) (hA : Ra w b g c x sw ws) :
    Calls Tryz.prog 33 #[.pointer (some ⟨b, 0, none⟩), .int .i64 a, .int .i64 i] w fun e w' => e = .returned (.tuple #[.int .i64 0, .bool false]) ∧ Below w.heap.size w w' := by
  have hh := rhead_at b g c x sw ws a hat (hw a) w hA
  have hin := at_in hA hat
  have hpt := pt_in (wat c ws a)
  have hrw := rw_in (wat c ws a)
  have HW : Hid (∀ w1, Below w.heap.size w w1 → Calls Tryz.prog 19 #[.pointer (some ⟨b, 0, none⟩), .int .i64 (a + 2 + i)] w1 fun e w' => e = .returned (.int .u64 (wat c ws (a + 2 + i))) ∧ Below w1.heap.size w1 w') := fun w1 l => rword_any b g c x sw ws _ w1 (hA.below l)
  have HZ : Hid (∀ w1, Below w.heap.size w w1 → Calls Tryz.prog 44 #[.pointer (some ⟨b, 0, none⟩)] w1 fun e w' => e = .returned (.int .i64 c.words) ∧ w' = w1) := fun w1 l => rsize_any b g c x sw ws w1 (hA.below l)
  have hwv := hw (a + 2 + i)
  have hv0 := hwv.1
  unfold hdv at hh
  clear hA hat hw
  generalize wat c ws (a + 2 + i) = v at *
  have hcw := hin.2.2
  have hcw0 : 0 ≤ c.words := by omega
  generalize c.words = cw at *
  generalize wat c ws (a + 1) = m1 at *
  generalize kdOf (wat c ws a) = K at *
  generalize ptOf (wat c ws a) = P at *
  generalize rwOf (wat c ws a) = R at *
  generalize agOf (wat c ws a) = A at *
  generalize stOf (wat c ws a) = U at *
  generalize hdOf (wat c ws a) = H at *
  obtain ⟨p0, p1⟩ := hpt
  obtain ⟨r0, r1⟩ := hrw
  have ha1 := hin.1
  have ha2 : a < 262145 := by omega
  clear hin
  go_enter Tryz.func33, Tryz.ntmps33
  go_wp2_with fail
  refine hh.mono ?_
  rintro e w1 ⟨rfl, l1⟩
  clear hh
  go_upto_region 2 with fail
  have hY := Box.new w1 31 (.int .u64 m1) (.int .i64 K) (.int .i64 P) (.int .i64 R) (.int .i64 A) (.int .i64 U) (.bool H)
  have l2 := Below.alloc l1 l1.size (.cells (hcells m1 K P R A U H) 31)
  generalize (w1.alloc (.cells (hcells m1 K P R A U H) 31)) = w2 at *
  obtain ⟨y0, y1, y2, y3, y4, y5, y6, -, -, -, -, -, -, -⟩ := hY
  clear l1
  have hi0' : decide (i < 0) = false := decide_eq_false (by omega)
  go_wp2_with fail
  refine (HW.out w2 l2).mono ?_
  rintro e w3 ⟨rfl, l3⟩
  have l4 := l2.trans (l3.mono l2.size)
  clear l2 l3 y0 y1 y2 y3 y4 y5 y6 HW
  go_wp2_with fail
  refine (HZ.out w3 l4).mono ?_
  rintro e w4 ⟨rfl, rfl⟩
  clear HZ
  go_wp2
  go_ret2
  exact ⟨rfl, l4⟩

set_option maxHeartbeats 2000000 in
theorem rraw_yes (a i : Int) (hat : At c x ws a) (hi0 : 0 ≤ i) (hi1 : i < rwOf (wat c ws a)) (hw : ∀ j, Wd (wat c ws j)) (w : World) (hA : Ra w b g c x sw ws) :
    Calls Tryz.prog 35 #[.pointer (some ⟨b, 0, none⟩), .int .i64 a, .int .i64 i] w fun e w' => e = .returned (.tuple #[.int .u64 (wat c ws (a + 2 + ptOf (wat c ws a) + i)), .bool true]) ∧ Below w.heap.size w w' := by
  have hh := rhead_at b g c x sw ws a hat (hw a) w hA
  have hin := at_in hA hat
  have hpt := pt_in (wat c ws a)
  have hrw := rw_in (wat c ws a)
  have HW : Hid (∀ w1, Below w.heap.size w w1 → Calls Tryz.prog 19 #[.pointer (some ⟨b, 0, none⟩), .int .i64 (a + 2 + ptOf (wat c ws a) + i)] w1 fun e w' => e = .returned (.int .u64 (wat c ws (a + 2 + ptOf (wat c ws a) + i))) ∧ Below w1.heap.size w1 w') := fun w1 l => rword_any b g c x sw ws _ w1 (hA.below l)
  have hwv := hw (a + 2 + ptOf (wat c ws a) + i)
  have hv0 := hwv.1
  unfold hdv at hh
  clear hA hat hw
  generalize wat c ws (a + 2 + ptOf (wat c ws a) + i) = v at *
  generalize wat c ws (a + 1) = m1 at *
  generalize kdOf (wat c ws a) = K at *
  generalize ptOf (wat c ws a) = P at *
  generalize rwOf (wat c ws a) = R at *
  generalize agOf (wat c ws a) = A at *
  generalize stOf (wat c ws a) = U at *
  generalize hdOf (wat c ws a) = H at *
  obtain ⟨p0, p1⟩ := hpt
  obtain ⟨r0, r1⟩ := hrw
  have ha1 := hin.1
  have ha2 : a < 262145 := by omega
  clear hin
  go_enter Tryz.func35, Tryz.ntmps35
  go_wp2_with fail
  refine hh.mono ?_
  rintro e w1 ⟨rfl, l1⟩
  clear hh
  go_upto_region 2 with fail
  have hY := Box.new w1 31 (.int .u64 m1) (.int .i64 K) (.int .i64 P) (.int .i64 R) (.int .i64 A) (.int .i64 U) (.bool H)
  have l2 := Below.alloc l1 l1.size (.cells (hcells m1 K P R A U H) 31)
  generalize (w1.alloc (.cells (hcells m1 K P R A U H) 31)) = w2 at *
  obtain ⟨y0, y1, y2, y3, y4, y5, y6, -, -, -, -, -, -, -⟩ := hY
  clear l1
  have hi0' : decide (i < 0) = false := decide_eq_false (by omega)
  go_wp2_with fail
  refine (HW.out w2 l2).mono ?_
  rintro e w3 ⟨rfl, l3⟩
  have l4 := l2.trans (l3.mono l2.size)
  clear l2 l3 y0 y1 y2 y3 y4 y5 y6 HW
  go_wp2
  go_ret2
  exact ⟨rfl, l4⟩

end

end Go.Proofs.YtbdkcelggffneaaGreatDoor
