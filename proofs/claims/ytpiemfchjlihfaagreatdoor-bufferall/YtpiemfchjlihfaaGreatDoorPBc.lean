import Derived.Test.YtpiemfchjlihfaaGreatDoorPBb
/-
  The document's arena: an object's words.
-/
set_option linter.unusedVariables false
set_option maxRecDepth 20000
namespace Go.Proofs.YtpiemfchjlihfaaGreatDoor
open Go.RowKit Go.Shelf

/-- An object stands at a. -/
def At (c : Cfg) (x : Tps) (ws : Nat → Int) (a : Int) : Prop := spc c a ≠ 0 ∧ a < x.top (spc c a) ∧ Stands c ws (x.top (spc c a)) a

section
variable (b : Nat) (g : Nat → Nat) (c : Cfg) (x : Tps) (sw : Bool) (ws : Nat → Int)

theorem rhead_at (a : Int) (h : At c x ws a) (hw : Wd (wat c ws a)) (w : World) (hA : Ra w b g c x sw ws) :
    Calls Tryz.prog 69 #[.pointer (some ⟨b, 0, none⟩), .int .i64 a] w fun e w' => e = .returned (.tuple #[hdv c ws a, .bool true]) ∧ Below w.heap.size w w' :=
  rhead_yes b g c x sw ws a h.1 h.2.1 h.2.2.1 h.2.2.2 hw w hA

theorem rhead_nat (a : Int) (h : ¬ At c x ws a) (hw : Wd (wat c ws a)) (w : World) (hA : Ra w b g c x sw ws) :
    Calls Tryz.prog 69 #[.pointer (some ⟨b, 0, none⟩), .int .i64 a] w fun e w' => e = .returned (.tuple #[hv 0 0 0 0 0 0 false, .bool false]) ∧ Below w.heap.size w w' := by
  by_cases h0 : spc c a = 0
  · exact rhead_out b g c x sw ws a (.inl h0) w hA
  · by_cases h1 : a < x.top (spc c a)
    · by_cases h2 : IsHead (wat c ws a)
      · refine rhead_short b g c x sw ws a h0 h1 h2 ?_ hw w hA
        have h3 : ¬ osz c ws a ≤ x.top (spc c a) - a := fun hh => h ⟨h0, h1, h2, hh⟩
        omega
      · exact rhead_bad b g c x sw ws a h0 h1 h2 hw w hA
    · exact rhead_out b g c x sw ws a (.inr (by omega)) w hA

/-- Where the words of an object that stands lie. -/
theorem at_in {w : World} {b : Nat} {g : Nat → Nat} {c : Cfg} {x : Tps} {sw : Bool} {ws : Nat → Int} (hA : Ra w b g c x sw ws) {a : Int} (h : At c x ws a) : 1 ≤ a ∧ a + 2 + ptOf (wat c ws a) + rwOf (wat c ws a) ≤ c.words ∧ c.words ≤ 262145 := by
  obtain ⟨h0, h1, h2, h3⟩ := h
  have q := spc_in hA.ok a
  obtain ⟨n, hn⟩ : ∃ n : Nat, spc c a = n := ⟨(spc c a).toNat, by omega⟩
  rw [hn] at h0 h1 h3 q
  have f1 := fst_one hA.ok n (by omega) (by omega)
  have t1 := hA.top_in n (by omega) (by omega)
  have w1 := bhd_words hA.ok (n : Int)
  have q2 := q.2.2.1 h0
  unfold osz at h3
  have := hA.ok.e1; have := hA.ok.s1; have := hA.ok.t1
  refine ⟨by omega, by omega, by unfold Cfg.words; omega⟩

set_option maxHeartbeats 2000000 in
theorem rptr_no (a i : Int) (hno : ¬ (At c x ws a ∧ 0 ≤ i ∧ i < ptOf (wat c ws a))) (hw : Wd (wat c ws a)) (w : World) (hA : Ra w b g c x sw ws) :
    Calls Tryz.prog 81 #[.pointer (some ⟨b, 0, none⟩), .int .i64 a, .int .i64 i] w fun e w' => e = .returned (.tuple #[.int .i64 0, .bool false]) ∧ Below w.heap.size w w' := by
  by_cases hat : At c x ws a
  · have hh := rhead_at b g c x sw ws a hat hw w hA
    have hno' : ¬ (0 ≤ i ∧ i < ptOf (wat c ws a)) := fun h => hno ⟨hat, h⟩
    unfold hdv at hh
    clear hA hno hat hw
    generalize wat c ws (a + 1) = m1 at *
    generalize kdOf (wat c ws a) = K at *
    generalize ptOf (wat c ws a) = P at *
    generalize rwOf (wat c ws a) = R at *
    generalize agOf (wat c ws a) = A at *
    generalize stOf (wat c ws a) = U at *
    generalize hdOf (wat c ws a) = H at *
    go_enter Tryz.func81, Tryz.ntmps81
    go_wp2_with fail
    refine hh.mono ?_
    rintro e w1 ⟨rfl, l1⟩
    clear hh
    go_upto_region 2 with fail
    have hY := Box.new w1 46 (.int .u64 m1) (.int .i64 K) (.int .i64 P) (.int .i64 R) (.int .i64 A) (.int .i64 U) (.bool H)
    have l2 : Hid (Below w.heap.size w (w1.alloc (.cells (hcells m1 K P R A U H) 46))) := Below.alloc l1 l1.size _
    generalize (w1.alloc (.cells (hcells m1 K P R A U H) 46)) = w2 at *
    obtain ⟨y0, y1, y2, y3, y4, y5, y6, -, -, -, -, -, -, -⟩ := hY
    clear l1
    by_cases hi : i < 0
    · clear hno'
      go_wp2
      go_ret2
      exact ⟨rfl, l2.out⟩
    · have hi' : decide (i < 0) = false := decide_eq_false hi
      have hge : P ≤ i := by omega
      clear hno'
      go_wp2
      go_ret2
      exact ⟨rfl, l2.out⟩
  · have hh := rhead_nat b g c x sw ws a hat hw w hA
    clear hA hno hat hw
    go_enter Tryz.func81, Tryz.ntmps81
    go_wp2_with fail
    refine hh.mono ?_
    rintro e w1 ⟨rfl, l1⟩
    clear hh
    have l2 : Hid (Below w.heap.size w (w1.alloc (.cells (hcells 0 0 0 0 0 0 false) 46))) := Below.alloc l1 l1.size _
    clear l1
    go_upto_region 2 with fail
    generalize (w1.alloc (.cells (hcells 0 0 0 0 0 0 false) 46)) = w2 at *
    go_wp2
    go_ret2
    exact ⟨rfl, l2.out⟩

set_option maxHeartbeats 2000000 in
theorem rraw_no (a i : Int) (hno : ¬ (At c x ws a ∧ 0 ≤ i ∧ i < rwOf (wat c ws a))) (hw : Wd (wat c ws a)) (w : World) (hA : Ra w b g c x sw ws) :
    Calls Tryz.prog 83 #[.pointer (some ⟨b, 0, none⟩), .int .i64 a, .int .i64 i] w fun e w' => e = .returned (.tuple #[.int .u64 0, .bool false]) ∧ Below w.heap.size w w' := by
  by_cases hat : At c x ws a
  · have hh := rhead_at b g c x sw ws a hat hw w hA
    have hno' : ¬ (0 ≤ i ∧ i < rwOf (wat c ws a)) := fun h => hno ⟨hat, h⟩
    unfold hdv at hh
    clear hA hno hat hw
    generalize wat c ws (a + 1) = m1 at *
    generalize kdOf (wat c ws a) = K at *
    generalize ptOf (wat c ws a) = P at *
    generalize rwOf (wat c ws a) = R at *
    generalize agOf (wat c ws a) = A at *
    generalize stOf (wat c ws a) = U at *
    generalize hdOf (wat c ws a) = H at *
    go_enter Tryz.func83, Tryz.ntmps83
    go_wp2_with fail
    refine hh.mono ?_
    rintro e w1 ⟨rfl, l1⟩
    clear hh
    go_upto_region 2 with fail
    have hY := Box.new w1 46 (.int .u64 m1) (.int .i64 K) (.int .i64 P) (.int .i64 R) (.int .i64 A) (.int .i64 U) (.bool H)
    have l2 : Hid (Below w.heap.size w (w1.alloc (.cells (hcells m1 K P R A U H) 46))) := Below.alloc l1 l1.size _
    generalize (w1.alloc (.cells (hcells m1 K P R A U H) 46)) = w2 at *
    obtain ⟨y0, y1, y2, y3, y4, y5, y6, -, -, -, -, -, -, -⟩ := hY
    clear l1
    by_cases hi : i < 0
    · clear hno'
      go_wp2
      go_ret2
      exact ⟨rfl, l2.out⟩
    · have hi' : decide (i < 0) = false := decide_eq_false hi
      have hge : R ≤ i := by omega
      clear hno'
      go_wp2
      go_ret2
      exact ⟨rfl, l2.out⟩
  · have hh := rhead_nat b g c x sw ws a hat hw w hA
    clear hA hno hat hw
    go_enter Tryz.func83, Tryz.ntmps83
    go_wp2_with fail
    refine hh.mono ?_
    rintro e w1 ⟨rfl, l1⟩
    clear hh
    have l2 : Hid (Below w.heap.size w (w1.alloc (.cells (hcells 0 0 0 0 0 0 false) 46))) := Below.alloc l1 l1.size _
    clear l1
    go_upto_region 2 with fail
    generalize (w1.alloc (.cells (hcells 0 0 0 0 0 0 false) 46)) = w2 at *
    go_wp2
    go_ret2
    exact ⟨rfl, l2.out⟩

set_option maxHeartbeats 2000000 in
theorem rptr_yes (a i : Int) (hat : At c x ws a) (hi0 : 0 ≤ i) (hi1 : i < ptOf (wat c ws a)) (hv : wat c ws (a + 2 + i) < c.words) (hw : ∀ j, Wd (wat c ws j)) (w : World) (hA : Ra w b g c x sw ws) :
    Calls Tryz.prog 81 #[.pointer (some ⟨b, 0, none⟩), .int .i64 a, .int .i64 i] w fun e w' => e = .returned (.tuple #[.int .i64 (wat c ws (a + 2 + i)), .bool true]) ∧ Below w.heap.size w w' := by
  have hh := rhead_at b g c x sw ws a hat (hw a) w hA
  have hin := at_in hA hat
  have hpt := pt_in (wat c ws a)
  have hrw := rw_in (wat c ws a)
  have HW : Hid (∀ w1, Below w.heap.size w w1 → Calls Tryz.prog 78 #[.pointer (some ⟨b, 0, none⟩), .int .i64 (a + 2 + i)] w1 fun e w' => e = .returned (.int .u64 (wat c ws (a + 2 + i))) ∧ Below w1.heap.size w1 w') := fun w1 l => rword_any b g c x sw ws _ w1 (hA.below l)
  have HZ : Hid (∀ w1, Below w.heap.size w w1 → Calls Tryz.prog 104 #[.pointer (some ⟨b, 0, none⟩)] w1 fun e w' => e = .returned (.int .i64 c.words) ∧ w' = w1) := fun w1 l => rsize_any b g c x sw ws w1 (hA.below l)
  have hwv := hw (a + 2 + i)
  have hv0 := hwv.1
  unfold hdv at hh
  clear hA hat hw
  generalize wat c ws (a + 2 + i) = v at *
  have hcw := hin.2.2
  have hcw0 : 0 ≤ c.words := by omega
  generalize c.words = cw at *
  generalize wat c ws (a + 1) = m1 at *
  generalize kdOf (wat c ws a) = K at *
  generalize ptOf (wat c ws a) = P at *
  generalize rwOf (wat c ws a) = R at *
  generalize agOf (wat c ws a) = A at *
  generalize stOf (wat c ws a) = U at *
  generalize hdOf (wat c ws a) = H at *
  obtain ⟨p0, p1⟩ := hpt
  obtain ⟨r0, r1⟩ := hrw
  have ha1 := hin.1
  have ha2 : a < 262145 := by omega
  clear hin
  go_enter Tryz.func81, Tryz.ntmps81
  go_wp2_with fail
  refine hh.mono ?_
  rintro e w1 ⟨rfl, l1⟩
  clear hh
  go_upto_region 2 with fail
  have hY := Box.new w1 46 (.int .u64 m1) (.int .i64 K) (.int .i64 P) (.int .i64 R) (.int .i64 A) (.int .i64 U) (.bool H)
  have l2 := Below.alloc l1 l1.size (.cells (hcells m1 K P R A U H) 46)
  generalize (w1.alloc (.cells (hcells m1 K P R A U H) 46)) = w2 at *
  obtain ⟨y0, y1, y2, y3, y4, y5, y6, -, -, -, -, -, -, -⟩ := hY
  clear l1
  have hi0' : decide (i < 0) = false := decide_eq_false (by omega)
  go_wp2_with fail
  refine (HW.out w2 l2).mono ?_
  rintro e w3 ⟨rfl, l3⟩
  have l4 := l2.trans (l3.mono l2.size)
  clear l2 l3 y0 y1 y2 y3 y4 y5 y6 HW
  go_wp2_with fail
  refine (HZ.out w3 l4).mono ?_
  rintro e w4 ⟨rfl, rfl⟩
  clear HZ
  go_wp2
  go_ret2
  exact ⟨rfl, l4⟩

set_option maxHeartbeats 2000000 in
theorem rptr_wild (a i : Int) (hat : At c x ws a) (hi0 : 0 ≤ i) (hi1 : i < ptOf (wat c ws a)) (hv : c.words ≤ wat c ws (a + 2 + i)) (hw : ∀ j, Wd (wat c ws j)) (w : World) (hA : Ra w b g c x sw ws) :
    Calls Tryz.prog 81 #[.pointer (some ⟨b, 0, none⟩), .int .i64 a, .int .i64 i] w fun e w' => e = .returned (.tuple #[.int .i64 0, .bool false]) ∧ Below w.heap.size w w' := by
  have hh := rhead_at b g c x sw ws a hat (hw a) w hA
  have hin := at_in hA hat
  have hpt := pt_in (wat c ws a)
  have hrw := rw_in (wat c ws a)
  have HW : Hid (∀ w1, Below w.heap.size w w1 → Calls Tryz.prog 78 #[.pointer (some ⟨b, 0, none⟩), .int .i64 (a + 2 + i)] w1 fun e w' => e = .returned (.int .u64 (wat c ws (a + 2 + i))) ∧ Below w1.heap.size w1 w') := fun w1 l => rword_any b g c x sw ws _ w1 (hA.below l)
  have HZ : Hid (∀ w1, Below w.heap.size w w1 → Calls Tryz.prog 104 #[.pointer (some ⟨b, 0, none⟩)] w1 fun e w' => e = .returned (.int .i64 c.words) ∧ w' = w1) := fun w1 l => rsize_any b g c x sw ws w1 (hA.below l)
  have hwv := hw (a + 2 + i)
  have hv0 := hwv.1
  unfold hdv at hh
  clear hA hat hw
  generalize wat c ws (a + 2 + i) = v at *
  have hcw := hin.2.2
  have hcw0 : 0 ≤ c.words := by omega
  generalize c.words = cw at *
  generalize wat c ws (a + 1) = m1 at *
  generalize kdOf (wat c ws a) = K at *
  generalize ptOf (wat c ws a) = P at *
  generalize rwOf (wat c ws a) = R at *
  generalize agOf (wat c ws a) = A at *
  generalize stOf (wat c ws a) = U at *
  generalize hdOf (wat c ws a) = H at *
  obtain ⟨p0, p1⟩ := hpt
  obtain ⟨r0, r1⟩ := hrw
  have ha1 := hin.1
  have ha2 : a < 262145 := by omega
  clear hin
  go_enter Tryz.func81, Tryz.ntmps81
  go_wp2_with fail
  refine hh.mono ?_
  rintro e w1 ⟨rfl, l1⟩
  clear hh
  go_upto_region 2 with fail
  have hY := Box.new w1 46 (.int .u64 m1) (.int .i64 K) (.int .i64 P) (.int .i64 R) (.int .i64 A) (.int .i64 U) (.bool H)
  have l2 := Below.alloc l1 l1.size (.cells (hcells m1 K P R A U H) 46)
  generalize (w1.alloc (.cells (hcells m1 K P R A U H) 46)) = w2 at *
  obtain ⟨y0, y1, y2, y3, y4, y5, y6, -, -, -, -, -, -, -⟩ := hY
  clear l1
  have hi0' : decide (i < 0) = false := decide_eq_false (by omega)
  go_wp2_with fail
  refine (HW.out w2 l2).mono ?_
  rintro e w3 ⟨rfl, l3⟩
  have l4 := l2.trans (l3.mono l2.size)
  clear l2 l3 y0 y1 y2 y3 y4 y5 y6 HW
  go_wp2_with fail
  refine (HZ.out w3 l4).mono ?_
  rintro e w4 ⟨rfl, rfl⟩
  clear HZ
  go_wp2
  go_ret2
  exact ⟨rfl, l4⟩

set_option maxHeartbeats 2000000 in
theorem rraw_yes (a i : Int) (hat : At c x ws a) (hi0 : 0 ≤ i) (hi1 : i < rwOf (wat c ws a)) (hw : ∀ j, Wd (wat c ws j)) (w : World) (hA : Ra w b g c x sw ws) :
    Calls Tryz.prog 83 #[.pointer (some ⟨b, 0, none⟩), .int .i64 a, .int .i64 i] w fun e w' => e = .returned (.tuple #[.int .u64 (wat c ws (a + 2 + ptOf (wat c ws a) + i)), .bool true]) ∧ Below w.heap.size w w' := by
  have hh := rhead_at b g c x sw ws a hat (hw a) w hA
  have hin := at_in hA hat
  have hpt := pt_in (wat c ws a)
  have hrw := rw_in (wat c ws a)
  have HW : Hid (∀ w1, Below w.heap.size w w1 → Calls Tryz.prog 78 #[.pointer (some ⟨b, 0, none⟩), .int .i64 (a + 2 + ptOf (wat c ws a) + i)] w1 fun e w' => e = .returned (.int .u64 (wat c ws (a + 2 + ptOf (wat c ws a) + i))) ∧ Below w1.heap.size w1 w') := fun w1 l => rword_any b g c x sw ws _ w1 (hA.below l)
  have hwv := hw (a + 2 + ptOf (wat c ws a) + i)
  have hv0 := hwv.1
  unfold hdv at hh
  clear hA hat hw
  generalize wat c ws (a + 2 + ptOf (wat c ws a) + i) = v at *
  generalize wat c ws (a + 1) = m1 at *
  generalize kdOf (wat c ws a) = K at *
  generalize ptOf (wat c ws a) = P at *
  generalize rwOf (wat c ws a) = R at *
  generalize agOf (wat c ws a) = A at *
  generalize stOf (wat c ws a) = U at *
  generalize hdOf (wat c ws a) = H at *
  obtain ⟨p0, p1⟩ := hpt
  obtain ⟨r0, r1⟩ := hrw
  have ha1 := hin.1
  have ha2 : a < 262145 := by omega
  clear hin
  go_enter Tryz.func83, Tryz.ntmps83
  go_wp2_with fail
  refine hh.mono ?_
  rintro e w1 ⟨rfl, l1⟩
  clear hh
  go_upto_region 2 with fail
  have hY := Box.new w1 46 (.int .u64 m1) (.int .i64 K) (.int .i64 P) (.int .i64 R) (.int .i64 A) (.int .i64 U) (.bool H)
  have l2 := Below.alloc l1 l1.size (.cells (hcells m1 K P R A U H) 46)
  generalize (w1.alloc (.cells (hcells m1 K P R A U H) 46)) = w2 at *
  obtain ⟨y0, y1, y2, y3, y4, y5, y6, -, -, -, -, -, -, -⟩ := hY
  clear l1
  have hi0' : decide (i < 0) = false := decide_eq_false (by omega)
  go_wp2_with fail
  refine (HW.out w2 l2).mono ?_
  rintro e w3 ⟨rfl, l3⟩
  have l4 := l2.trans (l3.mono l2.size)
  clear l2 l3 y0 y1 y2 y3 y4 y5 y6 HW
  go_wp2
  go_ret2
  exact ⟨rfl, l4⟩

end

end Go.Proofs.YtpiemfchjlihfaaGreatDoor

/-
  The document's arena: an object's words written.
-/
set_option linter.unusedVariables false
set_option maxRecDepth 20000
namespace Go.Proofs.YtpiemfchjlihfaaGreatDoor
open Go.RowKit Go.Shelf

section
variable (b : Nat) (g : Nat → Nat) (c : Cfg) (x : Tps) (sw : Bool) (ws : Nat → Int)

set_option maxHeartbeats 2000000 in
theorem rsetRaw_no (a i v : Int) (hno : ¬ (At c x ws a ∧ (0 ≤ i ∧ i < rwOf (wat c ws a)))) (hw : Wd (wat c ws a)) (w : World) (hA : Ra w b g c x sw ws) :
    Calls Tryz.prog 27 #[.pointer (some ⟨b, 0, none⟩), .int .i64 a, .int .i64 i, .int .u64 v] w fun e w' => e = .returned (.bool false) ∧ Below w.heap.size w w' := by
  by_cases hat : At c x ws a
  · have hh := rhead_at b g c x sw ws a hat hw w hA
    have hno' : ¬ ((0 ≤ i ∧ i < rwOf (wat c ws a))) := fun h => hno ⟨hat, h⟩
    unfold hdv at hh
    clear hA hno hat hw
    generalize wat c ws (a + 1) = m1 at *
    generalize kdOf (wat c ws a) = K at *
    generalize ptOf (wat c ws a) = P at *
    generalize rwOf (wat c ws a) = R at *
    generalize agOf (wat c ws a) = A at *
    generalize stOf (wat c ws a) = U at *
    generalize hdOf (wat c ws a) = H at *
    go_enter Tryz.func27, Tryz.ntmps27
    go_wp2_with fail
    refine hh.mono ?_
    rintro e w1 ⟨rfl, l1⟩
    clear hh
    go_upto_region 2 with fail
    have hY := Box.new w1 46 (.int .u64 m1) (.int .i64 K) (.int .i64 P) (.int .i64 R) (.int .i64 A) (.int .i64 U) (.bool H)
    have l2 := Below.alloc l1 l1.size (.cells (hcells m1 K P R A U H) 46)
    generalize (w1.alloc (.cells (hcells m1 K P R A U H) 46)) = w2 at *
    obtain ⟨y0, y1, y2, y3, y4, y5, y6, -, -, -, -, -, -, -⟩ := hY
    clear l1
    by_cases hi : i < 0
    · clear hno'
      go_wp2
      go_ret
      exact ⟨rfl, l2⟩
    · have hi' : decide (i < 0) = false := decide_eq_false hi
      by_cases hP : R ≤ i
      · clear hno'
        go_wp2
        go_ret
        exact ⟨rfl, l2⟩
      · exact absurd (show 0 ≤ i ∧ i < R from ⟨by omega, by omega⟩) hno'
  · have hh := rhead_nat b g c x sw ws a hat hw w hA
    clear hA hno hat hw
    go_enter Tryz.func27, Tryz.ntmps27
    go_wp2_with fail
    refine hh.mono ?_
    rintro e w1 ⟨rfl, l1⟩
    clear hh
    have l2 : Hid (Below w.heap.size w (w1.alloc (.cells (hcells 0 0 0 0 0 0 false) 46))) := Below.alloc l1 l1.size _
    clear l1
    go_upto_region 2 with fail
    generalize (w1.alloc (.cells (hcells 0 0 0 0 0 0 false) 46)) = w2 at *
    go_wp2
    go_ret
    exact ⟨rfl, l2.out⟩

set_option maxHeartbeats 2000000 in
theorem rsetRaw_yes (a i v : Int) (hat : At c x ws a) (hi0 : 0 ≤ i) (hi1 : i < rwOf (wat c ws a)) (hw : Wd (wat c ws a)) (w : World) (hA : Ra w b g c x sw ws) :
    Calls Tryz.prog 27 #[.pointer (some ⟨b, 0, none⟩), .int .i64 a, .int .i64 i, .int .u64 v] w fun e w' => e = .returned (.bool true) ∧ Ra w' b g c x sw (upd ws (a + 2 + ptOf (wat c ws a) + i).toNat v) ∧ Touch (rft b g) w w' := by
  have hh := rhead_at b g c x sw ws a hat hw w hA
  have hin := at_in hA hat
  have hpt := pt_in (wat c ws a)
  have hrw := rw_in (wat c ws a)
  have HW : Hid (∀ w1, Below w.heap.size w w1 → Calls Tryz.prog 66 #[.pointer (some ⟨b, 0, none⟩), .int .i64 (a + 2 + ptOf (wat c ws a) + i), .int .u64 v] w1 fun e w' => e = .returned (.bool true) ∧ Ra w' b g c x sw (upd ws (a + 2 + ptOf (wat c ws a) + i).toNat v) ∧ Touch (rft b g) w1 w') := fun w1 l => rsetWord_int b g c x sw ws _ v (by omega) (by omega) w1 (hA.below l)
  unfold hdv at hh
  clear hA hat hw
  obtain ⟨ws', hws⟩ : ∃ ws', ws' = upd ws (a + 2 + ptOf (wat c ws a) + i).toNat v := ⟨_, rfl⟩
  rw [← hws] at HW ⊢
  clear hws
  generalize wat c ws (a + 1) = m1 at *
  generalize kdOf (wat c ws a) = K at *
  generalize ptOf (wat c ws a) = P at *
  generalize rwOf (wat c ws a) = R at *
  generalize agOf (wat c ws a) = A at *
  generalize stOf (wat c ws a) = U at *
  generalize hdOf (wat c ws a) = H at *
  obtain ⟨p0, p1⟩ := hpt
  obtain ⟨r0, r1⟩ := hrw
  have ha1 := hin.1
  have ha2 : a < 262145 := by omega
  clear hin
  go_enter Tryz.func27, Tryz.ntmps27
  go_wp2_with fail
  refine hh.mono ?_
  rintro e w1 ⟨rfl, l1⟩
  clear hh
  go_upto_region 2 with fail
  have hY := Box.new w1 46 (.int .u64 m1) (.int .i64 K) (.int .i64 P) (.int .i64 R) (.int .i64 A) (.int .i64 U) (.bool H)
  have l2 := Below.alloc l1 l1.size (.cells (hcells m1 K P R A U H) 46)
  generalize (w1.alloc (.cells (hcells m1 K P R A U H) 46)) = w2 at *
  obtain ⟨y0, y1, y2, y3, y4, y5, y6, -, -, -, -, -, -, -⟩ := hY
  clear l1
  have hi0' : decide (i < 0) = false := decide_eq_false (by omega)
  have hi1' : decide (R ≤ i) = false := decide_eq_false (by omega)
  go_wp2_with fail
  refine (HW.out w2 l2).mono ?_
  rintro e w4 ⟨rfl, hA4, t4⟩
  have T4 : Hid (Touch (rft b g) w w4) := (Touch.of_below l2 _).trans t4
  have HA4 : Hid _ := hA4
  clear l2 t4 hA4 y0 y1 y2 y3 y4 y5 y6 HW
  go_wp2
  go_ret
  exact ⟨rfl, HA4.out, T4.out⟩

end

end Go.Proofs.YtpiemfchjlihfaaGreatDoor

/-
  The document's arena: a head written anew.
-/
set_option linter.unusedVariables false
set_option maxRecDepth 20000
namespace Go.Proofs.YtpiemfchjlihfaaGreatDoor
open Go.RowKit Go.Shelf

section
variable (b : Nat) (g : Nat → Nat) (c : Cfg) (x : Tps) (sw : Bool) (ws : Nat → Int)

end

end Go.Proofs.YtpiemfchjlihfaaGreatDoor

/-
  The document's arena: the walk of a space.
-/
set_option linter.unusedVariables false
set_option maxRecDepth 20000
namespace Go.Proofs.YtpiemfchjlihfaaGreatDoor
open Go.RowKit Go.Shelf

theorem own_sl {w : World} {base e size n : Nat} {v : Value} {xs : List Value} (h : w.ownsRow base e size v n xs) : ∃ a cap, v = .slice a n cap := by
  rcases h.2 with ⟨rfl, h0⟩ | ⟨g, cap, cur, rfl, _⟩
  · exact ⟨none, 0, by rw [h0]⟩
  · exact ⟨_, _, rfl⟩

theorem own_ge {w : World} {base e size n : Nat} {v : Value} {xs : List Value} (h : w.ownsRow base e size v n xs) (k : Nat) (hk : v.ownBlock = some k) : base ≤ k := by
  rcases h.2 with ⟨rfl, h0⟩ | ⟨g, cap, cur, rfl, hb, _⟩
  · simp [Value.ownBlock] at hk
  · simp [Value.ownBlock] at hk
    omega

theorem past_stop {c : Cfg} {ws : Nat → Int} {T a p : Int} (h : Past c ws T a p) (hs : T ≤ a ∨ ¬ (IsTag 3 (wat c ws a) ∧ wat c ws a / 4 ≤ T - a)) : p = a := by
  cases h with
  | done _ => rfl
  | step h1 h2 h3 _ =>
    rcases hs with h | h
    · omega
    · exact absurd ⟨h2, h3⟩ h

theorem past_next {c : Cfg} {ws : Nat → Int} {T a p : Int} (h : Past c ws T a p) (ha : a < T) (ht : IsTag 3 (wat c ws a)) (hl : wat c ws a / 4 ≤ T - a) : Past c ws T (a + wat c ws a / 4) p := by
  cases h with
  | done h =>
    rcases h with h | h
    · omega
    · exact absurd ⟨ht, hl⟩ h
  | step _ _ _ r => exact r

/-- What the walk holds between two rounds. -/
structure Wk (W : World) (c : Cfg) (ws : Nat → Int) (T e : Int) (l : List Int) (a : Int) (v : Value) (w : World) (pre l' : List Int) (p : Int) : Prop where
  past : Past c ws T a p
  walk : Walk c ws T p l' e
  eq : l = pre ++ l'
  own : w.ownsRow W.heap.size 3 1 v pre.length (pre.map (Value.int .i64))
  bel : Below W.heap.size W w

theorem Wk.below {W w w' : World} {c : Cfg} {ws : Nat → Int} {T e a p : Int} {l pre l' : List Int} {v : Value} (h : Wk W c ws T e l a v w pre l' p) (b : Below w.heap.size w w') : Wk W c ws T e l a v w' pre l' p :=
  ⟨h.past, h.walk, h.eq, row_keep h.own (fun q hq => b.block q (row_lt h.own q hq)), h.bel.trans (b.mono h.bel.size)⟩

theorem at_of {c : Cfg} {x : Tps} (ok : c.Ok) {s : Nat} (s1 : 1 ≤ s) (s4 : s ≤ 4) {a : Int} (h0 : fst c s ≤ a) (h1 : a < x.top s) (h2 : x.top s ≤ bhd c s) : spc c a = s := spc_is ok a s (by omega) (by omega) h0 (by omega)

set_option maxHeartbeats 8000000 in
theorem rwalk_any (b : Nat) (g : Nat → Nat) (c : Cfg) (x : Tps) (sw : Bool) (ws : Nat → Int) (s : Nat) (s1 : 1 ≤ s) (s4 : s ≤ 4) (l : List Int) (p e : Int) (hp : Past c ws (x.top s) (fst c s) p) (hwk : Walk c ws (x.top s) p l e) (hl : l.length < 1000000) (hw : ∀ j, Wd (wat c ws j)) (W : World) (hA : Ra W b g c x sw ws) :
    Calls Tryz.prog 35 #[.pointer (some ⟨b, 0, none⟩), .int .i64 s] W fun r w' => ∃ v, r = .returned (.tuple #[v, .int .i64 (if e < x.top s then e else 0)]) ∧ w'.ownsRow W.heap.size 3 1 v l.length (l.map (Value.int .i64)) ∧ Below W.heap.size W w' := by
  obtain ⟨i0, hi, hz0, hz1, hz2⟩ := info_parts Tryz.infoInt
  have HI0 : Hid ((Tryz.prog.info? 3 = some i0) ∧ i0.zero = some (.int .i64 0) ∧ i0.size = 1 ∧ i0.bytes = 8) := ⟨hi, hz0, hz1, hz2⟩
  have hsp := rspace_any (s : Int) W
  rw [decide_eq_true (show 1 ≤ (s : Int) ∧ (s : Int) ≤ 4 by omega)] at hsp
  have hb := rbounds_any b g c x sw ws s W hA
  have hti := hA.top_in s s1 s4
  have hfi := fst_in hA.ok (s : Int)
  have hf1 := fst_one hA.ok s s1 s4
  have hTb : x.top s ≤ 400000 := by have := spn_bhd hA.ok s s1 s4; omega
  have HAt : Hid (∀ a, fst c s ≤ a → a < x.top s → spc c a = s) := fun a h0 h1 => at_of hA.ok s1 s4 h0 h1 hti.2
  have HR : Hid (∀ w1, Below W.heap.size W w1 → Ra w1 b g c x sw ws) := fun w1 l => hA.below l
  have HT : Hid (∀ w1, Below W.heap.size W w1 → Calls Tryz.prog 37 #[.pointer (some ⟨b, 0, none⟩), .int .i64 s] w1 fun e w' => e = .returned (.int .i64 (x.top s)) ∧ Below w1.heap.size w1 w') := fun w1 l => rtop_any b g c x sw ws s w1 (hA.below l)
  have HW0 : Hid (Wk W c ws (x.top s) e l (fst c s) (.slice none 0 0) W [] l p) := ⟨hp, hwk, rfl, World.ownsRow_nil _ _ _ _, Below.refl _ _⟩
  have HW : Hid (∀ j, Wd (wat c ws j)) := hw
  have HF : Hid (fst c s ≤ fst c s) := Int.le_refl _
  clear hA hi hz0 hz1 hz2 hp hwk hw hti
  obtain ⟨T, hT⟩ : ∃ T, T = x.top s := ⟨_, rfl⟩
  have HTE : Hid (T = x.top s) := hT
  rw [← hT] at HT HW0 hTb HAt ⊢
  clear hT
  obtain ⟨E, hE⟩ : ∃ E, E = if e < T then e else 0 := ⟨_, rfl⟩
  have HE1 : Hid (e < T → E = e) := fun h => by rw [hE, if_pos h]
  have HE0 : Hid (T ≤ e → E = 0) := fun h => by rw [hE, if_neg (by omega)]
  rw [← hE]
  clear hE
  generalize hF : fst c (s : Int) = F at *
  clear hF
  generalize bhd c (s : Int) = B at *
  go_enter Tryz.func35, Tryz.ntmps35
  go_wp2_with fail
  refine hsp.mono ?_
  rintro r w1 ⟨rfl, rfl⟩
  clear hsp
  go_wp2_with fail
  refine hb.mono ?_
  rintro r w2 ⟨rfl, l2⟩
  have HW2 : Hid (Wk W c ws T e l F (.slice none 0 0) w2 [] l p) := HW0.out.below l2
  clear hb HW0 l2
  go_wp2
  go_loopw [6, 7] (fun v k wr => ∃ (a q : Int) (pre l' : List Int), k = .int .i64 a ∧ F ≤ a ∧ a ≤ 400000 ∧ Hid (Wk W c ws T e l a v wr pre l' q)) (fun _ k _ => (T - intOf k).toNat)
  case atStart => exact ⟨F, p, [], l, rfl, Int.le_refl _, by omega, HW2⟩
  case round =>
    obtain ⟨a, q, pre, l', rfl, hFa, hab, HK⟩ := hrel
    clear HW2
    obtain ⟨va, vc, rfl⟩ := own_sl HK.out.own
    go_wp2_with fail
    refine (HT.out _ HK.out.bel).mono ?_
    rintro r w3 ⟨rfl, l3⟩
    have HK3 : Hid (Wk W c ws T e l a (.slice va pre.length vc) w3 pre l' q) := HK.out.below l3
    clear HK l3
    by_cases hlt : a < T
    · by_cases hst : Stands c ws T a
      · have hat : At c x ws a := by
          have e1 := HAt.out a hFa hlt
          refine ⟨by rw [e1]; omega, by rw [e1, ← HTE.out]; exact hlt, by rw [e1, ← HTE.out]; exact hst⟩
        have hh := rhead_at b g c x sw ws a hat (HW.out a) w3 (HR.out w3 HK3.out.bel)
        unfold hdv at hh
        obtain rfl : q = a := past_stop HK3.out.past (.inr (fun h => by have := hst.1.1; have := h.1.1; omega))
        obtain ⟨l2, q2, hl', hp2, hw2⟩ : ∃ l2 q2, l' = q :: l2 ∧ Past c ws T (q + osz c ws q) q2 ∧ Walk c ws T q2 l2 e := by
          have hwk := HK3.out.walk
          cases hwk with
          | done h => omega
          | fail h hn => exact absurd hst hn
          | obj h hs hp r => exact ⟨_, _, rfl, hp, r⟩
        subst hl'
        have hsz := hst.2
        unfold osz at hsz hp2
        have NK : Hid (Past c ws T (q + (2 + ptOf (wat c ws q) + rwOf (wat c ws q))) q2 ∧ Walk c ws T q2 l2 e) := ⟨hp2, hw2⟩
        have hpt := pt_in (wat c ws q)
        have hrw := rw_in (wat c ws q)
        have hlen : pre.length < 1000000 := by
          have := HK3.out.eq
          rw [this] at hl
          simp at hl
          omega
        clear hp2 hw2 hst hat
        generalize wat c ws (q + 1) = m1 at *
        generalize kdOf (wat c ws q) = K at *
        generalize ptOf (wat c ws q) = P at *
        generalize rwOf (wat c ws q) = R at *
        generalize agOf (wat c ws q) = A at *
        generalize stOf (wat c ws q) = U at *
        generalize hdOf (wat c ws q) = H at *
        obtain ⟨p0, p1⟩ := hpt
        obtain ⟨r0, r1⟩ := hrw
        go_wp2_with fail
        refine hh.mono ?_
        rintro r w4 ⟨rfl, l4⟩
        have HK4 : Hid (Wk W c ws T e l q (.slice va pre.length vc) w4 pre (q :: l2) q) := HK3.out.below l4
        clear hh HK3 l4
        go_upto_region 7 with fail
        have hY := Box.new w4 46 (.int .u64 m1) (.int .i64 K) (.int .i64 P) (.int .i64 R) (.int .i64 A) (.int .i64 U) (.bool H)
        have HK5 : Hid (Wk W c ws T e l q (.slice va pre.length vc) (w4.alloc (.cells (hcells m1 K P R A U H) 46)) pre (q :: l2) q) := HK4.out.below (Below.alloc (Below.refl _ _) (Nat.le_refl _) _)
        have hne : some w4.heap.size ≠ (Value.slice va pre.length vc).ownBlock := fun hh => Nat.lt_irrefl _ (row_lt HK4.out.own _ hh.symm)
        have hylt := hY.lt
        clear HK4
        generalize (w4.alloc (.cells (hcells m1 K P R A U H) 46)) = w5 at *
        generalize w4.heap.size = BH at *
        have HY : Hid (Box w5 BH (.int .u64 m1) (.int .i64 K) (.int .i64 P) (.int .i64 R) (.int .i64 A) (.int .i64 U) (.bool H) ∧ some BH ≠ (Value.slice va pre.length vc).ownBlock ∧ BH < w5.heap.size) := ⟨hY, hne, hylt⟩
        clear hY hne hylt
        have hs5 : W.heap.size ≤ w5.heap.size := HK5.out.bel.size
        go_wp2_with (at_builtin; refine wpList_append_own_at _ rfl _ _ 40 rfl W.heap.size 3 i0 (.int .i64 0) 1 8 Tryz.underlying40 HI0.out.1 HI0.out.2.1 HI0.out.2.2.1 HI0.out.2.2.2 rfl (by decide) _ _ _ rfl (HK5.out.own.alloc _) ⟨w5.heap.size, 0, none⟩ 1 1 [.int .i64 q] rfl rfl (cells_new _ _ _) (by simp [Value.oneCell']) (by simp [maxLen]; omega) (by omega) (by simp; omega) ?_)
        intro v' w6 ho hg _ _
        have HK6 : Hid (Wk W c ws T e l (q + (2 + P + R)) v' w6 (pre ++ [q]) l2 q2) := ⟨NK.out.1, NK.out.2, by rw [HK5.out.eq]; simp, by rw [List.length_append, List.map_append]; exact ho, (HK5.out.bel.alloc HK5.out.bel.size _).grown hg (by have := HK5.out.bel.size; simp; omega) (fun k hk => own_ge HK5.out.own k hk)⟩
        have y0 := grow_cell hg HY.out.2.2 HY.out.1.h0 HY.out.2.1
        have y1 := grow_cell hg HY.out.2.2 HY.out.1.h1 HY.out.2.1
        have y2 := grow_cell hg HY.out.2.2 HY.out.1.h2 HY.out.2.1
        have y3 := grow_cell hg HY.out.2.2 HY.out.1.h3 HY.out.2.1
        have y4 := grow_cell hg HY.out.2.2 HY.out.1.h4 HY.out.2.1
        have y5 := grow_cell hg HY.out.2.2 HY.out.1.h5 HY.out.2.1
        have y6 := grow_cell hg HY.out.2.2 HY.out.1.h6 HY.out.2.1
        clear hg ho HK5 HY NK
        obtain ⟨va2, vc2, rfl⟩ := own_sl HK6.out.own
        go_wp2_with fail
        clear y0 y1 y2 y3 y4 y5 y6
        refine (rsizeh_any m1 K P R A U H p0 p1 r0 r1 w6).mono ?_
        rintro r w7 ⟨rfl, hw7⟩
        have HK7 : Hid (Wk W c ws T e l (q + (2 + P + R)) (.slice va2 (pre ++ [q]).length vc2) w7 (pre ++ [q]) l2 q2) := HK6.out.below (by rw [hw7]; exact Below.alloc (Below.refl _ _) (Nat.le_refl _) _)
        rw [show (pre ++ [q]).length = pre.length + 1 by simp] at HK7
        clear hw7 HK6
        go_wp2
        go_roundw
        case rel => exact ⟨q + (2 + P + R), q2, pre ++ [q], l2, rfl, by omega, by omega, HK7⟩
        case measure => simp [intOf]; omega
      · have hnat : ¬ At c x ws a := fun hat => hst (by
          have e1 := HAt.out a hFa hlt
          have := hat.2.2
          rw [e1, ← HTE.out] at this
          exact this)
        have hh := rhead_nat b g c x sw ws a hnat (HW.out a) w3 (HR.out w3 HK3.out.bel)
        clear hnat
        go_wp2_with fail
        refine hh.mono ?_
        rintro r w4 ⟨rfl, l4⟩
        have HK5 : Hid (Wk W c ws T e l a (.slice va pre.length vc) (w4.alloc (.cells (hcells 0 0 0 0 0 0 false) 46)) pre l' q) := (HK3.out.below l4).below (Below.alloc (Below.refl _ _) (Nat.le_refl _) _)
        clear hh HK3 l4
        go_upto_region 7 with fail
        generalize (w4.alloc (.cells (hcells 0 0 0 0 0 0 false) 46)) = w5 at *
        go_wp2_with fail
        refine (rword_any b g c x sw ws a w5 (HR.out w5 HK5.out.bel)).mono ?_
        rintro r w6 ⟨rfl, l6⟩
        have HK6 : Hid (Wk W c ws T e l a (.slice va pre.length vc) w6 pre l' q) := HK5.out.below l6
        clear HK5 l6
        have hfd := rfilled_any (wat c ws a) (HW.out a) w6
        by_cases htag : IsTag 3 (wat c ws a)
        · have htn : tn 3 (wat c ws a) = wat c ws a / 4 := by unfold tn; rw [if_pos htag]
          have hn1 : 1 ≤ wat c ws a / 4 := htag.2.1
          have hn2 : wat c ws a / 4 ≤ 1099511627776 := htag.2.2
          rw [htn, decide_eq_true htag] at hfd
          have HF1 : Hid (wat c ws a / 4 ≤ T - a → Wk W c ws T e l (a + wat c ws a / 4) (.slice va pre.length vc) w6 pre l' q) := fun hle => ⟨past_next HK6.out.past hlt htag hle, HK6.out.walk, HK6.out.eq, HK6.out.own, HK6.out.bel⟩
          have HF2 : Hid (T - a < wat c ws a / 4 → l = pre ∧ e = a) := fun hgt => by
            obtain rfl : q = a := past_stop HK6.out.past (.inr (fun hh => by have := hh.2; omega))
            have hwk := HK6.out.walk
            have heq := HK6.out.eq
            cases hwk with
            | done h => omega
            | fail h _ => exact ⟨by simpa using heq, rfl⟩
            | obj h hs _ _ => exact absurd hs hst
          clear htag htn hst
          generalize wat c ws a / 4 = n at *
          generalize wat c ws a = m at *
          go_wp2_with fail
          refine hfd.mono ?_
          rintro r w7 ⟨rfl, rfl⟩
          clear hfd
          go_wp2_with fail
          refine (HT.out _ HK6.out.bel).mono ?_
          rintro r w8 ⟨rfl, l8⟩
          by_cases hle : n ≤ T - a
          · have HK8 : Hid (Wk W c ws T e l (a + n) (.slice va pre.length vc) w8 pre l' q) := (HF1.out hle).below l8
            have hgt : ¬ T < a + n := by omega
            clear HF1 HF2 HK6 l8
            go_wp2
            go_roundw
            case rel => exact ⟨a + n, q, pre, l', rfl, by omega, by omega, HK8⟩
            case measure => simp [intOf]; omega
          · have HK8 : Hid (Wk W c ws T e l a (.slice va pre.length vc) w8 pre l' q) := HK6.out.below l8
            have hgt : T < a + n := by omega
            have hfin : Hid (l = pre ∧ e = a) := HF2.out (by omega)
            clear HF1 HF2 HK6 l8
            go_wp2
            go_ret2
            exact ⟨.slice va pre.length vc, by rw [HE1.out (by rw [hfin.out.2]; exact hlt), hfin.out.2]; rfl, by rw [hfin.out.1]; exact HK8.out.own, HK8.out.bel⟩
        · have htn : tn 3 (wat c ws a) = 0 := by unfold tn; rw [if_neg htag]
          rw [htn, decide_eq_false htag] at hfd
          have hfin : Hid (l = pre ∧ e = a) := by
            obtain rfl : q = a := past_stop HK6.out.past (.inr (fun hh => htag hh.1))
            have hwk := HK6.out.walk
            have heq := HK6.out.eq
            cases hwk with
            | done h => omega
            | fail h _ => exact ⟨by simpa using heq, rfl⟩
            | obj h hs _ _ => exact absurd hs hst
          clear htag htn hst
          generalize wat c ws a = m at *
          go_wp2_with fail
          refine hfd.mono ?_
          rintro r w7 ⟨rfl, rfl⟩
          clear hfd
          go_wp2
          go_ret2
          exact ⟨.slice va pre.length vc, by rw [HE1.out (by rw [hfin.out.2]; exact hlt), hfin.out.2]; rfl, by rw [hfin.out.1]; exact HK6.out.own, HK6.out.bel⟩
    · have hq := past_stop HK3.out.past (.inl (by omega))
      have hfin : Hid (l = pre ∧ ¬ e < T) := by
        have hwk := HK3.out.walk
        have heq := HK3.out.eq
        cases hwk with
        | done h => exact ⟨by simpa using heq, by omega⟩
        | fail h _ => omega
        | obj h _ _ _ => omega
      clear hq
      go_wp2
      go_ret2
      exact ⟨.slice va pre.length vc, by rw [HE0.out (by have := hfin.out.2; omega)]; rfl, by rw [hfin.out.1]; exact HK3.out.own, HK3.out.bel⟩

end Go.Proofs.YtpiemfchjlihfaaGreatDoor

/-
  The document's arena: the check.
-/
set_option linter.unusedVariables false
set_option maxRecDepth 20000
namespace Go.Proofs.YtpiemfchjlihfaaGreatDoor
open Go.RowKit Go.Shelf

/-- A space's walk: its objects, and where it ends. -/
structure Goes (c : Cfg) (x : Tps) (ws : Nat → Int) (s : Nat) (l : List Int) (e : Int) : Prop where
  go : ∃ p, Past c ws (x.top s) (fst c s) p ∧ Walk c ws (x.top s) p l e
  len : l.length < 1000000

section
variable (b : Nat) (g : Nat → Nat) (c : Cfg) (x : Tps) (sw : Bool) (ws : Nat → Int)

set_option maxHeartbeats 2000000 in
theorem rcheck_yes (L : Nat → List Int) (E : Nat → Int) (hg : ∀ s, 1 ≤ s → s ≤ 4 → Goes c x ws s (L s) (E s)) (ht : ∀ s : Nat, 1 ≤ s → s ≤ 4 → x.top s ≤ E s) (hw : ∀ j, Wd (wat c ws j)) (w : World) (h : Ra w b g c x sw ws) :
    Calls Tryz.prog 40 #[.pointer (some ⟨b, 0, none⟩)] w fun e w' => e = .returned (.tuple #[.int .i64 0, .int .i64 0]) ∧ Below w.heap.size w w' := by
  have HW : Hid (∀ (s : Nat) w1, 1 ≤ s → s ≤ 4 → Below w.heap.size w w1 → Calls Tryz.prog 35 #[.pointer (some ⟨b, 0, none⟩), .int .i64 s] w1 fun e w' => (∃ v, e = .returned (.tuple #[v, .int .i64 0])) ∧ Below w1.heap.size w1 w') := fun s w1 s1 s4 l => by
    obtain ⟨p, hp, hwk⟩ := (hg s s1 s4).go
    refine (rwalk_any b g c x sw ws s s1 s4 (L s) p (E s) hp hwk (hg s s1 s4).len hw w1 (h.below l)).mono ?_
    rintro r w' ⟨v, rfl, -, bl⟩
    rw [if_neg (by have := ht s s1 s4; omega)]
    exact ⟨⟨v, rfl⟩, bl⟩
  clear h hg ht hw
  go_enter Tryz.func40, Tryz.ntmps40
  go_wp2
  go_loopw [4] (fun v wr => ∃ s : Nat, 1 ≤ s ∧ s ≤ 5 ∧ v = .int .i64 s ∧ Below w.heap.size w wr) (fun v _ => 5 - (intOf v).toNat)
  case atStart => exact ⟨1, by decide, by decide, rfl, Below.refl _ _⟩
  case round =>
    obtain ⟨s, h1, h5, rfl, bl⟩ := hrel
    by_cases h4 : s ≤ 4
    · have hs5 : (s : Int) < 5 := by omega
      go_wp2_with fail
      refine (HW.out s _ h1 h4 bl).mono ?_
      rintro e w1 ⟨⟨v, rfl⟩, l1⟩
      have b1 := bl.trans (l1.mono bl.size)
      clear bl l1
      go_wp2
      go_roundw
      case rel => exact ⟨s + 1, by omega, by omega, by go_num, b1⟩
      case measure => simp [intOf]; omega
    · obtain rfl : s = 5 := by omega
      go_wp2
      go_ret2
      exact ⟨rfl, bl⟩

set_option maxHeartbeats 2000000 in
theorem rcheck_no (L : Nat → List Int) (E : Nat → Int) (t : Nat) (t1 : 1 ≤ t) (t4 : t ≤ 4) (hg : ∀ s, 1 ≤ s → s ≤ t → Goes c x ws s (L s) (E s)) (ht : ∀ s : Nat, 1 ≤ s → s < t → x.top s ≤ E s) (hE : E t < x.top t) (hE0 : 0 < E t) (hw : ∀ j, Wd (wat c ws j)) (w : World) (h : Ra w b g c x sw ws) :
    Calls Tryz.prog 40 #[.pointer (some ⟨b, 0, none⟩)] w fun e w' => e = .returned (.tuple #[.int .i64 (E t), .int .i64 31]) ∧ Below w.heap.size w w' := by
  have HW : Hid (∀ (s : Nat) w1, 1 ≤ s → s < t → Below w.heap.size w w1 → Calls Tryz.prog 35 #[.pointer (some ⟨b, 0, none⟩), .int .i64 s] w1 fun e w' => (∃ v, e = .returned (.tuple #[v, .int .i64 0])) ∧ Below w1.heap.size w1 w') := fun s w1 s1 s4 l => by
    obtain ⟨p, hp, hwk⟩ := (hg s s1 (by omega)).go
    refine (rwalk_any b g c x sw ws s s1 (by omega) (L s) p (E s) hp hwk (hg s s1 (by omega)).len hw w1 (h.below l)).mono ?_
    rintro r w' ⟨v, rfl, -, bl⟩
    rw [if_neg (by have := ht s s1 s4; omega)]
    exact ⟨⟨v, rfl⟩, bl⟩
  have HV : Hid (∀ w1, Below w.heap.size w w1 → Calls Tryz.prog 35 #[.pointer (some ⟨b, 0, none⟩), .int .i64 t] w1 fun e w' => (∃ v, e = .returned (.tuple #[v, .int .i64 (E t)])) ∧ Below w1.heap.size w1 w') := fun w1 l => by
    obtain ⟨p, hp, hwk⟩ := (hg t t1 (by omega)).go
    refine (rwalk_any b g c x sw ws t t1 t4 (L t) p (E t) hp hwk (hg t t1 (by omega)).len hw w1 (h.below l)).mono ?_
    rintro r w' ⟨v, rfl, -, bl⟩
    rw [if_pos hE]
    exact ⟨⟨v, rfl⟩, bl⟩
  clear h hg ht hw hE
  generalize E t = ee at *
  go_enter Tryz.func40, Tryz.ntmps40
  go_wp2
  go_loopw [4] (fun v wr => ∃ s : Nat, 1 ≤ s ∧ s ≤ t ∧ v = .int .i64 s ∧ Below w.heap.size w wr) (fun v _ => 5 - (intOf v).toNat)
  case atStart => exact ⟨1, by decide, t1, rfl, Below.refl _ _⟩
  case round =>
    obtain ⟨s, h1, h5, rfl, bl⟩ := hrel
    have hs5 : (s : Int) < 5 := by omega
    by_cases h4 : s < t
    · go_wp2_with fail
      refine (HW.out s _ h1 h4 bl).mono ?_
      rintro e w1 ⟨⟨v, rfl⟩, l1⟩
      have b1 := bl.trans (l1.mono bl.size)
      clear bl l1
      go_wp2
      go_roundw
      case rel => exact ⟨s + 1, by omega, by omega, by go_num, b1⟩
      case measure => simp [intOf]; omega
    · obtain rfl : s = t := by omega
      go_wp2_with fail
      refine (HV.out _ bl).mono ?_
      rintro e w1 ⟨⟨v, rfl⟩, l1⟩
      have b1 := bl.trans (l1.mono bl.size)
      clear bl l1
      go_wp2
      go_ret2
      exact ⟨rfl, b1⟩
end

end Go.Proofs.YtpiemfchjlihfaaGreatDoor

