/-
  plays: the other calls. (Printed by mkPB6.py.)
-/
import Derived.Test.YtpiemfchjlihfaaGreatDoorPB5
set_option linter.unusedVariables false
set_option maxRecDepth 20000
namespace Go.Proofs.YtpiemfchjlihfaaGreatDoor
open Go.RowKit Go.Shelf

theorem among13_any (a n : Int) (h1 : -9223372036854775808 ≤ a) (h2 : a < 9223372036854775808) (hn : 0 < n ∧ n ≤ 1000000) (w : World) :
    Calls Tryz.prog 25 #[.int .i64 a, .int .i64 n] w fun e w' => e = .returned (.int .i64 ((if a < 0 then -(a + 1) else a) % n)) ∧ w = w' := by
  have hz : ¬ n = 0 := by omega
  by_cases h : a < 0
  · rw [if_pos h]
    have hm : (-(a + 1)).tmod n = -(a + 1) % n := Int.tmod_eq_emod_of_nonneg (by omega)
    have hm0 : 0 ≤ -(a + 1) % n := Int.emod_nonneg _ hz
    have hm1 : -(a + 1) % n < n := Int.emod_lt_of_pos _ hn.1
    generalize hM : -(a + 1) % n = M at hm hm0 hm1 ⊢
    clear hM
    go_enter Tryz.func25, Tryz.ntmps25
    go_wp2
    go_ret
    refine ⟨?_, rfl⟩
    first | rfl | (simp [hm])
  · rw [if_neg h]
    have hm : a.tmod n = a % n := Int.tmod_eq_emod_of_nonneg (by omega)
    have hm0 : 0 ≤ a % n := Int.emod_nonneg _ hz
    have hm1 : a % n < n := Int.emod_lt_of_pos _ hn.1
    generalize hM : a % n = M at hm hm0 hm1 ⊢
    clear hM
    go_enter Tryz.func25, Tryz.ntmps25
    go_wp2
    go_ret
    refine ⟨?_, rfl⟩
    first | rfl | (simp [hm])

theorem among13_nat (a : Int) (n : Nat) (h1 : -9223372036854775808 ≤ a) (h2 : a < 9223372036854775808) (hn : 0 < n ∧ n ≤ 1000000) : ∃ v : Nat, v < n ∧ ∀ w : World, Calls Tryz.prog 25 #[.int .i64 a, .int .i64 n] w fun e w' => e = .returned (.int .i64 v) ∧ w = w' := by
  have hz : (n : Int) ≠ 0 := by omega
  have hm0 : 0 ≤ (if a < 0 then -(a + 1) else a) % (n : Int) := Int.emod_nonneg _ hz
  have hm1 : (if a < 0 then -(a + 1) else a) % (n : Int) < n := Int.emod_lt_of_pos _ (by omega)
  obtain ⟨v, hv⟩ : ∃ v : Nat, (if a < 0 then -(a + 1) else a) % (n : Int) = v := ⟨((if a < 0 then -(a + 1) else a) % (n : Int)).toNat, by omega⟩
  refine ⟨v, by omega, fun w => ?_⟩
  rw [← hv]
  exact among13_any a n h1 h2 (by omega) w

abbrev cbig : Cfg := ⟨2000, 64, 64, 64, 0, 1, 1, 50, 1, 2, 1, 0, 0, 1⟩

section
variable {n0 : Nat} {w : World} {pb b ab ag vb ga gr N rb : Nat} {g : Nat → Nat} {c : Cfg} {Th : List Ob} {lv : Value}

set_option maxHeartbeats 8000000 in
theorem plays_room (S : Pz n0 w pb b ab ag vb ga gr N rb g c Th lv) (hn0 : n0 ≤ w.heap.size) (o : Op13) (ho : o.Ok) (hk : o.k = 2) :
    Calls Tryz.prog 9 #[.pointer (some ⟨pb, 0, none⟩), o.val] w fun e w' => e = .returned (.bool true) ∧ Below n0 w w' ∧ ∃ Th' lv', Pz n0 w' pb b ab ag vb ga gr N rb g c Th' lv' := by
  have HS0 : Hid (Pz n0 w pb b ab ag vb ga gr N rb g c Th lv) := S
  have Hn0 : Hid (n0 ≤ w.heap.size) := hn0
  have HO : Hid o.Ok := ho
  clear S hn0 ho
  go_enter Tryz.func9, Tryz.ntmps9
  go_upto_region 1 with fail
  have B0 : Below w.heap.size w (w.alloc (.cells o.cells 48)) := Below.alloc (Below.refl _ _) (Nat.le_refl _) _
  have X0 := heap_alloc_new w (.cells o.cells 48)
  generalize w.alloc (.cells o.cells 48) = v at *
  have HX : Hid (v.heap[w.heap.size]? = some (.cells o.cells 48 (0, 0))) := X0
  have HB : Hid (Below w.heap.size w v) := B0
  have HS : Hid (Pz n0 v pb b ab ag vb ga gr N rb g c Th lv) := HS0.out.below B0
  have Hoff : Hid (w.heap.size ∉ pf b ab ag vb ga gr rb g) := fun hm => Nat.lt_irrefl _ (HS0.out.lt_pf _ hm)
  have x0 : v.cell? ⟨w.heap.size, 0, none⟩ = some (.int .i64 2) := by rw [← hk]; exact cell_of_row _ _ 0 _ _ _ X0
  clear X0 B0
  obtain ⟨top, ws, B, at_, rs, L, hpc⟩ := HS.out.pc
  obtain ⟨vv, r1, r2⟩ := hpc.room o.t
  have H1 : Hid (∀ q : Kg.Bel v, Calls Tryz.prog 19 #[.pointer (some ⟨b, 0, none⟩), .pointer (some ⟨ab, 0, none⟩), .int .i64 o.t] q.v fun e w' => e = .returned (.int .i64 vv) ∧ Below q.v.heap.size q.v w') := fun q => r1 q.v q.h
  have H2 : Hid (∀ q : Kg.Bel v, Calls Tryz.prog 20 #[.pointer (some ⟨vb, 0, none⟩), .pointer (some ⟨rb, 0, none⟩), .int .i64 o.t] q.v fun e w' => e = .returned (.int .i64 vv) ∧ Below q.v.heap.size q.v w') := fun q => r2 q.v q.h
  clear hpc r1 r2
  go_upto_region 15 with fail
  clear x0
  have hXl : w.heap.size < v.heap.size := (Array.getElem?_eq_some_iff.1 HX.out).1
  have hPl : pb < v.heap.size := (Array.getElem?_eq_some_iff.1 HS.out.pq).1
  haveI hinh : Inhabited (Kg.Bel v) := ⟨⟨v, Below.refl _ _⟩⟩
  have o1 : ∀ q : Kg.Bel v, q.v.cell? ⟨w.heap.size, 1, none⟩ = some (.int .i64 o.t) := fun q => (q.h.cell (p := ⟨w.heap.size, 1, none⟩) hXl).trans (cell_of_row _ _ 1 _ _ _ HX.out)
  have p0 : ∀ q : Kg.Bel v, q.v.cell? ⟨pb, 0, none⟩ = some (.pointer (some ⟨ab, 0, none⟩)) := fun q => (q.h.cell (p := ⟨pb, 0, none⟩) hPl).trans (cell_of_row _ _ 0 _ _ _ HS.out.pq)
  have p1 : ∀ q : Kg.Bel v, q.v.cell? ⟨pb, 1, none⟩ = some (.pointer (some ⟨b, 0, none⟩)) := fun q => (q.h.cell (p := ⟨pb, 1, none⟩) hPl).trans (cell_of_row _ _ 1 _ _ _ HS.out.pq)
  have p2 : ∀ q : Kg.Bel v, q.v.cell? ⟨pb, 2, none⟩ = some (.pointer (some ⟨rb, 0, none⟩)) := fun q => (q.h.cell (p := ⟨pb, 2, none⟩) hPl).trans (cell_of_row _ _ 2 _ _ _ HS.out.pq)
  have p3 : ∀ q : Kg.Bel v, q.v.cell? ⟨pb, 3, none⟩ = some (.pointer (some ⟨vb, 0, none⟩)) := fun q => (q.h.cell (p := ⟨pb, 3, none⟩) hPl).trans (cell_of_row _ _ 3 _ _ _ HS.out.pq)
  refine Kg.region_below Kg.mixed (by kernel_rfl) ?_
  repeat (go_big_quiet_step (first | (go_at_call 19; exact Kg.calls_bel (H1.out _)) | (go_at_call 20; exact Kg.calls_bel (H2.out _))))
  refine wpQuiet_nil ?_
  rintro w4 ⟨⟨w4, b4⟩, rfl⟩
  have HS4 : Hid (Pz n0 w4 pb b ab ag vb ga gr N rb g c Th lv) := HS.out.below b4
  have HB4 : Hid (Below n0 w w4) := (HB.out.trans (b4.mono HB.out.size)).mono Hn0.out
  clear hXl hPl hinh o1 p0 p1 p2 p3 b4 H1 H2
  go_wp2
  go_ret
  exact ⟨rfl, HB4.out, Th, lv, HS4.out⟩

set_option maxHeartbeats 8000000 in
theorem plays_rest (S : Pz n0 w pb b ab ag vb ga gr N rb g c Th lv) (hn0 : n0 ≤ w.heap.size) (o : Op13) (ho : o.Ok) (hk : o.k = 3) :
    Calls Tryz.prog 9 #[.pointer (some ⟨pb, 0, none⟩), o.val] w fun e w' => e = .returned (.bool true) ∧ Below n0 w w' ∧ ∃ Th' lv', Pz n0 w' pb b ab ag vb ga gr N rb g c Th' lv' := by
  have HS0 : Hid (Pz n0 w pb b ab ag vb ga gr N rb g c Th lv) := S
  have Hn0 : Hid (n0 ≤ w.heap.size) := hn0
  have HO : Hid o.Ok := ho
  clear S hn0 ho
  go_enter Tryz.func9, Tryz.ntmps9
  go_upto_region 1 with fail
  have B0 : Below w.heap.size w (w.alloc (.cells o.cells 48)) := Below.alloc (Below.refl _ _) (Nat.le_refl _) _
  have X0 := heap_alloc_new w (.cells o.cells 48)
  generalize w.alloc (.cells o.cells 48) = v at *
  have HX : Hid (v.heap[w.heap.size]? = some (.cells o.cells 48 (0, 0))) := X0
  have HB : Hid (Below w.heap.size w v) := B0
  have HS : Hid (Pz n0 v pb b ab ag vb ga gr N rb g c Th lv) := HS0.out.below B0
  have Hoff : Hid (w.heap.size ∉ pf b ab ag vb ga gr rb g) := fun hm => Nat.lt_irrefl _ (HS0.out.lt_pf _ hm)
  have x0 : v.cell? ⟨w.heap.size, 0, none⟩ = some (.int .i64 3) := by rw [← hk]; exact cell_of_row _ _ 0 _ _ _ X0
  clear X0 B0
  obtain ⟨top, ws, B, at_, rs, L, hpc⟩ := HS.out.pc
  obtain ⟨qq, vv, r1, r2⟩ := hpc.rest o.t
  have H1 : Hid (∀ q : Kg.Bel v, Calls Tryz.prog 21 #[.pointer (some ⟨b, 0, none⟩), .int .i64 o.t] q.v fun e w' => e = .returned (.tuple #[.int .i64 qq, .int .i64 vv]) ∧ Below q.v.heap.size q.v w') := fun q => r1 q.v q.h
  have H2 : Hid (∀ w2, Below v.heap.size v w2 → Calls Tryz.prog 22 #[.pointer (some ⟨vb, 0, none⟩), .int .i64 o.t] w2 fun e w' => e = .returned (.tuple #[.int .i64 qq, .int .i64 vv]) ∧ Below w2.heap.size w2 w') := r2
  clear hpc r1 r2
  go_upto_region 17 with fail
  clear x0
  have hXl : w.heap.size < v.heap.size := (Array.getElem?_eq_some_iff.1 HX.out).1
  have hPl : pb < v.heap.size := (Array.getElem?_eq_some_iff.1 HS.out.pq).1
  haveI hinh : Inhabited (Kg.Bel v) := ⟨⟨v, Below.refl _ _⟩⟩
  have o1 : ∀ q : Kg.Bel v, q.v.cell? ⟨w.heap.size, 1, none⟩ = some (.int .i64 o.t) := fun q => (q.h.cell (p := ⟨w.heap.size, 1, none⟩) hXl).trans (cell_of_row _ _ 1 _ _ _ HX.out)
  have p1 : ∀ q : Kg.Bel v, q.v.cell? ⟨pb, 1, none⟩ = some (.pointer (some ⟨b, 0, none⟩)) := fun q => (q.h.cell (p := ⟨pb, 1, none⟩) hPl).trans (cell_of_row _ _ 1 _ _ _ HS.out.pq)
  refine Kg.region_below Kg.mixed (by kernel_rfl) ?_
  repeat (go_big_quiet_step (first | (go_at_call 21; exact Kg.calls_bel (H1.out _))))
  refine wpQuiet_nil ?_
  rintro w4 ⟨⟨w4, b4⟩, rfl⟩
  have HS4 : Hid (Pz n0 w4 pb b ab ag vb ga gr N rb g c Th lv) := HS.out.below b4
  have HX4 : Hid (w4.heap[w.heap.size]? = some (.cells o.cells 48 (0, 0))) := (b4.block _ hXl).trans HX.out
  have HB4 : Hid (Below w.heap.size w w4) := HB.out.trans (b4.mono HB.out.size)
  have H3 : Hid (∀ q : Kg.Bel w4, Calls Tryz.prog 22 #[.pointer (some ⟨vb, 0, none⟩), .int .i64 o.t] q.v fun e w' => e = .returned (.tuple #[.int .i64 qq, .int .i64 vv]) ∧ Below q.v.heap.size q.v w') := fun q => H2.out q.v (b4.trans (q.h.mono b4.size))
  clear hXl hPl hinh o1 p1 b4 H1 H2
  go_upto_region 18 with fail
  have hXl : w.heap.size < w4.heap.size := (Array.getElem?_eq_some_iff.1 HX4.out).1
  have hPl : pb < w4.heap.size := (Array.getElem?_eq_some_iff.1 HS4.out.pq).1
  haveI hinh : Inhabited (Kg.Bel w4) := ⟨⟨w4, Below.refl _ _⟩⟩
  have o1 : ∀ q : Kg.Bel w4, q.v.cell? ⟨w.heap.size, 1, none⟩ = some (.int .i64 o.t) := fun q => (q.h.cell (p := ⟨w.heap.size, 1, none⟩) hXl).trans (cell_of_row _ _ 1 _ _ _ HX4.out)
  have p3 : ∀ q : Kg.Bel w4, q.v.cell? ⟨pb, 3, none⟩ = some (.pointer (some ⟨vb, 0, none⟩)) := fun q => (q.h.cell (p := ⟨pb, 3, none⟩) hPl).trans (cell_of_row _ _ 3 _ _ _ HS4.out.pq)
  refine Kg.region_below Kg.mixed (by kernel_rfl) ?_
  repeat (go_big_quiet_step (first | (go_at_call 22; exact Kg.calls_bel (H3.out _))))
  refine wpQuiet_nil ?_
  rintro w5 ⟨⟨w5, b5⟩, rfl⟩
  have HS5 : Hid (Pz n0 w5 pb b ab ag vb ga gr N rb g c Th lv) := HS4.out.below b5
  have HB5 : Hid (Below n0 w w5) := (HB4.out.trans (b5.mono HB4.out.size)).mono Hn0.out
  clear hXl hPl hinh o1 p3 b5 H3
  go_wp2
  go_ret
  exact ⟨rfl, HB5.out, Th, lv, HS5.out⟩

set_option maxHeartbeats 8000000 in
theorem plays_retire (S : Pz n0 w pb b ab ag vb ga gr N rb g c Th lv) (hn0 : n0 ≤ w.heap.size) (o : Op13) (ho : o.Ok) (hk : o.k = 4) :
    Calls Tryz.prog 9 #[.pointer (some ⟨pb, 0, none⟩), o.val] w fun e w' => e = .returned (.bool true) ∧ Below n0 w w' ∧ ∃ Th' lv', Pz n0 w' pb b ab ag vb ga gr N rb g c Th' lv' := by
  have HS0 : Hid (Pz n0 w pb b ab ag vb ga gr N rb g c Th lv) := S
  have Hn0 : Hid (n0 ≤ w.heap.size) := hn0
  have HO : Hid o.Ok := ho
  clear S hn0 ho
  go_enter Tryz.func9, Tryz.ntmps9
  go_upto_region 1 with fail
  have B0 : Below w.heap.size w (w.alloc (.cells o.cells 48)) := Below.alloc (Below.refl _ _) (Nat.le_refl _) _
  have X0 := heap_alloc_new w (.cells o.cells 48)
  generalize w.alloc (.cells o.cells 48) = v at *
  have HX : Hid (v.heap[w.heap.size]? = some (.cells o.cells 48 (0, 0))) := X0
  have HB : Hid (Below w.heap.size w v) := B0
  have HS : Hid (Pz n0 v pb b ab ag vb ga gr N rb g c Th lv) := HS0.out.below B0
  have Hoff : Hid (w.heap.size ∉ pf b ab ag vb ga gr rb g) := fun hm => Nat.lt_irrefl _ (HS0.out.lt_pf _ hm)
  have x0 : v.cell? ⟨w.heap.size, 0, none⟩ = some (.int .i64 4) := by rw [← hk]; exact cell_of_row _ _ 0 _ _ _ X0
  clear X0 B0
  go_upto_region 21 with fail
  clear x0
  have hXl : w.heap.size < v.heap.size := (Array.getElem?_eq_some_iff.1 HX.out).1
  have hPl : pb < v.heap.size := (Array.getElem?_eq_some_iff.1 HS.out.pq).1
  haveI hinh : Inhabited (Kg.Bel v) := ⟨⟨v, Below.refl _ _⟩⟩
  have p0 : ∀ q : Kg.Bel v, q.v.cell? ⟨pb, 0, none⟩ = some (.pointer (some ⟨ab, 0, none⟩)) := fun q => (q.h.cell (p := ⟨pb, 0, none⟩) hPl).trans (cell_of_row _ _ 0 _ _ _ HS.out.pq)
  have p1 : ∀ q : Kg.Bel v, q.v.cell? ⟨pb, 1, none⟩ = some (.pointer (some ⟨b, 0, none⟩)) := fun q => (q.h.cell (p := ⟨pb, 1, none⟩) hPl).trans (cell_of_row _ _ 1 _ _ _ HS.out.pq)
  refine Kg.below_call 8 Kg.mixed (by kernel_rfl) ?_
  simp only [List.take_succ_cons, List.take_zero, List.drop_succ_cons, List.drop_zero]
  repeat (go_big_quiet_step (fail))
  refine wpQuiet_nil ?_
  rintro w4 ⟨⟨w4, b4⟩, rfl⟩
  have HS4 : Hid (Pz n0 w4 pb b ab ag vb ga gr N rb g c Th lv) := HS.out.below b4
  have HB4 : Hid (Below w.heap.size w w4) := HB.out.trans (b4.mono HB.out.size)
  have HX4 : Hid (w4.heap[w.heap.size]? = some (.cells o.cells 48 (0, 0))) := (b4.block _ hXl).trans HX.out
  clear hXl hPl hinh p0 p1 b4
  obtain ⟨top, ws, B, at_, rs, L, hpc⟩ := HS4.out.pc
  have Hpc : Hid (Pc n0 w4 b ab ag vb ga gr N rb g c top ws B at_ rs L Th) := hpc
  have q := hpc.retireA (.pointer (some ⟨ab, 0, none⟩))
  clear hpc
  go_wp2_with fail
  refine q.mono ?_
  rintro e w5 ⟨rfl, t5, bw5⟩
  have Ht5 : Hid (Touch [b, ab, ag] w4 w5) := t5
  have Hbw5 : Hid (Bw n0 w5 b ab ag c (xt c top) ws (bfs0 B.n B.size)) := bw5
  have tin : ∀ q, q ∈ [b, ab, ag] → q ∈ pf b ab ag vb ga gr rb g := fun q hq => List.mem_append.2 (.inl hq)
  have HT5 : Hid (Touch (pf b ab ag vb ga gr rb g) w4 w5) := (Touch.refl _ _).then t5 (fun z hz => .inl (tin z hz))
  have HQ5 : Hid (w5.heap[pb]? = some (.cells #[.pointer (some ⟨ab, 0, none⟩), .pointer (some ⟨b, 0, none⟩), .pointer (some ⟨rb, 0, none⟩), .pointer (some ⟨vb, 0, none⟩), lv] 42 (0, 0))) := (HS4.out.frame t5 tin).1.trans HS4.out.pq
  have HX5 : Hid (w5.heap[w.heap.size]? = some (.cells o.cells 48 (0, 0))) := (t5.block _ (Array.getElem?_eq_some_iff.1 HX4.out).1 (fun hm => Hoff.out (tin _ hm))).trans HX4.out
  clear q bw5 t5 tin
  go_wp2_with fail
  refine Kg.thenQuiet_mk ?_
  refine wpQuiet_nil ?_
  go_upto_region 22 with fail
  have hXl : w.heap.size < w5.heap.size := (Array.getElem?_eq_some_iff.1 HX5.out).1
  have hPl : pb < w5.heap.size := (Array.getElem?_eq_some_iff.1 HQ5.out).1
  haveI hinh : Inhabited (Kg.Bel w5) := ⟨⟨w5, Below.refl _ _⟩⟩
  have p2 : ∀ q : Kg.Bel w5, q.v.cell? ⟨pb, 2, none⟩ = some (.pointer (some ⟨rb, 0, none⟩)) := fun q => (q.h.cell (p := ⟨pb, 2, none⟩) hPl).trans (cell_of_row _ _ 2 _ _ _ HQ5.out)
  have p3 : ∀ q : Kg.Bel w5, q.v.cell? ⟨pb, 3, none⟩ = some (.pointer (some ⟨vb, 0, none⟩)) := fun q => (q.h.cell (p := ⟨pb, 3, none⟩) hPl).trans (cell_of_row _ _ 3 _ _ _ HQ5.out)
  refine Kg.below_call 8 Kg.mixed (by kernel_rfl) ?_
  simp only [List.take_succ_cons, List.take_zero, List.drop_succ_cons, List.drop_zero]
  repeat (go_big_quiet_step (fail))
  refine wpQuiet_nil ?_
  rintro w6 ⟨⟨w6, b6⟩, rfl⟩
  have q := Hpc.out.retireB Ht5.out Hbw5.out b6 (.pointer (some ⟨rb, 0, none⟩))
  have HT6 : Hid (Touch (pf b ab ag vb ga gr rb g) w4 w6) := HT5.out.trans (Touch.of_below b6 _)
  clear hXl hPl hinh p2 p3 b6 Ht5 Hbw5 HT5 HQ5 HX5
  go_wp2_with fail
  refine q.mono ?_
  rintro e w7 ⟨rfl, t7, pc7⟩
  have HT7 : Hid (Touch (pf b ab ag vb ga gr rb g) w4 w7) := HT6.out.trans ((Touch.refl _ _).then t7 (fun z hz => .inl (List.mem_append.2 (.inr hz))))
  have HF7 : Hid (w7.heap[pb]? = w4.heap[pb]? ∧ w7.ownsRow n0 3 1 lv Th.length (ats Th)) := HS4.out.frame HT7.out (fun q hq => hq)
  have HP7 : Hid (Pc n0 w7 b ab ag vb ga gr N rb g c top ws (bfs0 B.n B.size) (fun _ => 0) (fun _ => 0) L Th) := pc7
  have HB7 : Hid (Below n0 w w7) := (HB4.out.mono Hn0.out).trans (HT7.out.below (Nat.le_trans Hn0.out HB4.out.size) HS4.out.lo_pf)
  have HZ : Hid (Pz n0 w7 pb b ab ag vb ga gr N rb g c Th lv) := ⟨⟨_, _, _, _, _, _, HP7.out⟩, HF7.out.1.trans HS4.out.pq, HF7.out.2, HS0.out.av, HS0.out.lo⟩
  clear q t7 pc7 HT6 Hpc
  go_wp2_with fail
  refine Kg.thenQuiet_mk ?_
  refine wpQuiet_nil ?_
  go_wp2
  go_ret
  exact ⟨rfl, HB7.out, Th, lv, HZ.out⟩

set_option maxHeartbeats 8000000 in
theorem plays_swap (S : Pz n0 w pb b ab ag vb ga gr N rb g c Th lv) (hn0 : n0 ≤ w.heap.size) (o : Op13) (ho : o.Ok) (hk : o.k = 7) :
    Calls Tryz.prog 9 #[.pointer (some ⟨pb, 0, none⟩), o.val] w fun e w' => e = .returned (.bool true) ∧ Below n0 w w' ∧ ∃ Th' lv', Pz n0 w' pb b ab ag vb ga gr N rb g c Th' lv' := by
  have HS0 : Hid (Pz n0 w pb b ab ag vb ga gr N rb g c Th lv) := S
  have Hn0 : Hid (n0 ≤ w.heap.size) := hn0
  have HO : Hid o.Ok := ho
  clear S hn0 ho
  go_enter Tryz.func9, Tryz.ntmps9
  go_upto_region 1 with fail
  have B0 : Below w.heap.size w (w.alloc (.cells o.cells 48)) := Below.alloc (Below.refl _ _) (Nat.le_refl _) _
  have X0 := heap_alloc_new w (.cells o.cells 48)
  generalize w.alloc (.cells o.cells 48) = v at *
  have HX : Hid (v.heap[w.heap.size]? = some (.cells o.cells 48 (0, 0))) := X0
  have HB : Hid (Below w.heap.size w v) := B0
  have HS : Hid (Pz n0 v pb b ab ag vb ga gr N rb g c Th lv) := HS0.out.below B0
  have Hoff : Hid (w.heap.size ∉ pf b ab ag vb ga gr rb g) := fun hm => Nat.lt_irrefl _ (HS0.out.lt_pf _ hm)
  have x0 : v.cell? ⟨w.heap.size, 0, none⟩ = some (.int .i64 7) := by rw [← hk]; exact cell_of_row _ _ 0 _ _ _ X0
  clear X0 B0
  go_upto_region 30 with fail
  clear x0
  have hXl : w.heap.size < v.heap.size := (Array.getElem?_eq_some_iff.1 HX.out).1
  have hPl : pb < v.heap.size := (Array.getElem?_eq_some_iff.1 HS.out.pq).1
  haveI hinh : Inhabited (Kg.Bel v) := ⟨⟨v, Below.refl _ _⟩⟩
  have p0 : ∀ q : Kg.Bel v, q.v.cell? ⟨pb, 0, none⟩ = some (.pointer (some ⟨ab, 0, none⟩)) := fun q => (q.h.cell (p := ⟨pb, 0, none⟩) hPl).trans (cell_of_row _ _ 0 _ _ _ HS.out.pq)
  have p1 : ∀ q : Kg.Bel v, q.v.cell? ⟨pb, 1, none⟩ = some (.pointer (some ⟨b, 0, none⟩)) := fun q => (q.h.cell (p := ⟨pb, 1, none⟩) hPl).trans (cell_of_row _ _ 1 _ _ _ HS.out.pq)
  refine Kg.below_call 8 Kg.mixed (by kernel_rfl) ?_
  simp only [List.take_succ_cons, List.take_zero, List.drop_succ_cons, List.drop_zero]
  repeat (go_big_quiet_step (fail))
  refine wpQuiet_nil ?_
  rintro w4 ⟨⟨w4, b4⟩, rfl⟩
  have HS4 : Hid (Pz n0 w4 pb b ab ag vb ga gr N rb g c Th lv) := HS.out.below b4
  have HB4 : Hid (Below w.heap.size w w4) := HB.out.trans (b4.mono HB.out.size)
  have HX4 : Hid (w4.heap[w.heap.size]? = some (.cells o.cells 48 (0, 0))) := (b4.block _ hXl).trans HX.out
  clear hXl hPl hinh p0 p1 b4
  obtain ⟨top, ws, B, at_, rs, L, hpc⟩ := HS4.out.pc
  have Hpc : Hid (Pc n0 w4 b ab ag vb ga gr N rb g c top ws B at_ rs L Th) := hpc
  have q := hpc.retireA (.pointer (some ⟨ab, 0, none⟩))
  clear hpc
  go_wp2_with fail
  refine q.mono ?_
  rintro e w5 ⟨rfl, t5, bw5⟩
  have Ht5 : Hid (Touch [b, ab, ag] w4 w5) := t5
  have Hbw5 : Hid (Bw n0 w5 b ab ag c (xt c top) ws (bfs0 B.n B.size)) := bw5
  have tin : ∀ q, q ∈ [b, ab, ag] → q ∈ pf b ab ag vb ga gr rb g := fun q hq => List.mem_append.2 (.inl hq)
  have HT5 : Hid (Touch (pf b ab ag vb ga gr rb g) w4 w5) := (Touch.refl _ _).then t5 (fun z hz => .inl (tin z hz))
  have HQ5 : Hid (w5.heap[pb]? = some (.cells #[.pointer (some ⟨ab, 0, none⟩), .pointer (some ⟨b, 0, none⟩), .pointer (some ⟨rb, 0, none⟩), .pointer (some ⟨vb, 0, none⟩), lv] 42 (0, 0))) := (HS4.out.frame t5 tin).1.trans HS4.out.pq
  have HX5 : Hid (w5.heap[w.heap.size]? = some (.cells o.cells 48 (0, 0))) := (t5.block _ (Array.getElem?_eq_some_iff.1 HX4.out).1 (fun hm => Hoff.out (tin _ hm))).trans HX4.out
  clear q bw5 t5 tin
  go_wp2_with fail
  refine Kg.thenQuiet_mk ?_
  refine wpQuiet_nil ?_
  go_upto_region 31 with fail
  have hXl : w.heap.size < w5.heap.size := (Array.getElem?_eq_some_iff.1 HX5.out).1
  have hPl : pb < w5.heap.size := (Array.getElem?_eq_some_iff.1 HQ5.out).1
  haveI hinh : Inhabited (Kg.Bel w5) := ⟨⟨w5, Below.refl _ _⟩⟩
  have p2 : ∀ q : Kg.Bel w5, q.v.cell? ⟨pb, 2, none⟩ = some (.pointer (some ⟨rb, 0, none⟩)) := fun q => (q.h.cell (p := ⟨pb, 2, none⟩) hPl).trans (cell_of_row _ _ 2 _ _ _ HQ5.out)
  have p3 : ∀ q : Kg.Bel w5, q.v.cell? ⟨pb, 3, none⟩ = some (.pointer (some ⟨vb, 0, none⟩)) := fun q => (q.h.cell (p := ⟨pb, 3, none⟩) hPl).trans (cell_of_row _ _ 3 _ _ _ HQ5.out)
  refine Kg.below_call 8 Kg.mixed (by kernel_rfl) ?_
  simp only [List.take_succ_cons, List.take_zero, List.drop_succ_cons, List.drop_zero]
  repeat (go_big_quiet_step (fail))
  refine wpQuiet_nil ?_
  rintro w6 ⟨⟨w6, b6⟩, rfl⟩
  have q := Hpc.out.retireB Ht5.out Hbw5.out b6 (.pointer (some ⟨rb, 0, none⟩))
  have HT6 : Hid (Touch (pf b ab ag vb ga gr rb g) w4 w6) := HT5.out.trans (Touch.of_below b6 _)
  clear hXl hPl hinh p2 p3 b6 Ht5 Hbw5 HT5 HQ5 HX5
  go_wp2_with fail
  refine q.mono ?_
  rintro e w7 ⟨rfl, t7, pc7⟩
  have HT7 : Hid (Touch (pf b ab ag vb ga gr rb g) w4 w7) := HT6.out.trans ((Touch.refl _ _).then t7 (fun z hz => .inl (List.mem_append.2 (.inr hz))))
  have HF7 : Hid (w7.heap[pb]? = w4.heap[pb]? ∧ w7.ownsRow n0 3 1 lv Th.length (ats Th)) := HS4.out.frame HT7.out (fun q hq => hq)
  have HP7 : Hid (Pc n0 w7 b ab ag vb ga gr N rb g c top ws (bfs0 B.n B.size) (fun _ => 0) (fun _ => 0) L Th) := pc7
  have HB7 : Hid (Below n0 w w7) := (HB4.out.mono Hn0.out).trans (HT7.out.below (Nat.le_trans Hn0.out HB4.out.size) HS4.out.lo_pf)
  have HZ : Hid (Pz n0 w7 pb b ab ag vb ga gr N rb g c Th lv) := ⟨⟨_, _, _, _, _, _, HP7.out⟩, HF7.out.1.trans HS4.out.pq, HF7.out.2, HS0.out.av, HS0.out.lo⟩
  clear q t7 pc7 HT6 Hpc
  go_wp2_with fail
  refine Kg.thenQuiet_mk ?_
  refine wpQuiet_nil ?_
  have k0 := HZ.out.cs.1
  have q := HP7.out.cutA
  go_wp2_with fail
  refine q.mono ?_
  rintro e w8 ⟨rfl, t8, bw8⟩
  have tin : ∀ q, q ∈ [b, ab, ag] → q ∈ pf b ab ag vb ga gr rb g := fun q hq => List.mem_append.2 (.inl hq)
  have HT8 : Hid (Touch (pf b ab ag vb ga gr rb g) w7 w8) := (Touch.refl _ _).then t8 (fun z hz => .inl (tin z hz))
  have hq8 := (HZ.out.frame HT8.out (fun q hq => hq)).1.trans HZ.out.pq
  have k2 : w8.cell? ⟨pb, 2, none⟩ = some (.pointer (some ⟨rb, 0, none⟩)) := cell_of_row _ _ 2 _ _ _ hq8
  have q2 := HP7.out.cutB t8 bw8 (Below.refl _ _)
  clear q t8 bw8 tin hq8 k0
  go_wp2_with fail
  refine q2.mono ?_
  rintro e w9 ⟨rfl, t9, pc9⟩
  have HT9 : Hid (Touch (pf b ab ag vb ga gr rb g) w7 w9) := HT8.out.trans ((Touch.refl _ _).then t9 (fun z hz => .inl (List.mem_append.2 (.inr hz))))
  have HQ9 : Hid (w9.heap[pb]? = some (.cells #[.pointer (some ⟨ab, 0, none⟩), .pointer (some ⟨b, 0, none⟩), .pointer (some ⟨rb, 0, none⟩), .pointer (some ⟨vb, 0, none⟩), lv] 42 (0, 0))) := (HZ.out.frame HT9.out (fun q hq => hq)).1.trans HZ.out.pq
  have HP9 : Hid (Pc n0 w9 b ab ag vb ga gr N rb g c 1 ws (bfs0 B.n B.size) (fun _ => 0) (fun _ => 0) [] []) := pc9
  have HB9 : Hid (Below n0 w w9) := HB7.out.trans ((HT9.out.below (Nat.le_trans Hn0.out HB7.out.size) HS4.out.lo_pf).mono (Nat.le_refl _))
  have k4 : w9.cell? ⟨pb, 4, none⟩ = some lv := cell_of_row _ _ 4 _ _ _ HQ9.out
  have g4 : w9.frozen? ⟨pb, 4, none⟩ = false := by unfold World.frozen?; rw [HQ9.out]; rfl
  have t10 : Touch [pb] w9 (w9.setCell ⟨pb, 4, none⟩ (.slice none 0 0)) := Touch.setCell _ _ _ (by simp)
  have hpo := HP9.out.other HQ9.out (by decide) (by decide) (by decide) (by decide) (by decide) (by decide)
  have HF : Hid (Pz n0 (w9.setCell ⟨pb, 4, none⟩ (.slice none 0 0)) pb b ab ag vb ga gr N rb g c [] (.slice none 0 0)) := by
    have no : ∀ q, q ∈ pf b ab ag vb ga gr rb g → q ∉ [pb] := fun q hqq hm => by
      simp only [List.mem_cons, List.not_mem_nil, or_false] at hm
      rw [hm] at hqq
      exact hpo hqq
    refine ⟨⟨_, _, _, _, _, _, ⟨HP9.out.bw.touch t10 (no b (by simp [pf])) (no ab (by simp [pf])) (no ag (by simp [pf])) (fun z hz => ?_), HP9.out.wo, HP9.out.rz.touch t10 (fun q hq => no q (List.mem_append.2 (.inr hq))), HP9.out.rel, HP9.out.nn, HP9.out.ap, HP9.out.lo⟩⟩, ?_, World.ownsRow_nil _ _ _ _, (fun q hq => by simp [Value.ownBlock] at hq), HS0.out.lo⟩
    · simp only [List.mem_cons, List.not_mem_nil, or_false] at hz
      rw [hz]
      exact HS0.out.lo
    · rw [setCell_eq_setRow _ _ _ _ _ _ _ HQ9.out]
      exact setRow_heap _ _ _ _ _ _ HQ9.out
  have HW : Hid (Below n0 w (w9.setCell ⟨pb, 4, none⟩ (.slice none 0 0))) := HB9.out.trans ((t10.below (Nat.le_trans Hn0.out HB9.out.size) (fun z hz => by
    simp only [List.mem_cons, List.not_mem_nil, or_false] at hz
    rw [hz]
    exact HS0.out.lo)).mono (Nat.le_refl _))
  clear q2 t9 pc9 t10 hpo k2
  go_wp2
  go_ret
  exact ⟨rfl, HW.out, [], _, HF.out⟩

set_option maxHeartbeats 8000000 in
theorem plays_none (S : Pz n0 w pb b ab ag vb ga gr N rb g c Th lv) (hn0 : n0 ≤ w.heap.size) (o : Op13) (ho : o.Ok) (h1 : ¬ o.k = 1) (h2 : ¬ o.k = 2) (h3 : ¬ o.k = 3) (h4 : ¬ o.k = 4) (h5 : ¬ o.k = 5) (h6 : ¬ o.k = 6) (h7 : ¬ o.k = 7) :
    Calls Tryz.prog 9 #[.pointer (some ⟨pb, 0, none⟩), o.val] w fun e w' => e = .returned (.bool true) ∧ Below n0 w w' ∧ ∃ Th' lv', Pz n0 w' pb b ab ag vb ga gr N rb g c Th' lv' := by
  have HS0 : Hid (Pz n0 w pb b ab ag vb ga gr N rb g c Th lv) := S
  have Hn0 : Hid (n0 ≤ w.heap.size) := hn0
  have HO : Hid o.Ok := ho
  clear S hn0 ho
  go_enter Tryz.func9, Tryz.ntmps9
  go_upto_region 1 with fail
  have B0 : Below w.heap.size w (w.alloc (.cells o.cells 48)) := Below.alloc (Below.refl _ _) (Nat.le_refl _) _
  have X0 := heap_alloc_new w (.cells o.cells 48)
  generalize w.alloc (.cells o.cells 48) = v at *
  have HX : Hid (v.heap[w.heap.size]? = some (.cells o.cells 48 (0, 0))) := X0
  have HB : Hid (Below w.heap.size w v) := B0
  have HS : Hid (Pz n0 v pb b ab ag vb ga gr N rb g c Th lv) := HS0.out.below B0
  have Hoff : Hid (w.heap.size ∉ pf b ab ag vb ga gr rb g) := fun hm => Nat.lt_irrefl _ (HS0.out.lt_pf _ hm)
  have x0 : v.cell? ⟨w.heap.size, 0, none⟩ = some (.int .i64 o.k) := cell_of_row _ _ 0 _ _ _ X0
  clear X0 B0
  have HB4 : Hid (Below n0 w v) := HB.out.mono Hn0.out
  go_wp2
  go_ret
  exact ⟨rfl, HB4.out, Th, lv, HS.out⟩

set_option maxHeartbeats 8000000 in
theorem plays_raw (S : Pz n0 w pb b ab ag vb ga gr N rb g c Th lv) (hn0 : n0 ≤ w.heap.size) (o : Op13) (ho : o.Ok) (hk : o.k = 6) :
    Calls Tryz.prog 9 #[.pointer (some ⟨pb, 0, none⟩), o.val] w fun e w' => e = .returned (.bool true) ∧ Below n0 w w' ∧ ∃ Th' lv', Pz n0 w' pb b ab ag vb ga gr N rb g c Th' lv' := by
  have HS0 : Hid (Pz n0 w pb b ab ag vb ga gr N rb g c Th lv) := S
  have Hn0 : Hid (n0 ≤ w.heap.size) := hn0
  have HO : Hid o.Ok := ho
  clear S hn0 ho
  go_enter Tryz.func9, Tryz.ntmps9
  go_upto_region 1 with fail
  have B0 : Below w.heap.size w (w.alloc (.cells o.cells 48)) := Below.alloc (Below.refl _ _) (Nat.le_refl _) _
  have X0 := heap_alloc_new w (.cells o.cells 48)
  generalize w.alloc (.cells o.cells 48) = v at *
  have HX : Hid (v.heap[w.heap.size]? = some (.cells o.cells 48 (0, 0))) := X0
  have HB : Hid (Below w.heap.size w v) := B0
  have HS : Hid (Pz n0 v pb b ab ag vb ga gr N rb g c Th lv) := HS0.out.below B0
  have Hoff : Hid (w.heap.size ∉ pf b ab ag vb ga gr rb g) := fun hm => Nat.lt_irrefl _ (HS0.out.lt_pf _ hm)
  have x0 : v.cell? ⟨w.heap.size, 0, none⟩ = some (.int .i64 6) := by rw [← hk]; exact cell_of_row _ _ 0 _ _ _ X0
  clear X0 B0
  have hTl : Th.length ≤ 70000 := by
    obtain ⟨top, ws, B, at_, rs, L, hpc⟩ := HS.out.pc
    have h1 := obs_len13 hpc.wo.ch
    have h2 := hpc.wo.ch.top
    have h3 := hpc.topl.1
    have h4 : (obs 1 L).length = Th.length := by have := hpc.wo.ob.length_eq; simpa using this
    omega
  obtain ⟨a0, cap0, hlv⟩ := HS0.out.sl
  subst hlv
  have x4 : v.cell? ⟨pb, 4, none⟩ = some (.slice a0 Th.length cap0) := HS.out.cs.2.2.2.2
  go_upto_region 24 with fail
  clear x0
  by_cases hl : Th.length = 0
  · have hl' : ¬ (0 : Int) < (Th.length : Int) := by omega
    have HB4 : Hid (Below n0 w v) := HB.out.mono Hn0.out
    go_wp2
    go_ret
    exact ⟨rfl, HB4.out, Th, _, HS.out⟩
  have hl' : (0 : Int) < (Th.length : Int) := by omega
  go_upto_region 25 with fail
  obtain ⟨i, hi, HA0⟩ := among13_nat o.n Th.length HO.out.n.1 HO.out.n.2 ⟨by omega, by omega⟩
  have HA : Hid (∀ w : World, Calls Tryz.prog 25 #[.int .i64 o.n, .int .i64 Th.length] w fun e w' => e = .returned (.int .i64 i) ∧ Below w.heap.size w w') := fun w => (HA0 w).mono fun _ _ h => ⟨h.1, h.2 ▸ Below.refl _ _⟩
  obtain ⟨T, hT⟩ : ∃ T, Th[i]? = some T := ⟨_, List.getElem?_eq_getElem hi⟩
  have HTi : Hid (Th[i]? = some T) := hT
  obtain ⟨q9, ha0, hq9, hc9⟩ := HS.out.cell hT
  subst ha0
  have hii : (i : Int) < (Th.length : Int) := by omega
  have hXl : w.heap.size < v.heap.size := (Array.getElem?_eq_some_iff.1 HX.out).1
  have hPl : pb < v.heap.size := (Array.getElem?_eq_some_iff.1 HS.out.pq).1
  haveI hinh : Inhabited (Kg.Bel v) := ⟨⟨v, Below.refl _ _⟩⟩
  have o9 : ∀ q : Kg.Bel v, q.v.cell? ⟨w.heap.size, 9, none⟩ = some (.int .i64 o.n) := fun q => (q.h.cell (p := ⟨w.heap.size, 9, none⟩) hXl).trans (cell_of_row _ _ 9 _ _ _ HX.out)
  have p4 : ∀ q : Kg.Bel v, q.v.cell? ⟨pb, 4, none⟩ = some ((.slice (some ⟨q9, 0, none⟩) Th.length cap0)) := fun q => (q.h.cell (p := ⟨pb, 4, none⟩) hPl).trans (cell_of_row _ _ 4 _ _ _ HS.out.pq)
  have u0 : ∀ q : Kg.Bel v, q.v.cell? ⟨q9, i, none⟩ = some (.int .i64 (T.at_ : Int)) := fun q => (q.h.cell (p := ⟨q9, i, none⟩) hq9).trans hc9
  clear hc9 hT HA0 x4
  refine Kg.region_below Kg.mixed (by kernel_rfl) ?_
  repeat (go_big_quiet_step (first | (go_at_call 25; exact Kg.calls_bel (HA.out _))))
  refine wpQuiet_nil ?_
  rintro w4 ⟨⟨w4, b4⟩, rfl⟩
  have HS4 : Hid (Pz n0 w4 pb b ab ag vb ga gr N rb g c Th (.slice (some ⟨q9, 0, none⟩) Th.length cap0)) := HS.out.below b4
  have HX4 : Hid (w4.heap[w.heap.size]? = some (.cells o.cells 48 (0, 0))) := (b4.block _ hXl).trans HX.out
  have HB4 : Hid (Below w.heap.size w w4) := HB.out.trans (b4.mono HB.out.size)
  clear hXl hPl hinh o9 p4 b4 u0 HA hq9 hii
  go_upto_region 26 with fail
  have hXl : w.heap.size < w4.heap.size := (Array.getElem?_eq_some_iff.1 HX4.out).1
  have hPl : pb < w4.heap.size := (Array.getElem?_eq_some_iff.1 HS4.out.pq).1
  haveI hinh : Inhabited (Kg.Bel w4) := ⟨⟨w4, Below.refl _ _⟩⟩
  have o10 : ∀ q : Kg.Bel w4, q.v.cell? ⟨w.heap.size, 10, none⟩ = some (.int .i64 o.i) := fun q => (q.h.cell (p := ⟨w.heap.size, 10, none⟩) hXl).trans (cell_of_row _ _ 10 _ _ _ HX4.out)
  have o11 : ∀ q : Kg.Bel w4, q.v.cell? ⟨w.heap.size, 11, none⟩ = some (.int .u64 o.w) := fun q => (q.h.cell (p := ⟨w.heap.size, 11, none⟩) hXl).trans (cell_of_row _ _ 11 _ _ _ HX4.out)
  have p0 : ∀ q : Kg.Bel w4, q.v.cell? ⟨pb, 0, none⟩ = some (.pointer (some ⟨ab, 0, none⟩)) := fun q => (q.h.cell (p := ⟨pb, 0, none⟩) hPl).trans (cell_of_row _ _ 0 _ _ _ HS4.out.pq)
  refine Kg.below_call 9 Kg.mixed (by kernel_rfl) ?_
  simp only [List.take_succ_cons, List.take_zero, List.drop_succ_cons, List.drop_zero]
  repeat (go_big_quiet_step (fail))
  refine wpQuiet_nil ?_
  rintro w5 ⟨⟨w5, b5⟩, rfl⟩
  have HS5 : Hid (Pz n0 w5 pb b ab ag vb ga gr N rb g c Th (.slice (some ⟨q9, 0, none⟩) Th.length cap0)) := HS4.out.below b5
  have HB5 : Hid (Below w.heap.size w w5) := HB4.out.trans (b5.mono HB4.out.size)
  have HX5' : Hid (w5.heap[w.heap.size]? = some (.cells o.cells 48 (0, 0))) := (b5.block _ hXl).trans HX4.out
  clear hXl hPl hinh o10 o11 p0 b5
  obtain ⟨top, ws, B, at_, rs, L, hpc⟩ := HS5.out.pc
  obtain ⟨ok, q⟩ := hpc.raw HTi.out o.i o.w HO.out.w
  clear hpc
  go_wp2_with fail
  refine q.mono ?_
  rintro e w6 ⟨rfl, t6, hnext⟩
  have Hnext : Hid _ := hnext
  have tin : ∀ q, q ∈ [b, ab, ag] → q ∈ pf b ab ag vb ga gr rb g := fun q hq => List.mem_append.2 (.inl hq)
  have HT6 : Hid (Touch (pf b ab ag vb ga gr rb g) w5 w6) := (Touch.refl _ _).then t6 (fun z hz => .inl (tin z hz))
  have HQ6 : Hid (w6.heap[pb]? = some (.cells #[.pointer (some ⟨ab, 0, none⟩), .pointer (some ⟨b, 0, none⟩), .pointer (some ⟨rb, 0, none⟩), .pointer (some ⟨vb, 0, none⟩), (.slice (some ⟨q9, 0, none⟩) Th.length cap0)] 42 (0, 0))) := (HS5.out.frame t6 tin).1.trans HS5.out.pq
  have HX6 : Hid (w6.heap[w.heap.size]? = some (.cells o.cells 48 (0, 0))) := (t6.block _ (Array.getElem?_eq_some_iff.1 HX5'.out).1 (fun hm => Hoff.out (tin _ hm))).trans HX5'.out
  clear q hnext t6 tin
  go_wp2_with fail
  refine Kg.thenQuiet_mk ?_
  repeat (go_big_quiet_step (fail))
  refine wpQuiet_nil ?_
  go_upto_region 27 with fail
  have hXl : w.heap.size < w6.heap.size := (Array.getElem?_eq_some_iff.1 HX6.out).1
  have hPl : pb < w6.heap.size := (Array.getElem?_eq_some_iff.1 HQ6.out).1
  haveI hinh : Inhabited (Kg.Bel w6) := ⟨⟨w6, Below.refl _ _⟩⟩
  have o10 : ∀ q : Kg.Bel w6, q.v.cell? ⟨w.heap.size, 10, none⟩ = some (.int .i64 o.i) := fun q => (q.h.cell (p := ⟨w.heap.size, 10, none⟩) hXl).trans (cell_of_row _ _ 10 _ _ _ HX6.out)
  have o11 : ∀ q : Kg.Bel w6, q.v.cell? ⟨w.heap.size, 11, none⟩ = some (.int .u64 o.w) := fun q => (q.h.cell (p := ⟨w.heap.size, 11, none⟩) hXl).trans (cell_of_row _ _ 11 _ _ _ HX6.out)
  have p2 : ∀ q : Kg.Bel w6, q.v.cell? ⟨pb, 2, none⟩ = some (.pointer (some ⟨rb, 0, none⟩)) := fun q => (q.h.cell (p := ⟨pb, 2, none⟩) hPl).trans (cell_of_row _ _ 2 _ _ _ HQ6.out)
  refine Kg.below_call 9 Kg.mixed (by kernel_rfl) ?_
  simp only [List.take_succ_cons, List.take_zero, List.drop_succ_cons, List.drop_zero]
  repeat (go_big_quiet_step (fail))
  refine wpQuiet_nil ?_
  rintro w7 ⟨⟨w7, b7⟩, rfl⟩
  have q := Hnext.out w7 b7
  have HT7 : Hid (Touch (pf b ab ag vb ga gr rb g) w5 w7) := HT6.out.trans (Touch.of_below b7 _)
  clear hXl hPl hinh o10 o11 p2 b7 Hnext HT6 HQ6 HX6
  go_wp2_with fail
  refine q.mono ?_
  rintro e w8 ⟨rfl, t8, ws8, Th8, hmap, hpc8⟩
  have HT8 : Hid (Touch (pf b ab ag vb ga gr rb g) w5 w8) := HT7.out.trans ((Touch.refl _ _).then t8 (fun z hz => .inl (List.mem_append.2 (.inr hz))))
  have HF8 : Hid (w8.heap[pb]? = w5.heap[pb]? ∧ w8.ownsRow n0 3 1 (.slice (some ⟨q9, 0, none⟩) Th.length cap0) Th.length (ats Th)) := HS5.out.frame HT8.out (fun q hq => hq)
  have HB8 : Hid (Below n0 w w8) := (HB5.out.mono Hn0.out).trans (HT8.out.below (Nat.le_trans Hn0.out HB5.out.size) HS5.out.lo_pf)
  have HZ : Hid (Pz n0 w8 pb b ab ag vb ga gr N rb g c Th8 (.slice (some ⟨q9, 0, none⟩) Th.length cap0)) := by
    have hlen : Th8.length = Th.length := by have := congrArg List.length hmap; simpa using this
    have hats : ats Th8 = ats Th := by
      have h1 : ats Th8 = (Th8.map (fun T => (T.at_ : Int))).map (Value.int .i64) := by simp [ats]
      have h2 : ats Th = (Th.map (fun T => (T.at_ : Int))).map (Value.int .i64) := by simp [ats]
      rw [h1, h2, hmap]
    refine ⟨⟨_, _, _, _, _, _, hpc8⟩, HF8.out.1.trans HS5.out.pq, ?_, HS0.out.av, HS0.out.lo⟩
    rw [hats, hlen]
    exact HF8.out.2
  clear q t8 hmap hpc8 HT7
  go_wp2_with fail
  refine Kg.thenQuiet_mk ?_
  repeat (go_big_quiet_step (fail))
  refine wpQuiet_nil ?_
  go_wp2
  go_ret
  exact ⟨rfl, HB8.out, Th8, _, HZ.out⟩

theorem plays_any (S : Pz n0 w pb b ab ag vb ga gr N rb g c Th lv) (hn0 : n0 ≤ w.heap.size) (o : Op13) (ho : o.Ok) :
    Calls Tryz.prog 9 #[.pointer (some ⟨pb, 0, none⟩), o.val] w fun e w' => e = .returned (.bool true) ∧ Below n0 w w' ∧ ∃ Th' lv', Pz n0 w' pb b ab ag vb ga gr N rb g c Th' lv' := by
  by_cases h1 : o.k = 1
  · exact plays_put S hn0 o ho h1
  by_cases h2 : o.k = 2
  · exact plays_room S hn0 o ho h2
  by_cases h3 : o.k = 3
  · exact plays_rest S hn0 o ho h3
  by_cases h4 : o.k = 4
  · exact plays_retire S hn0 o ho h4
  by_cases h5 : o.k = 5
  · exact plays_eden S hn0 o ho h5
  by_cases h6 : o.k = 6
  · exact plays_raw S hn0 o ho h6
  by_cases h7 : o.k = 7
  · exact plays_swap S hn0 o ho h7
  exact plays_none S hn0 o ho h1 h2 h3 h4 h5 h6 h7

end
end Go.Proofs.YtpiemfchjlihfaaGreatDoor
