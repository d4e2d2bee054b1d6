/-
  RootsFresh, walked.
-/
import Derived.Test.YtdlannfjnljbcaaGreatDoorPRf
import Derived.Test.YtdlannfjnljbcaaGreatDoorPRg
set_option linter.unusedVariables false
set_option maxRecDepth 20000
namespace Go.Proofs.YtdlannfjnljbcaaGreatDoor
open Go.RowKit

set_option maxHeartbeats 32000000 in
theorem fresh_any (th sl hn : Int) (a : Option Addr) (cap : Nat) (ops : List OpD) (w : World) (hl : LOps w.heap.size w a ops) (hlen : ops.length < 8796092982200)
    (b1 : -9223372036854775808 ≤ th ∧ th < 9223372036854775808) (b2 : -9223372036854775808 ≤ sl ∧ sl < 9223372036854775808) (b3 : -9223372036854775808 ≤ hn ∧ hn < 9223372036854775808) :
    Calls Tryz.prog 3 #[.int .i64 th, .int .i64 sl, .int .i64 hn, .slice a ops.length cap] w fun e w' => e = .returned (.bool true) ∧ Below w.heap.size w w' := by
  have q0 := known_any w
  have HL : Hid (LOps w.heap.size w a ops) := hl
  have Hb : Hid ((-9223372036854775808 ≤ th ∧ th < 9223372036854775808) ∧ (-9223372036854775808 ≤ sl ∧ sl < 9223372036854775808) ∧ (-9223372036854775808 ≤ hn ∧ hn < 9223372036854775808)) := ⟨b1, b2, b3⟩
  clear hl
  go_enter Tryz.func3, Tryz.ntmps3
  go_wp2_with fail
  refine q0.mono ?_
  rintro e w1 ⟨rfl, hb1⟩
  have q1 := played_any th sl hn a cap ops w1 (HL.out.up hb1 hb1.size) (by omega) Hb.out.1 Hb.out.2.1 Hb.out.2.2
  have HB1 : Hid (Below w.heap.size w w1) := hb1
  clear q0 hb1
  go_wp2_with fail
  refine q1.mono ?_
  rintro e w2 ⟨rb, rfl, hP⟩
  obtain ⟨N, S, F, hR, hO, hT, hm, hN⟩ := hP.ex
  have HB2 : Hid (Below w1.heap.size w1 w2) := hP.be
  have HR : Hid (Rts w2 w1.heap.size rb N S F) := hR
  have HO : Hid S.Ok := hO
  have q2 := enqueue_any w1.heap.size rb N 3 S F w2 hR hP.be.size (by omega)
  clear q1 hP hR hT hm hO
  go_wp2_with fail
  refine q2.mono ?_
  rintro e w3 ⟨rfl, F1, hR3, ht3, hn3⟩
  have HB3 : Hid (Below w1.heap.size w1 w3) := HB2.out.trans (ht3.below HB2.out.size (fun k hk => (HR.out.mem k hk).1))
  have q3 := hopen_any w1.heap.size rb (N + 1) 4 (S.enqS 3) F1 w3 hR3 (HO.out.enqS 3)
  have HR3 : Hid (Rts w3 w1.heap.size rb (N + 1) (S.enqS 3) F1) := hR3
  clear q2 hR3 ht3 hn3
  go_wp2_with fail
  refine q3.mono ?_
  rintro e w4 ⟨rfl, hR4, ht4⟩
  have HB4 : Hid (Below w1.heap.size w1 w4) := HB3.out.trans (ht4.below HB3.out.size (fun k hk => (HR3.out.mem k hk).1))
  have HR4 : Hid (Rts w4 w1.heap.size rb (N + 1) ((S.enqS 3).openS 4) F1) := hR4
  have HO4 : Hid ((S.enqS 3).openS 4).Ok := (HO.out.enqS 3).openS 4
  obtain ⟨S', hS'⟩ : ∃ x, x = (S.enqS 3).openS 4 := ⟨_, rfl⟩
  rw [← hS'] at HR4 HO4
  clear q3 hR4 ht4 HR HR3 HO HB2 HB3 hS'
  go_upto_region 9 with (first | refine Kg.wpList_build0 rfl 47 _ rfl Kg.build_bk0 ?_)
  have hbk : Kg.Bk (w4.alloc (.cells (Kg.bkc Kg.bk0) 47)) w4.heap.size Kg.bk0 := heap_alloc_new w4 _
  have hb5 := Below.alloc (Below.refl w4.heap.size w4) (Nat.le_refl _) (.cells (Kg.bkc Kg.bk0) 47)
  have HX : Hid (Sx w1 (w4.alloc (.cells (Kg.bkc Kg.bk0) 47)) w1.heap.size w4.heap.size rb (N + 1) S' F1 [none, none, none, none, none, none, none, none, none, none, none, none] 0) := Sx.start hbk HB4.out.size (HR4.out.nil (Touch.of_below hb5 [])) (fun k hk => (HR4.out.mem k hk).2) (HB4.out.trans (hb5.mono HB4.out.size))
  have HN : Hid (N + 1 < 8796092982208) := by exact (by omega : N + 1 < 8796092982208)
  clear hbk hb5 HR4
  have HSz : Hid (w1.heap.size ≤ w4.heap.size) := HB4.out.size
  have HLn : Hid (S'.all.length ≤ 10000000000000 ∧ (tolds S'.hs).length ≤ 10000000000000 ∧ S'.qs.length ≤ 10000000000000 ∧ (S'.frames 0).length ≤ 10000000000000) := by
    have h1 := all_len HO4.out
    have h2 := HX.out.rts.queN
    have h3 := HO4.out.hn
    have h4 := frames_len HO4.out
    have h5 := HN.out
    have h6 : (tolds S'.hs).length = S'.hs.length := by simp [tolds]
    exact (⟨by omega, by omega, by omega, by omega⟩ : S'.all.length ≤ 10000000000000 ∧ (tolds S'.hs).length ≤ 10000000000000 ∧ S'.qs.length ≤ 10000000000000 ∧ (S'.frames 0).length ≤ 10000000000000)
  clear HB4
  generalize (w4.alloc (.cells (Kg.bkc Kg.bk0) 47)) = w5 at HX ⊢
  have q := HX.out.all HO4.out HN.out 4
  go_wp2_with fail
  refine q.mono ?_
  rintro e w6 ⟨v4, rfl, hX⟩
  clear q HX
  have HX : Hid (Sx w1 w6 w1.heap.size w4.heap.size rb (N + 1) S' F1 [none, none, none, none, some (v4, S'.all), none, none, none, none, none, none, none] (0)) := hX
  clear hX
  have q := HX.out.handles HO4.out 5
  go_wp2_with fail
  refine q.mono ?_
  rintro e w7 ⟨v5, rfl, hX⟩
  clear q HX
  have HX : Hid (Sx w1 w7 w1.heap.size w4.heap.size rb (N + 1) S' F1 [none, none, none, none, some (v4, S'.all), some (v5, tolds S'.hs), none, none, none, none, none, none] (0)) := hX
  clear hX
  have q := HX.out.queue HN.out 6
  go_wp2_with fail
  refine q.mono ?_
  rintro e w8 ⟨v6, rfl, hX⟩
  clear q HX
  have HX : Hid (Sx w1 w8 w1.heap.size w4.heap.size rb (N + 1) S' F1 [none, none, none, none, some (v4, S'.all), some (v5, tolds S'.hs), some (v6, S'.qs), none, none, none, none, none] (0)) := hX
  clear hX
  have q := HX.out.frames HO4.out 7
  go_wp2_with fail
  refine q.mono ?_
  rintro e w9 ⟨v7, rfl, hX⟩
  clear q HX
  have HX : Hid (Sx w1 w9 w1.heap.size w4.heap.size rb (N + 1) S' F1 [none, none, none, none, some (v4, S'.all), some (v5, tolds S'.hs), some (v6, S'.qs), some (v7, S'.frames 0), none, none, none, none] (0)) := hX
  clear hX
  have q := HX.out.copied (i := 4) rfl HLn.out.1 0
  go_wp2_with fail
  refine q.mono ?_
  rintro e w10 ⟨x0, rfl, hX⟩
  clear q HX
  have HX : Hid (Sx w1 w10 w1.heap.size w4.heap.size rb (N + 1) S' F1 [some (x0, S'.all), none, none, none, some (v4, S'.all), some (v5, tolds S'.hs), some (v6, S'.qs), some (v7, S'.frames 0), none, none, none, none] (0)) := hX
  clear hX
  have q := HX.out.copied (i := 5) rfl HLn.out.2.1 1
  go_wp2_with fail
  refine q.mono ?_
  rintro e w11 ⟨x1, rfl, hX⟩
  clear q HX
  have HX : Hid (Sx w1 w11 w1.heap.size w4.heap.size rb (N + 1) S' F1 [some (x0, S'.all), some (x1, tolds S'.hs), none, none, some (v4, S'.all), some (v5, tolds S'.hs), some (v6, S'.qs), some (v7, S'.frames 0), none, none, none, none] (0)) := hX
  clear hX
  have q := HX.out.copied (i := 6) rfl HLn.out.2.2.1 2
  go_wp2_with fail
  refine q.mono ?_
  rintro e w12 ⟨x2, rfl, hX⟩
  clear q HX
  have HX : Hid (Sx w1 w12 w1.heap.size w4.heap.size rb (N + 1) S' F1 [some (x0, S'.all), some (x1, tolds S'.hs), some (x2, S'.qs), none, some (v4, S'.all), some (v5, tolds S'.hs), some (v6, S'.qs), some (v7, S'.frames 0), none, none, none, none] (0)) := hX
  clear hX
  have q := HX.out.copied (i := 7) rfl HLn.out.2.2.2 3
  go_wp2_with fail
  refine q.mono ?_
  rintro e w13 ⟨x3, rfl, hX⟩
  clear q HX
  have HX : Hid (Sx w1 w13 w1.heap.size w4.heap.size rb (N + 1) S' F1 [some (x0, S'.all), some (x1, tolds S'.hs), some (x2, S'.qs), some (x3, S'.frames 0), some (v4, S'.all), some (v5, tolds S'.hs), some (v6, S'.qs), some (v7, S'.frames 0), none, none, none, none] (0)) := hX
  clear hX
  obtain ⟨w9, hw9⟩ : ∃ x, x = w13 := ⟨_, rfl⟩
  subst hw9
  go_wp2
  go_loopw [12, 13, 14, 15, 20] (fun z4 z5 z6 z7 i wr => ∃ y4 y5 y6 y7, y4 = z4 ∧ y5 = z5 ∧ y6 = z6 ∧ y7 = z7 ∧ ∃ k : Nat, k ≤ 6 ∧ i = .int .i64 k ∧ Sx w1 wr w1.heap.size w4.heap.size rb (N + 1) S' F1 [some (x0, S'.all), some (x1, tolds S'.hs), some (x2, S'.qs), some (x3, S'.frames 0), some (y4, S'.all), some (y5, tolds S'.hs), some (y6, S'.qs), some (y7, S'.frames 0), none, none, none, none] (8 * k)) (fun _ _ _ _ i _ => 6 - (intOf i).toNat)
  case atStart => exact ⟨_, _, _, _, rfl, rfl, rfl, rfl, 0, by omega, rfl, HX.out⟩
  case round =>
    obtain ⟨y4, y5, y6, y7, e4, e5, e6, e7, k, hk, rfl, hX⟩ := hrel
    clear HX
    subst e4 e5 e6 e7
    have HX : Hid (Sx w1 wr w1.heap.size w4.heap.size rb (N + 1) S' F1 [some (x0, S'.all), some (x1, tolds S'.hs), some (x2, S'.qs), some (x3, S'.frames 0), some (y4, S'.all), some (y5, tolds S'.hs), some (y6, S'.qs), some (y7, S'.frames 0), none, none, none, none] (8 * k)) := hX
    clear hX
    by_cases hk6 : k < 6
    · have hki : 0 ≤ (k : Int) ∧ (k : Int) < 6 := by omega
      have q := HX.out.all HO4.out HN.out 8
      go_wp2_with fail
      refine q.mono ?_
      rintro e u1 ⟨z8, rfl, hX⟩
      clear q HX
      have HX : Hid (Sx w1 u1 w1.heap.size w4.heap.size rb (N + 1) S' F1 [some (x0, S'.all), some (x1, tolds S'.hs), some (x2, S'.qs), some (x3, S'.frames 0), some (y4, S'.all), some (y5, tolds S'.hs), some (y6, S'.qs), some (y7, S'.frames 0), some (z8, S'.all), none, none, none] (8 * k)) := hX
      clear hX
      have q := HX.out.handles HO4.out 9
      go_wp2_with fail
      refine q.mono ?_
      rintro e u2 ⟨z9, rfl, hX⟩
      clear q HX
      have HX : Hid (Sx w1 u2 w1.heap.size w4.heap.size rb (N + 1) S' F1 [some (x0, S'.all), some (x1, tolds S'.hs), some (x2, S'.qs), some (x3, S'.frames 0), some (y4, S'.all), some (y5, tolds S'.hs), some (y6, S'.qs), some (y7, S'.frames 0), some (z8, S'.all), some (z9, tolds S'.hs), none, none] (8 * k)) := hX
      clear hX
      have q := HX.out.queue HN.out 10
      go_wp2_with fail
      refine q.mono ?_
      rintro e u3 ⟨z10, rfl, hX⟩
      clear q HX
      have HX : Hid (Sx w1 u3 w1.heap.size w4.heap.size rb (N + 1) S' F1 [some (x0, S'.all), some (x1, tolds S'.hs), some (x2, S'.qs), some (x3, S'.frames 0), some (y4, S'.all), some (y5, tolds S'.hs), some (y6, S'.qs), some (y7, S'.frames 0), some (z8, S'.all), some (z9, tolds S'.hs), some (z10, S'.qs), none] (8 * k)) := hX
      clear hX
      have q := HX.out.frames HO4.out 11
      go_wp2_with fail
      refine q.mono ?_
      rintro e u4 ⟨z11, rfl, hX⟩
      clear q HX
      have HX : Hid (Sx w1 u4 w1.heap.size w4.heap.size rb (N + 1) S' F1 [some (x0, S'.all), some (x1, tolds S'.hs), some (x2, S'.qs), some (x3, S'.frames 0), some (y4, S'.all), some (y5, tolds S'.hs), some (y6, S'.qs), some (y7, S'.frames 0), some (z8, S'.all), some (z9, tolds S'.hs), some (z10, S'.qs), some (z11, S'.frames 0)] (8 * k)) := hX
      clear hX
      have q := HX.out.ints (by omega) (i := 4) rfl HLn.out.1 (10000 * (k : Int) + 100) (by omega) (by omega)
      go_wp2_with fail
      refine q.mono ?_
      rintro e u5 ⟨rfl, hX⟩
      clear q HX
      have HX : Hid (Sx w1 u5 w1.heap.size w4.heap.size rb (N + 1) S' F1 [some (x0, S'.all), some (x1, tolds S'.hs), some (x2, S'.qs), some (x3, S'.frames 0), none, some (y5, tolds S'.hs), some (y6, S'.qs), some (y7, S'.frames 0), some (z8, S'.all), some (z9, tolds S'.hs), some (z10, S'.qs), some (z11, S'.frames 0)] (8 * k + 1)) := hX
      clear hX
      have q := HX.out.ints (by omega) (i := 5) rfl HLn.out.2.1 (10000 * (k : Int) + 1300) (by omega) (by omega)
      go_wp2_with fail
      refine q.mono ?_
      rintro e u6 ⟨rfl, hX⟩
      clear q HX
      have HX : Hid (Sx w1 u6 w1.heap.size w4.heap.size rb (N + 1) S' F1 [some (x0, S'.all), some (x1, tolds S'.hs), some (x2, S'.qs), some (x3, S'.frames 0), none, none, some (y6, S'.qs), some (y7, S'.frames 0), some (z8, S'.all), some (z9, tolds S'.hs), some (z10, S'.qs), some (z11, S'.frames 0)] (8 * k + 2)) := hX
      clear hX
      have q := HX.out.ints (by omega) (i := 6) rfl HLn.out.2.2.1 (10000 * (k : Int) + 2500) (by omega) (by omega)
      go_wp2_with fail
      refine q.mono ?_
      rintro e u7 ⟨rfl, hX⟩
      clear q HX
      have HX : Hid (Sx w1 u7 w1.heap.size w4.heap.size rb (N + 1) S' F1 [some (x0, S'.all), some (x1, tolds S'.hs), some (x2, S'.qs), some (x3, S'.frames 0), none, none, none, some (y7, S'.frames 0), some (z8, S'.all), some (z9, tolds S'.hs), some (z10, S'.qs), some (z11, S'.frames 0)] (8 * k + 3)) := hX
      clear hX
      have q := HX.out.ints (by omega) (i := 7) rfl HLn.out.2.2.2 (10000 * (k : Int) + 3700) (by omega) (by omega)
      go_wp2_with fail
      refine q.mono ?_
      rintro e u8 ⟨rfl, hX⟩
      clear q HX
      have HX : Hid (Sx w1 u8 w1.heap.size w4.heap.size rb (N + 1) S' F1 [some (x0, S'.all), some (x1, tolds S'.hs), some (x2, S'.qs), some (x3, S'.frames 0), none, none, none, none, some (z8, S'.all), some (z9, tolds S'.hs), some (z10, S'.qs), some (z11, S'.frames 0)] (8 * k + 4)) := hX
      clear hX
      have q := HX.out.hold (by omega)
      go_wp2_with fail
      refine q.mono ?_
      rintro e u9 ⟨rfl, hX⟩
      clear q HX
      have HX : Hid (Sx w1 u9 w1.heap.size w4.heap.size rb (N + 1) S' F1 [some (x0, S'.all), some (x1, tolds S'.hs), some (x2, S'.qs), some (x3, S'.frames 0), none, none, none, none, some (z8, S'.all), some (z9, tolds S'.hs), some (z10, S'.qs), some (z11, S'.frames 0)] (8 * k + 4)) := hX
      clear hX
      have q := HX.out.same (i := 8) (j := 0) rfl rfl HLn.out.1
      go_wp2_with fail
      refine q.mono ?_
      rintro e u10 ⟨rfl, hX⟩
      clear q HX
      have HX : Hid (Sx w1 u10 w1.heap.size w4.heap.size rb (N + 1) S' F1 [some (x0, S'.all), some (x1, tolds S'.hs), some (x2, S'.qs), some (x3, S'.frames 0), none, none, none, none, some (z8, S'.all), some (z9, tolds S'.hs), some (z10, S'.qs), some (z11, S'.frames 0)] (8 * k + 4)) := hX
      clear hX
      have q := HX.out.same (i := 9) (j := 1) rfl rfl HLn.out.2.1
      go_wp2_with fail
      refine q.mono ?_
      rintro e u11 ⟨rfl, hX⟩
      clear q HX
      have HX : Hid (Sx w1 u11 w1.heap.size w4.heap.size rb (N + 1) S' F1 [some (x0, S'.all), some (x1, tolds S'.hs), some (x2, S'.qs), some (x3, S'.frames 0), none, none, none, none, some (z8, S'.all), some (z9, tolds S'.hs), some (z10, S'.qs), some (z11, S'.frames 0)] (8 * k + 4)) := hX
      clear hX
      have q := HX.out.same (i := 10) (j := 2) rfl rfl HLn.out.2.2.1
      go_wp2_with fail
      refine q.mono ?_
      rintro e u12 ⟨rfl, hX⟩
      clear q HX
      have HX : Hid (Sx w1 u12 w1.heap.size w4.heap.size rb (N + 1) S' F1 [some (x0, S'.all), some (x1, tolds S'.hs), some (x2, S'.qs), some (x3, S'.frames 0), none, none, none, none, some (z8, S'.all), some (z9, tolds S'.hs), some (z10, S'.qs), some (z11, S'.frames 0)] (8 * k + 4)) := hX
      clear hX
      have q := HX.out.same (i := 11) (j := 3) rfl rfl HLn.out.2.2.2
      go_wp2_with fail
      refine q.mono ?_
      rintro e u13 ⟨rfl, hX⟩
      clear q HX
      have HX : Hid (Sx w1 u13 w1.heap.size w4.heap.size rb (N + 1) S' F1 [some (x0, S'.all), some (x1, tolds S'.hs), some (x2, S'.qs), some (x3, S'.frames 0), none, none, none, none, some (z8, S'.all), some (z9, tolds S'.hs), some (z10, S'.qs), some (z11, S'.frames 0)] (8 * k + 4)) := hX
      clear hX
      have q := HX.out.ints (by omega) (i := 8) rfl HLn.out.1 (10000 * (k : Int) + 4900) (by omega) (by omega)
      go_wp2_with fail
      refine q.mono ?_
      rintro e u14 ⟨rfl, hX⟩
      clear q HX
      have HX : Hid (Sx w1 u14 w1.heap.size w4.heap.size rb (N + 1) S' F1 [some (x0, S'.all), some (x1, tolds S'.hs), some (x2, S'.qs), some (x3, S'.frames 0), none, none, none, none, none, some (z9, tolds S'.hs), some (z10, S'.qs), some (z11, S'.frames 0)] (8 * k + 5)) := hX
      clear hX
      have q := HX.out.ints (by omega) (i := 9) rfl HLn.out.2.1 (10000 * (k : Int) + 6100) (by omega) (by omega)
      go_wp2_with fail
      refine q.mono ?_
      rintro e u15 ⟨rfl, hX⟩
      clear q HX
      have HX : Hid (Sx w1 u15 w1.heap.size w4.heap.size rb (N + 1) S' F1 [some (x0, S'.all), some (x1, tolds S'.hs), some (x2, S'.qs), some (x3, S'.frames 0), none, none, none, none, none, none, some (z10, S'.qs), some (z11, S'.frames 0)] (8 * k + 6)) := hX
      clear hX
      have q := HX.out.ints (by omega) (i := 10) rfl HLn.out.2.2.1 (10000 * (k : Int) + 7300) (by omega) (by omega)
      go_wp2_with fail
      refine q.mono ?_
      rintro e u16 ⟨rfl, hX⟩
      clear q HX
      have HX : Hid (Sx w1 u16 w1.heap.size w4.heap.size rb (N + 1) S' F1 [some (x0, S'.all), some (x1, tolds S'.hs), some (x2, S'.qs), some (x3, S'.frames 0), none, none, none, none, none, none, none, some (z11, S'.frames 0)] (8 * k + 7)) := hX
      clear hX
      have q := HX.out.ints (by omega) (i := 11) rfl HLn.out.2.2.2 (10000 * (k : Int) + 8500) (by omega) (by omega)
      go_wp2_with fail
      refine q.mono ?_
      rintro e u17 ⟨rfl, hX⟩
      clear q HX
      have HX : Hid (Sx w1 u17 w1.heap.size w4.heap.size rb (N + 1) S' F1 [some (x0, S'.all), some (x1, tolds S'.hs), some (x2, S'.qs), some (x3, S'.frames 0), none, none, none, none, none, none, none, none] (8 * k + 8)) := hX
      clear hX
      have q := HX.out.all HO4.out HN.out 4
      go_wp2_with fail
      refine q.mono ?_
      rintro e u18 ⟨t4, rfl, hX⟩
      clear q HX
      have HX : Hid (Sx w1 u18 w1.heap.size w4.heap.size rb (N + 1) S' F1 [some (x0, S'.all), some (x1, tolds S'.hs), some (x2, S'.qs), some (x3, S'.frames 0), some (t4, S'.all), none, none, none, none, none, none, none] (8 * k + 8)) := hX
      clear hX
      have q := HX.out.handles HO4.out 5
      go_wp2_with fail
      refine q.mono ?_
      rintro e u19 ⟨t5, rfl, hX⟩
      clear q HX
      have HX : Hid (Sx w1 u19 w1.heap.size w4.heap.size rb (N + 1) S' F1 [some (x0, S'.all), some (x1, tolds S'.hs), some (x2, S'.qs), some (x3, S'.frames 0), some (t4, S'.all), some (t5, tolds S'.hs), none, none, none, none, none, none] (8 * k + 8)) := hX
      clear hX
      have q := HX.out.queue HN.out 6
      go_wp2_with fail
      refine q.mono ?_
      rintro e u20 ⟨t6, rfl, hX⟩
      clear q HX
      have HX : Hid (Sx w1 u20 w1.heap.size w4.heap.size rb (N + 1) S' F1 [some (x0, S'.all), some (x1, tolds S'.hs), some (x2, S'.qs), some (x3, S'.frames 0), some (t4, S'.all), some (t5, tolds S'.hs), some (t6, S'.qs), none, none, none, none, none] (8 * k + 8)) := hX
      clear hX
      have q := HX.out.frames HO4.out 7
      go_wp2_with fail
      refine q.mono ?_
      rintro e u21 ⟨t7, rfl, hX⟩
      clear q HX
      have HX : Hid (Sx w1 u21 w1.heap.size w4.heap.size rb (N + 1) S' F1 [some (x0, S'.all), some (x1, tolds S'.hs), some (x2, S'.qs), some (x3, S'.frames 0), some (t4, S'.all), some (t5, tolds S'.hs), some (t6, S'.qs), some (t7, S'.frames 0), none, none, none, none] (8 * k + 8)) := hX
      clear hX
      have q := HX.out.hold (by omega)
      go_wp2_with fail
      refine q.mono ?_
      rintro e u22 ⟨rfl, hX⟩
      clear q HX
      have HX : Hid (Sx w1 u22 w1.heap.size w4.heap.size rb (N + 1) S' F1 [some (x0, S'.all), some (x1, tolds S'.hs), some (x2, S'.qs), some (x3, S'.frames 0), some (t4, S'.all), some (t5, tolds S'.hs), some (t6, S'.qs), some (t7, S'.frames 0), none, none, none, none] (8 * k + 8)) := hX
      clear hX
      have q := HX.out.same (i := 4) (j := 0) rfl rfl HLn.out.1
      go_wp2_with fail
      refine q.mono ?_
      rintro e u23 ⟨rfl, hX⟩
      clear q HX
      have HX : Hid (Sx w1 u23 w1.heap.size w4.heap.size rb (N + 1) S' F1 [some (x0, S'.all), some (x1, tolds S'.hs), some (x2, S'.qs), some (x3, S'.frames 0), some (t4, S'.all), some (t5, tolds S'.hs), some (t6, S'.qs), some (t7, S'.frames 0), none, none, none, none] (8 * k + 8)) := hX
      clear hX
      have q := HX.out.same (i := 5) (j := 1) rfl rfl HLn.out.2.1
      go_wp2_with fail
      refine q.mono ?_
      rintro e u24 ⟨rfl, hX⟩
      clear q HX
      have HX : Hid (Sx w1 u24 w1.heap.size w4.heap.size rb (N + 1) S' F1 [some (x0, S'.all), some (x1, tolds S'.hs), some (x2, S'.qs), some (x3, S'.frames 0), some (t4, S'.all), some (t5, tolds S'.hs), some (t6, S'.qs), some (t7, S'.frames 0), none, none, none, none] (8 * k + 8)) := hX
      clear hX
      have q := HX.out.same (i := 6) (j := 2) rfl rfl HLn.out.2.2.1
      go_wp2_with fail
      refine q.mono ?_
      rintro e u25 ⟨rfl, hX⟩
      clear q HX
      have HX : Hid (Sx w1 u25 w1.heap.size w4.heap.size rb (N + 1) S' F1 [some (x0, S'.all), some (x1, tolds S'.hs), some (x2, S'.qs), some (x3, S'.frames 0), some (t4, S'.all), some (t5, tolds S'.hs), some (t6, S'.qs), some (t7, S'.frames 0), none, none, none, none] (8 * k + 8)) := hX
      clear hX
      have q := HX.out.same (i := 7) (j := 3) rfl rfl HLn.out.2.2.2
      go_wp2_with fail
      refine q.mono ?_
      rintro e u26 ⟨rfl, hX⟩
      clear q HX
      have HX : Hid (Sx w1 u26 w1.heap.size w4.heap.size rb (N + 1) S' F1 [some (x0, S'.all), some (x1, tolds S'.hs), some (x2, S'.qs), some (x3, S'.frames 0), some (t4, S'.all), some (t5, tolds S'.hs), some (t6, S'.qs), some (t7, S'.frames 0), none, none, none, none] (8 * k + 8)) := hX
      clear hX
      go_wp2
      go_roundw
      case rel => exact ⟨_, _, _, _, rfl, rfl, rfl, rfl, k + 1, by omega, by go_num, by rw [show 8 * (k + 1) = 8 * k + 8 by omega]; exact HX.out⟩
      case measure => simp [intOf]; omega
    · have hki : ¬ (k : Int) < 6 := by omega
      have q := many_any wr
      go_wp2_with fail
      refine q.mono ?_
      rintro e wz ⟨rfl, hbz⟩
      have hbw : Below w.heap.size w wr := HB1.out.trans (HX.out.be.mono HB1.out.size)
      have HBz : Hid (Below w.heap.size w wz) := hbw.trans (hbz.mono hbw.size)
      clear q hbz hbw
      go_wp2
      go_ret
      exact ⟨rfl, HBz.out⟩

end Go.Proofs.YtdlannfjnljbcaaGreatDoor
