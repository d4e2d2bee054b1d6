/-
  Turn, New.
-/
import Derived.Test.YtdcmpilgfkaamaaDoorT5
set_option linter.unusedVariables false
set_option maxRecDepth 20000
namespace Go.Proofs.YtdcmpilgfkaamaaDoor
open Go.RowKit

set_option maxHeartbeats 2000000 in
theorem turn_ok {w : World} {b : Nat} {wa : Int} {mo n : Nat} {f : Nat → Int} (H : Tn w b wa mo f n) (ws : Nat → Int) (hw : Wk ws) :
    Calls Tryd.prog 14 #[.pointer (some ⟨b, 0, none⟩), .agg (av ws)] w fun e w' => ∃ r : Nat, e = .returned (.tuple #[.int .i64 (r : Int), .int .i64 0]) ∧ IsNext wa mo ws r ∧ Tn w' b wa mo (wf f n r) (wn n) ∧ Touch [b] w w' := by
  have hA : (w.alloc (.cells (av ws) 53)).heap[w.heap.size]? = _ := heap_alloc_new w (.cells (av ws) 53)
  have hb := Below.alloc (Below.refl w.heap.size w) (Nat.le_refl _) (.cells (av ws) 53)
  have H1 := H.below hb
  go_enter Tryd.func14, Tryd.ntmps14
  go_upto_region 1 with fail
  generalize (w.alloc (.cells (av ws) 53)) = w1 at hA hb H1 ⊢
  have HA : Hid (_ = _) := hA
  have HW : Hid (Wk ws) := hw
  have HT : Hid (Tn w1 b wa mo f n) := H1
  have HN : Hid (1 ≤ n ∧ n ≤ 16) := ⟨H.n0, H.n1⟩
  have HB : Hid (Below w.heap.size w w1) := hb
  clear hA hw H1 H hb
  go_wp2_with (first
    | refine wpList_load_row rfl 53 _ rfl _ rfl _ _ _ _ HA.out Tryd.underlying53 rfl (size_av _) ?_)
  go_loopw [10] (fun i wr => ∃ k : Nat, k ≤ 16 ∧ i = .int .i64 k ∧ wr = w1) (fun i _ => 16 - (intOf i).toNat)
  case atStart => exact ⟨0, by omega, rfl, rfl⟩
  case round =>
    obtain ⟨k, hk, rfl, rfl⟩ := hrel
    by_cases hlt : k < 16
    · have ix := index_av ws k hlt
      have hwi := within_any (ws k) 0 65536 wr
      have hki : (k : Int) < 16 := by omega
      rw [decide_eq_true (HW.out k hlt)] at hwi
      go_wp2_with fail
      refine hwi.mono ?_
      rintro e w' ⟨rfl, rfl⟩
      go_wp2
      go_roundw
      case rel => exact ⟨k + 1, by omega, by go_num, trivial⟩
      case measure => simp [intOf]; omega
    · obtain rfl : k = 16 := by omega
      have hn := next_any HT.out ws HW.out
      go_wp2_with (first
        | refine wpList_load_row rfl 53 _ rfl _ rfl _ _ _ _ HA.out Tryd.underlying53 rfl (size_av _) ?_)
      refine hn.mono ?_
      rintro e w2 ⟨r, rfl, hr, hb2⟩
      have HT2 : Hid (Tn w2 b wa mo f n) := HT.out.below hb2
      have HR : Hid (IsNext wa mo ws r) := hr
      have HB2 : Hid (Touch [b] w w2) := (Touch.of_below HB.out [b]).trans (Touch.of_below hb2 [b])
      have hwt := with_any f n HN.out.2 r w2
      clear hr hb2 hn HT HB
      go_wp2_with (first
        | refine wpList_load_mid rfl 63 _ rfl b 2 rfl _ _ HT2.out.range Tryd.underlying63 rfl (size_pvl _ _) ?_)
      refine hwt.mono ?_
      rintro e w3 ⟨rfl, hb3⟩
      have HT3 : Hid (Tn w3 b wa mo f n) := HT2.out.below hb3
      have HB3 : Hid (Touch [b] w w3) := HB2.out.trans (Touch.of_below hb3 [b])
      clear hb3 hwt HT2 HB2
      go_wp2_with (first
        | refine wpList_store_mid rfl 63 _ _ rfl b 2 _ rfl rfl (by rw [pv_size]; exact HT3.out.there) (by rw [pv_size]; exact Tryd.sizePast) (pv_one _ _) ?_)
      go_ret2
      exact ⟨r, rfl, HR.out, tn_store HT3.out _ _ (wn_bd n HN.out.1 HN.out.2).1 (wn_bd n HN.out.1 HN.out.2).2, HB3.out.trans (touch_setCells b _ 2 w3)⟩

/-- Numbers of which there is one. -/
def May (s t m : Int) : Prop := 1 ≤ s ∧ s ≤ 65536 ∧ 1 ≤ t ∧ t ≤ 100 ∧ 1 ≤ m ∧ m ≤ 15

set_option maxHeartbeats 2000000 in
theorem new_no (a b c : Int) (h : ¬ May a b c) (w : World) :
    Calls Tryd.prog 16 #[.int .i64 a, .int .i64 b, .int .i64 c] w fun e w' => e = .returned (.tuple #[.pointer none, .int .i64 70]) ∧ w = w' := by
  have w1 := within_any a 1 65536 w
  have w2 := within_any b 1 100 w
  have w3 := within_any c 1 15 w
  by_cases h1 : 1 ≤ a ∧ a ≤ 65536
  · rw [decide_eq_true h1] at w1
    by_cases h2 : 1 ≤ b ∧ b ≤ 100
    · rw [decide_eq_true h2] at w2
      have h3 : ¬ (1 ≤ c ∧ c ≤ 15) := fun h3 => h ⟨h1.1, h1.2, h2.1, h2.2, h3.1, h3.2⟩
      rw [decide_eq_false h3] at w3
      clear h h1 h2 h3
      go_enter Tryd.func16, Tryd.ntmps16
      go_wp2_with fail
      refine w1.mono ?_
      rintro e w' ⟨rfl, rfl⟩
      go_wp2_with fail
      refine w2.mono ?_
      rintro e w' ⟨rfl, rfl⟩
      go_wp2_with fail
      refine w3.mono ?_
      rintro e w' ⟨rfl, rfl⟩
      go_wp2
      go_ret2
      exact ⟨rfl, rfl⟩
    · rw [decide_eq_false h2] at w2
      clear h h1 h2 w3
      go_enter Tryd.func16, Tryd.ntmps16
      go_wp2_with fail
      refine w1.mono ?_
      rintro e w' ⟨rfl, rfl⟩
      go_wp2_with fail
      refine w2.mono ?_
      rintro e w' ⟨rfl, rfl⟩
      go_wp2
      go_ret2
      exact ⟨rfl, rfl⟩
  · rw [decide_eq_false h1] at w1
    clear h h1 w2 w3
    go_enter Tryd.func16, Tryd.ntmps16
    go_wp2_with fail
    refine w1.mono ?_
    rintro e w' ⟨rfl, rfl⟩
    go_wp2
    go_ret2
    exact ⟨rfl, rfl⟩

/-- What is wanted. -/
def wan (s t : Int) : Int := s * t / 100

theorem wan_bd (s t : Int) (h1 : 1 ≤ s) (h2 : s ≤ 65536) (h3 : 1 ≤ t) (h4 : t ≤ 100) : 0 ≤ wan s t ∧ wan s t ≤ 65536 ∧ 0 ≤ s * t ∧ s * t ≤ 6553600 := by
  have e1 : 0 ≤ s * t := Int.mul_nonneg (by omega) (by omega)
  have e2 : s * t ≤ 65536 * 100 := Int.mul_le_mul h2 h4 (by omega) (by omega)
  unfold wan
  omega

theorem build_tn (wa mo : Int) (w : World) : (Instr.build 65 #[(0, .int .i64 wa), (1, .int .i64 mo)]).run Tryd.prog w = .ok (.agg (tv wa mo (fun _ => 0) 0)) w := by kernel_rfl

end Go.Proofs.YtdcmpilgfkaamaaDoor
