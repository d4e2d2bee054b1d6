/-
  TenureHolds, walked.
-/
import Derived.Test.YtdcmpilgfkaamaaT8
set_option linter.unusedVariables false
namespace Go.Proofs.Ytdcmpilgfkaamaa
open Go.RowKit

set_option maxHeartbeats 4000000 in
theorem holds_no (s t m : Int) (ws : Nat → Int) (h : ¬ May s t m) (w : World) :
    Calls Try.prog 4 #[.int .i64 s, .int .i64 t, .int .i64 m, .agg (av ws)] w fun e w' => e = .returned (.bool true) ∧ Below w.heap.size w w' := by
  have hb := Below.alloc (Below.refl w.heap.size w) (Nat.le_refl _) (.cells (av ws) 27)
  go_enter Try.func4, Try.ntmps4
  go_upto_region 1 with fail
  generalize (w.alloc (.cells (av ws) 27)) = w1 at hb ⊢
  have hk := known_any w1
  go_wp2_with fail
  refine hk.mono ?_
  rintro e w2 ⟨rfl, hb2⟩
  have hb3 := hb.trans (hb2.mono hb.size)
  have hn := new_no s t m h w2
  have hnum := num_any 70 w2
  have HH : Hid (¬ May s t m) := h
  clear hb hb2 hk h
  go_wp2_with fail
  refine hn.mono ?_
  rintro e w' ⟨rfl, rfl⟩
  go_wp2_with fail
  refine hnum.mono ?_
  rintro e w' ⟨rfl, rfl⟩
  go_upto_region 5 with fail
  by_cases c1 : s < 1
  · go_wp2; go_ret; exact ⟨rfl, hb3⟩
  by_cases c2 : 65536 < s
  · go_wp2; go_ret; exact ⟨rfl, hb3⟩
  by_cases c3 : t < 1
  · go_wp2; go_ret; exact ⟨rfl, hb3⟩
  by_cases c4 : 100 < t
  · go_wp2; go_ret; exact ⟨rfl, hb3⟩
  by_cases c5 : m < 1
  · go_wp2; go_ret; exact ⟨rfl, hb3⟩
  by_cases c6 : 15 < m
  · go_wp2; go_ret; exact ⟨rfl, hb3⟩
  exact absurd ⟨by omega, by omega, by omega, by omega, by omega, by omega⟩ HH.out

set_option maxHeartbeats 4000000 in
theorem holds_bad (s t : Int) (m : Nat) (ws : Nat → Int) (h : May s t m) (hw : ¬ Wk ws) (w : World) :
    Calls Try.prog 4 #[.int .i64 s, .int .i64 t, .int .i64 m, .agg (av ws)] w fun e w' => e = .returned (.bool true) ∧ Below w.heap.size w w' := by
  have hA : (w.alloc (.cells (av ws) 27)).heap[w.heap.size]? = _ := heap_alloc_new w (.cells (av ws) 27)
  have hb := Below.alloc (Below.refl w.heap.size w) (Nat.le_refl _) (.cells (av ws) 27)
  have hsz : (w.alloc (.cells (av ws) 27)).heap.size = w.heap.size + 1 := by simp
  go_enter Try.func4, Try.ntmps4
  go_upto_region 1 with fail
  generalize (w.alloc (.cells (av ws) 27)) = w1 at hA hb hsz ⊢
  have hk := known_any w1
  have HA : Hid (_ = _) := hA
  have HS : Hid (_ = _) := hsz
  clear hA hsz
  go_wp2_with fail
  refine hk.mono ?_
  rintro e w2 ⟨rfl, hb2⟩
  have hb3 := hb.trans (hb2.mono hb.size)
  have HA2 : Hid (w2.heap[w.heap.size]? = some (.cells (av ws) 27 (0, 0))) := (hb2.block w.heap.size (by have := HS.out; omega)).trans HA.out
  have hn := new_yes s t m h w2
  have HH : Hid (May s t m) := h
  clear hb hb2 hk h HA
  go_wp2_with fail
  refine hn.mono ?_
  rintro e w3 ⟨rfl, ⟨f, hf, H⟩, hb4⟩
  have hb5 := hb3.trans (hb4.mono hb3.size)
  have HA3 : Hid (w3.heap[w.heap.size]? = some (.cells (av ws) 27 (0, 0))) := (hb4.block w.heap.size (heap_lt HA2.out)).trans HA2.out
  have hnum := num_any 0 w3
  have htb := turn_bad (some ⟨w2.heap.size, 0, none⟩) w3 ws hw
  have HT : Hid (Tn w3 w2.heap.size (wan s t) m f 1) := H
  have HF : Hid (f 0 = m) := hf
  have HB : Hid (Below w.heap.size w w3) := hb5
  have HW : Hid (¬ Wk ws) := hw
  clear hb3 hb4 hb5 H HA2 hf hw hn
  generalize w2.heap.size = tb at HT htb ⊢
  go_wp2_with fail
  refine hnum.mono ?_
  rintro e w' ⟨rfl, rfl⟩
  go_wp2_with (first
    | refine wpList_load_row rfl 27 _ rfl _ rfl _ _ _ _ HA3.out Try.underlying27 rfl (size_av _) ?_)
  refine htb.mono ?_
  rintro e w4 ⟨rfl, hb6⟩
  have HA4 : Hid (w4.heap[w.heap.size]? = some (.cells (av ws) 27 (0, 0))) := (hb6.block w.heap.size (heap_lt HA3.out)).trans HA3.out
  have HT4 : Hid (Tn w4 tb (wan s t) m f 1) := HT.out.below hb6
  have HB4 : Hid (Below w.heap.size w w4) := HB.out.trans (hb6.mono HB.out.size)
  have hsu := sums_any ws false (by simp; exact HW.out) w4
  clear HA3 hb6 HT HB htb hnum
  go_wp2_with (first
    | refine wpList_load_row rfl 27 _ rfl _ rfl _ _ _ _ HA4.out Try.underlying27 rfl (size_av _) ?_)
  refine hsu.mono ?_
  rintro e w5 ⟨rfl, hb7⟩
  have HT5 : Hid (Tn w5 tb (wan s t) m f 1) := HT4.out.below hb7
  have HB5 : Hid (Below w.heap.size w w5) := HB4.out.trans (hb7.mono HB4.out.size)
  have hnum := num_any 71 w5
  have hth := threshold_any HT5.out
  simp only [show (1 : Nat) - 1 = 0 from rfl, HF.out] at hth
  clear HA4 hb7 HT4 HB4 hsu
  go_wp2_with fail
  refine hnum.mono ?_
  rintro e w' ⟨rfl, rfl⟩
  go_wp2_with fail
  refine hth.mono ?_
  rintro e w6 ⟨rfl, hb8⟩
  go_wp2
  go_ret
  exact ⟨rfl, HB5.out.trans (hb8.mono HB5.out.size)⟩

set_option maxHeartbeats 4000000 in
theorem holds_ok (s t : Int) (m : Nat) (ws : Nat → Int) (h : May s t m) (hw : Wk ws) (w : World) :
    Calls Try.prog 4 #[.int .i64 s, .int .i64 t, .int .i64 m, .agg (av ws)] w fun e w' => e = .returned (.bool true) ∧ Below w.heap.size w w' := by
  have hA : (w.alloc (.cells (av ws) 27)).heap[w.heap.size]? = _ := heap_alloc_new w (.cells (av ws) 27)
  have hb := Below.alloc (Below.refl w.heap.size w) (Nat.le_refl _) (.cells (av ws) 27)
  have hsz : (w.alloc (.cells (av ws) 27)).heap.size = w.heap.size + 1 := by simp
  go_enter Try.func4, Try.ntmps4
  go_upto_region 1 with fail
  generalize (w.alloc (.cells (av ws) 27)) = w1 at hA hb hsz ⊢
  have hk := known_any w1
  have HA : Hid (_ = _) := hA
  have HS : Hid (_ = _) := hsz
  clear hA hsz
  go_wp2_with fail
  refine hk.mono ?_
  rintro e w2 ⟨rfl, hb2⟩
  have hb3 := hb.trans (hb2.mono hb.size)
  have HA2 : Hid (w2.heap[w.heap.size]? = some (.cells (av ws) 27 (0, 0))) := (hb2.block w.heap.size (by have := HS.out; omega)).trans HA.out
  have HH : Hid (May s t m) := h
  have hn := new_yes s t m h w2
  clear hb hb2 hk h HA
  go_wp2_with fail
  refine hn.mono ?_
  rintro e w3 ⟨rfl, ⟨f, hf, H⟩, hb4⟩
  have hb5 := hb3.trans (hb4.mono hb3.size)
  have HA3 : Hid (w3.heap[w.heap.size]? = some (.cells (av ws) 27 (0, 0))) := (hb4.block w.heap.size (heap_lt HA2.out)).trans HA2.out
  have hlt : w.heap.size < w2.heap.size := heap_lt HA2.out
  have hnum := num_any 0 w3
  have htb := turn_ok H ws hw
  have HT : Hid (Tn w3 w2.heap.size (wan s t) m f 1) := H
  have HB : Hid (Below w.heap.size w w3) := hb5
  have HW : Hid (Wk ws) := hw
  have HL : Hid (w.heap.size < w2.heap.size) := hlt
  clear hb3 hb4 hb5 H HA2 hf hw hn hlt
  generalize w2.heap.size = tb at HT htb HL ⊢
  go_wp2_with fail
  refine hnum.mono ?_
  rintro e w' ⟨rfl, rfl⟩
  go_wp2_with (first
    | refine wpList_load_row rfl 27 _ rfl _ rfl _ _ _ _ HA3.out Try.underlying27 rfl (size_av _) ?_)
  refine htb.mono ?_
  rintro e w4 ⟨r, rfl, hr, H4, ht4⟩
  have HA4 : Hid (w4.heap[w.heap.size]? = some (.cells (av ws) 27 (0, 0))) := (ht4.block w.heap.size (heap_lt HA3.out) (by have := HL.out; simp; omega)).trans HA3.out
  have HT4 : Hid (Tn w4 tb (wan s t) m (wf f 1 r) (wn 1)) := H4
  have HB4 : Hid (Below w.heap.size w w4) := HB.out.trans (ht4.below HB.out.size (fun k hk => by have := HL.out; simp at hk; omega))
  have hsu := sums_any ws true (by simp; exact HW.out) w4
  have HR : Hid (IsNext (wan s t) m ws r) := hr
  clear HA3 ht4 HT HB htb hnum hr H4
  go_wp2_with (first
    | refine wpList_load_row rfl 27 _ rfl _ rfl _ _ _ _ HA4.out Try.underlying27 rfl (size_av _) ?_)
  refine hsu.mono ?_
  rintro e w5 ⟨rfl, hb7⟩
  have HT5 : Hid (Tn w5 tb (wan s t) m (wf f 1 r) (wn 1)) := HT4.out.below hb7
  have HB5 : Hid (Below w.heap.size w w5) := HB4.out.trans (hb7.mono HB4.out.size)
  have HA5 : Hid (w5.heap[w.heap.size]? = some (.cells (av ws) 27 (0, 0))) := (hb7.block w.heap.size (heap_lt HA4.out)).trans HA4.out
  have hnum := num_any 0 w5
  have hth := threshold_any HT5.out
  rw [show wf f 1 (r : Int) (wn 1 - 1) = r by simp [wf, wn]] at hth
  clear HA4 hb7 HT4 HB4 hsu
  have r1 := HR.out.lo
  have r2 := HR.out.hi
  have r3 : m ≤ 15 := by have := HH.out; unfold May at this; omega
  have r4 : (1 : Int) ≤ r := by omega
  have r5 : (r : Int) ≤ m := by omega
  go_wp2_with fail
  refine hnum.mono ?_
  rintro e w' ⟨rfl, rfl⟩
  go_wp2_with fail
  refine hth.mono ?_
  rintro e w6 ⟨rfl, hb8⟩
  have HA6 : Hid (w6.heap[w.heap.size]? = some (.cells (av ws) 27 (0, 0))) := (hb8.block w.heap.size (heap_lt HA5.out)).trans HA5.out
  have HB6 : Hid (Below w.heap.size w w6) := HB5.out.trans (hb8.mono HB5.out.size)
  clear HA5 HB5 HT5 hb8 hth hnum
  go_wp2
  go_loopw [13, 14] (fun s i wr => ∃ k : Nat, 1 ≤ k ∧ k ≤ r ∧ i = .int .i64 k ∧ s = .int .i64 (psum ws (k - 1)) ∧ wr = w6) (fun _ i _ => r - (intOf i).toNat)
  case atStart => exact ⟨1, Nat.le_refl _, r1, rfl, rfl, rfl⟩
  case round =>
    obtain ⟨k, hk1, hk2, rfl, rfl, rfl⟩ := hrel
    by_cases hlt : k < r
    · have ck := (heap_cell HA6.out k).trans (av_get ws k (by omega))
      have hki : (k : Int) < r := by omega
      have hs := psum_bd HW.out (k - 1) (by omega)
      have hx := HW.out k (by omega)
      have hps : psum ws k = psum ws (k - 1) + ws k := by
        obtain ⟨j, rfl⟩ : ∃ j, k = j + 1 := ⟨k - 1, by omega⟩
        rfl
      have hk16 : k < 16 := by omega
      generalize psum ws (k - 1) = P at hs hps ⊢
      generalize ws k = X at hx hps ck ⊢
      have Hps : Hid (_ = _) := hps
      clear hps
      go_wp2
      go_roundw
      case rel =>
        refine ⟨k + 1, by omega, by omega, by go_num, ?_, trivial⟩
        rw [Nat.add_sub_cancel, Hps.out]
      case measure => simp [intOf]; omega
    · obtain rfl : k = r := by omega
      obtain ⟨m1, m2, m3, m4, m5, m6⟩ := HH.out
      obtain ⟨q1, q2, q3, q4⟩ := wan_bd s t m1 m2 m3 m4
      have ck := (heap_cell HA6.out k).trans (av_get ws k (by omega))
      have hs := psum_bd HW.out (k - 1) (by omega)
      have hx := HW.out k (by omega)
      have hps : psum ws k = psum ws (k - 1) + ws k := by
        obtain ⟨j, rfl⟩ : ∃ j, k = j + 1 := ⟨k - 1, by omega⟩
        rfl
      have hP : psum ws (k - 1) ≤ wan s t := by
        by_cases h1 : k = 1
        · subst h1; simpa [psum] using q1
        · exact HR.out.below (k - 1) (by omega) (by omega)
      have hO := HR.out.own
      rw [hps] at hO
      unfold wan at hP hO q1 q2
      generalize psum ws (k - 1) = P at hs hO hP ⊢
      generalize ws k = X at hx hO ck ⊢
      clear hps
      have hk16 : k < 16 := by omega
      by_cases he : k = m
      · subst he
        clear hO
        go_wp2
        go_ret
        exact ⟨rfl, HB6.out⟩
      · have hO2 : s * t / 100 < P + X := hO.resolve_left he
        have hne : (k : Int) ≠ m := by omega
        clear hO he
        go_wp2
        go_ret
        exact ⟨rfl, HB6.out⟩

theorem holds_any (s t m : Int) (ws : Nat → Int) (w : World) :
    Calls Try.prog 4 #[.int .i64 s, .int .i64 t, .int .i64 m, .agg (av ws)] w fun e w' => e = .returned (.bool true) ∧ Below w.heap.size w w' := by
  by_cases h : May s t m
  · obtain ⟨k, rfl⟩ : ∃ k : Nat, m = k := ⟨m.toNat, by unfold May at h; omega⟩
    by_cases hw : Wk ws
    · exact holds_ok s t k ws h hw w
    · exact holds_bad s t k ws h hw w
  · exact holds_no s t m ws h w

end Go.Proofs.Ytdcmpilgfkaamaa
