/-
  TenureFalls, walked: what is asked.
-/
import Derived.Test.YtdcmpilgfkaamaaT10
set_option linter.unusedVariables false
namespace Go.Proofs.Ytdcmpilgfkaamaa
open Go.RowKit

set_option maxHeartbeats 4000000 in
theorem falls_no (s t m age more : Int) (ws : Nat → Int) (h : ¬ Out age more) (hw : Wk ws) (hm : ¬ May s t m) (w : World) :
    Calls Try.prog 5 #[.int .i64 s, .int .i64 t, .int .i64 m, .agg (av ws), .int .i64 age, .int .i64 more] w fun e w' => e = .returned (.bool true) ∧ Below w.heap.size w w' := by
  have hA : (w.alloc (.cells (av ws) 27)).heap[w.heap.size]? = _ := heap_alloc_new w (.cells (av ws) 27)
  have hb := Below.alloc (Below.refl w.heap.size w) (Nat.le_refl _) (.cells (av ws) 27)
  have hsz : (w.alloc (.cells (av ws) 27)).heap.size = w.heap.size + 1 := by simp
  go_enter Try.func5, Try.ntmps5
  go_upto_region 1 with fail
  generalize (w.alloc (.cells (av ws) 27)) = w1 at hA hb hsz ⊢
  have hk := known_any w1
  have HA : Hid (_ = _) := hA
  have HS : Hid (_ = _) := hsz
  clear hA hsz
  go_wp2_with fail
  refine hk.mono ?_
  rintro e w2 ⟨rfl, hb2⟩
  have hb3 := hb.trans (hb2.mono hb.size)
  have HA2 : Hid (w2.heap[w.heap.size]? = some (.cells (av ws) 27 (0, 0))) := (hb2.block w.heap.size (by have := HS.out; omega)).trans HA.out
  have hsu := sums_any ws true (by simp; exact hw) w2
  have c1 : decide (age < 0) = false := by unfold Out at h; simp; omega
  have c2 : decide (15 < age) = false := by unfold Out at h; simp; omega
  have c3 : decide (more < 0) = false := by unfold Out at h; simp; omega
  have c4 : decide (65536 < more) = false := by unfold Out at h; simp; omega
  clear hb hb2 hk h HA
  go_wp2_with (first
    | refine wpList_load_row_g (by rfl) 27 _ rfl _ rfl _ _ _ _ HA2.out Try.underlying27 rfl (size_av _) ?_)
  refine hsu.mono ?_
  rintro e w3 ⟨rfl, hb4⟩
  have hb5 := hb3.trans (hb4.mono hb3.size)
  have hn := new_no s t m hm w3
  have hnum := num_any 70 w3
  clear hb3 hb4 hsu c1 c2 c3 c4
  go_wp2_with fail
  refine hn.mono ?_
  rintro e w' ⟨rfl, rfl⟩
  go_wp2_with fail
  refine hn.mono ?_
  rintro e w' ⟨rfl, rfl⟩
  go_wp2_with fail
  refine hnum.mono ?_
  rintro e w' ⟨rfl, rfl⟩
  go_wp2_with fail
  refine hnum.mono ?_
  rintro e w' ⟨rfl, rfl⟩
  go_wp2_with fail
  refine hnum.mono ?_
  rintro e w' ⟨rfl, rfl⟩
  go_wp2
  go_ret
  exact ⟨rfl, hb5⟩

theorem plus_set (ws : Nat → Int) (age : Nat) (x : Int) (h : age < 16) : (av ws).setIfInBounds age (.int .i64 (ws age + x)) = av (plus ws age x) := av_set ws (ws age + x) age h

set_option maxHeartbeats 4000000 in
theorem falls_core (s t : Int) (m age : Nat) (more : Int) (ws : Nat → Int) (ha : age ≤ 15) (h0 : 0 ≤ more) (h1 : more ≤ 65536) (hw : Wk ws) (hm : May s t m) (w : World) :
    Calls Try.prog 5 #[.int .i64 s, .int .i64 t, .int .i64 m, .agg (av ws), .int .i64 age, .int .i64 more] w fun e w' => e = .returned (.bool true) ∧ Below w.heap.size w w' := by
  have hA : (w.alloc (.cells (av ws) 27)).heap[w.heap.size]? = _ := heap_alloc_new w (.cells (av ws) 27)
  have hb := Below.alloc (Below.refl w.heap.size w) (Nat.le_refl _) (.cells (av ws) 27)
  have hsz : (w.alloc (.cells (av ws) 27)).heap.size = w.heap.size + 1 := by simp
  go_enter Try.func5, Try.ntmps5
  go_upto_region 1 with fail
  generalize (w.alloc (.cells (av ws) 27)) = w1 at hA hb hsz ⊢
  have hk := known_any w1
  have HA : Hid (_ = _) := hA
  have HS : Hid (_ = _) := hsz
  clear hA hsz
  go_wp2_with fail
  refine hk.mono ?_
  rintro e w2 ⟨rfl, hb2⟩
  have hb3 := hb.trans (hb2.mono hb.size)
  have HA2 : Hid (w2.heap[w.heap.size]? = some (.cells (av ws) 27 (0, 0))) := (hb2.block w.heap.size (by have := HS.out; omega)).trans HA.out
  have hsu := sums_any ws true (by simp; exact hw) w2
  have c1 : decide ((age : Int) < 0) = false := by simp
  have c2 : decide (15 < (age : Int)) = false := by simp; omega
  have c3 : decide (more < 0) = false := by simp; omega
  have c4 : decide (65536 < more) = false := by simp; omega
  clear hb hb2 hk HA
  go_wp2_with (first
    | refine wpList_load_row_g (by rfl) 27 _ rfl _ rfl _ _ _ _ HA2.out Try.underlying27 rfl (size_av _) ?_)
  refine hsu.mono ?_
  rintro e w3 ⟨rfl, hb4⟩
  have hb5 := hb3.trans (hb4.mono hb3.size)
  have HA3 : Hid (w3.heap[w.heap.size]? = some (.cells (av ws) 27 (0, 0))) := (hb4.block w.heap.size (heap_lt HA2.out)).trans HA2.out
  have hn := new_yes s t m hm w3
  clear hb3 hb4 hsu c1 c2 c3 c4 HA2
  go_wp2_with fail
  refine hn.mono ?_
  rintro e w4 ⟨rfl, ⟨f, hf, H⟩, hb6⟩
  have hb7 := hb5.trans (hb6.mono hb5.size)
  have HA4 : Hid (w4.heap[w.heap.size]? = some (.cells (av ws) 27 (0, 0))) := (hb6.block w.heap.size (heap_lt HA3.out)).trans HA3.out
  have HL : Hid (w.heap.size < w3.heap.size) := heap_lt HA3.out
  have HT : Hid (Tn w4 w3.heap.size (wan s t) m f 1) := H
  have hn := new_yes s t m hm w4
  have HM : Hid (May s t m) := hm
  clear hb5 hb6 HA3 hf H hm
  generalize w3.heap.size = tb at HL HT ⊢
  go_wp2_with fail
  refine hn.mono ?_
  rintro e w5 ⟨rfl, ⟨g, hg, G⟩, hb8⟩
  have HB : Hid (Below w.heap.size w w5) := hb7.trans (hb8.mono hb7.size)
  have HA5 : Hid (w5.heap[w.heap.size]? = some (.cells (av ws) 27 (0, 0))) := (hb8.block w.heap.size (heap_lt HA4.out)).trans HA4.out
  have HL2 : Hid (tb < w4.heap.size) := heap_lt HT.out.at_
  have HT2 : Hid (Tn w5 tb (wan s t) m f 1) := HT.out.below hb8
  have HU : Hid (Tn w5 w4.heap.size (wan s t) m g 1) := G
  have hnum := num_any 0 w5
  clear hb7 hb8 HA4 HT hg G hn
  generalize w4.heap.size = ub at HL2 HU ⊢
  have HW : Hid (Wk ws) := hw
  have hti := turn_ok HT2.out ws hw
  clear hw
  go_wp2_with fail
  refine hnum.mono ?_
  rintro e w' ⟨rfl, rfl⟩
  go_wp2_with fail
  refine hnum.mono ?_
  rintro e w' ⟨rfl, rfl⟩
  go_wp2_with (first
    | refine wpList_load_row rfl 27 _ rfl _ rfl _ _ _ _ HA5.out Try.underlying27 rfl (size_av _) ?_)
  refine hti.mono ?_
  rintro e w6 ⟨x, rfl, hx, H6, ht6⟩
  have HX : Hid (IsNext (wan s t) m ws x) := hx
  have hA6 : w6.heap[w.heap.size]? = some (.cells (av ws) 27 (0, 0)) := (ht6.block w.heap.size (heap_lt HA5.out) (by have := HL.out; simp; omega)).trans HA5.out
  have hU6 : Tn w6 ub (wan s t) m g 1 := HU.out.touch ht6 (by have := HL2.out; simp; omega)
  have hB6 : Below w.heap.size w w6 := HB.out.trans (ht6.below HB.out.size (fun k hk => by have := HL.out; simp at hk; omega))
  clear hnum hti H6 ht6 HA5 HU HB HT2 hx
  have ca := (heap_cell hA6 age).trans (av_get ws age (by omega))
  have fa := heap_frozen hA6 age
  obtain ⟨y1, y2⟩ := HW.out age (by omega)
  have ha16 : age < 16 := by omega
  have hA7 := heap_set hA6 age (.int .i64 (ws age + more))
  rw [plus_set ws age more ha16] at hA7
  have hB7 := Below.set hB6 (a := ⟨w.heap.size, age, none⟩) (u := .int .i64 (ws age + more)) (Nat.le_refl _)
  have hU7 := hU6.touch (Touch.setCell (F := [w.heap.size]) w6 ⟨w.heap.size, age, none⟩ (.int .i64 (ws age + more)) (by simp)) (by have := HL.out; have := HL2.out; simp; omega)
  have HA7 : Hid (_ = _) := hA7
  have HB7 : Hid (Below _ _ _) := hB7
  have HU7 : Hid (Tn _ _ _ _ _ _) := hU7
  have Hq : Hid (plus ws age more age = ws age + more) := (by simp [plus] : plus ws age more age = ws age + more)
  have HQ : Hid (∀ i, i < 16 → i ≠ age → 0 ≤ plus ws age more i ∧ plus ws age more i ≤ 65536) := fun i hi hn => by simp only [plus, if_neg hn]; exact HW.out i hi
  clear hA6 hB6 hU6 hA7 hB7 hU7
  generalize ws age = Y at y1 y2 ca HA7 HB7 HU7 Hq ⊢
  go_upto_region 11 with fail
  generalize (w6.setCell ⟨w.heap.size, age, none⟩ (.int .i64 (Y + more))) = w7 at HA7 HB7 HU7 ⊢
  clear ca fa
  have ca := (heap_cell HA7.out age).trans (av_get _ age ha16)
  rw [Hq.out] at ca
  have HC : Hid (_ = _) := ca
  clear ca
  by_cases hle : Y + more ≤ 65536
  · have hw2 : Wk (plus ws age more) := by
      intro i hi
      by_cases he : i = age
      · subst he; rw [Hq.out]; omega
      · exact HQ.out i hi he
    have hti := turn_ok HU7.out _ hw2
    clear hw2
    go_wp2_with (first
      | refine wpList_load_row rfl 27 _ rfl _ rfl _ _ _ _ HA7.out Try.underlying27 rfl (size_av _) ?_)
    refine hti.mono ?_
    rintro e w8 ⟨y, rfl, hy, H8, ht8⟩
    have ca : w8.cell? ⟨w.heap.size, age, none⟩ = some (.int .i64 (Y + more)) := by
      rw [← HC.out]
      simp [World.cell?, ht8.block w.heap.size (heap_lt HA7.out) (by have := HL.out; have := HL2.out; simp; omega)]
    have HB8 : Hid (Below w.heap.size w w8) := HB7.out.trans (ht8.below HB7.out.size (fun k hk => by have := HL.out; have := HL2.out; simp at hk; omega))
    have l1 : (y : Int) ≤ x := by have := falls_le h0 HX.out hy; omega
    have l2 : age = 0 → x = y := by rintro rfl; exact (falls_eq HX.out hy).symm
    have hnum := num_any 0 w8
    clear hti hy H8 ht8 HA7 HB7 HU7 HX
    by_cases hz : age = 0
    · have l3 := l2 hz
      subst l3
      subst hz
      clear l2
      go_wp2_with fail
      refine hnum.mono ?_
      rintro e w' ⟨rfl, rfl⟩
      go_wp2
      go_ret
      exact ⟨rfl, HB8.out⟩
    · have hp : (0 : Int) < age := by omega
      clear l2 hz
      go_wp2_with fail
      refine hnum.mono ?_
      rintro e w' ⟨rfl, rfl⟩
      go_wp2
      go_ret
      exact ⟨rfl, HB8.out⟩
  · have hw2 : ¬ Wk (plus ws age more) := by
      intro hh
      have := (hh age ha16).2
      rw [Hq.out] at this; exact hle this
    have hti := turn_bad (some ⟨ub, 0, none⟩) w7 _ hw2
    clear hw2
    go_wp2_with (first
      | refine wpList_load_row rfl 27 _ rfl _ rfl _ _ _ _ HA7.out Try.underlying27 rfl (size_av _) ?_)
    refine hti.mono ?_
    rintro e w8 ⟨rfl, hb8⟩
    have ca : w8.cell? ⟨w.heap.size, age, none⟩ = some (.int .i64 (Y + more)) := by
      rw [← HC.out]
      simp [World.cell?, hb8.block w.heap.size (heap_lt HA7.out)]
    have HB8 : Hid (Below w.heap.size w w8) := HB7.out.trans (hb8.mono HB7.out.size)
    have hnum := num_any 71 w8
    clear hti hb8 HA7 HB7 HU7 HX
    go_wp2_with fail
    refine hnum.mono ?_
    rintro e w' ⟨rfl, rfl⟩
    go_wp2
    go_ret
    exact ⟨rfl, HB8.out⟩

theorem falls_any (s t m : Int) (ws : Nat → Int) (age more : Int) (w : World) :
    Calls Try.prog 5 #[.int .i64 s, .int .i64 t, .int .i64 m, .agg (av ws), .int .i64 age, .int .i64 more] w fun e w' => e = .returned (.bool true) ∧ Below w.heap.size w w' := by
  by_cases h : Out age more
  · exact falls_out s t m age more ws h w
  by_cases hw : Wk ws
  · by_cases hm : May s t m
    · obtain ⟨k, rfl⟩ : ∃ k : Nat, m = k := ⟨m.toNat, by unfold May at hm; omega⟩
      obtain ⟨a, rfl⟩ : ∃ k : Nat, age = k := ⟨age.toNat, by unfold Out at h; omega⟩
      exact falls_core s t k a more ws (by unfold Out at h; omega) (by unfold Out at h; omega) (by unfold Out at h; omega) hw hm w
    · exact falls_no s t m age more ws h hw hm w
  · exact falls_bad s t m age more ws h hw w

end Go.Proofs.Ytdcmpilgfkaamaa
