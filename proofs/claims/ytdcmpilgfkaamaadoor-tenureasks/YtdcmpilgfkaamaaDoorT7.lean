/-
  New where there is one; num, sums.
-/
import Derived.Test.YtdcmpilgfkaamaaDoorT6
set_option linter.unusedVariables false
set_option maxRecDepth 20000
namespace Go.Proofs.YtdcmpilgfkaamaaDoor
open Go.RowKit

theorem wrap_in64 (n : Int) (h : -9223372036854775808 ≤ n ∧ n ≤ 9223372036854775807) : wrap64 n = n := by unfold wrap64; omega

theorem tvr_range {w : World} {b : Nat} {wa mo : Int} {n : Nat} {f : Nat → Int} (h : w.heap[b]? = some (.cells (tv wa mo f n) 65 (0, 0))) : w.rangeAt b 2 (pv f n).toList := by
  intro j v hv
  rw [heap_cell h, tv_rest, ← hv]
  simp

theorem tvr_there {w : World} {b : Nat} {wa mo : Int} {n : Nat} {f : Nat → Int} (h : w.heap[b]? = some (.cells (tv wa mo f n) 65 (0, 0))) : w.there b 2 17 := by
  intro j hj
  refine ⟨?_, heap_frozen h _⟩
  rw [heap_cell h, tv_rest]
  simp [pv_size]; omega

theorem tvr_store {w : World} {b : Nat} {wa mo : Int} {n : Nat} {f : Nat → Int} (h : w.heap[b]? = some (.cells (tv wa mo f n) 65 (0, 0))) (g : Nat → Int) (m : Nat) : (w.setCells b 2 (pv g m).toList).heap[b]? = some (.cells (tv wa mo g m) 65 (0, 0)) := by
  obtain ⟨cs', h2, h3, h4⟩ := heap_setCells b 65 (pv g m).toList 2 w _ h (by rw [Array.length_toList, pv_size, tv_size]; omega)
  have : cs' = tv wa mo g m := by
    apply Array.ext_getElem?
    intro j
    rw [h4, ← tv_rest_set wa mo f g n m j]
    by_cases hj : j < 2
    · rw [if_neg (by omega), if_pos hj]
    · rw [if_neg hj]
      by_cases hj2 : j < 19
      · rw [if_pos (by rw [Array.length_toList, pv_size]; omega), Array.getElem?_toList]
      · rw [if_neg (by rw [Array.length_toList, pv_size]; omega), Array.getElem?_eq_none (by rw [tv_size]; omega), Array.getElem?_eq_none (by rw [pv_size]; omega)]
  subst this
  exact h2

set_option maxHeartbeats 2000000 in
theorem new_yes (s t : Int) (m : Nat) (h : May s t m) (w : World) :
    Calls Tryd.prog 16 #[.int .i64 s, .int .i64 t, .int .i64 m] w fun e w' => e = .returned (.tuple #[.pointer (some ⟨w.heap.size, 0, none⟩), .int .i64 0]) ∧ (∃ f : Nat → Int, f 0 = m ∧ Tn w' w.heap.size (wan s t) m f 1) ∧ Below w.heap.size w w' := by
  obtain ⟨h1, h2, h3, h4, h5, h6⟩ := h
  have w1 := within_any s 1 65536 w
  have w2 := within_any t 1 100 w
  have w3 := within_any (m : Int) 1 15 w
  rw [decide_eq_true ⟨h1, h2⟩] at w1
  rw [decide_eq_true ⟨h3, h4⟩] at w2
  rw [decide_eq_true ⟨h5, h6⟩] at w3
  obtain ⟨q1, q2, q3, q4⟩ := wan_bd s t h1 h2 h3 h4
  obtain ⟨V, hV⟩ : ∃ V, V = wan s t := ⟨_, rfl⟩
  rw [← hV] at q1 q2 ⊢
  have HV : Hid (s * t / 100 = V) := by rw [hV]; rfl
  clear hV
  clear h1 h2 h3 h4
  have ea : (#[.int .i64 V, .int .i64 m, .int .i64 0, .int .i64 0, .int .i64 0, .int .i64 0, .int .i64 0, .int .i64 0, .int .i64 0, .int .i64 0, .int .i64 0, .int .i64 0, .int .i64 0, .int .i64 0, .int .i64 0, .int .i64 0, .int .i64 0, .int .i64 0, .int .i64 0] : Array Value) = tv V m (fun _ => 0) 0 := by kernel_rfl
  have Ea : Hid (_ = _) := ea
  clear ea
  go_enter Tryd.func16, Tryd.ntmps16
  go_wp2_with fail
  refine w1.mono ?_
  rintro e w' ⟨rfl, rfl⟩
  go_wp2_with fail
  refine w2.mono ?_
  rintro e w' ⟨rfl, rfl⟩
  go_wp2_with fail
  refine w3.mono ?_
  rintro e w' ⟨rfl, rfl⟩
  clear w1 w2 w3
  go_upto_region 4 with fail
  rw [HV.out, Ea.out]
  have hA : (w.alloc (.cells (tv V m (fun _ => 0) 0) 65)).heap[w.heap.size]? = _ := heap_alloc_new w (.cells (tv V m (fun _ => 0) 0) 65)
  have hb := Below.alloc (Below.refl w.heap.size w) (Nat.le_refl _) (.cells (tv V m (fun _ => 0) 0) 65)
  have hsz : (w.alloc (.cells (tv V m (fun _ => 0) 0) 65)).heap.size = w.heap.size + 1 := by simp
  generalize (w.alloc (.cells (tv V m (fun _ => 0) 0) 65)) = w1 at hA hb hsz ⊢
  have hwt := with_any (fun _ => 0) 0 (by omega) m w1
  have HA : Hid (_ = _) := hA
  have HB : Hid (Below w.heap.size w w1) := hb
  have HS : Hid (_ = _) := hsz
  clear hA hb hsz
  go_wp2_with (first
    | refine wpList_load_mid rfl 63 _ rfl w.heap.size 2 rfl _ _ (tvr_range HA.out) Tryd.underlying63 rfl (size_pvl _ _) ?_)
  refine hwt.mono ?_
  rintro e w3 ⟨rfl, hb3⟩
  have HA3 : Hid (w3.heap[w.heap.size]? = some (.cells (tv V m (fun _ => 0) 0) 65 (0, 0))) := (hb3.block w.heap.size (by have := HS.out; omega)).trans HA.out
  have HB3 : Hid (Below w.heap.size w w3) := HB.out.trans (hb3.mono (by have := HS.out; omega))
  clear hb3 hwt HA HB
  go_wp2_with (first
    | refine wpList_store_mid rfl 63 _ _ rfl w.heap.size 2 _ rfl rfl (by rw [pv_size]; exact tvr_there HA3.out) (by rw [pv_size]; exact Tryd.sizePast) (pv_one _ _) ?_)
  go_ret2
  refine ⟨rfl, ⟨wf (fun _ => 0) 0 m, by simp [wf], ⟨?_, q1, q2, by omega, by omega, by omega, by omega⟩⟩, ?_⟩
  · exact tvr_store HA3.out _ _
  · exact HB3.out.trans (Touch.below (touch_setCells w.heap.size _ 2 w3) (Nat.le_trans (Nat.le_refl _) HB3.out.size) (fun k hk => by simp at hk; omega))

theorem num_any (x : Int) (w : World) :
    Calls Tryd.prog 18 #[.int .i64 x] w fun e w' => e = .returned (.int .i64 x) ∧ w = w' := by
  go_enter Tryd.func18, Tryd.ntmps18
  go_wp2
  go_ret
  exact ⟨rfl, rfl⟩

end Go.Proofs.YtdcmpilgfkaamaaDoor
