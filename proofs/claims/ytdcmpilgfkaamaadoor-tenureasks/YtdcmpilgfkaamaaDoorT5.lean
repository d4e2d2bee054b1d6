/-
  Turn.
-/
import Derived.Test.YtdcmpilgfkaamaaDoorT4
set_option linter.unusedVariables false
set_option maxRecDepth 20000
namespace Go.Proofs.YtdcmpilgfkaamaaDoor
open Go.RowKit

theorem index_av (ws : Nat → Int) (k : Nat) (hk : k < 16) (w : World) : (Instr.index 53 (.agg (av ws)) (.int .i64 k)).run Tryd.prog w = .ok (.int .i64 (ws k)) w := by
  have h : k = 0 ∨ k = 1 ∨ k = 2 ∨ k = 3 ∨ k = 4 ∨ k = 5 ∨ k = 6 ∨ k = 7 ∨ k = 8 ∨ k = 9 ∨ k = 10 ∨ k = 11 ∨ k = 12 ∨ k = 13 ∨ k = 14 ∨ k = 15 := by omega
  rcases h with rfl | rfl | rfl | rfl | rfl | rfl | rfl | rfl | rfl | rfl | rfl | rfl | rfl | rfl | rfl | rfl
  · exact (by kernel_rfl : (Instr.index 53 (.agg (av ws)) (.int .i64 0)).run Tryd.prog w = .ok (.int .i64 (ws 0)) w)
  · exact (by kernel_rfl : (Instr.index 53 (.agg (av ws)) (.int .i64 1)).run Tryd.prog w = .ok (.int .i64 (ws 1)) w)
  · exact (by kernel_rfl : (Instr.index 53 (.agg (av ws)) (.int .i64 2)).run Tryd.prog w = .ok (.int .i64 (ws 2)) w)
  · exact (by kernel_rfl : (Instr.index 53 (.agg (av ws)) (.int .i64 3)).run Tryd.prog w = .ok (.int .i64 (ws 3)) w)
  · exact (by kernel_rfl : (Instr.index 53 (.agg (av ws)) (.int .i64 4)).run Tryd.prog w = .ok (.int .i64 (ws 4)) w)
  · exact (by kernel_rfl : (Instr.index 53 (.agg (av ws)) (.int .i64 5)).run Tryd.prog w = .ok (.int .i64 (ws 5)) w)
  · exact (by kernel_rfl : (Instr.index 53 (.agg (av ws)) (.int .i64 6)).run Tryd.prog w = .ok (.int .i64 (ws 6)) w)
  · exact (by kernel_rfl : (Instr.index 53 (.agg (av ws)) (.int .i64 7)).run Tryd.prog w = .ok (.int .i64 (ws 7)) w)
  · exact (by kernel_rfl : (Instr.index 53 (.agg (av ws)) (.int .i64 8)).run Tryd.prog w = .ok (.int .i64 (ws 8)) w)
  · exact (by kernel_rfl : (Instr.index 53 (.agg (av ws)) (.int .i64 9)).run Tryd.prog w = .ok (.int .i64 (ws 9)) w)
  · exact (by kernel_rfl : (Instr.index 53 (.agg (av ws)) (.int .i64 10)).run Tryd.prog w = .ok (.int .i64 (ws 10)) w)
  · exact (by kernel_rfl : (Instr.index 53 (.agg (av ws)) (.int .i64 11)).run Tryd.prog w = .ok (.int .i64 (ws 11)) w)
  · exact (by kernel_rfl : (Instr.index 53 (.agg (av ws)) (.int .i64 12)).run Tryd.prog w = .ok (.int .i64 (ws 12)) w)
  · exact (by kernel_rfl : (Instr.index 53 (.agg (av ws)) (.int .i64 13)).run Tryd.prog w = .ok (.int .i64 (ws 13)) w)
  · exact (by kernel_rfl : (Instr.index 53 (.agg (av ws)) (.int .i64 14)).run Tryd.prog w = .ok (.int .i64 (ws 14)) w)
  · exact (by kernel_rfl : (Instr.index 53 (.agg (av ws)) (.int .i64 15)).run Tryd.prog w = .ok (.int .i64 (ws 15)) w)

theorem Tryd.sizeInts16 : (Tryd.prog.info? 53).map (·.size) = some 16 := by kernel_rfl

theorem size_av (f : Nat → Int) : (Tryd.prog.info? 53).map (·.size) = some (av f).size := by rw [av_size]; exact Tryd.sizeInts16

set_option maxHeartbeats 2000000 in
theorem turn_bad (a : Option Addr) (w : World) (ws : Nat → Int) (hw : ¬ Wk ws) :
    Calls Tryd.prog 14 #[.pointer a, .agg (av ws)] w fun e w' => e = .returned (.tuple #[.int .i64 0, .int .i64 71]) ∧ Below w.heap.size w w' := by
  have hA : (w.alloc (.cells (av ws) 53)).heap[w.heap.size]? = _ := heap_alloc_new w (.cells (av ws) 53)
  have hb := Below.alloc (Below.refl w.heap.size w) (Nat.le_refl _) (.cells (av ws) 53)
  go_enter Tryd.func14, Tryd.ntmps14
  go_upto_region 1 with fail
  generalize (w.alloc (.cells (av ws) 53)) = w1 at hA hb ⊢
  have HA : Hid (_ = _) := hA
  have HW : Hid (¬ Wk ws) := hw
  clear hA hw
  go_wp2_with (first
    | refine wpList_load_row rfl 53 _ rfl _ rfl _ _ _ _ HA.out Tryd.underlying53 rfl (size_av _) ?_)
  go_loopw [10] (fun i wr => ∃ k : Nat, k ≤ 16 ∧ i = .int .i64 k ∧ (∀ j, j < k → 0 ≤ ws j ∧ ws j ≤ 65536) ∧ wr = w1) (fun i _ => 16 - (intOf i).toNat)
  case atStart => exact ⟨0, by omega, rfl, fun j h => by omega, rfl⟩
  case round =>
    obtain ⟨k, hk, rfl, hbl, rfl⟩ := hrel
    have HB : Hid (∀ j, j < k → 0 ≤ ws j ∧ ws j ≤ 65536) := hbl
    clear hbl
    by_cases hlt : k < 16
    · have ix := index_av ws k hlt
      have hwi := within_any (ws k) 0 65536 wr
      have hki : (k : Int) < 16 := by omega
      by_cases hg : 0 ≤ ws k ∧ ws k ≤ 65536
      · rw [decide_eq_true hg] at hwi
        have HG : Hid (0 ≤ ws k ∧ ws k ≤ 65536) := hg
        clear hg
        go_wp2_with fail
        refine hwi.mono ?_
        rintro e w' ⟨rfl, rfl⟩
        go_wp2
        go_roundw
        case rel =>
          refine ⟨k + 1, by omega, by go_num, ?_, trivial⟩
          intro j hj
          by_cases h3 : j = k
          · subst h3; exact HG.out
          · exact HB.out j (by omega)
        case measure => simp [intOf]; omega
      · rw [decide_eq_false hg] at hwi
        clear hg
        go_wp2_with fail
        refine hwi.mono ?_
        rintro e w' ⟨rfl, rfl⟩
        go_wp2
        go_ret2
        exact ⟨rfl, hb⟩
    · exact absurd (fun j hj => HB.out j (by omega)) HW.out

theorem tv_rest_set (wa mo : Int) (f g : Nat → Int) (n m : Nat) : ∀ j, (if j < 2 then (tv wa mo f n)[j]? else (pv g m)[j - 2]?) = (tv wa mo g m)[j]? := by
  intro j
  by_cases h : j < 2
  · rw [if_pos h]
    have : j = 0 ∨ j = 1 := by omega
    rcases this with rfl | rfl
    · rw [tv_get0, tv_get0]
    · rw [tv_get1, tv_get1]
  · rw [if_neg h]
    obtain ⟨i, rfl⟩ : ∃ i, j = 2 + i := ⟨j - 2, by omega⟩
    rw [tv_rest]; congr 1; omega

/-- What a store of many cells does to a block. -/
theorem heap_setCells (b : Nat) (t : TypeId) : ∀ (vs : List Value) (o : Nat) (w : World) (cs : Array Value), w.heap[b]? = some (.cells cs t (0, 0)) → o + vs.length ≤ cs.size →
    ∃ cs', (w.setCells b o vs).heap[b]? = some (.cells cs' t (0, 0)) ∧ cs'.size = cs.size ∧ ∀ j, cs'[j]? = if o ≤ j ∧ j < o + vs.length then vs[j - o]? else cs[j]?
  | [], o, w, cs, h, _ => ⟨cs, h, rfl, fun j => by rw [if_neg (by simp)]⟩
  | v :: vs, o, w, cs, h, hl => by
    obtain ⟨cs', h1, h2, h3⟩ := heap_setCells b t vs (o + 1) (w.setCell ⟨b, o, none⟩ v) _ (heap_set h o v) (by simp at hl ⊢; omega)
    refine ⟨cs', by rw [World.setCells]; exact h1, by rw [h2]; simp, fun j => ?_⟩
    rw [h3 j, Array.getElem?_setIfInBounds]
    simp only [List.length_cons] at hl ⊢
    by_cases hj : j = o
    · subst hj
      rw [if_neg (by omega), if_pos rfl, if_pos (by omega), if_pos (by omega)]; simp
    · by_cases hj2 : o + 1 ≤ j ∧ j < o + 1 + vs.length
      · rw [if_pos hj2, if_pos (by omega), show j - o = (j - (o + 1)) + 1 by omega, List.getElem?_cons_succ]
      · rw [if_neg hj2, if_neg (by omega), if_neg (by omega)]

theorem touch_setCells (b : Nat) : ∀ (vs : List Value) (o : Nat) (w : World), Touch [b] w (w.setCells b o vs)
  | [], o, w => Touch.refl _ _
  | v :: vs, o, w => by
    rw [World.setCells]
    exact (Touch.setCell w ⟨b, o, none⟩ v (by simp)).trans (touch_setCells b vs (o + 1) _)

theorem tn_store {w : World} {b : Nat} {wa : Int} {mo n : Nat} {f : Nat → Int} (H : Tn w b wa mo f n) (g : Nat → Int) (m : Nat) (h0 : 1 ≤ m) (h1 : m ≤ 16) : Tn (w.setCells b 2 (pv g m).toList) b wa mo g m := by
  obtain ⟨cs', h2, h3, h4⟩ := heap_setCells b 65 (pv g m).toList 2 w _ H.at_ (by rw [Array.length_toList, pv_size, tv_size]; omega)
  have : cs' = tv wa mo g m := by
    apply Array.ext_getElem?
    intro j
    rw [h4, ← tv_rest_set wa mo f g n m j]
    by_cases hj : j < 2
    · rw [if_neg (by omega), if_pos hj]
    · rw [if_neg hj]
      by_cases hj2 : j < 19
      · rw [if_pos (by rw [Array.length_toList, pv_size]; omega), Array.getElem?_toList]
      · rw [if_neg (by rw [Array.length_toList, pv_size]; omega), Array.getElem?_eq_none (by rw [tv_size]; omega), Array.getElem?_eq_none (by rw [pv_size]; omega)]
  subst this
  exact ⟨h2, H.w0, H.w1, H.m0, H.m1, h0, h1⟩

theorem Tn.there {w : World} {b : Nat} {wa : Int} {mo n : Nat} {f : Nat → Int} (H : Tn w b wa mo f n) : w.there b 2 17 := by
  intro j hj
  refine ⟨?_, heap_frozen H.at_ _⟩
  rw [heap_cell H.at_, tv_rest]
  simp [pv_size]; omega

theorem wn_bd (n : Nat) (h1 : 1 ≤ n) (hn : n ≤ 16) : 1 ≤ wn n ∧ wn n ≤ 16 := by
  unfold wn; split <;> omega

end Go.Proofs.YtdcmpilgfkaamaaDoor
