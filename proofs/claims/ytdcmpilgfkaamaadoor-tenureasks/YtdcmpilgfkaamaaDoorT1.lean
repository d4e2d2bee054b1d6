/-
  A past in memory; within, with (room).
-/
import Derived.Test.YtdcmpilgfkaamaaDoorTMem
import Derived.Deep.Cut
import Derived.Handy
import Derived.Deep.MidRow
import Derived.Deep.WholeRow
import Derived.Laws.CopyRow
import Derived.Laws.CopyOwn
set_option linter.unusedVariables false
set_option maxRecDepth 20000
namespace Go.Proofs.YtdcmpilgfkaamaaDoor
open Go.RowKit

/-- Sixteen numbers, as cells. -/
def row16 (f : Nat → Int) : List Value := (List.range 16).map fun i => .int .i64 (f i)

theorem row16_length (f : Nat → Int) : (row16 f).length = 16 := by simp [row16]

theorem row16_get (f : Nat → Int) (i : Nat) (h : i < 16) : (row16 f)[i]? = some (.int .i64 (f i)) := by simp [row16, h]

theorem row16_congr {f g : Nat → Int} (h : ∀ i, i < 16 → f i = g i) : row16 f = row16 g := by
  unfold row16
  apply List.map_congr_left
  intro i hi
  rw [h i (by simpa using hi)]

theorem row16_one (f : Nat → Int) : ∀ v ∈ row16 f, v.oneCell' = true := by
  intro v hv
  simp only [row16, List.mem_map] at hv
  obtain ⟨i, _, rfl⟩ := hv
  rfl

/-- An array of sixteen. -/
def av (f : Nat → Int) : Array Value := (row16 f).toArray

theorem av_size (f : Nat → Int) : (av f).size = 16 := by simp [av, row16_length]

theorem av_get (f : Nat → Int) (i : Nat) (h : i < 16) : (av f)[i]? = some (.int .i64 (f i)) := by simp [av, row16_get f i h]

/-- A past: sixteen and how many. -/
def pv (f : Nat → Int) (n : Int) : Array Value := (row16 f ++ [Value.int .i64 n]).toArray

theorem pv_size (f : Nat → Int) (n : Int) : (pv f n).size = 17 := by simp [pv, row16_length]

theorem pv_get (f : Nat → Int) (n : Int) (i : Nat) (h : i < 16) : (pv f n)[i]? = some (.int .i64 (f i)) := by
  rw [← row16_get f i h]
  simp [pv, List.getElem?_append, h, row16_length]

theorem pv_last (f : Nat → Int) (n : Int) : (pv f n)[16]? = some (.int .i64 n) := by
  simp [pv, row16_length]

theorem pv_set (f : Nat → Int) (n x : Int) (i : Nat) (h : i < 16) : (pv f n).setIfInBounds i (.int .i64 x) = pv (fun j => if j = i then x else f j) n := by
  apply Array.ext_getElem?
  intro j
  rw [Array.getElem?_setIfInBounds]
  by_cases hj : i = j
  · subst hj
    rw [if_pos rfl, pv_get _ _ _ h]; simp [pv_size]; omega
  · rw [if_neg hj]
    by_cases hj2 : j < 16
    · rw [pv_get _ _ _ hj2, pv_get _ _ _ hj2, if_neg (fun e => hj e.symm)]
    · by_cases hj3 : j = 16
      · subst hj3; rw [pv_last, pv_last]
      · rw [Array.getElem?_eq_none (by rw [pv_size]; omega), Array.getElem?_eq_none (by rw [pv_size]; omega)]

theorem pv_set16 (f : Nat → Int) (n x : Int) : (pv f n).setIfInBounds 16 (.int .i64 x) = pv f x := by
  apply Array.ext_getElem?
  intro j
  rw [Array.getElem?_setIfInBounds]
  by_cases hj : 16 = j
  · subst hj
    rw [if_pos rfl, pv_last]; simp [pv_size]
  · rw [if_neg hj]
    by_cases hj2 : j < 16
    · rw [pv_get _ _ _ hj2, pv_get _ _ _ hj2]
    · rw [Array.getElem?_eq_none (by rw [pv_size]; omega), Array.getElem?_eq_none (by rw [pv_size]; omega)]

theorem pv_one (f : Nat → Int) (n : Int) : (pv f n).all (·.oneCell') = true := by
  refine all_oneCell_toArray ?_
  intro v hv
  rcases List.mem_append.1 hv with h | h
  · exact row16_one f v h
  · simp only [List.mem_singleton] at h; subst h; rfl

theorem within_any (n l m : Int) (w : World) :
    Calls Tryd.prog 36 #[.int .i64 n, .int .i64 l, .int .i64 m] w fun e w' => e = .returned (.bool (decide (l ≤ n ∧ n ≤ m))) ∧ w = w' := by
  by_cases h1 : l ≤ n
  · by_cases h2 : n ≤ m
    · go_enter Tryd.func36, Tryd.ntmps36
      go_wp2
      go_ret
      simp [h1, h2]
    · go_enter Tryd.func36, Tryd.ntmps36
      go_wp2
      go_ret
      simp [h2]
  · go_enter Tryd.func36, Tryd.ntmps36
    go_wp2
    go_ret
    simp
    omega

theorem Tryd.infoPast : (Tryd.prog.info? 63).map (fun i => (i.zero, i.size)) = some (some (.agg (pv (fun _ => 0) 0)), 17) := by kernel_rfl

theorem Tryd.sizePast : (Tryd.prog.info? 63).map (·.size) = some 17 := by kernel_rfl

end Go.Proofs.YtdcmpilgfkaamaaDoor
