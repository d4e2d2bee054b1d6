/-
  Words are written, taken, given back.
-/
import Derived.Test.YtpiemfchjlihfaaA1
import Derived.Lib.SliceRun
set_option linter.unusedVariables false
namespace Go.Proofs.Ytpiemfchjlihfaa
open Go.RowKit

/-- A word is written. -/
def upd (ws : Nat → Int) (n : Nat) (v : Int) : Nat → Int := fun j => if j = n then v else ws j

/-- Words become 0. -/
def zer (ws : Nat → Int) (o n : Nat) : Nat → Int := fun j => if o ≤ j ∧ j < o + n then 0 else ws j

theorem Ar.set {w : World} {b g : Nat} {c : Cfg} {x : Tps} {sw : Bool} {ws : Nat → Int} (h : Ar w b g c x sw ws) (n : Nat) (v : Int) (hv : Wd v) : Ar (w.setCell ⟨g, n, none⟩ (.int .u64 v)) b g c x sw (upd ws n v) := by
  have hn := h.ne
  obtain ⟨o, r, ok, wd, a, b', d, e, f, g', i, j⟩ := h
  refine ⟨o.setOther hn _, (r.set n _).congr (fun j _ => ?_), ok, fun j => ?_, a, b', d, e, f, g', i, j⟩
  · unfold upd; split <;> rfl
  · unfold upd; split
    · exact hv
    · exact wd j

theorem Ar.zero {w : World} {b g : Nat} {c : Cfg} {x : Tps} {sw : Bool} {ws : Nat → Int} (h : Ar w b g c x sw ws) (o n : Nat) : Ar (w.setCells g o (List.replicate n (.int .u64 0))) b g c x sw (zer ws o n) := by
  have hn := h.ne
  obtain ⟨ow, r, ok, wd, a, b', d, e, f, g', i, j⟩ := h
  refine ⟨rowIs_setCells_other hn _ _ _ ow, (rowIs_setCells _ o _ _ r).congr (fun j _ => ?_), ok, fun j => ?_, a, b', d, e, f, g', i, j⟩
  · simp only [List.length_replicate]
    unfold zer
    by_cases hj : o ≤ j ∧ j < o + n
    · rw [if_pos hj, if_pos hj, List.getElem?_replicate, if_pos (by omega)]; rfl
    · rw [if_neg hj, if_neg hj]
  · unfold zer; split
    · exact ⟨by decide, by decide⟩
    · exact wd j

theorem wat_upd (c : Cfg) (ws : Nat → Int) (n : Nat) (v i : Int) (hn : (n : Int) < c.words) : wat c (upd ws n v) i = if i = n then v else wat c ws i := by
  unfold wat upd
  by_cases h : 0 ≤ i ∧ i < c.words
  · rw [if_pos h, if_pos h]
    by_cases e : i = n
    · rw [if_pos e, if_pos (by omega)]
    · rw [if_neg e, if_neg (by omega)]
  · rw [if_neg h, if_neg h, if_neg (by omega)]

theorem wat_zer (c : Cfg) (ws : Nat → Int) (o n : Nat) (i : Int) : wat c (zer ws o n) i = if (o : Int) ≤ i ∧ i < o + n then 0 else wat c ws i := by
  unfold wat zer
  by_cases h : 0 ≤ i ∧ i < c.words
  · rw [if_pos h, if_pos h]
    by_cases e : (o : Int) ≤ i ∧ i < o + n
    · rw [if_pos e, if_pos (by omega)]
    · rw [if_neg e, if_neg (by omega)]
  · rw [if_neg h, if_neg h]; simp

theorem bhd_zero {c : Cfg} {s : Int} (h : ¬ (1 ≤ s ∧ s ≤ 4)) : bhd c s = 0 := by
  unfold bhd; rw [if_neg (by omega), if_neg (by omega), if_neg (by omega), if_neg (by omega)]
theorem fst_zero {c : Cfg} {s : Int} (h : ¬ (1 ≤ s ∧ s ≤ 4)) : fst c s = 0 := by
  unfold fst; rw [if_neg (by omega), if_neg (by omega), if_neg (by omega), if_neg (by omega)]
theorem top_zero {x : Tps} {s : Int} (h : ¬ (1 ≤ s ∧ s ≤ 4)) : x.top s = 0 := by
  unfold Tps.top; rw [if_neg (by omega), if_neg (by omega), if_neg (by omega), if_neg (by omega)]

end Go.Proofs.Ytpiemfchjlihfaa
