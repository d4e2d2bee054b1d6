/-
  The document's own answer: a text is put.
-/
import Derived.Test.YtcjblafohfiiaabGreatSo
import Derived.Test.YtcjblafohfiiaabGreatXIn
import Derived.Test.YtcjblafohfiiaabGreatXRf
import Derived.Test.YtcjblafohfiiaabGreatXTa
set_option linter.unusedVariables false
namespace Go.Proofs.YtcjblafohfiiaabGreat.Tx
open Go.RowKit Go.Shelf

set_option maxRecDepth 20000 in
set_option maxHeartbeats 2000000 in
theorem rput_core (b base : Nat) (m : Int) (x : ByteArray) (v : Value) (xs : List ByteArray) (w : World) (hh : w.heap[b]? = some (.cells #[v, .int .i64 m] 79 (0, 0))) (hr : w.ownsRow base 9 1 v xs.length (strs xs))
    (hbase : base ≤ w.heap.size) (hlen : xs.length < 1000000) (hroom : ¬ (0 < m ∧ m ≤ xs.length)) :
    Calls Tryz.prog 45 #[.pointer (some ⟨b, 0, none⟩), .string x] w fun e w' => e = .returned (.int .i64 0) ∧
      ∃ nq v' w1, w' = w1.setCell ⟨b, 0, none⟩ v' ∧ w1.ownsRow base 9 1 v' (xs.length + 1) (strs xs ++ [.string x]) ∧ ((w.drewN nq).alloc (.cells #[.string x] 9)).grownBy w1 v.ownBlock ∧ (v'.ownBlock = v.ownBlock ∨ v'.ownBlock = some (w.heap.size + 1)) := by
  have hc0 := heap_cell hh 0
  have hc1 := heap_cell hh 1
  simp only [List.getElem?_toArray, List.getElem?_cons_zero, List.getElem?_cons_succ] at hc0 hc1
  have hf0 := heap_frozen hh 0
  have hbl := heap_lt hh
  have hne : some b ≠ v.ownBlock := row_ne hh hr
  clear hh
  obtain ⟨i0, hi, hz0, hz1, hz2⟩ := info_parts Tryz.infoStr
  obtain ⟨va, vc, hv⟩ := row_slice hr
  have Hne : Hid (some b ≠ v.ownBlock) := hne
  have Hr : Hid (w.ownsRow base 9 1 v xs.length (strs xs)) := hr
  clear hne hr
  subst hv
  by_cases hm : 0 < m
  · have hml : decide (m ≤ (xs.length : Int)) = false := by simpa using fun h => hroom ⟨hm, h⟩
    clear hroom
    go_enter Tryz.func45, Tryz.ntmps45
    go_wp2
    go_quiet (fail)
    have hr2 : (w.drewN nq).ownsRow base 9 1 (.slice va xs.length vc) xs.length (strs xs) := Hr.out
    go_wp2_with (at_builtin; refine wpList_append_own_at _ rfl _ _ 72 rfl base 9 i0 (.string ⟨#[]⟩) 1 16 Tryz.underlying72 hi hz0 hz1 hz2 rfl (by decide) _ _ _ rfl (hr2.alloc _) ⟨w.heap.size, 0, none⟩ 1 1 [.string x] rfl rfl (cell_one_new _ _ _) (by simp [Value.oneCell']) (by simp [maxLen]; omega) (by omega) (by simp; omega) ?_)
    intro v' w1 hown' hgrow _ hat
    obtain ⟨g', cap', rfl⟩ := ownsRow_succ hown'
    have hcw : w1.cell? ⟨b, 0, none⟩ = some (.slice va xs.length vc) := hgrow.cell (a := ⟨b, 0, none⟩) ((World.grownBy_alloc (w.drewN nq) _ none).cell (a := ⟨b, 0, none⟩) hc0 (by simp)) Hne.out
    have hfw : w1.frozen? ⟨b, 0, none⟩ = false := by
      rw [World.frozen?_of_block (w := (w.drewN nq).alloc (.cells #[.string x] 9)) (hgrow.block b (by simp; omega) Hne.out), World.frozen?_of_block (w := w.drewN nq) (Below.heap_alloc _ _ b hbl)]
      exact hf0
    go_wp2
    go_ret
    exact ⟨rfl, nq, _, w1, rfl, hown', hgrow, by simpa using hat⟩
  · have hd : decide (0 < m) = false := by simpa using hm
    clear hroom hm
    go_enter Tryz.func45, Tryz.ntmps45
    go_wp2
    go_quiet (fail)
    have hr2 : (w.drewN nq).ownsRow base 9 1 (.slice va xs.length vc) xs.length (strs xs) := Hr.out
    go_wp2_with (at_builtin; refine wpList_append_own_at _ rfl _ _ 72 rfl base 9 i0 (.string ⟨#[]⟩) 1 16 Tryz.underlying72 hi hz0 hz1 hz2 rfl (by decide) _ _ _ rfl (hr2.alloc _) ⟨w.heap.size, 0, none⟩ 1 1 [.string x] rfl rfl (cell_one_new _ _ _) (by simp [Value.oneCell']) (by simp [maxLen]; omega) (by omega) (by simp; omega) ?_)
    intro v' w1 hown' hgrow _ hat
    obtain ⟨g', cap', rfl⟩ := ownsRow_succ hown'
    have hcw : w1.cell? ⟨b, 0, none⟩ = some (.slice va xs.length vc) := hgrow.cell (a := ⟨b, 0, none⟩) ((World.grownBy_alloc (w.drewN nq) _ none).cell (a := ⟨b, 0, none⟩) hc0 (by simp)) Hne.out
    have hfw : w1.frozen? ⟨b, 0, none⟩ = false := by
      rw [World.frozen?_of_block (w := (w.drewN nq).alloc (.cells #[.string x] 9)) (hgrow.block b (by simp; omega) Hne.out), World.frozen?_of_block (w := w.drewN nq) (Below.heap_alloc _ _ b hbl)]
      exact hf0
    go_wp2
    go_ret
    exact ⟨rfl, nq, _, w1, rfl, hown', hgrow, by simpa using hat⟩

set_option maxRecDepth 20000 in
set_option maxHeartbeats 2000000 in
theorem rput_full (b base : Nat) (m : Int) (x : ByteArray) (xs : List ByteArray) (F : List Nat) (w : World) (hs : Num w base b m xs F) (hfull : 0 < m ∧ m ≤ (xs.length : Int)) :
    Calls Tryz.prog 45 #[.pointer (some ⟨b, 0, none⟩), .string x] w fun e w' => e = .returned (.int .i64 11) ∧ ∃ nq, w' = w.drewN nq := by
  obtain ⟨v, hh, hb, hr, rfl⟩ := hs
  have hc0 := heap_cell hh 0
  have hc1 := heap_cell hh 1
  simp only [List.getElem?_toArray, List.getElem?_cons_zero, List.getElem?_cons_succ] at hc0 hc1
  obtain ⟨va, vc, rfl⟩ := row_slice hr
  obtain ⟨hm, hml⟩ := hfull
  clear hh hr
  go_enter Tryz.func45, Tryz.ntmps45
  go_wp2
  go_quiet (fail)
  go_wp2
  go_ret
  exact ⟨rfl, nq, rfl⟩

end Go.Proofs.YtcjblafohfiiaabGreat.Tx
