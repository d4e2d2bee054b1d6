/-
  ints: an iterator gone through twice.
-/
import Derived.Test.YtcjblafohfiiaabGreatIc
set_option linter.unusedVariables false
namespace Go.Proofs.YtcjblafohfiiaabGreat
open Go.RowKit Go.Shelf

theorem slice_of_row {W : World} {base n0 : Nat} {v : Value} {n : Nat} {zs : List Int} (h : W.ownsRow base 3 1 v n (ints zs)) (hn : n = zs.length) (hn0 : W.heap.size ≤ n0) : SliceIs n0 W v zs := by
  subst hn
  rcases h.2 with ⟨rfl, h0⟩ | ⟨g, cap, cur, rfl, hb, hg, hn, hm, hs, ht⟩
  · exact .inl ⟨rfl, List.eq_nil_of_length_eq_zero h0⟩
  · refine .inr ⟨g, 0, cap, rfl, by have := heap_lt hg; omega, fun j x hj => ?_⟩
    have hjl := (List.getElem?_eq_some_iff.1 hj).1
    have h1 : (ints zs)[j]? = some (.int .i64 x) := by simp [hj]
    rw [Nat.zero_add, cell_of_row W g j cur 3 (0, 0) hg, ← h1, ← ht, List.getElem?_take, if_pos (by omega), Array.getElem?_toList]

theorem seq_not_nil (Bl : Nat) (W : World) : (binOp BinOp.eql 87 (.func (.func 103) #[] #[.pointer (some ⟨Bl, 0, none⟩)]) .nilFunc).run Tryz.prog W = .ok (.bool false) W := by
  kernel_rfl

set_option maxRecDepth 100000 in
set_option maxHeartbeats 4000000 in
theorem ints_any (Bl : Nat) (stop : Int) (xs : List Int) (w : World) (hlen : xs.length < 1000000) (hw : ∀ W, Below w.heap.size w W → Walked Tryz.prog 103 Bl xs W) :
    Calls Tryz.prog 33 #[.func (.func 103) #[] #[.pointer (some ⟨Bl, 0, none⟩)], .int .i64 stop] w fun e w' =>
      ∃ v, e = .returned (.tuple #[v, .bool true]) ∧ w'.ownsRow w.heap.size 3 1 v (cutTo xs.length stop) (ints (xs.take (cutTo xs.length stop))) ∧ Below w.heap.size w w' := by
  have hnf : ∀ W, (binOp BinOp.eql 87 (.func (.func 103) #[] #[.pointer (some ⟨Bl, 0, none⟩)]) .nilFunc).run Tryz.prog W = .ok (.bool false) W := seq_not_nil Bl
  go_enter Tryz.func33, Tryz.ntmps33
  go_wp2
  refine wp_loop_rounds 3 ?_
  rw [rounds_succ]
  go_wp2_with fail
  have bS0 := Boxed.new w 3 (.int .i64 stop)
  have bL0 := Boxed.new (w.alloc (.cells #[.int .i64 stop] 3)) 68 (.slice none 0 0)
  have bO0 := Boxed.new ((w.alloc (.cells #[.int .i64 stop] 3)).alloc (.cells #[.slice none 0 0] 68)) 4 (.bool true)
  have bE0 := Boxed.new (((w.alloc (.cells #[.int .i64 stop] 3)).alloc (.cells #[.slice none 0 0] 68)).alloc (.cells #[.bool true] 4)) 4 (.bool false)
  simp only [World.size_alloc] at bL0 bO0 bE0
  have bS := ((bS0.alloc (.cells #[.slice none 0 0] 68)).alloc (.cells #[.bool true] 4)).alloc (.cells #[.bool false] 4)
  have bL := (bL0.alloc (.cells #[.bool true] 4)).alloc (.cells #[.bool false] 4)
  have bO := bO0.alloc (.cells #[.bool false] 4)
  have hBa : Below w.heap.size w ((((w.alloc (.cells #[.int .i64 stop] 3)).alloc (.cells #[.slice none 0 0] 68)).alloc (.cells #[.bool true] 4)).alloc (.cells #[.bool false] 4)) :=
    ((((Below.refl _ w).alloc (Nat.le_refl _) _).alloc (by simp) _).alloc (by simp; omega) _).alloc (by simp; omega) _
  clear bS0 bL0 bO0
  have hc1 := walk_col 103 Bl _ _ _ _ stop xs _ (hw _ hBa) hlen bO bE0 bS bL (by omega)
  refine hc1.mono ?_
  rintro e w1 ⟨⟨r, rfl⟩, v1, ho1, hl1, hs1, hr1, ht1⟩
  have hB1 : Below w.heap.size w w1 := hBa.trans (ht1.below hBa.size (fun k hk => by simp at hk; omega))
  have hz1 : w.heap.size + 4 ≤ w1.heap.size := by have := ht1.size; simp at this; omega
  replace hr1 := row_base hr1 (base' := w.heap.size + 4) (by simp)
  clear hc1 bS bL bO bE0 hBa ht1
  have c1 := ho1.cell
  have f1 := ho1.frozen
  go_wp2
  rw [rounds_succ]
  have ho2 := ho1.set (.bool true)
  have hl2 := hl1.other (show w.heap.size + 1 ≠ w.heap.size + 2 by omega) (.bool true)
  have hs2 := hs1.other (show w.heap.size ≠ w.heap.size + 2 by omega) (.bool true)
  have hr2 := ownsRow_setOther hr1 (a := ⟨w.heap.size + 2, 0, none⟩) (ho1.not_row (by decide) hr1) (.bool true)
  have hB2 := hB1.setCell (p := ⟨w.heap.size + 2, 0, none⟩) (by show w.heap.size ≤ w.heap.size + 2; omega) (.bool true)
  have hz2 : (w1.setCell ⟨w.heap.size + 2, 0, none⟩ (.bool true)).heap.size = w1.heap.size := by simp [World.setCell]
  generalize hw2 : w1.setCell ⟨w.heap.size + 2, 0, none⟩ (.bool true) = w2 at ho2 hl2 hs2 hr2 hB2 hz2 ⊢
  have hz2' : w.heap.size + 4 ≤ w2.heap.size := by omega
  clear hw2 ho1 hl1 hs1 hr1 hB1 c1 f1 hz1 hz2
  have c2 := hl2.cell
  have f2 := hl2.frozen
  go_wp2_with fail
  have ho3 := (ho2.other (show w.heap.size + 2 ≠ w.heap.size + 1 by omega) (.slice none 0 0)).alloc (.cells #[.bool false] 4)
  have hl3 := (hl2.set (.slice none 0 0)).alloc (.cells #[.bool false] 4)
  have hs3 := (hs2.other (show w.heap.size ≠ w.heap.size + 1 by omega) (.slice none 0 0)).alloc (.cells #[.bool false] 4)
  have hr3 := (ownsRow_setOther hr2 (a := ⟨w.heap.size + 1, 0, none⟩) (hl2.not_row (by decide) hr2) (.slice none 0 0)).alloc (.cells #[.bool false] 4)
  have hB3 := (hB2.setCell (p := ⟨w.heap.size + 1, 0, none⟩) (by show w.heap.size ≤ w.heap.size + 1; omega) (.slice none 0 0)).alloc (by simp [World.setCell]; omega) (.cells #[.bool false] 4)
  have he3 := Boxed.new (w2.setCell ⟨w.heap.size + 1, 0, none⟩ (.slice none 0 0)) 4 (.bool false)
  have hz3 : (w2.setCell ⟨w.heap.size + 1, 0, none⟩ (.slice none 0 0)).heap.size = w2.heap.size := by simp [World.setCell]
  rw [hz3] at he3
  have hz3' : ((w2.setCell ⟨w.heap.size + 1, 0, none⟩ (.slice none 0 0)).alloc (.cells #[.bool false] 4)).heap.size = w2.heap.size + 1 := by simp [hz3]
  generalize hw3 : (w2.setCell ⟨w.heap.size + 1, 0, none⟩ (.slice none 0 0)).alloc (.cells #[.bool false] 4) = w3 at ho3 hl3 hs3 hr3 hB3 he3 hz3' ⊢
  have hc3 := walk_col 103 Bl _ _ _ _ stop xs _ (hw _ hB3) hlen ho3 he3 hs3 hl3 (by omega)
  have hrow3 := hr3
  refine hc3.mono ?_
  rintro e w4 ⟨⟨r, rfl⟩, v4, ho4, hl4, hs4, hr4, ht4⟩
  have hB4 : Below w.heap.size w w4 := hB3.trans (ht4.below hB3.size (fun k hk => by simp at hk; omega))
  have hr4' : w4.ownsRow (w.heap.size + 4) 3 1 v1 (cutTo xs.length stop) (ints (xs.take (cutTo xs.length stop))) := row_keep2 hr3 ht4 (fun k hk hm => by
    have h1 := hr3.lt k hk
    simp at hm
    rcases hm with h | h | h
    · omega
    · subst h
      exact (he3.not_row (by decide) hr3) hk.symm
    · omega)
  replace hr4 := row_base hr4 (base' := w.heap.size) (by omega)
  have hcl : cutTo xs.length stop = (xs.take (cutTo xs.length stop)).length := by
    rw [List.length_take]; have : cutTo xs.length stop ≤ xs.length := by unfold cutTo; split <;> omega
    omega
  have hz4 : w.heap.size + 4 ≤ w4.heap.size := by have := ht4.size; omega
  have hsame := sameInts_any v1 v4 w4.heap.size w4.heap.size _ w4 (by have := (List.take_prefix (cutTo xs.length stop) xs).length_le; omega) (slice_of_row hr4' hcl (Nat.le_refl _)) (slice_of_row hr4 hcl (Nat.le_refl _))
  clear hc3 hr3 ho3 hl3 hs3 hB3 he3 hz3' hw3 hz3 ht4 ho2 hl2 hs2 hr2 hB2 c2 f2 hz2' hrow3 hr4'
  have c4 := ho4.cell
  have f4 := ho4.frozen
  have c5 := hl4.cell
  have Hcl : Hid (cutTo xs.length stop = (xs.take (cutTo xs.length stop)).length) := hcl
  clear hcl
  go_wp2_with fail
  refine hsame.mono ?_
  rintro e w5 ⟨rfl, nq, rfl⟩
  have hl5 := hl4.other (show w.heap.size + 1 ≠ w.heap.size + 2 by omega) (.bool true)
  have ho5 := ho4.set (.bool true)
  have hr5 := ownsRow_setOther hr4 (a := ⟨w.heap.size + 2, 0, none⟩) (ho4.not_row (by decide) hr4) (.bool true)
  have hB5 := hB4.setCell (p := ⟨w.heap.size + 2, 0, none⟩) (by show w.heap.size ≤ w.heap.size + 2; omega) (.bool true)
  have c6 := hl5.cell
  have c7 := ho5.cell
  clear hl4 ho4 hs4 hsame
  go_wp2
  rw [rounds_succ]
  go_wp2_with fail
  go_quiet (fail)
  go_wp2
  go_ret2
  exact ⟨_, rfl, hr5, below_drewN ((below_drewN hB4 _).setCell (p := ⟨w.heap.size + 1 + 1, 0, none⟩) (by show w.heap.size ≤ w.heap.size + 1 + 1; omega) _) _⟩

end Go.Proofs.YtcjblafohfiiaabGreat
