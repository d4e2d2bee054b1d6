/-
  The queue of numbers: what each call does.
-/
import Derived.Test.YtdlannfjnljbcaaGreatDoorRMem
import Derived.Test.YtdlannfjnljbcaaGreatDoorRShelf
import Derived.RegionTactic
import Derived.ChangeAlike
import Derived.BigRegion
import Derived.Deep.RegionWith
set_option linter.unusedVariables false
namespace Go.Proofs.YtdlannfjnljbcaaGreatDoor
open Go.RowKit

theorem held_some (b g cap n f : Nat) (w : World) (h0 : w.cell? ⟨b, 0, none⟩ = some (.slice (some ⟨g, 0, none⟩) n cap)) (h1 : w.cell? ⟨b, 1, none⟩ = some (.int .i64 f)) (hf : f ≤ n) (hn : n ≤ cap) (hc : cap ≤ maxLen) :
    Calls Tryz.prog 79 #[.pointer (some ⟨b, 0, none⟩)] w fun e w' => e = .returned (.slice (some (if cap = f then ⟨g, 0, none⟩ else ⟨g, f, none⟩)) (n - f) (cap - f)) ∧ ∃ nq, w' = w.drewN nq := by
  unfold maxLen at hc
  go_enter Tryz.func79, Tryz.ntmps79
  go_wp2
  go_quiet (fail)
  go_wp2
  all_goals
    go_ret
    exact ⟨by simp [*], nq, rfl⟩

theorem held_nil (b : Nat) (w : World) (h0 : w.cell? ⟨b, 0, none⟩ = some (.slice none 0 0)) (h1 : w.cell? ⟨b, 1, none⟩ = some (.int .i64 0)) :
    Calls Tryz.prog 79 #[.pointer (some ⟨b, 0, none⟩)] w fun e w' => e = .returned (.slice none 0 0) ∧ ∃ nq, w' = w.drewN nq := by
  go_enter Tryz.func79, Tryz.ntmps79
  go_wp2
  go_quiet (fail)
  go_wp2
  go_ret
  exact ⟨rfl, nq, rfl⟩

/-- The queue in block b: xs from the first on, at most N things lie in its row, F its blocks. -/
def Que (W : World) (base b : Nat) (most : Int) (N : Nat) (xs : List Int) (F : List Nat) : Prop :=
  ∃ (v : Value) (ts : List Int) (f : Nat), W.heap[b]? = some (.cells #[v, .int .i64 f, .int .i64 most] 94 (0, 0)) ∧ base ≤ b ∧ W.ownsRow base 3 1 v ts.length (ints ts) ∧
    f ≤ ts.length ∧ ts.drop f = xs ∧ ts.length ≤ N ∧ F = b :: v.ownBlock.toList

theorem Que.mem {W : World} {base b N : Nat} {most : Int} {xs : List Int} {F : List Nat} (h : Que W base b most N xs F) : ∀ k, k ∈ F → base ≤ k ∧ k < W.heap.size := by
  obtain ⟨v, ts, f, hh, hb, hr, _, _, _, rfl⟩ := h
  intro k hk
  rcases List.mem_cons.1 hk with rfl | hk
  · exact ⟨hb, heap_lt hh⟩
  · exact hr.lt k (by simpa using hk)

theorem Que.keep {W W' : World} {base b N : Nat} {most : Int} {xs : List Int} {F G : List Nat} (h : Que W base b most N xs F) (ht : Touch G W W') (ha : Apart F G) : Que W' base b most N xs F := by
  obtain ⟨v, ts, f, hh, hb, hr, h1, h2, h3, rfl⟩ := h
  refine ⟨v, ts, f, ?_, hb, ?_, h1, h2, h3, rfl⟩
  · rw [ht.block b (heap_lt hh) (ha b (by simp))]; exact hh
  · refine ⟨hr.1, ?_⟩
    rcases hr.2 with hn | ⟨g, cap, cur, rfl, hb', hg, rest⟩
    · exact .inl hn
    · refine .inr ⟨g, cap, cur, rfl, hb', ?_, rest⟩
      rw [ht.block g (heap_lt hg) (ha g (by simp [Value.ownBlock]))]; exact hg

set_option maxHeartbeats 400000 in
theorem newqueue_any (m : Int) (hm : 0 ≤ m) (w : World) :
    Calls Tryz.prog 77 #[.int .i64 m] w fun e w' => e = .returned (.tuple #[.pointer (some ⟨w.heap.size, 0, none⟩), .int .i64 0]) ∧ w' = w.alloc (.cells #[.slice none 0 0, .int .i64 0, .int .i64 m] 94) := by
  have h1 : ¬ m < 0 := by omega
  go_enter Tryz.func77, Tryz.ntmps77
  go_wp2
  go_ret2
  exact ⟨rfl, rfl⟩

set_option maxHeartbeats 400000 in
theorem newintqueue_any (m : Int) (hm : 0 ≤ m) (w : World) :
    Calls Tryz.prog 50 #[.int .i64 m] w fun e w' => e = .returned (.tuple #[.pointer (some ⟨w.heap.size, 0, none⟩), .int .i64 0]) ∧ Que w' w.heap.size w.heap.size m 0 [] [w.heap.size] ∧ Touch [] w w' ∧ w'.heap.size = w.heap.size + 1 := by
  go_enter Tryz.func50, Tryz.ntmps50
  go_wp2_with fail
  refine (newqueue_any m hm _).mono ?_
  rintro e w' ⟨rfl, rfl⟩
  go_wp2
  go_ret2
  exact ⟨rfl, ⟨.slice none 0 0, [], 0, heap_alloc_new w _, Nat.le_refl _, World.ownsRow_nil _ _ _ _, Nat.le_refl _, rfl, Nat.le_refl _, rfl⟩, Touch.alloc _ _ _, by simp⟩

set_option maxHeartbeats 400000 in
theorem qlen_any (b f n base : Nat) (v : Value) (xs : List Value) (w : World) (h0 : w.cell? ⟨b, 0, none⟩ = some v) (h1 : w.cell? ⟨b, 1, none⟩ = some (.int .i64 f)) (hr : w.ownsRow base 3 1 v n xs) (hf : f ≤ n) :
    Calls Tryz.prog 56 #[.pointer (some ⟨b, 0, none⟩)] w fun e w' => e = .returned (.int .i64 ((n - f : Nat) : Int)) ∧ ∃ nq, w' = w.drewN nq := by
  rcases hr.2 with ⟨rfl, rfl⟩ | ⟨g, cap, cur, rfl, _, _, hn, hc, _⟩
  · obtain rfl : f = 0 := by omega
    clear hr
    go_enter Tryz.func56, Tryz.ntmps56
    go_wp2_with fail
    refine (held_nil b _ h0 h1).mono ?_
    rintro e w' ⟨rfl, nq, rfl⟩
    go_wp2
    go_ret
    exact ⟨rfl, nq, rfl⟩
  · clear hr
    have hh := held_some b g cap n f w h0 h1 hf hn hc
    generalize (if cap = f then (⟨g, 0, none⟩ : Addr) else ⟨g, f, none⟩) = a at hh
    go_enter Tryz.func56, Tryz.ntmps56
    go_wp2_with fail
    refine hh.mono ?_
    rintro e w' ⟨rfl, nq, rfl⟩
    go_wp2
    go_ret
    exact ⟨rfl, nq, rfl⟩

theorem put_core (b base f : Nat) (m x : Int) (v : Value) (ts : List Int) (w : World) (hh : w.heap[b]? = some (.cells #[v, .int .i64 f, .int .i64 m] 94 (0, 0))) (hr : w.ownsRow base 3 1 v ts.length (ints ts))
    (hbase : base ≤ w.heap.size) (hlen : ts.length < 8796093022208) (hf : f ≤ ts.length) (hroom : ¬ (0 < m ∧ m ≤ ((ts.length - f : Nat) : Int))) :
    Calls Tryz.prog 24 #[.pointer (some ⟨b, 0, none⟩), .int .i64 x] w fun e w' => e = .returned (.int .i64 0) ∧
      ∃ nq v' w1, w' = w1.setCell ⟨b, 0, none⟩ v' ∧ w1.ownsRow base 3 1 v' (ts.length + 1) (ints ts ++ [.int .i64 x]) ∧ ((w.drewN nq).alloc (.cells #[.int .i64 x] 3)).grownBy w1 v.ownBlock ∧ (v'.ownBlock = v.ownBlock ∨ v'.ownBlock = some (w.heap.size + 1)) := by
  have hc0 := heap_cell hh 0
  have hc1 := heap_cell hh 1
  have hc2 := heap_cell hh 2
  simp only [List.getElem?_toArray, List.getElem?_cons_zero, List.getElem?_cons_succ] at hc0 hc1 hc2
  have hf0 := heap_frozen hh 0
  have hbl := heap_lt hh
  have hne : some b ≠ v.ownBlock := row_ne hh hr
  clear hh
  have hd : decide (0 < m ∧ m ≤ ((ts.length - f : Nat) : Int)) = false := by simpa using hroom
  obtain ⟨i0, hi, hz0, hz1, hz2⟩ := info_parts Tryz.infoInt
  have hql := fun n => qlen_any b f ts.length base v (ints ts) (w.drewN n) hc0 hc1 hr hf
  generalize ((ts.length - f : Nat) : Int) = L at hql hd
  go_enter Tryz.func24, Tryz.ntmps24
  go_wp2
  go_quiet (first | (go_at_call 56; exact Calls.quiet_of (hql _)) | (go_at_call 55; exact Calls.quiet_of_same (full_any _ _ _)))
  rw [hd]
  have hr2 : (w.drewN nq).ownsRow base 3 1 v ts.length (ints ts) := hr
  go_wp2_with (at_builtin; refine wpList_append_own_at _ rfl _ _ 33 rfl base 3 i0 (.int .i64 0) 1 8 Tryz.underlying33 hi hz0 hz1 hz2 rfl (by decide) _ _ _ rfl (hr2.alloc _) ⟨w.heap.size, 0, none⟩ 1 1 [.int .i64 x] rfl rfl (cell_one_new _ _ _) (by simp [Value.oneCell']) (by simp [maxLen]; omega) (by omega) (by simp; omega) ?_)
  intro v' w1 hown' hgrow _ hat
  obtain ⟨g', cap', rfl⟩ := ownsRow_succ hown'
  have hcw : w1.cell? ⟨b, 0, none⟩ = some v := hgrow.cell (a := ⟨b, 0, none⟩) ((World.grownBy_alloc (w.drewN nq) _ none).cell (a := ⟨b, 0, none⟩) hc0 (by simp)) hne
  have hfw : w1.frozen? ⟨b, 0, none⟩ = false := by
    rw [World.frozen?_of_block (w := (w.drewN nq).alloc (.cells #[.int .i64 x] 3)) (hgrow.block b (by simp; omega) hne), World.frozen?_of_block (w := w.drewN nq) (Below.heap_alloc _ _ b hbl)]
    exact hf0
  go_wp2
  go_ret
  exact ⟨rfl, nq, _, w1, rfl, hown', hgrow, by simpa using hat⟩

theorem put_any (b base N : Nat) (m x : Int) (xs : List Int) (F : List Nat) (w : World) (hs : Que w base b m N xs F) (hbase : base ≤ w.heap.size) (hlen : N < 8796093022208) (hroom : ¬ (0 < m ∧ m ≤ xs.length)) :
    Calls Tryz.prog 24 #[.pointer (some ⟨b, 0, none⟩), .int .i64 x] w fun e w' => e = .returned (.int .i64 0) ∧
      ∃ F', Que w' base b m (N + 1) (xs ++ [x]) F' ∧ Touch F w w' ∧ Newer w.heap.size F F' := by
  obtain ⟨v, ts, f, hh, hb, hr, hf, rfl, hN, rfl⟩ := hs
  rw [List.length_drop] at hroom
  refine (put_core b base f m x v ts w hh hr hbase (by omega) hf hroom).mono ?_
  rintro e w' ⟨rfl, nq, v', w1, rfl, hown, hgrow, hat⟩
  have hne : some b ≠ v.ownBlock := row_ne hh hr
  have hh1 : w1.heap[b]? = some (.cells #[v, .int .i64 f, .int .i64 m] 94 (0, 0)) := by
    rw [hgrow.block b (by have := heap_lt hh; simp; omega) hne]; exact (Below.heap_alloc (w.drewN nq) _ b (heap_lt hh)).trans hh
  have hne' : some b ≠ v'.ownBlock := row_ne hh1 hown
  have ht : Touch (b :: v.ownBlock.toList) w w1 := ((Touch.drewN _ w nq).trans (Touch.alloc _ _ _)).trans (Touch.grown hgrow (fun k hk => by simp [hk]))
  refine ⟨rfl, b :: v'.ownBlock.toList, ⟨v', ts ++ [x], f, ?_, hb, ?_, by simp; omega, ?_, by simp; omega, rfl⟩, ht.trans (Touch.setCell _ _ _ (by simp)), ?_⟩
  · rw [heap_set hh1]; rfl
  · simpa using ownsRow_setOther hown (a := ⟨b, 0, none⟩) hne' v'
  · rw [List.drop_append_of_le_length hf]
  · intro k hk
    rcases List.mem_cons.1 hk with rfl | hk
    · exact .inl (by simp)
    · have hk' : v'.ownBlock = some k := by simpa using hk
      rcases hat with h1 | h1
      · exact .inl (by rw [h1] at hk'; simp [hk'])
      · rw [h1] at hk'; simp only [Option.some.injEq] at hk'; exact .inr (by omega)

theorem put_full (b base N : Nat) (m x : Int) (xs : List Int) (F : List Nat) (w : World) (hs : Que w base b m N xs F) (hfull : 0 < m ∧ m ≤ xs.length) :
    Calls Tryz.prog 24 #[.pointer (some ⟨b, 0, none⟩), .int .i64 x] w fun e w' => e = .returned (.int .i64 11) ∧ Que w' base b m N xs F ∧ Touch [] w w' := by
  obtain ⟨v, ts, f, hh, hb, hr, hf, rfl, hN, rfl⟩ := hs
  rw [List.length_drop] at hfull
  have hc0 := heap_cell hh 0
  have hc1 := heap_cell hh 1
  have hc2 := heap_cell hh 2
  simp only [List.getElem?_toArray, List.getElem?_cons_zero, List.getElem?_cons_succ] at hc0 hc1 hc2
  have hd : decide (0 < m ∧ m ≤ ((ts.length - f : Nat) : Int)) = true := by simpa using hfull
  have Hh : Hid (w.heap[b]? = some (.cells #[v, .int .i64 f, .int .i64 m] 94 (0, 0))) := hh
  clear hh
  have hql := fun n => qlen_any b f ts.length base v (ints ts) (w.drewN n) hc0 hc1 hr hf
  generalize ((ts.length - f : Nat) : Int) = L at hql hd
  go_enter Tryz.func24, Tryz.ntmps24
  go_wp2
  go_quiet (first | (go_at_call 56; exact Calls.quiet_of (hql _)) | (go_at_call 55; exact Calls.quiet_of_same (full_any _ _ _)))
  rw [hd]
  go_wp2
  go_ret
  exact ⟨rfl, ⟨v, ts, f, Hh.out, hb, hr, hf, rfl, hN, rfl⟩, Touch.drewN _ _ _⟩

end Go.Proofs.YtdlannfjnljbcaaGreatDoor
