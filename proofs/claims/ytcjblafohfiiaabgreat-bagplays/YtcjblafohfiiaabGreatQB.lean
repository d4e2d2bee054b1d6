import Derived.Test.YtcjblafohfiiaabGreatSt
import Derived.Test.YtcjblafohfiiaabGreatShelf
import Derived.RegionTactic
import Derived.ChangeAlike
import Derived.BigRegion
import Derived.Deep.RegionWith
import Derived.Lib.OwnBridge
import Derived.Test.YtcjblafohfiiaabGreatSo
import Derived.Test.YtcjblafohfiiaabGreatSa
import Derived.Handy
import Derived.Deep.CutRange
/-
  The queue of numbers: what each call does.
-/
set_option linter.unusedVariables false
namespace Go.Proofs.YtcjblafohfiiaabGreat
open Go.RowKit

theorem held_some (b g cap n f : Nat) (w : World) (h0 : w.cell? ⟨b, 0, none⟩ = some (.slice (some ⟨g, 0, none⟩) n cap)) (h1 : w.cell? ⟨b, 1, none⟩ = some (.int .i64 f)) (hf : f ≤ n) (hn : n ≤ cap) (hc : cap ≤ maxLen) :
    Calls Tryz.prog 80 #[.pointer (some ⟨b, 0, none⟩)] w fun e w' => e = .returned (.slice (some (if cap = f then ⟨g, 0, none⟩ else ⟨g, f, none⟩)) (n - f) (cap - f)) ∧ ∃ nq, w' = w.drewN nq := by
  unfold maxLen at hc
  go_enter Tryz.func80, Tryz.ntmps80
  go_wp2
  go_quiet (fail)
  go_wp2
  all_goals
    go_ret
    exact ⟨by simp [*], nq, rfl⟩

theorem held_nil (b : Nat) (w : World) (h0 : w.cell? ⟨b, 0, none⟩ = some (.slice none 0 0)) (h1 : w.cell? ⟨b, 1, none⟩ = some (.int .i64 0)) :
    Calls Tryz.prog 80 #[.pointer (some ⟨b, 0, none⟩)] w fun e w' => e = .returned (.slice none 0 0) ∧ ∃ nq, w' = w.drewN nq := by
  go_enter Tryz.func80, Tryz.ntmps80
  go_wp2
  go_quiet (fail)
  go_wp2
  go_ret
  exact ⟨rfl, nq, rfl⟩

/-- The queue in block b: xs from the first on, at most N things lie in its row, F its blocks. -/
def Que (W : World) (base b : Nat) (most : Int) (N : Nat) (xs : List Int) (F : List Nat) : Prop :=
  ∃ (v : Value) (ts : List Int) (f : Nat), W.heap[b]? = some (.cells #[v, .int .i64 f, .int .i64 most] 123 (0, 0)) ∧ base ≤ b ∧ W.ownsRow base 3 1 v ts.length (ints ts) ∧
    f ≤ ts.length ∧ ts.drop f = xs ∧ ts.length ≤ N ∧ F = b :: v.ownBlock.toList

theorem Que.mem {W : World} {base b N : Nat} {most : Int} {xs : List Int} {F : List Nat} (h : Que W base b most N xs F) : ∀ k, k ∈ F → base ≤ k ∧ k < W.heap.size := by
  obtain ⟨v, ts, f, hh, hb, hr, _, _, _, rfl⟩ := h
  intro k hk
  rcases List.mem_cons.1 hk with rfl | hk
  · exact ⟨hb, heap_lt hh⟩
  · exact hr.lt k (by simpa using hk)

theorem Que.keep {W W' : World} {base b N : Nat} {most : Int} {xs : List Int} {F G : List Nat} (h : Que W base b most N xs F) (ht : Touch G W W') (ha : Apart F G) : Que W' base b most N xs F := by
  obtain ⟨v, ts, f, hh, hb, hr, h1, h2, h3, rfl⟩ := h
  refine ⟨v, ts, f, ?_, hb, ?_, h1, h2, h3, rfl⟩
  · rw [ht.block b (heap_lt hh) (ha b (by simp))]; exact hh
  · refine ⟨hr.1, ?_⟩
    rcases hr.2 with hn | ⟨g, cap, cur, rfl, hb', hg, rest⟩
    · exact .inl hn
    · refine .inr ⟨g, cap, cur, rfl, hb', ?_, rest⟩
      rw [ht.block g (heap_lt hg) (ha g (by simp [Value.ownBlock]))]; exact hg

set_option maxHeartbeats 400000 in
theorem newqueue_any (m : Int) (hm : 0 ≤ m) (w : World) :
    Calls Tryz.prog 24 #[.int .i64 m] w fun e w' => e = .returned (.tuple #[.pointer (some ⟨w.heap.size, 0, none⟩), .int .i64 0]) ∧ w' = w.alloc (.cells #[.slice none 0 0, .int .i64 0, .int .i64 m] 123) := by
  have h1 : ¬ m < 0 := by omega
  go_enter Tryz.func24, Tryz.ntmps24
  go_wp2
  go_ret2
  exact ⟨rfl, rfl⟩

set_option maxHeartbeats 400000 in
theorem newintqueue_any (m : Int) (hm : 0 ≤ m) (w : World) :
    Calls Tryz.prog 12 #[.int .i64 m] w fun e w' => e = .returned (.tuple #[.pointer (some ⟨w.heap.size, 0, none⟩), .int .i64 0]) ∧ Que w' w.heap.size w.heap.size m 0 [] [w.heap.size] ∧ Touch [] w w' ∧ w'.heap.size = w.heap.size + 1 := by
  go_enter Tryz.func12, Tryz.ntmps12
  go_wp2_with fail
  refine (newqueue_any m hm _).mono ?_
  rintro e w' ⟨rfl, rfl⟩
  go_wp2
  go_ret2
  exact ⟨rfl, ⟨.slice none 0 0, [], 0, heap_alloc_new w _, Nat.le_refl _, World.ownsRow_nil _ _ _ _, Nat.le_refl _, rfl, Nat.le_refl _, rfl⟩, Touch.alloc _ _ _, by simp⟩

set_option maxHeartbeats 400000 in
theorem qlen_any (b f n base : Nat) (v : Value) (xs : List Value) (w : World) (h0 : w.cell? ⟨b, 0, none⟩ = some v) (h1 : w.cell? ⟨b, 1, none⟩ = some (.int .i64 f)) (hr : w.ownsRow base 3 1 v n xs) (hf : f ≤ n) :
    Calls Tryz.prog 42 #[.pointer (some ⟨b, 0, none⟩)] w fun e w' => e = .returned (.int .i64 ((n - f : Nat) : Int)) ∧ ∃ nq, w' = w.drewN nq := by
  rcases hr.2 with ⟨rfl, rfl⟩ | ⟨g, cap, cur, rfl, _, _, hn, hc, _⟩
  · obtain rfl : f = 0 := by omega
    clear hr
    go_enter Tryz.func42, Tryz.ntmps42
    go_wp2_with fail
    refine (held_nil b _ h0 h1).mono ?_
    rintro e w' ⟨rfl, nq, rfl⟩
    go_wp2
    go_ret
    exact ⟨rfl, nq, rfl⟩
  · clear hr
    have hh := held_some b g cap n f w h0 h1 hf hn hc
    generalize (if cap = f then (⟨g, 0, none⟩ : Addr) else ⟨g, f, none⟩) = a at hh
    go_enter Tryz.func42, Tryz.ntmps42
    go_wp2_with fail
    refine hh.mono ?_
    rintro e w' ⟨rfl, nq, rfl⟩
    go_wp2
    go_ret
    exact ⟨rfl, nq, rfl⟩

theorem put_core (b base f : Nat) (m x : Int) (v : Value) (ts : List Int) (w : World) (hh : w.heap[b]? = some (.cells #[v, .int .i64 f, .int .i64 m] 123 (0, 0))) (hr : w.ownsRow base 3 1 v ts.length (ints ts))
    (hbase : base ≤ w.heap.size) (hlen : ts.length < 1000000) (hf : f ≤ ts.length) (hroom : ¬ (0 < m ∧ m ≤ ((ts.length - f : Nat) : Int))) :
    Calls Tryz.prog 37 #[.pointer (some ⟨b, 0, none⟩), .int .i64 x] w fun e w' => e = .returned (.int .i64 0) ∧
      ∃ nq v' w1, w' = w1.setCell ⟨b, 0, none⟩ v' ∧ w1.ownsRow base 3 1 v' (ts.length + 1) (ints ts ++ [.int .i64 x]) ∧ ((w.drewN nq).alloc (.cells #[.int .i64 x] 3)).grownBy w1 v.ownBlock ∧ (v'.ownBlock = v.ownBlock ∨ v'.ownBlock = some (w.heap.size + 1)) := by
  have hc0 := heap_cell hh 0
  have hc1 := heap_cell hh 1
  have hc2 := heap_cell hh 2
  simp only [List.getElem?_toArray, List.getElem?_cons_zero, List.getElem?_cons_succ] at hc0 hc1 hc2
  have hf0 := heap_frozen hh 0
  have hbl := heap_lt hh
  have hne : some b ≠ v.ownBlock := row_ne hh hr
  clear hh
  have hd : decide (0 < m ∧ m ≤ ((ts.length - f : Nat) : Int)) = false := by simpa using hroom
  obtain ⟨i0, hi, hz0, hz1, hz2⟩ := info_parts Tryz.infoInt
  have hql := fun n => qlen_any b f ts.length base v (ints ts) (w.drewN n) hc0 hc1 hr hf
  generalize ((ts.length - f : Nat) : Int) = L at hql hd
  go_enter Tryz.func37, Tryz.ntmps37
  go_wp2
  go_quiet (first | (go_at_call 42; exact Calls.quiet_of (hql _)) | (go_at_call 74; exact Calls.quiet_of_same (full_any _ _ _)))
  rw [hd]
  have hr2 : (w.drewN nq).ownsRow base 3 1 v ts.length (ints ts) := hr
  go_wp2_with (at_builtin; refine wpList_append_own_at _ rfl _ _ 68 rfl base 3 i0 (.int .i64 0) 1 8 Tryz.underlying68 hi hz0 hz1 hz2 rfl (by decide) _ _ _ rfl (hr2.alloc _) ⟨w.heap.size, 0, none⟩ 1 1 [.int .i64 x] rfl rfl (cell_one_new _ _ _) (by simp [Value.oneCell']) (by simp [maxLen]; omega) (by omega) (by simp; omega) ?_)
  intro v' w1 hown' hgrow _ hat
  obtain ⟨g', cap', rfl⟩ := ownsRow_succ hown'
  have hcw : w1.cell? ⟨b, 0, none⟩ = some v := hgrow.cell (a := ⟨b, 0, none⟩) ((World.grownBy_alloc (w.drewN nq) _ none).cell (a := ⟨b, 0, none⟩) hc0 (by simp)) hne
  have hfw : w1.frozen? ⟨b, 0, none⟩ = false := by
    rw [World.frozen?_of_block (w := (w.drewN nq).alloc (.cells #[.int .i64 x] 3)) (hgrow.block b (by simp; omega) hne), World.frozen?_of_block (w := w.drewN nq) (Below.heap_alloc _ _ b hbl)]
    exact hf0
  go_wp2
  go_ret
  exact ⟨rfl, nq, _, w1, rfl, hown', hgrow, by simpa using hat⟩

theorem put_any (b base N : Nat) (m x : Int) (xs : List Int) (F : List Nat) (w : World) (hs : Que w base b m N xs F) (hbase : base ≤ w.heap.size) (hlen : N < 1000000) (hroom : ¬ (0 < m ∧ m ≤ xs.length)) :
    Calls Tryz.prog 37 #[.pointer (some ⟨b, 0, none⟩), .int .i64 x] w fun e w' => e = .returned (.int .i64 0) ∧
      ∃ F', Que w' base b m (N + 1) (xs ++ [x]) F' ∧ Touch F w w' ∧ Newer w.heap.size F F' := by
  obtain ⟨v, ts, f, hh, hb, hr, hf, rfl, hN, rfl⟩ := hs
  rw [List.length_drop] at hroom
  refine (put_core b base f m x v ts w hh hr hbase (by omega) hf hroom).mono ?_
  rintro e w' ⟨rfl, nq, v', w1, rfl, hown, hgrow, hat⟩
  have hne : some b ≠ v.ownBlock := row_ne hh hr
  have hh1 : w1.heap[b]? = some (.cells #[v, .int .i64 f, .int .i64 m] 123 (0, 0)) := by
    rw [hgrow.block b (by have := heap_lt hh; simp; omega) hne]; exact (Below.heap_alloc (w.drewN nq) _ b (heap_lt hh)).trans hh
  have hne' : some b ≠ v'.ownBlock := row_ne hh1 hown
  have ht : Touch (b :: v.ownBlock.toList) w w1 := ((Touch.drewN _ w nq).trans (Touch.alloc _ _ _)).trans (Touch.grown hgrow (fun k hk => by simp [hk]))
  refine ⟨rfl, b :: v'.ownBlock.toList, ⟨v', ts ++ [x], f, ?_, hb, ?_, by simp; omega, ?_, by simp; omega, rfl⟩, ht.trans (Touch.setCell _ _ _ (by simp)), ?_⟩
  · rw [heap_set hh1]; rfl
  · simpa using ownsRow_setOther hown (a := ⟨b, 0, none⟩) hne' v'
  · rw [List.drop_append_of_le_length hf]
  · intro k hk
    rcases List.mem_cons.1 hk with rfl | hk
    · exact .inl (by simp)
    · have hk' : v'.ownBlock = some k := by simpa using hk
      rcases hat with h1 | h1
      · exact .inl (by rw [h1] at hk'; simp [hk'])
      · rw [h1] at hk'; simp only [Option.some.injEq] at hk'; exact .inr (by omega)

theorem put_full (b base N : Nat) (m x : Int) (xs : List Int) (F : List Nat) (w : World) (hs : Que w base b m N xs F) (hfull : 0 < m ∧ m ≤ xs.length) :
    Calls Tryz.prog 37 #[.pointer (some ⟨b, 0, none⟩), .int .i64 x] w fun e w' => e = .returned (.int .i64 11) ∧ Que w' base b m N xs F ∧ Touch [] w w' := by
  obtain ⟨v, ts, f, hh, hb, hr, hf, rfl, hN, rfl⟩ := hs
  rw [List.length_drop] at hfull
  have hc0 := heap_cell hh 0
  have hc1 := heap_cell hh 1
  have hc2 := heap_cell hh 2
  simp only [List.getElem?_toArray, List.getElem?_cons_zero, List.getElem?_cons_succ] at hc0 hc1 hc2
  have hd : decide (0 < m ∧ m ≤ ((ts.length - f : Nat) : Int)) = true := by simpa using hfull
  have Hh : Hid (w.heap[b]? = some (.cells #[v, .int .i64 f, .int .i64 m] 123 (0, 0))) := hh
  clear hh
  have hql := fun n => qlen_any b f ts.length base v (ints ts) (w.drewN n) hc0 hc1 hr hf
  generalize ((ts.length - f : Nat) : Int) = L at hql hd
  go_enter Tryz.func37, Tryz.ntmps37
  go_wp2
  go_quiet (first | (go_at_call 42; exact Calls.quiet_of (hql _)) | (go_at_call 74; exact Calls.quiet_of_same (full_any _ _ _)))
  rw [hd]
  go_wp2
  go_ret
  exact ⟨rfl, ⟨v, ts, f, Hh.out, hb, hr, hf, rfl, hN, rfl⟩, Touch.drewN _ _ _⟩

end Go.Proofs.YtcjblafohfiiaabGreat

/-
  The queue of numbers, taken from.
-/
set_option linter.unusedVariables false
namespace Go.Proofs.YtcjblafohfiiaabGreat
open Go.RowKit

theorem touch_putRow {enc : Int → Value} {w : World} {g q : Nat} {d : Array Int} : Touch [g] w (Sort.putRow enc (Sort.ahead w q) g 0 d) :=
  ⟨rfl, rfl, rfl, by simp [Sort.putRow, Sort.mapBlock, Sort.ahead], fun k _ hn => by
    have : g ≠ k := fun e => hn (by simp [e])
    simp [Sort.putRow, Sort.mapBlock, Sort.ahead, Array.getElem?_modify, this]⟩

theorem delq (g cap f base : Nat) (ts : List Int) (w : World) (hr : w.ownsRow base 3 1 (.slice (some ⟨g, 0, none⟩) ts.length cap) ts.length (ints ts)) (hf : f ≤ ts.length) :
    Calls Tryz.prog 91 #[.slice (some ⟨g, 0, none⟩) ts.length cap, .int .i64 0, .int .i64 f] w fun e w' => e = .returned (.slice (some ⟨g, 0, none⟩) (ts.length - f) cap) ∧
      w'.ownsRow base 3 1 (.slice (some ⟨g, 0, none⟩) (ts.length - f) cap) (ts.length - f) (ints (ts.drop f)) ∧ Touch [g] w w' := by
  obtain ⟨g', cap', hv, hb, hlt, hn, hm, _, hH⟩ := Lib.holds_of_ownsRow hr (by simp)
  simp only [Value.slice.injEq, Option.some.injEq, Addr.mk.injEq, true_and, and_true] at hv
  obtain ⟨rfl, rfl⟩ := hv
  have h := Tryz.slices_Delete_int g 0 cap 0 f ts w hH hn (by simpa [maxLen] using hm) (Nat.zero_le _) hf
  simp only [Nat.sub_zero, List.take_zero, List.nil_append] at h
  refine h.mono ?_
  rintro e w' ⟨rfl, q, rfl⟩
  refine ⟨rfl, ?_, touch_putRow⟩
  have h2 := Lib.ownsRow_putRow (q := q) (k := ts.length - f) (ys := ts.drop f ++ List.replicate f 0) hr (by simp; omega) (by omega)
  have h3 : (ts.drop f ++ List.replicate f 0).take (ts.length - f) = ts.drop f := by
    rw [← List.length_drop]; exact List.take_left
  rw [h3] at h2
  exact h2

theorem close_no (b f n base : Nat) (v : Value) (xs : List Value) (w : World) (h0 : w.cell? ⟨b, 0, none⟩ = some v) (h1 : w.cell? ⟨b, 1, none⟩ = some (.int .i64 f)) (hr : w.ownsRow base 3 1 v n xs) (hf : f ≤ n) (hno : f < n - f) :
    Calls Tryz.prog 79 #[.pointer (some ⟨b, 0, none⟩)] w fun e w' => e = .returned (.tuple #[]) ∧ ∃ nq, w' = w.drewN nq := by
  have hql := fun k => qlen_any b f n base v xs (w.drewN k) h0 h1 hr hf
  have hno' : ¬ (((n - f : Nat) : Int) ≤ (f : Int)) := by omega
  generalize ((n - f : Nat) : Int) = L at hql hno'
  clear hno
  go_enter Tryz.func79, Tryz.ntmps79
  go_wp2
  go_quiet ((go_at_call 42; exact Calls.quiet_of (hql _)))
  go_wp2
  go_end0
  exact ⟨rfl, nq, rfl⟩

theorem close_yes (b f g cap base : Nat) (m : Int) (ts : List Int) (w : World) (hh : w.heap[b]? = some (.cells #[.slice (some ⟨g, 0, none⟩) ts.length cap, .int .i64 f, .int .i64 m] 123 (0, 0)))
    (hr : w.ownsRow base 3 1 (.slice (some ⟨g, 0, none⟩) ts.length cap) ts.length (ints ts)) (hf : f ≤ ts.length) (hyes : ts.length - f ≤ f) :
    Calls Tryz.prog 79 #[.pointer (some ⟨b, 0, none⟩)] w fun e w' => e = .returned (.tuple #[]) ∧
      ∃ w1, w' = (w1.setCell ⟨b, 0, none⟩ (.slice (some ⟨g, 0, none⟩) (ts.length - f) cap)).setCell ⟨b, 1, none⟩ (.int .i64 0) ∧
        w1.ownsRow base 3 1 (.slice (some ⟨g, 0, none⟩) (ts.length - f) cap) (ts.length - f) (ints (ts.drop f)) ∧ Touch [g] w w1 := by
  have hne : b ≠ g := fun e => absurd (by simp [Value.ownBlock, e]) (row_ne hh hr)
  have hc0 := heap_cell hh 0
  have hc1 := heap_cell hh 1
  simp only [List.getElem?_toArray, List.getElem?_cons_zero, List.getElem?_cons_succ] at hc0 hc1
  have hbl := heap_lt hh
  have hq1 : ∀ w1, Touch [g] w w1 → w1.heap[b]? = some (.cells #[.slice (some ⟨g, 0, none⟩) ts.length cap, .int .i64 f, .int .i64 m] 123 (0, 0)) := fun w1 ht =>
    (ht.block b hbl (by simp [hne])).trans hh
  clear hh
  have hql := fun k => qlen_any b f ts.length base _ _ (w.drewN k) hc0 hc1 hr hf
  have hyes' : ((ts.length - f : Nat) : Int) ≤ (f : Int) := by omega
  generalize ((ts.length - f : Nat) : Int) = L at hql hyes'
  clear hyes
  go_enter Tryz.func79, Tryz.ntmps79
  go_wp2
  go_quiet ((go_at_call 42; exact Calls.quiet_of (hql _)))
  go_wp2
  have hr2 : (w.drewN (nq + 1)).ownsRow base 3 1 (.slice (some ⟨g, 0, none⟩) ts.length cap) ts.length (ints ts) := hr
  have hd := delq g cap f base ts _ hr2 hf
  go_region_with (go_at_call 91; refine hd.mono ?_; rintro e w1 ⟨rfl, hown, ht⟩; have hh1 := hq1 w1 ((Touch.drewN _ w (nq + 1)).trans ht); have c0 := heap_cell hh1 0; have z0 := heap_frozen hh1 0; have c1 := heap_cell hh1 1; have z1 := heap_frozen hh1 1; clear hh1; simp only [List.getElem?_toArray, List.getElem?_cons_zero, List.getElem?_cons_succ] at c0 c1)
  all_goals
    go_wp2
    go_end0
    exact ⟨rfl, _, rfl, hown, (Touch.drewN _ w (nq + 1)).trans ht⟩

theorem take_none (b base N : Nat) (m : Int) (F : List Nat) (w : World) (hs : Que w base b m N [] F) :
    Calls Tryz.prog 39 #[.pointer (some ⟨b, 0, none⟩)] w fun e w' => e = .returned (.tuple #[.int .i64 0, .bool false]) ∧ ∃ nq, w' = w.drewN nq := by
  obtain ⟨v, ts, f, hh, hb, hr, hf, hd, hN, rfl⟩ := hs
  have hl : ts.length - f = 0 := by rw [← List.length_drop, hd]; rfl
  have hc0 := heap_cell hh 0
  have hc1 := heap_cell hh 1
  simp only [List.getElem?_toArray, List.getElem?_cons_zero, List.getElem?_cons_succ] at hc0 hc1
  have hql := qlen_any b f ts.length base v (ints ts) w hc0 hc1 hr hf
  rw [hl] at hql
  clear hh hl hd
  go_enter Tryz.func39, Tryz.ntmps39
  go_wp2_with fail
  refine hql.mono ?_
  rintro e w' ⟨rfl, nq, rfl⟩
  go_wp2
  go_ret2
  exact ⟨rfl, nq, rfl⟩

/-- closeUp, whatever it does. -/
theorem close_any (b f base N : Nat) (m : Int) (v : Value) (ts : List Int) (w : World) (hh : w.heap[b]? = some (.cells #[v, .int .i64 f, .int .i64 m] 123 (0, 0))) (hb : base ≤ b)
    (hr : w.ownsRow base 3 1 v ts.length (ints ts)) (hf : f ≤ ts.length) (hv : v ≠ .slice none 0 0) (hN : ts.length ≤ N) :
    Calls Tryz.prog 79 #[.pointer (some ⟨b, 0, none⟩)] w fun e w' => e = .returned (.tuple #[]) ∧ Que w' base b m N (ts.drop f) (b :: v.ownBlock.toList) ∧ Touch (b :: v.ownBlock.toList) w w' := by
  rcases hr.2 with ⟨h1, _⟩ | ⟨g, cap, cur, rfl, _⟩
  · exact absurd h1 hv
  by_cases hyes : ts.length - f ≤ f
  · refine (close_yes b f g cap base m ts w hh hr hf hyes).mono ?_
    rintro e w' ⟨rfl, w1, rfl, hown, ht⟩
    have hne : b ≠ g := fun e => absurd (by simp [Value.ownBlock, e]) (row_ne hh hr)
    have hh1 : w1.heap[b]? = some (.cells #[.slice (some ⟨g, 0, none⟩) ts.length cap, .int .i64 f, .int .i64 m] 123 (0, 0)) := (ht.block b (heap_lt hh) (by simp [hne])).trans hh
    refine ⟨rfl, ⟨.slice (some ⟨g, 0, none⟩) (ts.length - f) cap, ts.drop f, 0, ?_, hb, ?_, Nat.zero_le _, rfl, by simp; omega, rfl⟩, ?_⟩
    · rw [heap_set (heap_set hh1 0 _) 1 _]; rfl
    · rw [List.length_drop]
      exact ownsRow_setOther (ownsRow_setOther hown (by simpa [Value.ownBlock] using hne) _) (by simpa [Value.ownBlock] using hne) _
    · exact ((ht.mono (fun k hk => .inl (by simpa [Value.ownBlock] using Or.inr (by simpa using hk)))).trans (Touch.setCell _ _ _ (by simp))).trans (Touch.setCell _ _ _ (by simp))
  · have hc0 := heap_cell hh 0
    have hc1 := heap_cell hh 1
    simp only [List.getElem?_toArray, List.getElem?_cons_zero, List.getElem?_cons_succ] at hc0 hc1
    refine (close_no b f ts.length base _ _ w hc0 hc1 hr hf (by omega)).mono ?_
    rintro e w' ⟨rfl, nq, rfl⟩
    exact ⟨rfl, ⟨_, ts, f, hh, hb, hr, hf, rfl, hN, rfl⟩, Touch.drewN _ _ _⟩

theorem take_core (R : World → Prop) (b base f g cap : Nat) (m x : Int) (ts : List Int) (w : World) (hh : w.heap[b]? = some (.cells #[.slice (some ⟨g, 0, none⟩) ts.length cap, .int .i64 f, .int .i64 m] 123 (0, 0)))
    (hr : w.ownsRow base 3 1 (.slice (some ⟨g, 0, none⟩) ts.length cap) ts.length (ints ts)) (hf : f < ts.length) (hx : ts[f]? = some x) (hlen : ts.length < 1000000)
    (hcl : ∀ q, Calls Tryz.prog 79 #[.pointer (some ⟨b, 0, none⟩)] (((w.drewN q).setCell ⟨g, f, none⟩ (.int .i64 0)).setCell ⟨b, 1, none⟩ (.int .i64 ((f : Int) + 1))) fun e w' => e = .returned (.tuple #[]) ∧ R w') :
    Calls Tryz.prog 39 #[.pointer (some ⟨b, 0, none⟩)] w fun e w' => e = .returned (.tuple #[.int .i64 x, .bool true]) ∧ R w' := by
  have hne : b ≠ g := fun e => absurd (by simp [Value.ownBlock, e]) (row_ne hh hr)
  have hc0 := heap_cell hh 0
  have hc1 := heap_cell hh 1
  have hf0 := heap_frozen hh 0
  have hf1 := heap_frozen hh 1
  simp only [List.getElem?_toArray, List.getElem?_cons_zero, List.getElem?_cons_succ] at hc0 hc1
  have hcx : w.cell? ⟨g, f, none⟩ = some (.int .i64 x) := by
    rw [hr.cellAt _ (by omega)]; simp [hx]
  have hfx := hr.frozenAt f
  have hql := qlen_any b f ts.length base _ _ w hc0 hc1 hr (Nat.le_of_lt hf)
  have hl0 : ((((ts.length - f : Nat) : Int)) == 0) = false := by simp; omega
  generalize ((ts.length - f : Nat) : Int) = L at hql hl0
  have hfi : (f : Int) < (ts.length : Int) := by omega
  clear hh hx
  have Hcl : Hid (∀ q, Calls Tryz.prog 79 #[.pointer (some ⟨b, 0, none⟩)] (((w.drewN q).setCell ⟨g, f, none⟩ (.int .i64 0)).setCell ⟨b, 1, none⟩ (.int .i64 ((f : Int) + 1))) fun e w' => e = .returned (.tuple #[]) ∧ R w') := hcl
  clear hcl
  go_enter Tryz.func39, Tryz.ntmps39
  go_wp2_with fail
  refine hql.mono ?_
  rintro e w' ⟨rfl, nq, rfl⟩
  go_wp2_with fail
  clear hql
  go_quiet (fail)
  go_wp2_with fail
  have hcb : (w.setCell ⟨g, f, none⟩ (.int .i64 0)).cell? ⟨b, 1, none⟩ = some (.int .i64 f) := by
    rw [World.cell?_of_block (w := w) (Below.heap_setCell _ _ _ _ hne)]; exact hc1
  have hfb : (w.setCell ⟨g, f, none⟩ (.int .i64 0)).frozen? ⟨b, 1, none⟩ = false := by
    rw [World.frozen?_of_block (w := w) (Below.heap_setCell _ _ _ _ hne)]; exact hf1
  go_region
  go_wp2_with fail
  refine (Hcl.out _).mono ?_
  rintro e w' ⟨rfl, hR⟩
  go_wp2
  go_ret2
  exact ⟨rfl, hR⟩

theorem take_any (b base N : Nat) (m x : Int) (xs : List Int) (F : List Nat) (w : World) (hs : Que w base b m N (x :: xs) F) (hlen : N < 1000000) :
    Calls Tryz.prog 39 #[.pointer (some ⟨b, 0, none⟩)] w fun e w' => e = .returned (.tuple #[.int .i64 x, .bool true]) ∧ Que w' base b m N xs F ∧ Touch F w w' := by
  obtain ⟨v, ts, f, hh, hb, hr, hf, hd, hN, rfl⟩ := hs
  have hfl : f < ts.length := by
    have := congrArg List.length hd
    simp only [List.length_drop, List.length_cons] at this
    omega
  have hx : ts[f]? = some x := by
    have := congrArg (fun l => l[0]?) hd
    simpa using this
  have hxs : ts.drop (f + 1) = xs := by
    have := congrArg List.tail hd
    simpa using this
  rcases hr.2 with ⟨_, h1⟩ | ⟨g, cap, cur, rfl, _, hg, hn, hm, hcs, htk⟩
  · omega
  have hne : b ≠ g := fun e => absurd (by simp [Value.ownBlock, e]) (row_ne hh hr)
  refine take_core (fun w' => Que w' base b m N xs [b, g] ∧ Touch [b, g] w w') b base f g cap m x ts w hh hr hfl hx (by omega) ?_
  intro q
  have hh0 : (w.drewN q).heap[b]? = some (.cells #[.slice (some ⟨g, 0, none⟩) ts.length cap, .int .i64 f, .int .i64 m] 123 (0, 0)) := hh
  have hr0 : (w.drewN q).ownsRow base 3 1 (.slice (some ⟨g, 0, none⟩) ts.length cap) ts.length (ints ts) := hr
  generalize hw0 : w.drewN q = w0 at *
  have ht0 : Touch [b, g] w w0 := by rw [← hw0]; exact Touch.drewN _ _ _
  have hh1 : (w0.setCell ⟨g, f, none⟩ (.int .i64 0)).heap[b]? = some (.cells #[.slice (some ⟨g, 0, none⟩) ts.length cap, .int .i64 f, .int .i64 m] 123 (0, 0)) := by
    rw [Below.heap_setCell _ _ _ _ hne]; exact hh0
  have hr1 := ownsRow_setOther (hr0.stored f (.int .i64 0)).1 (a := ⟨b, 1, none⟩) (by simpa [Value.ownBlock] using hne) (.int .i64 ((f : Int) + 1))
  have hh2 := heap_set hh1 1 (.int .i64 ((f : Int) + 1))
  have e1 : (ints ts).set f (.int .i64 0) = ints (ts.set f 0) := by simp [ints, List.map_set]
  rw [e1] at hr1
  have hc := close_any b (f + 1) base N m (.slice (some ⟨g, 0, none⟩) ts.length cap) (ts.set f 0) _ hh2 hb (by simpa using hr1) (by simp; omega) (by simp) (by simpa using hN)
  refine hc.mono ?_
  rintro e w' ⟨rfl, hq, ht⟩
  have e2 : (ts.set f 0).drop (f + 1) = xs := by rw [List.drop_set_of_lt (by omega)]; exact hxs
  rw [e2] at hq
  exact ⟨rfl, hq, ((ht0.trans (Touch.setCell _ _ _ (by simp))).trans (Touch.setCell _ _ _ (by simp))).trans ht⟩

end Go.Proofs.YtcjblafohfiiaabGreat

/-
  One step of a queue of numbers (but for Map and All).
-/
set_option linter.unusedVariables false
namespace Go.Proofs.YtcjblafohfiiaabGreat
open Go.RowKit Go.Shelf

set_option maxHeartbeats 1000000 in
theorem rput_core (b base : Nat) (m x : Int) (v : Value) (xs : List Int) (w : World) (hh : w.heap[b]? = some (.cells #[v, .int .i64 m] 77 (0, 0))) (hr : w.ownsRow base 3 1 v xs.length (ints xs))
    (hbase : base ≤ w.heap.size) (hlen : xs.length < 1000000) (hroom : ¬ (0 < m ∧ m ≤ xs.length)) :
    Calls Tryz.prog 38 #[.pointer (some ⟨b, 0, none⟩), .int .i64 x] w fun e w' => e = .returned (.int .i64 0) ∧
      ∃ nq v' w1, w' = w1.setCell ⟨b, 0, none⟩ v' ∧ w1.ownsRow base 3 1 v' (xs.length + 1) (ints xs ++ [.int .i64 x]) ∧ ((w.drewN nq).alloc (.cells #[.int .i64 x] 3)).grownBy w1 v.ownBlock ∧ (v'.ownBlock = v.ownBlock ∨ v'.ownBlock = some (w.heap.size + 1)) := by
  have hc0 := heap_cell hh 0
  have hc1 := heap_cell hh 1
  simp only [List.getElem?_toArray, List.getElem?_cons_zero, List.getElem?_cons_succ] at hc0 hc1
  have hf0 := heap_frozen hh 0
  have hbl := heap_lt hh
  have hne : some b ≠ v.ownBlock := row_ne hh hr
  clear hh
  have hd : decide (0 < m ∧ m ≤ (xs.length : Int)) = false := by simpa using hroom
  obtain ⟨i0, hi, hz0, hz1, hz2⟩ := info_parts Tryz.infoInt
  go_enter Tryz.func38, Tryz.ntmps38
  go_wp2_with fail
  refine (rfull_any b xs.length m base v (ints xs) w hc0 hc1 hr).mono ?_
  rintro e w' ⟨rfl, nq, rfl⟩
  rw [hd]
  have hr2 : (w.drewN nq).ownsRow base 3 1 v xs.length (ints xs) := hr
  go_wp2_with (at_builtin; refine wpList_append_own_at _ rfl _ _ 68 rfl base 3 i0 (.int .i64 0) 1 8 Tryz.underlying68 hi hz0 hz1 hz2 rfl (by decide) _ _ _ rfl (hr2.alloc _) ⟨w.heap.size, 0, none⟩ 1 1 [.int .i64 x] rfl rfl (cell_one_new _ _ _) (by simp [Value.oneCell']) (by simp [maxLen]; omega) (by omega) (by simp; omega) ?_)
  intro v' w1 hown' hgrow _ hat
  obtain ⟨g', cap', rfl⟩ := ownsRow_succ hown'
  have hcw : w1.cell? ⟨b, 0, none⟩ = some v := hgrow.cell (a := ⟨b, 0, none⟩) ((World.grownBy_alloc (w.drewN nq) _ none).cell (a := ⟨b, 0, none⟩) hc0 (by simp)) hne
  have hfw : w1.frozen? ⟨b, 0, none⟩ = false := by
    rw [World.frozen?_of_block (w := (w.drewN nq).alloc (.cells #[.int .i64 x] 3)) (hgrow.block b (by simp; omega) hne), World.frozen?_of_block (w := w.drewN nq) (Below.heap_alloc _ _ b hbl)]
    exact hf0
  go_wp2
  go_ret
  exact ⟨rfl, nq, _, w1, rfl, hown', hgrow, by simpa using hat⟩

theorem rput_any (b base : Nat) (m x : Int) (xs : List Int) (F : List Nat) (w : World) (hs : Num w base b m xs F) (hbase : base ≤ w.heap.size) (hlen : xs.length < 1000000) (hroom : ¬ (0 < m ∧ m ≤ xs.length)) :
    Calls Tryz.prog 38 #[.pointer (some ⟨b, 0, none⟩), .int .i64 x] w fun e w' => e = .returned (.int .i64 0) ∧
      ∃ F', Num w' base b m (xs ++ [x]) F' ∧ Touch F w w' ∧ Newer w.heap.size F F' := by
  obtain ⟨v, hh, hb, hr, rfl⟩ := hs
  refine (rput_core b base m x v xs w hh hr hbase hlen hroom).mono ?_
  rintro e w' ⟨rfl, nq, v', w1, rfl, hown, hgrow, hat⟩
  have hne : some b ≠ v.ownBlock := row_ne hh hr
  have hh1 : w1.heap[b]? = some (.cells #[v, .int .i64 m] 77 (0, 0)) := by
    rw [hgrow.block b (by have := heap_lt hh; simp; omega) hne]; exact (Below.heap_alloc (w.drewN nq) _ b (heap_lt hh)).trans hh
  have hne' : some b ≠ v'.ownBlock := row_ne hh1 hown
  have ht : Touch (b :: v.ownBlock.toList) w w1 := ((Touch.drewN _ w nq).trans (Touch.alloc _ _ _)).trans (Touch.grown hgrow (fun k hk => by simp [hk]))
  refine ⟨rfl, b :: v'.ownBlock.toList, ⟨v', ?_, hb, ?_, rfl⟩, ht.trans (Touch.setCell _ _ _ (by simp)), ?_⟩
  · rw [heap_set hh1]; rfl
  · simpa using ownsRow_setOther hown (a := ⟨b, 0, none⟩) hne' v'
  · intro k hk
    rcases List.mem_cons.1 hk with rfl | hk
    · exact .inl (by simp)
    · have hk' : v'.ownBlock = some k := by simpa using hk
      rcases hat with h1 | h1
      · exact .inl (by rw [h1] at hk'; simp [hk'])
      · rw [h1] at hk'; simp only [Option.some.injEq] at hk'; exact .inr (by omega)

set_option maxHeartbeats 2000000 in
theorem rput_full (b base : Nat) (m x : Int) (xs : List Int) (F : List Nat) (w : World) (hs : Num w base b m xs F) (hfull : 0 < m ∧ m ≤ (xs.length : Int)) :
    Calls Tryz.prog 38 #[.pointer (some ⟨b, 0, none⟩), .int .i64 x] w fun e w' => e = .returned (.int .i64 11) ∧ ∃ nq, w' = w.drewN nq := by
  obtain ⟨v, hh, hb, hr, rfl⟩ := hs
  have hc0 := heap_cell hh 0
  have hc1 := heap_cell hh 1
  simp only [List.getElem?_toArray, List.getElem?_cons_zero, List.getElem?_cons_succ] at hc0 hc1
  have hd : decide (0 < m ∧ m ≤ (xs.length : Int)) = true := by simpa using hfull
  have hfu := rfull_any b xs.length m base v (ints xs) w hc0 hc1 hr
  rw [hd] at hfu
  clear hh
  go_enter Tryz.func38, Tryz.ntmps38
  go_wp2_with fail
  refine hfu.mono ?_
  rintro e w' ⟨rfl, nq, rfl⟩
  go_wp2
  go_ret
  exact ⟨rfl, nq, rfl⟩

/-- A queue and the document's list of it. -/
def PQ (W : World) (base bq br N : Nat) (m : Int) (xs : List Int) (F : List Nat) : Prop :=
  ∃ Fq Fr, Que W base bq m N xs Fq ∧ Num W base br m xs Fr ∧ Apart Fq Fr ∧ F = Fq ++ Fr

theorem pq_after {w w1 w2 : World} {base bq br N N1 : Nat} {m : Int} {xs ys xs' : List Int} {Fs Fr Fs1 Fr2 : List Nat} (hs : Que w base bq m N xs Fs) (hn : Num w base br m ys Fr) (hap : Apart Fs Fr) (hs1 : Que w1 base bq m N1 xs' Fs1) (ht1 : Touch Fs w w1) (hw1 : Newer w.heap.size Fs Fs1)
    (hn2 : Num w2 base br m xs' Fr2) (ht2 : Touch Fr w1 w2) (hw2 : Newer w1.heap.size Fr Fr2) : ∃ F', PQ w2 base bq br N1 m xs' F' ∧ Touch (Fs ++ Fr) w w2 ∧ Newer w.heap.size (Fs ++ Fr) F' := by
  have a1 : Apart Fs1 Fr := hap.newer hw1 (fun k hk => (hn.mem k hk).2)
  have a2 : Apart Fs1 Fr2 := (a1.symm.newer hw2 (fun k hk => (hs1.mem k hk).2)).symm
  refine ⟨Fs1 ++ Fr2, ⟨Fs1, Fr2, hs1.keep ht2 a1, hn2, a2, rfl⟩, (ht1.mono (fun k hk => .inl (by simp [hk]))).trans (ht2.mono (fun k hk => .inl (by simp [hk]))), ?_⟩
  intro k hk
  rcases List.mem_append.1 hk with h | h
  · rcases hw1 k h with h1 | h1
    · exact .inl (by simp [h1])
    · exact .inr h1
  · rcases newer_mono hw2 ht1.size k h with h1 | h1
    · exact .inl (by simp [h1])
    · exact .inr h1

set_option maxRecDepth 20000 in
set_option maxHeartbeats 2000000 in
theorem qo_put (d i bs br base N : Nat) (m : Int) (xs : List Int) (F : List Nat) (sec : Bool) (n wd : Int) (s : ByteArray) (stop : Int) (w : World) (hi : i < 2) (hp : PQ w base bs br N m xs F) (hbase : base ≤ w.heap.size) (hlen : N < 1000000)
    (hc : w.cell? ⟨d, 2 + i, none⟩ = some (.pointer (some ⟨bs, 0, none⟩))) (hcr : w.cell? ⟨d, 12 + i, none⟩ = some (.pointer (some ⟨br, 0, none⟩))) (hxs : xs.length < 1000000) (hroom : ¬ (0 < m ∧ m ≤ (xs.length : Int))) :
    Calls Tryz.prog 19 #[.pointer (some ⟨d, 0, none⟩), .agg (opv 5 sec n wd s stop), .int .i64 i] w fun e w' => e = .returned (.bool true) ∧ ∃ F', PQ w' base bs br (N + 1) m (xs ++ [n]) F' ∧ Touch F w w' ∧ Newer w.heap.size F F' := by
  obtain ⟨Fs, Fr, hs, hn, hap, rfl⟩ := hp
  have hi' : (i : Int) < 2 := by omega
  have hdl : d < w.heap.size := World.block_lt_of_cell? _ _ hc
  have ha : Touch [] w (w.alloc (.cells (opv 5 sec n wd s stop) 31)) := Touch.alloc _ _ _
  have hs0 := hs.keep ha (by intro k _ h; simp at h)
  have hn0 := hn.keep ha (by intro k _ h; simp at h)
  have hpu := put_any bs base N m n xs Fs _ hs0 (by simp; omega) hlen hroom
  go_enter Tryz.func19, Tryz.ntmps19
  go_wp2_with fail
  refine hpu.mono ?_
  rintro e w1 ⟨rfl, Fs1, hs1, ht1, hw1⟩
  have hn1 := hn0.keep ht1 hap.symm
  have bO := box_old (Boxed6.new w (opv 5 sec n wd s stop) 31) ht1 (fun hm => by have := (hs.mem _ hm).2; omega)
  clear hpu
  have cN := heap_cell bO 2
  simp only [List.getElem?_toArray, List.getElem?_cons_zero, List.getElem?_cons_succ] at cN
  go_wp2_with fail
  have hz1 : w.heap.size < w1.heap.size := by have := ht1.size; simp at this; omega
  have hrp : Calls Tryz.prog 38 #[.pointer (some ⟨br, 0, none⟩), .int .i64 n] w1.drew fun e w' => e = .returned (.int .i64 0) ∧ ∃ F', Num w' base br m (xs ++ [n]) F' ∧ Touch Fr w1.drew w' ∧ Newer w1.heap.size Fr F' :=
    rput_any br base m n xs Fr w1.drew (hn1.keep (Touch.drew [] w1) (by intro k _ h; simp at h)) (by show base ≤ w1.heap.size; omega) hxs hroom
  go_region_with (first | (go_at_call 14; refine (num_any _ _).mono ?_; rintro e w' ⟨rfl, rfl⟩) | (go_at_call 38; refine hrp.mono ?_; rintro e w2 ⟨rfl, Fr2, hn2, ht2, hw2⟩))
  all_goals
    go_wp2
    go_ret
    exact ⟨rfl, pq_after hs hn hap hs1 ((ha.mono (by simp)).trans ht1) (newer_mono hw1 (by simp)) hn2 ((Touch.drew _ w1).trans ht2) hw2⟩

set_option maxRecDepth 20000 in
set_option maxHeartbeats 2000000 in
theorem qo_full (d i bs br base N : Nat) (m : Int) (xs : List Int) (F : List Nat) (sec : Bool) (n wd : Int) (s : ByteArray) (stop : Int) (w : World) (hi : i < 2) (hp : PQ w base bs br N m xs F) (hbase : base ≤ w.heap.size) (hlen : xs.length < 1000000)
    (hc : w.cell? ⟨d, 2 + i, none⟩ = some (.pointer (some ⟨bs, 0, none⟩))) (hcr : w.cell? ⟨d, 12 + i, none⟩ = some (.pointer (some ⟨br, 0, none⟩))) (hfull : 0 < m ∧ m ≤ (xs.length : Int)) :
    Calls Tryz.prog 19 #[.pointer (some ⟨d, 0, none⟩), .agg (opv 5 sec n wd s stop), .int .i64 i] w fun e w' => e = .returned (.bool true) ∧ ∃ F', PQ w' base bs br N m xs F' ∧ Touch F w w' ∧ Newer w.heap.size F F' := by
  obtain ⟨Fs, Fr, hs, hn, hap, rfl⟩ := hp
  have hi' : (i : Int) < 2 := by omega
  have hdl : d < w.heap.size := World.block_lt_of_cell? _ _ hc
  have ha : Touch [] w (w.alloc (.cells (opv 5 sec n wd s stop) 31)) := Touch.alloc _ _ _
  have hs0 := hs.keep ha (by intro k _ h; simp at h)
  have hn0 := hn.keep ha (by intro k _ h; simp at h)
  have hpu := put_full bs base N m n xs Fs _ hs0 hfull
  go_enter Tryz.func19, Tryz.ntmps19
  go_wp2_with fail
  refine hpu.mono ?_
  rintro e w1 ⟨rfl, hs1, ht1⟩
  have hn1 := hn0.keep ht1 (by intro k _ h; simp at h)
  have bO := box_old (Boxed6.new w (opv 5 sec n wd s stop) 31) ht1 (by simp)
  clear hpu
  have cN := heap_cell bO 2
  simp only [List.getElem?_toArray, List.getElem?_cons_zero, List.getElem?_cons_succ] at cN
  go_wp2_with fail
  have hrp : ∀ k, Calls Tryz.prog 38 #[.pointer (some ⟨br, 0, none⟩), .int .i64 n] (w1.drewN k) fun e w' => e = .returned (.int .i64 11) ∧ ∃ nq, w' = (w1.drewN k).drewN nq := fun k =>
    rput_full br base m n xs Fr (w1.drewN k) (hn1.keep (Touch.drewN [] w1 k) (by intro k _ h; simp at h)) hfull
  go_quiet (first | (go_at_call 14; exact Calls.quiet_of_same ((num_any _ _).mono fun _ _ h => ⟨h.1, h.2.symm⟩)) | (go_at_call 38; exact Calls.quiet_of (hrp _)))
  go_wp2
  go_ret
  refine ⟨rfl, Fs ++ Fr, ⟨Fs, Fr, hs1.keep (Touch.drewN [] w1 _) (by intro k _ h; simp at h), hn1.keep (Touch.drewN [] w1 _) (by intro k _ h; simp at h), hap, rfl⟩, ?_, Newer.refl _ _⟩
  exact ((ha.trans ht1).trans (Touch.drewN _ _ _)).mono (by simp)

set_option maxRecDepth 20000 in
set_option maxHeartbeats 2000000 in
theorem qo_take (d i bs br base N : Nat) (m x : Int) (xs : List Int) (F : List Nat) (sec : Bool) (n wd : Int) (s : ByteArray) (stop : Int) (w : World) (hi : i < 2) (hp : PQ w base bs br N m (x :: xs) F) (hbase : base ≤ w.heap.size) (hlen : N < 1000000) (hxs : xs.length < 1000000)
    (hc : w.cell? ⟨d, 2 + i, none⟩ = some (.pointer (some ⟨bs, 0, none⟩))) (hcr : w.cell? ⟨d, 12 + i, none⟩ = some (.pointer (some ⟨br, 0, none⟩))) :
    Calls Tryz.prog 19 #[.pointer (some ⟨d, 0, none⟩), .agg (opv 6 sec n wd s stop), .int .i64 i] w fun e w' => e = .returned (.bool true) ∧ ∃ F', PQ w' base bs br N m xs F' ∧ Touch F w w' ∧ Newer w.heap.size F F' := by
  obtain ⟨Fs, Fr, hs, hn, hap, rfl⟩ := hp
  have hi' : (i : Int) < 2 := by omega
  have hdl : d < w.heap.size := World.block_lt_of_cell? _ _ hc
  have ha : Touch [] w (w.alloc (.cells (opv 6 sec n wd s stop) 31)) := Touch.alloc _ _ _
  have hs0 := hs.keep ha (by intro k _ h; simp at h)
  have hn0 := hn.keep ha (by intro k _ h; simp at h)
  have hpo := take_any bs base N m x xs Fs _ hs0 hlen
  go_enter Tryz.func19, Tryz.ntmps19
  go_wp2_with fail
  refine hpo.mono ?_
  rintro e w1 ⟨rfl, hs1, ht1⟩
  have hn1 := hn0.keep ht1 hap.symm
  have hz1 : w.heap.size < w1.heap.size := by have := ht1.size; simp at this; omega
  have hrf := rfirst_any br base m x xs Fr w1 hn1 (by omega) hxs
  clear hpo
  go_wp2_with fail
  refine hrf.mono ?_
  rintro e w2 ⟨rfl, Fr2, hn2, ht2, hw2⟩
  go_wp2
  go_ret
  exact ⟨by simp, pq_after hs hn hap hs1 ((ha.mono (by simp)).trans ht1) (Newer.refl _ _) hn2 ht2 hw2⟩

set_option maxRecDepth 20000 in
set_option maxHeartbeats 2000000 in
theorem qo_take0 (d i bs br base N : Nat) (m : Int) (F : List Nat) (sec : Bool) (n wd : Int) (s : ByteArray) (stop : Int) (w : World) (hi : i < 2) (hp : PQ w base bs br N m [] F)
    (hc : w.cell? ⟨d, 2 + i, none⟩ = some (.pointer (some ⟨bs, 0, none⟩))) (hcr : w.cell? ⟨d, 12 + i, none⟩ = some (.pointer (some ⟨br, 0, none⟩))) :
    Calls Tryz.prog 19 #[.pointer (some ⟨d, 0, none⟩), .agg (opv 6 sec n wd s stop), .int .i64 i] w fun e w' => e = .returned (.bool true) ∧ ∃ F', PQ w' base bs br N m [] F' ∧ Touch F w w' ∧ Newer w.heap.size F F' := by
  obtain ⟨Fs, Fr, hs, hn, hap, rfl⟩ := hp
  have hi' : (i : Int) < 2 := by omega
  have hdl : d < w.heap.size := World.block_lt_of_cell? _ _ hc
  have ha : Touch [] w (w.alloc (.cells (opv 6 sec n wd s stop) 31)) := Touch.alloc _ _ _
  have hs0 := hs.keep ha (by intro k _ h; simp at h)
  have hn0 := hn.keep ha (by intro k _ h; simp at h)
  have hpo := take_none bs base N m Fs _ hs0
  go_enter Tryz.func19, Tryz.ntmps19
  go_wp2_with fail
  refine hpo.mono ?_
  rintro e w1 ⟨rfl, nq, rfl⟩
  have td : Touch [] (w.alloc (.cells (opv 6 sec n wd s stop) 31)) ((w.alloc (.cells (opv 6 sec n wd s stop) 31)).drewN nq) := Touch.drewN _ _ _
  have hs1 := hs0.keep td (by intro k _ h; simp at h)
  have hn1 := hn0.keep td (by intro k _ h; simp at h)
  have hrf := rfirst_none br base m Fr _ hn1
  go_wp2_with fail
  refine hrf.mono ?_
  rintro e w2 ⟨rfl, rfl⟩
  go_wp2
  go_ret
  exact ⟨rfl, Fs ++ Fr, ⟨Fs, Fr, hs1, hn1, hap, rfl⟩, (ha.trans td).mono (by simp), Newer.refl _ _⟩

end Go.Proofs.YtcjblafohfiiaabGreat

/-
  One step of a queue of numbers: Len and All.
-/
set_option linter.unusedVariables false
namespace Go.Proofs.YtcjblafohfiiaabGreat
open Go.RowKit Go.Shelf

set_option maxRecDepth 20000 in
set_option maxHeartbeats 2000000 in
theorem qo_len (d i bs br base N : Nat) (m : Int) (xs : List Int) (F : List Nat) (sec : Bool) (n wd : Int) (s : ByteArray) (stop : Int) (w : World) (hi : i < 2) (hp : PQ w base bs br N m xs F)
    (hc : w.cell? ⟨d, 2 + i, none⟩ = some (.pointer (some ⟨bs, 0, none⟩))) (hcr : w.cell? ⟨d, 12 + i, none⟩ = some (.pointer (some ⟨br, 0, none⟩))) :
    Calls Tryz.prog 19 #[.pointer (some ⟨d, 0, none⟩), .agg (opv 8 sec n wd s stop), .int .i64 i] w fun e w' => e = .returned (.bool true) ∧ ∃ F', PQ w' base bs br N m xs F' ∧ Touch F w w' ∧ Newer w.heap.size F F' := by
  obtain ⟨Fs, Fr, hs, hn, hap, rfl⟩ := hp
  have hi' : (i : Int) < 2 := by omega
  have hdl : d < w.heap.size := World.block_lt_of_cell? _ _ hc
  have ha : Touch [] w (w.alloc (.cells (opv 8 sec n wd s stop) 31)) := Touch.alloc _ _ _
  have hs0 := hs.keep ha (by intro k _ h; simp at h)
  have hn0 := hn.keep ha (by intro k _ h; simp at h)
  have hfin : ∀ q, ∃ F', PQ ((w.alloc (.cells (opv 8 sec n wd s stop) 31)).drewN q) base bs br N m xs F' ∧ Touch (Fs ++ Fr) w ((w.alloc (.cells (opv 8 sec n wd s stop) 31)).drewN q) ∧ Newer w.heap.size (Fs ++ Fr) F' := fun q =>
    ⟨Fs ++ Fr, ⟨Fs, Fr, hs0.keep (Touch.drewN [] _ q) (by intro k _ h; simp at h), hn0.keep (Touch.drewN [] _ q) (by intro k _ h; simp at h), hap, rfl⟩, (ha.trans (Touch.drewN _ _ q)).mono (by simp), Newer.refl _ _⟩
  obtain ⟨v, ts, f, hh, _, hr, hf, hd, _, _⟩ := hs0
  obtain ⟨v2, hh2, _, hr2, _⟩ := hn0
  have c0 := heap_cell hh 0
  have c1 := heap_cell hh 1
  have c2 := heap_cell hh2 0
  simp only [List.getElem?_toArray, List.getElem?_cons_zero, List.getElem?_cons_succ] at c0 c1 c2
  obtain ⟨va, vc, rfl⟩ := row_slice hr2
  have hsl := qlen_any bs f ts.length base v _ _ c0 c1 hr hf
  rw [← List.length_drop, hd] at hsl
  clear hh hh2 hr hr2
  go_enter Tryz.func19, Tryz.ntmps19
  go_wp2_with fail
  refine hsl.mono ?_
  rintro e w1 ⟨rfl, q, rfl⟩
  go_wp2
  go_ret
  exact ⟨by simp, hfin _⟩

theorem que_walked {W : World} {base b N Bl : Nat} {m : Int} {xs : List Int} {F : List Nat} (h : Que W base b m N xs F) (hbl : W.cell? ⟨Bl, 0, none⟩ = some (.func (.func 81) #[.pointer (some ⟨b, 0, none⟩)] #[])) (hN : N < 1000000) : Walked Tryz.prog 103 Bl xs W := by
  obtain ⟨v, ts, f, hh, hb, hr, hf, rfl, hn, rfl⟩ := h
  have h0 := heap_cell hh 0
  have h1 := heap_cell hh 1
  simp only [List.getElem?_toArray, List.getElem?_cons_zero, List.getElem?_cons_succ] at h0 h1
  have hl : (ts.drop f).length < 1000000 := by simp; omega
  rcases hr.2 with ⟨rfl, hz⟩ | ⟨g, cap, cur, rfl, _, hg, hnc, hc, _⟩
  · obtain rfl : f = 0 := by omega
    exact frozenQ_any Bl b _ _ _ _ W hbl (held_nil b W h0 h1) (.inl ⟨rfl, by simp; exact List.eq_nil_of_length_eq_zero hz⟩) hl
  · refine frozenQ_any Bl b _ _ _ _ W hbl (held_some b g cap ts.length f W h0 h1 hf hnc hc) (.inr ⟨g, if cap = f then 0 else f, cap - f, ?_, heap_lt hg, ?_⟩) hl
    · rw [List.length_drop]; split <;> rfl
    · intro j x hj
      rw [List.getElem?_drop] at hj
      have hjl := (List.getElem?_eq_some_iff.1 hj).1
      rw [if_neg (by omega), hr.cellAt _ (by omega)]
      simp [hj]

theorem walked_queue {w W : World} {base bs N Bl : Nat} {m : Int} {xs : List Int} {Fs : List Nat} (hs : Que w base bs m N xs Fs) (hN : N < 1000000) (hB : Below w.heap.size w W) (hbl : W.cell? ⟨Bl, 0, none⟩ = some (.func (.func 81) #[.pointer (some ⟨bs, 0, none⟩)] #[])) :
    Walked Tryz.prog 103 Bl xs W := que_walked (hs.keep (Touch.of_below hB []) (by intro k _ h; simp at h)) hbl hN

set_option maxRecDepth 20000 in
set_option maxHeartbeats 4000000 in
theorem qo_all (d i bs br base N : Nat) (m : Int) (xs : List Int) (F : List Nat) (k : Int) (sec : Bool) (n wd : Int) (s : ByteArray) (stop : Int) (w : World) (hi : i < 2) (hp : PQ w base bs br N m xs F) (hbase : base ≤ w.heap.size) (hN : N < 1000000) (hlen : xs.length < 1000000) (hk1 : (k == 5) = false) (hk2 : (k == 6) = false) (hk3 : (k == 7) = false) (hk4 : (k == 8) = false)
    (hc : w.cell? ⟨d, 2 + i, none⟩ = some (.pointer (some ⟨bs, 0, none⟩))) (hcr : w.cell? ⟨d, 12 + i, none⟩ = some (.pointer (some ⟨br, 0, none⟩))) :
    Calls Tryz.prog 19 #[.pointer (some ⟨d, 0, none⟩), .agg (opv k sec n wd s stop), .int .i64 i] w fun e w' => e = .returned (.bool true) ∧ ∃ F', PQ w' base bs br N m xs F' ∧ Touch F w w' ∧ Newer w.heap.size F F' := by
  obtain ⟨Fs, Fr, hs, hn, hap, rfl⟩ := hp
  have hi' : (i : Int) < 2 := by omega
  have hdl : d < w.heap.size := World.block_lt_of_cell? _ _ hc
  have ha : Touch [] w (w.alloc (.cells (opv k sec n wd s stop) 31)) := Touch.alloc _ _ _
  have hs0 := hs.keep ha (by intro k _ h; simp at h)
  have hn0 := hn.keep ha (by intro k _ h; simp at h)
  have bO := Boxed6.new w (opv k sec n wd s stop) 31
  have cS := heap_cell bO 5
  simp only [List.getElem?_toArray, List.getElem?_cons_zero, List.getElem?_cons_succ] at cS
  go_enter Tryz.func19, Tryz.ntmps19
  go_wp2_with fail
  have hza : (w.alloc (.cells (opv k sec n wd s stop) 31)).heap.size = w.heap.size + 1 := by simp
  generalize hwa : w.alloc (.cells (opv k sec n wd s stop) 31) = wa at ha hs0 hn0 bO cS hza ⊢
  have hza' : w.heap.size < wa.heap.size := by omega
  clear hza hwa
  have hin : ∀ W : World, Below wa.heap.size wa W → W.cell? ⟨wa.heap.size, 0, none⟩ = some (.func (.func 81) #[.pointer (some ⟨bs, 0, none⟩)] #[]) →
      Calls Tryz.prog 33 #[.func (.func 103) #[] #[.pointer (some ⟨wa.heap.size, 0, none⟩)], .int .i64 stop] W fun e w' =>
        ∃ v, e = .returned (.tuple #[v, .bool true]) ∧ w'.ownsRow wa.heap.size 3 1 v (cutTo xs.length stop) (ints (xs.take (cutTo xs.length stop))) ∧ Below wa.heap.size wa w' := fun W hB hl => by
    have h := ints_any wa.heap.size stop xs W hlen (fun W' hB' => walked_queue hs0 hN (hB.trans (hB'.mono hB.size)) ((hB'.cell (p := ⟨wa.heap.size, 0, none⟩) (World.block_lt_of_cell? _ _ hl)).trans hl))
    refine h.mono ?_
    rintro e w' ⟨v, he, hr, hb⟩
    exact ⟨v, he, row_base hr hB.size, hB.trans (hb.mono hB.size)⟩
  go_region_with (first | (go_at_call 43; refine (qall_any _ _).mono ?_; rintro e w' ⟨rfl, rfl⟩) | (go_at_call 33; refine (hin _ (by first | exact ((Below.refl _ wa).drew).alloc (Nat.le_refl _) _ | exact ((Below.refl _ wa).alloc (Nat.le_refl _) _).drew) (by first | exact (Boxed.new wa.drew _ _).cell | exact (Boxed.new wa _ _).cell)).mono ?_; rintro e w2 ⟨v, rfl, hrv, hb2⟩))
  all_goals
    have hT2 : Touch [] wa w2 := Touch.of_below hb2 []
    have hn2 := hn0.keep hT2 (by intro k _ h; simp at h)
    have hs2 := hs0.keep hT2 (by intro k _ h; simp at h)
    have hfin : ∀ q, ∃ F', PQ (w2.drewN q) base bs br N m xs F' ∧ Touch (Fs ++ Fr) w (w2.drewN q) ∧ Newer w.heap.size (Fs ++ Fr) F' := fun q =>
      ⟨Fs ++ Fr, ⟨Fs, Fr, hs2.keep (Touch.drewN [] w2 q) (by intro k _ h; simp at h), hn2.keep (Touch.drewN [] w2 q) (by intro k _ h; simp at h), hap, rfl⟩, ((ha.trans hT2).trans (Touch.drewN _ _ _)).mono (by simp), Newer.refl _ _⟩
    obtain ⟨v2, hh2, _, hr2, _⟩ := hn2
    have c2 := heap_cell hh2 0
    have cS2 := heap_cell (box_old bO hT2 (by simp)) 5
    simp only [List.getElem?_toArray, List.getElem?_cons_zero, List.getElem?_cons_succ] at c2 cS2
    have hcl := cutTo_le xs.length stop
    have hlv : cutTo xs.length stop = (xs.take (cutTo xs.length stop)).length := by rw [List.length_take]; omega
    have hl1 : (xs.take (cutTo xs.length stop)).length < 1000000 := by omega
    have hv := slice_of_row hrv hlv (Nat.le_refl w2.heap.size)
    have hut := fun q => upTo_any xs.length stop (w2.drewN q)
    rcases hr2.2 with ⟨rfl, h0⟩ | ⟨g, cap, cur, rfl, hgb, hgg, hgn, hgm, hgs, hgt⟩
    · obtain rfl : xs = [] := by simpa using h0
      have hc0 : cutTo ([] : List Int).length stop = 0 := by simpa using hcl
      rw [hc0] at hut
      have hsame : ∀ q, Calls Tryz.prog 35 #[v, .slice none 0 0] (w2.drewN q) fun e w' => e = .returned (.bool true) ∧ ∃ nq, w' = (w2.drewN q).drewN nq := fun q =>
        sameInts_any v _ w2.heap.size w2.heap.size [] (w2.drewN q) (by decide) (by show SliceIs w2.heap.size w2 v []; simpa using hv) (.inl ⟨rfl, rfl⟩)
      clear hr2 hh2 hrv hv hl1 hlv hcl hc0 hn0 hs0 hs2 hin
      go_wp2_with fail
      go_quiet (first | (go_at_call 36; exact Calls.quiet_of_same ((hut _).mono fun _ _ h => ⟨h.1, h.2.symm⟩)) | (go_at_call 35; exact Calls.quiet_of (hsame _)))
      go_wp2
      go_ret
      exact ⟨rfl, hfin _⟩
    · have hsame : ∀ q, Calls Tryz.prog 35 #[v, .slice (some ⟨g, 0, none⟩) (cutTo xs.length stop) cap] (w2.drewN q) fun e w' => e = .returned (.bool true) ∧ ∃ nq, w' = (w2.drewN q).drewN nq := fun q =>
        sameInts_any v _ w2.heap.size w2.heap.size (xs.take (cutTo xs.length stop)) (w2.drewN q) hl1 hv (.inr ⟨g, 0, cap, by rw [← hlv], heap_lt hgg, fun j y hj => by
          rw [List.getElem?_take] at hj
          split at hj
          · obtain ⟨g3, cap3, e3, h3⟩ := row_cell hr2 j y hj
            simp only [Value.slice.injEq, Option.some.injEq, Addr.mk.injEq, true_and, and_true] at e3
            obtain ⟨rfl, rfl⟩ := e3
            rw [Nat.zero_add]; exact h3
          · cases hj⟩)
      have hb1 : ((cutTo xs.length stop : Nat) : Int) ≤ cap := by omega
      generalize cutTo xs.length stop = mm at *
      clear hr2 hh2 hrv hv hl1 hlv hcl hn0 hs0 hs2 hin hgg hgt
      unfold maxLen at hgm
      go_wp2_with fail
      go_quiet (first | (go_at_call 36; exact Calls.quiet_of_same ((hut _).mono fun _ _ h => ⟨h.1, h.2.symm⟩)) | (go_at_call 35; exact Calls.quiet_of (hsame _)))
      go_wp2
      go_ret
      exact ⟨rfl, hfin _⟩

end Go.Proofs.YtcjblafohfiiaabGreat

/-
  What Map is handed: the turner.
-/
set_option linter.unusedVariables false
namespace Go.Proofs.YtcjblafohfiiaabGreat
open Go.RowKit Go.Shelf

/-- What the turner makes of a number. -/
def trd (n x : Int) : Int := wrap64 (wrap64 (3 * x) + n)

set_option maxHeartbeats 1000000 in
theorem of_core (b base : Nat) (n x : Int) (v told : Value) (xs : List Int) (w : World) (hh : w.heap[b]? = some (.cells #[.int .i64 n, v, told] 94 (0, 0))) (hr : w.ownsRow base 3 1 v xs.length (ints xs))
    (hbase : base ≤ w.heap.size) (hlen : xs.length < 1000000) :
    Calls Tryz.prog 41 #[.pointer (some ⟨b, 0, none⟩), .int .i64 x] w fun e w' => e = .returned (.int .i64 (trd n x)) ∧
      ∃ v' w1, w' = w1.setCell ⟨b, 1, none⟩ v' ∧ w1.ownsRow base 3 1 v' (xs.length + 1) (ints xs ++ [.int .i64 x]) ∧ (w.alloc (.cells #[.int .i64 x] 3)).grownBy w1 v.ownBlock ∧ (v'.ownBlock = v.ownBlock ∨ v'.ownBlock = some (w.heap.size + 1)) := by
  have hc0 := heap_cell hh 0
  have hc1 := heap_cell hh 1
  simp only [List.getElem?_toArray, List.getElem?_cons_zero, List.getElem?_cons_succ] at hc0 hc1
  have hf1 := heap_frozen hh 1
  have hbl := heap_lt hh
  have hne : some b ≠ v.ownBlock := row_ne hh hr
  clear hh
  obtain ⟨i0, hi, hz0, hz1, hz2⟩ := info_parts Tryz.infoInt
  unfold trd
  go_enter Tryz.func41, Tryz.ntmps41
  go_wp2_with (at_builtin; refine wpList_append_own_at _ rfl _ _ 68 rfl base 3 i0 (.int .i64 0) 1 8 Tryz.underlying68 hi hz0 hz1 hz2 rfl (by decide) _ _ _ rfl (hr.alloc _) ⟨w.heap.size, 0, none⟩ 1 1 [.int .i64 x] rfl rfl (cell_one_new _ _ _) (by simp [Value.oneCell']) (by simp [maxLen]; omega) (by omega) (by simp; omega) ?_)
  intro v' w1 hown' hgrow _ hat
  obtain ⟨g', cap', rfl⟩ := ownsRow_succ hown'
  have hcw : w1.cell? ⟨b, 1, none⟩ = some v := hgrow.cell (a := ⟨b, 1, none⟩) ((World.grownBy_alloc w _ none).cell (a := ⟨b, 1, none⟩) hc1 (by simp)) hne
  have hcn : w1.cell? ⟨b, 0, none⟩ = some (.int .i64 n) := hgrow.cell (a := ⟨b, 0, none⟩) ((World.grownBy_alloc w _ none).cell (a := ⟨b, 0, none⟩) hc0 (by simp)) hne
  have hfw : w1.frozen? ⟨b, 1, none⟩ = false := by
    rw [World.frozen?_of_block (w := w.alloc (.cells #[.int .i64 x] 3)) (hgrow.block b (by simp; omega) hne), World.frozen?_of_block (w := w) (Below.heap_alloc _ _ b hbl)]
    exact hf1
  go_wp2
  go_ret
  exact ⟨rfl, _, w1, rfl, hown', hgrow, by simpa using hat⟩

end Go.Proofs.YtcjblafohfiiaabGreat

/-
  Map, over the turner.
-/
set_option linter.unusedVariables false
namespace Go.Proofs.YtcjblafohfiiaabGreat
open Go.RowKit Go.Shelf

/-- The queue's array behind k steps of Map. -/
def mpd (n : Int) (ts : List Int) (f k : Nat) : List Int := ts.mapIdx fun i x => if f ≤ i ∧ i < f + k then trd n x else x

theorem mpd_length (n : Int) (ts : List Int) (f k : Nat) : (mpd n ts f k).length = ts.length := by simp [mpd]

theorem mpd_get (n : Int) (ts : List Int) (f k i : Nat) : (mpd n ts f k)[i]? = (ts[i]?).map fun x => if f ≤ i ∧ i < f + k then trd n x else x := by
  simp [mpd, List.getElem?_mapIdx]

theorem mpd_zero (n : Int) (ts : List Int) (f : Nat) : mpd n ts f 0 = ts := by
  apply List.ext_getElem?
  intro i
  rw [mpd_get]
  have : ¬ (f ≤ i ∧ i < f + 0) := by omega
  simp only [this, if_false]
  cases ts[i]? <;> rfl

theorem mpd_succ {n x : Int} {ts : List Int} {f k : Nat} (hx : ts[f + k]? = some x) : (mpd n ts f k).set (f + k) (trd n x) = mpd n ts f (k + 1) := by
  have hl := (List.getElem?_eq_some_iff.1 hx).1
  apply List.ext_getElem?
  intro i
  rw [List.getElem?_set, mpd_get, mpd_get, mpd_length]
  by_cases h : f + k = i
  · subst h
    rw [if_pos rfl, if_pos hl, hx]
    have : f ≤ f + k ∧ f + k < f + (k + 1) := by omega
    simp [this]
  · rw [if_neg h]
    congr 1
    funext y
    by_cases h1 : f ≤ i ∧ i < f + k
    · rw [if_pos h1, if_pos (by omega)]
    · rw [if_neg h1, if_neg (by omega)]

theorem mpd_end (n : Int) (ts : List Int) (f : Nat) : (mpd n ts f (ts.length - f)).drop f = (ts.drop f).map (trd n) := by
  apply List.ext_getElem?
  intro i
  rw [List.getElem?_drop, mpd_get, List.getElem?_map, List.getElem?_drop]
  by_cases h : f + i < ts.length
  · have : f ≤ f + i ∧ f + i < f + (ts.length - f) := by omega
    simp [this]
  · rw [List.getElem?_eq_none (by omega)]; rfl

/-- What is there behind k steps. -/
structure Mst (w W : World) (bq g cap f : Nat) (m n : Int) (told : Value) (ts : List Int) (tb base k : Nat) (sv : Value) : Prop where
  q : W.heap[bq]? = some (.cells #[.slice (some ⟨g, 0, none⟩) ts.length cap, .int .i64 f, .int .i64 m] 123 (0, 0))
  r : W.ownsRow base 3 1 (.slice (some ⟨g, 0, none⟩) ts.length cap) ts.length (ints (mpd n ts f k))
  t : W.heap[tb]? = some (.cells #[.int .i64 n, sv, told] 94 (0, 0))
  s : W.ownsRow base 3 1 sv k (ints ((ts.drop f).take k))
  new : ∀ b, sv.ownBlock = some b → w.heap.size ≤ b
  ht : Touch [g, tb] w W

theorem Mst.step {w W w1 : World} {bq g cap f tb base k : Nat} {m n x : Int} {told sv v' : Value} {ts : List Int} (h : Mst w W bq g cap f m n told ts tb base k sv) (hg : g < w.heap.size) (hbq : bq < w.heap.size) (hgt : g ≠ tb) (hbt : bq ≠ tb) (hbg : bq ≠ g) (hx : ts[f + k]? = some x) (hk : k < ts.length - f)
    (hown : w1.ownsRow base 3 1 v' (k + 1) (ints ((ts.drop f).take k) ++ [.int .i64 x])) (hgrow : (W.alloc (.cells #[.int .i64 x] 3)).grownBy w1 sv.ownBlock) (hat : v'.ownBlock = sv.ownBlock ∨ v'.ownBlock = some (W.heap.size + 1)) :
    (w1.setCell ⟨tb, 1, none⟩ v').cell? ⟨g, f + k, none⟩ = some (.int .i64 x) ∧ (w1.setCell ⟨tb, 1, none⟩ v').frozen? ⟨g, f + k, none⟩ = false ∧
      Mst w ((w1.setCell ⟨tb, 1, none⟩ v').setCell ⟨g, f + k, none⟩ (.int .i64 (trd n x))) bq g cap f m n told ts tb base (k + 1) v' := by
  have hsg : some g ≠ sv.ownBlock := fun e => by have := h.new g e.symm; omega
  have hsb : some bq ≠ sv.ownBlock := fun e => by have := h.new bq e.symm; omega
  have htl := heap_lt h.t
  have hst : some tb ≠ sv.ownBlock := row_ne h.t h.s
  have hz := h.ht.size
  have b1 : ∀ c o, W.heap[c]? = some o → some c ≠ sv.ownBlock → w1.heap[c]? = some o := fun c o hc hn => by
    rw [hgrow.block c (by have := heap_lt hc; simp; omega) hn]; exact (Below.heap_alloc W _ c (heap_lt hc)).trans hc
  have hq1 := b1 bq _ h.q hsb
  have ht1 := b1 tb _ h.t hst
  have ta : Touch (sv.ownBlock.toList) W w1 := (Touch.alloc _ _ _).trans (Touch.grown hgrow (fun k hk => by simp [hk]))
  have hr1 : w1.ownsRow base 3 1 (.slice (some ⟨g, 0, none⟩) ts.length cap) ts.length (ints (mpd n ts f k)) := row_keep2 h.r ta (fun k hk hm => by
    simp [Value.ownBlock] at hk hm
    subst hk
    exact hsg hm.symm)
  have hr2 := ownsRow_setOther hr1 (a := ⟨tb, 1, none⟩) (by simpa [Value.ownBlock] using (Ne.symm hgt)) v'
  have hfl : f + k < ts.length := by omega
  have hcx : (w1.setCell ⟨tb, 1, none⟩ v').cell? ⟨g, f + k, none⟩ = some (.int .i64 x) := by
    rw [hr2.cellAt _ (by omega)]
    have e : (mpd n ts f k)[f + k]? = some x := by
      rw [mpd_get, hx]
      have : ¬ (f ≤ f + k ∧ f + k < f + k) := by omega
      simp
    simp [ints, e]
  have hr3 := (hr2.stored (f + k) (.int .i64 (trd n x))).1
  have e3 : (ints (mpd n ts f k)).set (f + k) (.int .i64 (trd n x)) = ints (mpd n ts f (k + 1)) := by rw [← mpd_succ hx]; simp [ints, List.map_set]
  rw [e3] at hr3
  have hv' : ∀ b, v'.ownBlock = some b → w.heap.size ≤ b := fun b hb => by
    rcases hat with e | e
    · rw [e] at hb; exact h.new b hb
    · rw [e] at hb; simp only [Option.some.injEq] at hb; omega
  have hv'g : some g ≠ v'.ownBlock := fun e => by have := hv' g e.symm; omega
  have hv't : some tb ≠ v'.ownBlock := row_ne ht1 hown
  refine ⟨hcx, hr2.frozenAt _, ?_, hr3, ?_, ?_, hv', ?_⟩
  · rw [Below.heap_setCell _ _ _ _ hbg, Below.heap_setCell _ _ _ _ hbt]; exact hq1
  · rw [Below.heap_setCell _ _ _ _ (Ne.symm hgt), heap_set ht1]; rfl
  · have e : ints ((ts.drop f).take k) ++ [.int .i64 x] = ints ((ts.drop f).take (k + 1)) := by
      rw [List.take_add_one, List.getElem?_drop, hx]; simp [ints]
    rw [e] at hown
    exact ownsRow_setOther (ownsRow_setOther hown (a := ⟨tb, 1, none⟩) hv't v') (a := ⟨g, f + k, none⟩) hv'g _
  · have t1 : Touch (tb :: g :: sv.ownBlock.toList) W ((w1.setCell ⟨tb, 1, none⟩ v').setCell ⟨g, f + k, none⟩ (.int .i64 (trd n x))) := ((ta.mono (fun k hk => .inl (by simp [hk]))).trans (Touch.setCell _ _ _ (by simp))).trans (Touch.setCell _ _ _ (by simp))
    refine h.ht.then t1 (fun y hy => ?_)
    simp only [List.mem_cons] at hy
    rcases hy with rfl | rfl | hy
    · exact .inl (by simp)
    · exact .inl (by simp)
    · exact .inr (h.new y (by simpa using hy))

set_option maxHeartbeats 2000000 in
theorem map_core (bq g cap f tb base : Nat) (m n : Int) (told : Value) (ts : List Int) (w : World) (h0 : Mst w w bq g cap f m n told ts tb base 0 (.slice none 0 0)) (hbase : base ≤ w.heap.size) (hf : f ≤ ts.length) (hlen : ts.length < 1000000) (hgt : g ≠ tb) (hbt : bq ≠ tb) (hbg : bq ≠ g) :
    Calls Tryz.prog 40 #[.pointer (some ⟨bq, 0, none⟩), .func (.func 41) #[.pointer (some ⟨tb, 0, none⟩)] #[]] w fun e w' => e = .returned (.tuple #[]) ∧ ∃ sv, Mst w w' bq g cap f m n told ts tb base (ts.length - f) sv := by
  have c0 := heap_cell h0.q 0
  have c1 := heap_cell h0.q 1
  simp only [List.getElem?_toArray, List.getElem?_cons_zero, List.getElem?_cons_succ] at c0 c1
  have hbq := heap_lt h0.q
  have hcm : ts.length ≤ cap ∧ cap ≤ maxLen ∧ g < w.heap.size := by
    rcases h0.r.2 with ⟨e, _⟩ | ⟨g', cap', cur, e, _, hg, hn, hm, _⟩
    · cases e
    · simp only [Value.slice.injEq, Option.some.injEq, Addr.mk.injEq, and_true] at e
      obtain ⟨rfl, -, rfl⟩ := e
      exact ⟨hn, hm, heap_lt hg⟩
  obtain ⟨hc1, hc2, hg⟩ := hcm
  have hhe := held_some bq g cap ts.length f w c0 c1 hf hc1 hc2
  by_cases hfl : f < ts.length
  · rw [if_neg (by omega)] at hhe
    have hsub : ((ts.length - f : Nat) : Int) = (ts.length - f : Nat) := rfl
    obtain ⟨L, hL⟩ : ∃ L, L = ts.length - f := ⟨_, rfl⟩
    rw [← hL] at hhe ⊢
    have HL : Hid (L = ts.length - f) := hL
    have hL1 : L < 1000000 := by omega
    have hcf : L ≤ cap - f := by omega
    clear hL hsub c0 c1
    go_enter Tryz.func40, Tryz.ntmps40
    go_wp2_with fail
    refine hhe.mono ?_
    rintro e w' ⟨rfl, nq, rfl⟩
    clear hhe
    go_wp2
    go_loopw [11] (fun i wr => ∃ (k : Nat) (sv : Value), k ≤ L ∧ i = .int .i64 k ∧ Mst w wr bq g cap f m n told ts tb base k sv) (fun i _ => L - (intOf i).toNat)
    case atStart => exact ⟨0, _, Nat.zero_le _, rfl, h0.q, h0.r, h0.t, h0.s, h0.new, h0.ht.trans (Touch.drewN _ _ _)⟩
    case round =>
      obtain ⟨k, sv, hk, rfl, hm⟩ := hrel
      have Hm : Hid (Mst w wr bq g cap f m n told ts tb base k sv) := hm
      by_cases hlt : k < L
      · have hki : (k : Int) < (L : Int) := by omega
        have hkl : f + k < ts.length := by have := HL.out; omega
        obtain ⟨x, hx⟩ : ∃ x, ts[f + k]? = some x := ⟨_, List.getElem?_eq_getElem hkl⟩
        have hcx : wr.cell? ⟨g, f + k, none⟩ = some (.int .i64 x) := by
          rw [hm.r.cellAt _ (by omega)]
          have e : (mpd n ts f k)[f + k]? = some x := by
            rw [mpd_get, hx]
            simp
          simp [ints, e]
        have hkd : k = ((ts.drop f).take k).length := by simp; omega
        have hof := of_core tb base n x sv told ((ts.drop f).take k) wr hm.t (by rw [← hkd]; exact hm.s) (by have := hm.ht.size; omega) (by rw [← hkd]; omega)
        rw [← hkd] at hof
        have Hx : Hid (ts[f + k]? = some x) := hx
        clear hm hx hkd
        go_wp2_with fail
        refine hof.mono ?_
        rintro e w2 ⟨rfl, v', w1, rfl, hown, hgrow, hat⟩
        obtain ⟨d1, d2, hm'⟩ := Hm.out.step hg hbq hgt hbt hbg Hx.out (by have := HL.out; omega) hown hgrow hat
        clear hof hcx hown hgrow hat Hm
        go_wp2
        exact ⟨⟨k + 1, v', hlt, by go_num, hm'⟩, by simp [intOf]; omega⟩
      · obtain rfl : k = L := by omega
        go_wp2
        go_returns
        exact ⟨rfl, sv, Hm.out⟩
  · have hz : ts.length - f = 0 := by omega
    rw [hz] at hhe ⊢
    generalize (if cap = f then (⟨g, 0, none⟩ : Addr) else ⟨g, f, none⟩) = a at hhe
    go_enter Tryz.func40, Tryz.ntmps40
    go_wp2_with fail
    refine hhe.mono ?_
    rintro e w' ⟨rfl, nq, rfl⟩
    go_wp2
    go_rounds 1
    go_returns
    exact ⟨rfl, _, h0.q, h0.r, h0.t, h0.s, h0.new, h0.ht.trans (Touch.drewN _ _ _)⟩

end Go.Proofs.YtcjblafohfiiaabGreat

/-
  One step of a queue of numbers: Map.
-/
set_option linter.unusedVariables false
namespace Go.Proofs.YtcjblafohfiiaabGreat
open Go.RowKit Go.Shelf

set_option maxHeartbeats 1000000 in
theorem map_nil (bq : Nat) (fv : Value) (w : World) (h0 : w.cell? ⟨bq, 0, none⟩ = some (.slice none 0 0)) (h1 : w.cell? ⟨bq, 1, none⟩ = some (.int .i64 0)) :
    Calls Tryz.prog 40 #[.pointer (some ⟨bq, 0, none⟩), fv] w fun e w' => e = .returned (.tuple #[]) ∧ ∃ nq, w' = w.drewN nq := by
  go_enter Tryz.func40, Tryz.ntmps40
  go_wp2_with fail
  refine (held_nil bq w h0 h1).mono ?_
  rintro e w' ⟨rfl, nq, rfl⟩
  go_wp2
  go_rounds 1
  go_returns
  exact ⟨rfl, _, rfl⟩

theorem map_any (bq tb base N : Nat) (m n : Int) (told : Value) (xs : List Int) (F : List Nat) (w : World) (hq : Que w base bq m N xs F) (ht : w.heap[tb]? = some (.cells #[.int .i64 n, .slice none 0 0, told] 94 (0, 0))) (htF : tb ∉ F) (hbase : base ≤ w.heap.size) (hN : N < 1000000) :
    Calls Tryz.prog 40 #[.pointer (some ⟨bq, 0, none⟩), .func (.func 41) #[.pointer (some ⟨tb, 0, none⟩)] #[]] w fun e w' => e = .returned (.tuple #[]) ∧ ∃ sv, Que w' base bq m N (xs.map (trd n)) F ∧
      w'.heap[tb]? = some (.cells #[.int .i64 n, sv, told] 94 (0, 0)) ∧ w'.ownsRow base 3 1 sv xs.length (ints xs) ∧ Touch (tb :: F) w w' := by
  obtain ⟨v, ts, f, hh, hb, hr, hf, hd, hn, rfl⟩ := hq
  rcases id hr.2 with ⟨rfl, hz⟩ | ⟨g, cap, cur, rfl, hbg, hg, hnc, hm, hcs, htk⟩
  · obtain rfl : ts = [] := List.eq_nil_of_length_eq_zero hz
    obtain rfl : f = 0 := by simpa using hf
    obtain rfl : xs = [] := by simpa using hd.symm
    have c0 := heap_cell hh 0
    have c1 := heap_cell hh 1
    simp only [List.getElem?_toArray, List.getElem?_cons_zero, List.getElem?_cons_succ] at c0 c1
    refine (map_nil bq _ w c0 c1).mono ?_
    rintro e w' ⟨rfl, nq, rfl⟩
    exact ⟨rfl, .slice none 0 0, ⟨_, [], 0, hh, hb, hr, Nat.le_refl _, rfl, hn, rfl⟩, ht, World.ownsRow_nil _ _ _ _, Touch.drewN _ _ _⟩
  · have hbg' : bq ≠ g := fun e => absurd (by simp [Value.ownBlock, e]) (row_ne hh hr)
    have htq : tb ≠ bq := fun e => htF (by simp [e])
    have htg : tb ≠ g := fun e => htF (by simp [Value.ownBlock, e])
    have h0 : Mst w w bq g cap f m n told ts tb base 0 (.slice none 0 0) := ⟨hh, by rw [mpd_zero]; exact hr, ht, by simpa using World.ownsRow_nil w base 3 1, fun b hb => by simp [Value.ownBlock] at hb, Touch.refl _ _⟩
    refine (map_core bq g cap f tb base m n told ts w h0 hbase hf (by omega) htg.symm htq.symm hbg').mono ?_
    rintro e w' ⟨rfl, sv, hm'⟩
    have hxl : ts.length - f = xs.length := by rw [← hd]; simp
    have hs := hm'.s
    rw [List.take_of_length_le (by simp), hd, hxl] at hs
    refine ⟨rfl, sv, ⟨_, mpd n ts f (ts.length - f), f, hm'.q, hb, by rw [mpd_length]; exact hm'.r, by rw [mpd_length]; exact hf, by rw [mpd_end, hd], by rw [mpd_length]; exact hn, rfl⟩, hm'.t, hs, hm'.ht.mono (fun k hk => .inl ?_)⟩
    simp [Value.ownBlock] at hk ⊢
    rcases hk with rfl | rfl
    · simp
    · simp

set_option maxRecDepth 20000 in
set_option maxHeartbeats 4000000 in
theorem qo_map (d i bs br base N : Nat) (m : Int) (xs : List Int) (F : List Nat) (sec : Bool) (n wd : Int) (s : ByteArray) (stop : Int) (w : World) (hi : i < 2) (hp : PQ w base bs br N m xs F) (hbase : base ≤ w.heap.size) (hN : N < 1000000) (hlen : xs.length < 1000000)
    (hc : w.cell? ⟨d, 2 + i, none⟩ = some (.pointer (some ⟨bs, 0, none⟩))) (hcr : w.cell? ⟨d, 12 + i, none⟩ = some (.pointer (some ⟨br, 0, none⟩))) :
    Calls Tryz.prog 19 #[.pointer (some ⟨d, 0, none⟩), .agg (opv 7 sec n wd s stop), .int .i64 i] w fun e w' => e = .returned (.bool true) ∧ ∃ F', PQ w' base bs br N m (xs.map (trd n)) F' ∧ Touch F w w' ∧ Newer w.heap.size F F' := by
  obtain ⟨Fs, Fr, hs, hn, hap, rfl⟩ := hp
  have hi' : (i : Int) < 2 := by omega
  have hdl : d < w.heap.size := World.block_lt_of_cell? _ _ hc
  have ha : Touch [] w ((w.alloc (.cells (opv 7 sec n wd s stop) 31)).alloc (.cells #[.int .i64 n, .slice none 0 0, .slice none 0 0] 94)) := (Touch.alloc _ _ _).trans (Touch.alloc _ _ _)
  have hs0 := hs.keep ha (by intro k _ h; simp at h)
  have hn0 := hn.keep ha (by intro k _ h; simp at h)
  have bO : ((w.alloc (.cells (opv 7 sec n wd s stop) 31)).alloc (.cells #[.int .i64 n, .slice none 0 0, .slice none 0 0] 94)).heap[w.heap.size]? = some (.cells (opv 7 sec n wd s stop) 31 (0, 0)) := (Below.heap_alloc _ _ _ (by simp)).trans (heap_alloc_new w _)
  have bT := heap_alloc_new (w.alloc (.cells (opv 7 sec n wd s stop) 31)) (.cells #[.int .i64 n, .slice none 0 0, .slice none 0 0] 94 (0, 0))
  have hzz : (w.alloc (.cells (opv 7 sec n wd s stop) 31)).heap.size = w.heap.size + 1 := by simp
  rw [hzz] at bT
  have htF : w.heap.size + 1 ∉ Fs := fun h => by have := (hs.mem _ h).2; omega
  have hmp := map_any bs (w.heap.size + 1) base N m n (.slice none 0 0) xs Fs _ hs0 bT htF (by simp; omega) hN
  go_enter Tryz.func19, Tryz.ntmps19
  go_wp2_with fail
  refine hmp.mono ?_
  rintro e w2 ⟨rfl, sv, hq2, bT2, hsv, hT2⟩
  clear hmp
  have hn2 := hn0.keep hT2 (fun k hk hm => by
    rcases List.mem_cons.1 hm with h | h
    · have := (hn.mem _ hk).2; omega
    · exact hap k h hk)
  have bO2 := box_old bO hT2 (fun hm => by
    rcases List.mem_cons.1 hm with h | h
    · omega
    · have := (hs.mem _ h).2; omega)
  have hTT : Touch (Fs ++ Fr) w w2 := (ha.mono (by simp)).then hT2 (fun k hk => by
    rcases List.mem_cons.1 hk with h | h
    · exact .inr (by omega)
    · exact .inl (by simp [h]))
  obtain ⟨v2, hh2, hb2, hr2, hF2⟩ := hn2
  have cT := heap_cell bT2 1
  have c2 := heap_cell hh2 0
  simp only [List.getElem?_toArray, List.getElem?_cons_zero, List.getElem?_cons_succ] at cT c2
  have hv := slice_of_row hsv rfl (Nat.le_refl w2.heap.size)
  have hv2 := slice_of_row hr2 rfl (Nat.le_refl w2.heap.size)
  have hsame : ∀ q, Calls Tryz.prog 35 #[sv, v2] (w2.drewN q) fun e w' => e = .returned (.bool true) ∧ ∃ nq, w' = (w2.drewN q).drewN nq := fun q => sameInts_any sv v2 w2.heap.size w2.heap.size xs (w2.drewN q) hlen hv hv2
  clear hv hv2 hsv ha hs0 hn0 bO bT hzz htF bT2
  go_wp2_with fail
  go_quiet ((go_at_call 35; exact Calls.quiet_of (hsame _)))
  go_upto_region 15 with fail
  clear hsame cT c2
  have hq3 := hq2.keep (Touch.drewN [] w2 nq) (by intro k _ h; simp at h)
  have hT3 : Touch (Fs ++ Fr) w (w2.drewN nq) := hTT.trans (Touch.drewN _ _ _)
  have hh3 : (w2.drewN nq).heap[br]? = some (.cells #[v2, .int .i64 m] 77 (0, 0)) := hh2
  have hr3 : (w2.drewN nq).ownsRow base 3 1 v2 xs.length (ints xs) := hr2
  have bO3 : (w2.drewN nq).heap[w.heap.size]? = some (.cells (opv 7 sec n wd s stop) 31 (0, 0)) := bO2
  clear hq2 hTT hh2 hr2 bO2 hT2
  generalize w2.drewN nq = w3 at hq3 hT3 hh3 hr3 bO3 ⊢
  rcases id hr3.2 with ⟨rfl, h0⟩ | ⟨gr, capr, cur, rfl, hgb, hgg, hgn, hgm, hgs, hgt⟩
  · obtain rfl : xs = [] := List.eq_nil_of_length_eq_zero h0
    have c2 := heap_cell hh3 0
    simp only [List.getElem?_toArray, List.getElem?_cons_zero] at c2
    go_wp2
    go_rounds 1
    go_ret
    exact ⟨rfl, Fs ++ Fr, ⟨Fs, Fr, hq3, ⟨_, hh3, hb2, hr3, hF2⟩, hap, rfl⟩, hT3, Newer.refl _ _⟩
  · have hgF : gr ∈ Fr := by rw [hF2]; simp [Value.ownBlock]
    have hbg : br ≠ gr := fun e => absurd (by simp [Value.ownBlock, e]) (row_ne hh3 hr3)
    have hog : w.heap.size ≠ gr := by have := (hn.mem _ hgF).2; omega
    clear hgb hgg hgs hgt
    go_wp2
    go_loopw [16] (fun iv wr => ∃ (k : Nat), k ≤ xs.length ∧ iv = .int .i64 k ∧ wr.heap[br]? = some (.cells #[.slice (some ⟨gr, 0, none⟩) xs.length capr, .int .i64 m] 77 (0, 0)) ∧ wr.ownsRow base 3 1 (.slice (some ⟨gr, 0, none⟩) xs.length capr) xs.length (ints (mpd n xs 0 k)) ∧ Touch [gr] w3 wr) (fun iv _ => xs.length - (intOf iv).toNat)
    case atStart => exact ⟨0, Nat.zero_le _, rfl, hh3, by rw [mpd_zero]; exact hr3, Touch.refl _ _⟩
    case round =>
      obtain ⟨k, hk, rfl, hhr, hrr, htr⟩ := hrel
      have c2 := heap_cell hhr 0
      have cN := heap_cell (box_old bO3 htr (by simpa using hog)) 2
      simp only [List.getElem?_toArray, List.getElem?_cons_zero, List.getElem?_cons_succ] at c2 cN
      by_cases hlt : k < xs.length
      · have hki : (k : Int) < (xs.length : Int) := by omega
        obtain ⟨x, hx⟩ : ∃ x, xs[k]? = some x := ⟨_, List.getElem?_eq_getElem hlt⟩
        have hcx : wr.cell? ⟨gr, k, none⟩ = some (.int .i64 x) := by
          rw [hrr.cellAt _ (by omega)]
          have e : (mpd n xs 0 k)[k]? = some x := by
            rw [mpd_get, hx]
            simp
          simp [ints, e]
        have hfx := hrr.frozenAt k
        have hr4 : ∀ q, ((wr.drewN q).setCell ⟨gr, k, none⟩ (.int .i64 (trd n x))).ownsRow base 3 1 (.slice (some ⟨gr, 0, none⟩) xs.length capr) xs.length (ints (mpd n xs 0 (k + 1))) := fun q => by
          have hr5 : (wr.drewN q).ownsRow base 3 1 (.slice (some ⟨gr, 0, none⟩) xs.length capr) xs.length (ints (mpd n xs 0 k)) := hrr
          have h4 := (hr5.stored k (.int .i64 (trd n x))).1
          have e3 : (ints (mpd n xs 0 k)).set k (.int .i64 (trd n x)) = ints (mpd n xs 0 (k + 1)) := by
            have := mpd_succ (n := n) (ts := xs) (f := 0) (k := k) (x := x) (by simpa using hx)
            rw [← this]; simp [ints, List.map_set]
          rw [e3] at h4
          exact h4
        have hh4 : ∀ q, ((wr.drewN q).setCell ⟨gr, k, none⟩ (.int .i64 (trd n x))).heap[br]? = some (.cells #[.slice (some ⟨gr, 0, none⟩) xs.length capr, .int .i64 m] 77 (0, 0)) := fun q => by
          rw [Below.heap_setCell _ _ _ _ hbg]; exact hhr
        have ht4 : ∀ q, Touch [gr] w3 ((wr.drewN q).setCell ⟨gr, k, none⟩ (.int .i64 (trd n x))) := fun q => (htr.trans (Touch.drewN _ _ q)).trans (Touch.setCell _ _ _ (by simp))
        have Hr4 : Hid (∀ q, ((wr.drewN q).setCell ⟨gr, k, none⟩ (.int .i64 (trd n x))).ownsRow base 3 1 (.slice (some ⟨gr, 0, none⟩) xs.length capr) xs.length (ints (mpd n xs 0 (k + 1)))) := hr4
        have Hh4 : Hid (∀ q, ((wr.drewN q).setCell ⟨gr, k, none⟩ (.int .i64 (trd n x))).heap[br]? = some (.cells #[.slice (some ⟨gr, 0, none⟩) xs.length capr, .int .i64 m] 77 (0, 0))) := hh4
        have Ht4 : Hid (∀ q, Touch [gr] w3 ((wr.drewN q).setCell ⟨gr, k, none⟩ (.int .i64 (trd n x)))) := ht4
        clear hr4 hh4 ht4 hhr hrr htr hx
        go_wp2_with fail
        go_region
        go_wp2
        exact ⟨⟨k + 1, hlt, by go_num, Hh4.out 0, Hr4.out 0, (Ht4.out 0).trans (Touch.drew _ _)⟩, by simp [intOf]; omega⟩
      · obtain rfl : k = xs.length := by omega
        have e : mpd n xs 0 xs.length = xs.map (trd n) := by simpa using mpd_end n xs 0
        rw [e] at hrr
        have hq4 := hq3.keep htr (fun j hj hm => by
          simp at hm
          subst hm
          exact hap j hj hgF)
        have hT4 : Touch (Fs ++ Fr) w wr := hT3.trans (htr.mono (fun j hj => .inl (by simp at hj; subst hj; simp [hgF])))
        go_wp2
        go_ret
        exact ⟨rfl, Fs ++ Fr, ⟨Fs, Fr, hq4, ⟨_, hhr, hb2, by simpa using hrr, by simpa using hF2⟩, hap, rfl⟩, hT4, Newer.refl _ _⟩

end Go.Proofs.YtcjblafohfiiaabGreat

/-
  One step of a queue of numbers, whatever it is; plays.
-/
set_option linter.unusedVariables false
namespace Go.Proofs.YtcjblafohfiiaabGreat
open Go.RowKit Go.Shelf

theorem qo_any (d i bs br base N : Nat) (m : Int) (xs : List Int) (F : List Nat) (k : Int) (sec : Bool) (n wd : Int) (s : ByteArray) (stop : Int) (w : World) (hi : i < 2) (hp : PQ w base bs br N m xs F) (hbase : base ≤ w.heap.size) (hN : N < 1000000) (hlen : xs.length < 1000000)
    (hc : w.cell? ⟨d, 2 + i, none⟩ = some (.pointer (some ⟨bs, 0, none⟩))) (hcr : w.cell? ⟨d, 12 + i, none⟩ = some (.pointer (some ⟨br, 0, none⟩))) :
    Calls Tryz.prog 19 #[.pointer (some ⟨d, 0, none⟩), .agg (opv k sec n wd s stop), .int .i64 i] w fun e w' => e = .returned (.bool true) ∧ ∃ N' xs' F', N' ≤ N + 1 ∧ xs'.length ≤ xs.length + 1 ∧ PQ w' base bs br N' m xs' F' ∧ Touch F w w' ∧ Newer w.heap.size F F' := by
  by_cases h1 : k = 5
  · subst h1
    by_cases hf : 0 < m ∧ m ≤ (xs.length : Int)
    · exact (qo_full d i bs br base N m xs F sec n wd s stop w hi hp hbase hlen hc hcr hf).mono fun e w' ⟨he, F', h⟩ => ⟨he, N, xs, F', by omega, by omega, h⟩
    · exact (qo_put d i bs br base N m xs F sec n wd s stop w hi hp hbase hN hc hcr hlen hf).mono fun e w' ⟨he, F', h⟩ => ⟨he, N + 1, _, F', by omega, by simp, h⟩
  · by_cases h2 : k = 6
    · subst h2
      cases xs with
      | nil => exact (qo_take0 d i bs br base N m F sec n wd s stop w hi hp hc hcr).mono fun e w' ⟨he, F', h⟩ => ⟨he, N, [], F', by omega, by simp, h⟩
      | cons x ys => exact (qo_take d i bs br base N m x ys F sec n wd s stop w hi hp hbase hN (by simp at hlen; omega) hc hcr).mono fun e w' ⟨he, F', h⟩ => ⟨he, N, ys, F', by omega, by simp; omega, h⟩
    · by_cases h3 : k = 7
      · subst h3
        exact (qo_map d i bs br base N m xs F sec n wd s stop w hi hp hbase hN hlen hc hcr).mono fun e w' ⟨he, F', h⟩ => ⟨he, N, _, F', by omega, by simp, h⟩
      · by_cases h4 : k = 8
        · subst h4
          exact (qo_len d i bs br base N m xs F sec n wd s stop w hi hp hc hcr).mono fun e w' ⟨he, F', h⟩ => ⟨he, N, xs, F', by omega, by omega, h⟩
        · exact (qo_all d i bs br base N m xs F k sec n wd s stop w hi hp hbase hN hlen (by simpa using h1) (by simpa using h2) (by simpa using h3) (by simpa using h4) hc hcr).mono fun e w' ⟨he, F', h⟩ => ⟨he, N, xs, F', by omega, by omega, h⟩

set_option maxHeartbeats 2000000 in
/-- plays, of a queue. -/
theorem plays_queue (R : World → Prop) (d : Nat) (k : Int) (sec : Bool) (n wd : Int) (s : ByteArray) (stop : Int) (w : World) (hk1 : 5 ≤ k) (hk4 : k ≤ 9)
    (h : Calls Tryz.prog 19 #[.pointer (some ⟨d, 0, none⟩), .agg (opv k sec n wd s stop), .int .i64 (if sec = true then 1 else 0)] (w.alloc (.cells (opv k sec n wd s stop) 31)) fun e w' => e = .returned (.bool true) ∧ R w') :
    Calls Tryz.prog 9 #[.pointer (some ⟨d, 0, none⟩), .agg (opv k sec n wd s stop)] w fun e w' => e = .returned (.bool true) ∧ R w' := by
  have e1 : ¬ k < 1 := by omega
  have e2 : ¬ 26 < k := by omega
  have e3 : ¬ k ≤ 4 := by omega
  cases sec
  · simp only [Bool.false_eq_true, if_false] at h
    go_enter Tryz.func9, Tryz.ntmps9
    go_wp2_with fail
    refine h.mono ?_
    rintro e w' ⟨rfl, hR⟩
    go_wp2
    go_ret
    exact ⟨rfl, hR⟩
  · simp only [if_true] at h
    go_enter Tryz.func9, Tryz.ntmps9
    go_wp2_with fail
    refine h.mono ?_
    rintro e w' ⟨rfl, hR⟩
    go_wp2
    go_ret
    exact ⟨rfl, hR⟩

end Go.Proofs.YtcjblafohfiiaabGreat

