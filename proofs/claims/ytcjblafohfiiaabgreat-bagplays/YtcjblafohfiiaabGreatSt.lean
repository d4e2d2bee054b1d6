/-
  The stack of numbers: what each call does.
-/
import Derived.Test.YtcjblafohfiiaabGreatRows
import Derived.Test.YtcjblafohfiiaabGreatMem
import Derived.Deep.QuietTactic
import Derived.BigQuiet
import Derived.Deep.DeepFit
set_option linter.unusedVariables false
namespace Go.Proofs.YtcjblafohfiiaabGreat
open Go.RowKit

theorem Tryz.infoInt : (Tryz.prog.info? 3).map (fun i => (i.zero, i.size, i.bytes)) = some (some (.int .i64 0), 1, 8) := by kernel_rfl

abbrev ints (xs : List Int) : List Value := xs.map (Value.int .i64)

/-- The stack in block b: xs from the bottom to the top, F its blocks. -/
def Stk (W : World) (base b : Nat) (most : Int) (xs : List Int) (F : List Nat) : Prop :=
  ∃ v : Value, W.heap[b]? = some (.cells #[v, .int .i64 most] 121 (0, 0)) ∧ base ≤ b ∧ W.ownsRow base 3 1 v xs.length (ints xs) ∧ F = b :: v.ownBlock.toList

theorem Stk.mem {W : World} {base b : Nat} {most : Int} {xs : List Int} {F : List Nat} (h : Stk W base b most xs F) : ∀ k, k ∈ F → base ≤ k ∧ k < W.heap.size := by
  obtain ⟨v, hh, hb, hr, rfl⟩ := h
  intro k hk
  rcases List.mem_cons.1 hk with rfl | hk
  · exact ⟨hb, heap_lt hh⟩
  · exact hr.lt k (by simpa using hk)

theorem Stk.keep {W W' : World} {base b : Nat} {most : Int} {xs : List Int} {F G : List Nat} (h : Stk W base b most xs F) (ht : Touch G W W') (ha : Apart F G) : Stk W' base b most xs F := by
  obtain ⟨v, hh, hb, hr, rfl⟩ := h
  refine ⟨v, ?_, hb, ?_, rfl⟩
  · rw [ht.block b (heap_lt hh) (ha b (by simp))]; exact hh
  · refine ⟨hr.1, ?_⟩
    rcases hr.2 with hn | ⟨g, cap, cur, rfl, hb', hg, rest⟩
    · exact .inl hn
    · refine .inr ⟨g, cap, cur, rfl, hb', ?_, rest⟩
      rw [ht.block g (heap_lt hg) (ha g (by simp [Value.ownBlock]))]; exact hg

/-- A block of another type is no row of numbers. -/
theorem row_ne {w : World} {b base t n : Nat} {cs : Array Value} {v : Value} {xs : List Value} {e : Nat} (hh : w.heap[b]? = some (.cells cs t (0, 0))) (hr : w.ownsRow base e 1 v n xs) (hte : t ≠ e := by decide) : some b ≠ v.ownBlock := by
  intro h
  rcases hr.2 with ⟨rfl, _⟩ | ⟨g, cap, cur, rfl, _, hg, _⟩
  · simp [Value.ownBlock] at h
  · simp only [Value.ownBlock, Option.some.injEq] at h
    subst h
    rw [hh] at hg
    simp only [Option.some.injEq, Obj.cells.injEq] at hg
    exact hte hg.2.1

theorem ownsRow_setOther {w : World} {base : Nat} {e : TypeId} {size : Nat} {v : Value} {n : Nat} {xs : List Value} (h : w.ownsRow base e size v n xs) {a : Addr} (ha : some a.block ≠ v.ownBlock) (u : Value) : (w.setCell a u).ownsRow base e size v n xs := by
  obtain ⟨h1, h2⟩ := h
  refine ⟨h1, ?_⟩
  rcases h2 with h2 | ⟨g, cap, cur, rfl, hg, hh, r⟩
  · exact Or.inl h2
  · exact Or.inr ⟨g, cap, cur, rfl, hg, by rw [Below.heap_setCell _ _ _ _ (fun e => ha (by rw [← e]; rfl))]; exact hh, r⟩

set_option maxHeartbeats 400000 in
theorem full_any (h m : Int) (w : World) :
    Calls Tryz.prog 74 #[.int .i64 h, .int .i64 m] w fun e w' => e = .returned (.bool (decide (0 < m ∧ m ≤ h))) ∧ w' = w := by
  by_cases h1 : 0 < m
  · by_cases h2 : m ≤ h
    · go_enter Tryz.func74, Tryz.ntmps74
      go_wp2
      go_ret
      simp [h1, h2]
    · go_enter Tryz.func74, Tryz.ntmps74
      go_wp2
      go_ret
      simp [h2]
  · go_enter Tryz.func74, Tryz.ntmps74
    go_wp2
    go_ret
    simp
    omega

set_option maxHeartbeats 400000 in
theorem slen_any (b : Nat) (v : Value) (n : Nat) (w : World) (base : Nat) (xs : List Value) (hc : w.cell? ⟨b, 0, none⟩ = some v) (hr : w.ownsRow base 3 1 v n xs) :
    Calls Tryz.prog 32 #[.pointer (some ⟨b, 0, none⟩)] w fun e w' => e = .returned (.int .i64 n) ∧ w' = w := by
  rcases hr.2 with ⟨rfl, rfl⟩ | ⟨g, cap, cur, rfl, _⟩
  · clear hr
    go_enter Tryz.func32, Tryz.ntmps32
    go_wp2
    go_ret
    exact ⟨rfl, rfl⟩
  · clear hr
    go_enter Tryz.func32, Tryz.ntmps32
    go_wp2
    go_ret
    exact ⟨rfl, rfl⟩

set_option maxHeartbeats 400000 in
theorem newstack_any (m : Int) (hm : 0 ≤ m) (w : World) :
    Calls Tryz.prog 23 #[.int .i64 m] w fun e w' => e = .returned (.tuple #[.pointer (some ⟨w.heap.size, 0, none⟩), .int .i64 0]) ∧ w' = w.alloc (.cells #[.slice none 0 0, .int .i64 m] 121) := by
  have h1 : ¬ m < 0 := by omega
  go_enter Tryz.func23, Tryz.ntmps23
  go_wp2
  go_ret2
  exact ⟨rfl, rfl⟩

set_option maxHeartbeats 400000 in
theorem newintstack_any (m : Int) (hm : 0 ≤ m) (w : World) :
    Calls Tryz.prog 11 #[.int .i64 m] w fun e w' => e = .returned (.tuple #[.pointer (some ⟨w.heap.size, 0, none⟩), .int .i64 0]) ∧ Stk w' w.heap.size w.heap.size m [] [w.heap.size] ∧ Touch [] w w' ∧ w'.heap.size = w.heap.size + 1 := by
  go_enter Tryz.func11, Tryz.ntmps11
  go_wp2_with fail
  refine (newstack_any m hm _).mono ?_
  rintro e w' ⟨rfl, rfl⟩
  go_wp2
  go_ret2
  exact ⟨rfl, ⟨.slice none 0 0, heap_alloc_new w _, Nat.le_refl _, World.ownsRow_nil _ _ _ _, rfl⟩, Touch.alloc _ _ _, by simp⟩

/-- A push where there is room. -/
theorem push_core (b base : Nat) (m x : Int) (v : Value) (xs : List Int) (w : World) (hh : w.heap[b]? = some (.cells #[v, .int .i64 m] 121 (0, 0))) (hr : w.ownsRow base 3 1 v xs.length (ints xs))
    (hbase : base ≤ w.heap.size) (hlen : xs.length < 1000000) (hroom : ¬ (0 < m ∧ m ≤ xs.length)) :
    Calls Tryz.prog 28 #[.pointer (some ⟨b, 0, none⟩), .int .i64 x] w fun e w' => e = .returned (.int .i64 0) ∧
      ∃ nq v' w1, w' = w1.setCell ⟨b, 0, none⟩ v' ∧ w1.ownsRow base 3 1 v' (xs.length + 1) (ints xs ++ [.int .i64 x]) ∧ ((w.drewN nq).alloc (.cells #[.int .i64 x] 3)).grownBy w1 v.ownBlock ∧ (v'.ownBlock = v.ownBlock ∨ v'.ownBlock = some (w.heap.size + 1)) := by
  have hc0 := heap_cell hh 0
  have hc1 := heap_cell hh 1
  simp only [List.getElem?_toArray, List.getElem?_cons_zero, List.getElem?_cons_succ] at hc0 hc1
  have hf0 := heap_frozen hh 0
  have hbl := heap_lt hh
  have hne : some b ≠ v.ownBlock := row_ne hh hr
  clear hh
  have hd : decide (0 < m ∧ m ≤ (xs.length : Int)) = false := by simpa using hroom
  have hlen2 := slen_any b v xs.length (base := base) (xs := ints xs)
  obtain ⟨i0, hi, hz0, hz1, hz2⟩ := info_parts Tryz.infoInt
  go_enter Tryz.func28, Tryz.ntmps28
  go_wp2
  go_quiet (first | (go_at_call 32; exact Calls.quiet_of_same (slen_any b v xs.length _ base (ints xs) hc0 hr)) | (go_at_call 74; exact Calls.quiet_of_same (full_any _ _ _)))
  rw [hd]
  have hr2 : (w.drewN nq).ownsRow base 3 1 v xs.length (ints xs) := hr
  go_wp2_with (at_builtin; refine wpList_append_own_at _ rfl _ _ 68 rfl base 3 i0 (.int .i64 0) 1 8 Tryz.underlying68 hi hz0 hz1 hz2 rfl (by decide) _ _ _ rfl (hr2.alloc _) ⟨w.heap.size, 0, none⟩ 1 1 [.int .i64 x] rfl rfl (cell_one_new _ _ _) (by simp [Value.oneCell']) (by simp [maxLen]; omega) (by omega) (by simp; omega) ?_)
  intro v' w1 hown' hgrow _ hat
  obtain ⟨g', cap', rfl⟩ := ownsRow_succ hown'
  have hcw : w1.cell? ⟨b, 0, none⟩ = some v := hgrow.cell (a := ⟨b, 0, none⟩) ((World.grownBy_alloc (w.drewN nq) _ none).cell (a := ⟨b, 0, none⟩) hc0 (by simp)) hne
  have hfw : w1.frozen? ⟨b, 0, none⟩ = false := by
    rw [World.frozen?_of_block (w := (w.drewN nq).alloc (.cells #[.int .i64 x] 3)) (hgrow.block b (by simp; omega) hne), World.frozen?_of_block (w := w.drewN nq) (Below.heap_alloc _ _ b hbl)]
    exact hf0
  go_wp2
  go_ret
  exact ⟨rfl, nq, _, w1, rfl, hown', hgrow, by simpa using hat⟩

theorem push_any (b base : Nat) (m x : Int) (xs : List Int) (F : List Nat) (w : World) (hs : Stk w base b m xs F) (hbase : base ≤ w.heap.size) (hlen : xs.length < 1000000) (hroom : ¬ (0 < m ∧ m ≤ xs.length)) :
    Calls Tryz.prog 28 #[.pointer (some ⟨b, 0, none⟩), .int .i64 x] w fun e w' => e = .returned (.int .i64 0) ∧
      ∃ F', Stk w' base b m (xs ++ [x]) F' ∧ Touch F w w' ∧ Newer w.heap.size F F' := by
  obtain ⟨v, hh, hb, hr, rfl⟩ := hs
  refine (push_core b base m x v xs w hh hr hbase hlen hroom).mono ?_
  rintro e w' ⟨rfl, nq, v', w1, rfl, hown, hgrow, hat⟩
  have hne : some b ≠ v.ownBlock := row_ne hh hr
  have hh1 : w1.heap[b]? = some (.cells #[v, .int .i64 m] 121 (0, 0)) := by
    rw [hgrow.block b (by have := heap_lt hh; simp; omega) hne]; exact (Below.heap_alloc (w.drewN nq) _ b (heap_lt hh)).trans hh
  have hne' : some b ≠ v'.ownBlock := row_ne hh1 hown
  have ht : Touch (b :: v.ownBlock.toList) w w1 := ((Touch.drewN _ w nq).trans (Touch.alloc _ _ _)).trans (Touch.grown hgrow (fun k hk => by simp [hk]))
  refine ⟨rfl, b :: v'.ownBlock.toList, ⟨v', ?_, hb, ?_, rfl⟩, ht.trans (Touch.setCell _ _ _ (by simp)), ?_⟩
  · rw [heap_set hh1]; rfl
  · simpa using ownsRow_setOther hown (a := ⟨b, 0, none⟩) hne' v'
  · intro k hk
    rcases List.mem_cons.1 hk with rfl | hk
    · exact .inl (by simp)
    · have hk' : v'.ownBlock = some k := by simpa using hk
      rcases hat with h1 | h1
      · exact .inl (by rw [h1] at hk'; simp [hk'])
      · rw [h1] at hk'; simp only [Option.some.injEq] at hk'; exact .inr (by omega)

theorem push_full (b base : Nat) (m x : Int) (xs : List Int) (F : List Nat) (w : World) (hs : Stk w base b m xs F) (hfull : 0 < m ∧ m ≤ xs.length) :
    Calls Tryz.prog 28 #[.pointer (some ⟨b, 0, none⟩), .int .i64 x] w fun e w' => e = .returned (.int .i64 11) ∧ Stk w' base b m xs F ∧ Touch [] w w' := by
  obtain ⟨v, hh, hb, hr, rfl⟩ := hs
  have hc0 := heap_cell hh 0
  have hc1 := heap_cell hh 1
  simp only [List.getElem?_toArray, List.getElem?_cons_zero, List.getElem?_cons_succ] at hc0 hc1
  have hd : decide (0 < m ∧ m ≤ (xs.length : Int)) = true := by simpa using hfull
  have Hh : Hid (w.heap[b]? = some (.cells #[v, .int .i64 m] 121 (0, 0))) := hh
  clear hh
  go_enter Tryz.func28, Tryz.ntmps28
  go_wp2
  go_quiet (first | (go_at_call 32; exact Calls.quiet_of_same (slen_any b v xs.length _ base (ints xs) hc0 hr)) | (go_at_call 74; exact Calls.quiet_of_same (full_any _ _ _)))
  rw [hd]
  go_wp2
  go_ret
  exact ⟨rfl, ⟨v, Hh.out, hb, hr, rfl⟩, Touch.drewN _ _ _⟩

theorem pop_none (b base : Nat) (m : Int) (F : List Nat) (w : World) (hs : Stk w base b m [] F) :
    Calls Tryz.prog 30 #[.pointer (some ⟨b, 0, none⟩)] w fun e w' => e = .returned (.tuple #[.int .i64 0, .bool false]) ∧ w = w' := by
  obtain ⟨v, hh, hb, hr, rfl⟩ := hs
  have hc0 := heap_cell hh 0
  simp only [List.getElem?_toArray, List.getElem?_cons_zero] at hc0
  clear hh
  go_enter Tryz.func30, Tryz.ntmps30
  go_wp2_with fail
  refine (slen_any b v 0 _ base [] hc0 hr).mono ?_
  rintro e w' ⟨rfl, rfl⟩
  go_wp2
  go_ret2
  exact ⟨rfl, rfl⟩

/-- A row whose last element is taken off and cleared. -/
theorem ownsRow_popped {w : World} {base g cap n : Nat} {e : TypeId} {xs : List Value} {x z : Value} (hl : xs.length = n) (h : w.ownsRow base e 1 (.slice (some ⟨g, 0, none⟩) (n + 1) cap) (n + 1) (xs ++ [x])) :
    (w.setCell ⟨g, n, none⟩ z).ownsRow base e 1 (.slice (some ⟨g, 0, none⟩) n cap) n xs := by
  obtain ⟨h1, h2⟩ := h
  rcases h2 with ⟨h2, _⟩ | ⟨g', cap', cur, hv, hb, hg, hn, hm, hs, ht⟩
  · simp at h2
  · simp only [Value.slice.injEq, Option.some.injEq, Addr.mk.injEq, true_and, and_true] at hv
    obtain ⟨rfl, rfl⟩ := hv
    refine ⟨by simp [hl], .inr ⟨g, cap, cur.setIfInBounds n z, rfl, hb, heap_set hg n z, by omega, hm, by simp [hs], ?_⟩⟩
    rw [Array.toList_setIfInBounds, Nat.mul_one, List.take_set_of_le (Nat.le_refl _)]
    have := congrArg (List.take n) ht
    rw [List.take_take, Nat.mul_one, Nat.min_eq_left (by omega)] at this
    rw [this, ← hl, List.take_left]

theorem pop_core (b base g cap : Nat) (m x : Int) (xs : List Int) (w : World) (hh : w.heap[b]? = some (.cells #[.slice (some ⟨g, 0, none⟩) (xs.length + 1) cap, .int .i64 m] 121 (0, 0)))
    (hr : w.ownsRow base 3 1 (.slice (some ⟨g, 0, none⟩) (xs.length + 1) cap) (xs.length + 1) (ints xs ++ [.int .i64 x])) (hlen : xs.length < 1000000) :
    Calls Tryz.prog 30 #[.pointer (some ⟨b, 0, none⟩)] w fun e w' => e = .returned (.tuple #[.int .i64 x, .bool true]) ∧
      w' = (w.setCell ⟨g, xs.length, none⟩ (.int .i64 0)).setCell ⟨b, 0, none⟩ (.slice (some ⟨g, 0, none⟩) xs.length cap) := by
  have hne : b ≠ g := fun e => absurd (by simp [Value.ownBlock, e]) (row_ne hh hr)
  have hc0 := heap_cell hh 0
  simp only [List.getElem?_toArray, List.getElem?_cons_zero] at hc0
  have hf0 := heap_frozen hh 0
  have hcx : w.cell? ⟨g, xs.length, none⟩ = some (.int .i64 x) := by
    rw [hr.cellAt _ (by omega)]; simp
  have hfx := hr.frozenAt xs.length
  have hcap : xs.length + 1 ≤ cap := by
    rcases hr.2 with ⟨h2, _⟩ | ⟨g', cap', cur, hv, _, _, hn, _⟩
    · simp at h2
    · simp only [Value.slice.injEq, true_and] at hv; omega
  have hc0' : (w.setCell ⟨g, xs.length, none⟩ (.int .i64 0)).cell? ⟨b, 0, none⟩ = some (.slice (some ⟨g, 0, none⟩) (xs.length + 1) cap) := by
    rw [World.cell?_of_block (w := w) (Below.heap_setCell _ _ _ _ hne)]; exact hc0
  have hf0' : (w.setCell ⟨g, xs.length, none⟩ (.int .i64 0)).frozen? ⟨b, 0, none⟩ = false := by
    rw [World.frozen?_of_block (w := w) (Below.heap_setCell _ _ _ _ hne)]; exact hf0
  clear hh
  go_enter Tryz.func30, Tryz.ntmps30
  go_wp2_with fail
  refine (slen_any b _ (xs.length + 1) _ base _ hc0 hr).mono ?_
  rintro e w' ⟨rfl, rfl⟩
  go_wp2_with fail
  refine (slen_any b _ (xs.length + 1) _ base _ hc0 hr).mono ?_
  rintro e w' ⟨rfl, rfl⟩
  go_wp2
  go_ret2
  exact ⟨rfl, rfl⟩

theorem pop_any (b base : Nat) (m x : Int) (xs : List Int) (F : List Nat) (w : World) (hs : Stk w base b m (xs ++ [x]) F) (hlen : xs.length < 1000000) :
    Calls Tryz.prog 30 #[.pointer (some ⟨b, 0, none⟩)] w fun e w' => e = .returned (.tuple #[.int .i64 x, .bool true]) ∧ Stk w' base b m xs F ∧ Touch F w w' := by
  obtain ⟨v, hh, hb, hr, rfl⟩ := hs
  simp only [ints, List.length_append, List.length_cons, List.length_nil, Nat.zero_add, List.map_append, List.map_cons, List.map_nil] at hr
  obtain ⟨g, cap, rfl⟩ := ownsRow_succ hr
  refine (pop_core b base g cap m x xs w hh hr hlen).mono ?_
  rintro e w' ⟨rfl, rfl⟩
  have hne : b ≠ g := fun e => absurd (by simp [Value.ownBlock, e]) (row_ne hh hr)
  have hh1 : (w.setCell ⟨g, xs.length, none⟩ (.int .i64 0)).heap[b]? = some (.cells #[.slice (some ⟨g, 0, none⟩) (xs.length + 1) cap, .int .i64 m] 121 (0, 0)) := by
    rw [Below.heap_setCell _ _ _ _ hne]; exact hh
  refine ⟨rfl, ⟨.slice (some ⟨g, 0, none⟩) xs.length cap, ?_, hb, ?_, rfl⟩, (Touch.setCell _ _ _ (by simp [Value.ownBlock])).trans (Touch.setCell _ _ _ (by simp))⟩
  · rw [heap_set hh1]; rfl
  · exact ownsRow_setOther (ownsRow_popped (by simp) hr) (by simpa [Value.ownBlock] using hne) _

end Go.Proofs.YtcjblafohfiiaabGreat
