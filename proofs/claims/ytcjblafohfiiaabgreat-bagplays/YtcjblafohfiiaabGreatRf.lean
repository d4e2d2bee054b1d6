/-
  The document's own answer: Numbers.
-/
import Derived.Test.YtcjblafohfiiaabGreatSt
set_option linter.unusedVariables false
namespace Go.Proofs.YtcjblafohfiiaabGreat
open Go.RowKit

/-- The document's list in block b. -/
def Num (W : World) (base b : Nat) (most : Int) (xs : List Int) (F : List Nat) : Prop :=
  ∃ v : Value, W.heap[b]? = some (.cells #[v, .int .i64 most] 77 (0, 0)) ∧ base ≤ b ∧ W.ownsRow base 3 1 v xs.length (ints xs) ∧ F = b :: v.ownBlock.toList

theorem Num.mem {W : World} {base b : Nat} {most : Int} {xs : List Int} {F : List Nat} (h : Num W base b most xs F) : ∀ k, k ∈ F → base ≤ k ∧ k < W.heap.size := by
  obtain ⟨v, hh, hb, hr, rfl⟩ := h
  intro k hk
  rcases List.mem_cons.1 hk with rfl | hk
  · exact ⟨hb, heap_lt hh⟩
  · exact hr.lt k (by simpa using hk)

theorem Num.keep {W W' : World} {base b : Nat} {most : Int} {xs : List Int} {F G : List Nat} (h : Num W base b most xs F) (ht : Touch G W W') (ha : Apart F G) : Num W' base b most xs F := by
  obtain ⟨v, hh, hb, hr, rfl⟩ := h
  refine ⟨v, ?_, hb, row_keep2 hr ht (fun k hk => ha k (by simp [hk])), rfl⟩
  rw [ht.block b (heap_lt hh) (ha b (by simp))]; exact hh

theorem Num.base {W : World} {base base' b : Nat} {most : Int} {xs : List Int} {F : List Nat} (h : Num W base b most xs F) (hle : base' ≤ base) : Num W base' b most xs F := by
  obtain ⟨v, hh, hb, hr, rfl⟩ := h
  exact ⟨v, hh, by omega, row_base hr hle, rfl⟩

set_option maxHeartbeats 1000000 in
theorem rfull_any (b n : Nat) (m : Int) (base : Nat) (v : Value) (xs : List Value) (w : World) (h0 : w.cell? ⟨b, 0, none⟩ = some v) (h1 : w.cell? ⟨b, 1, none⟩ = some (.int .i64 m)) (hr : w.ownsRow base 3 1 v n xs) :
    Calls Tryz.prog 75 #[.pointer (some ⟨b, 0, none⟩)] w fun e w' => e = .returned (.bool (decide (0 < m ∧ m ≤ (n : Int)))) ∧ ∃ nq, w' = w.drewN nq := by
  by_cases hm : 0 < m
  · have hfin : ∀ ln : Bool, ln = decide (m ≤ (n : Int)) → ln = decide (0 < m ∧ m ≤ (n : Int)) := fun ln e => by rw [e]; simp [hm]
    rcases hr.2 with ⟨rfl, rfl⟩ | ⟨g, cap, cur, rfl, _⟩
    · clear hr
      go_enter Tryz.func75, Tryz.ntmps75
      go_wp2
      go_quiet (fail)
      go_wp2
      go_ret
      exact ⟨by rw [← hfin _ rfl]; rfl, nq, rfl⟩
    · clear hr
      go_enter Tryz.func75, Tryz.ntmps75
      go_wp2
      go_quiet (fail)
      go_wp2
      go_ret
      exact ⟨by rw [← hfin _ rfl]; rfl, nq, rfl⟩
  · have hd : decide (0 < m) = false := by simpa using hm
    have hfin : decide (0 < m ∧ m ≤ (n : Int)) = false := by simp; omega
    rw [hfin]
    clear hr hfin hm
    go_enter Tryz.func75, Tryz.ntmps75
    go_wp2
    go_quiet (fail)
    go_wp2
    go_ret
    exact ⟨rfl, nq, rfl⟩

theorem row_cell {w : World} {base n e : Nat} {v : Value} {zs : List Int} (h : w.ownsRow base e 1 v n (ints zs)) (j : Nat) (x : Int) (hj : zs[j]? = some x) : ∃ g cap, v = .slice (some ⟨g, 0, none⟩) n cap ∧ w.cell? ⟨g, j, none⟩ = some (.int .i64 x) := by
  have hjl := (List.getElem?_eq_some_iff.1 hj).1
  have hl : zs.length = n := by simpa using h.1
  rcases h.2 with ⟨rfl, h0⟩ | ⟨g, cap, cur, rfl, _⟩
  · omega
  · refine ⟨g, cap, rfl, ?_⟩
    rw [h.cellAt _ (by omega)]; simp [hj]

theorem row_slice {w : World} {base n e : Nat} {v : Value} {xs : List Value} (h : w.ownsRow base e 1 v n xs) : ∃ a cap, v = .slice a n cap := by
  rcases h.2 with ⟨rfl, rfl⟩ | ⟨g, cap, cur, rfl, _⟩
  · exact ⟨_, _, rfl⟩
  · exact ⟨_, _, rfl⟩

set_option maxHeartbeats 2000000 in
theorem rpush_core (b base : Nat) (m x : Int) (v : Value) (xs : List Int) (w : World) (hh : w.heap[b]? = some (.cells #[v, .int .i64 m] 77 (0, 0))) (hr : w.ownsRow base 3 1 v xs.length (ints xs)) (hlen : xs.length < 1000000) (hroom : ¬ (0 < m ∧ m ≤ (xs.length : Int))) :
    Calls Tryz.prog 29 #[.pointer (some ⟨b, 0, none⟩), .int .i64 x] w fun e w' => e = .returned (.int .i64 0) ∧
      ∃ v' w1, w' = w1.setCell ⟨b, 0, none⟩ v' ∧ w1.ownsRow w.heap.size 3 1 v' (xs.length + 1) (ints (x :: xs)) ∧ Touch [] w w1 := by
  have hc0 := heap_cell hh 0
  have hc1 := heap_cell hh 1
  simp only [List.getElem?_toArray, List.getElem?_cons_zero, List.getElem?_cons_succ] at hc0 hc1
  have hbl := heap_lt hh
  have Hh : Hid (w.heap[b]? = some (.cells #[v, .int .i64 m] 77 (0, 0))) := hh
  clear hh
  have hd : decide (0 < m ∧ m ≤ (xs.length : Int)) = false := by simpa using hroom
  have hfu := rfull_any b xs.length m base v (ints xs) w hc0 hc1 hr
  rw [hd] at hfu
  obtain ⟨i0, hi, hz0, hz1, hz2⟩ := info_parts Tryz.infoInt
  obtain ⟨va, vc, rfl⟩ := row_slice hr
  go_enter Tryz.func29, Tryz.ntmps29
  go_wp2_with fail
  refine hfu.mono ?_
  rintro e w' ⟨rfl, nq, rfl⟩
  clear hfu hd hroom
  go_wp2
  go_loopw [5, 6] (fun l i wr => ∃ k : Nat, k ≤ xs.length ∧ i = .int .i64 k ∧ wr.ownsRow w.heap.size 3 1 l (k + 1) (ints (x :: xs.take k)) ∧ Touch [] w wr) (fun _ i _ => xs.length - (intOf i).toNat)
  case atStart => exact ⟨0, Nat.zero_le _, rfl, World.ownsRow_lit (w.drewN nq) #[.int .i64 x] 1 (Nat.le_refl _) (by decide) rfl, (Touch.drewN _ _ _).trans (Touch.alloc _ _ _)⟩
  case round =>
    obtain ⟨k, hk, rfl, hrow, hT⟩ := hrel
    obtain ⟨g', cap', hl⟩ := ownsRow_succ hrow
    subst hl
    have hhr : wr.heap[b]? = some (.cells #[.slice va xs.length vc, .int .i64 m] 77 (0, 0)) := (hT.block b hbl (by simp)).trans Hh.out
    have c0 := heap_cell hhr 0
    have f0 := heap_frozen hhr 0
    simp only [List.getElem?_toArray, List.getElem?_cons_zero] at c0
    clear hhr
    by_cases hlt : k < xs.length
    · obtain ⟨y, hy⟩ : ∃ y, xs[k]? = some y := ⟨_, List.getElem?_eq_getElem hlt⟩
      obtain ⟨g, cap, e1, hcy⟩ := row_cell hr k y hy
      simp only [Value.slice.injEq, true_and] at e1
      obtain ⟨rfl, rfl⟩ := e1
      have hcy' : wr.cell? ⟨g, k, none⟩ = some (.int .i64 y) := (World.cell?_of_block (w := w) (hT.block g (World.block_lt_of_cell? _ _ hcy) (by simp))).trans hcy
      have hki : (k : Int) < xs.length := by omega
      generalize hys : ints (x :: xs.take k) = ys at hrow
      have Hy : Hid (ys ++ [.int .i64 y] = ints (x :: xs.take (k + 1))) := by
        show _ = _
        rw [← hys, List.take_add_one, hy]; simp
      clear hys
      clear hy hcy
      go_wp2_with (at_builtin; refine wpList_append_own_at _ rfl _ _ 68 rfl w.heap.size 3 i0 (.int .i64 0) 1 8 Tryz.underlying68 hi hz0 hz1 hz2 rfl (by decide) _ _ _ rfl (hrow.alloc _) ⟨wr.heap.size, 0, none⟩ 1 1 [.int .i64 y] rfl rfl (cell_one_new _ _ _) (by simp [Value.oneCell']) (by simp [maxLen]; omega) (by omega) (by have := hT.size; simp; omega) ?_)
      intro v' w1 hown' hgrow _ hat
      rw [Hy.out] at hown'
      have hT1 : Touch [] w w1 := hT.then ((Touch.alloc [g'] wr (.cells #[.int .i64 y] 3)).trans (Touch.grown hgrow (fun j hj => by simp [Value.ownBlock] at hj; simp [hj]))) (fun j hj => .inr (by
        simp at hj; subst hj
        exact (hrow.lt _ rfl).1))
      go_wp2
      go_roundw
      case rel => exact ⟨k + 1, hlt, by go_num, hown', hT1⟩
      case measure => simp [intOf]; omega
    · obtain rfl : k = xs.length := by omega
      rw [List.take_length] at hrow
      go_wp2
      go_ret
      exact ⟨rfl, _, wr, rfl, hrow, hT⟩

theorem rpush_any (b base : Nat) (m x : Int) (xs : List Int) (F : List Nat) (w : World) (hs : Num w base b m xs F) (hbase : base ≤ w.heap.size) (hlen : xs.length < 1000000) (hroom : ¬ (0 < m ∧ m ≤ (xs.length : Int))) :
    Calls Tryz.prog 29 #[.pointer (some ⟨b, 0, none⟩), .int .i64 x] w fun e w' => e = .returned (.int .i64 0) ∧ ∃ F', Num w' base b m (x :: xs) F' ∧ Touch F w w' ∧ Newer w.heap.size F F' := by
  obtain ⟨v, hh, hb, hr, rfl⟩ := hs
  refine (rpush_core b base m x v xs w hh hr hlen hroom).mono ?_
  rintro e w' ⟨rfl, v', w1, rfl, hrow, hT⟩
  have hh1 : w1.heap[b]? = some (.cells #[v, .int .i64 m] 77 (0, 0)) := (hT.block b (heap_lt hh) (by simp)).trans hh
  refine ⟨rfl, b :: v'.ownBlock.toList, ⟨v', ?_, hb, ?_, rfl⟩, (hT.mono (fun k hk => by simp at hk)).trans (Touch.setCell _ _ _ (by simp)), ?_⟩
  · rw [heap_set hh1]; rfl
  · exact ownsRow_setOther (row_base hrow hbase) (row_ne hh1 hrow) _
  · intro k hk
    rcases List.mem_cons.1 hk with rfl | hk
    · exact .inl (by simp)
    · exact .inr (hrow.lt k (by simpa using hk)).1

set_option maxHeartbeats 1000000 in
theorem rpush_full (b base : Nat) (m x : Int) (xs : List Int) (F : List Nat) (w : World) (hs : Num w base b m xs F) (hfull : 0 < m ∧ m ≤ (xs.length : Int)) :
    Calls Tryz.prog 29 #[.pointer (some ⟨b, 0, none⟩), .int .i64 x] w fun e w' => e = .returned (.int .i64 11) ∧ ∃ nq, w' = w.drewN nq := by
  obtain ⟨v, hh, hb, hr, rfl⟩ := hs
  have hc0 := heap_cell hh 0
  have hc1 := heap_cell hh 1
  simp only [List.getElem?_toArray, List.getElem?_cons_zero, List.getElem?_cons_succ] at hc0 hc1
  have hd : decide (0 < m ∧ m ≤ (xs.length : Int)) = true := by simpa using hfull
  have hfu := rfull_any b xs.length m base v (ints xs) w hc0 hc1 hr
  rw [hd] at hfu
  clear hh
  go_enter Tryz.func29, Tryz.ntmps29
  go_wp2_with fail
  refine hfu.mono ?_
  rintro e w' ⟨rfl, nq, rfl⟩
  go_wp2
  go_ret
  exact ⟨rfl, nq, rfl⟩

set_option maxHeartbeats 1000000 in
theorem rfirst_none (b base : Nat) (m : Int) (F : List Nat) (w : World) (hs : Num w base b m [] F) :
    Calls Tryz.prog 31 #[.pointer (some ⟨b, 0, none⟩)] w fun e w' => e = .returned (.tuple #[.int .i64 0, .bool false]) ∧ w = w' := by
  obtain ⟨v, hh, hb, hr, rfl⟩ := hs
  have hc0 := heap_cell hh 0
  simp only [List.getElem?_toArray, List.getElem?_cons_zero] at hc0
  obtain ⟨va, vc, rfl⟩ := row_slice hr
  clear hh
  go_enter Tryz.func31, Tryz.ntmps31
  go_wp2
  go_ret2
  exact ⟨rfl, rfl⟩

set_option maxHeartbeats 2000000 in
theorem rfirst_core (b base : Nat) (m x : Int) (v : Value) (xs : List Int) (w : World) (hh : w.heap[b]? = some (.cells #[v, .int .i64 m] 77 (0, 0))) (hr : w.ownsRow base 3 1 v (x :: xs).length (ints (x :: xs))) (hlen : xs.length < 1000000) :
    Calls Tryz.prog 31 #[.pointer (some ⟨b, 0, none⟩)] w fun e w' => e = .returned (.tuple #[.int .i64 x, .bool true]) ∧
      ∃ v' w1, w' = w1.setCell ⟨b, 0, none⟩ v' ∧ w1.ownsRow w.heap.size 3 1 v' xs.length (ints xs) ∧ Touch [] w w1 := by
  have hc0 := heap_cell hh 0
  simp only [List.getElem?_toArray, List.getElem?_cons_zero] at hc0
  have hbl := heap_lt hh
  have Hh : Hid (w.heap[b]? = some (.cells #[v, .int .i64 m] 77 (0, 0))) := hh
  clear hh
  obtain ⟨i0, hi, hz0, hz1, hz2⟩ := info_parts Tryz.infoInt
  obtain ⟨g, cap, rfl, hcx⟩ := row_cell hr 0 x rfl
  have Hr : Hid (∀ (j : Nat) y, xs[j]? = some y → w.cell? ⟨g, j + 1, none⟩ = some (.int .i64 y)) := fun j y hj => by
    obtain ⟨g2, cap2, e2, h2⟩ := row_cell hr (j + 1) y (by simpa using hj)
    simp only [Value.slice.injEq, Option.some.injEq, Addr.mk.injEq, true_and, and_true] at e2
    obtain ⟨rfl, rfl⟩ := e2
    exact h2
  clear hr
  have hgl : g < w.heap.size := World.block_lt_of_cell? _ _ hcx
  simp only [List.length_cons] at Hh hc0 ⊢
  have hn0 : ((xs.length : Int) + 1 == 0) = false := by simp; omega
  go_enter Tryz.func31, Tryz.ntmps31
  go_wp2
  go_loopw [5, 6] (fun l i wr => ∃ k : Nat, k ≤ xs.length ∧ i = .int .i64 ((k : Int) + 1) ∧ wr.ownsRow w.heap.size 3 1 l k (ints (xs.take k)) ∧ Touch [] w wr) (fun _ i _ => xs.length + 1 - (intOf i).toNat)
  case atStart => exact ⟨0, Nat.zero_le _, rfl, World.ownsRow_nil _ _ _ _, Touch.refl _ _⟩
  case round =>
    obtain ⟨k, hk, rfl, hrow, hT⟩ := hrel
    obtain ⟨la, lc, hl⟩ := row_slice hrow
    subst hl
    have hhr : wr.heap[b]? = some (.cells #[.slice (some ⟨g, 0, none⟩) (xs.length + 1) cap, .int .i64 m] 77 (0, 0)) := (hT.block b hbl (by simp)).trans Hh.out
    have c0 := heap_cell hhr 0
    have f0 := heap_frozen hhr 0
    simp only [List.getElem?_toArray, List.getElem?_cons_zero] at c0
    clear hhr
    by_cases hlt : k < xs.length
    · obtain ⟨y, hy⟩ : ∃ y, xs[k]? = some y := ⟨_, List.getElem?_eq_getElem hlt⟩
      have hcy' : wr.cell? ⟨g, k + 1, none⟩ = some (.int .i64 y) := (World.cell?_of_block (w := w) (hT.block g hgl (by simp))).trans (Hr.out k y hy)
      have hki : (k : Int) + 1 < (xs.length : Int) + 1 := by omega
      generalize hys : ints (xs.take k) = ys at hrow
      have Hy : Hid (ys ++ [.int .i64 y] = ints (xs.take (k + 1))) := by
        show _ = _
        rw [← hys, List.take_add_one, hy]; simp
      clear hys hy
      go_wp2_with (at_builtin; refine wpList_append_own_at _ rfl _ _ 68 rfl w.heap.size 3 i0 (.int .i64 0) 1 8 Tryz.underlying68 hi hz0 hz1 hz2 rfl (by decide) _ _ _ rfl (hrow.alloc _) ⟨wr.heap.size, 0, none⟩ 1 1 [.int .i64 y] rfl rfl (cell_one_new _ _ _) (by simp [Value.oneCell']) (by simp [maxLen]; omega) (by omega) (by have := hT.size; simp; omega) ?_)
      intro v' w1 hown' hgrow _ hat
      rw [Hy.out] at hown'
      have hT1 : Touch [] w w1 := hT.then ((Touch.alloc (Value.slice la k lc).ownBlock.toList wr (.cells #[.int .i64 y] 3)).trans (Touch.grown hgrow (fun j hj => by rw [hj]; simp))) (fun j hj => .inr ((hrow.lt j (by simpa using hj)).1))
      go_wp2
      go_roundw
      case rel => exact ⟨k + 1, hlt, by go_num, hown', hT1⟩
      case measure => simp [intOf]; omega
    · obtain rfl : k = xs.length := by omega
      rw [List.take_length] at hrow
      have hki : ¬ (xs.length : Int) + 1 < (xs.length : Int) + 1 := by omega
      go_wp2
      go_ret2
      exact ⟨rfl, _, wr, rfl, hrow, hT⟩

theorem rfirst_any (b base : Nat) (m x : Int) (xs : List Int) (F : List Nat) (w : World) (hs : Num w base b m (x :: xs) F) (hbase : base ≤ w.heap.size) (hlen : xs.length < 1000000) :
    Calls Tryz.prog 31 #[.pointer (some ⟨b, 0, none⟩)] w fun e w' => e = .returned (.tuple #[.int .i64 x, .bool true]) ∧ ∃ F', Num w' base b m xs F' ∧ Touch F w w' ∧ Newer w.heap.size F F' := by
  obtain ⟨v, hh, hb, hr, rfl⟩ := hs
  refine (rfirst_core b base m x v xs w hh hr hlen).mono ?_
  rintro e w' ⟨rfl, v', w1, rfl, hrow, hT⟩
  have hh1 : w1.heap[b]? = some (.cells #[v, .int .i64 m] 77 (0, 0)) := (hT.block b (heap_lt hh) (by simp)).trans hh
  refine ⟨rfl, b :: v'.ownBlock.toList, ⟨v', ?_, hb, ?_, rfl⟩, (hT.mono (fun k hk => by simp at hk)).trans (Touch.setCell _ _ _ (by simp)), ?_⟩
  · rw [heap_set hh1]; rfl
  · exact ownsRow_setOther (row_base hrow hbase) (row_ne hh1 hrow) _
  · intro k hk
    rcases List.mem_cons.1 hk with rfl | hk
    · exact .inl (by simp)
    · exact .inr (hrow.lt k (by simpa using hk)).1

end Go.Proofs.YtcjblafohfiiaabGreat
