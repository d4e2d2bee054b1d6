/-
  WithAge, WithHeld, WithKind.
-/
import Derived.Test.YtoanmgnoonmkbaaDoorCTag
set_option linter.unusedVariables false
namespace Go.Proofs.YtoanmgnoonmkbaaDoor
open Go.RowKit

/-- A head that is told otherwise. -/
def trn (m k p r a t : Int) (h : Bool) : Int := if flt k p r a t = 0 then wrd k p r a t h else m

theorem trn_ok {m k p r a t : Int} {h : Bool} (hf : flt k p r a t = 0) : trn m k p r a t h = wrd k p r a t h := by unfold trn; rw [if_pos hf]
theorem trn_no {m k p r a t : Int} {h : Bool} (hf : ¬ flt k p r a t = 0) : trn m k p r a t h = m := by unfold trn; rw [if_neg hf]

set_option maxHeartbeats 400000 in
theorem age1_any (b c : Nat) (x : Int) (w : World) (s k p r a t : Int) (h : Bool) (hX : Box w b (.int .u64 s) (.int .i64 k) (.int .i64 p) (.int .i64 r) (.int .i64 a) (.int .i64 t) (.bool h)) (hc : w.cell? ⟨c, 0, none⟩ = some (.int .i64 x)) :
    Calls Tryd.prog 40 #[.pointer (some ⟨b, 0, none⟩), .pointer (some ⟨c, 0, none⟩)] w fun e w' => e = .returned (.tuple #[]) ∧ w' = w.setCell ⟨b, 4, none⟩ (.int .i64 x) := by
  obtain ⟨x0, x1, x2, x3, x4, x5, x6, f0, f1, f2, f3, f4, f5, f6⟩ := hX
  go_enter Tryd.func40, Tryd.ntmps40
  go_wp2
  go_returns
  exact ⟨rfl, rfl⟩

set_option maxHeartbeats 1000000 in
theorem changed_age_no (m : Int) (hm : Wd m) (h : ¬ IsHead m) (c : Nat) (w : World) (hL : Laid w) :
    Calls Tryd.prog 39 #[.int .u64 m, .func (.func 40) #[] #[.pointer (some ⟨c, 0, none⟩)]] w fun e w' => e = .returned (.int .u64 m) ∧ Below w.heap.size w w' := by
  have hu := unpack_no m hm h w hL
  clear h
  go_enter Tryd.func39, Tryd.ntmps39
  go_wp2_with fail
  refine hu.mono ?_
  rintro e w1 ⟨rfl, b1⟩
  have b2 := Below.alloc b1 b1.size (.cells (hcells 0 0 0 0 0 0 false) 25)
  go_wp2
  go_ret
  exact ⟨rfl, b2⟩

set_option maxHeartbeats 1000000 in
theorem changed_age_core (m k p r a t : Int) (h : Bool) (x : Int) (c : Nat) (w : World) (hL : Laid w) (hc : w.cell? ⟨c, 0, none⟩ = some (.int .i64 x))
    (hu : Calls Tryd.prog 9 #[.int .u64 m] w fun e w' => e = .returned (.tuple #[hv 0 k p r a t h, .bool true]) ∧ Below w.heap.size w w') :
    Calls Tryd.prog 39 #[.int .u64 m, .func (.func 40) #[] #[.pointer (some ⟨c, 0, none⟩)]] w fun e w' => e = .returned (.int .u64 (trn m k p r x t h)) ∧ Below w.heap.size w w' := by
  generalize hg : trn m k p r x t h = g
  go_enter Tryd.func39, Tryd.ntmps39
  go_wp2_with fail
  refine hu.mono ?_
  rintro e w1 ⟨rfl, b1⟩
  have hc1 := (b1.cell (World.block_lt_of_cell? _ _ hc)).trans hc
  have hL1 := hL.keep b1
  have hlt := World.block_lt_of_cell? _ _ hc1
  have hX := Box.new w1 25 (.int .u64 0) (.int .i64 k) (.int .i64 p) (.int .i64 r) (.int .i64 a) (.int .i64 t) (.bool h)
  have hc2 := ((Below.alloc (Below.refl _ _) (Nat.le_refl w1.heap.size) (.cells (hcells 0 k p r a t h) 25)).cell hlt).trans hc1
  have hcl := age1_any w1.heap.size c x _ 0 k p r a t h hX hc2
  rw [set_new] at hcl
  have b3 := Below.alloc b1 b1.size (.cells (hcells 0 k p r x t h) 25)
  have hL3 := hL1.alloc (.cells (hcells 0 k p r x t h) 25)
  clear hX hc2 hc hc1 hL hlt hu
  go_wp2_with fail
  refine hcl.mono ?_
  rintro e w' ⟨rfl, hw⟩
  obtain rfl : w' = w1.alloc (.cells (hcells 0 k p r x t h) 25) := hw
  clear hcl
  have hY := Box.new w1 25 (.int .u64 0) (.int .i64 k) (.int .i64 p) (.int .i64 r) (.int .i64 x) (.int .i64 t) (.bool h)
  have hylt := hY.lt
  go_upto_region 5 with fail
  have hfa := fault_any 0 k p r x t h _ hL3.k
  generalize (w1.alloc (.cells (hcells 0 k p r x t h) 25)) = w3 at hL3 b3 hY hylt hfa ⊢
  have hY0 := hY
  obtain ⟨y0, y1, y2, y3, y4, y5, y6, -, -, -, -, -, -, -⟩ := hY
  by_cases hf : flt k p r x t = 0
  · rw [trn_ok hf] at hg
    have hw := word_any 0 k p r x t h (May.of hf) _ (hL3.alloc (.cells (hcells 0 k p r x t h) 25)).b
    rw [hf] at hfa
    go_wp2_with fail
    clear y0 y1 y2 y3 y4 y5 y6
    refine hfa.mono ?_
    rintro e w' ⟨rfl, rfl⟩
    have hY4 := hY0.keep (Below.alloc (Below.refl _ _) (Nat.le_refl _) (.cells (hcells 0 k p r x t h) 25)) hylt
    have b4 := Below.alloc b3 b3.size (.cells (hcells 0 k p r x t h) 25)
    generalize (w3.alloc (.cells (hcells 0 k p r x t h) 25)) = w4 at hY4 b4 hw ⊢
    obtain ⟨y0, y1, y2, y3, y4, y5, y6, -, -, -, -, -, -, -⟩ := hY4
    go_wp2_with fail
    clear y0 y1 y2 y3 y4 y5 y6
    refine hw.mono ?_
    rintro e w5 ⟨rfl, b5⟩
    have b6 := b4.trans (b5.mono b4.size)
    clear b4 b5
    go_wp2
    go_ret
    exact ⟨rfl, b6⟩
  · rw [trn_no hf] at hg
    subst hg
    generalize flt k p r x t = f at hf hfa
    go_wp2_with fail
    clear y0 y1 y2 y3 y4 y5 y6
    refine hfa.mono ?_
    rintro e w' ⟨rfl, rfl⟩
    have b4 := Below.alloc b3 b3.size (.cells (hcells 0 k p r x t h) 25)
    generalize (w3.alloc (.cells (hcells 0 k p r x t h) 25)) = w4 at b4 ⊢
    go_wp2
    go_ret
    exact ⟨rfl, b4⟩

set_option maxHeartbeats 400000 in
theorem held1_any (b c : Nat) (x : Bool) (w : World) (s k p r a t : Int) (h : Bool) (hX : Box w b (.int .u64 s) (.int .i64 k) (.int .i64 p) (.int .i64 r) (.int .i64 a) (.int .i64 t) (.bool h)) (hc : w.cell? ⟨c, 0, none⟩ = some (.bool x)) :
    Calls Tryd.prog 42 #[.pointer (some ⟨b, 0, none⟩), .pointer (some ⟨c, 0, none⟩)] w fun e w' => e = .returned (.tuple #[]) ∧ w' = w.setCell ⟨b, 6, none⟩ (.bool x) := by
  obtain ⟨x0, x1, x2, x3, x4, x5, x6, f0, f1, f2, f3, f4, f5, f6⟩ := hX
  go_enter Tryd.func42, Tryd.ntmps42
  go_wp2
  go_returns
  exact ⟨rfl, rfl⟩

set_option maxHeartbeats 1000000 in
theorem changed_held_no (m : Int) (hm : Wd m) (h : ¬ IsHead m) (c : Nat) (w : World) (hL : Laid w) :
    Calls Tryd.prog 39 #[.int .u64 m, .func (.func 42) #[] #[.pointer (some ⟨c, 0, none⟩)]] w fun e w' => e = .returned (.int .u64 m) ∧ Below w.heap.size w w' := by
  have hu := unpack_no m hm h w hL
  clear h
  go_enter Tryd.func39, Tryd.ntmps39
  go_wp2_with fail
  refine hu.mono ?_
  rintro e w1 ⟨rfl, b1⟩
  have b2 := Below.alloc b1 b1.size (.cells (hcells 0 0 0 0 0 0 false) 25)
  go_wp2
  go_ret
  exact ⟨rfl, b2⟩

set_option maxHeartbeats 1000000 in
theorem changed_held_core (m k p r a t : Int) (h : Bool) (x : Bool) (c : Nat) (w : World) (hL : Laid w) (hc : w.cell? ⟨c, 0, none⟩ = some (.bool x))
    (hu : Calls Tryd.prog 9 #[.int .u64 m] w fun e w' => e = .returned (.tuple #[hv 0 k p r a t h, .bool true]) ∧ Below w.heap.size w w') :
    Calls Tryd.prog 39 #[.int .u64 m, .func (.func 42) #[] #[.pointer (some ⟨c, 0, none⟩)]] w fun e w' => e = .returned (.int .u64 (trn m k p r a t x)) ∧ Below w.heap.size w w' := by
  generalize hg : trn m k p r a t x = g
  go_enter Tryd.func39, Tryd.ntmps39
  go_wp2_with fail
  refine hu.mono ?_
  rintro e w1 ⟨rfl, b1⟩
  have hc1 := (b1.cell (World.block_lt_of_cell? _ _ hc)).trans hc
  have hL1 := hL.keep b1
  have hlt := World.block_lt_of_cell? _ _ hc1
  have hX := Box.new w1 25 (.int .u64 0) (.int .i64 k) (.int .i64 p) (.int .i64 r) (.int .i64 a) (.int .i64 t) (.bool h)
  have hc2 := ((Below.alloc (Below.refl _ _) (Nat.le_refl w1.heap.size) (.cells (hcells 0 k p r a t h) 25)).cell hlt).trans hc1
  have hcl := held1_any w1.heap.size c x _ 0 k p r a t h hX hc2
  rw [set_new] at hcl
  have b3 := Below.alloc b1 b1.size (.cells (hcells 0 k p r a t x) 25)
  have hL3 := hL1.alloc (.cells (hcells 0 k p r a t x) 25)
  clear hX hc2 hc hc1 hL hlt hu
  go_wp2_with fail
  refine hcl.mono ?_
  rintro e w' ⟨rfl, hw⟩
  obtain rfl : w' = w1.alloc (.cells (hcells 0 k p r a t x) 25) := hw
  clear hcl
  have hY := Box.new w1 25 (.int .u64 0) (.int .i64 k) (.int .i64 p) (.int .i64 r) (.int .i64 a) (.int .i64 t) (.bool x)
  have hylt := hY.lt
  go_upto_region 5 with fail
  have hfa := fault_any 0 k p r a t x _ hL3.k
  generalize (w1.alloc (.cells (hcells 0 k p r a t x) 25)) = w3 at hL3 b3 hY hylt hfa ⊢
  have hY0 := hY
  obtain ⟨y0, y1, y2, y3, y4, y5, y6, -, -, -, -, -, -, -⟩ := hY
  by_cases hf : flt k p r a t = 0
  · rw [trn_ok hf] at hg
    have hw := word_any 0 k p r a t x (May.of hf) _ (hL3.alloc (.cells (hcells 0 k p r a t x) 25)).b
    rw [hf] at hfa
    go_wp2_with fail
    clear y0 y1 y2 y3 y4 y5 y6
    refine hfa.mono ?_
    rintro e w' ⟨rfl, rfl⟩
    have hY4 := hY0.keep (Below.alloc (Below.refl _ _) (Nat.le_refl _) (.cells (hcells 0 k p r a t x) 25)) hylt
    have b4 := Below.alloc b3 b3.size (.cells (hcells 0 k p r a t x) 25)
    generalize (w3.alloc (.cells (hcells 0 k p r a t x) 25)) = w4 at hY4 b4 hw ⊢
    obtain ⟨y0, y1, y2, y3, y4, y5, y6, -, -, -, -, -, -, -⟩ := hY4
    go_wp2_with fail
    clear y0 y1 y2 y3 y4 y5 y6
    refine hw.mono ?_
    rintro e w5 ⟨rfl, b5⟩
    have b6 := b4.trans (b5.mono b4.size)
    clear b4 b5
    go_wp2
    go_ret
    exact ⟨rfl, b6⟩
  · rw [trn_no hf] at hg
    subst hg
    generalize flt k p r a t = f at hf hfa
    go_wp2_with fail
    clear y0 y1 y2 y3 y4 y5 y6
    refine hfa.mono ?_
    rintro e w' ⟨rfl, rfl⟩
    have b4 := Below.alloc b3 b3.size (.cells (hcells 0 k p r a t x) 25)
    generalize (w3.alloc (.cells (hcells 0 k p r a t x) 25)) = w4 at b4 ⊢
    go_wp2
    go_ret
    exact ⟨rfl, b4⟩

set_option maxHeartbeats 400000 in
theorem kind1_any (b c : Nat) (x : Int) (w : World) (s k p r a t : Int) (h : Bool) (hX : Box w b (.int .u64 s) (.int .i64 k) (.int .i64 p) (.int .i64 r) (.int .i64 a) (.int .i64 t) (.bool h)) (hc : w.cell? ⟨c, 0, none⟩ = some (.int .i64 x)) :
    Calls Tryd.prog 43 #[.pointer (some ⟨b, 0, none⟩), .pointer (some ⟨c, 0, none⟩)] w fun e w' => e = .returned (.tuple #[]) ∧ w' = w.setCell ⟨b, 1, none⟩ (.int .i64 x) := by
  obtain ⟨x0, x1, x2, x3, x4, x5, x6, f0, f1, f2, f3, f4, f5, f6⟩ := hX
  go_enter Tryd.func43, Tryd.ntmps43
  go_wp2
  go_returns
  exact ⟨rfl, rfl⟩

set_option maxHeartbeats 1000000 in
theorem changed_kind_no (m : Int) (hm : Wd m) (h : ¬ IsHead m) (c : Nat) (w : World) (hL : Laid w) :
    Calls Tryd.prog 39 #[.int .u64 m, .func (.func 43) #[] #[.pointer (some ⟨c, 0, none⟩)]] w fun e w' => e = .returned (.int .u64 m) ∧ Below w.heap.size w w' := by
  have hu := unpack_no m hm h w hL
  clear h
  go_enter Tryd.func39, Tryd.ntmps39
  go_wp2_with fail
  refine hu.mono ?_
  rintro e w1 ⟨rfl, b1⟩
  have b2 := Below.alloc b1 b1.size (.cells (hcells 0 0 0 0 0 0 false) 25)
  go_wp2
  go_ret
  exact ⟨rfl, b2⟩

set_option maxHeartbeats 1000000 in
theorem changed_kind_core (m k p r a t : Int) (h : Bool) (x : Int) (c : Nat) (w : World) (hL : Laid w) (hc : w.cell? ⟨c, 0, none⟩ = some (.int .i64 x))
    (hu : Calls Tryd.prog 9 #[.int .u64 m] w fun e w' => e = .returned (.tuple #[hv 0 k p r a t h, .bool true]) ∧ Below w.heap.size w w') :
    Calls Tryd.prog 39 #[.int .u64 m, .func (.func 43) #[] #[.pointer (some ⟨c, 0, none⟩)]] w fun e w' => e = .returned (.int .u64 (trn m x p r a t h)) ∧ Below w.heap.size w w' := by
  generalize hg : trn m x p r a t h = g
  go_enter Tryd.func39, Tryd.ntmps39
  go_wp2_with fail
  refine hu.mono ?_
  rintro e w1 ⟨rfl, b1⟩
  have hc1 := (b1.cell (World.block_lt_of_cell? _ _ hc)).trans hc
  have hL1 := hL.keep b1
  have hlt := World.block_lt_of_cell? _ _ hc1
  have hX := Box.new w1 25 (.int .u64 0) (.int .i64 k) (.int .i64 p) (.int .i64 r) (.int .i64 a) (.int .i64 t) (.bool h)
  have hc2 := ((Below.alloc (Below.refl _ _) (Nat.le_refl w1.heap.size) (.cells (hcells 0 k p r a t h) 25)).cell hlt).trans hc1
  have hcl := kind1_any w1.heap.size c x _ 0 k p r a t h hX hc2
  rw [set_new] at hcl
  have b3 := Below.alloc b1 b1.size (.cells (hcells 0 x p r a t h) 25)
  have hL3 := hL1.alloc (.cells (hcells 0 x p r a t h) 25)
  clear hX hc2 hc hc1 hL hlt hu
  go_wp2_with fail
  refine hcl.mono ?_
  rintro e w' ⟨rfl, hw⟩
  obtain rfl : w' = w1.alloc (.cells (hcells 0 x p r a t h) 25) := hw
  clear hcl
  have hY := Box.new w1 25 (.int .u64 0) (.int .i64 x) (.int .i64 p) (.int .i64 r) (.int .i64 a) (.int .i64 t) (.bool h)
  have hylt := hY.lt
  go_upto_region 5 with fail
  have hfa := fault_any 0 x p r a t h _ hL3.k
  generalize (w1.alloc (.cells (hcells 0 x p r a t h) 25)) = w3 at hL3 b3 hY hylt hfa ⊢
  have hY0 := hY
  obtain ⟨y0, y1, y2, y3, y4, y5, y6, -, -, -, -, -, -, -⟩ := hY
  by_cases hf : flt x p r a t = 0
  · rw [trn_ok hf] at hg
    have hw := word_any 0 x p r a t h (May.of hf) _ (hL3.alloc (.cells (hcells 0 x p r a t h) 25)).b
    rw [hf] at hfa
    go_wp2_with fail
    clear y0 y1 y2 y3 y4 y5 y6
    refine hfa.mono ?_
    rintro e w' ⟨rfl, rfl⟩
    have hY4 := hY0.keep (Below.alloc (Below.refl _ _) (Nat.le_refl _) (.cells (hcells 0 x p r a t h) 25)) hylt
    have b4 := Below.alloc b3 b3.size (.cells (hcells 0 x p r a t h) 25)
    generalize (w3.alloc (.cells (hcells 0 x p r a t h) 25)) = w4 at hY4 b4 hw ⊢
    obtain ⟨y0, y1, y2, y3, y4, y5, y6, -, -, -, -, -, -, -⟩ := hY4
    go_wp2_with fail
    clear y0 y1 y2 y3 y4 y5 y6
    refine hw.mono ?_
    rintro e w5 ⟨rfl, b5⟩
    have b6 := b4.trans (b5.mono b4.size)
    clear b4 b5
    go_wp2
    go_ret
    exact ⟨rfl, b6⟩
  · rw [trn_no hf] at hg
    subst hg
    generalize flt x p r a t = f at hf hfa
    go_wp2_with fail
    clear y0 y1 y2 y3 y4 y5 y6
    refine hfa.mono ?_
    rintro e w' ⟨rfl, rfl⟩
    have b4 := Below.alloc b3 b3.size (.cells (hcells 0 x p r a t h) 25)
    generalize (w3.alloc (.cells (hcells 0 x p r a t h) 25)) = w4 at b4 ⊢
    go_wp2
    go_ret
    exact ⟨rfl, b4⟩

/-- P2.8. -/
def wage (m : Int) (x : Int) : Int := if IsHead m then trn m (kdOf m) (ptOf m) (rwOf m) x (stOf m) (hdOf m) else m

set_option maxHeartbeats 1000000 in
theorem withage_any (m : Int) (hm : Wd m) (x : Int) (w : World) (hL : Laid w) :
    Calls Tryd.prog 23 #[.int .u64 m, .int .i64 x] w fun e w' => e = .returned (.int .u64 (wage m x)) ∧ Below w.heap.size w w' := by
  have hL1 := hL.alloc (.cells #[.int .i64 x] 3)
  have b1 := Below.alloc (Below.refl w.heap.size w) (Nat.le_refl _) (.cells #[.int .i64 x] 3)
  have hcell : (w.alloc (.cells #[.int .i64 x] 3)).cell? ⟨w.heap.size, 0, none⟩ = some (.int .i64 x) := cell_of_row _ _ 0 _ _ _ (heap_alloc_new w (.cells #[.int .i64 x] 3 (0, 0)))
  have hch : Calls Tryd.prog 39 #[.int .u64 m, .func (.func 40) #[] #[.pointer (some ⟨w.heap.size, 0, none⟩)]] (w.alloc (.cells #[.int .i64 x] 3)) fun e w' => e = .returned (.int .u64 (wage m x)) ∧ Below (w.alloc (.cells #[.int .i64 x] 3)).heap.size (w.alloc (.cells #[.int .i64 x] 3)) w' := by
    by_cases h : IsHead m
    · have e : wage m x = trn m (kdOf m) (ptOf m) (rwOf m) x (stOf m) (hdOf m) := by unfold wage; rw [if_pos h]
      rw [e]
      exact changed_age_core m _ _ _ _ _ _ x w.heap.size _ hL1 hcell (unpack_yes m hm h _ hL1)
    · have e : wage m x = m := by unfold wage; rw [if_neg h]
      rw [e]
      exact changed_age_no m hm h w.heap.size _ hL1
  generalize wage m x = g at hch ⊢
  go_enter Tryd.func23, Tryd.ntmps23
  go_wp2_with fail
  refine hch.mono ?_
  rintro e w2 ⟨rfl, b2⟩
  have b3 := b1.trans (b2.mono b1.size)
  clear hch b2 b1 hcell hL1
  go_wp2
  go_ret
  exact ⟨rfl, b3⟩

/-- P2.8. -/
def wheld (m : Int) (x : Bool) : Int := if IsHead m then trn m (kdOf m) (ptOf m) (rwOf m) (agOf m) (stOf m) x else m

set_option maxHeartbeats 1000000 in
theorem withheld_any (m : Int) (hm : Wd m) (x : Bool) (w : World) (hL : Laid w) :
    Calls Tryd.prog 25 #[.int .u64 m, .bool x] w fun e w' => e = .returned (.int .u64 (wheld m x)) ∧ Below w.heap.size w w' := by
  have hL1 := hL.alloc (.cells #[.bool x] 4)
  have b1 := Below.alloc (Below.refl w.heap.size w) (Nat.le_refl _) (.cells #[.bool x] 4)
  have hcell : (w.alloc (.cells #[.bool x] 4)).cell? ⟨w.heap.size, 0, none⟩ = some (.bool x) := cell_of_row _ _ 0 _ _ _ (heap_alloc_new w (.cells #[.bool x] 4 (0, 0)))
  have hch : Calls Tryd.prog 39 #[.int .u64 m, .func (.func 42) #[] #[.pointer (some ⟨w.heap.size, 0, none⟩)]] (w.alloc (.cells #[.bool x] 4)) fun e w' => e = .returned (.int .u64 (wheld m x)) ∧ Below (w.alloc (.cells #[.bool x] 4)).heap.size (w.alloc (.cells #[.bool x] 4)) w' := by
    by_cases h : IsHead m
    · have e : wheld m x = trn m (kdOf m) (ptOf m) (rwOf m) (agOf m) (stOf m) x := by unfold wheld; rw [if_pos h]
      rw [e]
      exact changed_held_core m _ _ _ _ _ _ x w.heap.size _ hL1 hcell (unpack_yes m hm h _ hL1)
    · have e : wheld m x = m := by unfold wheld; rw [if_neg h]
      rw [e]
      exact changed_held_no m hm h w.heap.size _ hL1
  generalize wheld m x = g at hch ⊢
  go_enter Tryd.func25, Tryd.ntmps25
  go_wp2_with fail
  refine hch.mono ?_
  rintro e w2 ⟨rfl, b2⟩
  have b3 := b1.trans (b2.mono b1.size)
  clear hch b2 b1 hcell hL1
  go_wp2
  go_ret
  exact ⟨rfl, b3⟩

/-- P2.8. -/
def wkind (m : Int) (x : Int) : Int := if IsHead m then trn m x (ptOf m) (rwOf m) (agOf m) (stOf m) (hdOf m) else m

set_option maxHeartbeats 1000000 in
theorem withkind_any (m : Int) (hm : Wd m) (x : Int) (w : World) (hL : Laid w) :
    Calls Tryd.prog 27 #[.int .u64 m, .int .i64 x] w fun e w' => e = .returned (.int .u64 (wkind m x)) ∧ Below w.heap.size w w' := by
  have hL1 := hL.alloc (.cells #[.int .i64 x] 3)
  have b1 := Below.alloc (Below.refl w.heap.size w) (Nat.le_refl _) (.cells #[.int .i64 x] 3)
  have hcell : (w.alloc (.cells #[.int .i64 x] 3)).cell? ⟨w.heap.size, 0, none⟩ = some (.int .i64 x) := cell_of_row _ _ 0 _ _ _ (heap_alloc_new w (.cells #[.int .i64 x] 3 (0, 0)))
  have hch : Calls Tryd.prog 39 #[.int .u64 m, .func (.func 43) #[] #[.pointer (some ⟨w.heap.size, 0, none⟩)]] (w.alloc (.cells #[.int .i64 x] 3)) fun e w' => e = .returned (.int .u64 (wkind m x)) ∧ Below (w.alloc (.cells #[.int .i64 x] 3)).heap.size (w.alloc (.cells #[.int .i64 x] 3)) w' := by
    by_cases h : IsHead m
    · have e : wkind m x = trn m x (ptOf m) (rwOf m) (agOf m) (stOf m) (hdOf m) := by unfold wkind; rw [if_pos h]
      rw [e]
      exact changed_kind_core m _ _ _ _ _ _ x w.heap.size _ hL1 hcell (unpack_yes m hm h _ hL1)
    · have e : wkind m x = m := by unfold wkind; rw [if_neg h]
      rw [e]
      exact changed_kind_no m hm h w.heap.size _ hL1
  generalize wkind m x = g at hch ⊢
  go_enter Tryd.func27, Tryd.ntmps27
  go_wp2_with fail
  refine hch.mono ?_
  rintro e w2 ⟨rfl, b2⟩
  have b3 := b1.trans (b2.mono b1.size)
  clear hch b2 b1 hcell hL1
  go_wp2
  go_ret
  exact ⟨rfl, b3⟩

end Go.Proofs.YtoanmgnoonmkbaaDoor
