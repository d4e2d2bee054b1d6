/-
  The table of words by number.
-/
import Derived.Test.YtcjblafohfiiaabGreatTN
import Derived.Test.YtcjblafohfiiaabGreatPi
import Derived.Test.YtcjblafohfiiaabGreatDel
set_option linter.unusedVariables false
namespace Go.Proofs.YtcjblafohfiiaabGreat
open Go.RowKit

abbrev u64s (vs : List Int) : List Value := vs.map (Value.int .u64)

theorem placeI_at (base p : Nat) (v : Value) (ks : List Int) (k : Int) (w : World) (hr : w.ownsRow base 3 1 v ks.length (ints ks)) (hs : Srt ltI ks) (hlen : ks.length < 1000000) (hp : CutAt ltI ks k p) (fd : Bool) (hfd : fd = decide (ks[p]? = some k)) :
    Calls Tryz.prog 87 #[v, .int .i64 k] w fun e w' => e = .returned (.tuple #[.int .i64 p, .bool fd]) ∧ w' = w := by
  refine (placeI_any base v ks k w hr hs hlen).mono ?_
  rintro e w' ⟨⟨q, hq, rfl⟩, rfl⟩
  obtain rfl := hp.uniq hq
  exact ⟨by rw [hfd], rfl⟩

/-- The table in block b, F its blocks. -/
def ITab (W : World) (base b : Nat) (ks : List Int) (vs : List Int) (F : List Nat) : Prop :=
  ∃ vk vv : Value, W.heap[b]? = some (.cells #[vk, vv] 127 (0, 0)) ∧ base ≤ b ∧ W.ownsRow base 3 1 vk ks.length (ints ks) ∧ W.ownsRow base 29 1 vv vs.length (u64s vs) ∧
    vs.length = ks.length ∧ Srt ltI ks ∧ F = b :: (vk.ownBlock.toList ++ vv.ownBlock.toList)

theorem ITab.mem {W : World} {base b : Nat} {ks : List Int} {vs : List Int} {F : List Nat} (h : ITab W base b ks vs F) : ∀ k, k ∈ F → base ≤ k ∧ k < W.heap.size := by
  obtain ⟨vk, vv, hh, hb, hk, hv, _, _, rfl⟩ := h
  intro k hm
  rcases List.mem_cons.1 hm with rfl | hm
  · exact ⟨hb, heap_lt hh⟩
  · rcases List.mem_append.1 hm with hm | hm
    · exact hk.lt k (by simpa using hm)
    · exact hv.lt k (by simpa using hm)

theorem ITab.keep {W W' : World} {base b : Nat} {ks : List Int} {vs : List Int} {F G : List Nat} (h : ITab W base b ks vs F) (ht : Touch G W W') (ha : Apart F G) : ITab W' base b ks vs F := by
  obtain ⟨vk, vv, hh, hb, hk, hv, h1, h2, rfl⟩ := h
  refine ⟨vk, vv, ?_, hb, row_keep hk ht (fun k hm => ha k (by simp [hm])), row_keep hv ht (fun k hm => ha k (by simp [hm])), h1, h2, rfl⟩
  rw [ht.block b (heap_lt hh) (ha b (by simp))]; exact hh

set_option maxHeartbeats 400000 in
theorem newinttab_any (w : World) :
    Calls Tryz.prog 15 #[] w fun e w' => e = .returned (.pointer (some ⟨w.heap.size, 0, none⟩)) ∧ ITab w' w.heap.size w.heap.size [] [] [w.heap.size] ∧ Touch [] w w' ∧ w'.heap.size = w.heap.size + 1 := by
  go_enter Tryz.func15, Tryz.ntmps15
  go_wp2
  go_ret
  exact ⟨rfl, ⟨.slice none 0 0, .slice none 0 0, heap_alloc_new w _, Nat.le_refl _, World.ownsRow_nil _ _ _ _, World.ownsRow_nil _ _ _ _, rfl, Srt.nil, rfl⟩, Touch.alloc _ _ _, by simp⟩

set_option maxHeartbeats 400000 in
theorem lenI_any (b base n : Nat) (vk : Value) (xs : List Value) (w : World) (hc : w.cell? ⟨b, 0, none⟩ = some vk) (hr : w.ownsRow base 3 1 vk n xs) :
    Calls Tryz.prog 62 #[.pointer (some ⟨b, 0, none⟩)] w fun e w' => e = .returned (.int .i64 n) ∧ w' = w := by
  rcases hr.2 with ⟨rfl, rfl⟩ | ⟨g, cap, cur, rfl, _⟩
  · clear hr
    go_enter Tryz.func62, Tryz.ntmps62
    go_wp2
    go_ret
    exact ⟨rfl, rfl⟩
  · clear hr
    go_enter Tryz.func62, Tryz.ntmps62
    go_wp2
    go_ret
    exact ⟨rfl, rfl⟩

/-- A key that is there. -/
theorem setI_old (b base p g cap : Nat) (v : Int) (k : Int) (vk : Value) (ks : List Int) (vs : List Int) (w : World) (hh : w.heap[b]? = some (.cells #[vk, .slice (some ⟨g, 0, none⟩) vs.length cap] 127 (0, 0)))
    (hk : w.ownsRow base 3 1 vk ks.length (ints ks)) (hv : w.ownsRow base 29 1 (.slice (some ⟨g, 0, none⟩) vs.length cap) vs.length (u64s vs)) (hl : vs.length = ks.length) (hs : Srt ltI ks) (hlen : ks.length < 1000000) (hp : CutAt ltI ks k p) (hf : ks[p]? = some k) :
    Calls Tryz.prog 54 #[.pointer (some ⟨b, 0, none⟩), .int .i64 k, .int .u64 v] w fun e w' => e = .returned (.bool false) ∧ w' = w.setCell ⟨g, p, none⟩ (.int .u64 v) := by
  have hpl : p < ks.length := (List.getElem?_eq_some_iff.1 hf).1
  have hc0 := heap_cell hh 0
  have hc1 := heap_cell hh 1
  simp only [List.getElem?_toArray, List.getElem?_cons_zero, List.getElem?_cons_succ] at hc0 hc1
  have hcx : w.cell? ⟨g, p, none⟩ = some (.int .u64 (vs[p]'(by omega))) := by
    rw [hv.cellAt _ (by omega)]; simp [hl, hpl]
  have hfx := hv.frozenAt p
  have hpi : (p : Int) < (vs.length : Int) := by omega
  have hpl' := placeI_at base p vk ks k w hk hs hlen hp true (by simp [hf])
  generalize vs[p]'(by omega) = old at hcx
  clear hh hf
  go_enter Tryz.func54, Tryz.ntmps54
  go_wp2_with fail
  refine hpl'.mono ?_
  rintro e w' ⟨rfl, rfl⟩
  go_wp2
  go_ret
  exact ⟨rfl, rfl⟩

set_option maxHeartbeats 1000000 in
/-- A key that isn't. -/
theorem setI_new (b base p : Nat) (v : Int) (k : Int) (vk vv : Value) (ks : List Int) (vs : List Int) (w : World) (hh : w.heap[b]? = some (.cells #[vk, vv] 127 (0, 0))) (hbase : base ≤ w.heap.size)
    (hk : w.ownsRow base 3 1 vk ks.length (ints ks)) (hv : w.ownsRow base 29 1 vv vs.length (u64s vs)) (hl : vs.length = ks.length) (hs : Srt ltI ks) (hlen : ks.length < 1000000) (hp : CutAt ltI ks k p) (hf : ks[p]? ≠ some k) :
    Calls Tryz.prog 54 #[.pointer (some ⟨b, 0, none⟩), .int .i64 k, .int .u64 v] w fun e w' => e = .returned (.bool true) ∧
      ∃ vk' vv' w1 w2, Inserted (w.alloc (.cells #[.int .i64 k] 3)) w1 base 3 vk vk' ks.length p (ints ks) (.int .i64 k) ∧
        Inserted ((w1.setCell ⟨b, 0, none⟩ vk').alloc (.cells #[.int .u64 v] 29)) w2 base 29 vv vv' vs.length p (u64s vs) (.int .u64 v) ∧ w' = w2.setCell ⟨b, 1, none⟩ vv' := by
  have hpl : p ≤ ks.length := hp.1
  have hc0 := heap_cell hh 0
  simp only [List.getElem?_toArray, List.getElem?_cons_zero] at hc0
  have hb := heap_lt hh
  have hnk : some b ≠ vk.ownBlock := row_ne hh hk
  have hnv : some b ≠ vv.ownBlock := row_ne hh hv
  have hpl' := placeI_at base p vk ks k w hk hs hlen hp false (by simp [hf])
  have hka : (w.alloc (.cells #[.int .i64 k] 3)).ownsRow base 3 1 vk ks.length (ints ks) := hk.alloc _
  have hva : (w.alloc (.cells #[.int .i64 k] 3)).ownsRow base 29 1 vv vs.length (u64s vs) := hv.alloc _
  have hi1 := insI_any base ks.length p w.heap.size vk (.int .i64 k) (ints ks) (w.alloc (.cells #[.int .i64 k] 3)) hka hpl (heap_alloc_new w _) (fun e => by have := hk.lt _ e.symm; omega) (by simp; omega) hlen (by simp [Value.oneCell']) rfl
  have Hh : Hid ((w.alloc (.cells #[.int .i64 k] 3)).heap[b]? = some (.cells #[vk, vv] 127 (0, 0))) := (Below.heap_alloc w _ b hb).trans hh
  have Hl : Hid (vs.length = ks.length) := hl
  clear hh hf hl
  go_enter Tryz.func54, Tryz.ntmps54
  go_wp2_with fail
  refine hpl'.mono ?_
  rintro e w' ⟨rfl, rfl⟩
  clear hpl'
  go_wp2_with fail
  refine hi1.mono ?_
  rintro e w1 ⟨vk', rfl, hins⟩
  clear hi1
  obtain ⟨g1, cap1, rfl⟩ := ownsRow_succ hins.1
  have hh1 : w1.heap[b]? = some (.cells #[vk, vv] 127 (0, 0)) := (hins.2.1.block b (by simp; omega) (by intro hm; exact hnk (by simpa using hm : vk.ownBlock = some b).symm)).trans Hh.out
  have c0 := heap_cell hh1 0
  have z0 := heap_frozen hh1 0
  have c1 := heap_cell hh1 1
  have z1 := heap_frozen hh1 1
  simp only [List.getElem?_toArray, List.getElem?_cons_zero, List.getElem?_cons_succ] at c0 c1
  have hv1 : w1.ownsRow base 29 1 vv vs.length (u64s vs) := row_keep hva hins.2.1 (fun q hq hm => rows_ne hva hka (by decide) q hq (by simpa using hm))
  have hv2 : (w1.setCell ⟨b, 0, none⟩ (.slice (some ⟨g1, 0, none⟩) (ks.length + 1) cap1)).ownsRow base 29 1 vv vs.length (u64s vs) := ownsRow_setOther hv1 hnv _
  have hs2 : (w1.setCell ⟨b, 0, none⟩ (.slice (some ⟨g1, 0, none⟩) (ks.length + 1) cap1)).heap.size = w1.heap.size := by simp [World.setCell]
  have hw1 : w'.heap.size + 1 ≤ w1.heap.size := by have := hins.2.1.size; simpa using this
  have hi2 := insV_any base vs.length p w1.heap.size vv (.int .u64 v) (u64s vs) ((w1.setCell ⟨b, 0, none⟩ (.slice (some ⟨g1, 0, none⟩) (ks.length + 1) cap1)).alloc (.cells #[.int .u64 v] 29)) (hv2.alloc _) (by rw [Hl.out]; exact hpl) (by have := heap_alloc_new (w1.setCell ⟨b, 0, none⟩ (.slice (some ⟨g1, 0, none⟩) (ks.length + 1) cap1)) (.cells #[.int .u64 v] 29); rw [hs2] at this; exact this) (fun e => by have := hv1.lt _ e.symm; omega) (by simp [hs2]; omega) (by rw [Hl.out]; exact hlen) (by simp [Value.oneCell']) rfl
  have hb1 : b < w1.heap.size := by omega
  have Hh2 : Hid (((w1.setCell ⟨b, 0, none⟩ (.slice (some ⟨g1, 0, none⟩) (ks.length + 1) cap1)).alloc (.cells #[.int .u64 v] 29)).heap[b]? = some (.cells #[.slice (some ⟨g1, 0, none⟩) (ks.length + 1) cap1, vv] 127 (0, 0))) := (Below.heap_alloc _ _ b (by rw [hs2]; exact hb1)).trans (heap_set hh1 0 _)
  clear hh1
  have hs2' : Hid ((w1.setCell ⟨b, 0, none⟩ (.slice (some ⟨g1, 0, none⟩) (ks.length + 1) cap1)).heap.size = w1.heap.size) := hs2
  clear hs2
  go_wp2_with fail
  refine hi2.mono ?_
  rintro e w2 ⟨vv', rfl, hins2⟩
  obtain ⟨g2, cap2, rfl⟩ := ownsRow_succ hins2.1
  have hh2 : w2.heap[b]? = some (.cells #[.slice (some ⟨g1, 0, none⟩) (ks.length + 1) cap1, vv] 127 (0, 0)) := (hins2.2.1.block b (by simp [hs2'.out]; omega) (by intro hm; exact hnv (by simpa using hm : vv.ownBlock = some b).symm)).trans Hh2.out
  have d1 := heap_cell hh2 1
  have y1 := heap_frozen hh2 1
  simp only [List.getElem?_toArray, List.getElem?_cons_zero, List.getElem?_cons_succ] at d1
  clear hh2
  go_wp2
  go_ret
  exact ⟨rfl, _, _, w1, w2, hins, hins2, rfl⟩

end Go.Proofs.YtcjblafohfiiaabGreat
