/-
  The table of numbers by text.
-/
import Derived.Test.YtcjblafohfiiaabGreatInsT
import Derived.Test.YtcjblafohfiiaabGreatPl
set_option linter.unusedVariables false
namespace Go.Proofs.YtcjblafohfiiaabGreat
open Go.RowKit

abbrev strs (ks : List ByteArray) : List Value := ks.map Value.string

theorem placeT_at (base p : Nat) (v : Value) (ks : List ByteArray) (k : ByteArray) (w : World) (hr : w.ownsRow base 9 1 v ks.length (strs ks)) (hs : Srt ltS ks) (hlen : ks.length < 1000000) (hp : CutAt ltS ks k p) (fd : Bool) (hfd : fd = decide (ks[p]? = some k)) :
    Calls Tryz.prog 96 #[v, .string k] w fun e w' => e = .returned (.tuple #[.int .i64 p, .bool fd]) ∧ w' = w := by
  refine (placeT_any base v ks k w hr hs hlen).mono ?_
  rintro e w' ⟨⟨q, hq, rfl⟩, rfl⟩
  obtain rfl := hp.uniq hq
  exact ⟨by rw [hfd], rfl⟩

/-- The table in block b, F its blocks. -/
def TTab (W : World) (base b : Nat) (ks : List ByteArray) (vs : List Int) (F : List Nat) : Prop :=
  ∃ vk vv : Value, W.heap[b]? = some (.cells #[vk, vv] 129 (0, 0)) ∧ base ≤ b ∧ W.ownsRow base 9 1 vk ks.length (strs ks) ∧ W.ownsRow base 3 1 vv vs.length (ints vs) ∧
    vs.length = ks.length ∧ Srt ltS ks ∧ F = b :: (vk.ownBlock.toList ++ vv.ownBlock.toList)

theorem rows_ne {w : World} {base base' n n' e e' : Nat} {v v' : Value} {xs xs' : List Value} (h : w.ownsRow base e 1 v n xs) (h' : w.ownsRow base' e' 1 v' n' xs') (he : e ≠ e') (k : Nat) (hk : v.ownBlock = some k) : v'.ownBlock ≠ some k := by
  intro hk'
  rcases h.2 with ⟨rfl, _⟩ | ⟨g, cap, cur, rfl, _, hg, _⟩
  · simp [Value.ownBlock] at hk
  rcases h'.2 with ⟨rfl, _⟩ | ⟨g', cap', cur', rfl, _, hg', _⟩
  · simp [Value.ownBlock] at hk'
  simp only [Value.ownBlock, Option.some.injEq] at hk hk'
  subst hk; subst hk'
  rw [hg] at hg'
  simp only [Option.some.injEq, Obj.cells.injEq] at hg'
  exact he hg'.2.1

theorem row_keep {w w' : World} {base n e : Nat} {v : Value} {xs : List Value} {G : List Nat} (h : w.ownsRow base e 1 v n xs) (ht : Touch G w w') (ha : ∀ k, v.ownBlock = some k → k ∉ G) : w'.ownsRow base e 1 v n xs := by
  refine ⟨h.1, ?_⟩
  rcases h.2 with hn | ⟨g, cap, cur, rfl, hb', hg, rest⟩
  · exact .inl hn
  · refine .inr ⟨g, cap, cur, rfl, hb', ?_, rest⟩
    rw [ht.block g (heap_lt hg) (ha g rfl)]; exact hg

theorem TTab.mem {W : World} {base b : Nat} {ks : List ByteArray} {vs : List Int} {F : List Nat} (h : TTab W base b ks vs F) : ∀ k, k ∈ F → base ≤ k ∧ k < W.heap.size := by
  obtain ⟨vk, vv, hh, hb, hk, hv, _, _, rfl⟩ := h
  intro k hm
  rcases List.mem_cons.1 hm with rfl | hm
  · exact ⟨hb, heap_lt hh⟩
  · rcases List.mem_append.1 hm with hm | hm
    · exact hk.lt k (by simpa using hm)
    · exact hv.lt k (by simpa using hm)

theorem TTab.keep {W W' : World} {base b : Nat} {ks : List ByteArray} {vs : List Int} {F G : List Nat} (h : TTab W base b ks vs F) (ht : Touch G W W') (ha : Apart F G) : TTab W' base b ks vs F := by
  obtain ⟨vk, vv, hh, hb, hk, hv, h1, h2, rfl⟩ := h
  refine ⟨vk, vv, ?_, hb, row_keep hk ht (fun k hm => ha k (by simp [hm])), row_keep hv ht (fun k hm => ha k (by simp [hm])), h1, h2, rfl⟩
  rw [ht.block b (heap_lt hh) (ha b (by simp))]; exact hh

set_option maxHeartbeats 400000 in
theorem newtext_any (w : World) :
    Calls Tryz.prog 16 #[] w fun e w' => e = .returned (.pointer (some ⟨w.heap.size, 0, none⟩)) ∧ TTab w' w.heap.size w.heap.size [] [] [w.heap.size] ∧ Touch [] w w' ∧ w'.heap.size = w.heap.size + 1 := by
  go_enter Tryz.func16, Tryz.ntmps16
  go_wp2
  go_ret
  exact ⟨rfl, ⟨.slice none 0 0, .slice none 0 0, heap_alloc_new w _, Nat.le_refl _, World.ownsRow_nil _ _ _ _, World.ownsRow_nil _ _ _ _, rfl, Srt.nil, rfl⟩, Touch.alloc _ _ _, by simp⟩

set_option maxHeartbeats 400000 in
theorem lenT_any (b base n : Nat) (vk : Value) (xs : List Value) (w : World) (hc : w.cell? ⟨b, 0, none⟩ = some vk) (hr : w.ownsRow base 9 1 vk n xs) :
    Calls Tryz.prog 72 #[.pointer (some ⟨b, 0, none⟩)] w fun e w' => e = .returned (.int .i64 n) ∧ w' = w := by
  rcases hr.2 with ⟨rfl, rfl⟩ | ⟨g, cap, cur, rfl, _⟩
  · clear hr
    go_enter Tryz.func72, Tryz.ntmps72
    go_wp2
    go_ret
    exact ⟨rfl, rfl⟩
  · clear hr
    go_enter Tryz.func72, Tryz.ntmps72
    go_wp2
    go_ret
    exact ⟨rfl, rfl⟩

/-- A key that is there. -/
theorem setT_old (b base p g cap : Nat) (v : Int) (k : ByteArray) (vk : Value) (ks : List ByteArray) (vs : List Int) (w : World) (hh : w.heap[b]? = some (.cells #[vk, .slice (some ⟨g, 0, none⟩) vs.length cap] 129 (0, 0)))
    (hk : w.ownsRow base 9 1 vk ks.length (strs ks)) (hv : w.ownsRow base 3 1 (.slice (some ⟨g, 0, none⟩) vs.length cap) vs.length (ints vs)) (hl : vs.length = ks.length) (hs : Srt ltS ks) (hlen : ks.length < 1000000) (hp : CutAt ltS ks k p) (hf : ks[p]? = some k) :
    Calls Tryz.prog 64 #[.pointer (some ⟨b, 0, none⟩), .string k, .int .i64 v] w fun e w' => e = .returned (.bool false) ∧ w' = w.setCell ⟨g, p, none⟩ (.int .i64 v) := by
  have hpl : p < ks.length := (List.getElem?_eq_some_iff.1 hf).1
  have hc0 := heap_cell hh 0
  have hc1 := heap_cell hh 1
  simp only [List.getElem?_toArray, List.getElem?_cons_zero, List.getElem?_cons_succ] at hc0 hc1
  have hcx : w.cell? ⟨g, p, none⟩ = some (.int .i64 (vs[p]'(by omega))) := by
    rw [hv.cellAt _ (by omega)]; simp [hl, hpl]
  have hfx := hv.frozenAt p
  have hpi : (p : Int) < (vs.length : Int) := by omega
  have hpl' := placeT_at base p vk ks k w hk hs hlen hp true (by simp [hf])
  generalize vs[p]'(by omega) = old at hcx
  clear hh hf
  go_enter Tryz.func64, Tryz.ntmps64
  go_wp2_with fail
  refine hpl'.mono ?_
  rintro e w' ⟨rfl, rfl⟩
  go_wp2
  go_ret
  exact ⟨rfl, rfl⟩

set_option maxHeartbeats 1000000 in
/-- A key that isn't. -/
theorem setT_new (b base p : Nat) (v : Int) (k : ByteArray) (vk vv : Value) (ks : List ByteArray) (vs : List Int) (w : World) (hh : w.heap[b]? = some (.cells #[vk, vv] 129 (0, 0))) (hbase : base ≤ w.heap.size)
    (hk : w.ownsRow base 9 1 vk ks.length (strs ks)) (hv : w.ownsRow base 3 1 vv vs.length (ints vs)) (hl : vs.length = ks.length) (hs : Srt ltS ks) (hlen : ks.length < 1000000) (hp : CutAt ltS ks k p) (hf : ks[p]? ≠ some k) :
    Calls Tryz.prog 64 #[.pointer (some ⟨b, 0, none⟩), .string k, .int .i64 v] w fun e w' => e = .returned (.bool true) ∧
      ∃ vk' vv' w1 w2, Inserted (w.alloc (.cells #[.string k] 9)) w1 base 9 vk vk' ks.length p (strs ks) (.string k) ∧
        Inserted ((w1.setCell ⟨b, 0, none⟩ vk').alloc (.cells #[.int .i64 v] 3)) w2 base 3 vv vv' vs.length p (ints vs) (.int .i64 v) ∧ w' = w2.setCell ⟨b, 1, none⟩ vv' := by
  have hpl : p ≤ ks.length := hp.1
  have hc0 := heap_cell hh 0
  simp only [List.getElem?_toArray, List.getElem?_cons_zero] at hc0
  have hb := heap_lt hh
  have hnk : some b ≠ vk.ownBlock := row_ne hh hk
  have hnv : some b ≠ vv.ownBlock := row_ne hh hv
  have hpl' := placeT_at base p vk ks k w hk hs hlen hp false (by simp [hf])
  have hka : (w.alloc (.cells #[.string k] 9)).ownsRow base 9 1 vk ks.length (strs ks) := hk.alloc _
  have hva : (w.alloc (.cells #[.string k] 9)).ownsRow base 3 1 vv vs.length (ints vs) := hv.alloc _
  have hi1 := insT_any base ks.length p w.heap.size vk (.string k) (strs ks) (w.alloc (.cells #[.string k] 9)) hka hpl (heap_alloc_new w _) (fun e => by have := hk.lt _ e.symm; omega) (by simp; omega) hlen (by simp [Value.oneCell']) rfl
  have Hh : Hid ((w.alloc (.cells #[.string k] 9)).heap[b]? = some (.cells #[vk, vv] 129 (0, 0))) := (Below.heap_alloc w _ b hb).trans hh
  have Hl : Hid (vs.length = ks.length) := hl
  clear hh hf hl
  go_enter Tryz.func64, Tryz.ntmps64
  go_wp2_with fail
  refine hpl'.mono ?_
  rintro e w' ⟨rfl, rfl⟩
  clear hpl'
  go_wp2_with fail
  refine hi1.mono ?_
  rintro e w1 ⟨vk', rfl, hins⟩
  clear hi1
  obtain ⟨g1, cap1, rfl⟩ := ownsRow_succ hins.1
  have hh1 : w1.heap[b]? = some (.cells #[vk, vv] 129 (0, 0)) := (hins.2.1.block b (by simp; omega) (by intro hm; exact hnk (by simpa using hm : vk.ownBlock = some b).symm)).trans Hh.out
  have c0 := heap_cell hh1 0
  have z0 := heap_frozen hh1 0
  have c1 := heap_cell hh1 1
  have z1 := heap_frozen hh1 1
  simp only [List.getElem?_toArray, List.getElem?_cons_zero, List.getElem?_cons_succ] at c0 c1
  have hv1 : w1.ownsRow base 3 1 vv vs.length (ints vs) := row_keep hva hins.2.1 (fun q hq hm => rows_ne hva hka (by decide) q hq (by simpa using hm))
  have hv2 : (w1.setCell ⟨b, 0, none⟩ (.slice (some ⟨g1, 0, none⟩) (ks.length + 1) cap1)).ownsRow base 3 1 vv vs.length (ints vs) := ownsRow_setOther hv1 hnv _
  have hs2 : (w1.setCell ⟨b, 0, none⟩ (.slice (some ⟨g1, 0, none⟩) (ks.length + 1) cap1)).heap.size = w1.heap.size := by simp [World.setCell]
  have hw1 : w'.heap.size + 1 ≤ w1.heap.size := by have := hins.2.1.size; simpa using this
  have hi2 := insI_any base vs.length p w1.heap.size vv (.int .i64 v) (ints vs) ((w1.setCell ⟨b, 0, none⟩ (.slice (some ⟨g1, 0, none⟩) (ks.length + 1) cap1)).alloc (.cells #[.int .i64 v] 3)) (hv2.alloc _) (by rw [Hl.out]; exact hpl) (by have := heap_alloc_new (w1.setCell ⟨b, 0, none⟩ (.slice (some ⟨g1, 0, none⟩) (ks.length + 1) cap1)) (.cells #[.int .i64 v] 3); rw [hs2] at this; exact this) (fun e => by have := hv1.lt _ e.symm; omega) (by simp [hs2]; omega) (by rw [Hl.out]; exact hlen) (by simp [Value.oneCell']) rfl
  have hb1 : b < w1.heap.size := by omega
  have Hh2 : Hid (((w1.setCell ⟨b, 0, none⟩ (.slice (some ⟨g1, 0, none⟩) (ks.length + 1) cap1)).alloc (.cells #[.int .i64 v] 3)).heap[b]? = some (.cells #[.slice (some ⟨g1, 0, none⟩) (ks.length + 1) cap1, vv] 129 (0, 0))) := (Below.heap_alloc _ _ b (by rw [hs2]; exact hb1)).trans (heap_set hh1 0 _)
  clear hh1
  have hs2' : Hid ((w1.setCell ⟨b, 0, none⟩ (.slice (some ⟨g1, 0, none⟩) (ks.length + 1) cap1)).heap.size = w1.heap.size) := hs2
  clear hs2
  go_wp2_with fail
  refine hi2.mono ?_
  rintro e w2 ⟨vv', rfl, hins2⟩
  obtain ⟨g2, cap2, rfl⟩ := ownsRow_succ hins2.1
  have hh2 : w2.heap[b]? = some (.cells #[.slice (some ⟨g1, 0, none⟩) (ks.length + 1) cap1, vv] 129 (0, 0)) := (hins2.2.1.block b (by simp [hs2'.out]; omega) (by intro hm; exact hnv (by simpa using hm : vv.ownBlock = some b).symm)).trans Hh2.out
  have d1 := heap_cell hh2 1
  have y1 := heap_frozen hh2 1
  simp only [List.getElem?_toArray, List.getElem?_cons_zero, List.getElem?_cons_succ] at d1
  clear hh2
  go_wp2
  go_ret
  exact ⟨rfl, _, _, w1, w2, hins, hins2, rfl⟩

end Go.Proofs.YtcjblafohfiiaabGreat
