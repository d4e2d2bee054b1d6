/-
  The table of numbers by text: Set and Near, whole.
-/
import Derived.Test.YtcjblafohfiiaabGreatTT
set_option linter.unusedVariables false
namespace Go.Proofs.YtcjblafohfiiaabGreat
open Go.RowKit

theorem ins_map {α β : Type} (f : α → β) (l : List α) (p : Nat) (k : α) : ins (l.map f) p (f k) = (ins l p k).map f := by
  simp [ins]

theorem setT_fresh (b base p : Nat) (v : Int) (k : ByteArray) (ks : List ByteArray) (vs : List Int) (F : List Nat) (w : World) (h : TTab w base b ks vs F) (hbase : base ≤ w.heap.size) (hlen : ks.length < 1000000) (hp : CutAt ltS ks k p) (hf : ks[p]? ≠ some k) :
    Calls Tryz.prog 64 #[.pointer (some ⟨b, 0, none⟩), .string k, .int .i64 v] w fun e w' => e = .returned (.bool true) ∧
      ∃ F', TTab w' base b (ins ks p k) (ins vs p v) F' ∧ Touch F w w' ∧ Newer w.heap.size F F' := by
  obtain ⟨vk, vv, hh, hb, hk, hv, hl, hs, rfl⟩ := h
  have hbl := heap_lt hh
  have hnk : some b ≠ vk.ownBlock := row_ne hh hk
  have hnv : some b ≠ vv.ownBlock := row_ne hh hv
  refine (setT_new b base p v k vk vv ks vs w hh hbase hk hv hl hs hlen hp hf).mono ?_
  rintro e w' ⟨rfl, vk', vv', w1, w2, hi1, hi2, rfl⟩
  have ht1 : Touch (b :: (vk.ownBlock.toList ++ vv.ownBlock.toList)) w w1 := (Touch.alloc _ w _).trans (hi1.2.1.mono (fun q hq => .inl (by simp at hq; simp [hq])))
  have hh1 : w1.heap[b]? = some (.cells #[vk, vv] 129 (0, 0)) := (hi1.2.1.block b (by simp; omega) (by intro hm; exact hnk (by simpa using hm : vk.ownBlock = some b).symm)).trans ((Below.heap_alloc w _ b hbl).trans hh)
  have hs1 : (w1.setCell ⟨b, 0, none⟩ vk').heap.size = w1.heap.size := by simp [World.setCell]
  have hw1 : w.heap.size ≤ w1.heap.size := ht1.size
  have hnk1 : some b ≠ vk'.ownBlock := row_ne hh1 hi1.1
  have ht2 : Touch (b :: (vk.ownBlock.toList ++ vv.ownBlock.toList)) w w2 := ((ht1.trans (Touch.setCell _ _ _ (by simp))).trans (Touch.alloc _ _ _)).trans (hi2.2.1.mono (fun q hq => .inl (by simp at hq; simp [hq])))
  have hh2a : ((w1.setCell ⟨b, 0, none⟩ vk').alloc (.cells #[.int .i64 v] 3)).heap[b]? = some (.cells #[vk', vv] 129 (0, 0)) := (Below.heap_alloc _ _ b (by rw [hs1]; omega)).trans (heap_set hh1 0 _)
  have hh2 : w2.heap[b]? = some (.cells #[vk', vv] 129 (0, 0)) := (hi2.2.1.block b (heap_lt hh2a) (by intro hm; exact hnv (by simpa using hm : vv.ownBlock = some b).symm)).trans hh2a
  have hk1 : ((w1.setCell ⟨b, 0, none⟩ vk').alloc (.cells #[.int .i64 v] 3)).ownsRow base 9 1 vk' (ks.length + 1) (ins (strs ks) p (.string k)) := (ownsRow_setOther hi1.1 hnk1 _).alloc _
  have hva : ((w1.setCell ⟨b, 0, none⟩ vk').alloc (.cells #[.int .i64 v] 3)).ownsRow base 3 1 vv vs.length (ints vs) := by
    refine World.ownsRow.alloc (ownsRow_setOther ?_ hnv _) _
    exact row_keep (hv.alloc _) hi1.2.1 (fun q hq hm => rows_ne (hv.alloc _) (hk.alloc (.cells #[.string k] 9)) (by decide) q hq (by simpa using hm))
  have hk2 : w2.ownsRow base 9 1 vk' (ks.length + 1) (ins (strs ks) p (.string k)) := row_keep hk1 hi2.2.1 (fun q hq hm => rows_ne hk1 hva (by decide) q hq (by simpa using hm))
  have hnv2 : some b ≠ vv'.ownBlock := row_ne hh2 hi2.1
  have hnk2 : some b ≠ vk'.ownBlock := hnk1
  have hpl : p ≤ ks.length := hp.1
  refine ⟨rfl, _, ⟨vk', vv', ?_, hb, ?_, ?_, ?_, hs.ins sordS hp hf, rfl⟩, ht2.trans (Touch.setCell _ _ _ (by simp)), ?_⟩
  · rw [heap_set hh2]; rfl
  · rw [ins_length _ _ _ hpl, strs, ← ins_map]; exact ownsRow_setOther hk2 hnk2 _
  · rw [ins_length _ _ _ (by omega), ints, ← ins_map]; exact ownsRow_setOther hi2.1 hnv2 _
  · rw [ins_length _ _ _ hpl, ins_length _ _ _ (by omega), hl]
  · intro q hq
    simp only [List.mem_cons, List.mem_append, Option.mem_toList] at hq ⊢
    rcases hq with hq | hq | hq
    · exact .inl (.inl hq)
    · rcases hi1.2.2 with h1 | ⟨j, h1, h2⟩
      · exact .inl (.inr (.inl (by rw [← h1]; exact hq)))
      · rw [h1] at hq; cases hq; exact .inr (by simp at h2; omega)
    · rcases hi2.2.2 with h1 | ⟨j, h1, h2⟩
      · exact .inl (.inr (.inr (by rw [← h1]; exact hq)))
      · rw [h1] at hq; cases hq; exact .inr (by simp [hs1] at h2; omega)

theorem setT_again (b base p : Nat) (v : Int) (k : ByteArray) (ks : List ByteArray) (vs : List Int) (F : List Nat) (w : World) (h : TTab w base b ks vs F) (hlen : ks.length < 1000000) (hp : CutAt ltS ks k p) (hf : ks[p]? = some k) :
    Calls Tryz.prog 64 #[.pointer (some ⟨b, 0, none⟩), .string k, .int .i64 v] w fun e w' => e = .returned (.bool false) ∧ TTab w' base b ks (vs.set p v) F ∧ Touch F w w' := by
  obtain ⟨vk, vv, hh, hb, hk, hv, hl, hs, rfl⟩ := h
  have hpl : p < ks.length := (List.getElem?_eq_some_iff.1 hf).1
  rcases hv.2 with ⟨_, h0⟩ | ⟨g, cap, cur, rfl, _⟩
  · omega
  refine (setT_old b base p g cap v k vk ks vs w hh hk hv hl hs hlen hp hf).mono ?_
  rintro e w' ⟨rfl, rfl⟩
  have hne : b ≠ g := fun e => absurd (by simp [Value.ownBlock, e]) (row_ne hh hv)
  have ht : Touch [g] w (w.setCell ⟨g, p, none⟩ (.int .i64 v)) := Touch.setCell _ _ _ (by simp)
  refine ⟨rfl, ⟨vk, _, ?_, hb, row_keep hk ht (fun q hq hm => rows_ne hk hv (by decide) q hq (by simp at hm; simp [Value.ownBlock, hm])), ?_, by simpa using hl, hs, rfl⟩, ht.mono (fun q hq => .inl (by simp at hq; simp [Value.ownBlock, hq]))⟩
  · rw [ht.block b (heap_lt hh) (by simp [hne]), hh]
  · have := (hv.stored p (.int .i64 v)).1
    rw [show (ints vs).set p (.int .i64 v) = ints (vs.set p v) by simp [ints, List.map_set]] at this
    simpa using this

theorem nearT_no (b base : Nat) (k : ByteArray) (ks : List ByteArray) (vs : List Int) (F : List Nat) (w : World) (h : TTab w base b ks vs F) (hlen : ks.length < 1000000) (hp : CutAt ltS ks k 0) (hf : ks[0]? ≠ some k) :
    Calls Tryz.prog 70 #[.pointer (some ⟨b, 0, none⟩), .string k] w fun e w' => e = .returned (.tuple #[.string ⟨#[]⟩, .int .i64 0, .bool false]) ∧ w' = w := by
  obtain ⟨vk, vv, hh, hb, hk, hv, hl, hs, rfl⟩ := h
  have hc0 := heap_cell hh 0
  simp only [List.getElem?_toArray, List.getElem?_cons_zero] at hc0
  have hpl' := placeT_at base 0 vk ks k w hk hs hlen hp false (by simp [hf])
  clear hh hl
  go_enter Tryz.func70, Tryz.ntmps70
  go_wp2_with fail
  refine hpl'.mono ?_
  rintro e w' ⟨rfl, rfl⟩
  go_wp2
  go_ret3
  exact ⟨rfl, rfl⟩

set_option maxHeartbeats 1000000 in
theorem nearT_core (b base g g' cap cap' n p q : Nat) (fd : Bool) (k k' : ByteArray) (x : Int) (w : World) (hc0 : w.cell? ⟨b, 0, none⟩ = some (.slice (some ⟨g, 0, none⟩) n cap)) (hc1 : w.cell? ⟨b, 1, none⟩ = some (.slice (some ⟨g', 0, none⟩) n cap'))
    (hpl : Calls Tryz.prog 96 #[.slice (some ⟨g, 0, none⟩) n cap, .string k] w fun e w' => e = .returned (.tuple #[.int .i64 p, .bool fd]) ∧ w' = w)
    (hq : (fd = true ∧ q = p) ∨ (fd = false ∧ q + 1 = p)) (hqn : q < n) (hlen : n < 1000000) (hk : w.cell? ⟨g, q, none⟩ = some (.string k')) (hv : w.cell? ⟨g', q, none⟩ = some (.int .i64 x)) :
    Calls Tryz.prog 70 #[.pointer (some ⟨b, 0, none⟩), .string k] w fun e w' => e = .returned (.tuple #[.string k', .int .i64 x, .bool true]) ∧ ∃ nq, w' = w.drewN nq := by
  have hqi : (q : Int) < (n : Int) := by omega
  rcases hq with ⟨rfl, rfl⟩ | ⟨rfl, rfl⟩
  · go_enter Tryz.func70, Tryz.ntmps70
    go_wp2_with fail
    refine hpl.mono ?_
    rintro e w' ⟨rfl, rfl⟩
    go_wp2_with fail
    go_quiet (fail)
    go_wp2
    go_ret3
    exact ⟨rfl, nq, rfl⟩
  · go_enter Tryz.func70, Tryz.ntmps70
    go_wp2_with fail
    refine hpl.mono ?_
    rintro e w' ⟨rfl, rfl⟩
    go_wp2_with fail
    go_quiet (fail)
    go_wp2
    go_ret3
    exact ⟨rfl, nq, rfl⟩

theorem nearT_yes (b base p q : Nat) (k k' : ByteArray) (x : Int) (ks : List ByteArray) (vs : List Int) (F : List Nat) (w : World) (h : TTab w base b ks vs F) (hlen : ks.length < 1000000) (hp : CutAt ltS ks k p)
    (hq : (ks[p]? = some k ∧ q = p) ∨ (ks[p]? ≠ some k ∧ q + 1 = p)) (hk' : ks[q]? = some k') (hv' : vs[q]? = some x) :
    Calls Tryz.prog 70 #[.pointer (some ⟨b, 0, none⟩), .string k] w fun e w' => e = .returned (.tuple #[.string k', .int .i64 x, .bool true]) ∧ ∃ nq, w' = w.drewN nq := by
  obtain ⟨vk, vv, hh, hb, hk, hv, hl, hs, rfl⟩ := h
  have hqn : q < ks.length := (List.getElem?_eq_some_iff.1 hk').1
  have hc0 := heap_cell hh 0
  have hc1 := heap_cell hh 1
  simp only [List.getElem?_toArray, List.getElem?_cons_zero, List.getElem?_cons_succ] at hc0 hc1
  rcases hk.2 with ⟨_, h0⟩ | ⟨g, cap, cur, rfl, _⟩
  · omega
  rcases hv.2 with ⟨_, h0⟩ | ⟨g', cap', cur', rfl, _⟩
  · omega
  rw [hl] at hc1
  have hcell : w.cell? ⟨g, q, none⟩ = some (.string k') := by rw [hk.cellAt _ (by omega)]; simp [hk']
  have hcell' : w.cell? ⟨g', q, none⟩ = some (.int .i64 x) := by rw [hv.cellAt _ (by omega)]; simp [hv']
  refine nearT_core b base g g' cap cap' ks.length p q (decide (ks[p]? = some k)) k k' x w hc0 hc1 (placeT_at base p _ ks k w hk hs hlen hp _ rfl) ?_ hqn hlen hcell hcell'
  rcases hq with ⟨h1, h2⟩ | ⟨h1, h2⟩
  · exact .inl ⟨by simp [h1], h2⟩
  · exact .inr ⟨by simp [h1], h2⟩

end Go.Proofs.YtcjblafohfiiaabGreat
