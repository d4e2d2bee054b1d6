/-
  The table of words by number: Set and Near, whole.
-/
import Derived.Test.YtcjblafohfiiaabGreatTabI
set_option linter.unusedVariables false
namespace Go.Proofs.YtcjblafohfiiaabGreat
open Go.RowKit

theorem setI_fresh (b base p : Nat) (v : Int) (k : Int) (ks : List Int) (vs : List Int) (F : List Nat) (w : World) (h : ITab w base b ks vs F) (hbase : base ≤ w.heap.size) (hlen : ks.length < 1000000) (hp : CutAt ltI ks k p) (hf : ks[p]? ≠ some k) :
    Calls Tryz.prog 54 #[.pointer (some ⟨b, 0, none⟩), .int .i64 k, .int .u64 v] w fun e w' => e = .returned (.bool true) ∧
      ∃ F', ITab w' base b (ins ks p k) (ins vs p v) F' ∧ Touch F w w' ∧ Newer w.heap.size F F' := by
  obtain ⟨vk, vv, hh, hb, hk, hv, hl, hs, rfl⟩ := h
  have hbl := heap_lt hh
  have hnk : some b ≠ vk.ownBlock := row_ne hh hk
  have hnv : some b ≠ vv.ownBlock := row_ne hh hv
  refine (setI_new b base p v k vk vv ks vs w hh hbase hk hv hl hs hlen hp hf).mono ?_
  rintro e w' ⟨rfl, vk', vv', w1, w2, hi1, hi2, rfl⟩
  have ht1 : Touch (b :: (vk.ownBlock.toList ++ vv.ownBlock.toList)) w w1 := (Touch.alloc _ w _).trans (hi1.2.1.mono (fun q hq => .inl (by simp at hq; simp [hq])))
  have hh1 : w1.heap[b]? = some (.cells #[vk, vv] 127 (0, 0)) := (hi1.2.1.block b (by simp; omega) (by intro hm; exact hnk (by simpa using hm : vk.ownBlock = some b).symm)).trans ((Below.heap_alloc w _ b hbl).trans hh)
  have hs1 : (w1.setCell ⟨b, 0, none⟩ vk').heap.size = w1.heap.size := by simp [World.setCell]
  have hw1 : w.heap.size ≤ w1.heap.size := ht1.size
  have hnk1 : some b ≠ vk'.ownBlock := row_ne hh1 hi1.1
  have ht2 : Touch (b :: (vk.ownBlock.toList ++ vv.ownBlock.toList)) w w2 := ((ht1.trans (Touch.setCell _ _ _ (by simp))).trans (Touch.alloc _ _ _)).trans (hi2.2.1.mono (fun q hq => .inl (by simp at hq; simp [hq])))
  have hh2a : ((w1.setCell ⟨b, 0, none⟩ vk').alloc (.cells #[.int .u64 v] 29)).heap[b]? = some (.cells #[vk', vv] 127 (0, 0)) := (Below.heap_alloc _ _ b (by rw [hs1]; omega)).trans (heap_set hh1 0 _)
  have hh2 : w2.heap[b]? = some (.cells #[vk', vv] 127 (0, 0)) := (hi2.2.1.block b (heap_lt hh2a) (by intro hm; exact hnv (by simpa using hm : vv.ownBlock = some b).symm)).trans hh2a
  have hk1 : ((w1.setCell ⟨b, 0, none⟩ vk').alloc (.cells #[.int .u64 v] 29)).ownsRow base 3 1 vk' (ks.length + 1) (ins (ints ks) p (.int .i64 k)) := (ownsRow_setOther hi1.1 hnk1 _).alloc _
  have hva : ((w1.setCell ⟨b, 0, none⟩ vk').alloc (.cells #[.int .u64 v] 29)).ownsRow base 29 1 vv vs.length (u64s vs) := by
    refine World.ownsRow.alloc (ownsRow_setOther ?_ hnv _) _
    exact row_keep (hv.alloc _) hi1.2.1 (fun q hq hm => rows_ne (hv.alloc _) (hk.alloc (.cells #[.int .i64 k] 3)) (by decide) q hq (by simpa using hm))
  have hk2 : w2.ownsRow base 3 1 vk' (ks.length + 1) (ins (ints ks) p (.int .i64 k)) := row_keep hk1 hi2.2.1 (fun q hq hm => rows_ne hk1 hva (by decide) q hq (by simpa using hm))
  have hnv2 : some b ≠ vv'.ownBlock := row_ne hh2 hi2.1
  have hnk2 : some b ≠ vk'.ownBlock := hnk1
  have hpl : p ≤ ks.length := hp.1
  refine ⟨rfl, _, ⟨vk', vv', ?_, hb, ?_, ?_, ?_, hs.ins sordI hp hf, rfl⟩, ht2.trans (Touch.setCell _ _ _ (by simp)), ?_⟩
  · rw [heap_set hh2]; rfl
  · rw [ins_length _ _ _ hpl, ints, ← ins_map]; exact ownsRow_setOther hk2 hnk2 _
  · rw [ins_length _ _ _ (by omega), u64s, ← ins_map]; exact ownsRow_setOther hi2.1 hnv2 _
  · rw [ins_length _ _ _ hpl, ins_length _ _ _ (by omega), hl]
  · intro q hq
    simp only [List.mem_cons, List.mem_append, Option.mem_toList] at hq ⊢
    rcases hq with hq | hq | hq
    · exact .inl (.inl hq)
    · rcases hi1.2.2 with h1 | ⟨j, h1, h2⟩
      · exact .inl (.inr (.inl (by rw [← h1]; exact hq)))
      · rw [h1] at hq; cases hq; exact .inr (by simp at h2; omega)
    · rcases hi2.2.2 with h1 | ⟨j, h1, h2⟩
      · exact .inl (.inr (.inr (by rw [← h1]; exact hq)))
      · rw [h1] at hq; cases hq; exact .inr (by simp [hs1] at h2; omega)

theorem setI_again (b base p : Nat) (v : Int) (k : Int) (ks : List Int) (vs : List Int) (F : List Nat) (w : World) (h : ITab w base b ks vs F) (hlen : ks.length < 1000000) (hp : CutAt ltI ks k p) (hf : ks[p]? = some k) :
    Calls Tryz.prog 54 #[.pointer (some ⟨b, 0, none⟩), .int .i64 k, .int .u64 v] w fun e w' => e = .returned (.bool false) ∧ ITab w' base b ks (vs.set p v) F ∧ Touch F w w' := by
  obtain ⟨vk, vv, hh, hb, hk, hv, hl, hs, rfl⟩ := h
  have hpl : p < ks.length := (List.getElem?_eq_some_iff.1 hf).1
  rcases hv.2 with ⟨_, h0⟩ | ⟨g, cap, cur, rfl, _⟩
  · omega
  refine (setI_old b base p g cap v k vk ks vs w hh hk hv hl hs hlen hp hf).mono ?_
  rintro e w' ⟨rfl, rfl⟩
  have hne : b ≠ g := fun e => absurd (by simp [Value.ownBlock, e]) (row_ne hh hv)
  have ht : Touch [g] w (w.setCell ⟨g, p, none⟩ (.int .u64 v)) := Touch.setCell _ _ _ (by simp)
  refine ⟨rfl, ⟨vk, _, ?_, hb, row_keep hk ht (fun q hq hm => rows_ne hk hv (by decide) q hq (by simp at hm; simp [Value.ownBlock, hm])), ?_, by simpa using hl, hs, rfl⟩, ht.mono (fun q hq => .inl (by simp at hq; simp [Value.ownBlock, hq]))⟩
  · rw [ht.block b (heap_lt hh) (by simp [hne]), hh]
  · have := (hv.stored p (.int .u64 v)).1
    rw [show (u64s vs).set p (.int .u64 v) = u64s (vs.set p v) by simp [u64s, List.map_set]] at this
    simpa using this

theorem nearI_no (b base : Nat) (k : Int) (ks : List Int) (vs : List Int) (F : List Nat) (w : World) (h : ITab w base b ks vs F) (hlen : ks.length < 1000000) (hp : CutAt ltI ks k 0) (hf : ks[0]? ≠ some k) :
    Calls Tryz.prog 60 #[.pointer (some ⟨b, 0, none⟩), .int .i64 k] w fun e w' => e = .returned (.tuple #[.int .i64 0, .int .u64 0, .bool false]) ∧ w' = w := by
  obtain ⟨vk, vv, hh, hb, hk, hv, hl, hs, rfl⟩ := h
  have hc0 := heap_cell hh 0
  simp only [List.getElem?_toArray, List.getElem?_cons_zero] at hc0
  have hpl' := placeI_at base 0 vk ks k w hk hs hlen hp false (by simp [hf])
  clear hh hl
  go_enter Tryz.func60, Tryz.ntmps60
  go_wp2_with fail
  refine hpl'.mono ?_
  rintro e w' ⟨rfl, rfl⟩
  go_wp2
  go_ret3
  exact ⟨rfl, rfl⟩

set_option maxHeartbeats 1000000 in
theorem nearI_core (b base g g' cap cap' n p q : Nat) (fd : Bool) (k k' : Int) (x : Int) (w : World) (hc0 : w.cell? ⟨b, 0, none⟩ = some (.slice (some ⟨g, 0, none⟩) n cap)) (hc1 : w.cell? ⟨b, 1, none⟩ = some (.slice (some ⟨g', 0, none⟩) n cap'))
    (hpl : Calls Tryz.prog 87 #[.slice (some ⟨g, 0, none⟩) n cap, .int .i64 k] w fun e w' => e = .returned (.tuple #[.int .i64 p, .bool fd]) ∧ w' = w)
    (hq : (fd = true ∧ q = p) ∨ (fd = false ∧ q + 1 = p)) (hqn : q < n) (hlen : n < 1000000) (hk : w.cell? ⟨g, q, none⟩ = some (.int .i64 k')) (hv : w.cell? ⟨g', q, none⟩ = some (.int .u64 x)) :
    Calls Tryz.prog 60 #[.pointer (some ⟨b, 0, none⟩), .int .i64 k] w fun e w' => e = .returned (.tuple #[.int .i64 k', .int .u64 x, .bool true]) ∧ ∃ nq, w' = w.drewN nq := by
  have hqi : (q : Int) < (n : Int) := by omega
  rcases hq with ⟨rfl, rfl⟩ | ⟨rfl, rfl⟩
  · go_enter Tryz.func60, Tryz.ntmps60
    go_wp2_with fail
    refine hpl.mono ?_
    rintro e w' ⟨rfl, rfl⟩
    go_wp2_with fail
    go_quiet (fail)
    go_wp2
    go_ret3
    exact ⟨rfl, nq, rfl⟩
  · go_enter Tryz.func60, Tryz.ntmps60
    go_wp2_with fail
    refine hpl.mono ?_
    rintro e w' ⟨rfl, rfl⟩
    go_wp2_with fail
    go_quiet (fail)
    go_wp2
    go_ret3
    exact ⟨rfl, nq, rfl⟩

theorem nearI_yes (b base p q : Nat) (k k' : Int) (x : Int) (ks : List Int) (vs : List Int) (F : List Nat) (w : World) (h : ITab w base b ks vs F) (hlen : ks.length < 1000000) (hp : CutAt ltI ks k p)
    (hq : (ks[p]? = some k ∧ q = p) ∨ (ks[p]? ≠ some k ∧ q + 1 = p)) (hk' : ks[q]? = some k') (hv' : vs[q]? = some x) :
    Calls Tryz.prog 60 #[.pointer (some ⟨b, 0, none⟩), .int .i64 k] w fun e w' => e = .returned (.tuple #[.int .i64 k', .int .u64 x, .bool true]) ∧ ∃ nq, w' = w.drewN nq := by
  obtain ⟨vk, vv, hh, hb, hk, hv, hl, hs, rfl⟩ := h
  have hqn : q < ks.length := (List.getElem?_eq_some_iff.1 hk').1
  have hc0 := heap_cell hh 0
  have hc1 := heap_cell hh 1
  simp only [List.getElem?_toArray, List.getElem?_cons_zero, List.getElem?_cons_succ] at hc0 hc1
  rcases hk.2 with ⟨_, h0⟩ | ⟨g, cap, cur, rfl, _⟩
  · omega
  rcases hv.2 with ⟨_, h0⟩ | ⟨g', cap', cur', rfl, _⟩
  · omega
  rw [hl] at hc1
  have hcell : w.cell? ⟨g, q, none⟩ = some (.int .i64 k') := by rw [hk.cellAt _ (by omega)]; simp [hk']
  have hcell' : w.cell? ⟨g', q, none⟩ = some (.int .u64 x) := by rw [hv.cellAt _ (by omega)]; simp [hv']
  refine nearI_core b base g g' cap cap' ks.length p q (decide (ks[p]? = some k)) k k' x w hc0 hc1 (placeI_at base p _ ks k w hk hs hlen hp _ rfl) ?_ hqn hlen hcell hcell'
  rcases hq with ⟨h1, h2⟩ | ⟨h1, h2⟩
  · exact .inl ⟨by simp [h1], h2⟩
  · exact .inr ⟨by simp [h1], h2⟩

end Go.Proofs.YtcjblafohfiiaabGreat
