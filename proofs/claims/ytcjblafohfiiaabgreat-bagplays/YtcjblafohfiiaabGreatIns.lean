/-
  slices.Insert of one element, over a row of the call's own.
-/
import Derived.Test.YtcjblafohfiiaabGreatSt
import Derived.Test.YtcjblafohfiiaabGreatShelf
import Derived.Test.YtcjblafohfiiaabGreatSrt
set_option linter.unusedVariables false
namespace Go.Proofs.YtcjblafohfiiaabGreat
open Go.RowKit

/-- The cells with vs laid from o on. -/
def over (cur : Array Value) (o : Nat) (vs : List Value) : Array Value := (cur.toList.take o ++ vs ++ cur.toList.drop (o + vs.length)).toArray

theorem over_size (cur : Array Value) (o : Nat) (vs : List Value) (h : o + vs.length ≤ cur.size) : (over cur o vs).size = cur.size := by
  simp [over]; omega

theorem over_get (cur : Array Value) (o : Nat) (vs : List Value) (h : o + vs.length ≤ cur.size) (i : Nat) : (over cur o vs)[i]? = if i < o then cur[i]? else if i < o + vs.length then vs[i - o]? else cur[i]? := by
  unfold over
  rw [List.getElem?_toArray, List.append_assoc, List.getElem?_append, List.length_take, Array.length_toList, Nat.min_eq_left (by omega)]
  split
  · rw [List.getElem?_take, if_pos (by assumption), Array.getElem?_toList]
  · rw [List.getElem?_append]
    split
    · rw [if_pos (by omega)]
    · rw [if_neg (by omega), List.getElem?_drop, Array.getElem?_toList]
      congr 1; omega

theorem over_cons (cur : Array Value) (o : Nat) (v : Value) (vs : List Value) (h : o + (vs.length + 1) ≤ cur.size) : over (cur.setIfInBounds o v) (o + 1) vs = over cur o (v :: vs) := by
  apply Array.ext_getElem?
  intro i
  rw [over_get _ _ _ (by simp; omega), over_get _ _ _ (by simpa using h)]
  simp only [Array.getElem?_setIfInBounds, List.length_cons]
  by_cases h1 : i < o
  · rw [if_pos (by omega), if_neg (by omega), if_pos h1]
  · by_cases h2 : i = o
    · subst h2
      rw [if_pos (by omega), if_pos rfl, if_pos (by omega), if_neg (by omega), if_pos (by omega)]
      simp
    · obtain ⟨d, rfl⟩ : ∃ d, i = o + 1 + d := ⟨i - o - 1, by omega⟩
      rw [if_neg (show ¬ o + 1 + d < o + 1 by omega), if_neg (show ¬ o = o + 1 + d by omega), if_neg h1]
      by_cases h3 : d < vs.length
      · rw [if_pos (show o + 1 + d < o + 1 + vs.length by omega), if_pos (show o + 1 + d < o + (vs.length + 1) by omega), show o + 1 + d - o = d + 1 by omega, show o + 1 + d - (o + 1) = d by omega, List.getElem?_cons_succ]
      · rw [if_neg (show ¬ o + 1 + d < o + 1 + vs.length by omega), if_neg (show ¬ o + 1 + d < o + (vs.length + 1) by omega)]

theorem take_eq_of {cur : Array Value} {xs : List Value} {m : Nat} (hl : xs.length = m) (h : ∀ j, j < m → cur[j]? = xs[j]?) : cur.toList.take m = xs := by
  apply List.ext_getElem?
  intro j
  rw [List.getElem?_take, Array.getElem?_toList]
  split
  · exact h j (by assumption)
  · rw [List.getElem?_eq_none (by omega)]

theorem setCells_heap (b : Nat) : ∀ (vs : List Value) (o : Nat) (w : World) (cur : Array Value) (t : Nat), w.heap[b]? = some (.cells cur t (0, 0)) → o + vs.length ≤ cur.size →
    (w.setCells b o vs).heap[b]? = some (.cells (over cur o vs) t (0, 0))
  | [], o, w, cur, t, h, _ => by simp [World.setCells, h, over]
  | v :: vs, o, w, cur, t, h, hl => by
    rw [World.setCells, setCells_heap b vs (o + 1) _ _ t (heap_set h o v) (by simp at hl ⊢; omega), over_cons]
    simpa using hl

theorem setCells_touch (b : Nat) : ∀ (vs : List Value) (o : Nat) (w : World), Touch [b] w (w.setCells b o vs)
  | [], _, w => Touch.refl _ w
  | v :: vs, o, w => (Touch.setCell _ _ _ (by simp)).trans (setCells_touch b vs (o + 1) _)

/-- What an insert leaves: the new row, the old row's block, or a new one. -/
def Inserted (w w' : World) (base : Nat) (e : TypeId) (v v' : Value) (n i : Nat) (xs : List Value) (x : Value) : Prop :=
  w'.ownsRow base e 1 v' (n + 1) (ins xs i x) ∧ Touch v.ownBlock.toList w w' ∧ (v'.ownBlock = v.ownBlock ∨ ∃ k, v'.ownBlock = some k ∧ w.heap.size ≤ k)

theorem own_shift {w : World} {base g n cap i : Nat} {e : TypeId} {xs : List Value} {x : Value} (h : w.ownsRow base e 1 (.slice (some ⟨g, 0, none⟩) n cap) n xs) (hi : i ≤ n) (hc : n + 1 ≤ cap) :
    Inserted w ((w.drew.setCells g (i + 1) (xs.drop i)).setCells g i [x]) base e (.slice (some ⟨g, 0, none⟩) n cap) (.slice (some ⟨g, 0, none⟩) (n + 1) cap) n i xs x := by
  obtain ⟨h1, h2⟩ := h
  rcases h2 with ⟨h2, _⟩ | ⟨g', cap', cur, hv, hb, hg, hn, hm, hs, ht⟩
  · simp at h2
  simp only [Value.slice.injEq, Option.some.injEq, Addr.mk.injEq, true_and, and_true] at hv
  obtain ⟨rfl, rfl⟩ := hv
  have hl : xs.length = n := by simpa using h1
  have hd : (xs.drop i).length = n - i := by rw [List.length_drop, hl]
  have hsz : cur.size = cap := by simpa using hs
  have e1 := setCells_heap g (xs.drop i) (i + 1) w.drew cur e hg (by omega)
  have e2 := setCells_heap g [x] i _ _ e e1 (by rw [over_size _ _ _ (by omega)]; simp; omega)
  refine ⟨⟨by simp [ins_length _ _ _ (by omega : i ≤ xs.length), hl], .inr ⟨g, cap, _, rfl, hb, e2, hc, hm, ?_, ?_⟩⟩, ?_, .inl rfl⟩
  · rw [over_size _ _ _ (by rw [over_size _ _ _ (by omega)]; simp; omega), over_size _ _ _ (by omega)]; exact hs
  · refine take_eq_of (by simp [ins_length _ _ _ (by omega : i ≤ xs.length), hl]) (fun j hj => ?_)
    rw [over_get _ _ _ (by rw [over_size _ _ _ (by omega)]; simp; omega), ins_get _ _ _ (by omega)]
    simp only [List.length_cons, List.length_nil]
    by_cases h3 : j < i
    · rw [if_pos h3, if_pos h3, over_get _ _ _ (by omega), if_pos (by omega)]
      rw [← ht, List.getElem?_take, if_pos (by omega), Array.getElem?_toList]
    · rw [if_neg h3, if_neg h3]
      by_cases h4 : j = i
      · subst h4; rw [if_pos (by omega), if_pos rfl]; simp
      · rw [if_neg (by omega), if_neg h4, over_get _ _ _ (by omega), if_neg (by omega), if_pos (by omega), List.getElem?_drop]
        congr 1; omega
  · have ht : Touch [g] w ((w.drew.setCells g (i + 1) (xs.drop i)).setCells g i [x]) := ((Touch.drewN [g] w 1).trans (setCells_touch g _ _ _)).trans (setCells_touch g _ _ _)
    exact ht

theorem own_end {w : World} {base g n cap : Nat} {e : TypeId} {xs : List Value} {x : Value} (h : w.ownsRow base e 1 (.slice (some ⟨g, 0, none⟩) n cap) n xs) (hc : n + 1 ≤ cap) :
    Inserted w (w.setCells g n [x]) base e (.slice (some ⟨g, 0, none⟩) n cap) (.slice (some ⟨g, 0, none⟩) (n + 1) cap) n n xs x := by
  obtain ⟨h1, h2⟩ := h
  rcases h2 with ⟨h2, _⟩ | ⟨g', cap', cur, hv, hb, hg, hn, hm, hs, ht⟩
  · simp at h2
  simp only [Value.slice.injEq, Option.some.injEq, Addr.mk.injEq, true_and, and_true] at hv
  obtain ⟨rfl, rfl⟩ := hv
  have hl : xs.length = n := by simpa using h1
  have hsz : cur.size = cap := by simpa using hs
  have e2 := setCells_heap g [x] n w cur e hg (by simp; omega)
  refine ⟨⟨by simp [ins_length _ _ _ (by omega : n ≤ xs.length), hl], .inr ⟨g, cap, _, rfl, hb, e2, hc, hm, ?_, ?_⟩⟩, setCells_touch g _ _ _, .inl rfl⟩
  · rw [over_size _ _ _ (by simp; omega)]; exact hs
  · refine take_eq_of (by simp [ins_length _ _ _ (by omega : n ≤ xs.length), hl]) (fun j hj => ?_)
    rw [over_get _ _ _ (by simp; omega), ins_get _ _ _ (by omega)]
    by_cases h3 : j < n
    · rw [if_pos h3, if_pos h3, ← ht, List.getElem?_take, if_pos (by omega), Array.getElem?_toList]
    · obtain rfl : j = n := by omega
      simp

/-- A new row: the elements, x behind them, then zero values. -/
theorem own_endgrow {w : World} {base n c : Nat} {e : TypeId} {v : Value} {xs : List Value} {x z : Value} (hl : xs.length = n) (hz : z.cells.size = 1) (hbase : base ≤ w.heap.size) (hn : n + 1 ≤ maxLen) :
    Inserted w (w.drew.alloc (.cells ((xs ++ [x]).toArray ++ Builtin.zeroCells z.cells (grownCap w (n + 1) c e - (n + 1))) e)) base e v (.slice (some ⟨w.heap.size, 0, none⟩) (n + 1) (grownCap w (n + 1) c e)) n n xs x := by
  have h1 := grownCap_ge w (n + 1) c e
  have h2 := grownCap_le_maxLen w (n + 1) c e hn
  refine ⟨⟨by simp [ins_length _ _ _ (by omega : n ≤ xs.length), hl], .inr ⟨w.heap.size, _, _, rfl, hbase, heap_alloc_new w.drew _, h1, h2, ?_, ?_⟩⟩, (Touch.drewN _ w 1).trans (Touch.alloc _ _ _), .inr ⟨w.heap.size, rfl, Nat.le_refl _⟩⟩
  · simp [size_zeroCells, hz, hl]; omega
  · refine take_eq_of (by simp [ins_length _ _ _ (by omega : n ≤ xs.length), hl]) (fun j hj => ?_)
    rw [ins_get _ _ _ (by omega), Array.getElem?_append_left (by simp [hl]; omega), List.getElem?_toArray, List.getElem?_append]
    by_cases h3 : j < n
    · rw [if_pos (by omega), if_pos h3]
    · obtain rfl : j = n := by omega
      simp [hl]

/-- A new row: what stood ahead of i, x, the rest, then zero values. -/
theorem own_grow {w : World} {base n c i : Nat} {e : TypeId} {v : Value} {xs : List Value} {x z : Value} (hl : xs.length = n) (hi : i < n) (hz : z.cells.size = 1) (hbase : base ≤ w.heap.size) (hn : n + 1 ≤ maxLen) :
    Inserted w ((((w.alloc (.cells ((xs.take i).toArray ++ Builtin.zeroCells z.cells (n + 1 - i) ++ Builtin.zeroCells z.cells (grownCap w (n + 1) c e - (n + 1))) e)).drew.setCells w.heap.size i [x]).drew).setCells w.heap.size (i + 1) (xs.drop i)) base e v (.slice (some ⟨w.heap.size, 0, none⟩) (n + 1) (grownCap w (n + 1) c e)) n i xs x := by
  have h1 := grownCap_ge w (n + 1) c e
  have h2 := grownCap_le_maxLen w (n + 1) c e hn
  have hd : (xs.drop i).length = n - i := by rw [List.length_drop, hl]
  have hcs : ((xs.take i).toArray ++ Builtin.zeroCells z.cells (n + 1 - i) ++ Builtin.zeroCells z.cells (grownCap w (n + 1) c e - (n + 1))).size = grownCap w (n + 1) c e := by
    simp [size_zeroCells, hz, hl]; omega
  have h0 : (w.alloc (.cells ((xs.take i).toArray ++ Builtin.zeroCells z.cells (n + 1 - i) ++ Builtin.zeroCells z.cells (grownCap w (n + 1) c e - (n + 1))) e)).heap[w.heap.size]? = _ := heap_alloc_new w _
  generalize hC : ((xs.take i).toArray ++ Builtin.zeroCells z.cells (n + 1 - i) ++ Builtin.zeroCells z.cells (grownCap w (n + 1) c e - (n + 1))) = C at hcs h0 ⊢
  have hpre : ∀ j, j < i → C[j]? = xs[j]? := fun j hj => by
    rw [← hC, Array.append_assoc, Array.getElem?_append_left (by simp [hl]; omega), List.getElem?_toArray, List.getElem?_take, if_pos hj]
  have e1 := setCells_heap w.heap.size [x] i (w.alloc (.cells C e)).drew C e h0 (by simp; omega)
  have e2 := setCells_heap w.heap.size (xs.drop i) (i + 1) ((w.alloc (.cells C e)).drew.setCells w.heap.size i [x]).drew _ e e1 (by rw [over_size _ _ _ (by simp; omega)]; omega)
  refine ⟨⟨by simp [ins_length _ _ _ (by omega : i ≤ xs.length), hl], .inr ⟨w.heap.size, _, _, rfl, hbase, e2, h1, h2, ?_, ?_⟩⟩, ?_, .inr ⟨w.heap.size, rfl, Nat.le_refl _⟩⟩
  · rw [over_size _ _ _ (by rw [over_size _ _ _ (by simp; omega)]; omega), over_size _ _ _ (by simp; omega), hcs]; simp
  · refine take_eq_of (by simp [ins_length _ _ _ (by omega : i ≤ xs.length), hl]) (fun j hj => ?_)
    rw [over_get _ _ _ (by rw [over_size _ _ _ (by simp; omega)]; omega), ins_get _ _ _ (by omega)]
    by_cases h3 : j < i
    · rw [if_pos (by omega), if_pos h3, over_get _ _ _ (by simp; omega), if_pos h3, hpre j h3]
    · rw [if_neg h3]
      by_cases h4 : j = i
      · subst h4; rw [if_pos (by omega), if_pos rfl, over_get _ _ _ (by simp; omega), if_neg (by omega)]; simp
      · rw [if_neg (by omega), if_pos (by omega), if_neg h4, List.getElem?_drop]
        congr 1; omega
  · have t1 : Touch [w.heap.size] w ((w.alloc (.cells C e)).drew.setCells w.heap.size i [x]).drew := (((Touch.alloc _ w _).trans (Touch.drewN _ _ 1)).trans (setCells_touch _ _ _ _)).trans (Touch.drewN _ _ 1)
    exact (t1.trans (setCells_touch _ _ _ _)).mono (fun k hk => .inr (by simp at hk; omega))

end Go.Proofs.YtcjblafohfiiaabGreat
