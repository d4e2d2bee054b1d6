/-
  The lists that wait.
-/
import Derived.Test.YtdcmpilgfkaamaaDoorK7
set_option linter.unusedVariables false
set_option maxRecDepth 20000
namespace Go.Proofs.YtdcmpilgfkaamaaDoor
open Go.RowKit

/-- A list of numbers in a block of its own, no longer than it is. -/
def Lon (w : World) (k : Nat) (l : List Int) : Prop := w.heap[k]? = some (.cells (ints l).toArray 3 (0, 0))

theorem Lon.keep {w w' : World} {k : Nat} {l : List Int} {G : List Nat} (h : Lon w k l) (ht : Touch G w w') (hk : k ∉ G) : Lon w' k l := (ht.block k (heap_lt h) hk).trans h

theorem Lon.cell {w : World} {k : Nat} {l : List Int} (h : Lon w k l) (j : Nat) (x : Value) (hj : (ints l)[j]? = some x) : w.cell? ⟨k, j, none⟩ = some x := by
  rw [heap_cell h]; simpa using hj

theorem Lon.rd {w : World} {k : Nat} {l : List Int} {K : List Nat} (h : Lon w k l) (hk : k ∈ K) (cap : Nat) : Rd w K (.slice (some ⟨k, 0, none⟩) l.length cap) (ints l) :=
  ⟨k, cap, by simp [ints], hk, fun j x hj => h.cell j x hj⟩

/-- The lists that wait, their notes and marks. -/
structure Wts (w : World) (K : List Nat) (A N : List Value) (ms : List Int) : Prop where
  l1 : A.length = N.length
  l2 : A.length = ms.length
  at_ : ∀ (i : Nat) v, A[i]? = some v → ∃ u l m g, N[i]? = some u ∧ ms[i]? = some m ∧ 0 ≤ m ∧ m ≤ 100000 ∧ v = .slice (some ⟨g, 0, none⟩) l.length l.length ∧ g ∈ K ∧ Lon w g l ∧ Rd w K u (ints l) ∧ 1 ≤ l.length ∧ l.length ≤ 16

theorem Wts.nil (w : World) (K : List Nat) : Wts w K [] [] [] := ⟨rfl, rfl, fun i v hv => by simp at hv⟩

theorem Wts.keep {w w' : World} {K K' G : List Nat} {A N : List Value} {ms : List Int} (h : Wts w K A N ms) (ht : Touch G w w') (hk : ∀ k, k ∈ K → k ∈ K') (hA : ∀ v, v ∈ A → ∀ k, v.ownBlock = some k → k ∉ G) (hN : ∀ v, v ∈ N → ∀ k, v.ownBlock = some k → k ∉ G) : Wts w' K' A N ms := by
  refine ⟨h.l1, h.l2, fun i v hv => ?_⟩
  obtain ⟨u, l, m, g, h1, h2, h3, h4, h5, h6, h7, h8, h9⟩ := h.at_ i v hv
  have q1 := h8.keep ht (hN u (List.mem_of_getElem? h1))
  obtain ⟨g2, c2, e2, m2, r2⟩ := q1
  exact ⟨u, l, m, g, h1, h2, h3, h4, h5, hk g h6, h7.keep ht (hA v (List.mem_of_getElem? hv) g (by rw [h5]; rfl)), ⟨g2, c2, e2, hk g2 m2, r2⟩, h9⟩

theorem Wts.prs {w : World} {K : List Nat} {A N : List Value} {ms : List Int} (h : Wts w K A N ms) : Prs w K A N :=
  ⟨h.l1, fun i v hv => by
    obtain ⟨u, l, m, g, h1, h2, h3, h4, h5, h6, h7, h8, h9, h10⟩ := h.at_ i v hv
    exact ⟨u, l, h1, by rw [h5]; exact h7.rd h6 _, h8, by omega⟩⟩

theorem Wts.snoc {w : World} {K : List Nat} {A N : List Value} {ms : List Int} (h : Wts w K A N ms) {u : Value} {l : List Int} {m : Int} {g : Nat} (h3 : 0 ≤ m) (h4 : m ≤ 100000) (h6 : g ∈ K) (h7 : Lon w g l) (h8 : Rd w K u (ints l)) (h9 : 1 ≤ l.length) (h10 : l.length ≤ 16) :
    Wts w K (A ++ [.slice (some ⟨g, 0, none⟩) l.length l.length]) (N ++ [u]) (ms ++ [m]) := by
  refine ⟨by simp [h.l1], by simp [h.l2], fun i x hx => ?_⟩
  by_cases hi : i < A.length
  · rw [List.getElem?_append_left hi] at hx
    obtain ⟨u', l', m', g', q1, q2, q3⟩ := h.at_ i x hx
    exact ⟨u', l', m', g', by rw [List.getElem?_append_left (by have := h.l1; omega)]; exact q1, by rw [List.getElem?_append_left (by have := h.l2; omega)]; exact q2, q3⟩
  · have hl := (List.getElem?_eq_some_iff.1 hx).1
    simp at hl
    obtain rfl : i = A.length := by omega
    rw [List.getElem?_append_right (Nat.le_refl _)] at hx
    simp at hx
    subst hx
    exact ⟨u, l, m, g, by rw [h.l1, List.getElem?_append_right (Nat.le_refl _)]; simp, by rw [h.l2, List.getElem?_append_right (Nat.le_refl _)]; simp, h3, h4, rfl, h6, h7, h8, h9, h10⟩

theorem Wts.tail {w : World} {K : List Nat} {A N : List Value} {ms : List Int} {k : Nat} (h : Wts w K (A.drop k) (N.drop k) (ms.drop k)) : Wts w K (A.drop (k + 1)) (N.drop (k + 1)) (ms.drop (k + 1)) := by
  have l1 := h.l1
  have l2 := h.l2
  simp only [List.length_drop] at l1 l2
  refine ⟨by simp only [List.length_drop]; omega, by simp only [List.length_drop]; omega, fun i v hv => ?_⟩
  rw [List.getElem?_drop] at hv
  have := h.at_ (i + 1) v (by rw [List.getElem?_drop, show k + (i + 1) = k + 1 + i by omega]; exact hv)
  obtain ⟨u, l, m, g, h1, h2, h3⟩ := this
  refine ⟨u, l, m, g, ?_, ?_, h3⟩
  · rw [List.getElem?_drop] at h1 ⊢; rw [show k + 1 + i = k + (i + 1) by omega]; exact h1
  · rw [List.getElem?_drop] at h2 ⊢; rw [show k + 1 + i = k + (i + 1) by omega]; exact h2

/-- The blocks of those that wait are apart from one another, and from X's. -/
structure Dst (A X : List Value) : Prop where
  one : (A.map Value.ownBlock).Nodup
  two : ∀ v, v ∈ A → ∀ u, u ∈ X → v.ownBlock ≠ u.ownBlock

theorem Dst.less {A X A' X' : List Value} (h : Dst A X) (hA : A'.Sublist A) (hX : ∀ u, u ∈ X' → u ∈ X) : Dst A' X' :=
  ⟨h.one.sublist (hA.map _), fun v hv u hu => h.two v (hA.subset hv) u (hX u hu)⟩

theorem Dst.cons {A X : List Value} (h : Dst A X) {u : Value} (hu : ∀ v, v ∈ A → v.ownBlock ≠ u.ownBlock) : Dst A (u :: X) :=
  ⟨h.one, fun v hv x hx => by
    rcases List.mem_cons.1 hx with rfl | hx
    · exact hu v hv
    · exact h.two v hv x hx⟩

/-- One that waited is among the others now. -/
theorem Dst.move {P Q X : List Value} {v : Value} (h : Dst (P ++ v :: Q) X) : Dst (P ++ Q) (v :: X) := by
  have hs : (P ++ Q).Sublist (P ++ v :: Q) := List.Sublist.append_left (List.sublist_cons_self v Q) P
  refine (h.less hs (fun u hu => hu)).cons (fun x hx => ?_)
  have h1 := h.one
  rw [List.map_append, List.map_cons] at h1
  have h2 := (List.nodup_append.1 h1)
  have h3 := List.nodup_cons.1 h2.2.1
  rcases List.mem_append.1 hx with hx | hx
  · intro e
    exact h2.2.2 _ (List.mem_map.2 ⟨x, hx, rfl⟩) v.ownBlock (by simp) e
  · intro e
    exact h3.1 (e ▸ List.mem_map.2 ⟨x, hx, rfl⟩)

theorem Dst.ne {P Q X : List Value} {v : Value} (h : Dst (P ++ v :: Q) X) : (∀ x, x ∈ P ++ Q → x.ownBlock ≠ v.ownBlock) ∧ ∀ u, u ∈ X → u.ownBlock ≠ v.ownBlock :=
  ⟨fun x hx => h.move.two x hx v (by simp), fun u hu => (h.two v (by simp) u hu).symm⟩

/-- What a call does to the book, that may write into what waits. -/
structure Ey (w w' : World) (b : Nat) (f f' : Nat → Value) (K K' : List Nat) : Prop where
  t : ∃ G, Touch G w w' ∧ ∀ k, k ∈ G → Own b f k ∨ k ∈ K
  o : ∀ k, Own b f' k → Own b f k ∨ w.heap.size ≤ k
  k : ∀ k, k ∈ K → k ∈ K'
  n : ∀ k, k ∈ K' → k ∈ K ∨ Own b f k ∨ w.heap.size ≤ k

theorem Ex.ey {w w' : World} {b : Nat} {f f' : Nat → Value} {K K' : List Nat} (h : Ex w w' b f f' K K') : Ey w w' b f f' K K' := by
  obtain ⟨G, h1, h2⟩ := h.t
  exact ⟨⟨G, h1, fun k hk => .inl (h2 k hk)⟩, h.o, h.k, fun k hk => (h.n k hk).elim .inl (fun h => .inr (.inr h))⟩

theorem Ey.refl (w : World) (b : Nat) (f : Nat → Value) (K : List Nat) : Ey w w b f f K K := (Ex.refl w b f K).ey

theorem Ey.trans {w w1 w2 : World} {b : Nat} {f f1 f2 : Nat → Value} {K K1 K2 : List Nat} (h : Ey w w1 b f f1 K K1) (g : Ey w1 w2 b f1 f2 K1 K2) : Ey w w2 b f f2 K K2 := by
  obtain ⟨G, h1, h2⟩ := h.t
  obtain ⟨G2, g1, g2⟩ := g.t
  refine ⟨⟨G ++ G2.filter (fun x => decide (x < w.heap.size)), ?_, fun k hk => ?_⟩, fun k hk => ?_, fun k hk => g.k k (h.k k hk), fun k hk => ?_⟩
  · refine (h1.mono (fun k hk => .inl (by simp [hk]))).then g1 (fun x hx => ?_)
    by_cases hlt : x < w.heap.size
    · exact .inl (by simp [hx, hlt])
    · exact .inr (by omega)
  · rcases List.mem_append.1 hk with hk | hk
    · exact h2 k hk
    · simp only [List.mem_filter, decide_eq_true_eq] at hk
      rcases g2 k hk.1 with h3 | h3
      · rcases h.o k h3 with h4 | h4
        · exact .inl h4
        · omega
      · rcases h.n k h3 with h4 | h4 | h4
        · exact .inr h4
        · exact .inl h4
        · omega
  · rcases g.o k hk with h3 | h3
    · exact h.o k h3
    · exact .inr (Nat.le_trans h1.size h3)
  · rcases g.n k hk with h3 | h3 | h3
    · exact h.n k h3
    · rcases h.o k h3 with h4 | h4
      · exact .inr (.inl h4)
      · exact .inr (.inr h4)
    · exact .inr (.inr (Nat.le_trans h1.size h3))

/-- Rows whose blocks lie apart from what was touched. -/
theorem Prs.keepNe {w w' : World} {K G : List Nat} {A B : List Value} (h : Prs w K A B) (ht : Touch G w w') (hA : ∀ v, v ∈ A → ∀ k, v.ownBlock = some k → k ∉ G) (hB : ∀ v, v ∈ B → ∀ k, v.ownBlock = some k → k ∉ G) : Prs w' K A B :=
  ⟨h.len, fun i v hv => by
    obtain ⟨u, l, h1, h2, h3, h4⟩ := h.at_ i v hv
    exact ⟨u, l, h1, h2.keep ht (hA v (List.mem_of_getElem? hv)), h3.keep ht (hB u (List.mem_of_getElem? h1)), h4⟩⟩

theorem Frs.keepNe {w w' : World} {K G : List Nat} {A : List Value} {ms : List Int} (h : Frs w K A ms) (ht : Touch G w w') (hA : ∀ v, v ∈ A → ∀ k, v.ownBlock = some k → k ∉ G) : Frs w' K A ms :=
  ⟨h.len, fun i v hv => by
    obtain ⟨l, m, h1, h2, h3, h4, h5, h6⟩ := h.at_ i v hv
    exact ⟨l, m, h1, h2, h3, h4.keep ht (hA v (List.mem_of_getElem? hv)), h5, h6⟩⟩

theorem Frs.snoc {w : World} {K : List Nat} {A : List Value} {ms : List Int} (h : Frs w K A ms) {l : List Int} {m : Int} {g : Nat} (h3 : 0 ≤ m) (h4 : m ≤ 100000) (h6 : g ∈ K) (h7 : Lon w g l) (h10 : l.length ≤ 16) : Frs w K (A ++ [.slice (some ⟨g, 0, none⟩) l.length l.length]) (ms ++ [m]) := by
  refine ⟨by simp [h.len], fun i x hx => ?_⟩
  by_cases hi : i < A.length
  · rw [List.getElem?_append_left hi] at hx
    obtain ⟨l', m', q1, q2⟩ := h.at_ i x hx
    exact ⟨l', m', by rw [List.getElem?_append_left (by have := h.len; omega)]; exact q1, q2⟩
  · have hl := (List.getElem?_eq_some_iff.1 hx).1
    simp at hl
    obtain rfl : i = A.length := by omega
    rw [List.getElem?_append_right (Nat.le_refl _)] at hx
    simp at hx
    subst hx
    exact ⟨l, m, by rw [h.len, List.getElem?_append_right (Nat.le_refl _)]; simp, h3, h4, h7.rd h6 _, rfl, h10⟩

theorem Ex.wts {w w' : World} {base b : Nat} {f f' : Nat → Value} {xs : Nat → List Value} {K K' : List Nat} (h : Ex w w' b f f' K K') (hi : Iv w base b f xs K) {A N : List Value} {ms : List Int} (hp : Wts w K A N ms) : Wts w' K' A N ms := by
  obtain ⟨G, h1, h2⟩ := h.t
  refine hp.keep h1 h.k (fun v hv k hk hm => ?_) (fun v hv k hk hm => ?_)
  · obtain ⟨i, hi2⟩ := List.getElem?_of_mem hv
    obtain ⟨u, l, m, g, q1, q2, q3, q4, q5, q6, q7⟩ := hp.at_ i v hi2
    rw [q5] at hk; simp [Value.ownBlock] at hk; subst hk
    exact hi.ownK (h2 _ hm) q6
  · obtain ⟨i, hi2⟩ := List.getElem?_of_mem hv
    have hlt := (List.getElem?_eq_some_iff.1 hi2).1
    obtain ⟨v2, hv2⟩ : ∃ v2, A[i]? = some v2 := ⟨_, List.getElem?_eq_getElem (by have := hp.l1; omega)⟩
    obtain ⟨u, l, m, g, q1, q2, q3, q4, q5, q6, q7, q8, q9⟩ := hp.at_ i v2 hv2
    rw [hi2] at q1; simp at q1; subst q1
    obtain ⟨g2, e1, e2⟩ := q8.inK
    rw [e1] at hk; simp at hk; subst hk
    exact hi.ownK (h2 _ hm) e2

/-- The numbers that a list is written full with. -/
def full (m : Int) (n : Nat) : List Int := (List.range n).map fun (j : Nat) => m + 3 * (j : Int)

theorem full_length (m : Int) (n : Nat) : (full m n).length = n := by simp [full]

theorem full_step (m : Int) (l : List Int) (i : Nat) (hi : i < l.length) : (ints (full m i ++ l.drop i)).toArray.setIfInBounds i (.int .i64 (m + 3 * (i : Int))) = (ints (full m (i + 1) ++ l.drop (i + 1))).toArray := by
  apply Array.ext_getElem?
  intro j
  rw [Array.getElem?_setIfInBounds]
  simp only [List.getElem?_toArray, List.size_toArray, ints, List.getElem?_map, List.length_map, List.length_append, full_length, List.length_drop]
  by_cases hj : i = j
  · subst hj
    rw [if_pos rfl, if_pos (by omega), List.getElem?_append_left (by rw [full_length]; omega)]
    simp [full]
  · rw [if_neg hj]
    by_cases hlt : j < i
    · rw [List.getElem?_append_left (by rw [full_length]; exact hlt), List.getElem?_append_left (by rw [full_length]; omega)]
      simp [full, hlt, show j < i + 1 by omega]
    · rw [List.getElem?_append_right (by rw [full_length]; omega), List.getElem?_append_right (by rw [full_length]; omega), full_length, full_length, List.getElem?_drop, List.getElem?_drop]
      congr 2
      omega

end Go.Proofs.YtdcmpilgfkaamaaDoor
