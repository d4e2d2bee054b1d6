/-
  The lists that wait.
-/
import Derived.Test.YtcijdbhabbepaaaGreatDoorKG7b
set_option linter.unusedVariables false
set_option maxRecDepth 20000
namespace Go.Proofs.YtcijdbhabbepaaaGreatDoor.Kg
open Go.RowKit

/-- The lists that wait, their notes and marks. -/
structure Wts (w : World) (base : Nat) (K : List Nat) (A N : List Value) (ms : List Int) : Prop where
  l1 : A.length = N.length
  l2 : A.length = ms.length
  at_ : ∀ (i : Nat) v, A[i]? = some v → ∃ u l m, N[i]? = some u ∧ ms[i]? = some m ∧ 0 ≤ m ∧ m ≤ 1000000000000000 ∧ Row w base v l ∧ (∀ g, v.ownBlock = some g → g ∈ K) ∧ Rd w K u (ints l) ∧ l.length ≤ 10000000000000

theorem Wts.nil (w : World) (base : Nat) (K : List Nat) : Wts w base K [] [] [] := ⟨rfl, rfl, fun i v hv => by simp at hv⟩

theorem Wts.keep {w w' : World} {base : Nat} {K K' G : List Nat} {A N : List Value} {ms : List Int} (h : Wts w base K A N ms) (ht : Touch G w w') (hk : ∀ k, k ∈ K → k ∈ K') (hA : ∀ v, v ∈ A → ∀ k, v.ownBlock = some k → k ∉ G) (hN : ∀ v, v ∈ N → ∀ k, v.ownBlock = some k → k ∉ G) : Wts w' base K' A N ms := by
  refine ⟨h.l1, h.l2, fun i v hv => ?_⟩
  obtain ⟨u, l, m, h1, h2, h3, h4, h5, h6, h7, h8⟩ := h.at_ i v hv
  exact ⟨u, l, m, h1, h2, h3, h4, row_keep2 h5 ht (hA v (List.mem_of_getElem? hv)), fun g hg => hk g (h6 g hg), (h7.keep ht (hN u (List.mem_of_getElem? h1))).wide hk, h8⟩

theorem Wts.prs {w : World} {base : Nat} {K : List Nat} {A N : List Value} {ms : List Int} (h : Wts w base K A N ms) : Prs w K A N :=
  ⟨h.l1, fun i v hv => by
    obtain ⟨u, l, m, h1, h2, h3, h4, h5, h6, h7, h8⟩ := h.at_ i v hv
    exact ⟨u, l, h1, Rd.row h5 h6, h7, by omega⟩⟩

theorem Wts.snoc {w : World} {base : Nat} {K : List Nat} {A N : List Value} {ms : List Int} (h : Wts w base K A N ms) {u v : Value} {l : List Int} {m : Int} (h3 : 0 ≤ m) (h4 : m ≤ 1000000000000000) (h5 : Row w base v l) (h6 : ∀ g, v.ownBlock = some g → g ∈ K) (h7 : Rd w K u (ints l)) (h8 : l.length ≤ 10000000000000) :
    Wts w base K (A ++ [v]) (N ++ [u]) (ms ++ [m]) := by
  refine ⟨by simp [h.l1], by simp [h.l2], fun i x hx => ?_⟩
  by_cases hi : i < A.length
  · rw [List.getElem?_append_left hi] at hx
    obtain ⟨u', l', m', q1, q2, q3⟩ := h.at_ i x hx
    exact ⟨u', l', m', by rw [List.getElem?_append_left (by have := h.l1; omega)]; exact q1, by rw [List.getElem?_append_left (by have := h.l2; omega)]; exact q2, q3⟩
  · have hl := (List.getElem?_eq_some_iff.1 hx).1
    simp at hl
    obtain rfl : i = A.length := by omega
    rw [List.getElem?_append_right (Nat.le_refl _)] at hx
    simp at hx
    subst hx
    exact ⟨u, l, m, by rw [h.l1, List.getElem?_append_right (Nat.le_refl _)]; simp, by rw [h.l2, List.getElem?_append_right (Nat.le_refl _)]; simp, h3, h4, h5, h6, h7, h8⟩

theorem Wts.tail {w : World} {base : Nat} {K : List Nat} {A N : List Value} {ms : List Int} {k : Nat} (h : Wts w base K (A.drop k) (N.drop k) (ms.drop k)) : Wts w base K (A.drop (k + 1)) (N.drop (k + 1)) (ms.drop (k + 1)) := by
  have l1 := h.l1
  have l2 := h.l2
  simp only [List.length_drop] at l1 l2
  refine ⟨by simp only [List.length_drop]; omega, by simp only [List.length_drop]; omega, fun i v hv => ?_⟩
  rw [List.getElem?_drop] at hv
  have := h.at_ (i + 1) v (by rw [List.getElem?_drop, show k + (i + 1) = k + 1 + i by omega]; exact hv)
  obtain ⟨u, l, m, h1, h2, h3⟩ := this
  refine ⟨u, l, m, ?_, ?_, h3⟩
  · rw [List.getElem?_drop] at h1 ⊢; rw [show k + 1 + i = k + (i + 1) by omega]; exact h1
  · rw [List.getElem?_drop] at h2 ⊢; rw [show k + 1 + i = k + (i + 1) by omega]; exact h2

theorem Wts.inA {w : World} {base : Nat} {K : List Nat} {A N : List Value} {ms : List Int} (h : Wts w base K A N ms) {v : Value} (hv : v ∈ A) : ∀ g, v.ownBlock = some g → g ∈ K := by
  obtain ⟨i, hi⟩ := List.getElem?_of_mem hv
  obtain ⟨u, l, m, h1, h2, h3, h4, h5, h6, h7, h8⟩ := h.at_ i v hi
  exact h6

theorem Wts.inN {w : World} {base : Nat} {K : List Nat} {A N : List Value} {ms : List Int} (h : Wts w base K A N ms) {v : Value} (hv : v ∈ N) : ∀ g, v.ownBlock = some g → g ∈ K := by
  obtain ⟨i, hi⟩ := List.getElem?_of_mem hv
  have hlt := (List.getElem?_eq_some_iff.1 hi).1
  obtain ⟨v2, hv2⟩ : ∃ v2, A[i]? = some v2 := ⟨_, List.getElem?_eq_getElem (by have := h.l1; omega)⟩
  obtain ⟨u, l, m, h1, h2, h3, h4, h5, h6, h7, h8⟩ := h.at_ i v2 hv2
  rw [hi] at h1; simp at h1; subst h1
  exact h7.inK

/-- The blocks of those that wait are apart from one another, and from X's. -/
structure Dst (A X : List Value) : Prop where
  one : A.Pairwise Far
  two : ∀ v, v ∈ A → ∀ u, u ∈ X → Far v u

theorem Dst.less {A X A' X' : List Value} (h : Dst A X) (hA : A'.Sublist A) (hX : ∀ u, u ∈ X' → u ∈ X) : Dst A' X' :=
  ⟨h.one.sublist hA, fun v hv u hu => h.two v (hA.subset hv) u (hX u hu)⟩

theorem Dst.cons {A X : List Value} (h : Dst A X) {u : Value} (hu : ∀ v, v ∈ A → Far v u) : Dst A (u :: X) :=
  ⟨h.one, fun v hv x hx => by
    rcases List.mem_cons.1 hx with rfl | hx
    · exact hu v hv
    · exact h.two v hv x hx⟩

/-- One that waited is among the others now. -/
theorem Dst.move {P Q X : List Value} {v : Value} (h : Dst (P ++ v :: Q) X) : Dst (P ++ Q) (v :: X) := by
  have hs : (P ++ Q).Sublist (P ++ v :: Q) := List.Sublist.append_left (List.sublist_cons_self v Q) P
  refine (h.less hs (fun u hu => hu)).cons (fun x hx => ?_)
  have h2 := List.pairwise_append.1 h.one
  have h3 := List.pairwise_cons.1 h2.2.1
  rcases List.mem_append.1 hx with hx | hx
  · exact h2.2.2 x hx v (by simp)
  · exact (h3.1 x hx).symm

theorem Dst.ne {P Q X : List Value} {v : Value} (h : Dst (P ++ v :: Q) X) : (∀ x, x ∈ P ++ Q → Far v x) ∧ ∀ u, u ∈ X → Far v u :=
  ⟨fun x hx => (h.move.two x hx v (by simp)).symm, fun u hu => h.two v (by simp) u hu⟩

/-- Those written full (F) lie apart from one another, from Y's, and from X's but for themselves. -/
structure Fsh (F X Y : List Value) : Prop where
  one : F.Pairwise Far
  two : ∀ v, v ∈ F → ∀ x, x ∈ X → Far v x ∨ x = v
  three : ∀ v, v ∈ F → ∀ x, x ∈ Y → Far v x

theorem Fsh.snoc {F X Y X' Y' : List Value} {v : Value} (h : Fsh F X Y) (hF : ∀ u, u ∈ F → Far v u) (hX : ∀ x, x ∈ X' → (x ∈ X ∧ Far v x) ∨ x = v ∨ (Far v x ∧ ∀ u, u ∈ F → Far u x)) (hY : ∀ x, x ∈ Y' → Far v x ∧ x ∈ Y) : Fsh (F ++ [v]) X' Y' := by
  refine ⟨?_, fun u hu x hx => ?_, fun u hu x hx => ?_⟩
  · rw [List.pairwise_append]
    exact ⟨h.one, by simp, fun a ha c hc => by simp at hc; subst hc; exact (hF a ha).symm⟩
  · rcases List.mem_append.1 hu with h9 | h9
    · rcases hX x hx with ⟨h1, h2⟩ | e | ⟨h1, h2⟩
      · exact h.two u h9 x h1
      · rw [e]; exact .inl (hF u h9).symm
      · exact .inl (h2 u h9)
    · have e9 : u = v := by simpa using h9
      rw [e9]
      rcases hX x hx with ⟨h1, h2⟩ | e | ⟨h1, h2⟩
      · exact .inl h2
      · exact .inr e
      · exact .inl h1
  · rcases List.mem_append.1 hu with h9 | h9
    · exact h.three u h9 x (hY x hx).2
    · have e9 : u = v := by simpa using h9
      rw [e9]; exact (hY x hx).1

/-- What a call does to the book, that may write into what waits. -/
structure Ey (w w' : World) (b : Nat) (f f' : Nat → Value) (K K' : List Nat) : Prop where
  t : ∃ G, Touch G w w' ∧ ∀ k, k ∈ G → Own b f k ∨ k ∈ K
  o : ∀ k, Own b f' k → Own b f k ∨ w.heap.size ≤ k
  k : ∀ k, k ∈ K → k ∈ K'
  n : ∀ k, k ∈ K' → k ∈ K ∨ Own b f k ∨ w.heap.size ≤ k

theorem Ex.ey {w w' : World} {b : Nat} {f f' : Nat → Value} {K K' : List Nat} (h : Ex w w' b f f' K K') : Ey w w' b f f' K K' := by
  obtain ⟨G, h1, h2⟩ := h.t
  exact ⟨⟨G, h1, fun k hk => .inl (h2 k hk)⟩, h.o, h.k, fun k hk => (h.n k hk).elim .inl (fun h => .inr (.inr h))⟩

theorem Ey.refl (w : World) (b : Nat) (f : Nat → Value) (K : List Nat) : Ey w w b f f K K := (Ex.refl w b f K).ey

theorem Ey.trans {w w1 w2 : World} {b : Nat} {f f1 f2 : Nat → Value} {K K1 K2 : List Nat} (h : Ey w w1 b f f1 K K1) (g : Ey w1 w2 b f1 f2 K1 K2) : Ey w w2 b f f2 K K2 := by
  obtain ⟨G, h1, h2⟩ := h.t
  obtain ⟨G2, g1, g2⟩ := g.t
  refine ⟨⟨G ++ G2.filter (fun x => decide (x < w.heap.size)), ?_, fun k hk => ?_⟩, fun k hk => ?_, fun k hk => g.k k (h.k k hk), fun k hk => ?_⟩
  · refine (h1.mono (fun k hk => .inl (by simp [hk]))).then g1 (fun x hx => ?_)
    by_cases hlt : x < w.heap.size
    · exact .inl (by simp [hx, hlt])
    · exact .inr (by omega)
  · rcases List.mem_append.1 hk with hk | hk
    · exact h2 k hk
    · simp only [List.mem_filter, decide_eq_true_eq] at hk
      rcases g2 k hk.1 with h3 | h3
      · rcases h.o k h3 with h4 | h4
        · exact .inl h4
        · omega
      · rcases h.n k h3 with h4 | h4 | h4
        · exact .inr h4
        · exact .inl h4
        · omega
  · rcases g.o k hk with h3 | h3
    · exact h.o k h3
    · exact .inr (Nat.le_trans h1.size h3)
  · rcases g.n k hk with h3 | h3 | h3
    · exact h.n k h3
    · rcases h.o k h3 with h4 | h4
      · exact .inr (.inl h4)
      · exact .inr (.inr h4)
    · exact .inr (.inr (Nat.le_trans h1.size h3))

theorem Ez.ey {w w' : World} {b : Nat} {f f' : Nat → Value} {K K' : List Nat} {X : List Value} (h : Ez w w' b f f' K K' X) (hX : ∀ x, x ∈ X → ∀ g, x.ownBlock = some g → g ∈ K) : Ey w w' b f f' K K' := by
  obtain ⟨G, h1, h2⟩ := h.t
  exact ⟨⟨G, h1, fun k hk => (h2 k hk).imp id (fun ⟨x, q1, q2⟩ => hX x q1 k q2)⟩, h.o, h.k, fun k hk => (h.n k hk).elim .inl (fun h => .inr (.inr h))⟩

/-- Rows whose blocks lie apart from what was touched. -/
theorem Prs.keepNe {w w' : World} {K G : List Nat} {A B : List Value} (h : Prs w K A B) (ht : Touch G w w') (hA : ∀ v, v ∈ A → ∀ k, v.ownBlock = some k → k ∉ G) (hB : ∀ v, v ∈ B → ∀ k, v.ownBlock = some k → k ∉ G) : Prs w' K A B :=
  ⟨h.len, fun i v hv => by
    obtain ⟨u, l, h1, h2, h3, h4⟩ := h.at_ i v hv
    exact ⟨u, l, h1, h2.keep ht (hA v (List.mem_of_getElem? hv)), h3.keep ht (hB u (List.mem_of_getElem? h1)), h4⟩⟩

theorem Frs.snoc {w : World} {base : Nat} {K : List Nat} {A : List Value} {ms : List Int} (h : Frs w base K 0 A ms) {l : List Int} {m : Int} {v : Value} (h3 : 0 ≤ m) (h4 : m ≤ 1000000000000000) (h5 : Row w base v l) (h6 : ∀ g, v.ownBlock = some g → g ∈ K) (h8 : l.length ≤ 10000000000000) : Frs w base K 0 (A ++ [v]) (ms ++ [m]) := by
  refine ⟨by simp [h.len], fun i x h0 hx => ?_⟩
  by_cases hi : i < A.length
  · rw [List.getElem?_append_left hi] at hx
    obtain ⟨l', m', q1, q2⟩ := h.at_ i x h0 hx
    exact ⟨l', m', by rw [List.getElem?_append_left (by have := h.len; omega)]; exact q1, q2⟩
  · have hl := (List.getElem?_eq_some_iff.1 hx).1
    simp at hl
    obtain rfl : i = A.length := by omega
    rw [List.getElem?_append_right (Nat.le_refl _)] at hx
    simp at hx
    subst hx
    exact ⟨l, m, by rw [h.len, List.getElem?_append_right (Nat.le_refl _)]; simp, h3, h4, h5, h6, h8⟩

theorem Frs.keepNe {w w' : World} {base : Nat} {K G : List Nat} {A : List Value} {ms : List Int} (h : Frs w base K 0 A ms) (ht : Touch G w w') (hA : ∀ v, v ∈ A → ∀ k, v.ownBlock = some k → k ∉ G) : Frs w' base K 0 A ms :=
  h.keep ht (fun _ hq => hq) (fun i v _ hv => hA v (List.mem_of_getElem? hv))

theorem Frs.nil_ (w : World) (base : Nat) (K : List Nat) : Frs w base K 0 [] [] := ⟨rfl, fun i v _ hv => by simp at hv⟩

theorem Frs.inK {w : World} {base : Nat} {K : List Nat} {A : List Value} {ms : List Int} (h : Frs w base K 0 A ms) {v : Value} (hv : v ∈ A) : ∀ g, v.ownBlock = some g → g ∈ K := by
  obtain ⟨i, hi⟩ := List.getElem?_of_mem hv
  obtain ⟨l, m, h1, h2, h3, h4, h5, h6⟩ := h.at_ i v (Nat.zero_le _) hi
  exact h5

theorem Ex.wts {w w' : World} {base b bs : Nat} {f f' : Nat → Value} {xs : Nat → List Value} {K K' : List Nat} (h : Ex w w' b f f' K K') (hi : Iv w base b f xs K) {A N : List Value} {ms : List Int} (hp : Wts w bs K A N ms) : Wts w' bs K' A N ms := by
  obtain ⟨G, h1, h2⟩ := h.t
  exact hp.keep h1 h.k (fun v hv k hk hm => hi.ownK (h2 k hm) (hp.inA hv k hk)) (fun v hv k hk hm => hi.ownK (h2 k hm) (hp.inN hv k hk))

/-- The numbers that a list is written full with. -/
def full (m : Int) (n : Nat) : List Int := (List.range n).map fun (j : Nat) => m + 3 * (j : Int)

theorem full_length (m : Int) (n : Nat) : (full m n).length = n := by simp [full]

theorem full_step (m : Int) (l : List Int) (i : Nat) (hi : i < l.length) : (ints (full m i ++ l.drop i)).set i (.int .i64 (m + 3 * (i : Int))) = ints (full m (i + 1) ++ l.drop (i + 1)) := by
  apply List.ext_getElem?
  intro j
  rw [List.getElem?_set]
  simp only [ints, List.getElem?_map, List.length_map, List.length_append, full_length, List.length_drop]
  by_cases hj : i = j
  · subst hj
    rw [if_pos rfl, if_pos (by omega), List.getElem?_append_left (by rw [full_length]; omega)]
    simp [full]
  · rw [if_neg hj]
    by_cases hlt : j < i
    · rw [List.getElem?_append_left (by rw [full_length]; exact hlt), List.getElem?_append_left (by rw [full_length]; omega)]
      simp [full, hlt, show j < i + 1 by omega]
    · rw [List.getElem?_append_right (by rw [full_length]; omega), List.getElem?_append_right (by rw [full_length]; omega), full_length, full_length, List.getElem?_drop, List.getElem?_drop]
      congr 2
      omega

end Go.Proofs.YtcijdbhabbepaaaGreatDoor.Kg
