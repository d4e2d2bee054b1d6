import Derived.Test.YtbgnagjhkfkekaaGreatDoorKG7b
/-
  The lists that wait.
-/
set_option linter.unusedVariables false
set_option maxRecDepth 20000
namespace Go.Proofs.YtbgnagjhkfkekaaGreatDoor.Kg
open Go.RowKit

/-- The lists that wait, their notes and marks. -/
structure Wts (w : World) (base : Nat) (K : List Nat) (A N : List Value) (ms : List Int) : Prop where
  l1 : A.length = N.length
  l2 : A.length = ms.length
  at_ : ∀ (i : Nat) v, A[i]? = some v → ∃ u l m, N[i]? = some u ∧ ms[i]? = some m ∧ 0 ≤ m ∧ m ≤ 1000000000000000 ∧ Row w base v l ∧ (∀ g, v.ownBlock = some g → g ∈ K) ∧ Rd w K u (ints l) ∧ l.length ≤ 10000000000000

theorem Wts.nil (w : World) (base : Nat) (K : List Nat) : Wts w base K [] [] [] := ⟨rfl, rfl, fun i v hv => by simp at hv⟩

theorem Wts.keep {w w' : World} {base : Nat} {K K' G : List Nat} {A N : List Value} {ms : List Int} (h : Wts w base K A N ms) (ht : Touch G w w') (hk : ∀ k, k ∈ K → k ∈ K') (hA : ∀ v, v ∈ A → ∀ k, v.ownBlock = some k → k ∉ G) (hN : ∀ v, v ∈ N → ∀ k, v.ownBlock = some k → k ∉ G) : Wts w' base K' A N ms := by
  refine ⟨h.l1, h.l2, fun i v hv => ?_⟩
  obtain ⟨u, l, m, h1, h2, h3, h4, h5, h6, h7, h8⟩ := h.at_ i v hv
  exact ⟨u, l, m, h1, h2, h3, h4, row_keep2 h5 ht (hA v (List.mem_of_getElem? hv)), fun g hg => hk g (h6 g hg), (h7.keep ht (hN u (List.mem_of_getElem? h1))).wide hk, h8⟩

theorem Wts.prs {w : World} {base : Nat} {K : List Nat} {A N : List Value} {ms : List Int} (h : Wts w base K A N ms) : Prs w K A N :=
  ⟨h.l1, fun i v hv => by
    obtain ⟨u, l, m, h1, h2, h3, h4, h5, h6, h7, h8⟩ := h.at_ i v hv
    exact ⟨u, l, h1, Rd.row h5 h6, h7, by omega⟩⟩

theorem Wts.snoc {w : World} {base : Nat} {K : List Nat} {A N : List Value} {ms : List Int} (h : Wts w base K A N ms) {u v : Value} {l : List Int} {m : Int} (h3 : 0 ≤ m) (h4 : m ≤ 1000000000000000) (h5 : Row w base v l) (h6 : ∀ g, v.ownBlock = some g → g ∈ K) (h7 : Rd w K u (ints l)) (h8 : l.length ≤ 10000000000000) :
    Wts w base K (A ++ [v]) (N ++ [u]) (ms ++ [m]) := by
  refine ⟨by simp [h.l1], by simp [h.l2], fun i x hx => ?_⟩
  by_cases hi : i < A.length
  · rw [List.getElem?_append_left hi] at hx
    obtain ⟨u', l', m', q1, q2, q3⟩ := h.at_ i x hx
    exact ⟨u', l', m', by rw [List.getElem?_append_left (by have := h.l1; omega)]; exact q1, by rw [List.getElem?_append_left (by have := h.l2; omega)]; exact q2, q3⟩
  · have hl := (List.getElem?_eq_some_iff.1 hx).1
    simp at hl
    obtain rfl : i = A.length := by omega
    rw [List.getElem?_append_right (Nat.le_refl _)] at hx
    simp at hx
    subst hx
    exact ⟨u, l, m, by rw [h.l1, List.getElem?_append_right (Nat.le_refl _)]; simp, by rw [h.l2, List.getElem?_append_right (Nat.le_refl _)]; simp, h3, h4, h5, h6, h7, h8⟩

theorem Wts.tail {w : World} {base : Nat} {K : List Nat} {A N : List Value} {ms : List Int} {k : Nat} (h : Wts w base K (A.drop k) (N.drop k) (ms.drop k)) : Wts w base K (A.drop (k + 1)) (N.drop (k + 1)) (ms.drop (k + 1)) := by
  have l1 := h.l1
  have l2 := h.l2
  simp only [List.length_drop] at l1 l2
  refine ⟨by simp only [List.length_drop]; omega, by simp only [List.length_drop]; omega, fun i v hv => ?_⟩
  rw [List.getElem?_drop] at hv
  have := h.at_ (i + 1) v (by rw [List.getElem?_drop, show k + (i + 1) = k + 1 + i by omega]; exact hv)
  obtain ⟨u, l, m, h1, h2, h3⟩ := this
  refine ⟨u, l, m, ?_, ?_, h3⟩
  · rw [List.getElem?_drop] at h1 ⊢; rw [show k + 1 + i = k + (i + 1) by omega]; exact h1
  · rw [List.getElem?_drop] at h2 ⊢; rw [show k + 1 + i = k + (i + 1) by omega]; exact h2

theorem Wts.inA {w : World} {base : Nat} {K : List Nat} {A N : List Value} {ms : List Int} (h : Wts w base K A N ms) {v : Value} (hv : v ∈ A) : ∀ g, v.ownBlock = some g → g ∈ K := by
  obtain ⟨i, hi⟩ := List.getElem?_of_mem hv
  obtain ⟨u, l, m, h1, h2, h3, h4, h5, h6, h7, h8⟩ := h.at_ i v hi
  exact h6

theorem Wts.inN {w : World} {base : Nat} {K : List Nat} {A N : List Value} {ms : List Int} (h : Wts w base K A N ms) {v : Value} (hv : v ∈ N) : ∀ g, v.ownBlock = some g → g ∈ K := by
  obtain ⟨i, hi⟩ := List.getElem?_of_mem hv
  have hlt := (List.getElem?_eq_some_iff.1 hi).1
  obtain ⟨v2, hv2⟩ : ∃ v2, A[i]? = some v2 := ⟨_, List.getElem?_eq_getElem (by have := h.l1; omega)⟩
  obtain ⟨u, l, m, h1, h2, h3, h4, h5, h6, h7, h8⟩ := h.at_ i v2 hv2
  rw [hi] at h1; simp at h1; subst h1
  exact h7.inK

/-- The blocks of those that wait are apart from one another, and from X's. -/
structure Dst (A X : List Value) : Prop where
  one : A.Pairwise Far
  two : ∀ v, v ∈ A → ∀ u, u ∈ X → Far v u

theorem Dst.less {A X A' X' : List Value} (h : Dst A X) (hA : A'.Sublist A) (hX : ∀ u, u ∈ X' → u ∈ X) : Dst A' X' :=
  ⟨h.one.sublist hA, fun v hv u hu => h.two v (hA.subset hv) u (hX u hu)⟩

theorem Dst.cons {A X : List Value} (h : Dst A X) {u : Value} (hu : ∀ v, v ∈ A → Far v u) : Dst A (u :: X) :=
  ⟨h.one, fun v hv x hx => by
    rcases List.mem_cons.1 hx with rfl | hx
    · exact hu v hv
    · exact h.two v hv x hx⟩

/-- One that waited is among the others now. -/
theorem Dst.move {P Q X : List Value} {v : Value} (h : Dst (P ++ v :: Q) X) : Dst (P ++ Q) (v :: X) := by
  have hs : (P ++ Q).Sublist (P ++ v :: Q) := List.Sublist.append_left (List.sublist_cons_self v Q) P
  refine (h.less hs (fun u hu => hu)).cons (fun x hx => ?_)
  have h2 := List.pairwise_append.1 h.one
  have h3 := List.pairwise_cons.1 h2.2.1
  rcases List.mem_append.1 hx with hx | hx
  · exact h2.2.2 x hx v (by simp)
  · exact (h3.1 x hx).symm

theorem Dst.ne {P Q X : List Value} {v : Value} (h : Dst (P ++ v :: Q) X) : (∀ x, x ∈ P ++ Q → Far v x) ∧ ∀ u, u ∈ X → Far v u :=
  ⟨fun x hx => (h.move.two x hx v (by simp)).symm, fun u hu => h.two v (by simp) u hu⟩

/-- Those written full (F) lie apart from one another, from Y's, and from X's but for themselves. -/
structure Fsh (F X Y : List Value) : Prop where
  one : F.Pairwise Far
  two : ∀ v, v ∈ F → ∀ x, x ∈ X → Far v x ∨ x = v
  three : ∀ v, v ∈ F → ∀ x, x ∈ Y → Far v x

theorem Fsh.snoc {F X Y X' Y' : List Value} {v : Value} (h : Fsh F X Y) (hF : ∀ u, u ∈ F → Far v u) (hX : ∀ x, x ∈ X' → (x ∈ X ∧ Far v x) ∨ x = v ∨ (Far v x ∧ ∀ u, u ∈ F → Far u x)) (hY : ∀ x, x ∈ Y' → Far v x ∧ x ∈ Y) : Fsh (F ++ [v]) X' Y' := by
  refine ⟨?_, fun u hu x hx => ?_, fun u hu x hx => ?_⟩
  · rw [List.pairwise_append]
    exact ⟨h.one, by simp, fun a ha c hc => by simp at hc; subst hc; exact (hF a ha).symm⟩
  · rcases List.mem_append.1 hu with h9 | h9
    · rcases hX x hx with ⟨h1, h2⟩ | e | ⟨h1, h2⟩
      · exact h.two u h9 x h1
      · rw [e]; exact .inl (hF u h9).symm
      · exact .inl (h2 u h9)
    · have e9 : u = v := by simpa using h9
      rw [e9]
      rcases hX x hx with ⟨h1, h2⟩ | e | ⟨h1, h2⟩
      · exact .inl h2
      · exact .inr e
      · exact .inl h1
  · rcases List.mem_append.1 hu with h9 | h9
    · exact h.three u h9 x (hY x hx).2
    · have e9 : u = v := by simpa using h9
      rw [e9]; exact (hY x hx).1

/-- What a call does to the book, that may write into what waits. -/
structure Ey (w w' : World) (b : Nat) (f f' : Nat → Value) (K K' : List Nat) : Prop where
  t : ∃ G, Touch G w w' ∧ ∀ k, k ∈ G → Own b f k ∨ k ∈ K
  o : ∀ k, Own b f' k → Own b f k ∨ w.heap.size ≤ k
  k : ∀ k, k ∈ K → k ∈ K'
  n : ∀ k, k ∈ K' → k ∈ K ∨ Own b f k ∨ w.heap.size ≤ k

theorem Ex.ey {w w' : World} {b : Nat} {f f' : Nat → Value} {K K' : List Nat} (h : Ex w w' b f f' K K') : Ey w w' b f f' K K' := by
  obtain ⟨G, h1, h2⟩ := h.t
  exact ⟨⟨G, h1, fun k hk => .inl (h2 k hk)⟩, h.o, h.k, fun k hk => (h.n k hk).elim .inl (fun h => .inr (.inr h))⟩

theorem Ey.refl (w : World) (b : Nat) (f : Nat → Value) (K : List Nat) : Ey w w b f f K K := (Ex.refl w b f K).ey

theorem Ey.trans {w w1 w2 : World} {b : Nat} {f f1 f2 : Nat → Value} {K K1 K2 : List Nat} (h : Ey w w1 b f f1 K K1) (g : Ey w1 w2 b f1 f2 K1 K2) : Ey w w2 b f f2 K K2 := by
  obtain ⟨G, h1, h2⟩ := h.t
  obtain ⟨G2, g1, g2⟩ := g.t
  refine ⟨⟨G ++ G2.filter (fun x => decide (x < w.heap.size)), ?_, fun k hk => ?_⟩, fun k hk => ?_, fun k hk => g.k k (h.k k hk), fun k hk => ?_⟩
  · refine (h1.mono (fun k hk => .inl (by simp [hk]))).then g1 (fun x hx => ?_)
    by_cases hlt : x < w.heap.size
    · exact .inl (by simp [hx, hlt])
    · exact .inr (by omega)
  · rcases List.mem_append.1 hk with hk | hk
    · exact h2 k hk
    · simp only [List.mem_filter, decide_eq_true_eq] at hk
      rcases g2 k hk.1 with h3 | h3
      · rcases h.o k h3 with h4 | h4
        · exact .inl h4
        · omega
      · rcases h.n k h3 with h4 | h4 | h4
        · exact .inr h4
        · exact .inl h4
        · omega
  · rcases g.o k hk with h3 | h3
    · exact h.o k h3
    · exact .inr (Nat.le_trans h1.size h3)
  · rcases g.n k hk with h3 | h3 | h3
    · exact h.n k h3
    · rcases h.o k h3 with h4 | h4
      · exact .inr (.inl h4)
      · exact .inr (.inr h4)
    · exact .inr (.inr (Nat.le_trans h1.size h3))

theorem Ez.ey {w w' : World} {b : Nat} {f f' : Nat → Value} {K K' : List Nat} {X : List Value} (h : Ez w w' b f f' K K' X) (hX : ∀ x, x ∈ X → ∀ g, x.ownBlock = some g → g ∈ K) : Ey w w' b f f' K K' := by
  obtain ⟨G, h1, h2⟩ := h.t
  exact ⟨⟨G, h1, fun k hk => (h2 k hk).imp id (fun ⟨x, q1, q2⟩ => hX x q1 k q2)⟩, h.o, h.k, fun k hk => (h.n k hk).elim .inl (fun h => .inr (.inr h))⟩

/-- Rows whose blocks lie apart from what was touched. -/
theorem Prs.keepNe {w w' : World} {K G : List Nat} {A B : List Value} (h : Prs w K A B) (ht : Touch G w w') (hA : ∀ v, v ∈ A → ∀ k, v.ownBlock = some k → k ∉ G) (hB : ∀ v, v ∈ B → ∀ k, v.ownBlock = some k → k ∉ G) : Prs w' K A B :=
  ⟨h.len, fun i v hv => by
    obtain ⟨u, l, h1, h2, h3, h4⟩ := h.at_ i v hv
    exact ⟨u, l, h1, h2.keep ht (hA v (List.mem_of_getElem? hv)), h3.keep ht (hB u (List.mem_of_getElem? h1)), h4⟩⟩

theorem Frs.snoc {w : World} {base : Nat} {K : List Nat} {A : List Value} {ms : List Int} (h : Frs w base K 0 A ms) {l : List Int} {m : Int} {v : Value} (h3 : 0 ≤ m) (h4 : m ≤ 1000000000000000) (h5 : Row w base v l) (h6 : ∀ g, v.ownBlock = some g → g ∈ K) (h8 : l.length ≤ 10000000000000) : Frs w base K 0 (A ++ [v]) (ms ++ [m]) := by
  refine ⟨by simp [h.len], fun i x h0 hx => ?_⟩
  by_cases hi : i < A.length
  · rw [List.getElem?_append_left hi] at hx
    obtain ⟨l', m', q1, q2⟩ := h.at_ i x h0 hx
    exact ⟨l', m', by rw [List.getElem?_append_left (by have := h.len; omega)]; exact q1, q2⟩
  · have hl := (List.getElem?_eq_some_iff.1 hx).1
    simp at hl
    obtain rfl : i = A.length := by omega
    rw [List.getElem?_append_right (Nat.le_refl _)] at hx
    simp at hx
    subst hx
    exact ⟨l, m, by rw [h.len, List.getElem?_append_right (Nat.le_refl _)]; simp, h3, h4, h5, h6, h8⟩

theorem Frs.keepNe {w w' : World} {base : Nat} {K G : List Nat} {A : List Value} {ms : List Int} (h : Frs w base K 0 A ms) (ht : Touch G w w') (hA : ∀ v, v ∈ A → ∀ k, v.ownBlock = some k → k ∉ G) : Frs w' base K 0 A ms :=
  h.keep ht (fun _ hq => hq) (fun i v _ hv => hA v (List.mem_of_getElem? hv))

theorem Frs.nil_ (w : World) (base : Nat) (K : List Nat) : Frs w base K 0 [] [] := ⟨rfl, fun i v _ hv => by simp at hv⟩

theorem Frs.inK {w : World} {base : Nat} {K : List Nat} {A : List Value} {ms : List Int} (h : Frs w base K 0 A ms) {v : Value} (hv : v ∈ A) : ∀ g, v.ownBlock = some g → g ∈ K := by
  obtain ⟨i, hi⟩ := List.getElem?_of_mem hv
  obtain ⟨l, m, h1, h2, h3, h4, h5, h6⟩ := h.at_ i v (Nat.zero_le _) hi
  exact h5

theorem Ex.wts {w w' : World} {base b bs : Nat} {f f' : Nat → Value} {xs : Nat → List Value} {K K' : List Nat} (h : Ex w w' b f f' K K') (hi : Iv w base b f xs K) {A N : List Value} {ms : List Int} (hp : Wts w bs K A N ms) : Wts w' bs K' A N ms := by
  obtain ⟨G, h1, h2⟩ := h.t
  exact hp.keep h1 h.k (fun v hv k hk hm => hi.ownK (h2 k hm) (hp.inA hv k hk)) (fun v hv k hk hm => hi.ownK (h2 k hm) (hp.inN hv k hk))

/-- The numbers that a list is written full with. -/
def full (m : Int) (n : Nat) : List Int := (List.range n).map fun (j : Nat) => m + 3 * (j : Int)

theorem full_length (m : Int) (n : Nat) : (full m n).length = n := by simp [full]

theorem full_step (m : Int) (l : List Int) (i : Nat) (hi : i < l.length) : (ints (full m i ++ l.drop i)).set i (.int .i64 (m + 3 * (i : Int))) = ints (full m (i + 1) ++ l.drop (i + 1)) := by
  apply List.ext_getElem?
  intro j
  rw [List.getElem?_set]
  simp only [ints, List.getElem?_map, List.length_map, List.length_append, full_length, List.length_drop]
  by_cases hj : i = j
  · subst hj
    rw [if_pos rfl, if_pos (by omega), List.getElem?_append_left (by rw [full_length]; omega)]
    simp [full]
  · rw [if_neg hj]
    by_cases hlt : j < i
    · rw [List.getElem?_append_left (by rw [full_length]; exact hlt), List.getElem?_append_left (by rw [full_length]; omega)]
      simp [full, hlt, show j < i + 1 by omega]
    · rw [List.getElem?_append_right (by rw [full_length]; omega), List.getElem?_append_right (by rw [full_length]; omega), full_length, full_length, List.getElem?_drop, List.getElem?_drop]
      congr 2
      omega

end Go.Proofs.YtbgnagjhkfkekaaGreatDoor.Kg

/-
  What markInts keeps on its way.
-/
set_option linter.unusedVariables false
set_option maxRecDepth 20000
namespace Go.Proofs.YtbgnagjhkfkekaaGreatDoor.Kg
open Go.RowKit

structure Mk (w : World) (base b : Nat) (f0 f : Nat → Value) (xs : Nat → List Value) (K : List Nat) (ms1 ds1 fm : List Int) (A N : List Value) (ms ds : List Int) (vA vN vM vD : Value) (n13 k : Nat) : Prop where
  iv : Iv w base b f xs K
  pr : Prs w K (xs 13) (xs 14)
  wt : Wts w base K (xs 15) (xs 16) ms1
  e18 : xs 18 = ints ms1
  e19 : xs 19 = ints ds1
  l19 : ds1.length = (xs 15).length
  fr : Frs w base K 0 (xs 17) fm
  e20 : xs 20 = ints fm
  rs : Wts w base K (A.drop k) (N.drop k) (ms.drop k)
  rA : Rd w K vA A
  rN : Rd w K vN N
  rM : Rd w K vM (ints ms)
  rD : Rd w K vD (ints ds)
  dst : Dst (xs 15 ++ A.drop k) (xs 13 ++ xs 14 ++ xs 16 ++ xs 17 ++ N.drop k ++ [vA, vN, vM, vD])
  fs : Fsh (xs 17) (xs 13 ++ xs 14) (xs 16 ++ N.drop k)
  fx : ∀ j, j < 13 ∨ 20 < j → f j = f0 j
  ln : (xs 15).length + (xs 17).length = k ∧ (xs 13).length = n13 + (xs 17).length

theorem Mk.kept {w w' : World} {base b : Nat} {f0 f f' : Nat → Value} {xs : Nat → List Value} {K : List Nat} {ms1 ds1 fm : List Int} {A N : List Value} {ms ds : List Int} {vA vN vM vD : Value} {n13 k : Nat}
    (h : Mk w base b f0 f xs K ms1 ds1 fm A N ms ds vA vN vM vD n13 k) {v u : Value} {m d : Int} (hv : A[k]? = some v) (hu : N[k]? = some u) (hm : ms[k]? = some m) {xa xb xc xd : Nat → List Value}
    (ea : xa = putl xs 15 (xs 15 ++ [v])) (eb : xb = putl xa 16 (xa 16 ++ [u])) (ec : xc = putl xb 18 (xb 18 ++ [.int .i64 m])) (ed : xd = putl xc 19 (xc 19 ++ [.int .i64 d]))
    (hI : Iv w' base b f' xd K) (hE : Ex w w' b f f' K K) (hf : ∀ j, j < 13 ∨ 20 < j → f' j = f j) :
    Mk w' base b f0 f' xd K (ms1 ++ [m]) (ds1 ++ [d]) fm A N ms ds vA vN vM vD n13 (k + 1) := by
  have x13 : xd 13 = xs 13 := by subst ed ec eb ea; simp [putl]
  have x14 : xd 14 = xs 14 := by subst ed ec eb ea; simp [putl]
  have x15 : xd 15 = xs 15 ++ [v] := by subst ed ec eb ea; simp [putl]
  have x16 : xd 16 = xs 16 ++ [u] := by subst ed ec eb ea; simp [putl]
  have x17 : xd 17 = xs 17 := by subst ed ec eb ea; simp [putl]
  have x18 : xd 18 = ints (ms1 ++ [m]) := by subst ed ec eb ea; simp [putl, h.e18, ints]
  have x19 : xd 19 = ints (ds1 ++ [d]) := by subst ed ec eb ea; simp [putl, h.e19, ints]
  have x20 : xd 20 = xs 20 := by subst ed ec eb ea; simp [putl]
  clear ea eb ec ed
  have hkl : k < A.length := (List.getElem?_eq_some_iff.1 hv).1
  have hdA : A.drop k = v :: A.drop (k + 1) := by
    rw [List.drop_eq_getElem_cons hkl]
    rw [List.getElem?_eq_getElem hkl] at hv; simp at hv; rw [hv]
  have hkn : k < N.length := (List.getElem?_eq_some_iff.1 hu).1
  have hdN : N.drop k = u :: N.drop (k + 1) := by
    rw [List.drop_eq_getElem_cons hkn]
    rw [List.getElem?_eq_getElem hkn] at hu; simp at hu; rw [hu]
  have hrs := hE.wts h.iv h.rs
  obtain ⟨u', l, m', q1, q2, q3, q4, q5, q6, q7, q8⟩ := hrs.at_ 0 v (by rw [List.getElem?_drop]; simpa using hv)
  rw [List.getElem?_drop] at q1 q2
  simp only [Nat.add_zero] at q1 q2
  rw [hu] at q1; rw [hm] at q2
  simp at q1 q2
  subst q1 q2
  refine ⟨hI, ?_, ?_, x18, x19, ?_, ?_, by rw [x20]; exact h.e20, hrs.tail, hE.rd h.iv h.rA, hE.rd h.iv h.rN, hE.rd h.iv h.rM, hE.rd h.iv h.rD, ?_, ?_, fun j hj => (hf j hj).trans (h.fx j hj), ?_⟩
  · rw [x13, x14]; exact hE.prs h.iv h.pr
  · rw [x15, x16]; exact (hE.wts h.iv h.wt).snoc q3 q4 q5 q6 q7 q8
  · rw [x15]; simp [h.l19]
  · rw [x17]; exact hE.frs h.iv h.fr
  · rw [x13, x14, x15, x16, x17]
    have h1 := h.dst
    rw [hdA] at h1
    refine ⟨by simpa using h1.one, fun y hy z hz => h1.two y (by simpa using hy) z ?_⟩
    rw [hdN]
    simp only [List.mem_append, List.mem_cons, List.not_mem_nil, or_false] at hz ⊢
    rcases hz with ((((hz | hz) | (hz | hz)) | hz) | hz) | hz
    all_goals simp [hz]
  · rw [x13, x14, x16, x17]
    refine ⟨h.fs.one, h.fs.two, fun y hy z hz => h.fs.three y hy z ?_⟩
    rw [hdN]
    simp only [List.mem_append, List.mem_cons, List.not_mem_nil, or_false] at hz ⊢
    rcases hz with (hz | hz) | hz
    all_goals simp [hz]
  · rw [x15, x17, x13]
    have := h.ln
    exact ⟨by simp; omega, this.2⟩

theorem Mk.marked {w wb w' : World} {base b : Nat} {f0 f f' : Nat → Value} {xs : Nat → List Value} {K : List Nat} {ms1 ds1 fm : List Int} {A N : List Value} {ms ds : List Int} {vA vN vM vD : Value} {n13 k kk : Nat}
    (h : Mk w base b f0 f xs K ms1 ds1 fm A N ms ds vA vN vM vD n13 k) {v u2 : Value} {m : Int} {l' : List Int} (hv : A[k]? = some v) (hm : ms[k]? = some m) (h3 : 0 ≤ m) (h4 : m ≤ 1000000000000000)
    (hgK : ∀ g, v.ownBlock = some g → g ∈ K) (h16 : l'.length ≤ 10000000000000) (ht : Touch v.ownBlock.toList w wb) (hlon : Row wb base v l') {xa xb xc xd : Nat → List Value}
    (ea : xa = putl xs 13 (xs 13 ++ [v])) (eb : xb = putl xa 14 (xa 14 ++ [u2])) (ec : xc = putl xb 17 (xb 17 ++ [v])) (ed : xd = putl xc 20 (xc 20 ++ [.int .i64 m]))
    (hI : Iv w' base b f' xd (kk :: K)) (hE : Ex wb w' b f f' K (kk :: K)) (hu2 : Rd w' (kk :: K) u2 (ints l')) (hkk : u2.ownBlock = some kk) (hkn : w.heap.size ≤ kk) (hf : ∀ j, j < 13 ∨ 20 < j → f' j = f j) :
    Mk w' base b f0 f' xd (kk :: K) ms1 ds1 (fm ++ [m]) A N ms ds vA vN vM vD n13 (k + 1) ∧ Ey w w' b f f' K (kk :: K) := by
  have x13 : xd 13 = xs 13 ++ [v] := by subst ed ec eb ea; simp [putl]
  have x14 : xd 14 = xs 14 ++ [u2] := by subst ed ec eb ea; simp [putl]
  have x15 : xd 15 = xs 15 := by subst ed ec eb ea; simp [putl]
  have x16 : xd 16 = xs 16 := by subst ed ec eb ea; simp [putl]
  have x17 : xd 17 = xs 17 ++ [v] := by subst ed ec eb ea; simp [putl]
  have x18 : xd 18 = xs 18 := by subst ed ec eb ea; simp [putl]
  have x19 : xd 19 = xs 19 := by subst ed ec eb ea; simp [putl]
  have x20 : xd 20 = ints (fm ++ [m]) := by subst ed ec eb ea; simp [putl, h.e20, ints]
  clear ea eb ec ed
  have hkl : k < A.length := (List.getElem?_eq_some_iff.1 hv).1
  have hdA : A.drop k = v :: A.drop (k + 1) := by
    rw [List.drop_eq_getElem_cons hkl]
    rw [List.getElem?_eq_getElem hkl] at hv; simp at hv; rw [hv]
  have hD := h.dst
  rw [hdA] at hD
  obtain ⟨n1, n2⟩ := hD.ne
  have sN : ∀ y, y ∈ N.drop (k + 1) → y ∈ N.drop k := fun y hy => by
    rw [← List.drop_drop] at hy
    exact List.mem_of_mem_drop hy
  have ne1 : ∀ y, y ∈ xs 15 ++ A.drop (k + 1) → ∀ q, y.ownBlock = some q → q ∉ v.ownBlock.toList := fun y hy q hq hm => n1 y hy q (by simpa using hm) hq
  have ne2 : ∀ y, y ∈ xs 13 ++ xs 14 ++ xs 16 ++ xs 17 ++ N.drop k ++ [vA, vN, vM, vD] → ∀ q, y.ownBlock = some q → q ∉ v.ownBlock.toList := fun y hy q hq hm => n2 y hy q (by simpa using hm) hq
  have hgo : ∀ q, q ∈ v.ownBlock.toList → ¬ Own b f q := fun q hq ho => h.iv.ownK ho (hgK q (by simpa using hq))
  have iv1 : Iv wb base b f xs K := h.iv.keep ht hgo
  have pr1 : Prs wb K (xs 13) (xs 14) := h.pr.keepNe ht (fun y hy => ne2 y (by simp [hy])) (fun y hy => ne2 y (by simp [hy]))
  have wt1 : Wts wb base K (xs 15) (xs 16) ms1 := h.wt.keep ht (fun _ h => h) (fun y hy => ne1 y (by simp [hy])) (fun y hy => ne2 y (by simp [hy]))
  have fr1 : Frs wb base K 0 (xs 17) fm := h.fr.keepNe ht (fun y hy => ne2 y (by simp [hy]))
  have rs1 : Wts wb base K (A.drop (k + 1)) (N.drop (k + 1)) (ms.drop (k + 1)) := h.rs.tail.keep ht (fun _ h => h) (fun y hy => ne1 y (by simp [hy])) (fun y hy => ne2 y (by simp [sN y hy]))
  have lon2 : Row w' base v l' := by
    obtain ⟨G, t1, t2⟩ := hE.t
    exact row_keep2 hlon t1 (fun g hg hm => iv1.ownK (t2 g hm) (hgK g hg))
  have hgK2 : ∀ g, v.ownBlock = some g → g ∈ kk :: K := fun g hg => by simp [hgK g hg]
  have far2 : ∀ y, (∀ g, y.ownBlock = some g → g ∈ K) → Far y u2 := fun y hy g hg e => by
    rw [hkk] at e; simp at e; subst e
    have := (h.iv.kin _ (hy _ hg)).2
    omega
  refine ⟨⟨hI, ?_, ?_, by rw [x18]; exact h.e18, by rw [x19]; exact h.e19, by rw [x15]; exact h.l19, ?_, x20, hE.wts iv1 rs1, hE.rd iv1 (h.rA.keep ht (ne2 vA (by simp))), hE.rd iv1 (h.rN.keep ht (ne2 vN (by simp))), hE.rd iv1 (h.rM.keep ht (ne2 vM (by simp))), hE.rd iv1 (h.rD.keep ht (ne2 vD (by simp))), ?_, ?_, fun j hj => (hf j hj).trans (h.fx j hj), ?_⟩, ?_⟩
  · rw [x13, x14]
    exact (hE.prs iv1 pr1).snoc _ _ l' (Rd.row lon2 hgK2) hu2 (by omega)
  · rw [x15, x16]; exact hE.wts iv1 wt1
  · rw [x17]; exact (hE.frs iv1 fr1).snoc h3 h4 lon2 hgK2 h16
  · rw [x13, x14, x15, x16, x17]
    have hn : ∀ y, y ∈ xs 15 ++ A.drop (k + 1) → Far y u2 := fun y hy => far2 y (by
      rcases List.mem_append.1 hy with hy | hy
      · exact h.wt.inA hy
      · exact h.rs.tail.inA hy)
    have h1 := hD.move.cons hn
    refine ⟨h1.one, fun y hy z hz => h1.two y hy z ?_⟩
    simp only [List.mem_append, List.mem_cons, List.not_mem_nil, or_false] at hz ⊢
    rcases hz with (((((hz | hz) | (hz | hz)) | hz) | (hz | hz)) | hz) | hz
    all_goals first | (simp [hz]; done) | (simp [sN z hz])
  · rw [x13, x14, x16, x17]
    refine h.fs.snoc (fun u hu => n2 u (by simp [hu])) (fun x hx => ?_) (fun x hx => ?_)
    · simp only [List.mem_append, List.mem_cons, List.not_mem_nil, or_false] at hx
      rcases hx with (hx | hx) | (hx | hx)
      · exact .inl ⟨by simp [hx], n2 x (by simp [hx])⟩
      · exact .inr (.inl hx)
      · exact .inl ⟨by simp [hx], n2 x (by simp [hx])⟩
      · rw [hx]
        exact .inr (.inr ⟨far2 v hgK, fun u hu => far2 u (h.fr.inK hu)⟩)
    · rcases List.mem_append.1 hx with hx | hx
      · exact ⟨n2 x (by simp [hx]), by simp [hx]⟩
      · exact ⟨n2 x (by simp [sN x hx]), by simp [sN x hx]⟩
  · rw [x15, x17, x13]
    have := h.ln
    exact ⟨by simp; omega, by simp; omega⟩
  · have e1 : Ey w wb b f f K K := ⟨⟨_, ht, fun q hq => .inr (hgK q (by simpa using hq))⟩, fun q hq => .inl hq, fun q hq => hq, fun q hq => .inl hq⟩
    exact e1.trans hE.ey

end Go.Proofs.YtbgnagjhkfkekaaGreatDoor.Kg

/-
  markInts.
-/
set_option linter.unusedVariables false
set_option maxRecDepth 20000
namespace Go.Proofs.YtbgnagjhkfkekaaGreatDoor.Kg
open Go.RowKit

set_option maxHeartbeats 2000000 in
theorem markInts_nil {w : World} {base b : Nat} {f : Nat → Value} {xs : Nat → List Value} {K : List Nat} (h : Iv w base b f xs K) (h15 : xs 15 = []) :
    Calls Tryz.prog 103 #[.pointer (some ⟨b, 0, none⟩)] w fun e w' => e = .returned (.tuple #[]) ∧ w = w' := by
  obtain ⟨a15, p15, e15⟩ := row_sl (h.own 15 (by decide) (by decide))
  obtain ⟨a16, p16, e16⟩ := row_sl (h.own 16 (by decide) (by decide))
  obtain ⟨a18, p18, e18⟩ := row_sl (h.own 18 (by decide) (by decide))
  obtain ⟨a19, p19, e19⟩ := row_sl (h.own 19 (by decide) (by decide))
  have c15 := h.bk.cell 15
  have c16 := h.bk.cell 16
  have c18 := h.bk.cell 18
  have c19 := h.bk.cell 19
  rw [e15, h15, List.length_nil] at c15
  rw [e16] at c16
  rw [e18] at c18
  rw [e19] at c19
  clear h e15 e16 e18 e19
  go_enter Tryz.func103, Tryz.ntmps103
  go_wp2
  go_returns
  exact ⟨rfl, rfl⟩

/-- Rows that are let go and kept to be read. -/
theorem Iv.let {w : World} {base b : Nat} {f : Nat → Value} {xs : Nat → List Value} {K : List Nat} (h : Iv w base b f xs K) (j : Nat) (h1 : 13 ≤ j) (h2 : j ≤ 20) (hn : xs j ≠ []) :
    ∃ g, (f j).ownBlock = some g ∧ Iv (w.setCell ⟨b, j, none⟩ (.slice none 0 0)) base b (put f j (.slice none 0 0)) (putl xs j []) (g :: K) ∧ Ey w (w.setCell ⟨b, j, none⟩ (.slice none 0 0)) b f (put f j (.slice none 0 0)) K (g :: K) ∧ Rd (w.setCell ⟨b, j, none⟩ (.slice none 0 0)) (g :: K) (f j) (xs j) := by
  have hl : 0 < (xs j).length := List.length_pos_iff.2 hn
  obtain ⟨g, cap, e⟩ := ownsRow_some (h.own j h1 h2) hl
  have hg : (f j).ownBlock = some g := by rw [e]; rfl
  have hlt := (h.own j h1 h2).lt g hg
  have ht : Touch [b] w (w.setCell ⟨b, j, none⟩ (.slice none 0 0)) := Touch.setCell _ _ _ (by simp)
  refine ⟨g, hg, (h.drop j h1 h2).more hlt.1 (by simpa [World.setCell] using hlt.2) ?_, ?_, ?_⟩
  · intro ho
    rcases ho with rfl | ⟨i, a1, a2, a3⟩
    · exact h.rb j h1 h2 hg.symm
    · by_cases hi : i = j
      · subst hi; rw [put_same] at a3; cases a3
      · rw [put_ne _ _ hi] at a3
        exact h.dis i j g a1 a2 h1 h2 hi a3 hg
  · have h3 := (h.dropEx j).ey
    refine ⟨h3.t, h3.o, fun k hk => by simp [hk], fun k hk => ?_⟩
    rcases List.mem_cons.1 hk with rfl | hk
    · exact .inr (.inl (.inr ⟨j, h1, h2, hg⟩))
    · exact .inl hk
  · exact Rd.row (ownsRow_setOther (h.own j h1 h2) (h.rb j h1 h2) _) (fun k hk => by rw [hg] at hk; simp at hk; simp [hk])

theorem Rd.ey {w w' : World} {b : Nat} {K : List Nat} {v v0 : Value} {l : List Value} {j : Nat} (h : Rd w K v l) (hb : b ∉ K) (g : Nat) (e : w' = w.setCell ⟨b, j, none⟩ v0) : Rd w' (g :: K) v l := by
  subst e
  exact (h.off (Touch.setCell (F := [b]) _ _ _ (by simp)) (fun k hk => by simp at hk; subst hk; exact hb)).more g

/-- Behind the four stores. -/
theorem mk_start {w : World} {base b : Nat} {f : Nat → Value} {xs : Nat → List Value} {K : List Nat} {ms ds : List Int} (h : Iv w base b f xs K) (h1 : Prs w K (xs 13) (xs 14)) (hW : Wts w base K (xs 15) (xs 16) ms) (e18 : xs 18 = ints ms) (e19 : xs 19 = ints ds) (l19 : ds.length = (xs 15).length) (e17 : xs 17 = []) (e20 : xs 20 = [])
    (hD : Dst (xs 15) (xs 13 ++ xs 14 ++ xs 16)) (hne : xs 15 ≠ []) :
    ∃ f4 xs4 K4, Mk ((((w.setCell ⟨b, 15, none⟩ (.slice none 0 0)).setCell ⟨b, 16, none⟩ (.slice none 0 0)).setCell ⟨b, 18, none⟩ (.slice none 0 0)).setCell ⟨b, 19, none⟩ (.slice none 0 0)) base b f f4 xs4 K4 [] [] [] (xs 15) (xs 16) ms ds (f 15) (f 16) (f 18) (f 19) (xs 13).length 0 ∧
      Ey w ((((w.setCell ⟨b, 15, none⟩ (.slice none 0 0)).setCell ⟨b, 16, none⟩ (.slice none 0 0)).setCell ⟨b, 18, none⟩ (.slice none 0 0)).setCell ⟨b, 19, none⟩ (.slice none 0 0)) b f f4 K K4 := by
  have hl16 : xs 16 ≠ [] := fun e => hne (List.eq_nil_of_length_eq_zero (by rw [hW.l1, e]; rfl))
  have hms : ms ≠ [] := fun e => hne (List.eq_nil_of_length_eq_zero (by rw [hW.l2, e]; rfl))
  have hds : ds ≠ [] := fun e => hne (List.eq_nil_of_length_eq_zero (by rw [← l19, e]; rfl))
  have hl18 : xs 18 ≠ [] := by rw [e18]; simpa [ints] using hms
  have hl19 : xs 19 ≠ [] := by rw [e19]; simpa [ints] using hds
  obtain ⟨gA, oA, V1, E1, R1⟩ := h.let 15 (by decide) (by decide) hne
  obtain ⟨gN, oN, V2, E2, R2⟩ := V1.let 16 (by decide) (by decide) (by rw [putl_ne _ _ (by decide)]; exact hl16)
  obtain ⟨gM, oM, V3, E3, R3⟩ := V2.let 18 (by decide) (by decide) (by rw [putl_ne _ _ (by decide), putl_ne _ _ (by decide)]; exact hl18)
  obtain ⟨gD, oD, V4, E4, R4⟩ := V3.let 19 (by decide) (by decide) (by rw [putl_ne _ _ (by decide), putl_ne _ _ (by decide), putl_ne _ _ (by decide)]; exact hl19)
  rw [put_ne _ _ (by decide)] at oN
  rw [put_ne _ _ (by decide), put_ne _ _ (by decide)] at oM
  rw [put_ne _ _ (by decide), put_ne _ _ (by decide), put_ne _ _ (by decide)] at oD
  rw [put_ne _ _ (by decide), putl_ne _ _ (by decide)] at R2
  rw [put_ne _ _ (by decide), put_ne _ _ (by decide), putl_ne _ _ (by decide), putl_ne _ _ (by decide)] at R3
  rw [put_ne _ _ (by decide), put_ne _ _ (by decide), put_ne _ _ (by decide), putl_ne _ _ (by decide), putl_ne _ _ (by decide), putl_ne _ _ (by decide)] at R4
  have EE := E1.trans (E2.trans (E3.trans E4))
  have ht : Touch [b] w ((((w.setCell ⟨b, 15, none⟩ (.slice none 0 0)).setCell ⟨b, 16, none⟩ (.slice none 0 0)).setCell ⟨b, 18, none⟩ (.slice none 0 0)).setCell ⟨b, 19, none⟩ (.slice none 0 0)) :=
    (((Touch.setCell _ _ _ (by simp)).trans (Touch.setCell _ _ _ (by simp))).trans (Touch.setCell _ _ _ (by simp))).trans (Touch.setCell _ _ _ (by simp))
  have hbK : ∀ k, k ∈ [b] → k ∉ K := fun k hk => by simp at hk; subst hk; exact h.kb
  have nr : ∀ j, 13 ≤ j → j ≤ 20 → ∀ v, v ∈ xs 15 → Far v (f j) := fun j a1 a2 v hv g hg e => h.kp j g a1 a2 e (hW.inA hv g hg)
  have pr4 := h1.off ht hbK
  have P4 : Prs _ (gD :: gM :: gN :: gA :: K) (xs 13) (xs 14) := (((pr4.more gA).more gN).more gM).more gD
  have W4 : Wts _ base (gD :: gM :: gN :: gA :: K) (xs 15) (xs 16) ms := hW.keep ht (fun k hk => by simp [hk]) (fun v hv k hk hm => hbK k hm (hW.inA hv k hk)) (fun v hv k hk hm => hbK k hm (hW.inN hv k hk))
  have D1 : Dst (xs 15) (xs 13 ++ xs 14 ++ xs 16 ++ [f 15, f 16, f 18, f 19]) := ⟨hD.one, fun v hv u hu => by
    rcases List.mem_append.1 hu with hu | hu
    · exact hD.two v hv u hu
    · simp only [List.mem_cons, List.not_mem_nil, or_false] at hu
      rcases hu with rfl | rfl | rfl | rfl
      · exact nr 15 (by decide) (by decide) v hv
      · exact nr 16 (by decide) (by decide) v hv
      · exact nr 18 (by decide) (by decide) v hv
      · exact nr 19 (by decide) (by decide) v hv⟩
  refine ⟨_, _, _, ⟨V4, ?_, ?_, ?_, ?_, ?_, ?_, ?_, ?_, ?_, ?_, ?_, ?_, ?_, ?_, ?_, ?_⟩, EE⟩
  · simpa [putl] using P4
  · simpa [putl] using Wts.nil _ _ _
  · simp [putl, ints]
  · simp [putl, ints]
  · simp [putl]
  · rw [show putl (putl (putl (putl xs 15 []) 16 []) 18 []) 19 [] 17 = [] by simp [putl, e17]]; exact Frs.nil_ _ _ _
  · simp [putl, e20, ints]
  · simpa using W4
  · exact ((R1.ey V1.kb gN rfl).ey V2.kb gM rfl).ey V3.kb gD rfl
  · exact (R2.ey V2.kb gM rfl).ey V3.kb gD rfl
  · rw [← e18]; exact R3.ey V3.kb gD rfl
  · rw [← e19]; exact R4
  · simp only [List.drop_zero]
    refine ⟨by simpa [putl] using D1.one, fun v hv u hu => D1.two v (by simpa [putl] using hv) u ?_⟩
    simp [putl, e17] at hu ⊢
    rcases hu with hu | hu | hu | hu | hu | hu | hu
    all_goals simp [hu]
  · rw [show putl (putl (putl (putl xs 15 []) 16 []) 18 []) 19 [] 17 = [] by simp [putl, e17]]
    exact ⟨by simp, fun v hv => by simp at hv, fun v hv => by simp at hv⟩
  · intro j hj
    rw [put_ne _ _ (by omega), put_ne _ _ (by omega), put_ne _ _ (by omega), put_ne _ _ (by omega)]
  · simp [putl, e17]

end Go.Proofs.YtbgnagjhkfkekaaGreatDoor.Kg

