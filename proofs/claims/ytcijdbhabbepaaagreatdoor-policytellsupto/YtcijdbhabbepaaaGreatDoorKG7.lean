/-
  growInts.
-/
import Derived.Test.YtcijdbhabbepaaaGreatDoorKG6a
set_option linter.unusedVariables false
set_option maxRecDepth 20000
namespace Go.Proofs.YtcijdbhabbepaaaGreatDoor.Kg
open Go.RowKit

/-- What is laid on behind a list: i numbers. -/
def lay (m : Int) (i : Nat) : List Int := (List.range i).map fun (j : Nat) => m + 6 + 5 * (j : Int)

theorem lay_succ (m : Int) (i : Nat) : lay m (i + 1) = lay m i ++ [m + 6 + 5 * (i : Int)] := by simp [lay, List.range_succ]

@[simp] theorem lay_length (m : Int) (i : Nat) : (lay m i).length = i := by simp [lay]

@[simp] theorem lay_zero (m : Int) : lay m 0 = [] := by simp [lay]

/-- Two slices that share no block. -/
def Far (v u : Value) : Prop := ∀ g, v.ownBlock = some g → u.ownBlock ≠ some g

theorem Far.symm {v u : Value} (h : Far v u) : Far u v := fun g h1 h2 => h g h2 h1

/-- A row of numbers of one's own, with room behind it or nil. -/
abbrev Row (w : World) (base : Nat) (v : Value) (l : List Int) : Prop := w.ownsRow base 3 1 v l.length (ints l)

/-- The lists that were written full and not laid on yet, from k on. -/
structure Frs (w : World) (base : Nat) (K : List Nat) (k : Nat) (A : List Value) (ms : List Int) : Prop where
  len : A.length = ms.length
  at_ : ∀ (i : Nat) v, k ≤ i → A[i]? = some v → ∃ l m, ms[i]? = some m ∧ 0 ≤ m ∧ m ≤ 1000000000000000 ∧ Row w base v l ∧ (∀ g, v.ownBlock = some g → g ∈ K) ∧ l.length ≤ 10000000000000

theorem Frs.keep {w w' : World} {base k : Nat} {K K' G : List Nat} {A : List Value} {ms : List Int} (h : Frs w base K k A ms) (ht : Touch G w w') (hK : ∀ q, q ∈ K → q ∈ K') (hG : ∀ (i : Nat) v, k ≤ i → A[i]? = some v → ∀ g, v.ownBlock = some g → g ∉ G) : Frs w' base K' k A ms :=
  ⟨h.len, fun i v hi hv => by
    obtain ⟨l, m, h1, h2, h3, h4, h5, h6⟩ := h.at_ i v hi hv
    exact ⟨l, m, h1, h2, h3, row_keep2 h4 ht (hG i v hi hv), fun g hg => hK g (h5 g hg), h6⟩⟩

theorem Frs.next {w : World} {base k : Nat} {K : List Nat} {A : List Value} {ms : List Int} (h : Frs w base K k A ms) : Frs w base K (k + 1) A ms :=
  ⟨h.len, fun i v hi hv => h.at_ i v (by omega) hv⟩

theorem Ex.frs {w w' : World} {base b : Nat} {f f' : Nat → Value} {xs : Nat → List Value} {K K' : List Nat} (h : Ex w w' b f f' K K') (hi : Iv w base b f xs K) {A : List Value} {ms : List Int} {bs k : Nat} (hp : Frs w bs K k A ms) : Frs w' bs K' k A ms := by
  obtain ⟨G, h1, h2⟩ := h.t
  refine hp.keep h1 h.k (fun i v hk hv g hg hm => ?_)
  obtain ⟨l, m, _, _, _, _, q, _⟩ := hp.at_ i v hk hv
  exact hi.ownK (h2 g hm) (q g hg)

theorem ints_one (l : List Int) : ∀ u ∈ ints l, u.oneCell' = true := by
  intro u hu
  obtain ⟨x, _, rfl⟩ := List.mem_map.1 hu
  rfl

/-- From w to w' only the book's own blocks and those of X were touched. -/
structure Ez (w w' : World) (b : Nat) (f f' : Nat → Value) (K K' : List Nat) (X : List Value) : Prop where
  t : ∃ G, Touch G w w' ∧ ∀ k, k ∈ G → Own b f k ∨ ∃ x, x ∈ X ∧ x.ownBlock = some k
  o : ∀ k, Own b f' k → Own b f k ∨ w.heap.size ≤ k
  k : ∀ k, k ∈ K → k ∈ K'
  n : ∀ k, k ∈ K' → k ∈ K ∨ w.heap.size ≤ k

theorem Ex.ez {w w' : World} {b : Nat} {f f' : Nat → Value} {K K' : List Nat} (h : Ex w w' b f f' K K') (X : List Value) : Ez w w' b f f' K K' X := by
  obtain ⟨G, h1, h2⟩ := h.t
  exact ⟨⟨G, h1, fun k hk => .inl (h2 k hk)⟩, h.o, h.k, h.n⟩

theorem Ez.trans {w w1 w2 : World} {b : Nat} {f f1 f2 : Nat → Value} {K K1 K2 : List Nat} {X : List Value} (h : Ez w w1 b f f1 K K1 X) (g : Ez w1 w2 b f1 f2 K1 K2 X) : Ez w w2 b f f2 K K2 X := by
  obtain ⟨G, h1, h2⟩ := h.t
  obtain ⟨G2, g1, g2⟩ := g.t
  refine ⟨⟨G ++ G2.filter (fun x => decide (x < w.heap.size)), ?_, fun k hk => ?_⟩, fun k hk => ?_, fun k hk => g.k k (h.k k hk), fun k hk => ?_⟩
  · refine (h1.mono (fun k hk => .inl (by simp [hk]))).then g1 (fun x hx => ?_)
    by_cases hlt : x < w.heap.size
    · exact .inl (by simp [hx, hlt])
    · exact .inr (by omega)
  · rcases List.mem_append.1 hk with hk | hk
    · exact h2 k hk
    · simp only [List.mem_filter, decide_eq_true_eq] at hk
      rcases g2 k hk.1 with h3 | h3
      · rcases h.o k h3 with h4 | h4
        · exact .inl h4
        · omega
      · exact .inr h3
  · rcases g.o k hk with h3 | h3
    · exact h.o k h3
    · exact .inr (Nat.le_trans h1.size h3)
  · rcases g.n k hk with h3 | h3
    · exact h.n k h3
    · exact .inr (Nat.le_trans h1.size h3)

theorem Ez.size {w w' : World} {b : Nat} {f f' : Nat → Value} {K K' : List Nat} {X : List Value} (h : Ez w w' b f f' K K' X) : w.heap.size ≤ w'.heap.size := by
  obtain ⟨G, q1, _⟩ := h.t; exact q1.size

/-- A list that is laid on: v as it was, gl behind q numbers. -/
structure Gi (W w : World) (base : Nat) (v : Value) (l : List Int) (gl : Value) (q : Nat) (m : Int) : Prop where
  row : w.ownsRow base 3 1 gl (l.length + q) (ints (l ++ lay m q))
  vr : Row w base v l
  t : Touch v.ownBlock.toList W w
  at_ : gl.ownBlock = v.ownBlock ∨ ∃ g, gl.ownBlock = some g ∧ W.heap.size ≤ g

theorem Gi.start {W : World} {base : Nat} {v : Value} {l : List Int} (h : Row W base v l) (m : Int) : Gi W W base v l v 0 m :=
  ⟨by simpa using h, h, Touch.refl _ _, .inl rfl⟩

theorem Gi.step {W w w1 : World} {base q : Nat} {v gl gl' : Value} {l : List Int} {m : Int} {o : Obj} (h : Gi W w base v l gl q m) (hv : ∀ g, v.ownBlock = some g → g < W.heap.size)
    (ho : w1.ownsRow base 3 1 gl' (l.length + q + 1) (ints (l ++ lay m q) ++ [.int .i64 (m + 6 + 5 * (q : Int))])) (hg : (w.alloc o).grownBy w1 gl.ownBlock) (hat : gl'.ownBlock = gl.ownBlock ∨ gl'.ownBlock = some (w.alloc o).heap.size)
    (hold : w1.ownsRow base 3 1 gl (l.length + q) (ints (l ++ lay m q))) : Gi W w1 base v l gl' (q + 1) m := by
  have ht : Touch gl.ownBlock.toList w w1 := (Touch.alloc _ _ _).trans (Touch.grown hg (fun k hk => by simp [hk]))
  refine ⟨?_, ?_, h.t.then ht (fun x hx => ?_), ?_⟩
  · rw [lay_succ, ← List.append_assoc]; simpa [ints, Nat.add_assoc] using ho
  · rcases h.at_ with e | ⟨g, e, hge⟩
    · exact row_head (ys := ints (lay m q)) h.vr (by simpa [ints] using h.row) e (by simpa [ints] using hold)
    · exact row_keep2 h.vr ht (fun k hk hm => by have := hv k hk; simp [e] at hm; omega)
  · rcases h.at_ with e | ⟨g, e, hge⟩
    · exact .inl (by rw [← e]; exact hx)
    · simp [e] at hx; exact .inr (by omega)
  · rcases hat with e | e
    · rw [e]; exact h.at_
    · exact .inr ⟨_, e, by have := h.t.size; simp; omega⟩

theorem Rd.grow {w w' : World} {base : Nat} {K : List Nat} {v x : Value} {l : List Int} {y : List Value} (h : Rd w K x y) (ht : Touch v.ownBlock.toList w w') (hr : Row w base v l) (hr' : Row w' base v l) (hx : Far v x ∨ x = v) : Rd w' K x y := by
  rcases hx with hx | rfl
  · exact h.keep ht (fun k hk hm => hx k (by simpa using hm) hk)
  · have e : y = ints l := h.uniq (Rd.row (K := K) hr h.inK)
    rw [e]
    exact Rd.row hr' h.inK

theorem Prs.grow {w w' : World} {base : Nat} {K : List Nat} {A B : List Value} {v : Value} {l : List Int} (h : Prs w K A B) (ht : Touch v.ownBlock.toList w w') (hr : Row w base v l) (hr' : Row w' base v l) (hx : ∀ x, x ∈ A ++ B → Far v x ∨ x = v) : Prs w' K A B :=
  ⟨h.len, fun i x hi => by
    obtain ⟨u, y, h1, h2, h3, h4⟩ := h.at_ i x hi
    exact ⟨u, y, h1, h2.grow ht hr hr' (hx x (List.mem_append_left _ (List.mem_of_getElem? hi))), h3.grow ht hr hr' (hx u (List.mem_append_right _ (List.mem_of_getElem? h1))), h4⟩⟩

/-- A copy that was laid, and its slice that was appended. -/
theorem copy_ex {W w1 w2 : World} {base b : Nat} {f : Nat → Value} {xs : Nat → List Value} {K : List Nat} (h : Iv W base b f xs K) (j : Nat) (h1 : 13 ≤ j) (h2 : j ≤ 17) {v v' : Value} {ug n uc : Nat} {l : List Int} (ej : f j = v) (ht : Touch [] W w1)
    (hu : w1.ownsRow W.heap.size 3 1 (.slice (some ⟨ug, 0, none⟩) n uc) n (ints l)) (ho : w2.ownsRow base 29 1 v' ((xs j).length + 1) (xs j ++ [.slice (some ⟨ug, 0, none⟩) n uc]))
    (hg : (w1.alloc (.cells #[.slice (some ⟨ug, 0, none⟩) n uc] 29)).grownBy w2 v.ownBlock) (hat : v'.ownBlock = v.ownBlock ∨ v'.ownBlock = some (w1.alloc (.cells #[.slice (some ⟨ug, 0, none⟩) n uc] 29)).heap.size) :
    Iv (w2.setCell ⟨b, j, none⟩ v') base b (put f j v') (putl xs j (xs j ++ [.slice (some ⟨ug, 0, none⟩) n uc])) (ug :: K) ∧ Ex W (w2.setCell ⟨b, j, none⟩ v') b f (put f j v') K (ug :: K) ∧ Rd (w2.setCell ⟨b, j, none⟩ v') (ug :: K) (.slice (some ⟨ug, 0, none⟩) n uc) (ints l) := by
  subst ej
  have hul := hu.lt ug rfl
  have hb1 : Below W.heap.size W w1 := ht.below (Nat.le_refl _) (fun k hk => by cases hk)
  have hbb : base ≤ W.heap.size := by have := h.lo; have := h.bk.lt; omega
  have hV1 : Iv w1 base b f xs (ug :: K) := (h.nil hb1).more (by omega) hul.2 (fun ho => by have := (h.ownLt ho).2; omega)
  have hE1 : Ex W w1 b f f K (ug :: K) := Ex.keepMore ug hul.1 (Ex.below hb1)
  obtain ⟨q1, q2⟩ := hV1.appEx j h1 (by omega) _ v' (by rw [show ty j = 29 by unfold ty; rw [if_pos h2]]; exact ho) ((Touch.alloc _ _ _).trans (Touch.grown hg (fun k hk => by simp [hk]))) (by
    rcases hat with e | e
    · exact .inl e
    · exact .inr ⟨_, e, by simp⟩)
  have hr1 : Rd w1 (ug :: K) (.slice (some ⟨ug, 0, none⟩) n uc) (ints l) := Rd.row hu (fun g hg => by simp [Value.ownBlock] at hg; simp [hg])
  exact ⟨q1, hE1.trans q2, q2.rd hV1 hr1⟩

end Go.Proofs.YtcijdbhabbepaaaGreatDoor.Kg
