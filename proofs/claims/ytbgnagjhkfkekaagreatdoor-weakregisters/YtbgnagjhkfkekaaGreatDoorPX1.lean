/-
  WeakRegisters: the book, lists, and whatever else there is (P, in the blocks F).
-/
import Derived.Test.YtbgnagjhkfkekaaGreatDoorPWa
import Derived.Test.YtbgnagjhkfkekaaGreatDoorKG14
set_option linter.unusedVariables false
set_option maxRecDepth 20000
namespace Go.Proofs.YtbgnagjhkfkekaaGreatDoor
open Go.RowKit

theorem Touch.kg {F : List Nat} {w w' : World} (h : Touch F w w') : Kg.Touch F w w' := ⟨h.os, h.tape, h.output, h.size, h.block⟩
theorem touch_of_kg {F : List Nat} {w w' : World} (h : Kg.Touch F w w') : Touch F w w' := ⟨h.os, h.tape, h.output, h.size, h.block⟩

theorem own_keep {w w' : World} {base n e size k : Nat} {v : Value} {xs : List Value} (h : w.ownsRow base e size v n xs) (hk : ∀ k, v.ownBlock = some k → w'.heap[k]? = w.heap[k]?) : w'.ownsRow base e size v n xs := by
  refine ⟨h.1, ?_⟩
  rcases h.2 with hn | ⟨g, cap, cur, rfl, hb', hg, rest⟩
  · exact .inl hn
  · refine .inr ⟨g, cap, cur, rfl, hb', ?_, rest⟩
    rw [hk g rfl]; exact hg

/-- A block that is not the book's. -/
def For (b : Nat) (f : Nat → Value) (K : List Nat) (w : World) (k : Nat) : Prop := k < w.heap.size ∧ ¬ Kg.Own b f k ∧ k ∉ K

theorem for_ey {w w' : World} {b k : Nat} {f f' : Nat → Value} {K K' : List Nat} {v : Value} (h : Kg.Ey w w' b f f' (v.ownBlock.toList ++ K) K') (hk : For b f K w k) (hv : v.ownBlock ≠ some k) : w'.heap[k]? = w.heap[k]? ∧ For b f' K' w' k := by
  obtain ⟨G, h1, h2⟩ := h.t
  have hn : k ∉ v.ownBlock.toList ++ K := fun hm => by
    rcases List.mem_append.1 hm with hm | hm
    · exact hv (by simpa using hm)
    · exact hk.2.2 hm
  refine ⟨h1.block k hk.1 (fun hm => ?_), Nat.lt_of_lt_of_le hk.1 h1.size, fun ho => ?_, fun hm => ?_⟩
  · rcases h2 k hm with h3 | h3
    · exact hk.2.1 h3
    · exact hn h3
  · rcases h.o k ho with h3 | h3
    · exact hk.2.1 h3
    · have := hk.1; omega
  · rcases h.n k hm with h3 | h3 | h3
    · exact hn h3
    · exact hk.2.1 h3
    · have := hk.1; omega

/-- Lists that are kept beside the book (L; none: there is none at that place), and roots with the blocks F. -/
structure Sp (w : World) (base b : Nat) (f : Nat → Value) (K : List Nat) (L : List (Option (Value × List Int))) (F : List Nat) : Prop where
  row : ∀ (i : Nat) v l, L[i]? = some (some (v, l)) → Kg.Row w base v l
  fo : ∀ (i : Nat) v l, L[i]? = some (some (v, l)) → ∀ g, v.ownBlock = some g → For b f K w g ∧ g ∉ F
  pw : ∀ (i j : Nat) v l u m, L[i]? = some (some (v, l)) → L[j]? = some (some (u, m)) → i ≠ j → Kg.Far v u
  ff : ∀ k, k ∈ F → For b f K w k

theorem Sp.set_none {w : World} {base b : Nat} {f : Nat → Value} {K : List Nat} {L : List (Option (Value × List Int))} {F : List Nat} (h : Sp w base b f K L F) (n : Nat) : Sp w base b f K (L.set n none) F := by
  have back : ∀ (i : Nat) v l, (L.set n none)[i]? = some (some (v, l)) → L[i]? = some (some (v, l)) := fun i v l hi => by
    rw [List.getElem?_set] at hi
    split at hi
    · split at hi <;> simp at hi
    · exact hi
  exact ⟨fun i v l hi => h.row i v l (back i v l hi), fun i v l hi => h.fo i v l (back i v l hi), fun i j v l u m hi hj hn => h.pw i j v l u m (back i v l hi) (back j u m hj) hn, h.ff⟩

/-- One of them comes into the book. -/
theorem Sp.ints {w w' : World} {base b : Nat} {f f' : Nat → Value} {K K' : List Nat} {L : List (Option (Value × List Int))} {F : List Nat} (h : Sp w base b f K L F) {n : Nat} {v : Value} {l : List Int} (hn : L[n]? = some (some (v, l))) (hE : Kg.Ey w w' b f f' (v.ownBlock.toList ++ K) K') : Sp w' base b f' K' (L.set n none) F ∧ ∀ k, k ∈ F → w'.heap[k]? = w.heap[k]? := by
  have back : ∀ (i : Nat) u m, (L.set n none)[i]? = some (some (u, m)) → L[i]? = some (some (u, m)) ∧ i ≠ n := fun i u m hi => by
    rw [List.getElem?_set] at hi
    split at hi
    · split at hi <;> simp at hi
    · rename_i hne
      exact ⟨hi, fun e => hne e.symm⟩
  have nv : ∀ (i : Nat) u m, (L.set n none)[i]? = some (some (u, m)) → ∀ g, u.ownBlock = some g → v.ownBlock ≠ some g := fun i u m hi g hg e => by
    obtain ⟨h1, h2⟩ := back i u m hi
    exact h.pw i n u m v l h1 hn h2 g hg e
  have nf : ∀ k, k ∈ F → v.ownBlock ≠ some k := fun k hk e => (h.fo n v l hn k e).2 hk
  refine ⟨⟨fun i u m hi => ?_, fun i u m hi g hg => ?_, fun i j v l u m hi hj hne => h.pw i j v l u m (back i v l hi).1 (back j u m hj).1 hne, fun k hk => (for_ey hE (h.ff k hk) (nf k hk)).2⟩, fun k hk => (for_ey hE (h.ff k hk) (nf k hk)).1⟩
  · obtain ⟨h1, h2⟩ := back i u m hi
    exact own_keep (k := 0) (h.row i u m h1) (fun k e => (for_ey hE (h.fo i u m h1 k e).1 (nv i u m hi k e)).1)
  · obtain ⟨h1, h2⟩ := back i u m hi
    exact ⟨(for_ey hE (h.fo i u m h1 g hg).1 (nv i u m hi g hg)).2, (h.fo i u m h1 g hg).2⟩

/-- A step over F's blocks alone. -/
theorem Sp.touch {w w' : World} {base b : Nat} {f : Nat → Value} {K : List Nat} {L : List (Option (Value × List Int))} {F : List Nat} (h : Sp w base b f K L F) (ht : Kg.Touch F w w') : Sp w' base b f K L F :=
  ⟨fun i v l hi => own_keep (k := 0) (h.row i v l hi) (fun k e => ht.block k (h.fo i v l hi k e).1.1 (h.fo i v l hi k e).2),
    fun i v l hi g hg => ⟨⟨Nat.lt_of_lt_of_le (h.fo i v l hi g hg).1.1 ht.size, (h.fo i v l hi g hg).1.2⟩, (h.fo i v l hi g hg).2⟩, h.pw,
    fun k hk => ⟨Nat.lt_of_lt_of_le (h.ff k hk).1 ht.size, (h.ff k hk).2⟩⟩

/-- A new list. -/
theorem Sp.new {w w' : World} {base b : Nat} {f : Nat → Value} {xs : Nat → List Value} {K : List Nat} {L : List (Option (Value × List Int))} {F : List Nat} (h : Sp w base b f K L F) (hI : Kg.Iv w base b f xs K) (ht : Kg.Touch F w w') {v : Value} {l : List Int} (hr : Kg.Row w' w.heap.size v l) (n : Nat) : Sp w' base b f K (L.set n (some (v, l))) F := by
  have h' := h.touch ht
  have hb : base ≤ w.heap.size := by have := hI.lo; have := hI.bk.lt; omega
  have cs : ∀ (i : Nat) u m, (L.set n (some (v, l)))[i]? = some (some (u, m)) → (i = n ∧ u = v ∧ m = l) ∨ (i ≠ n ∧ L[i]? = some (some (u, m))) := fun i u m hi => by
    rw [List.getElem?_set] at hi
    split at hi
    · rename_i e
      split at hi
      · simp at hi; exact .inl ⟨e.symm, hi.1.symm, hi.2.symm⟩
      · cases hi
    · rename_i e
      exact .inr ⟨fun h => e h.symm, hi⟩
  have nw : ∀ g, v.ownBlock = some g → w.heap.size ≤ g ∧ g < w'.heap.size := fun g hg => hr.lt g hg
  refine ⟨fun i u m hi => ?_, fun i u m hi g hg => ?_, fun i j x l1 y l2 hi hj hne => ?_, h'.ff⟩
  · rcases cs i u m hi with ⟨_, rfl, rfl⟩ | ⟨_, hi⟩
    · exact Kg.row_base hr hb
    · exact h'.row i u m hi
  · rcases cs i u m hi with ⟨_, rfl, rfl⟩ | ⟨_, hi⟩
    · have := nw g hg
      exact ⟨⟨this.2, fun ho => by have := (hI.ownLt ho).2; omega, fun hm => by have := (hI.kin g hm).2; omega⟩, fun hm => by have := (h.ff g hm).1; omega⟩
    · exact h'.fo i u m hi g hg
  · rcases cs i x l1 hi with ⟨hi9, hx, _⟩ | ⟨hin, hi9⟩
    · rcases cs j y l2 hj with ⟨hj9, _⟩ | ⟨_, hj9⟩
      · exact absurd (hi9.trans hj9.symm) hne
      · intro g hg e
        rw [hx] at hg
        have := nw g hg
        have := (h.fo j y l2 hj9 g e).1.1
        omega
    · rcases cs j y l2 hj with ⟨_, hy, _⟩ | ⟨_, hj9⟩
      · intro g hg e
        rw [hy] at e
        have := nw g e
        have := (h.fo i x l1 hi9 g hg).1.1
        omega
      · exact h.pw i j x l1 y l2 hi9 hj9 hne

/-- The book behind a step over blocks that are not its own. -/
theorem bok_touch {w w' : World} {base b : Nat} {f : Nat → Value} {xs : Nat → List Value} {K G : List Nat} {ms ds : List Int} {turn : Int} {seen T : Nat} {deep : Int} (h : Kg.Bok w base b f xs K ms ds turn seen T deep) (ht : Kg.Touch G w w') (hG : ∀ k, k ∈ G → ¬ Kg.Own b f k ∧ k ∉ K) : Kg.Bok w' base b f xs K ms ds turn seen T deep :=
  ⟨h.iv.keep ht (fun k hk => (hG k hk).1), h.pr.off ht (fun k hk => (hG k hk).2), h.wt.keep ht (fun _ hk => hk) (fun v hv k hk hm => (hG k hm).2 (h.wt.inA hv k hk)) (fun v hv k hk hm => (hG k hm).2 (h.wt.inN hv k hk)), h.e18, h.e19, h.l19, h.e17, h.e20, h.dst, h.ns, h.f0, h.f1, h.f2, h.f3, h.f21, h.t0, h.t1, h.s1, h.len⟩

theorem Sp.perm {w : World} {base b : Nat} {f : Nat → Value} {K : List Nat} {L : List (Option (Value × List Int))} {F F' : List Nat} (h : Sp w base b f K L F) (hF : ∀ k, k ∈ F' ↔ k ∈ F) : Sp w base b f K L F' :=
  ⟨h.row, fun i v l hi g hg => ⟨(h.fo i v l hi g hg).1, fun hm => (h.fo i v l hi g hg).2 ((hF g).1 hm)⟩, h.pw, fun k hk => h.ff k ((hF k).1 hk)⟩

/-- The blocks become others: some of them are new. -/
theorem Sp.more {w w' : World} {base b : Nat} {f : Nat → Value} {xs : Nat → List Value} {K : List Nat} {L : List (Option (Value × List Int))} {F F' : List Nat} (h : Sp w base b f K L F) (hI : Kg.Iv w base b f xs K) (ht : Kg.Touch F w w') (hn : Kg.Newer w.heap.size F F') (hl : ∀ k, k ∈ F' → k < w'.heap.size) : Sp w' base b f K L F' := by
  have h' := h.touch ht
  refine ⟨h'.row, fun i v l hi g hg => ⟨(h'.fo i v l hi g hg).1, fun hm => ?_⟩, h'.pw, fun k hk => ?_⟩
  · rcases hn g hm with h1 | h1
    · exact (h.fo i v l hi g hg).2 h1
    · have := (h.fo i v l hi g hg).1.1; omega
  · rcases hn k hk with h1 | h1
    · exact h'.ff k h1
    · exact ⟨hl k hk, fun ho => by have := (hI.ownLt ho).2; omega, fun hm => by have := (hI.kin k hm).2; omega⟩

/-- P holds whatever becomes of blocks that aren't F's, from base on. -/
structure Stq (base : Nat) (F : List Nat) (P : World → Prop) : Prop where
  keep : ∀ w w' G, P w → Touch G w w' → (∀ q, q ∈ F → q ∉ G) → (∀ q, q ∈ G → base ≤ q) → P w'
  lt : ∀ w, P w → ∀ q, q ∈ F → q < w.heap.size

/-- The book (n lists have come), P, lists. -/
structure Px (W w : World) (base bb n : Nat) (F : List Nat) (P : World → Prop) (L : List (Option (Value × List Int))) : Prop where
  ex : ∃ f xs K ms ds, Kg.Bok w base bb f xs K ms ds n n (2 * n) 0 ∧ Sp w base bb f K L F
  s : Stq base F P
  p : P w
  l : ∀ q, q ∈ F → base ≤ q
  hb : base ≤ w.heap.size
  be : Below base W w

section
variable {W w w' : World} {base bb n : Nat} {F F' : List Nat} {P P' : World → Prop} {L : List (Option (Value × List Int))}

theorem Px.step (h : Px W w base bb n F P L) (hs : Stq base F' P') (hp : P' w') (ht : Touch F w w') (hn : Kg.Newer w.heap.size F F') : Px W w' base bb n F' P' L := by
  obtain ⟨f, xs, K, ms, ds, h1, h2⟩ := h.ex
  exact ⟨⟨f, xs, K, ms, ds, bok_touch h1 ht.kg (fun k hk => (h2.ff k hk).2), h2.more h1.iv ht.kg hn (hs.lt _ hp)⟩, hs, hp, fun q hq => (hn q hq).elim (h.l q) (fun h9 => Nat.le_trans h.hb h9), Nat.le_trans h.hb ht.size, h.be.trans (ht.below h.hb h.l)⟩

theorem Px.below (h : Px W w base bb n F P L) (hb : Below w.heap.size w w') : Px W w' base bb n F P L :=
  h.step h.s (h.s.keep _ _ [] h.p (Touch.of_below hb []) (by simp) (by simp)) (Touch.of_below hb F) (Kg.Newer.refl _ _)

/-- A new list. -/
theorem Px.newB (h : Px W w base bb n F P L) (hb : Below w.heap.size w w') {v : Value} {l : List Int} (hv : Kg.Row w' w.heap.size v l) (i : Nat) : Px W w' base bb n F P (L.set i (some (v, l))) := by
  obtain ⟨f, xs, K, ms, ds, h1, h2⟩ := h.ex
  have h' := h.below hb
  exact ⟨⟨f, xs, K, ms, ds, bok_touch h1 (Kg.Touch.of_below hb []) (fun k hk => by cases hk), h2.new h1.iv (Kg.Touch.of_below hb _) hv i⟩, h'.s, h'.p, h'.l, h'.hb, h'.be⟩

theorem Px.row (h : Px W w base bb n F P L) {i : Nat} {v : Value} {l : List Int} (hi : L[i]? = some (some (v, l))) : Kg.Row w base v l := by
  obtain ⟨f, xs, K, ms, ds, h1, h2⟩ := h.ex
  exact h2.row i v l hi

theorem Px.ints (h : Px W w base bb n F P L) (hn : n < 400000000) {i : Nat} {v : Value} {l : List Int} (hi : L[i]? = some (some (v, l))) (hl : l.length ≤ 10000000000000) (mark : Int) (m0 : 0 ≤ mark) (m1 : mark ≤ 1000000000000000) :
    Calls Tryz.prog 13 #[.pointer (some ⟨bb, 0, none⟩), v, .int .i64 mark] w fun e w' => e = .returned (.tuple #[]) ∧ Px W w' base bb (n + 1) F P (L.set i none) := by
  obtain ⟨f, xs, K, ms, ds, h1, h2⟩ := h.ex
  refine (Kg.ints_any h1 (by omega) h.hb v l (h2.row i v l hi) hl (fun g hg => (h2.fo i v l hi g hg).1.2) mark m0 m1).mono ?_
  rintro e w' ⟨rfl, f', xs', K', ms', ds', hB, hE⟩
  obtain ⟨q1, q2⟩ := h2.ints hi hE
  obtain ⟨G, t, hG⟩ := hE.t
  have nG : ∀ q, q ∈ F → q ∉ G := fun q hq hm => by
    rcases hG q hm with h3 | h3
    · exact (h2.ff q hq).2.1 h3
    · rcases List.mem_append.1 h3 with h3 | h3
      · exact (h2.fo i v l hi q (by simpa using h3)).2 hq
      · exact (h2.ff q hq).2.2 h3
  have bG : ∀ k, k ∈ G → base ≤ k := fun k hk => by
    rcases hG k hk with h3 | h3
    · exact (h1.iv.ownLt h3).1
    · rcases List.mem_append.1 h3 with h3 | h3
      · exact ((h2.row i v l hi).lt k (by simpa using h3)).1
      · exact (h1.iv.kin k h3).1
  exact ⟨rfl, ⟨f', xs', K', ms', ds', by rw [show 2 * (n + 1) = 2 * n + 2 by omega]; exact hB, q1⟩, h.s, h.s.keep _ _ _ h.p (touch_of_kg t) nG bG, h.l, Nat.le_trans h.hb t.size, h.be.trans (t.below h.hb bG)⟩

theorem Px.hold (h : Px W w base bb n F P L) (hn : n < 400000000) :
    Calls Tryz.prog 14 #[.pointer (some ⟨bb, 0, none⟩)] w fun e w' => e = .returned (.bool true) ∧ Px W w' base bb n F P L := by
  obtain ⟨f, xs, K, ms, ds, h1, h2⟩ := h.ex
  have hl := h1.len
  refine (Kg.hold_any h1.st h1.f1 (by omega) (by omega)).mono ?_
  rintro e w' ⟨rfl, hb⟩
  exact ⟨rfl, h.below hb⟩

theorem Px.drop (h : Px W w base bb n F P L) (i : Nat) : Px W w base bb n F P (L.set i none) := by
  obtain ⟨f, xs, K, ms, ds, h1, h2⟩ := h.ex
  exact ⟨⟨f, xs, K, ms, ds, h1, h2.set_none i⟩, h.s, h.p, h.l, h.hb, h.be⟩
end

end Go.Proofs.YtbgnagjhkfkekaaGreatDoor
