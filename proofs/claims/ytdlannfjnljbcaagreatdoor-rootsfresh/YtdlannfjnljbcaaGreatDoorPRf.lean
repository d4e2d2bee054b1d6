import Derived.Test.YtdlannfjnljbcaaGreatDoorR24
import Derived.Test.YtdlannfjnljbcaaGreatDoorKG13
/-
  RootsFresh: the book, roots and lists beside one another.
-/
set_option linter.unusedVariables false
set_option maxRecDepth 20000
namespace Go.Proofs.YtdlannfjnljbcaaGreatDoor
open Go.RowKit

theorem Touch.kg {F : List Nat} {w w' : World} (h : Touch F w w') : Kg.Touch F w w' := ⟨h.os, h.tape, h.output, h.size, h.block⟩
theorem Kg.Touch.to {F : List Nat} {w w' : World} (h : Kg.Touch F w w') : Touch F w w' := ⟨h.os, h.tape, h.output, h.size, h.block⟩

/-- A block that is not the book's. -/
def For (b : Nat) (f : Nat → Value) (K : List Nat) (w : World) (k : Nat) : Prop := k < w.heap.size ∧ ¬ Kg.Own b f k ∧ k ∉ K

theorem for_ey {w w' : World} {b k : Nat} {f f' : Nat → Value} {K K' : List Nat} {v : Value} (h : Kg.Ey w w' b f f' (v.ownBlock.toList ++ K) K') (hk : For b f K w k) (hv : v.ownBlock ≠ some k) : w'.heap[k]? = w.heap[k]? ∧ For b f' K' w' k := by
  obtain ⟨G, h1, h2⟩ := h.t
  have hn : k ∉ v.ownBlock.toList ++ K := fun hm => by
    rcases List.mem_append.1 hm with hm | hm
    · exact hv (by simpa using hm)
    · exact hk.2.2 hm
  refine ⟨h1.block k hk.1 (fun hm => ?_), Nat.lt_of_lt_of_le hk.1 h1.size, fun ho => ?_, fun hm => ?_⟩
  · rcases h2 k hm with h3 | h3
    · exact hk.2.1 h3
    · exact hn h3
  · rcases h.o k ho with h3 | h3
    · exact hk.2.1 h3
    · have := hk.1; omega
  · rcases h.n k hm with h3 | h3 | h3
    · exact hn h3
    · exact hk.2.1 h3
    · have := hk.1; omega

/-- Lists that are kept beside the book (L; none: there is none at that place), and roots with the blocks F. -/
structure Sp (w : World) (base b : Nat) (f : Nat → Value) (K : List Nat) (L : List (Option (Value × List Int))) (F : List Nat) : Prop where
  row : ∀ (i : Nat) v l, L[i]? = some (some (v, l)) → Kg.Row w base v l
  fo : ∀ (i : Nat) v l, L[i]? = some (some (v, l)) → ∀ g, v.ownBlock = some g → For b f K w g ∧ g ∉ F
  pw : ∀ (i j : Nat) v l u m, L[i]? = some (some (v, l)) → L[j]? = some (some (u, m)) → i ≠ j → Kg.Far v u
  ff : ∀ k, k ∈ F → For b f K w k

theorem Sp.set_none {w : World} {base b : Nat} {f : Nat → Value} {K : List Nat} {L : List (Option (Value × List Int))} {F : List Nat} (h : Sp w base b f K L F) (n : Nat) : Sp w base b f K (L.set n none) F := by
  have back : ∀ (i : Nat) v l, (L.set n none)[i]? = some (some (v, l)) → L[i]? = some (some (v, l)) := fun i v l hi => by
    rw [List.getElem?_set] at hi
    split at hi
    · split at hi <;> simp at hi
    · exact hi
  exact ⟨fun i v l hi => h.row i v l (back i v l hi), fun i v l hi => h.fo i v l (back i v l hi), fun i j v l u m hi hj hn => h.pw i j v l u m (back i v l hi) (back j u m hj) hn, h.ff⟩

/-- One of them comes into the book. -/
theorem Sp.ints {w w' : World} {base b : Nat} {f f' : Nat → Value} {K K' : List Nat} {L : List (Option (Value × List Int))} {F : List Nat} (h : Sp w base b f K L F) {n : Nat} {v : Value} {l : List Int} (hn : L[n]? = some (some (v, l))) (hE : Kg.Ey w w' b f f' (v.ownBlock.toList ++ K) K') : Sp w' base b f' K' (L.set n none) F ∧ ∀ k, k ∈ F → w'.heap[k]? = w.heap[k]? := by
  have back : ∀ (i : Nat) u m, (L.set n none)[i]? = some (some (u, m)) → L[i]? = some (some (u, m)) ∧ i ≠ n := fun i u m hi => by
    rw [List.getElem?_set] at hi
    split at hi
    · split at hi <;> simp at hi
    · rename_i hne
      exact ⟨hi, fun e => hne e.symm⟩
  have nv : ∀ (i : Nat) u m, (L.set n none)[i]? = some (some (u, m)) → ∀ g, u.ownBlock = some g → v.ownBlock ≠ some g := fun i u m hi g hg e => by
    obtain ⟨h1, h2⟩ := back i u m hi
    exact h.pw i n u m v l h1 hn h2 g hg e
  have nf : ∀ k, k ∈ F → v.ownBlock ≠ some k := fun k hk e => (h.fo n v l hn k e).2 hk
  refine ⟨⟨fun i u m hi => ?_, fun i u m hi g hg => ?_, fun i j v l u m hi hj hne => h.pw i j v l u m (back i v l hi).1 (back j u m hj).1 hne, fun k hk => (for_ey hE (h.ff k hk) (nf k hk)).2⟩, fun k hk => (for_ey hE (h.ff k hk) (nf k hk)).1⟩
  · obtain ⟨h1, h2⟩ := back i u m hi
    exact own_keep (k := 0) (h.row i u m h1) (fun k e => (for_ey hE (h.fo i u m h1 k e).1 (nv i u m hi k e)).1)
  · obtain ⟨h1, h2⟩ := back i u m hi
    exact ⟨(for_ey hE (h.fo i u m h1 g hg).1 (nv i u m hi g hg)).2, (h.fo i u m h1 g hg).2⟩

/-- A step over F's blocks alone. -/
theorem Sp.touch {w w' : World} {base b : Nat} {f : Nat → Value} {K : List Nat} {L : List (Option (Value × List Int))} {F : List Nat} (h : Sp w base b f K L F) (ht : Touch F w w') : Sp w' base b f K L F :=
  ⟨fun i v l hi => own_keep (k := 0) (h.row i v l hi) (fun k e => ht.block k (h.fo i v l hi k e).1.1 (h.fo i v l hi k e).2),
    fun i v l hi g hg => ⟨⟨Nat.lt_of_lt_of_le (h.fo i v l hi g hg).1.1 ht.size, (h.fo i v l hi g hg).1.2⟩, (h.fo i v l hi g hg).2⟩, h.pw,
    fun k hk => ⟨Nat.lt_of_lt_of_le (h.ff k hk).1 ht.size, (h.ff k hk).2⟩⟩

/-- A new list. -/
theorem Sp.new {w w' : World} {base b : Nat} {f : Nat → Value} {xs : Nat → List Value} {K : List Nat} {L : List (Option (Value × List Int))} {F : List Nat} (h : Sp w base b f K L F) (hI : Kg.Iv w base b f xs K) (ht : Touch F w w') {v : Value} {l : List Int} (hr : Kg.Row w' w.heap.size v l) (n : Nat) : Sp w' base b f K (L.set n (some (v, l))) F := by
  have h' := h.touch ht
  have hb : base ≤ w.heap.size := by have := hI.lo; have := hI.bk.lt; omega
  have cs : ∀ (i : Nat) u m, (L.set n (some (v, l)))[i]? = some (some (u, m)) → (i = n ∧ u = v ∧ m = l) ∨ (i ≠ n ∧ L[i]? = some (some (u, m))) := fun i u m hi => by
    rw [List.getElem?_set] at hi
    split at hi
    · rename_i e
      split at hi
      · simp at hi; exact .inl ⟨e.symm, hi.1.symm, hi.2.symm⟩
      · cases hi
    · rename_i e
      exact .inr ⟨fun h => e h.symm, hi⟩
  have nw : ∀ g, v.ownBlock = some g → w.heap.size ≤ g ∧ g < w'.heap.size := fun g hg => hr.lt g hg
  refine ⟨fun i u m hi => ?_, fun i u m hi g hg => ?_, fun i j x l1 y l2 hi hj hne => ?_, h'.ff⟩
  · rcases cs i u m hi with ⟨_, rfl, rfl⟩ | ⟨_, hi⟩
    · exact Kg.row_base hr hb
    · exact h'.row i u m hi
  · rcases cs i u m hi with ⟨_, rfl, rfl⟩ | ⟨_, hi⟩
    · have := nw g hg
      exact ⟨⟨this.2, fun ho => by have := (hI.ownLt ho).2; omega, fun hm => by have := (hI.kin g hm).2; omega⟩, fun hm => by have := (h.ff g hm).1; omega⟩
    · exact h'.fo i u m hi g hg
  · rcases cs i x l1 hi with ⟨hi9, hx, _⟩ | ⟨hin, hi9⟩
    · rcases cs j y l2 hj with ⟨hj9, _⟩ | ⟨_, hj9⟩
      · exact absurd (hi9.trans hj9.symm) hne
      · intro g hg e
        rw [hx] at hg
        have := nw g hg
        have := (h.fo j y l2 hj9 g e).1.1
        omega
    · rcases cs j y l2 hj with ⟨_, hy, _⟩ | ⟨_, hj9⟩
      · intro g hg e
        rw [hy] at e
        have := nw g e
        have := (h.fo i x l1 hi9 g hg).1.1
        omega
      · exact h.pw i j x l1 y l2 hi9 hj9 hne

/-- The book behind a step over blocks that are not its own. -/
theorem bok_touch {w w' : World} {base b : Nat} {f : Nat → Value} {xs : Nat → List Value} {K G : List Nat} {ms ds : List Int} {turn : Int} {seen T : Nat} {deep : Int} (h : Kg.Bok w base b f xs K ms ds turn seen T deep) (ht : Kg.Touch G w w') (hG : ∀ k, k ∈ G → ¬ Kg.Own b f k ∧ k ∉ K) : Kg.Bok w' base b f xs K ms ds turn seen T deep :=
  ⟨h.iv.keep ht (fun k hk => (hG k hk).1), h.pr.off ht (fun k hk => (hG k hk).2), h.wt.keep ht (fun _ hk => hk) (fun v hv k hk hm => (hG k hm).2 (h.wt.inA hv k hk)) (fun v hv k hk hm => (hG k hm).2 (h.wt.inN hv k hk)), h.e18, h.e19, h.l19, h.e17, h.e20, h.dst, h.ns, h.f0, h.f1, h.f2, h.f3, h.f21, h.t0, h.t1, h.s1, h.len⟩

/-- The book (n lists have come), roots, lists. -/
structure Sx (W w : World) (base bb rb N : Nat) (S : Sta) (F : List Nat) (L : List (Option (Value × List Int))) (n : Nat) : Prop where
  ex : ∃ f xs K ms ds, Kg.Bok w base bb f xs K ms ds n n (2 * n) 0 ∧ Sp w base bb f K L F
  rts : Rts w base rb N S F
  hb : base ≤ w.heap.size
  be : Below base W w

theorem Sx.touch {W w w' : World} {base bb rb N : Nat} {S : Sta} {F : List Nat} {L : List (Option (Value × List Int))} {n : Nat} (h : Sx W w base bb rb N S F L n) (ht : Touch F w w') (hr : Rts w' base rb N S F) : Sx W w' base bb rb N S F L n := by
  obtain ⟨f, xs, K, ms, ds, h1, h2⟩ := h.ex
  exact ⟨⟨f, xs, K, ms, ds, bok_touch h1 ht.kg (fun k hk => (h2.ff k hk).2), h2.touch ht⟩, hr, Nat.le_trans h.hb ht.size, h.be.trans (ht.below h.hb (fun k hk => (h.rts.mem k hk).1))⟩

theorem Sx.new {W w w' : World} {base bb rb N : Nat} {S : Sta} {F : List Nat} {L : List (Option (Value × List Int))} {n : Nat} (h : Sx W w base bb rb N S F L n) (ht : Touch F w w') (hr : Rts w' base rb N S F) {v : Value} {l : List Int} (hv : Kg.Row w' w.heap.size v l) (i : Nat) : Sx W w' base bb rb N S F (L.set i (some (v, l))) n := by
  obtain ⟨f, xs, K, ms, ds, h1, h2⟩ := h.ex
  exact ⟨⟨f, xs, K, ms, ds, bok_touch h1 ht.kg (fun k hk => (h2.ff k hk).2), h2.new h1.iv ht hv i⟩, hr, Nat.le_trans h.hb ht.size, h.be.trans (ht.below h.hb (fun k hk => (h.rts.mem k hk).1))⟩

theorem Sx.below {W w w' : World} {base bb rb N : Nat} {S : Sta} {F : List Nat} {L : List (Option (Value × List Int))} {n : Nat} (h : Sx W w base bb rb N S F L n) (hb : Below w.heap.size w w') : Sx W w' base bb rb N S F L n :=
  h.touch (Touch.of_below hb F) (h.rts.nil (Touch.of_below hb []))

theorem Sx.newB {W w w' : World} {base bb rb N : Nat} {S : Sta} {F : List Nat} {L : List (Option (Value × List Int))} {n : Nat} (h : Sx W w base bb rb N S F L n) (hb : Below w.heap.size w w') {v : Value} {l : List Int} (hv : Kg.Row w' w.heap.size v l) (i : Nat) : Sx W w' base bb rb N S F (L.set i (some (v, l))) n :=
  h.new (Touch.of_below hb F) (h.rts.nil (Touch.of_below hb [])) hv i

theorem Sx.is {W w : World} {base bb rb N : Nat} {S : Sta} {F : List Nat} {L : List (Option (Value × List Int))} {n : Nat} (h : Sx W w base bb rb N S F L n) {i : Nat} {v : Value} {l : List Int} (hi : L[i]? = some (some (v, l))) : SliceIs w.heap.size w v l := by
  obtain ⟨f, xs, K, ms, ds, h1, h2⟩ := h.ex
  exact own_is (h2.row i v l hi)

theorem Sx.ints {W w : World} {base bb rb N : Nat} {S : Sta} {F : List Nat} {L : List (Option (Value × List Int))} {n : Nat} (h : Sx W w base bb rb N S F L n) (hn : n < 100) {i : Nat} {v : Value} {l : List Int} (hi : L[i]? = some (some (v, l))) (hl : l.length ≤ 10000000000000) (mark : Int) (m0 : 0 ≤ mark) (m1 : mark ≤ 1000000000000000) :
    Calls Tryz.prog 13 #[.pointer (some ⟨bb, 0, none⟩), v, .int .i64 mark] w fun e w' => e = .returned (.tuple #[]) ∧ Sx W w' base bb rb N S F (L.set i none) (n + 1) := by
  obtain ⟨f, xs, K, ms, ds, h1, h2⟩ := h.ex
  refine (Kg.ints_any h1 (by omega) h.hb v l (h2.row i v l hi) hl (fun g hg => (h2.fo i v l hi g hg).1.2) mark m0 m1).mono ?_
  rintro e w' ⟨rfl, f', xs', K', ms', ds', hB, hE⟩
  obtain ⟨q1, q2⟩ := h2.ints hi hE
  refine ⟨rfl, ⟨f', xs', K', ms', ds', by rw [show 2 * (n + 1) = 2 * n + 2 by omega]; exact hB, q1⟩, ?_, Nat.le_trans h.hb (by obtain ⟨G, t, _⟩ := hE.t; exact t.size), h.be.trans ?_⟩
  rotate_left
  · obtain ⟨G, t, hG⟩ := hE.t
    refine t.to.below h.hb (fun k hk => ?_)
    rcases hG k hk with h3 | h3
    · exact (h1.iv.ownLt h3).1
    · rcases List.mem_append.1 h3 with h3 | h3
      · exact ((h2.row i v l hi).lt k (by simpa using h3)).1
      · exact (h1.iv.kin k h3).1
  obtain ⟨g, hh, q, FQ, vs, hR, rfl⟩ := h.rts
  exact ⟨g, hh, q, FQ, vs, hR.keep q2, rfl⟩

theorem Sx.hold {W w : World} {base bb rb N : Nat} {S : Sta} {F : List Nat} {L : List (Option (Value × List Int))} {n : Nat} (h : Sx W w base bb rb N S F L n) (hn : n < 100) :
    Calls Tryz.prog 14 #[.pointer (some ⟨bb, 0, none⟩)] w fun e w' => e = .returned (.bool true) ∧ Sx W w' base bb rb N S F L n := by
  obtain ⟨f, xs, K, ms, ds, h1, h2⟩ := h.ex
  have hl := h1.len
  refine (Kg.hold_any h1.st h1.f1 (by omega) (by omega)).mono ?_
  rintro e w' ⟨rfl, hb⟩
  exact ⟨rfl, h.below hb⟩

theorem Sx.drew {W w : World} {base bb rb N : Nat} {S : Sta} {F : List Nat} {L : List (Option (Value × List Int))} {n : Nat} (h : Sx W w base bb rb N S F L n) (nq : Nat) : Sx W (w.drewN nq) base bb rb N S F L n := h.below ((Touch.drewN [] w nq).below (Nat.le_refl _) (fun k hk => by cases hk))

theorem Sx.same {W w : World} {base bb rb N : Nat} {S : Sta} {F : List Nat} {L : List (Option (Value × List Int))} {n : Nat} (h : Sx W w base bb rb N S F L n) {i j : Nat} {v u : Value} {l : List Int} (hi : L[i]? = some (some (v, l))) (hj : L[j]? = some (some (u, l))) (hl : l.length ≤ 10000000000000) :
    Calls Tryz.prog 15 #[v, u] w fun e w' => e = .returned (.bool true) ∧ Sx W w' base bb rb N S F L n := by
  refine (same_any v u l l w (h.is hi) (h.is hj) (by omega)).mono ?_
  rintro e w' ⟨rfl, nq, rfl⟩
  exact ⟨by simp, h.drew nq⟩

theorem Sx.all {W w : World} {base bb rb N : Nat} {S : Sta} {F : List Nat} {L : List (Option (Value × List Int))} {n : Nat} (h : Sx W w base bb rb N S F L n) (hO : S.Ok) (hN : N < 8796092982208) (i : Nat) :
    Calls Tryz.prog 8 #[.pointer (some ⟨rb, 0, none⟩)] w fun e w' => ∃ v, e = .returned v ∧ Sx W w' base bb rb N S F (L.set i (some (v, S.all))) n := by
  refine (all_any base rb N S F w h.rts hO hN).mono ?_
  rintro e w' ⟨v, rfl, hr, hR, ht⟩
  exact ⟨v, rfl, h.new ht hR hr i⟩

theorem Sx.handles {W w : World} {base bb rb N : Nat} {S : Sta} {F : List Nat} {L : List (Option (Value × List Int))} {n : Nat} (h : Sx W w base bb rb N S F L n) (hO : S.Ok) (i : Nat) :
    Calls Tryz.prog 9 #[.pointer (some ⟨rb, 0, none⟩)] w fun e w' => ∃ v, e = .returned v ∧ Sx W w' base bb rb N S F (L.set i (some (v, tolds S.hs))) n := by
  refine (handles_any base rb N S F w h.rts hO).mono ?_
  rintro e w' ⟨v, rfl, hr, hb⟩
  exact ⟨v, rfl, h.newB hb (by rw [show S.hs.length = (tolds S.hs).length by simp [tolds]] at hr; exact hr) i⟩

theorem Sx.queue {W w : World} {base bb rb N : Nat} {S : Sta} {F : List Nat} {L : List (Option (Value × List Int))} {n : Nat} (h : Sx W w base bb rb N S F L n) (hN : N < 8796092982208) (i : Nat) :
    Calls Tryz.prog 10 #[.pointer (some ⟨rb, 0, none⟩)] w fun e w' => ∃ v, e = .returned v ∧ Sx W w' base bb rb N S F (L.set i (some (v, S.qs))) n := by
  refine (queue_any base rb N S F w h.rts (by omega)).mono ?_
  rintro e w' ⟨v, rfl, hr, hb⟩
  exact ⟨v, rfl, h.newB hb hr i⟩

theorem Sx.frames {W w : World} {base bb rb N : Nat} {S : Sta} {F : List Nat} {L : List (Option (Value × List Int))} {n : Nat} (h : Sx W w base bb rb N S F L n) (hO : S.Ok) (i : Nat) :
    Calls Tryz.prog 11 #[.pointer (some ⟨rb, 0, none⟩), .int .i64 0] w fun e w' => ∃ v, e = .returned v ∧ Sx W w' base bb rb N S F (L.set i (some (v, S.frames 0))) n := by
  refine (frames_any base rb N 0 S F w h.rts hO).mono ?_
  rintro e w' ⟨v, rfl, hr, hb⟩
  exact ⟨v, rfl, h.newB hb hr i⟩

end Go.Proofs.YtdlannfjnljbcaaGreatDoor

/-
  A new book; copied.
-/
set_option linter.unusedVariables false
set_option maxRecDepth 20000
namespace Go.Proofs.YtdlannfjnljbcaaGreatDoor.Kg
open Go.RowKit

/-- A new book. -/
def bk0 : Nat → Value := fun i => if i < 2 then .bool false else if i < 4 then .int .i64 0 else if (i - 4) % 9 = 8 then .int .i64 0 else .slice none 0 0

theorem bk0_lit : (#[.bool false, .bool false, .int .i64 0, .int .i64 0, .slice none 0 0, .slice none 0 0, .slice none 0 0, .slice none 0 0, .slice none 0 0, .slice none 0 0, .slice none 0 0, .slice none 0 0, .int .i64 0, .slice none 0 0, .slice none 0 0, .slice none 0 0, .slice none 0 0, .slice none 0 0, .slice none 0 0, .slice none 0 0, .slice none 0 0, .int .i64 0, .slice none 0 0, .slice none 0 0, .slice none 0 0, .slice none 0 0, .slice none 0 0, .slice none 0 0, .slice none 0 0, .slice none 0 0, .int .i64 0, .slice none 0 0, .slice none 0 0, .slice none 0 0, .slice none 0 0, .slice none 0 0, .slice none 0 0, .slice none 0 0, .slice none 0 0, .int .i64 0, .slice none 0 0, .slice none 0 0, .slice none 0 0, .slice none 0 0, .slice none 0 0, .slice none 0 0, .slice none 0 0, .slice none 0 0, .int .i64 0, .slice none 0 0, .slice none 0 0, .slice none 0 0, .slice none 0 0, .slice none 0 0, .slice none 0 0, .slice none 0 0, .slice none 0 0, .int .i64 0, .slice none 0 0, .slice none 0 0, .slice none 0 0, .slice none 0 0, .slice none 0 0, .slice none 0 0, .slice none 0 0, .slice none 0 0, .int .i64 0, .slice none 0 0, .slice none 0 0, .slice none 0 0, .slice none 0 0, .slice none 0 0, .slice none 0 0, .slice none 0 0, .slice none 0 0, .int .i64 0, .slice none 0 0, .slice none 0 0, .slice none 0 0, .slice none 0 0, .slice none 0 0, .slice none 0 0, .slice none 0 0, .slice none 0 0, .int .i64 0, .slice none 0 0, .slice none 0 0, .slice none 0 0, .slice none 0 0, .slice none 0 0, .slice none 0 0, .slice none 0 0, .slice none 0 0, .int .i64 0, .slice none 0 0, .slice none 0 0, .slice none 0 0, .slice none 0 0, .slice none 0 0, .slice none 0 0, .slice none 0 0, .slice none 0 0, .int .i64 0, .slice none 0 0, .slice none 0 0, .slice none 0 0, .slice none 0 0, .slice none 0 0, .slice none 0 0, .slice none 0 0, .slice none 0 0, .int .i64 0, .slice none 0 0, .slice none 0 0, .slice none 0 0, .slice none 0 0, .slice none 0 0, .slice none 0 0, .slice none 0 0, .slice none 0 0, .int .i64 0] : Array Value) = bkc bk0 := by kernel_rfl

theorem bk0_nil (o : Nat) (h1 : 4 ≤ o) (h2 : (o - 4) % 9 = 0) : Nil9 bk0 o := by
  refine ⟨?_, ?_, ?_, ?_, ?_, ?_, ?_, ?_⟩ <;> (unfold bk0; rw [if_neg (by omega), if_neg (by omega), if_neg (by omega)])

theorem bk0_row (j : Nat) (h1 : 13 ≤ j) (h2 : j ≤ 20) : bk0 j = .slice none 0 0 := by
  unfold bk0; rw [if_neg (by omega), if_neg (by omega), if_neg (by omega)]

theorem bok0 {w : World} {base b : Nat} (h : Bk w b bk0) (hb : base ≤ b) : Bok w base b bk0 (fun _ => []) [] [] [] 0 0 0 0 := by
  refine ⟨⟨h, hb, fun j h1 h2 => ?_, fun i j k a1 a2 a3 a4 _ e => ?_, fun j k a1 a2 e => ?_, by simp, fun k hk => by cases hk⟩, Prs.nil _ _, Wts.nil _ _ _, rfl, rfl, rfl, rfl, rfl, ⟨by simp, fun v hv => by cases hv⟩, ⟨bk0_nil 4 (by decide) (by decide), bk0_nil 22 (by decide) (by decide), bk0_nil 31 (by decide) (by decide), bk0_nil 40 (by decide) (by decide), bk0_nil 49 (by decide) (by decide), bk0_nil 58 (by decide) (by decide), bk0_nil 67 (by decide) (by decide), bk0_nil 76 (by decide) (by decide), bk0_nil 85 (by decide) (by decide), bk0_nil 94 (by decide) (by decide), bk0_nil 103 (by decide) (by decide), bk0_nil 112 (by decide) (by decide)⟩, rfl, rfl, rfl, rfl, rfl, by omega, by omega, by omega, by simp⟩
  · rw [bk0_row j h1 h2]; exact World.ownsRow_nil _ _ _ _
  · rw [bk0_row i a1 a2] at e; cases e
  · rw [bk0_row j a1 a2] at e; cases e

theorem build_bk0 (w : World) : (Instr.build 47 #[]).run Tryz.prog w = .ok (.agg (bkc bk0)) w := by kernel_rfl

theorem wpList_build0 {P : Program} {ops : Array Oper} {rest : List Oper} {op : Oper} {a : Act} {w : World} {Q : Exit → Act → World → Prop} (hgd : op.guard = none) (ty : TypeId) (v : Value) (ho : op.op = .build ty #[]) (hr : ∀ w, (Instr.build ty #[]).run P w = .ok v w)
    (h : wpList P ops Q rest (a.put op.dst v) w) : wpList P ops Q (op :: rest) a w :=
  wpList_plain hgd fun _ hK => by
    unfold Oper.wp execOp
    simp only [ho]
    simp [hr, Result.andThen]
    exact hK _ _ h

end Go.Proofs.YtdlannfjnljbcaaGreatDoor.Kg

namespace Go.Proofs.YtdlannfjnljbcaaGreatDoor
open Go.RowKit

theorem frames_len {S : Sta} (h : S.Ok) : (S.frames 0).length ≤ 4096 := by
  have h1 := h.frames (t := 0) (by have := h.T1; omega)
  have h2 := h.T1
  unfold Sta.frames
  rw [if_pos ⟨by omega, by omega⟩]
  simpa using h1

theorem Sx.start {W w : World} {base bb rb N : Nat} {S : Sta} {F : List Nat} (hB : Kg.Bk w bb Kg.bk0) (hb : base ≤ bb) (hr : Rts w base rb N S F) (hF : ∀ k, k ∈ F → k < bb) (hbe : Below base W w) : Sx W w base bb rb N S F [none, none, none, none, none, none, none, none, none, none, none, none] 0 := by
  have hnn : ∀ (i : Nat) v l, ([none, none, none, none, none, none, none, none, none, none, none, none] : List (Option (Value × List Int)))[i]? = some (some (v, l)) → False := fun i v l hi => by
    have h2 : ([none, none, none, none, none, none, none, none, none, none, none, none] : List (Option (Value × List Int))) = List.replicate 12 none := rfl
    rw [h2, List.getElem?_replicate] at hi
    split at hi <;> simp at hi
  refine ⟨⟨Kg.bk0, _, [], [], [], Kg.bok0 hB hb, fun i v l hi => (hnn i v l hi).elim, fun i v l hi => (hnn i v l hi).elim, fun i j v l u m hi => (hnn i v l hi).elim, fun k hk => ⟨(hr.mem k hk).2, fun ho => ?_, by simp⟩⟩, hr, by have := hB.lt; omega, hbe⟩
  rcases ho with rfl | ⟨j, h1, h2, h3⟩
  · have := hF _ hk; omega
  · rw [Kg.bk0_row j h1 h2] at h3; cases h3

set_option maxHeartbeats 2000000 in
theorem copied_any (base : Nat) (v : Value) (l : List Int) (w : World) (hr : Kg.Row w base v l) (hl : l.length ≤ 10000000000000) :
    Calls Tryz.prog 12 #[v] w fun e w' => ∃ v', e = .returned v' ∧ Kg.Row w' w.heap.size v' l ∧ Below w.heap.size w w' := by
  obtain ⟨i0, i1, hI⟩ := Kg.inf_ex
  obtain ⟨va, vc, rfl⟩ := Kg.row_sl hr
  have HR : Hid (Kg.Row w base (.slice va l.length vc) l) := hr
  have HI : Hid (Kg.Inf i0 i1) := hI
  clear hr hI
  go_enter Tryz.func12, Tryz.ntmps12
  go_wp2_with (at_builtin; refine Kg.wpList_append_row rfl _ _ 33 rfl w.heap.size 3 i0 (.int .i64 0) 8 Tryz.underlying33 HI.out.a0 HI.out.a1 HI.out.a2 HI.out.a3 rfl (.slice none 0 0) 0 [] rfl (World.ownsRow_nil _ _ _ _) va l.length vc (ints l) (by simp) rfl (fun i x hi => by
    obtain ⟨g, cap, e, hc⟩ := Kg.row_val HR.out i x hi
    simp only [Value.slice.injEq, true_and] at e
    exact ⟨⟨g, 0, none⟩, e.1, by rw [Addr.add_mid, Nat.zero_add]; exact hc⟩) (Kg.ints_one l) (by simp [maxLen]; omega) (by omega) (Nat.le_refl _) ?_)
  intro v' w1 ho hg hat hold
  have HO : Hid (Kg.Row w1 w.heap.size v' l) := ho
  have HB : Hid (Below w.heap.size w w1) := (Kg.Touch.grown hg (F := []) (fun k hk => by simp [Value.ownBlock] at hk)).below (Nat.le_refl _) (fun k hk => by cases hk)
  clear ho hg hat hold
  go_wp2
  go_ret
  exact ⟨_, rfl, HO.out, HB.out⟩

theorem Sx.copied {W w : World} {base bb rb N : Nat} {S : Sta} {F : List Nat} {L : List (Option (Value × List Int))} {n : Nat} (h : Sx W w base bb rb N S F L n) {i : Nat} {v : Value} {l : List Int} (hi : L[i]? = some (some (v, l))) (hl : l.length ≤ 10000000000000) (j : Nat) :
    Calls Tryz.prog 12 #[v] w fun e w' => ∃ v', e = .returned v' ∧ Sx W w' base bb rb N S F (L.set j (some (v', l))) n := by
  obtain ⟨f, xs, K, ms, ds, h1, h2⟩ := h.ex
  refine (copied_any base v l w (h2.row i v l hi) hl).mono ?_
  rintro e w' ⟨v', rfl, hr, hb⟩
  exact ⟨v', rfl, h.newB hb hr j⟩

end Go.Proofs.YtdlannfjnljbcaaGreatDoor

