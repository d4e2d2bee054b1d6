/-
  TenureAsks, walked.
-/
import Derived.Test.YtdcmpilgfkaamaaDoorK13
import Derived.Test.YtdcmpilgfkaamaaDoorU4
import Derived.Test.YtdcmpilgfkaamaaDoorTOpen
set_option linter.unusedVariables false
set_option maxRecDepth 20000
namespace Go.Proofs.YtdcmpilgfkaamaaDoor
open Go.RowKit

set_option maxHeartbeats 2000000 in
theorem rold_any {w : World} {base b : Nat} {wa : Int} {mo : Nat} {L : List Int} {F : List Nat} (H : Tr w base b wa mo L F) (x : Int) (hx : L[L.length - 1]? = some x) (hlen : L.length < 1000000) (age : Int) :
    Calls Tryd.prog 8 #[.pointer (some ⟨b, 0, none⟩), .int .i64 age] w fun e w' => e = .returned (.bool (decide (x ≤ age))) ∧ Below w.heap.size w w' := by
  have hl := rthreshold_any H x hx hlen
  clear H hx
  go_enter Tryd.func8, Tryd.ntmps8
  go_wp2_with fail
  refine hl.mono ?_
  rintro e w' ⟨rfl, hb⟩
  go_wp2
  go_ret
  refine ⟨?_, hb⟩
  simp

/-- What both are behind a Turn of both. -/
theorem Pr.turned {w w1 w2 : World} {base tb rb : Nat} {wa : Int} {mo : Nat} {L L' : List Int} {F F' : List Nat} (h : Pr w base tb rb wa mo L F) (h1 : ∃ f n, Tn w1 tb wa mo f n ∧ Hs f n L') (ht1 : Touch [tb] w w1)
    (h2 : Tr w2 base rb wa mo L' F') (ht2 : Touch F w1 w2) (hn : Newer w1.heap.size F F') : Pr w2 base tb rb wa mo L' F' ∧ Touch (tb :: F) w w2 ∧ Newer w.heap.size (tb :: F) (tb :: F') := by
  obtain ⟨f, n, h3, h4⟩ := h1
  refine ⟨⟨⟨f, n, h3.touch ht2 h.ap, h4⟩, h2, h.lo, fun hm => ?_⟩, ?_, ?_⟩
  · rcases hn tb hm with h5 | h5
    · exact h.ap h5
    · have := heap_lt h3.at_; omega
  · exact (ht1.mono (fun k hk => .inl (by simp at hk; simp [hk]))).trans (ht2.mono (fun k hk => .inl (by simp [hk])))
  · intro k hk
    rcases List.mem_cons.1 hk with rfl | hk
    · exact .inl (by simp)
    · rcases hn k hk with h5 | h5
      · exact .inl (by simp [h5])
      · exact .inr (Nat.le_trans ht1.size h5)

theorem size_rowl (f : Nat → Int) : (Tryd.prog.info? 53).map (·.size) = some (row16 f).length := by rw [row16_length]; exact Tryd.sizeInts16

theorem Bok.ex {w w' : World} {base b : Nat} {f : Nat → Value} {xs : Nat → List Value} {K : List Nat} {ms ds : List Int} {turn : Int} {seen T : Nat} {deep : Int} (h : Bok w base b f xs K ms ds turn seen T deep) {G : List Nat} (ht : Touch G w w') (hg : ∀ k, k ∈ G → ¬ Own b f k ∧ k ∉ K) : Bok w' base b f xs K ms ds turn seen T deep := by
  have hI := h.iv.keep ht (fun k hk => (hg k hk).1)
  have inA : ∀ v, v ∈ xs 15 → ∀ k, v.ownBlock = some k → k ∉ G := fun v hv k hk hm => by
    obtain ⟨q, e1, e2⟩ := h.wt.prs.inK v (List.mem_append_left _ hv)
    rw [e1] at hk; simp at hk; subst hk; exact (hg _ hm).2 e2
  have inN : ∀ v, v ∈ xs 16 → ∀ k, v.ownBlock = some k → k ∉ G := fun v hv k hk hm => by
    obtain ⟨q, e1, e2⟩ := h.wt.prs.inK v (List.mem_append_right _ hv)
    rw [e1] at hk; simp at hk; subst hk; exact (hg _ hm).2 e2
  exact ⟨hI, h.pr.off ht (fun k hk => (hg k hk).2), h.wt.keep ht (fun _ h => h) inA inN, h.e18, h.e19, h.l19, h.e17, h.e20, h.dst, h.ns, h.f0, h.f1, h.f2, h.f3, h.f21, h.t0, h.t1, h.s1, h.len⟩

theorem Bok.nil {w w' : World} {base b : Nat} {f : Nat → Value} {xs : Nat → List Value} {K : List Nat} {ms ds : List Int} {turn : Int} {seen T : Nat} {deep : Int} (h : Bok w base b f xs K ms ds turn seen T deep) (hb : Below w.heap.size w w') : Bok w' base b f xs K ms ds turn seen T deep := h.ex (Touch.of_below hb []) (fun k hk => by cases hk)

/-- A book, and both tenures, apart from one another. -/
structure All7 (w : World) (base b tb rb : Nat) (wa : Int) (mo : Nat) (L : List Int) (T : Nat) : Prop where
  ex : ∃ f xs K ms ds turn seen F, Bok w base b f xs K ms ds turn seen T 0 ∧ Pr w base tb rb wa mo L F ∧ ∀ k, k ∈ tb :: F → ¬ Own b f k ∧ k ∉ K

theorem All7.nil {w w' : World} {base b tb rb : Nat} {wa : Int} {mo : Nat} {L : List Int} {T : Nat} (h : All7 w base b tb rb wa mo L T) (hb : Below w.heap.size w w') : All7 w' base b tb rb wa mo L T := by
  obtain ⟨f, xs, K, ms, ds, turn, seen, F, h1, h2, h3⟩ := h.ex
  exact ⟨f, xs, K, ms, ds, turn, seen, F, h1.nil hb, h2.nil hb, h3⟩

theorem All7.base {w : World} {base b tb rb : Nat} {wa : Int} {mo : Nat} {L : List Int} {T : Nat} (h : All7 w base b tb rb wa mo L T) : base ≤ w.heap.size := by
  obtain ⟨f, xs, K, ms, ds, turn, seen, F, h1, h2, h3⟩ := h.ex
  have := h1.iv.lo
  have := h1.iv.bk.lt
  omega

/-- A list that was just made is put into the book. -/
theorem All7.put {w : World} {base b tb rb : Nat} {wa : Int} {mo : Nat} {L : List Int} {T : Nat} (h : All7 w base b tb rb wa mo L T) (hT : T < 10000) {w1 : World} (hb : Below w.heap.size w w1) {g : Nat} {l : List Int} (hl : Lone w1 g l) (hg : w.heap.size ≤ g) (l1 : 1 ≤ l.length) (l16 : l.length ≤ 16) (mark : Int) (m0 : 0 ≤ mark) (m1 : mark ≤ 100000) {w2 : World} (hb2 : Below w1.heap.size w1 w2) :
    Calls Tryd.prog 12 #[.pointer (some ⟨b, 0, none⟩), .slice (some ⟨g, 0, none⟩) l.length l.length, .int .i64 mark] w2 fun e w' => e = .returned (.tuple #[]) ∧ All7 w' base b tb rb wa mo L (T + 2) ∧ Below base w w' := by
  obtain ⟨f, xs, K, ms, ds, turn, seen, F, h1, h2, h3⟩ := h.ex
  have hbs := h.base
  have hb02 : Below w.heap.size w w2 := hb.trans (hb2.mono hb.size)
  have k1 := h1.nil hb02
  have k2 := h2.nil hb02
  have hl2 : Lon w2 g l := (hb2.block g (heap_lt hl)).trans hl
  have ho : ¬ Own b f g := fun ho => by have := (h1.iv.ownLt ho).2; omega
  have hK : g ∉ K := fun hm => by have := (h1.iv.kin g hm).2; omega
  refine (ints_any k1 hT (Nat.le_trans hbs hb02.size) g l hl2 l1 l16 (by omega) ho hK mark m0 m1).mono ?_
  rintro e w' ⟨rfl, f', xs', K', ms', ds', hB, hE⟩
  obtain ⟨G, t1, t2⟩ := hE.t
  have hap : Apart (tb :: F) G := fun k hk hm => by
    have hlt := (h2.mem k hk).2
    rcases t2 k hm with h5 | h5
    · exact (h3 k hk).1 h5
    · rcases List.mem_cons.1 h5 with rfl | h5
      · omega
      · exact (h3 k hk).2 h5
  refine ⟨rfl, ⟨f', xs', K', ms', ds', _, _, F, hB, k2.keep t1 hap, fun k hk => ?_⟩, ?_⟩
  · have hlt := (h2.mem k hk).2
    have hs := hb02.size
    refine ⟨fun ho => ?_, fun hm => ?_⟩
    · rcases hE.o k ho with h5 | h5
      · exact (h3 k hk).1 h5
      · omega
    · rcases hE.n k hm with h5 | h5 | h5
      · rcases List.mem_cons.1 h5 with rfl | h5
        · omega
        · exact (h3 k hk).2 h5
      · exact (h3 k hk).1 h5
      · omega
  · refine (hb02.mono hbs).trans (t1.below (Nat.le_trans hbs hb02.size) (fun k hk => ?_))
    rcases t2 k hk with h5 | h5
    · exact (k1.iv.ownLt h5).1
    · rcases List.mem_cons.1 h5 with rfl | h5
      · omega
      · exact (k1.iv.kin k h5).1

theorem All7.hold {w : World} {base b tb rb : Nat} {wa : Int} {mo : Nat} {L : List Int} {T : Nat} (h : All7 w base b tb rb wa mo L T) (hT : T < 10000) :
    Calls Tryd.prog 13 #[.pointer (some ⟨b, 0, none⟩)] w fun e w' => e = .returned (.bool true) ∧ Below w.heap.size w w' := by
  obtain ⟨f, xs, K, ms, ds, turn, seen, F, h1, h2, h3⟩ := h.ex
  have := h1.len
  exact hold_any h1.st h1.f1 (by omega) (by omega)

end Go.Proofs.YtdcmpilgfkaamaaDoor
