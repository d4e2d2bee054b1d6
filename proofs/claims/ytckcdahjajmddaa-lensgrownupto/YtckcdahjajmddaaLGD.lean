/-
  Growth by site: two graphs are lent.
-/
import Derived.Test.YtckcdahjajmddaaLGB
import Derived.Test.YtckcdahjajmddaaLGC
import Derived.Test.YtckcdahjajmddaaRM15
set_option linter.unusedVariables false
set_option maxRecDepth 20000
namespace Go.Proofs.Ytckcdahjajmddaa
open Go.RowKit Go.Shelf

/-- Two graphs that are lent by one room, one behind the other; X: blocks beside it. -/
structure G17 (W0 : World) (n1 : Nat) (g g' : Im.Gr) (m : Nat) (cs : Nat) (X : List Nat) (va vb : Value) (w : World) (N : Nat → Nat) (S : RS) : Prop where
  bd : Bd w n1 n1 N S X
  tot : S.tot ≤ cs * m
  a : 1 ≤ cs → ∃ vo vs vh vr vq os ts, va = .agg (gcs vo vs vh vr vq g.next) ∧ Lent w N (X ++ S.F n1) n1 vo vs vh vr vq os ts g
  b : 2 ≤ cs → ∃ vo vs vh vr vq os ts, vb = .agg (gcs vo vs vh vr vq g'.next) ∧ Lent w N (X ++ S.F n1) n1 vo vs vh vr vq os ts g'
  l : Below n1 W0 w

variable {W0 : World} {n1 : Nat} {g g' : Im.Gr} {m cs : Nat} {X : List Nat} {va vb : Value} {w : World} {N : Nat → Nat} {S : RS}

theorem G17.stp {w' : World} {X' : List Nat} {N' : Nat → Nat} (h : G17 W0 n1 g g' m cs X va vb w N S) (bd' : Bd w' n1 n1 N' S X') (s : Stp w w' (X ++ S.F n1) (X' ++ S.F n1) N N') (l : Below n1 w w') : G17 W0 n1 g g' m cs X' va vb w' N' S := by
  refine ⟨bd', h.tot, fun hc => ?_, fun hc => ?_, h.l.trans l⟩
  · obtain ⟨vo, vs, vh, vr, vq, os, ts, e, hl⟩ := h.a hc
    exact ⟨vo, vs, vh, vr, vq, os, ts, e, hl.stp s⟩
  · obtain ⟨vo, vs, vh, vr, vq, os, ts, e, hl⟩ := h.b hc
    exact ⟨vo, vs, vh, vr, vq, os, ts, e, hl.stp s⟩

/-- A block is laid beside it. -/
theorem G17.lay (h : G17 W0 n1 g g' m cs X va vb w N S) (hn : n1 ≤ w.heap.size) (o : Obj) : G17 W0 n1 g g' m cs (w.heap.size :: X) va vb (w.alloc o) N S := by
  have b : Below w.heap.size w (w.alloc o) := Below.alloc (Below.refl _ _) (Nat.le_refl _) o
  have k := h.bd.move (X' := w.heap.size :: X) (N' := N) (Kg.Touch.of_below b X) (fun k hk => by
    rcases List.mem_cons.1 hk with rfl | hk
    · exact ⟨by simp, .inr (Nat.le_refl _)⟩
    · exact ⟨Nat.lt_of_lt_of_le (h.bd.x k hk).1 b.size, .inl hk⟩) (fun _ _ _ => rfl) (fun k hk => h.bd.d k (Nat.le_trans b.size hk)) (fun k hk => by
    rcases List.mem_cons.1 hk with rfl | hk
    · exact h.bd.d _ (Nat.le_refl _)
    · exact h.bd.z k (List.mem_append_left _ hk))
  exact h.stp k.1 k.2 (b.mono hn)

/-- A block beside it is written. -/
theorem G17.write {w' : World} (h : G17 W0 n1 g g' m cs X va vb w N S) (t : Kg.Touch X w w') (hn : n1 ≤ w.heap.size) (hX : ∀ k, k ∈ X → n1 ≤ k) : G17 W0 n1 g g' m cs X va vb w' N S := by
  have k := h.bd.move (X' := X) (N' := N) t (fun k hk => ⟨Nat.lt_of_lt_of_le (h.bd.x k hk).1 t.size, .inl hk⟩) (fun _ _ _ => rfl) (fun k hk => h.bd.d k (Nat.le_trans t.size hk)) (fun k hk => h.bd.z k (List.mem_append_left _ hk))
  exact h.stp k.1 k.2 (t.below hn hX)

/-- What is beside it is let go. -/
theorem G17.free (h : G17 W0 n1 g g' m cs X va vb w N S) : G17 W0 n1 g g' m cs [] va vb w N S := by
  have k := h.bd.move (X' := []) (N' := N) (Kg.Touch.refl X w) (fun k hk => by cases hk) (fun _ _ _ => rfl) h.bd.d (fun k hk => by cases hk)
  exact h.stp k.1 k.2 (Below.refl _ _)

/-- The first graph is lent. -/
theorem G17.first {w' : World} {d : Nat} {vo vs vh vr vq : Value} (h : G17 W0 n1 g g' m 0 X va vb w N S) (hn : n1 ≤ w.heap.size) (hd : d ≤ m) (hp : RPost n1 n1 N S X w w' d (fun w' N' F' => ∃ os' ts', Lent w' N' F' n1 vo vs vh vr vq os' ts' g)) :
    ∃ N' S', G17 W0 n1 g g' m 1 X (.agg (gcs vo vs vh vr vq g.next)) vb w' N' S' ∧ Kg.Touch (S.F n1) w w' := by
  obtain ⟨N', S', ⟨os, ts, hl⟩, bd, st, tc, tt⟩ := hp
  refine ⟨N', S', ⟨bd, ?_, fun _ => ⟨vo, vs, vh, vr, vq, os, ts, rfl, hl⟩, fun hc => by omega, h.l.trans (tc.below hn (fun k hk => (h.bd.lt k hk).2))⟩, tc⟩
  have := h.tot
  omega

/-- The second one is. -/
theorem G17.second {w' : World} {d : Nat} {vo vs vh vr vq : Value} (h : G17 W0 n1 g g' m 1 X va vb w N S) (hn : n1 ≤ w.heap.size) (hd : d ≤ m) (hp : RPost n1 n1 N S X w w' d (fun w' N' F' => ∃ os' ts', Lent w' N' F' n1 vo vs vh vr vq os' ts' g')) :
    ∃ N' S', G17 W0 n1 g g' m 2 X va (.agg (gcs vo vs vh vr vq g'.next)) w' N' S' ∧ Kg.Touch (S.F n1) w w' := by
  obtain ⟨N', S', ⟨os, ts, hl⟩, bd, st, tc, tt⟩ := hp
  refine ⟨N', S', ⟨bd, ?_, fun _ => ?_, fun hc => ⟨vo, vs, vh, vr, vq, os, ts, rfl, hl⟩, h.l.trans (tc.below hn (fun k hk => (h.bd.lt k hk).2))⟩, tc⟩
  · have := h.tot
    omega
  · obtain ⟨vo1, vs1, vh1, vr1, vq1, os1, ts1, e, hl1⟩ := h.a (Nat.le_refl _)
    exact ⟨vo1, vs1, vh1, vr1, vq1, os1, ts1, e, hl1.stp st⟩

abbrev zg : Array Value := #[.slice none 0 0, .slice none 0 0, .slice none 0 0, .slice none 0 0, .slice none 0 0, .int .u64 0]

/-- Where the region that lends both stands: c graphs are lent; the two variables' blocks are laid or not. -/
structure Q17 (W0 : World) (n1 : Nat) (g g' : Im.Gr) (c : Nat) (f6 f7 : Bool) (p6 p7 v14 v17 : Value) (w : World) : Prop where
  ex : ∃ N S X, G17 W0 n1 g g' 10000000 c X v14 v17 w N S ∧ (∀ k, k ∈ X → n1 ≤ k) ∧ (f6 = true → ∃ O, p6 = .pointer (some ⟨O, 0, none⟩) ∧ O ∈ X ∧ w.heap[O]? = some (.cells zg 27 (0, 0))) ∧ (f7 = true → ∃ O, p7 = .pointer (some ⟨O, 0, none⟩) ∧ O ∈ X ∧ w.heap[O]? = some (.cells zg 27 (0, 0)))
  n : n1 ≤ w.heap.size
  d : f6 = true → f7 = true → p6 ≠ p7

section
variable {c : Nat} {f6 f7 : Bool} {p6 p7 v14 v17 : Value}

theorem Q17.l (h : Q17 W0 n1 g g' c f6 f7 p6 p7 v14 v17 w) : Below n1 W0 w := by
  obtain ⟨N, S, X, h1, -⟩ := h.ex
  exact h1.l

theorem Q17.drew (h : Q17 W0 n1 g g' c f6 f7 p6 p7 v14 v17 w) : Q17 W0 n1 g g' c f6 f7 p6 p7 v14 v17 w.drew := by
  obtain ⟨N, S, X, h1, h2, h3, h4⟩ := h.ex
  exact ⟨⟨N, S, X, h1.write (Kg.Touch.drew _ _) h.n h2, h2, h3, h4⟩, h.n, h.d⟩

theorem Q17.lay6 (h : Q17 W0 n1 g g' c false f7 p6 p7 v14 v17 w) : Q17 W0 n1 g g' c true f7 (.pointer (some ⟨w.heap.size, 0, none⟩)) p7 v14 v17 (w.alloc (.cells zg 27)) := by
  obtain ⟨N, S, X, h1, h2, h3, h4⟩ := h.ex
  refine ⟨⟨N, S, w.heap.size :: X, h1.lay h.n _, fun k hk => ?_, fun _ => ⟨_, rfl, List.mem_cons_self, heap_alloc_new w _⟩, fun hf => ?_⟩, by have := h.n; simp; omega, fun _ hf e => ?_⟩
  · rcases List.mem_cons.1 hk with rfl | hk
    · exact h.n
    · exact h2 k hk
  · obtain ⟨O, e1, e2, e3⟩ := h4 hf
    exact ⟨O, e1, List.mem_cons_of_mem _ e2, (Below.heap_alloc _ _ _ (Kg.heap_lt e3)).trans e3⟩
  · obtain ⟨O, e1, e2, e3⟩ := h4 hf
    rw [e1] at e
    cases e
    have := Kg.heap_lt e3
    omega

theorem Q17.lay7 (h : Q17 W0 n1 g g' c f6 false p6 p7 v14 v17 w) : Q17 W0 n1 g g' c f6 true p6 (.pointer (some ⟨w.heap.size, 0, none⟩)) v14 v17 (w.alloc (.cells zg 27)) := by
  obtain ⟨N, S, X, h1, h2, h3, h4⟩ := h.ex
  refine ⟨⟨N, S, w.heap.size :: X, h1.lay h.n _, fun k hk => ?_, fun hf => ?_, fun _ => ⟨_, rfl, List.mem_cons_self, heap_alloc_new w _⟩⟩, by have := h.n; simp; omega, fun hf _ e => ?_⟩
  · rcases List.mem_cons.1 hk with rfl | hk
    · exact h.n
    · exact h2 k hk
  · obtain ⟨O, e1, e2, e3⟩ := h3 hf
    exact ⟨O, e1, List.mem_cons_of_mem _ e2, (Below.heap_alloc _ _ _ (Kg.heap_lt e3)).trans e3⟩
  · obtain ⟨O, e1, e2, e3⟩ := h3 hf
    rw [e1] at e
    cases e
    have := Kg.heap_lt e3
    omega

theorem Q17.call1 (h : Q17 W0 n1 g g' 0 f6 f7 p6 p7 v14 v17 w) (n0 : Nat) (hn0 : n0 ≤ n1) {vo vs vh vr vq : Value} {os : List OL} {ts : List (Value × List (Value × List Int))} (hg : Grd n0 w vo vs vh vr vq os ts g) (hs : Sml os ts g) (hd : 2 * os.length + csF ts + 5 ≤ 10000000) :
    Calls Try.prog 4 #[.pointer (some ⟨n1, 0, none⟩), .agg (gcs vo vs vh vr vq g.next)] w fun e w' => ∃ v, e = .returned v ∧ Q17 W0 n1 g g' 1 f6 f7 p6 p7 v v17 w' := by
  obtain ⟨N, S, X, h1, h2, h3, h4⟩ := h.ex
  refine (roomGraph_any h1.bd n0 hn0 h.n vo vs vh vr vq os ts g hg hs (by have := h1.tot; omega)).mono fun e w' ⟨vo', vs', vh', vr', vq', he, hp⟩ => ⟨_, he, ?_⟩
  obtain ⟨N', S', k1, tc⟩ := h1.first h.n hd hp
  refine ⟨⟨N', S', X, k1, h2, fun hf => ?_, fun hf => ?_⟩, Nat.le_trans h.n tc.size, h.d⟩
  · obtain ⟨O, e1, e2, e3⟩ := h3 hf
    exact ⟨O, e1, e2, (tc.block _ (Kg.heap_lt e3) (h1.bd.x O e2).2).trans e3⟩
  · obtain ⟨O, e1, e2, e3⟩ := h4 hf
    exact ⟨O, e1, e2, (tc.block _ (Kg.heap_lt e3) (h1.bd.x O e2).2).trans e3⟩

theorem Q17.call2 (h : Q17 W0 n1 g g' 1 f6 f7 p6 p7 v14 v17 w) (n0 : Nat) (hn0 : n0 ≤ n1) {vo vs vh vr vq : Value} {os : List OL} {ts : List (Value × List (Value × List Int))} (hg : Grd n0 w vo vs vh vr vq os ts g') (hs : Sml os ts g') (hd : 2 * os.length + csF ts + 5 ≤ 10000000) :
    Calls Try.prog 4 #[.pointer (some ⟨n1, 0, none⟩), .agg (gcs vo vs vh vr vq g'.next)] w fun e w' => ∃ v, e = .returned v ∧ Q17 W0 n1 g g' 2 f6 f7 p6 p7 v14 v w' := by
  obtain ⟨N, S, X, h1, h2, h3, h4⟩ := h.ex
  refine (roomGraph_any h1.bd n0 hn0 h.n vo vs vh vr vq os ts g' hg hs (by have := h1.tot; omega)).mono fun e w' ⟨vo', vs', vh', vr', vq', he, hp⟩ => ⟨_, he, ?_⟩
  obtain ⟨N', S', k1, tc⟩ := h1.second h.n hd hp
  refine ⟨⟨N', S', X, k1, h2, fun hf => ?_, fun hf => ?_⟩, Nat.le_trans h.n tc.size, h.d⟩
  · obtain ⟨O, e1, e2, e3⟩ := h3 hf
    exact ⟨O, e1, e2, (tc.block _ (Kg.heap_lt e3) (h1.bd.x O e2).2).trans e3⟩
  · obtain ⟨O, e1, e2, e3⟩ := h4 hf
    exact ⟨O, e1, e2, (tc.block _ (Kg.heap_lt e3) (h1.bd.x O e2).2).trans e3⟩

end

end Go.Proofs.Ytckcdahjajmddaa
