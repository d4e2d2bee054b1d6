import Derived.Test.YtckgcpoheodbcaaDoorPIe
/-
  Images, lists with room behind them: what a room holds.
-/
set_option linter.unusedVariables false
set_option maxRecDepth 20000
namespace Go.Proofs.YtckgcpoheodbcaaDoor
open Go.RowKit Go.Shelf

/-- A mark. -/
def mrk (j : Nat) : Int := if j % 2 = 0 then -7701 else -7702
def mru (j : Nat) : Int := if j % 2 = 0 then 7701 else 7702

def Mk1 (w : World) (N : Nat → Nat) (F : List Nat) (v : Value) : Prop :=
  ∃ b c, v = .slice (some ⟨b, 0, none⟩) (N b + 40) c ∧ b ∉ F ∧ b < w.heap.size ∧ N b ≤ 1000000000000 ∧ ∀ j, j < 40 → w.cell? ⟨b, N b + j, none⟩ = some (.int .i64 (mrk j))
def Mk2 (w : World) (N : Nat → Nat) (F : List Nat) (v : Value) : Prop :=
  ∃ b c, v = .slice (some ⟨b, 0, none⟩) (N b + 40) c ∧ b ∉ F ∧ b < w.heap.size ∧ N b ≤ 1000000000000 ∧ ∀ j, j < 40 → w.cell? ⟨b, N b + j, none⟩ = some (.int .u64 (mru j))
/-- A mark that is a list of one number. -/
def Ml (w : World) (N : Nat → Nat) (F : List Nat) (j : Nat) (v : Value) : Prop :=
  ∃ b c, v = .slice (some ⟨b, 0, none⟩) 1 c ∧ b ∉ F ∧ b < w.heap.size ∧ N b = 0 ∧ w.cell? ⟨b, 0, none⟩ = some (.int .i64 (mrk j))
/-- A mark that is a list of such a list. -/
def Mm (w : World) (N : Nat → Nat) (F : List Nat) (j : Nat) (v : Value) : Prop :=
  ∃ b c, v = .slice (some ⟨b, 0, none⟩) 1 c ∧ b ∉ F ∧ b < w.heap.size ∧ N b = 0 ∧ ∃ u, w.cell? ⟨b, 0, none⟩ = some u ∧ Ml w N F j u
def Mk5 (w : World) (N : Nat → Nat) (F : List Nat) (v : Value) : Prop :=
  ∃ b c, v = .slice (some ⟨b, 0, none⟩) (N b + 8) c ∧ b ∉ F ∧ b < w.heap.size ∧ N b ≤ 1000000000000 ∧ ∀ j, j < 8 → ∃ u, w.cell? ⟨b, N b + j, none⟩ = some u ∧ Ml w N F j u
def Mk6 (w : World) (N : Nat → Nat) (F : List Nat) (v : Value) : Prop :=
  ∃ b c, v = .slice (some ⟨b, 0, none⟩) (N b + 8) c ∧ b ∉ F ∧ b < w.heap.size ∧ N b ≤ 1000000000000 ∧ ∀ j, j < 8 → ∃ u, w.cell? ⟨b, N b + j, none⟩ = some u ∧ Mm w N F j u
/-- An object that is a mark. -/
abbrev mob (j : Nat) : Array Value := ocs 0 (mrk j) 0 (.slice none 0 0) (.slice none 0 0)
def Mk7 (w : World) (N : Nat → Nat) (F : List Nat) (v : Value) : Prop :=
  ∃ b c n, v = .slice (some ⟨b, 0, none⟩) (n + 8) c ∧ N b = n * 5 ∧ b ∉ F ∧ b < w.heap.size ∧ N b ≤ 1000000000000 ∧ ∀ j, j < 8 → ∀ i, i < 5 → w.cell? ⟨b, (n + j) * 5 + i, none⟩ = (mob j)[i]?

/-- From one world to the next: what isn't in F stays; which blocks are written from then on; how long lists are. -/
structure Stp (w w' : World) (F F' : List Nat) (N N' : Nat → Nat) : Prop where
  t : Kg.Touch F w w'
  f : ∀ k, k ∈ F' → k ∈ F ∨ w.heap.size ≤ k
  n : ∀ b, b < w.heap.size → b ∉ F → N' b = N b

theorem Stp.refl (w : World) (F : List Nat) (N : Nat → Nat) : Stp w w F F N N := ⟨Kg.Touch.refl _ _, fun _ h => .inl h, fun _ _ _ => rfl⟩

theorem Stp.trans {w w' w'' : World} {F F' F'' : List Nat} {N N' N'' : Nat → Nat} (h : Stp w w' F F' N N') (k : Stp w' w'' F' F'' N' N'') : Stp w w'' F F'' N N'' :=
  ⟨h.t.then k.t (fun x hx => h.f x hx), fun x hx => (k.f x hx).elim (fun h1 => h.f x h1) (fun h1 => .inr (Nat.le_trans h.t.size h1)), fun b hb hf => (k.n b (Nat.lt_of_lt_of_le hb h.t.size) (fun h1 => (h.f b h1).elim hf (fun h2 => by omega))).trans (h.n b hb hf)⟩

theorem Stp.below {w w' : World} {F : List Nat} {N : Nat → Nat} (h : Below w.heap.size w w') : Stp w w' F F N N := ⟨Kg.Touch.of_below h F, fun _ h => .inl h, fun _ _ _ => rfl⟩

theorem Stp.out {w w' : World} {F F' : List Nat} {N N' : Nat → Nat} (h : Stp w w' F F' N N') {b : Nat} (hb : b < w.heap.size) (hf : b ∉ F) : b ∉ F' := fun h1 => (h.f b h1).elim hf (fun h2 => by omega)

theorem Stp.cell {w w' : World} {F F' : List Nat} {N N' : Nat → Nat} (h : Stp w w' F F' N N') {b i : Nat} (hb : b < w.heap.size) (hf : b ∉ F) : w'.cell? ⟨b, i, none⟩ = w.cell? ⟨b, i, none⟩ := World.cell?_of_block (w := w) (h.t.block b hb hf)

theorem frozen_blk {w w' : World} {b i : Nat} (h : w'.heap[b]? = w.heap[b]?) : w'.frozen? ⟨b, i, none⟩ = w.frozen? ⟨b, i, none⟩ := by
  unfold World.frozen?
  rw [h]

theorem Stp.frozen {w w' : World} {F F' : List Nat} {N N' : Nat → Nat} (h : Stp w w' F F' N N') {b i : Nat} (hb : b < w.heap.size) (hf : b ∉ F) : w'.frozen? ⟨b, i, none⟩ = w.frozen? ⟨b, i, none⟩ := frozen_blk (h.t.block b hb hf)

theorem Stp.lt {w w' : World} {F F' : List Nat} {N N' : Nat → Nat} (h : Stp w w' F F' N N') {b : Nat} (hb : b < w.heap.size) : b < w'.heap.size := Nat.lt_of_lt_of_le hb h.t.size

section
variable {w w' : World} {F F' : List Nat} {N N' : Nat → Nat} {v : Value}

theorem Mk1.stp (h : Mk1 w N F v) (s : Stp w w' F F' N N') : Mk1 w' N' F' v := by
  obtain ⟨b, c, h1, h2, h3, hb, h4⟩ := h
  exact ⟨b, c, by rw [s.n b h3 h2]; exact h1, s.out h3 h2, s.lt h3, by rw [s.n b h3 h2]; exact hb, fun j hj => by rw [s.n b h3 h2, s.cell h3 h2]; exact h4 j hj⟩
theorem Mk2.stp (h : Mk2 w N F v) (s : Stp w w' F F' N N') : Mk2 w' N' F' v := by
  obtain ⟨b, c, h1, h2, h3, hb, h4⟩ := h
  exact ⟨b, c, by rw [s.n b h3 h2]; exact h1, s.out h3 h2, s.lt h3, by rw [s.n b h3 h2]; exact hb, fun j hj => by rw [s.n b h3 h2, s.cell h3 h2]; exact h4 j hj⟩
theorem Ml.stp {j : Nat} (h : Ml w N F j v) (s : Stp w w' F F' N N') : Ml w' N' F' j v := by
  obtain ⟨b, c, h1, h2, h3, h4, h5⟩ := h
  exact ⟨b, c, h1, s.out h3 h2, s.lt h3, by rw [s.n b h3 h2]; exact h4, by rw [s.cell h3 h2]; exact h5⟩
theorem Mm.stp {j : Nat} (h : Mm w N F j v) (s : Stp w w' F F' N N') : Mm w' N' F' j v := by
  obtain ⟨b, c, h1, h2, h3, h4, u, h5, h6⟩ := h
  exact ⟨b, c, h1, s.out h3 h2, s.lt h3, by rw [s.n b h3 h2]; exact h4, u, by rw [s.cell h3 h2]; exact h5, h6.stp s⟩
theorem Mk5.stp (h : Mk5 w N F v) (s : Stp w w' F F' N N') : Mk5 w' N' F' v := by
  obtain ⟨b, c, h1, h2, h3, hb, h4⟩ := h
  refine ⟨b, c, by rw [s.n b h3 h2]; exact h1, s.out h3 h2, s.lt h3, by rw [s.n b h3 h2]; exact hb, fun j hj => ?_⟩
  obtain ⟨u, h5, h6⟩ := h4 j hj
  exact ⟨u, by rw [s.n b h3 h2, s.cell h3 h2]; exact h5, h6.stp s⟩
theorem Mk6.stp (h : Mk6 w N F v) (s : Stp w w' F F' N N') : Mk6 w' N' F' v := by
  obtain ⟨b, c, h1, h2, h3, hb, h4⟩ := h
  refine ⟨b, c, by rw [s.n b h3 h2]; exact h1, s.out h3 h2, s.lt h3, by rw [s.n b h3 h2]; exact hb, fun j hj => ?_⟩
  obtain ⟨u, h5, h6⟩ := h4 j hj
  exact ⟨u, by rw [s.n b h3 h2, s.cell h3 h2]; exact h5, h6.stp s⟩
theorem Mk7.stp (h : Mk7 w N F v) (s : Stp w w' F F' N N') : Mk7 w' N' F' v := by
  obtain ⟨b, c, n, h1, h0, h2, h3, hb, h4⟩ := h
  exact ⟨b, c, n, h1, by rw [s.n b h3 h2]; exact h0, s.out h3 h2, s.lt h3, by rw [s.n b h3 h2]; exact hb, fun j hj i hi => by rw [s.cell h3 h2]; exact h4 j hj i hi⟩

end

/-- What a room has. -/
structure RS where
  v1 : Value
  v2 : Value
  v5 : Value
  v6 : Value
  v7 : Value
  E1 : List Value
  E2 : List Value
  E5 : List Value
  E6 : List Value
  E7 : List Value

abbrev rmc (v1 v2 v5 v6 v7 : Value) : Array Value := #[.slice none 0 0, v1, v2, .slice none 0 0, .slice none 0 0, v5, v6, v7]

/-- The blocks that it writes. -/
def RS.F (S : RS) (R : Nat) : List Nat := R :: (S.v1.ownBlock.toList ++ (S.v2.ownBlock.toList ++ (S.v5.ownBlock.toList ++ (S.v6.ownBlock.toList ++ S.v7.ownBlock.toList))))

/-- A room while it is made. -/
structure Bd (w : World) (n1 R : Nat) (N : Nat → Nat) (S : RS) (X : List Nat) : Prop where
  r : w.heap[R]? = some (.cells (rmc S.v1 S.v2 S.v5 S.v6 S.v7) 37 (0, 0))
  hR : n1 ≤ R
  o1 : w.ownsRow n1 24 1 S.v1 S.E1.length S.E1
  o2 : w.ownsRow n1 60 1 S.v2 S.E2.length S.E2
  o5 : w.ownsRow n1 30 1 S.v5 S.E5.length S.E5
  o6 : w.ownsRow n1 23 1 S.v6 S.E6.length S.E6
  o7 : w.ownsRow n1 22 1 S.v7 S.E7.length S.E7
  m1 : ∀ v, v ∈ S.E1 → Mk1 w N (X ++ S.F R) v
  m2 : ∀ v, v ∈ S.E2 → Mk2 w N (X ++ S.F R) v
  m5 : ∀ v, v ∈ S.E5 → Mk5 w N (X ++ S.F R) v
  m6 : ∀ v, v ∈ S.E6 → Mk6 w N (X ++ S.F R) v
  m7 : ∀ v, v ∈ S.E7 → Mk7 w N (X ++ S.F R) v
  z : ∀ k, k ∈ X ++ S.F R → N k = 0
  d : ∀ k, w.heap.size ≤ k → N k = 0
  x : ∀ k, k ∈ X → k < w.heap.size ∧ k ∉ S.F R

theorem Bd.lt {w : World} {n1 R : Nat} {N : Nat → Nat} {S : RS} {X : List Nat} (h : Bd w n1 R N S X) : ∀ k, k ∈ S.F R → k < w.heap.size ∧ n1 ≤ k := by
  intro k hk
  simp only [RS.F, List.mem_cons, List.mem_append, Option.mem_toList] at hk
  rcases hk with rfl | h1 | h1 | h1 | h1 | h1
  · exact ⟨Kg.heap_lt h.r, h.hR⟩
  · exact ⟨(h.o1.lt k h1).2, (h.o1.lt k h1).1⟩
  · exact ⟨(h.o2.lt k h1).2, (h.o2.lt k h1).1⟩
  · exact ⟨(h.o5.lt k h1).2, (h.o5.lt k h1).1⟩
  · exact ⟨(h.o6.lt k h1).2, (h.o6.lt k h1).1⟩
  · exact ⟨(h.o7.lt k h1).2, (h.o7.lt k h1).1⟩

theorem Bd.ltX {w : World} {n1 R : Nat} {N : Nat → Nat} {S : RS} {X : List Nat} (h : Bd w n1 R N S X) : ∀ k, k ∈ X ++ S.F R → k < w.heap.size := fun k hk => by
  rcases List.mem_append.1 hk with h1 | h1
  · exact (h.x k h1).1
  · exact (h.lt k h1).1

/-- The blocks beside it are others now. -/
theorem Bd.move {w w' : World} {n1 R : Nat} {N N' : Nat → Nat} {S : RS} {X X' : List Nat} (h : Bd w n1 R N S X) (t : Kg.Touch X w w') (hX : ∀ k, k ∈ X' → k < w'.heap.size ∧ (k ∈ X ∨ w.heap.size ≤ k)) (hN : ∀ k, k < w.heap.size → k ∉ X → N' k = N k) (hd : ∀ k, w'.heap.size ≤ k → N' k = 0) (hz : ∀ k, k ∈ X' → N' k = 0) : Bd w' n1 R N' S X' ∧ Stp w w' (X ++ S.F R) (X' ++ S.F R) N N' := by
  have hnx : ∀ k, k ∈ S.F R → k ∉ X := fun k hk hx => (h.x k hx).2 hk
  have s : Stp w w' (X ++ S.F R) (X' ++ S.F R) N N' := ⟨t.mono (fun k hk => .inl (List.mem_append_left _ hk)), fun k hk => by
    rcases List.mem_append.1 hk with h1 | h1
    · exact (hX k h1).2.imp (fun h2 => List.mem_append_left _ h2) id
    · exact .inl (List.mem_append_right _ h1), fun b hb hf => hN b hb (fun hx => hf (List.mem_append_left _ hx))⟩
  have k : ∀ {e n : Nat} {v : Value} {xs : List Value}, w.ownsRow n1 e 1 v n xs → (∀ q, v.ownBlock = some q → q ∈ S.F R) → w'.ownsRow n1 e 1 v n xs := fun ho hq => Kg.row_keep2 ho t (fun q hb => hnx q (hq q hb))
  have f1 : ∀ q, S.v1.ownBlock = some q → q ∈ S.F R := fun q hq => by simp only [RS.F, List.mem_cons, List.mem_append, Option.mem_toList]; exact .inr (.inl hq)
  have f2 : ∀ q, S.v2.ownBlock = some q → q ∈ S.F R := fun q hq => by simp only [RS.F, List.mem_cons, List.mem_append, Option.mem_toList]; exact .inr (.inr (.inl hq))
  have f5 : ∀ q, S.v5.ownBlock = some q → q ∈ S.F R := fun q hq => by simp only [RS.F, List.mem_cons, List.mem_append, Option.mem_toList]; exact .inr (.inr (.inr (.inl hq)))
  have f6 : ∀ q, S.v6.ownBlock = some q → q ∈ S.F R := fun q hq => by simp only [RS.F, List.mem_cons, List.mem_append, Option.mem_toList]; exact .inr (.inr (.inr (.inr (.inl hq))))
  have f7 : ∀ q, S.v7.ownBlock = some q → q ∈ S.F R := fun q hq => by simp only [RS.F, List.mem_cons, List.mem_append, Option.mem_toList]; exact .inr (.inr (.inr (.inr (.inr hq))))
  have hRF : R ∈ S.F R := by simp [RS.F]
  refine ⟨⟨(t.block R (Kg.heap_lt h.r) (hnx R hRF)).trans h.r, h.hR, k h.o1 f1, k h.o2 f2, k h.o5 f5, k h.o6 f6, k h.o7 f7, fun v hv => (h.m1 v hv).stp s, fun v hv => (h.m2 v hv).stp s, fun v hv => (h.m5 v hv).stp s, fun v hv => (h.m6 v hv).stp s, fun v hv => (h.m7 v hv).stp s, fun q hq => ?_, hd, fun q hq => ⟨(hX q hq).1, fun hf => ?_⟩⟩, s⟩
  · rcases List.mem_append.1 hq with h1 | h1
    · exact hz q h1
    · rw [hN q (h.lt q h1).1 (hnx q h1)]
      exact h.z q (List.mem_append_right _ h1)
  · rcases (hX q hq).2 with h1 | h1
    · exact (h.x q h1).2 hf
    · have := (h.lt q hf).1
      omega

/-- Blocks that are laid change nothing. -/
theorem Bd.laid {w w' : World} {n1 R : Nat} {N N' : Nat → Nat} {S : RS} {X : List Nat} (h : Bd w n1 R N S X) (b : Below w.heap.size w w') (hN : ∀ k, k < w.heap.size → N' k = N k) (hd : ∀ k, w'.heap.size ≤ k → N' k = 0) : Bd w' n1 R N' S X ∧ Stp w w' (X ++ S.F R) (X ++ S.F R) N N' :=
  h.move (Kg.Touch.of_below b X) (fun k hk => ⟨Nat.lt_of_lt_of_le (h.x k hk).1 b.size, .inl hk⟩) (fun k hk _ => hN k hk) hd (fun k hk => by rw [hN k (h.x k hk).1]; exact h.z k (List.mem_append_left _ hk))

theorem Bd.below {w w' : World} {n1 R : Nat} {N : Nat → Nat} {S : RS} {X : List Nat} (h : Bd w n1 R N S X) (b : Below w.heap.size w w') : Bd w' n1 R N S X := (h.laid b (fun _ _ => rfl) (fun k hk => h.d k (Nat.le_trans b.size hk))).1

theorem own_blk {w : World} {base e n : Nat} {v : Value} {xs : List Value} (h : w.ownsRow base e 1 v n xs) {k : Nat} (hk : v.ownBlock = some k) : ∃ cur, w.heap[k]? = some (.cells cur e (0, 0)) := by
  rcases h.2 with ⟨rfl, _⟩ | ⟨g, cap, cur, rfl, h2, h3, h4, h5, h6, h7⟩
  · cases hk
  · cases hk
    exact ⟨cur, h3⟩

theorem own_ne {w : World} {base base' e e' n n' : Nat} {v v' : Value} {xs xs' : List Value} (h : w.ownsRow base e 1 v n xs) (h' : w.ownsRow base' e' 1 v' n' xs') (hne : e ≠ e') : ∀ k, v.ownBlock = some k → v'.ownBlock ≠ some k := by
  intro k h1 h2
  obtain ⟨c, h3⟩ := own_blk h h1
  obtain ⟨c', h4⟩ := own_blk h' h2
  rw [h3] at h4
  cases h4
  exact hne rfl

/-- One list more. -/
def RS.put1 (S : RS) (v' e : Value) : RS := { S with v1 := v', E1 := S.E1 ++ [e] }

theorem Bd.put1 {w w8 : World} {n1 R : Nat} {N : Nat → Nat} {S : RS} {X : List Nat} {v' e : Value} (h : Bd w n1 R N S X) (he : Mk1 w N (X ++ S.F R) e) (ho : w8.ownsRow n1 24 1 v' (S.E1.length + 1) (S.E1 ++ [e])) (t8 : Kg.Touch S.v1.ownBlock.toList w w8) (hat : v'.ownBlock = S.v1.ownBlock ∨ v'.ownBlock = some w.heap.size) :
    Bd (w8.setCell ⟨R, 1, none⟩ v') n1 R N (S.put1 v' e) X ∧ Stp w (w8.setCell ⟨R, 1, none⟩ v') (X ++ S.F R) (X ++ (S.put1 v' e).F R) N N ∧ Stp w (w8.setCell ⟨R, 1, none⟩ v') (S.F R) ((S.put1 v' e).F R) N N := by
  have hRl := Kg.heap_lt h.r
  have hRn : R ∉ S.v1.ownBlock.toList := fun hm => by
    rw [Option.mem_toList] at hm
    obtain ⟨c, h3⟩ := own_blk h.o1 hm
    rw [h.r] at h3
    cases h3
  have t9 : Kg.Touch [R] w8 (w8.setCell ⟨R, 1, none⟩ v') := Kg.Touch.setCell _ _ _ (by simp)
  have hF : ∀ k, k ∈ S.v1.ownBlock.toList → k ∈ S.F R := fun k hk => by simp only [RS.F, List.mem_cons, List.mem_append]; exact (.inr (.inl hk))
  have tt : Kg.Touch (S.F R) w (w8.setCell ⟨R, 1, none⟩ v') := (t8.mono (fun k hk => .inl (hF k hk))).trans (t9.mono (fun k hk => .inl (by simp at hk; rw [hk]; simp [RS.F])))
  have hf : ∀ k, k ∈ (S.put1 v' e).F R → k ∈ S.F R ∨ w.heap.size ≤ k := fun k hk => by
    simp only [RS.F, RS.put1, List.mem_cons, List.mem_append, Option.mem_toList] at hk ⊢
    rcases hk with h1 | h1 | h1 | h1 | h1 | h1
    · exact .inl (.inl h1)
    · rcases hat with e1 | e1
      · exact .inl (.inr (.inl (e1 ▸ h1)))
      · exact .inr (by rw [e1] at h1; exact Nat.le_of_eq (Option.some.inj h1))
    · exact .inl (.inr (.inr (.inl h1)))
    · exact .inl (.inr (.inr (.inr (.inl h1))))
    · exact .inl (.inr (.inr (.inr (.inr (.inl h1)))))
    · exact .inl (.inr (.inr (.inr (.inr (.inr h1)))))
  have s0 : Stp w (w8.setCell ⟨R, 1, none⟩ v') (S.F R) ((S.put1 v' e).F R) N N := ⟨tt, hf, fun _ _ _ => rfl⟩
  have s : Stp w (w8.setCell ⟨R, 1, none⟩ v') (X ++ S.F R) (X ++ (S.put1 v' e).F R) N N := ⟨tt.mono (fun k hk => .inl (List.mem_append_right _ hk)), fun k hk => by
    rcases List.mem_append.1 hk with h1 | h1
    · exact .inl (List.mem_append_left _ h1)
    · exact (hf k h1).imp (fun h2 => List.mem_append_right _ h2) id, fun _ _ _ => rfl⟩
  have ho' : (w8.setCell ⟨R, 1, none⟩ v').ownsRow n1 24 1 v' (S.E1 ++ [e]).length (S.E1 ++ [e]) := by
    rw [List.length_append]
    refine Kg.ownsRow_setOther ho (fun hb => ?_) _
    obtain ⟨c, h3⟩ := own_blk ho hb.symm
    have h4 := (t8.block R hRl hRn).trans h.r
    rw [h4] at h3
    cases h3
  have kp : ∀ {e' n : Nat} {u : Value} {xs : List Value}, w.ownsRow n1 e' 1 u n xs → (∀ k, S.v1.ownBlock = some k → u.ownBlock ≠ some k) → e' ≠ 37 → (w8.setCell ⟨R, 1, none⟩ v').ownsRow n1 e' 1 u n xs := fun hu hne hty => by
    refine Kg.ownsRow_setOther (Kg.row_keep2 hu t8 (fun k hk hm => by rw [Option.mem_toList] at hm; exact hne k hm hk)) (fun hb => ?_) _
    obtain ⟨c, h3⟩ := own_blk hu hb.symm
    rw [h.r] at h3
    cases h3
    exact hty rfl
  refine ⟨⟨?_, h.hR, ho', kp h.o2 (own_ne h.o1 h.o2 (by decide)) (by decide), kp h.o5 (own_ne h.o1 h.o5 (by decide)) (by decide), kp h.o6 (own_ne h.o1 h.o6 (by decide)) (by decide), kp h.o7 (own_ne h.o1 h.o7 (by decide)) (by decide), (fun u hu => by rcases List.mem_append.1 hu with h1 | h1; exact (h.m1 u h1).stp s; rw [List.mem_singleton] at h1; rw [h1]; exact he.stp s), (fun u hu => (h.m2 u hu).stp s), (fun u hu => (h.m5 u hu).stp s), (fun u hu => (h.m6 u hu).stp s), (fun u hu => (h.m7 u hu).stp s), fun k hk => ?_, fun k hk => h.d k (Nat.le_trans tt.size hk), fun k hk => ⟨Nat.lt_of_lt_of_le (h.x k hk).1 tt.size, fun h1 => (hf k h1).elim (h.x k hk).2 (fun h2 => by have := (h.x k hk).1; omega)⟩⟩, s, s0⟩
  · have h4 := (t8.block R hRl hRn).trans h.r
    rw [Kg.heap_set h4]
    rfl
  · rcases List.mem_append.1 hk with h0 | h0
    · exact h.z k (List.mem_append_left _ h0)
    rcases hf k h0 with h1 | h1
    · exact h.z k (List.mem_append_right _ h1)
    · exact h.d k h1

/-- One list more. -/
def RS.put2 (S : RS) (v' e : Value) : RS := { S with v2 := v', E2 := S.E2 ++ [e] }

theorem Bd.put2 {w w8 : World} {n1 R : Nat} {N : Nat → Nat} {S : RS} {X : List Nat} {v' e : Value} (h : Bd w n1 R N S X) (he : Mk2 w N (X ++ S.F R) e) (ho : w8.ownsRow n1 60 1 v' (S.E2.length + 1) (S.E2 ++ [e])) (t8 : Kg.Touch S.v2.ownBlock.toList w w8) (hat : v'.ownBlock = S.v2.ownBlock ∨ v'.ownBlock = some w.heap.size) :
    Bd (w8.setCell ⟨R, 2, none⟩ v') n1 R N (S.put2 v' e) X ∧ Stp w (w8.setCell ⟨R, 2, none⟩ v') (X ++ S.F R) (X ++ (S.put2 v' e).F R) N N ∧ Stp w (w8.setCell ⟨R, 2, none⟩ v') (S.F R) ((S.put2 v' e).F R) N N := by
  have hRl := Kg.heap_lt h.r
  have hRn : R ∉ S.v2.ownBlock.toList := fun hm => by
    rw [Option.mem_toList] at hm
    obtain ⟨c, h3⟩ := own_blk h.o2 hm
    rw [h.r] at h3
    cases h3
  have t9 : Kg.Touch [R] w8 (w8.setCell ⟨R, 2, none⟩ v') := Kg.Touch.setCell _ _ _ (by simp)
  have hF : ∀ k, k ∈ S.v2.ownBlock.toList → k ∈ S.F R := fun k hk => by simp only [RS.F, List.mem_cons, List.mem_append]; exact (.inr (.inr (.inl hk)))
  have tt : Kg.Touch (S.F R) w (w8.setCell ⟨R, 2, none⟩ v') := (t8.mono (fun k hk => .inl (hF k hk))).trans (t9.mono (fun k hk => .inl (by simp at hk; rw [hk]; simp [RS.F])))
  have hf : ∀ k, k ∈ (S.put2 v' e).F R → k ∈ S.F R ∨ w.heap.size ≤ k := fun k hk => by
    simp only [RS.F, RS.put2, List.mem_cons, List.mem_append, Option.mem_toList] at hk ⊢
    rcases hk with h1 | h1 | h1 | h1 | h1 | h1
    · exact .inl (.inl h1)
    · exact .inl (.inr (.inl h1))
    · rcases hat with e1 | e1
      · exact .inl (.inr (.inr (.inl (e1 ▸ h1))))
      · exact .inr (by rw [e1] at h1; exact Nat.le_of_eq (Option.some.inj h1))
    · exact .inl (.inr (.inr (.inr (.inl h1))))
    · exact .inl (.inr (.inr (.inr (.inr (.inl h1)))))
    · exact .inl (.inr (.inr (.inr (.inr (.inr h1)))))
  have s0 : Stp w (w8.setCell ⟨R, 2, none⟩ v') (S.F R) ((S.put2 v' e).F R) N N := ⟨tt, hf, fun _ _ _ => rfl⟩
  have s : Stp w (w8.setCell ⟨R, 2, none⟩ v') (X ++ S.F R) (X ++ (S.put2 v' e).F R) N N := ⟨tt.mono (fun k hk => .inl (List.mem_append_right _ hk)), fun k hk => by
    rcases List.mem_append.1 hk with h1 | h1
    · exact .inl (List.mem_append_left _ h1)
    · exact (hf k h1).imp (fun h2 => List.mem_append_right _ h2) id, fun _ _ _ => rfl⟩
  have ho' : (w8.setCell ⟨R, 2, none⟩ v').ownsRow n1 60 1 v' (S.E2 ++ [e]).length (S.E2 ++ [e]) := by
    rw [List.length_append]
    refine Kg.ownsRow_setOther ho (fun hb => ?_) _
    obtain ⟨c, h3⟩ := own_blk ho hb.symm
    have h4 := (t8.block R hRl hRn).trans h.r
    rw [h4] at h3
    cases h3
  have kp : ∀ {e' n : Nat} {u : Value} {xs : List Value}, w.ownsRow n1 e' 1 u n xs → (∀ k, S.v2.ownBlock = some k → u.ownBlock ≠ some k) → e' ≠ 37 → (w8.setCell ⟨R, 2, none⟩ v').ownsRow n1 e' 1 u n xs := fun hu hne hty => by
    refine Kg.ownsRow_setOther (Kg.row_keep2 hu t8 (fun k hk hm => by rw [Option.mem_toList] at hm; exact hne k hm hk)) (fun hb => ?_) _
    obtain ⟨c, h3⟩ := own_blk hu hb.symm
    rw [h.r] at h3
    cases h3
    exact hty rfl
  refine ⟨⟨?_, h.hR, kp h.o1 (own_ne h.o2 h.o1 (by decide)) (by decide), ho', kp h.o5 (own_ne h.o2 h.o5 (by decide)) (by decide), kp h.o6 (own_ne h.o2 h.o6 (by decide)) (by decide), kp h.o7 (own_ne h.o2 h.o7 (by decide)) (by decide), (fun u hu => (h.m1 u hu).stp s), (fun u hu => by rcases List.mem_append.1 hu with h1 | h1; exact (h.m2 u h1).stp s; rw [List.mem_singleton] at h1; rw [h1]; exact he.stp s), (fun u hu => (h.m5 u hu).stp s), (fun u hu => (h.m6 u hu).stp s), (fun u hu => (h.m7 u hu).stp s), fun k hk => ?_, fun k hk => h.d k (Nat.le_trans tt.size hk), fun k hk => ⟨Nat.lt_of_lt_of_le (h.x k hk).1 tt.size, fun h1 => (hf k h1).elim (h.x k hk).2 (fun h2 => by have := (h.x k hk).1; omega)⟩⟩, s, s0⟩
  · have h4 := (t8.block R hRl hRn).trans h.r
    rw [Kg.heap_set h4]
    rfl
  · rcases List.mem_append.1 hk with h0 | h0
    · exact h.z k (List.mem_append_left _ h0)
    rcases hf k h0 with h1 | h1
    · exact h.z k (List.mem_append_right _ h1)
    · exact h.d k h1

/-- One list more. -/
def RS.put5 (S : RS) (v' e : Value) : RS := { S with v5 := v', E5 := S.E5 ++ [e] }

theorem Bd.put5 {w w8 : World} {n1 R : Nat} {N : Nat → Nat} {S : RS} {X : List Nat} {v' e : Value} (h : Bd w n1 R N S X) (he : Mk5 w N (X ++ S.F R) e) (ho : w8.ownsRow n1 30 1 v' (S.E5.length + 1) (S.E5 ++ [e])) (t8 : Kg.Touch S.v5.ownBlock.toList w w8) (hat : v'.ownBlock = S.v5.ownBlock ∨ v'.ownBlock = some w.heap.size) :
    Bd (w8.setCell ⟨R, 5, none⟩ v') n1 R N (S.put5 v' e) X ∧ Stp w (w8.setCell ⟨R, 5, none⟩ v') (X ++ S.F R) (X ++ (S.put5 v' e).F R) N N ∧ Stp w (w8.setCell ⟨R, 5, none⟩ v') (S.F R) ((S.put5 v' e).F R) N N := by
  have hRl := Kg.heap_lt h.r
  have hRn : R ∉ S.v5.ownBlock.toList := fun hm => by
    rw [Option.mem_toList] at hm
    obtain ⟨c, h3⟩ := own_blk h.o5 hm
    rw [h.r] at h3
    cases h3
  have t9 : Kg.Touch [R] w8 (w8.setCell ⟨R, 5, none⟩ v') := Kg.Touch.setCell _ _ _ (by simp)
  have hF : ∀ k, k ∈ S.v5.ownBlock.toList → k ∈ S.F R := fun k hk => by simp only [RS.F, List.mem_cons, List.mem_append]; exact (.inr (.inr (.inr (.inl hk))))
  have tt : Kg.Touch (S.F R) w (w8.setCell ⟨R, 5, none⟩ v') := (t8.mono (fun k hk => .inl (hF k hk))).trans (t9.mono (fun k hk => .inl (by simp at hk; rw [hk]; simp [RS.F])))
  have hf : ∀ k, k ∈ (S.put5 v' e).F R → k ∈ S.F R ∨ w.heap.size ≤ k := fun k hk => by
    simp only [RS.F, RS.put5, List.mem_cons, List.mem_append, Option.mem_toList] at hk ⊢
    rcases hk with h1 | h1 | h1 | h1 | h1 | h1
    · exact .inl (.inl h1)
    · exact .inl (.inr (.inl h1))
    · exact .inl (.inr (.inr (.inl h1)))
    · rcases hat with e1 | e1
      · exact .inl (.inr (.inr (.inr (.inl (e1 ▸ h1)))))
      · exact .inr (by rw [e1] at h1; exact Nat.le_of_eq (Option.some.inj h1))
    · exact .inl (.inr (.inr (.inr (.inr (.inl h1)))))
    · exact .inl (.inr (.inr (.inr (.inr (.inr h1)))))
  have s0 : Stp w (w8.setCell ⟨R, 5, none⟩ v') (S.F R) ((S.put5 v' e).F R) N N := ⟨tt, hf, fun _ _ _ => rfl⟩
  have s : Stp w (w8.setCell ⟨R, 5, none⟩ v') (X ++ S.F R) (X ++ (S.put5 v' e).F R) N N := ⟨tt.mono (fun k hk => .inl (List.mem_append_right _ hk)), fun k hk => by
    rcases List.mem_append.1 hk with h1 | h1
    · exact .inl (List.mem_append_left _ h1)
    · exact (hf k h1).imp (fun h2 => List.mem_append_right _ h2) id, fun _ _ _ => rfl⟩
  have ho' : (w8.setCell ⟨R, 5, none⟩ v').ownsRow n1 30 1 v' (S.E5 ++ [e]).length (S.E5 ++ [e]) := by
    rw [List.length_append]
    refine Kg.ownsRow_setOther ho (fun hb => ?_) _
    obtain ⟨c, h3⟩ := own_blk ho hb.symm
    have h4 := (t8.block R hRl hRn).trans h.r
    rw [h4] at h3
    cases h3
  have kp : ∀ {e' n : Nat} {u : Value} {xs : List Value}, w.ownsRow n1 e' 1 u n xs → (∀ k, S.v5.ownBlock = some k → u.ownBlock ≠ some k) → e' ≠ 37 → (w8.setCell ⟨R, 5, none⟩ v').ownsRow n1 e' 1 u n xs := fun hu hne hty => by
    refine Kg.ownsRow_setOther (Kg.row_keep2 hu t8 (fun k hk hm => by rw [Option.mem_toList] at hm; exact hne k hm hk)) (fun hb => ?_) _
    obtain ⟨c, h3⟩ := own_blk hu hb.symm
    rw [h.r] at h3
    cases h3
    exact hty rfl
  refine ⟨⟨?_, h.hR, kp h.o1 (own_ne h.o5 h.o1 (by decide)) (by decide), kp h.o2 (own_ne h.o5 h.o2 (by decide)) (by decide), ho', kp h.o6 (own_ne h.o5 h.o6 (by decide)) (by decide), kp h.o7 (own_ne h.o5 h.o7 (by decide)) (by decide), (fun u hu => (h.m1 u hu).stp s), (fun u hu => (h.m2 u hu).stp s), (fun u hu => by rcases List.mem_append.1 hu with h1 | h1; exact (h.m5 u h1).stp s; rw [List.mem_singleton] at h1; rw [h1]; exact he.stp s), (fun u hu => (h.m6 u hu).stp s), (fun u hu => (h.m7 u hu).stp s), fun k hk => ?_, fun k hk => h.d k (Nat.le_trans tt.size hk), fun k hk => ⟨Nat.lt_of_lt_of_le (h.x k hk).1 tt.size, fun h1 => (hf k h1).elim (h.x k hk).2 (fun h2 => by have := (h.x k hk).1; omega)⟩⟩, s, s0⟩
  · have h4 := (t8.block R hRl hRn).trans h.r
    rw [Kg.heap_set h4]
    rfl
  · rcases List.mem_append.1 hk with h0 | h0
    · exact h.z k (List.mem_append_left _ h0)
    rcases hf k h0 with h1 | h1
    · exact h.z k (List.mem_append_right _ h1)
    · exact h.d k h1

/-- One list more. -/
def RS.put6 (S : RS) (v' e : Value) : RS := { S with v6 := v', E6 := S.E6 ++ [e] }

theorem Bd.put6 {w w8 : World} {n1 R : Nat} {N : Nat → Nat} {S : RS} {X : List Nat} {v' e : Value} (h : Bd w n1 R N S X) (he : Mk6 w N (X ++ S.F R) e) (ho : w8.ownsRow n1 23 1 v' (S.E6.length + 1) (S.E6 ++ [e])) (t8 : Kg.Touch S.v6.ownBlock.toList w w8) (hat : v'.ownBlock = S.v6.ownBlock ∨ v'.ownBlock = some w.heap.size) :
    Bd (w8.setCell ⟨R, 6, none⟩ v') n1 R N (S.put6 v' e) X ∧ Stp w (w8.setCell ⟨R, 6, none⟩ v') (X ++ S.F R) (X ++ (S.put6 v' e).F R) N N ∧ Stp w (w8.setCell ⟨R, 6, none⟩ v') (S.F R) ((S.put6 v' e).F R) N N := by
  have hRl := Kg.heap_lt h.r
  have hRn : R ∉ S.v6.ownBlock.toList := fun hm => by
    rw [Option.mem_toList] at hm
    obtain ⟨c, h3⟩ := own_blk h.o6 hm
    rw [h.r] at h3
    cases h3
  have t9 : Kg.Touch [R] w8 (w8.setCell ⟨R, 6, none⟩ v') := Kg.Touch.setCell _ _ _ (by simp)
  have hF : ∀ k, k ∈ S.v6.ownBlock.toList → k ∈ S.F R := fun k hk => by simp only [RS.F, List.mem_cons, List.mem_append]; exact (.inr (.inr (.inr (.inr (.inl hk)))))
  have tt : Kg.Touch (S.F R) w (w8.setCell ⟨R, 6, none⟩ v') := (t8.mono (fun k hk => .inl (hF k hk))).trans (t9.mono (fun k hk => .inl (by simp at hk; rw [hk]; simp [RS.F])))
  have hf : ∀ k, k ∈ (S.put6 v' e).F R → k ∈ S.F R ∨ w.heap.size ≤ k := fun k hk => by
    simp only [RS.F, RS.put6, List.mem_cons, List.mem_append, Option.mem_toList] at hk ⊢
    rcases hk with h1 | h1 | h1 | h1 | h1 | h1
    · exact .inl (.inl h1)
    · exact .inl (.inr (.inl h1))
    · exact .inl (.inr (.inr (.inl h1)))
    · exact .inl (.inr (.inr (.inr (.inl h1))))
    · rcases hat with e1 | e1
      · exact .inl (.inr (.inr (.inr (.inr (.inl (e1 ▸ h1))))))
      · exact .inr (by rw [e1] at h1; exact Nat.le_of_eq (Option.some.inj h1))
    · exact .inl (.inr (.inr (.inr (.inr (.inr h1)))))
  have s0 : Stp w (w8.setCell ⟨R, 6, none⟩ v') (S.F R) ((S.put6 v' e).F R) N N := ⟨tt, hf, fun _ _ _ => rfl⟩
  have s : Stp w (w8.setCell ⟨R, 6, none⟩ v') (X ++ S.F R) (X ++ (S.put6 v' e).F R) N N := ⟨tt.mono (fun k hk => .inl (List.mem_append_right _ hk)), fun k hk => by
    rcases List.mem_append.1 hk with h1 | h1
    · exact .inl (List.mem_append_left _ h1)
    · exact (hf k h1).imp (fun h2 => List.mem_append_right _ h2) id, fun _ _ _ => rfl⟩
  have ho' : (w8.setCell ⟨R, 6, none⟩ v').ownsRow n1 23 1 v' (S.E6 ++ [e]).length (S.E6 ++ [e]) := by
    rw [List.length_append]
    refine Kg.ownsRow_setOther ho (fun hb => ?_) _
    obtain ⟨c, h3⟩ := own_blk ho hb.symm
    have h4 := (t8.block R hRl hRn).trans h.r
    rw [h4] at h3
    cases h3
  have kp : ∀ {e' n : Nat} {u : Value} {xs : List Value}, w.ownsRow n1 e' 1 u n xs → (∀ k, S.v6.ownBlock = some k → u.ownBlock ≠ some k) → e' ≠ 37 → (w8.setCell ⟨R, 6, none⟩ v').ownsRow n1 e' 1 u n xs := fun hu hne hty => by
    refine Kg.ownsRow_setOther (Kg.row_keep2 hu t8 (fun k hk hm => by rw [Option.mem_toList] at hm; exact hne k hm hk)) (fun hb => ?_) _
    obtain ⟨c, h3⟩ := own_blk hu hb.symm
    rw [h.r] at h3
    cases h3
    exact hty rfl
  refine ⟨⟨?_, h.hR, kp h.o1 (own_ne h.o6 h.o1 (by decide)) (by decide), kp h.o2 (own_ne h.o6 h.o2 (by decide)) (by decide), kp h.o5 (own_ne h.o6 h.o5 (by decide)) (by decide), ho', kp h.o7 (own_ne h.o6 h.o7 (by decide)) (by decide), (fun u hu => (h.m1 u hu).stp s), (fun u hu => (h.m2 u hu).stp s), (fun u hu => (h.m5 u hu).stp s), (fun u hu => by rcases List.mem_append.1 hu with h1 | h1; exact (h.m6 u h1).stp s; rw [List.mem_singleton] at h1; rw [h1]; exact he.stp s), (fun u hu => (h.m7 u hu).stp s), fun k hk => ?_, fun k hk => h.d k (Nat.le_trans tt.size hk), fun k hk => ⟨Nat.lt_of_lt_of_le (h.x k hk).1 tt.size, fun h1 => (hf k h1).elim (h.x k hk).2 (fun h2 => by have := (h.x k hk).1; omega)⟩⟩, s, s0⟩
  · have h4 := (t8.block R hRl hRn).trans h.r
    rw [Kg.heap_set h4]
    rfl
  · rcases List.mem_append.1 hk with h0 | h0
    · exact h.z k (List.mem_append_left _ h0)
    rcases hf k h0 with h1 | h1
    · exact h.z k (List.mem_append_right _ h1)
    · exact h.d k h1

/-- One list more. -/
def RS.put7 (S : RS) (v' e : Value) : RS := { S with v7 := v', E7 := S.E7 ++ [e] }

theorem Bd.put7 {w w8 : World} {n1 R : Nat} {N : Nat → Nat} {S : RS} {X : List Nat} {v' e : Value} (h : Bd w n1 R N S X) (he : Mk7 w N (X ++ S.F R) e) (ho : w8.ownsRow n1 22 1 v' (S.E7.length + 1) (S.E7 ++ [e])) (t8 : Kg.Touch S.v7.ownBlock.toList w w8) (hat : v'.ownBlock = S.v7.ownBlock ∨ v'.ownBlock = some w.heap.size) :
    Bd (w8.setCell ⟨R, 7, none⟩ v') n1 R N (S.put7 v' e) X ∧ Stp w (w8.setCell ⟨R, 7, none⟩ v') (X ++ S.F R) (X ++ (S.put7 v' e).F R) N N ∧ Stp w (w8.setCell ⟨R, 7, none⟩ v') (S.F R) ((S.put7 v' e).F R) N N := by
  have hRl := Kg.heap_lt h.r
  have hRn : R ∉ S.v7.ownBlock.toList := fun hm => by
    rw [Option.mem_toList] at hm
    obtain ⟨c, h3⟩ := own_blk h.o7 hm
    rw [h.r] at h3
    cases h3
  have t9 : Kg.Touch [R] w8 (w8.setCell ⟨R, 7, none⟩ v') := Kg.Touch.setCell _ _ _ (by simp)
  have hF : ∀ k, k ∈ S.v7.ownBlock.toList → k ∈ S.F R := fun k hk => by simp only [RS.F, List.mem_cons, List.mem_append]; exact (.inr (.inr (.inr (.inr (.inr hk)))))
  have tt : Kg.Touch (S.F R) w (w8.setCell ⟨R, 7, none⟩ v') := (t8.mono (fun k hk => .inl (hF k hk))).trans (t9.mono (fun k hk => .inl (by simp at hk; rw [hk]; simp [RS.F])))
  have hf : ∀ k, k ∈ (S.put7 v' e).F R → k ∈ S.F R ∨ w.heap.size ≤ k := fun k hk => by
    simp only [RS.F, RS.put7, List.mem_cons, List.mem_append, Option.mem_toList] at hk ⊢
    rcases hk with h1 | h1 | h1 | h1 | h1 | h1
    · exact .inl (.inl h1)
    · exact .inl (.inr (.inl h1))
    · exact .inl (.inr (.inr (.inl h1)))
    · exact .inl (.inr (.inr (.inr (.inl h1))))
    · exact .inl (.inr (.inr (.inr (.inr (.inl h1)))))
    · rcases hat with e1 | e1
      · exact .inl (.inr (.inr (.inr (.inr (.inr (e1 ▸ h1))))))
      · exact .inr (by rw [e1] at h1; exact Nat.le_of_eq (Option.some.inj h1))
  have s0 : Stp w (w8.setCell ⟨R, 7, none⟩ v') (S.F R) ((S.put7 v' e).F R) N N := ⟨tt, hf, fun _ _ _ => rfl⟩
  have s : Stp w (w8.setCell ⟨R, 7, none⟩ v') (X ++ S.F R) (X ++ (S.put7 v' e).F R) N N := ⟨tt.mono (fun k hk => .inl (List.mem_append_right _ hk)), fun k hk => by
    rcases List.mem_append.1 hk with h1 | h1
    · exact .inl (List.mem_append_left _ h1)
    · exact (hf k h1).imp (fun h2 => List.mem_append_right _ h2) id, fun _ _ _ => rfl⟩
  have ho' : (w8.setCell ⟨R, 7, none⟩ v').ownsRow n1 22 1 v' (S.E7 ++ [e]).length (S.E7 ++ [e]) := by
    rw [List.length_append]
    refine Kg.ownsRow_setOther ho (fun hb => ?_) _
    obtain ⟨c, h3⟩ := own_blk ho hb.symm
    have h4 := (t8.block R hRl hRn).trans h.r
    rw [h4] at h3
    cases h3
  have kp : ∀ {e' n : Nat} {u : Value} {xs : List Value}, w.ownsRow n1 e' 1 u n xs → (∀ k, S.v7.ownBlock = some k → u.ownBlock ≠ some k) → e' ≠ 37 → (w8.setCell ⟨R, 7, none⟩ v').ownsRow n1 e' 1 u n xs := fun hu hne hty => by
    refine Kg.ownsRow_setOther (Kg.row_keep2 hu t8 (fun k hk hm => by rw [Option.mem_toList] at hm; exact hne k hm hk)) (fun hb => ?_) _
    obtain ⟨c, h3⟩ := own_blk hu hb.symm
    rw [h.r] at h3
    cases h3
    exact hty rfl
  refine ⟨⟨?_, h.hR, kp h.o1 (own_ne h.o7 h.o1 (by decide)) (by decide), kp h.o2 (own_ne h.o7 h.o2 (by decide)) (by decide), kp h.o5 (own_ne h.o7 h.o5 (by decide)) (by decide), kp h.o6 (own_ne h.o7 h.o6 (by decide)) (by decide), ho', (fun u hu => (h.m1 u hu).stp s), (fun u hu => (h.m2 u hu).stp s), (fun u hu => (h.m5 u hu).stp s), (fun u hu => (h.m6 u hu).stp s), (fun u hu => by rcases List.mem_append.1 hu with h1 | h1; exact (h.m7 u h1).stp s; rw [List.mem_singleton] at h1; rw [h1]; exact he.stp s), fun k hk => ?_, fun k hk => h.d k (Nat.le_trans tt.size hk), fun k hk => ⟨Nat.lt_of_lt_of_le (h.x k hk).1 tt.size, fun h1 => (hf k h1).elim (h.x k hk).2 (fun h2 => by have := (h.x k hk).1; omega)⟩⟩, s, s0⟩
  · have h4 := (t8.block R hRl hRn).trans h.r
    rw [Kg.heap_set h4]
    rfl
  · rcases List.mem_append.1 hk with h0 | h0
    · exact h.z k (List.mem_append_left _ h0)
    rcases hf k h0 with h1 | h1
    · exact h.z k (List.mem_append_right _ h1)
    · exact h.d k h1

/-- How long lists are, with one more. -/
def upN (N : Nat → Nat) (b n : Nat) : Nat → Nat := fun k => if k = b then n else N k

end Go.Proofs.YtckgcpoheodbcaaDoor

/-
  Images, lists with room behind them: lists of numbers. (Printed by mkRM2.py.)
-/
set_option linter.unusedVariables false
set_option maxRecDepth 20000
namespace Go.Proofs.YtckgcpoheodbcaaDoor
open Go.RowKit Go.Shelf

/-- How many lists a room has. -/
def RS.tot (S : RS) : Nat := S.E1.length + (S.E2.length + (S.E5.length + (S.E6.length + S.E7.length)))

/-- What a call leaves: d lists more, and something (G) that it gives. -/
def RPost (n1 R : Nat) (N : Nat → Nat) (S : RS) (X : List Nat) (w w' : World) (d : Nat) (G : World → (Nat → Nat) → List Nat → Prop) : Prop :=
  ∃ N' S', G w' N' (X ++ S'.F R) ∧ Bd w' n1 R N' S' X ∧ Stp w w' (X ++ S.F R) (X ++ S'.F R) N N' ∧ Kg.Touch (S.F R) w w' ∧ S'.tot = S.tot + d

/-- A list of numbers in a block of its own. -/
structure Got (w : World) (N : Nat → Nat) (F : List Nat) (lo b : Nat) (k : IntKind) (v : Value) (xs : List Int) : Prop where
  is : v = .slice (some ⟨b, 0, none⟩) xs.length (xs.length + 40)
  lo : lo ≤ b
  lt : b < w.heap.size
  f : b ∉ F
  n : N b = xs.length
  c : ∀ (f : Nat) z, xs[f]? = some z → w.cell? ⟨b, f, none⟩ = some (.int k z)
  fr : ∀ f, w.frozen? ⟨b, f, none⟩ = false

theorem Got.stp {w w' : World} {N N' : Nat → Nat} {F F' : List Nat} {lo b : Nat} {k : IntKind} {v : Value} {xs : List Int} (h : Got w N F lo b k v xs) (s : Stp w w' F F' N N') : Got w' N' F' lo b k v xs :=
  ⟨h.is, h.lo, s.lt h.lt, s.out h.lt h.f, by rw [s.n b h.lt h.f]; exact h.n, fun f z hz => by rw [s.cell h.lt h.f]; exact h.c f z hz, fun f => by rw [s.frozen h.lt h.f]; exact h.fr f⟩

/-- The marks behind a list. -/
def mkt (k : Nat) : List Int := (List.range k).map mrk
theorem mkt_len (k : Nat) : (mkt k).length = k := by simp [mkt]
theorem mkt_two (m : Nat) : mkt (2 * m + 2) = mkt (2 * m) ++ [-7701, -7702] := by
  unfold mkt
  rw [show 2 * m + 2 = (2 * m + 1) + 1 by omega, List.range_succ, List.range_succ]
  simp [mrk]
theorem mkt_at (k j : Nat) (h : j < k) : (mkt k)[j]? = some (mrk j) := by
  unfold mkt
  rw [List.getElem?_map, List.getElem?_range h]
  rfl
def mku (k : Nat) : List Int := (List.range k).map mru
theorem mku_len (k : Nat) : (mku k).length = k := by simp [mku]
theorem mku_two (m : Nat) : mku (2 * m + 2) = mku (2 * m) ++ [7701, 7702] := by
  unfold mku
  rw [show 2 * m + 2 = (2 * m + 1) + 1 by omega, List.range_succ, List.range_succ]
  simp [mru]
theorem mku_at (k j : Nat) (h : j < k) : (mku k)[j]? = some (mru j) := by
  unfold mku
  rw [List.getElem?_map, List.getElem?_range h]
  rfl

theorem cell_two_new (w : World) (x y : Value) (t : TypeId) : ∀ j u, [x, y][j]? = some u → (w.alloc (.cells #[x, y] t)).cell? ((⟨w.heap.size, 0, none⟩ : Addr).add j) = some u := by
  intro j u hu
  have e := cell_of_row _ _ j _ _ _ (heap_alloc_new w (.cells #[x, y] t (0, 0)))
  rw [Addr.add_lit, Nat.zero_add, e]
  match j, hu with
  | 0, h => simpa using h
  | 1, h => simpa using h

theorem info_roomInts : (Tryd.prog.info? 3).map (fun i => (i.zero, i.size, i.bytes)) = some (some (.int .i64 0), 1, 8) := by kernel_rfl
theorem infoS_roomInts : (Tryd.prog.info? 24).map (fun i => (i.zero, i.size, i.bytes)) = some (some (.slice none 0 0), 1, 24) := by kernel_rfl

set_option maxHeartbeats 8000000 in
/-- A copy with room. -/
theorem roomInts_any {w : World} {n1 R : Nat} {N : Nat → Nat} {S : RS} {X : List Nat} (h : Bd w n1 R N S X) (n0 : Nat) (hn : n0 ≤ w.heap.size) (v : Value) (l : List Int) (hv : Lrd n0 w v .i64 l) (hl : l.length ≤ 1073741824) (hT : S.tot ≤ 1000000000) (hn1 : n1 ≤ w.heap.size) :
    Calls Tryd.prog 13 #[.pointer (some ⟨R, 0, none⟩), v] w fun e w' => ∃ u, e = .returned u ∧ RPost n1 R N S X w w' 1 (fun w' N' F' => ∃ b, Got w' N' F' n1 b .i64 u l) := by
  obtain ⟨i0, hi0, hj0, hj1, hj2⟩ := info_parts info_roomInts
  have HI : Hid (Tryd.prog.info? 3 = some i0 ∧ i0.zero = some (.int .i64 0) ∧ i0.size = 1 ∧ i0.bytes = 8) := ⟨hi0, hj0, hj1, hj2⟩
  have HBd : Hid (Bd w n1 R N S X) := h
  have HT : Hid (S.tot ≤ 1000000000) := hT
  obtain ⟨av, cp, rfl, hcp, hc⟩ := hv
  have Hc : Hid (∀ (f : Nat) z, l[f]? = some z → ∃ q off, av = some ⟨q, off, none⟩ ∧ q < n0 ∧ w.cell? ⟨q, off + f, none⟩ = some (.int .i64 z)) := hc
  clear hi0 hj0 hj1 hj2 hc h hT
  go_enter Tryd.func13, Tryd.ntmps13
  go_upto_region 2 with fail
  have Hr0 : Hid ((w.alloc (.cells #[] 3)).ownsRow w.heap.size 3 1 (.slice (some ⟨w.heap.size, 0, none⟩) 0 0) (l.take 0).length ((l.take 0).map (Value.int .i64))) := ⟨by simp, .inr ⟨_, 0, #[], rfl, Nat.le_refl _, heap_alloc_new w _, by simp, by simp [maxLen], by simp, by simp⟩⟩
  have Hb0 : Hid (Below w.heap.size w (w.alloc (.cells #[] 3))) := Below.alloc (Below.refl _ _) (Nat.le_refl _) _
  obtain ⟨v0, hv0⟩ : ∃ v0, v0 = Value.slice (some ⟨w.heap.size, 0, none⟩) 0 0 := ⟨_, rfl⟩
  rw [← hv0] at Hr0 ⊢
  clear hv0
  generalize w.alloc (.cells #[] 3) = w0 at *
  go_wp2
  go_loopw [5, 6] (fun v5 v6 wr => ∃ k : Nat, k ≤ l.length ∧ v6 = .int .i64 k ∧ Hid (wr.ownsRow w.heap.size 3 1 v5 (l.take k).length ((l.take k).map (Value.int .i64))) ∧ Hid (Below w.heap.size w wr)) (fun _ v6 _ => l.length - (intOf v6).toNat)
  case atStart => exact ⟨0, Nat.zero_le _, rfl, Hr0, Hb0⟩
  case round =>
    obtain ⟨k, hk, rfl, Hl, Hb⟩ := hrel
    clear Hr0 Hb0
    obtain ⟨al, cl, hvl⟩ := own_slI Hl.out
    subst hvl
    by_cases hkl : k < l.length
    · have hkI : (k : Int) < (l.length : Int) := by omega
      have hak : l[k]? = some (l[k]'hkl) := List.getElem?_eq_getElem hkl
      generalize l[k]'hkl = a at hak
      have Htk : Hid (l.take (k + 1) = l.take k ++ [a]) := take_snocL hak
      obtain ⟨q, off, rfl, hq, ca⟩ := Hc.out k a hak
      have ca' : wr.cell? ⟨q, off + k, none⟩ = some (.int .i64 a) := (Hb.out.cell (p := ⟨q, off + k, none⟩) (Nat.lt_of_lt_of_le hq hn)).trans ca
      have Hdl : Hid ((l.take k).length ≤ 1073741824) := by
        have h3 := List.length_take_le k l
        show _ ≤ _
        omega
      clear ca hak
      go_wp2_with (at_builtin; refine wpList_append_own_at _ rfl _ _ 24 rfl w.heap.size 3 i0 (.int .i64 0) 1 8 Tryd.underlying24 HI.out.1 HI.out.2.1 HI.out.2.2.1 HI.out.2.2.2 rfl (by decide) _ _ _ rfl (Hl.out.alloc _) ⟨wr.heap.size, 0, none⟩ 1 1 [.int .i64 a] rfl rfl (cell_one_new _ _ _) (by simp [Value.oneCell']) (by have := Hdl.out; simp [maxLen]; omega) (by have := Hdl.out; omega) (by have := Hb.out.size; simp; omega) ?_; intro v' w8 hown' hgrow _ hat)
      have t8 : Kg.Touch (Value.slice al (l.take k).length cl).ownBlock.toList wr w8 := ⟨hgrow.os, hgrow.tape, hgrow.output, by have := hgrow.size; simp at this; omega, fun k hk hn => (hgrow.block k (by simp; omega) (fun e => hn (by rw [Option.mem_toList]; exact e.symm))).trans (Below.heap_alloc _ _ _ hk)⟩
      have Hl8 : Hid (w8.ownsRow w.heap.size 3 1 v' (l.take (k + 1)).length ((l.take (k + 1)).map (Value.int .i64))) := by
        show w8.ownsRow _ _ _ _ _ _
        rw [Htk.out]
        simpa using hown'
      have Hb8 : Hid (Below w.heap.size w w8) := Hb.out.trans (t8.below Hb.out.size (fun y hy => by rw [Option.mem_toList] at hy; exact (Hl.out.lt y hy).1))
      obtain ⟨a9, c9, hv9⟩ := own_slI Hl8.out
      subst hv9
      clear hown' hgrow hat t8 Hl Hb ca'
      go_roundw
      case rel => exact ⟨k + 1, by omega, by go_num, Hl8, Hb8⟩
      case measure => simp [intOf]; omega
    · have hke : k = l.length := by omega
      have hkn : ¬ (k : Int) < (l.length : Int) := by omega
      have Hl0 : Hid (wr.ownsRow w.heap.size 3 1 (.slice al k cl) (l ++ mkt (2 * 0)).length ((l ++ mkt (2 * 0)).map (Value.int .i64))) := by
        have := Hl.out
        have e : l ++ mkt (2 * 0) = l := by simp [mkt]
        rw [e]
        rw [hke, List.take_length] at this
        rw [hke]
        exact this
      have Hb0 : Hid (Below w.heap.size w wr) := Hb.out
      clear Hl Hb hke
      go_wp2
      go_loopw [5, 7] (fun v5 v7 w3 => ∃ m : Nat, m ≤ 20 ∧ v7 = .int .i64 (2 * (m : Int)) ∧ Hid (w3.ownsRow w.heap.size 3 1 v5 (l ++ mkt (2 * m)).length ((l ++ mkt (2 * m)).map (Value.int .i64))) ∧ Hid (Below w.heap.size w w3)) (fun _ v7 _ => 40 - (intOf v7).toNat)
      case atStart => exact ⟨0, Nat.zero_le _, rfl, Hl0, Hb0⟩
      case round =>
        obtain ⟨m, hm, rfl, Hl, Hb⟩ := hrel
        clear Hl0 Hb0
        obtain ⟨al2, cl2, hvl⟩ := own_slI Hl.out
        subst hvl
        have Hdl : Hid ((l ++ mkt (2 * m)).length ≤ 1073741824 + 40) := by
          show _ ≤ _
          rw [List.length_append, mkt_len]
          omega
        by_cases hml : m < 20
        · have hmI : 2 * (m : Int) < 40 := by omega
          obtain ⟨M, hM⟩ : ∃ M, M = (l ++ mkt (2 * m)).length := ⟨_, rfl⟩
          rw [← hM] at Hl Hdl ⊢
          have HM : Hid (M = (l ++ mkt (2 * m)).length) := hM
          clear hM
          go_wp2_with (at_builtin; refine wpList_append_own_at _ rfl _ _ 24 rfl w.heap.size 3 i0 (.int .i64 0) 1 8 Tryd.underlying24 HI.out.1 HI.out.2.1 HI.out.2.2.1 HI.out.2.2.2 rfl (by decide) _ _ _ rfl (Hl.out.alloc _) ⟨wr.heap.size, 0, none⟩ 2 2 [.int .i64 (-7701), .int .i64 (-7702)] rfl rfl (cell_two_new _ _ _ _) (by simp [Value.oneCell']) (by have := Hdl.out; simp [maxLen]; omega) (by have := Hdl.out; omega) (by have := Hb.out.size; simp; omega) ?_; intro v' w8 hown' hgrow _ hat)
          have t8 : Kg.Touch (Value.slice al2 M cl2).ownBlock.toList wr w8 := ⟨hgrow.os, hgrow.tape, hgrow.output, by have := hgrow.size; simp at this; omega, fun k hk hn => (hgrow.block k (by simp; omega) (fun e => hn (by rw [Option.mem_toList]; exact e.symm))).trans (Below.heap_alloc _ _ _ hk)⟩
          have Hl8 : Hid (w8.ownsRow w.heap.size 3 1 v' (l ++ mkt (2 * (m + 1))).length ((l ++ mkt (2 * (m + 1))).map (Value.int .i64))) := by
            show w8.ownsRow _ _ _ _ _ _
            have e1 : l ++ mkt (2 * (m + 1)) = (l ++ mkt (2 * m)) ++ [(-7701), (-7702)] := by rw [show 2 * (m + 1) = 2 * m + 2 by omega, mkt_two, List.append_assoc]
            have e2 : (l ++ mkt (2 * (m + 1))).length = M + 2 := by rw [e1, List.length_append, HM.out]; rfl
            rw [e2, e1, List.map_append]
            exact hown'
          have Hb8 : Hid (Below w.heap.size w w8) := Hb.out.trans (t8.below Hb.out.size (fun y hy => by rw [Option.mem_toList] at hy; exact (Hl.out.lt y hy).1))
          exact ⟨⟨m + 1, by omega, by congr 1, Hl8, Hb8⟩, by simp [intOf]; omega⟩
        · have hme : m = 20 := by omega
          have hmI : ¬ 2 * (m : Int) < 40 := by omega
          obtain ⟨M, hM⟩ : ∃ M, M = (l ++ mkt (2 * m)).length := ⟨_, rfl⟩
          have HM : Hid (M = l.length + 40 ∧ l.length ≤ 1073741824) := by
            show _ ∧ _
            rw [hM, hme, List.length_append, mkt_len]
            omega
          have Hrow : Hid (wr.ownsRow w.heap.size 3 1 (.slice al2 M cl2) M ((l ++ mkt 40).map (Value.int .i64))) := by
            have := Hl.out
            rw [← hM, hme] at this
            exact this
          rw [← hM] at Hdl ⊢
          clear hM Hl
          obtain ⟨Y, c3, hY⟩ := Kg.ownsRow_some Hrow.out (by have := HM.out; omega)
          rw [hY] at Hrow ⊢
          obtain ⟨i1, hi1, hk0, hk1, hk2⟩ := info_parts infoS_roomInts
          have HJ : Hid (Tryd.prog.info? 24 = some i1 ∧ i1.zero = some (.slice none 0 0) ∧ i1.size = 1 ∧ i1.bytes = 24) := ⟨hi1, hk0, hk1, hk2⟩
          have hYl : Y < wr.heap.size := (Hrow.out.lt Y rfl).2
          have hYg : w.heap.size ≤ Y := (Hrow.out.lt Y rfl).1
          have hcap : M ≤ c3 := own_cap Hrow.out
          have hL := HBd.out.laid (N' := upN N Y l.length) Hb.out (fun k hk => by unfold upN; rw [if_neg (by omega)]) (fun k hk => by unfold upN; rw [if_neg (by omega)]; exact HBd.out.d k (Nat.le_trans Hb.out.size hk))
          have Hcel : Hid (∀ (j : Nat) z, (l ++ mkt 40)[j]? = some z → wr.cell? ⟨Y, j, none⟩ = some (.int .i64 z)) := fun j z hz => by
            have h9 := Hrow.out.cells (g := Y) rfl j (.int .i64 z) (by rw [List.getElem?_map, hz]; rfl)
            rw [Addr.add_lit, Nat.zero_add] at h9
            exact h9
          have HYfr : Hid (∀ f, wr.frozen? ⟨Y, f, none⟩ = false) := fun f => by
            obtain ⟨cur, h9⟩ := own_blk Hrow.out (k := Y) rfl
            exact Kg.heap_frozen h9 f
          have he : Mk1 wr (upN N Y l.length) (X ++ S.F R) (.slice (some ⟨Y, 0, none⟩) M c3) := by
            have hNY : upN N Y l.length Y = l.length := by unfold upN; rw [if_pos rfl]
            refine ⟨Y, c3, by rw [hNY, HM.out.1], fun hm => by have := HBd.out.ltX Y hm; omega, hYl, by rw [hNY]; omega, fun j hj => ?_⟩
            rw [hNY]
            exact Hcel.out (l.length + j) _ (by rw [List.getElem?_append_right (by omega), Nat.add_sub_cancel_left]; exact mkt_at 40 j hj)
          have bB : Below wr.heap.size wr (wr.alloc (.cells #[.slice (some ⟨Y, 0, none⟩) M c3] 24)) := Below.alloc (Below.refl _ _) (Nat.le_refl _) _
          have hB := hL.1.below bB
          have HeB : Hid (Mk1 (wr.alloc (.cells #[.slice (some ⟨Y, 0, none⟩) M c3] 24)) (upN N Y l.length) (X ++ S.F R) (.slice (some ⟨Y, 0, none⟩) M c3)) := he.stp (Stp.below bB)
          have HBB : Hid (Bd (wr.alloc (.cells #[.slice (some ⟨Y, 0, none⟩) M c3] 24)) n1 R (upN N Y l.length) S X) := hB
          have HS1 : Hid (Stp w (wr.alloc (.cells #[.slice (some ⟨Y, 0, none⟩) M c3] 24)) (X ++ S.F R) (X ++ S.F R) N (upN N Y l.length) ∧ Kg.Touch (S.F R) w (wr.alloc (.cells #[.slice (some ⟨Y, 0, none⟩) M c3] 24))) := ⟨hL.2.trans (Stp.below bB), (Kg.Touch.of_below Hb.out _).trans (Kg.Touch.of_below bB _)⟩
          have r1 : wr.cell? ⟨R, 1, none⟩ = some S.v1 := Kg.heap_cell hL.1.r 1
          obtain ⟨ag, cg, eg⟩ := own_slI hL.1.o1
          have hRn : ∀ k, S.v1.ownBlock = some k → k ≠ R := fun k hk e => by
            obtain ⟨c, h3⟩ := own_blk hB.o1 hk
            rw [e, hB.r] at h3
            cases h3
          have Hown : Hid ((wr.alloc (.cells #[.slice (some ⟨Y, 0, none⟩) M c3] 24)).ownsRow n1 24 1 (.slice ag S.E1.length cg) S.E1.length S.E1) := by rw [← eg]; exact hB.o1
          have HRn : Hid (∀ k, S.v1.ownBlock = some k → k ≠ R) := hRn
          have Hel : Hid (S.E1.length ≤ 1000000000) := Nat.le_trans (by unfold RS.tot; omega) HT.out
          have Heg : Hid (S.v1 = .slice ag S.E1.length cg) := eg
          have Hbs : Hid (w.heap.size ≤ wr.heap.size) := Hb.out.size
          rw [eg] at r1
          clear hi1 hk0 hk1 hk2 hY hme hL he bB hB eg hRn Hb
          go_upto_region 11 with (at_builtin; refine wpList_append_own_at _ rfl _ _ 30 rfl n1 24 i1 (.slice none 0 0) 1 24 Tryd.underlying30 HJ.out.1 HJ.out.2.1 HJ.out.2.2.1 HJ.out.2.2.2 rfl (by decide) _ _ _ rfl Hown.out ⟨wr.heap.size, 0, none⟩ 1 1 [.slice (some ⟨Y, 0, none⟩) M c3] rfl rfl (cell_one_new _ _ _) (by simp [Value.oneCell']) (by have := Hel.out; simp [maxLen]; omega) (by have := Hel.out; omega) (by have := Hbs.out; simp; omega) ?_; intro v' w8 hown' hgrow _ hat; obtain ⟨Z, cz, hZ⟩ := Kg.ownsRow_some hown' (Nat.succ_pos _); subst hZ; have Hat : Hid ((Value.slice (some ⟨Z, 0, none⟩) (S.E1.length + 1) cz).ownBlock = S.v1.ownBlock ∨ (Value.slice (some ⟨Z, 0, none⟩) (S.E1.length + 1) cz).ownBlock = some (wr.alloc (.cells #[.slice (some ⟨Y, 0, none⟩) M c3] 24)).heap.size) := (by rw [Heg.out]; exact hat); clear hat; have hblk : w8.heap[R]? = some (.cells (rmc S.v1 S.v2 S.v5 S.v6 S.v7) 37 (0, 0)) := (hgrow.block R (Kg.heap_lt HBB.out.r) (fun e => HRn.out R (by rw [Heg.out]; exact e.symm) rfl)).trans HBB.out.r; have r8 : w8.cell? ⟨R, 1, none⟩ = some S.v1 := Kg.heap_cell hblk 1; have f8 : w8.frozen? ⟨R, 1, none⟩ = false := Kg.heap_frozen hblk 1; clear hblk)
          have t8 : Kg.Touch S.v1.ownBlock.toList (wr.alloc (.cells #[.slice (some ⟨Y, 0, none⟩) M c3] 24)) w8 := Kg.Touch.grown hgrow (fun y hy => by rw [Option.mem_toList, Heg.out]; exact hy)
          have hP := HBB.out.put1 HeB.out hown' t8 Hat.out
          have HP : Hid (Bd (w8.setCell ⟨R, 1, none⟩ (.slice (some ⟨Z, 0, none⟩) (S.E1.length + 1) cz)) n1 R (upN N Y l.length) (S.put1 (.slice (some ⟨Z, 0, none⟩) (S.E1.length + 1) cz) (.slice (some ⟨Y, 0, none⟩) M c3)) X ∧ Stp w (w8.setCell ⟨R, 1, none⟩ (.slice (some ⟨Z, 0, none⟩) (S.E1.length + 1) cz)) (X ++ S.F R) (X ++ (S.put1 (.slice (some ⟨Z, 0, none⟩) (S.E1.length + 1) cz) (.slice (some ⟨Y, 0, none⟩) M c3)).F R) N (upN N Y l.length) ∧ Kg.Touch (S.F R) w (w8.setCell ⟨R, 1, none⟩ (.slice (some ⟨Z, 0, none⟩) (S.E1.length + 1) cz))) := ⟨hP.1, HS1.out.1.trans hP.2.1, HS1.out.2.trans hP.2.2.t⟩
          have HG : Hid (Got (w8.setCell ⟨R, 1, none⟩ (.slice (some ⟨Z, 0, none⟩) (S.E1.length + 1) cz)) (upN N Y l.length) (X ++ (S.put1 (.slice (some ⟨Z, 0, none⟩) (S.E1.length + 1) cz) (.slice (some ⟨Y, 0, none⟩) M c3)).F R) n1 Y .i64 (.slice (some ⟨Y, 0, none⟩) l.length (l.length + 40)) l) := by
            have s2 := (Stp.below (F := X ++ S.F R) (N := upN N Y l.length) (Below.alloc (Below.refl _ _) (Nat.le_refl _) _ : Below wr.heap.size wr (wr.alloc (.cells #[.slice (some ⟨Y, 0, none⟩) M c3] 24)))).trans hP.2.1
            have hYF : Y ∉ X ++ S.F R := fun hm => by have := HBd.out.ltX Y hm; omega
            refine ⟨rfl, Nat.le_trans hn1 hYg, s2.lt hYl, s2.out hYl hYF, by unfold upN; rw [if_pos rfl], fun f z hz => ?_, fun f => by rw [s2.frozen hYl hYF]; exact HYfr.out f⟩
            rw [s2.cell hYl hYF]
            exact Hcel.out f z (by rw [List.getElem?_append_left (List.getElem?_eq_some_iff.1 hz).1]; exact hz)
          have hl2 := HM.out.1
          clear hown' hgrow Hat t8 r8 f8 Hrow r1 HJ Hdl hYg hP HBB HeB HS1 Hown HRn Hel Heg Hcel
          generalize w8.setCell ⟨R, 1, none⟩ (.slice (some ⟨Z, 0, none⟩) (S.E1.length + 1) cz) = w9 at *
          subst hl2
          go_wp2
          go_ret
          exact ⟨_, rfl, _, _, ⟨_, HG.out⟩, HP.out.1, HP.out.2.1, HP.out.2.2, by simp only [RS.tot, RS.put1, List.length_append, List.length_singleton]; omega⟩

end Go.Proofs.YtckgcpoheodbcaaDoor

/-
  Images, lists with room behind them: lists of numbers. (Printed by mkRM2.py.)
-/
set_option linter.unusedVariables false
set_option maxRecDepth 20000
namespace Go.Proofs.YtckgcpoheodbcaaDoor
open Go.RowKit Go.Shelf


theorem info_roomWords : (Tryd.prog.info? 25).map (fun i => (i.zero, i.size, i.bytes)) = some (some (.int .u64 0), 1, 8) := by kernel_rfl
theorem infoS_roomWords : (Tryd.prog.info? 60).map (fun i => (i.zero, i.size, i.bytes)) = some (some (.slice none 0 0), 1, 24) := by kernel_rfl

set_option maxHeartbeats 8000000 in
/-- A copy with room. -/
theorem roomWords_any {w : World} {n1 R : Nat} {N : Nat → Nat} {S : RS} {X : List Nat} (h : Bd w n1 R N S X) (n0 : Nat) (hn : n0 ≤ w.heap.size) (v : Value) (l : List Int) (hv : Lrd n0 w v .u64 l) (hl : l.length ≤ 1073741824) (hT : S.tot ≤ 1000000000) (hn1 : n1 ≤ w.heap.size) :
    Calls Tryd.prog 28 #[.pointer (some ⟨R, 0, none⟩), v] w fun e w' => ∃ u, e = .returned u ∧ RPost n1 R N S X w w' 1 (fun w' N' F' => ∃ b, Got w' N' F' n1 b .u64 u l) := by
  obtain ⟨i0, hi0, hj0, hj1, hj2⟩ := info_parts info_roomWords
  have HI : Hid (Tryd.prog.info? 25 = some i0 ∧ i0.zero = some (.int .u64 0) ∧ i0.size = 1 ∧ i0.bytes = 8) := ⟨hi0, hj0, hj1, hj2⟩
  have HBd : Hid (Bd w n1 R N S X) := h
  have HT : Hid (S.tot ≤ 1000000000) := hT
  obtain ⟨av, cp, rfl, hcp, hc⟩ := hv
  have Hc : Hid (∀ (f : Nat) z, l[f]? = some z → ∃ q off, av = some ⟨q, off, none⟩ ∧ q < n0 ∧ w.cell? ⟨q, off + f, none⟩ = some (.int .u64 z)) := hc
  clear hi0 hj0 hj1 hj2 hc h hT
  go_enter Tryd.func28, Tryd.ntmps28
  go_upto_region 2 with fail
  have Hr0 : Hid ((w.alloc (.cells #[] 25)).ownsRow w.heap.size 25 1 (.slice (some ⟨w.heap.size, 0, none⟩) 0 0) (l.take 0).length ((l.take 0).map (Value.int .u64))) := ⟨by simp, .inr ⟨_, 0, #[], rfl, Nat.le_refl _, heap_alloc_new w _, by simp, by simp [maxLen], by simp, by simp⟩⟩
  have Hb0 : Hid (Below w.heap.size w (w.alloc (.cells #[] 25))) := Below.alloc (Below.refl _ _) (Nat.le_refl _) _
  obtain ⟨v0, hv0⟩ : ∃ v0, v0 = Value.slice (some ⟨w.heap.size, 0, none⟩) 0 0 := ⟨_, rfl⟩
  rw [← hv0] at Hr0 ⊢
  clear hv0
  generalize w.alloc (.cells #[] 25) = w0 at *
  go_wp2
  go_loopw [5, 6] (fun v5 v6 wr => ∃ k : Nat, k ≤ l.length ∧ v6 = .int .i64 k ∧ Hid (wr.ownsRow w.heap.size 25 1 v5 (l.take k).length ((l.take k).map (Value.int .u64))) ∧ Hid (Below w.heap.size w wr)) (fun _ v6 _ => l.length - (intOf v6).toNat)
  case atStart => exact ⟨0, Nat.zero_le _, rfl, Hr0, Hb0⟩
  case round =>
    obtain ⟨k, hk, rfl, Hl, Hb⟩ := hrel
    clear Hr0 Hb0
    obtain ⟨al, cl, hvl⟩ := own_slI Hl.out
    subst hvl
    by_cases hkl : k < l.length
    · have hkI : (k : Int) < (l.length : Int) := by omega
      have hak : l[k]? = some (l[k]'hkl) := List.getElem?_eq_getElem hkl
      generalize l[k]'hkl = a at hak
      have Htk : Hid (l.take (k + 1) = l.take k ++ [a]) := take_snocL hak
      obtain ⟨q, off, rfl, hq, ca⟩ := Hc.out k a hak
      have ca' : wr.cell? ⟨q, off + k, none⟩ = some (.int .u64 a) := (Hb.out.cell (p := ⟨q, off + k, none⟩) (Nat.lt_of_lt_of_le hq hn)).trans ca
      have Hdl : Hid ((l.take k).length ≤ 1073741824) := by
        have h3 := List.length_take_le k l
        show _ ≤ _
        omega
      clear ca hak
      go_wp2_with (at_builtin; refine wpList_append_own_at _ rfl _ _ 60 rfl w.heap.size 25 i0 (.int .u64 0) 1 8 Tryd.underlying60 HI.out.1 HI.out.2.1 HI.out.2.2.1 HI.out.2.2.2 rfl (by decide) _ _ _ rfl (Hl.out.alloc _) ⟨wr.heap.size, 0, none⟩ 1 1 [.int .u64 a] rfl rfl (cell_one_new _ _ _) (by simp [Value.oneCell']) (by have := Hdl.out; simp [maxLen]; omega) (by have := Hdl.out; omega) (by have := Hb.out.size; simp; omega) ?_; intro v' w8 hown' hgrow _ hat)
      have t8 : Kg.Touch (Value.slice al (l.take k).length cl).ownBlock.toList wr w8 := ⟨hgrow.os, hgrow.tape, hgrow.output, by have := hgrow.size; simp at this; omega, fun k hk hn => (hgrow.block k (by simp; omega) (fun e => hn (by rw [Option.mem_toList]; exact e.symm))).trans (Below.heap_alloc _ _ _ hk)⟩
      have Hl8 : Hid (w8.ownsRow w.heap.size 25 1 v' (l.take (k + 1)).length ((l.take (k + 1)).map (Value.int .u64))) := by
        show w8.ownsRow _ _ _ _ _ _
        rw [Htk.out]
        simpa using hown'
      have Hb8 : Hid (Below w.heap.size w w8) := Hb.out.trans (t8.below Hb.out.size (fun y hy => by rw [Option.mem_toList] at hy; exact (Hl.out.lt y hy).1))
      obtain ⟨a9, c9, hv9⟩ := own_slI Hl8.out
      subst hv9
      clear hown' hgrow hat t8 Hl Hb ca'
      go_roundw
      case rel => exact ⟨k + 1, by omega, by go_num, Hl8, Hb8⟩
      case measure => simp [intOf]; omega
    · have hke : k = l.length := by omega
      have hkn : ¬ (k : Int) < (l.length : Int) := by omega
      have Hl0 : Hid (wr.ownsRow w.heap.size 25 1 (.slice al k cl) (l ++ mku (2 * 0)).length ((l ++ mku (2 * 0)).map (Value.int .u64))) := by
        have := Hl.out
        have e : l ++ mku (2 * 0) = l := by simp [mku]
        rw [e]
        rw [hke, List.take_length] at this
        rw [hke]
        exact this
      have Hb0 : Hid (Below w.heap.size w wr) := Hb.out
      clear Hl Hb hke
      go_wp2
      go_loopw [5, 7] (fun v5 v7 w3 => ∃ m : Nat, m ≤ 20 ∧ v7 = .int .i64 (2 * (m : Int)) ∧ Hid (w3.ownsRow w.heap.size 25 1 v5 (l ++ mku (2 * m)).length ((l ++ mku (2 * m)).map (Value.int .u64))) ∧ Hid (Below w.heap.size w w3)) (fun _ v7 _ => 40 - (intOf v7).toNat)
      case atStart => exact ⟨0, Nat.zero_le _, rfl, Hl0, Hb0⟩
      case round =>
        obtain ⟨m, hm, rfl, Hl, Hb⟩ := hrel
        clear Hl0 Hb0
        obtain ⟨al2, cl2, hvl⟩ := own_slI Hl.out
        subst hvl
        have Hdl : Hid ((l ++ mku (2 * m)).length ≤ 1073741824 + 40) := by
          show _ ≤ _
          rw [List.length_append, mku_len]
          omega
        by_cases hml : m < 20
        · have hmI : 2 * (m : Int) < 40 := by omega
          obtain ⟨M, hM⟩ : ∃ M, M = (l ++ mku (2 * m)).length := ⟨_, rfl⟩
          rw [← hM] at Hl Hdl ⊢
          have HM : Hid (M = (l ++ mku (2 * m)).length) := hM
          clear hM
          go_wp2_with (at_builtin; refine wpList_append_own_at _ rfl _ _ 60 rfl w.heap.size 25 i0 (.int .u64 0) 1 8 Tryd.underlying60 HI.out.1 HI.out.2.1 HI.out.2.2.1 HI.out.2.2.2 rfl (by decide) _ _ _ rfl (Hl.out.alloc _) ⟨wr.heap.size, 0, none⟩ 2 2 [.int .u64 7701, .int .u64 7702] rfl rfl (cell_two_new _ _ _ _) (by simp [Value.oneCell']) (by have := Hdl.out; simp [maxLen]; omega) (by have := Hdl.out; omega) (by have := Hb.out.size; simp; omega) ?_; intro v' w8 hown' hgrow _ hat)
          have t8 : Kg.Touch (Value.slice al2 M cl2).ownBlock.toList wr w8 := ⟨hgrow.os, hgrow.tape, hgrow.output, by have := hgrow.size; simp at this; omega, fun k hk hn => (hgrow.block k (by simp; omega) (fun e => hn (by rw [Option.mem_toList]; exact e.symm))).trans (Below.heap_alloc _ _ _ hk)⟩
          have Hl8 : Hid (w8.ownsRow w.heap.size 25 1 v' (l ++ mku (2 * (m + 1))).length ((l ++ mku (2 * (m + 1))).map (Value.int .u64))) := by
            show w8.ownsRow _ _ _ _ _ _
            have e1 : l ++ mku (2 * (m + 1)) = (l ++ mku (2 * m)) ++ [7701, 7702] := by rw [show 2 * (m + 1) = 2 * m + 2 by omega, mku_two, List.append_assoc]
            have e2 : (l ++ mku (2 * (m + 1))).length = M + 2 := by rw [e1, List.length_append, HM.out]; rfl
            rw [e2, e1, List.map_append]
            exact hown'
          have Hb8 : Hid (Below w.heap.size w w8) := Hb.out.trans (t8.below Hb.out.size (fun y hy => by rw [Option.mem_toList] at hy; exact (Hl.out.lt y hy).1))
          exact ⟨⟨m + 1, by omega, by congr 1, Hl8, Hb8⟩, by simp [intOf]; omega⟩
        · have hme : m = 20 := by omega
          have hmI : ¬ 2 * (m : Int) < 40 := by omega
          obtain ⟨M, hM⟩ : ∃ M, M = (l ++ mku (2 * m)).length := ⟨_, rfl⟩
          have HM : Hid (M = l.length + 40 ∧ l.length ≤ 1073741824) := by
            show _ ∧ _
            rw [hM, hme, List.length_append, mku_len]
            omega
          have Hrow : Hid (wr.ownsRow w.heap.size 25 1 (.slice al2 M cl2) M ((l ++ mku 40).map (Value.int .u64))) := by
            have := Hl.out
            rw [← hM, hme] at this
            exact this
          rw [← hM] at Hdl ⊢
          clear hM Hl
          obtain ⟨Y, c3, hY⟩ := Kg.ownsRow_some Hrow.out (by have := HM.out; omega)
          rw [hY] at Hrow ⊢
          obtain ⟨i1, hi1, hk0, hk1, hk2⟩ := info_parts infoS_roomWords
          have HJ : Hid (Tryd.prog.info? 60 = some i1 ∧ i1.zero = some (.slice none 0 0) ∧ i1.size = 1 ∧ i1.bytes = 24) := ⟨hi1, hk0, hk1, hk2⟩
          have hYl : Y < wr.heap.size := (Hrow.out.lt Y rfl).2
          have hYg : w.heap.size ≤ Y := (Hrow.out.lt Y rfl).1
          have hcap : M ≤ c3 := own_cap Hrow.out
          have hL := HBd.out.laid (N' := upN N Y l.length) Hb.out (fun k hk => by unfold upN; rw [if_neg (by omega)]) (fun k hk => by unfold upN; rw [if_neg (by omega)]; exact HBd.out.d k (Nat.le_trans Hb.out.size hk))
          have Hcel : Hid (∀ (j : Nat) z, (l ++ mku 40)[j]? = some z → wr.cell? ⟨Y, j, none⟩ = some (.int .u64 z)) := fun j z hz => by
            have h9 := Hrow.out.cells (g := Y) rfl j (.int .u64 z) (by rw [List.getElem?_map, hz]; rfl)
            rw [Addr.add_lit, Nat.zero_add] at h9
            exact h9
          have HYfr : Hid (∀ f, wr.frozen? ⟨Y, f, none⟩ = false) := fun f => by
            obtain ⟨cur, h9⟩ := own_blk Hrow.out (k := Y) rfl
            exact Kg.heap_frozen h9 f
          have he : Mk2 wr (upN N Y l.length) (X ++ S.F R) (.slice (some ⟨Y, 0, none⟩) M c3) := by
            have hNY : upN N Y l.length Y = l.length := by unfold upN; rw [if_pos rfl]
            refine ⟨Y, c3, by rw [hNY, HM.out.1], fun hm => by have := HBd.out.ltX Y hm; omega, hYl, by rw [hNY]; omega, fun j hj => ?_⟩
            rw [hNY]
            exact Hcel.out (l.length + j) _ (by rw [List.getElem?_append_right (by omega), Nat.add_sub_cancel_left]; exact mku_at 40 j hj)
          have bB : Below wr.heap.size wr (wr.alloc (.cells #[.slice (some ⟨Y, 0, none⟩) M c3] 60)) := Below.alloc (Below.refl _ _) (Nat.le_refl _) _
          have hB := hL.1.below bB
          have HeB : Hid (Mk2 (wr.alloc (.cells #[.slice (some ⟨Y, 0, none⟩) M c3] 60)) (upN N Y l.length) (X ++ S.F R) (.slice (some ⟨Y, 0, none⟩) M c3)) := he.stp (Stp.below bB)
          have HBB : Hid (Bd (wr.alloc (.cells #[.slice (some ⟨Y, 0, none⟩) M c3] 60)) n1 R (upN N Y l.length) S X) := hB
          have HS1 : Hid (Stp w (wr.alloc (.cells #[.slice (some ⟨Y, 0, none⟩) M c3] 60)) (X ++ S.F R) (X ++ S.F R) N (upN N Y l.length) ∧ Kg.Touch (S.F R) w (wr.alloc (.cells #[.slice (some ⟨Y, 0, none⟩) M c3] 60))) := ⟨hL.2.trans (Stp.below bB), (Kg.Touch.of_below Hb.out _).trans (Kg.Touch.of_below bB _)⟩
          have r1 : wr.cell? ⟨R, 2, none⟩ = some S.v2 := Kg.heap_cell hL.1.r 2
          obtain ⟨ag, cg, eg⟩ := own_slI hL.1.o2
          have hRn : ∀ k, S.v2.ownBlock = some k → k ≠ R := fun k hk e => by
            obtain ⟨c, h3⟩ := own_blk hB.o2 hk
            rw [e, hB.r] at h3
            cases h3
          have Hown : Hid ((wr.alloc (.cells #[.slice (some ⟨Y, 0, none⟩) M c3] 60)).ownsRow n1 60 1 (.slice ag S.E2.length cg) S.E2.length S.E2) := by rw [← eg]; exact hB.o2
          have HRn : Hid (∀ k, S.v2.ownBlock = some k → k ≠ R) := hRn
          have Hel : Hid (S.E2.length ≤ 1000000000) := Nat.le_trans (by unfold RS.tot; omega) HT.out
          have Heg : Hid (S.v2 = .slice ag S.E2.length cg) := eg
          have Hbs : Hid (w.heap.size ≤ wr.heap.size) := Hb.out.size
          rw [eg] at r1
          clear hi1 hk0 hk1 hk2 hY hme hL he bB hB eg hRn Hb
          go_upto_region 11 with (at_builtin; refine wpList_append_own_at _ rfl _ _ 31 rfl n1 60 i1 (.slice none 0 0) 1 24 Tryd.underlying31 HJ.out.1 HJ.out.2.1 HJ.out.2.2.1 HJ.out.2.2.2 rfl (by decide) _ _ _ rfl Hown.out ⟨wr.heap.size, 0, none⟩ 1 1 [.slice (some ⟨Y, 0, none⟩) M c3] rfl rfl (cell_one_new _ _ _) (by simp [Value.oneCell']) (by have := Hel.out; simp [maxLen]; omega) (by have := Hel.out; omega) (by have := Hbs.out; simp; omega) ?_; intro v' w8 hown' hgrow _ hat; obtain ⟨Z, cz, hZ⟩ := Kg.ownsRow_some hown' (Nat.succ_pos _); subst hZ; have Hat : Hid ((Value.slice (some ⟨Z, 0, none⟩) (S.E2.length + 1) cz).ownBlock = S.v2.ownBlock ∨ (Value.slice (some ⟨Z, 0, none⟩) (S.E2.length + 1) cz).ownBlock = some (wr.alloc (.cells #[.slice (some ⟨Y, 0, none⟩) M c3] 60)).heap.size) := (by rw [Heg.out]; exact hat); clear hat; have hblk : w8.heap[R]? = some (.cells (rmc S.v1 S.v2 S.v5 S.v6 S.v7) 37 (0, 0)) := (hgrow.block R (Kg.heap_lt HBB.out.r) (fun e => HRn.out R (by rw [Heg.out]; exact e.symm) rfl)).trans HBB.out.r; have r8 : w8.cell? ⟨R, 2, none⟩ = some S.v2 := Kg.heap_cell hblk 2; have f8 : w8.frozen? ⟨R, 2, none⟩ = false := Kg.heap_frozen hblk 2; clear hblk)
          have t8 : Kg.Touch S.v2.ownBlock.toList (wr.alloc (.cells #[.slice (some ⟨Y, 0, none⟩) M c3] 60)) w8 := Kg.Touch.grown hgrow (fun y hy => by rw [Option.mem_toList, Heg.out]; exact hy)
          have hP := HBB.out.put2 HeB.out hown' t8 Hat.out
          have HP : Hid (Bd (w8.setCell ⟨R, 2, none⟩ (.slice (some ⟨Z, 0, none⟩) (S.E2.length + 1) cz)) n1 R (upN N Y l.length) (S.put2 (.slice (some ⟨Z, 0, none⟩) (S.E2.length + 1) cz) (.slice (some ⟨Y, 0, none⟩) M c3)) X ∧ Stp w (w8.setCell ⟨R, 2, none⟩ (.slice (some ⟨Z, 0, none⟩) (S.E2.length + 1) cz)) (X ++ S.F R) (X ++ (S.put2 (.slice (some ⟨Z, 0, none⟩) (S.E2.length + 1) cz) (.slice (some ⟨Y, 0, none⟩) M c3)).F R) N (upN N Y l.length) ∧ Kg.Touch (S.F R) w (w8.setCell ⟨R, 2, none⟩ (.slice (some ⟨Z, 0, none⟩) (S.E2.length + 1) cz))) := ⟨hP.1, HS1.out.1.trans hP.2.1, HS1.out.2.trans hP.2.2.t⟩
          have HG : Hid (Got (w8.setCell ⟨R, 2, none⟩ (.slice (some ⟨Z, 0, none⟩) (S.E2.length + 1) cz)) (upN N Y l.length) (X ++ (S.put2 (.slice (some ⟨Z, 0, none⟩) (S.E2.length + 1) cz) (.slice (some ⟨Y, 0, none⟩) M c3)).F R) n1 Y .u64 (.slice (some ⟨Y, 0, none⟩) l.length (l.length + 40)) l) := by
            have s2 := (Stp.below (F := X ++ S.F R) (N := upN N Y l.length) (Below.alloc (Below.refl _ _) (Nat.le_refl _) _ : Below wr.heap.size wr (wr.alloc (.cells #[.slice (some ⟨Y, 0, none⟩) M c3] 60)))).trans hP.2.1
            have hYF : Y ∉ X ++ S.F R := fun hm => by have := HBd.out.ltX Y hm; omega
            refine ⟨rfl, Nat.le_trans hn1 hYg, s2.lt hYl, s2.out hYl hYF, by unfold upN; rw [if_pos rfl], fun f z hz => ?_, fun f => by rw [s2.frozen hYl hYF]; exact HYfr.out f⟩
            rw [s2.cell hYl hYF]
            exact Hcel.out f z (by rw [List.getElem?_append_left (List.getElem?_eq_some_iff.1 hz).1]; exact hz)
          have hl2 := HM.out.1
          clear hown' hgrow Hat t8 r8 f8 Hrow r1 HJ Hdl hYg hP HBB HeB HS1 Hown HRn Hel Heg Hcel
          generalize w8.setCell ⟨R, 2, none⟩ (.slice (some ⟨Z, 0, none⟩) (S.E2.length + 1) cz) = w9 at *
          subst hl2
          go_wp2
          go_ret
          exact ⟨_, rfl, _, _, ⟨_, HG.out⟩, HP.out.1, HP.out.2.1, HP.out.2.2, by simp only [RS.tot, RS.put2, List.length_append, List.length_singleton]; omega⟩

end Go.Proofs.YtckgcpoheodbcaaDoor

/-
  Images, lists with room behind them: a list of lists while it is made.
-/
set_option linter.unusedVariables false
set_option maxRecDepth 20000
namespace Go.Proofs.YtckgcpoheodbcaaDoor
open Go.RowKit Go.Shelf

/-- It stays from one world to the next. -/
def Sta {α : Type} (P : World → (Nat → Nat) → List Nat → Value → α → Prop) : Prop :=
  ∀ w w' F F' N N' v a, P w N F v a → Stp w w' F F' N N' → P w' N' F' v a

/-- A list of things in a block of its own. -/
structure GotS {α : Type} (P : World → (Nat → Nat) → List Nat → Value → α → Prop) (w : World) (N : Nat → Nat) (F : List Nat) (lo b : Nat) (v : Value) (fs : List (Value × α)) : Prop where
  is : v = .slice (some ⟨b, 0, none⟩) fs.length (fs.length + 8)
  lo : lo ≤ b
  lt : b < w.heap.size
  f : b ∉ F
  n : N b = fs.length
  c : ∀ (i : Nat) x, fs[i]? = some x → w.cell? ⟨b, i, none⟩ = some x.1 ∧ P w N F x.1 x.2

theorem GotS.stp {α : Type} {P : World → (Nat → Nat) → List Nat → Value → α → Prop} (hP : Sta P) {w w' : World} {N N' : Nat → Nat} {F F' : List Nat} {lo b : Nat} {v : Value} {fs : List (Value × α)} (h : GotS P w N F lo b v fs) (s : Stp w w' F F' N N') : GotS P w' N' F' lo b v fs :=
  ⟨h.is, h.lo, s.lt h.lt, s.out h.lt h.f, by rw [s.n b h.lt h.f]; exact h.n, fun i x hx => ⟨by rw [s.cell h.lt h.f]; exact (h.c i x hx).1, hP _ _ _ _ _ _ _ _ (h.c i x hx).2 s⟩⟩

/-- A list of numbers; a list of such lists. -/
def PI (lo : Nat) (w : World) (N : Nat → Nat) (F : List Nat) (v : Value) (xs : List Int) : Prop := ∃ b, Got w N F lo b .i64 v xs
theorem PI.sta (lo : Nat) : Sta (PI lo) := fun _ _ _ _ _ _ _ _ ⟨b, h⟩ s => ⟨b, h.stp s⟩
def PL (lo : Nat) (w : World) (N : Nat → Nat) (F : List Nat) (v : Value) (fs : List (Value × List Int)) : Prop := ∃ b, GotS (PI lo) w N F lo b v fs
theorem PL.sta (lo : Nat) : Sta (PL lo) := fun _ _ _ _ _ _ _ _ ⟨b, h⟩ s => ⟨b, h.stp (PI.sta lo) s⟩

def Ql (w : World) (N : Nat → Nat) (F : List Nat) (v : Value) (j : Nat) : Prop := Ml w N F j v
theorem Ql.sta : Sta Ql := fun _ _ _ _ _ _ _ _ h s => h.stp s
def Qm (w : World) (N : Nat → Nat) (F : List Nat) (v : Value) (j : Nat) : Prop := Mm w N F j v
theorem Qm.sta : Sta Qm := fun _ _ _ _ _ _ _ _ h s => h.stp s

/-- A list of things while it is made: those that are there (L), then marks (ms). -/
structure Inp {α : Type} (P : World → (Nat → Nat) → List Nat → Value → α → Prop) (Q : World → (Nat → Nat) → List Nat → Value → Nat → Prop) (el : Nat) (w0 w : World) (n1 R : Nat) (N0 N : Nat → Nat) (S0 S : RS) (X : List Nat) (v : Value) (L : List (Value × α)) (ms : List Value) : Prop where
  row : w.ownsRow w0.heap.size el 1 v (L.length + ms.length) (L.map (·.1) ++ ms)
  bd : Bd w n1 R N S (v.ownBlock.toList ++ X)
  st : Stp w0 w (X ++ S0.F R) ((v.ownBlock.toList ++ X) ++ S.F R) N0 N
  tc : Kg.Touch (S0.F R) w0 w
  p : ∀ x, x ∈ L → P w N ((v.ownBlock.toList ++ X) ++ S.F R) x.1 x.2
  q : ∀ (j : Nat) u, ms[j]? = some u → Q w N ((v.ownBlock.toList ++ X) ++ S.F R) u j

section
variable {α : Type} {P : World → (Nat → Nat) → List Nat → Value → α → Prop} {Q : World → (Nat → Nat) → List Nat → Value → Nat → Prop} {el : Nat} {w0 w w' : World} {n1 R : Nat} {N0 N N' : Nat → Nat} {S0 S S' : RS} {X : List Nat} {v : Value} {L : List (Value × α)} {ms : List Value}

theorem Inp.start (h : Bd w0 n1 R N0 S0 X) : Inp P Q el w0 (w0.alloc (.cells #[] el)) n1 R N0 N0 S0 S0 X (.slice (some ⟨w0.heap.size, 0, none⟩) 0 0) ([] : List (Value × α)) [] := by
  have b : Below w0.heap.size w0 (w0.alloc (.cells #[] el)) := Below.alloc (Below.refl _ _) (Nat.le_refl _) _
  have hsz : (w0.alloc (.cells #[] el)).heap.size = w0.heap.size + 1 := by simp
  have hm := h.move (N' := N0) (X' := [w0.heap.size] ++ X) (Kg.Touch.of_below b X) (fun k hk => by
    rcases List.mem_append.1 hk with h1 | h1
    · simp at h1; exact ⟨by omega, .inr (by omega)⟩
    · exact ⟨Nat.lt_of_lt_of_le (h.x k h1).1 b.size, .inl h1⟩) (fun _ _ _ => rfl) (fun k hk => h.d k (Nat.le_trans b.size hk)) (fun k hk => by
    rcases List.mem_append.1 hk with h1 | h1
    · simp at h1; exact h.d k (by omega)
    · exact h.z k (List.mem_append_left _ h1))
  exact ⟨⟨by simp, .inr ⟨_, 0, #[], rfl, Nat.le_refl _, heap_alloc_new w0 _, by simp, by simp [maxLen], by simp, by simp⟩⟩, hm.1, hm.2, Kg.Touch.of_below b _, fun x hx => by simp at hx, fun j u hu => by simp at hu⟩

/-- A call that makes other lists. -/
theorem Inp.sub (hP : Sta P) (hQ : Sta Q) (h : Inp P Q el w0 w n1 R N0 N S0 S X v L ms) {d : Nat} {G : World → (Nat → Nat) → List Nat → Prop} (k : RPost n1 R N S (v.ownBlock.toList ++ X) w w' d G) :
    ∃ N' S', Inp P Q el w0 w' n1 R N0 N' S0 S' X v L ms ∧ G w' N' ((v.ownBlock.toList ++ X) ++ S'.F R) ∧ S'.tot = S.tot + d := by
  obtain ⟨N', S', h1, h2, h3, h4, h5⟩ := k
  refine ⟨N', S', ⟨Kg.row_keep2 h.row h4 (fun q hq => (h.bd.x q (List.mem_append_left _ (by rw [Option.mem_toList]; exact hq))).2), h2, h.st.trans h3, h.tc.then h4 (fun q hq => ?_), fun x hx => hP _ _ _ _ _ _ _ _ (h.p x hx) h3, fun j u hu => hQ _ _ _ _ _ _ _ _ (h.q j u hu) h3⟩, h1, h5⟩
  rcases h.st.f q (List.mem_append_right _ hq) with h6 | h6
  · rcases List.mem_append.1 h6 with h7 | h7
    · exact absurd hq (h.bd.x q (List.mem_append_right _ h7)).2
    · exact .inl h7
  · exact .inr h6

/-- Blocks that are laid. -/
theorem Inp.below (hP : Sta P) (hQ : Sta Q) (h : Inp P Q el w0 w n1 R N0 N S0 S X v L ms) (b : Below w.heap.size w w') : Inp P Q el w0 w' n1 R N0 N S0 S X v L ms := by
  have s := (h.bd.laid b (fun _ _ => rfl) (fun k hk => h.bd.d k (Nat.le_trans b.size hk))).2
  exact ⟨Kg.row_keep2 h.row (Kg.Touch.of_below b []) (fun _ _ => by simp), h.bd.below b, h.st.trans s, h.tc.trans (Kg.Touch.of_below b _), fun x hx => hP _ _ _ _ _ _ _ _ (h.p x hx) s, fun j u hu => hQ _ _ _ _ _ _ _ _ (h.q j u hu) s⟩

/-- Something is laid behind it. -/
theorem Inp.grow (hP : Sta P) (hQ : Sta Q) (h : Inp P Q el w0 w n1 R N0 N S0 S X v L ms) {v' : Value} {L' : List (Value × α)} {ms' : List Value} (t : Kg.Touch v.ownBlock.toList w w') (hat : v'.ownBlock = v.ownBlock ∨ v'.ownBlock = some w.heap.size) (hrow : w'.ownsRow w0.heap.size el 1 v' (L'.length + ms'.length) (L'.map (·.1) ++ ms'))
    (hL : ∀ x, x ∈ L' → x ∈ L ∨ P w N ((v.ownBlock.toList ++ X) ++ S.F R) x.1 x.2) (hms : ∀ (j : Nat) u, ms'[j]? = some u → ms[j]? = some u ∨ Q w N ((v.ownBlock.toList ++ X) ++ S.F R) u j) : Inp P Q el w0 w' n1 R N0 N S0 S X v' L' ms' := by
  have hm := h.bd.move (N' := N) (X' := v'.ownBlock.toList ++ X) (t.mono (fun k hk => .inl (List.mem_append_left _ hk))) (fun k hk => by
    rcases List.mem_append.1 hk with h1 | h1
    · rw [Option.mem_toList] at h1
      refine ⟨(hrow.lt k h1).2, ?_⟩
      rcases hat with e | e
      · exact .inl (List.mem_append_left _ (by rw [Option.mem_toList, ← e]; exact h1))
      · rw [e] at h1
        exact .inr (Nat.le_of_eq (Option.some.inj h1))
    · exact ⟨Nat.lt_of_lt_of_le (h.bd.x k (List.mem_append_right _ h1)).1 t.size, .inl (List.mem_append_right _ h1)⟩) (fun _ _ _ => rfl) (fun k hk => h.bd.d k (Nat.le_trans t.size hk)) (fun k hk => by
    rcases List.mem_append.1 hk with h1 | h1
    · rw [Option.mem_toList] at h1
      rcases hat with e | e
      · exact h.bd.z k (List.mem_append_left _ (List.mem_append_left _ (by rw [Option.mem_toList, ← e]; exact h1)))
      · rw [e] at h1
        exact h.bd.d k (Nat.le_of_eq (Option.some.inj h1))
    · exact h.bd.z k (List.mem_append_left _ (List.mem_append_right _ h1)))
  refine ⟨hrow, hm.1, h.st.trans hm.2, h.tc.then t (fun q hq => ?_), fun x hx => ?_, fun j u hu => ?_⟩
  · rw [Option.mem_toList] at hq
    exact .inr (h.row.lt q hq).1
  · rcases hL x hx with h1 | h1
    · exact hP _ _ _ _ _ _ _ _ (h.p x h1) hm.2
    · exact hP _ _ _ _ _ _ _ _ h1 hm.2
  · rcases hms j u hu with h1 | h1
    · exact hQ _ _ _ _ _ _ _ _ (h.q j u h1) hm.2
    · exact hQ _ _ _ _ _ _ _ _ h1 hm.2

/-- It is whole. -/
theorem Inp.fin (hP : Sta P) (hQ : Sta Q) {b c : Nat} (h : Inp P Q el w0 w n1 R N0 N S0 S X (.slice (some ⟨b, 0, none⟩) (L.length + 8) c) L ms) (h8 : ms.length = 8) (hX : b ∉ X) (hn1 : n1 ≤ w0.heap.size) :
    Bd w n1 R (upN N b L.length) S X ∧ Stp w0 w (X ++ S0.F R) (X ++ S.F R) N0 (upN N b L.length) ∧ b < w.heap.size ∧ b ∉ X ++ S.F R ∧ n1 ≤ b ∧ upN N b L.length b = L.length ∧
      (∀ (i : Nat) x, L[i]? = some x → w.cell? ⟨b, i, none⟩ = some x.1 ∧ P w (upN N b L.length) (X ++ S.F R) x.1 x.2) ∧ (∀ j, j < 8 → ∃ u, w.cell? ⟨b, L.length + j, none⟩ = some u ∧ Q w (upN N b L.length) (X ++ S.F R) u j) := by
  have hb : (Value.slice (some ⟨b, 0, none⟩) (L.length + 8) c).ownBlock = some b := rfl
  have hbl := h.row.lt b hb
  have hbF : b ∉ S.F R := (h.bd.x b (List.mem_append_left _ (by rw [Option.mem_toList]; exact hb))).2
  have hm := h.bd.move (N' := upN N b L.length) (X' := X) (Kg.Touch.refl _ _) (fun k hk => ⟨(h.bd.x k (List.mem_append_right _ hk)).1, .inl (List.mem_append_right _ hk)⟩) (fun k hk hx => by
    unfold upN
    rw [if_neg (fun (e : k = b) => hx (List.mem_append_left _ (by rw [e]; simp [Value.ownBlock])))]) (fun k hk => by
    unfold upN
    rw [if_neg (by omega)]
    exact h.bd.d k hk) (fun k hk => by
    unfold upN
    rw [if_neg (fun (e : k = b) => hX (e ▸ hk))]
    exact h.bd.z k (List.mem_append_left _ (List.mem_append_right _ hk)))
  have hc : ∀ (j : Nat) u, (L.map (·.1) ++ ms)[j]? = some u → w.cell? ⟨b, j, none⟩ = some u := fun j u hu => by
    have h9 := h.row.cells (g := b) rfl j u hu
    rw [Addr.add_lit, Nat.zero_add] at h9
    exact h9
  refine ⟨hm.1, h.st.trans hm.2, hbl.2, fun hmem => (List.mem_append.1 hmem).elim hX hbF, Nat.le_trans hn1 hbl.1, by unfold upN; rw [if_pos rfl], fun i x hx => ⟨hc i x.1 ?_, hP _ _ _ _ _ _ _ _ (h.p x (List.mem_of_getElem? hx)) hm.2⟩, fun j hj => ?_⟩
  · rw [List.getElem?_append_left (by rw [List.length_map]; exact (List.getElem?_eq_some_iff.1 hx).1), List.getElem?_map, hx]
    rfl
  · have hu : ms[j]? = some (ms[j]'(by omega)) := List.getElem?_eq_getElem (by omega)
    refine ⟨_, hc (L.length + j) _ ?_, hQ _ _ _ _ _ _ _ _ (h.q j _ hu) hm.2⟩
    rw [List.getElem?_append_right (by rw [List.length_map]; omega), List.length_map, Nat.add_sub_cancel_left]
    exact hu

end

end Go.Proofs.YtckgcpoheodbcaaDoor

