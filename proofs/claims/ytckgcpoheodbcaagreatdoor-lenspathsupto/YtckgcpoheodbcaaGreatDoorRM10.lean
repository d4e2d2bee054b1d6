/-
  Images, a room as it is read; what stays.
-/
import Derived.Test.YtckgcpoheodbcaaGreatDoorRM9
set_option linter.unusedVariables false
set_option maxRecDepth 20000
namespace Go.Proofs.YtckgcpoheodbcaaGreatDoor
open Go.RowKit Go.Shelf

set_option maxHeartbeats 2000000 in
theorem roomHB_nil {w : World} {R : Nat} (h : w.cell? ⟨R, 0, none⟩ = some (.slice none 0 0)) :
    Calls Tryz.prog 25 #[.pointer (some ⟨R, 0, none⟩)] w fun e w' => e = .returned (.bool true) ∧ Below w.heap.size w w' := by
  have hR := World.block_lt_of_cell? _ _ h
  simp only at hR
  go_enter Tryz.func25, Tryz.ntmps25
  go_wp2
  refine wp_loop_rounds 1 ?_
  rw [rounds_succ]
  go_wp2
  go_returns
  exact ⟨rfl, by go_grown⟩

set_option maxHeartbeats 2000000 in
theorem roomHT_nil {w : World} {R : Nat} (h : w.cell? ⟨R, 3, none⟩ = some (.slice none 0 0)) :
    Calls Tryz.prog 28 #[.pointer (some ⟨R, 0, none⟩)] w fun e w' => e = .returned (.bool true) ∧ Below w.heap.size w w' := by
  have hR := World.block_lt_of_cell? _ _ h
  simp only at hR
  go_enter Tryz.func28, Tryz.ntmps28
  go_wp2
  refine wp_loop_rounds 1 ?_
  rw [rounds_succ]
  go_wp2
  go_returns
  exact ⟨rfl, by go_grown⟩

set_option maxHeartbeats 2000000 in
theorem roomHO_nil {w : World} {R : Nat} (h : w.cell? ⟨R, 4, none⟩ = some (.slice none 0 0)) :
    Calls Tryz.prog 29 #[.pointer (some ⟨R, 0, none⟩)] w fun e w' => e = .returned (.bool true) ∧ Below w.heap.size w w' := by
  have hR := World.block_lt_of_cell? _ _ h
  simp only at hR
  go_enter Tryz.func29, Tryz.ntmps29
  go_wp2
  refine wp_loop_rounds 1 ?_
  rw [rounds_succ]
  go_wp2
  go_returns
  exact ⟨rfl, by go_grown⟩

/-- A room's list of lists as it is read. -/
def Rw (w : World) (N : Nat → Nat) (E : List Value) (v : Value) : Prop :=
  ∃ a cap, v = .slice a E.length cap ∧ ∀ (i : Nat) u, E[i]? = some u → ∃ g, a = some ⟨g, 0, none⟩ ∧ g < w.heap.size ∧ N g = 0 ∧ w.cell? ⟨g, i, none⟩ = some u

/-- A room as it is read. -/
structure Rg (w : World) (R : Nat) (N : Nat → Nat) (S : RS) : Prop where
  l : R < w.heap.size
  z : N R = 0
  c : ∀ j, j < 8 → w.cell? ⟨R, j, none⟩ = (rmc S.v1 S.v2 S.v5 S.v6 S.v7)[j]?
  w1 : Rw w N S.E1 S.v1
  w2 : Rw w N S.E2 S.v2
  w5 : Rw w N S.E5 S.v5
  w6 : Rw w N S.E6 S.v6
  w7 : Rw w N S.E7 S.v7
  m1 : ∀ v, v ∈ S.E1 → Mk1 w N [] v
  m2 : ∀ v, v ∈ S.E2 → Mk2 w N [] v
  m5 : ∀ v, v ∈ S.E5 → Mk5 w N [] v
  m6 : ∀ v, v ∈ S.E6 → Mk6 w N [] v
  m7 : ∀ v, v ∈ S.E7 → Mk7 w N [] v
  t : S.tot ≤ 1000000000

theorem rw_of {w : World} {N : Nat → Nat} {n1 e : Nat} {v : Value} {E : List Value} (h : w.ownsRow n1 e 1 v E.length E) (hz : ∀ k, v.ownBlock = some k → N k = 0) : Rw w N E v := by
  obtain ⟨a, cap, h1, h2, h3⟩ := row_at (Kg.row_base h (Nat.zero_le _)) (by decide)
  refine ⟨a, cap, h1, fun i u hu => ?_⟩
  obtain ⟨g, h4, h5, h6⟩ := h3 i u hu
  exact ⟨g, h4, h5, hz g (by rw [h1, h4]; rfl), h6⟩

theorem Bd.rg {w : World} {n1 R : Nat} {N : Nat → Nat} {S : RS} (h : Bd w n1 R N S []) (ht : S.tot ≤ 1000000000) : Rg w R N S := by
  have s : Stp w w ([] ++ S.F R) [] N N := ⟨Kg.Touch.refl _ _, fun k hk => by simp at hk, fun _ _ _ => rfl⟩
  have z : ∀ k, k ∈ S.F R → N k = 0 := fun k hk => h.z k (List.mem_append_right _ hk)
  have f : ∀ k, (k = R ∨ S.v1.ownBlock = some k ∨ S.v2.ownBlock = some k ∨ S.v5.ownBlock = some k ∨ S.v6.ownBlock = some k ∨ S.v7.ownBlock = some k) → N k = 0 := fun k hk => z k (by simp only [RS.F, List.mem_cons, List.mem_append, Option.mem_toList]; exact hk)
  exact ⟨Kg.heap_lt h.r, f R (.inl rfl), fun j _ => Kg.heap_cell h.r j, rw_of h.o1 (fun k hk => f k (.inr (.inl hk))), rw_of h.o2 (fun k hk => f k (.inr (.inr (.inl hk)))), rw_of h.o5 (fun k hk => f k (.inr (.inr (.inr (.inl hk))))), rw_of h.o6 (fun k hk => f k (.inr (.inr (.inr (.inr (.inl hk)))))), rw_of h.o7 (fun k hk => f k (.inr (.inr (.inr (.inr (.inr hk)))))),
    fun v hv => (h.m1 v hv).stp s, fun v hv => (h.m2 v hv).stp s, fun v hv => (h.m5 v hv).stp s, fun v hv => (h.m6 v hv).stp s, fun v hv => (h.m7 v hv).stp s, ht⟩

/-- What lies behind the lists stays. -/
structure Keeps (w w' : World) (N : Nat → Nat) : Prop where
  s : w.heap.size ≤ w'.heap.size
  c : ∀ b f, b < w.heap.size → N b ≤ f → w'.cell? ⟨b, f, none⟩ = w.cell? ⟨b, f, none⟩

theorem Keeps.below {w w' : World} {N : Nat → Nat} (h : Below w.heap.size w w') : Keeps w w' N := ⟨h.size, fun b f hb _ => h.cell (p := ⟨b, f, none⟩) hb⟩
theorem Keeps.trans {w w' w'' : World} {N : Nat → Nat} (h : Keeps w w' N) (k : Keeps w' w'' N) : Keeps w w'' N := ⟨Nat.le_trans h.s k.s, fun b f hb hf => (k.c b f (Nat.lt_of_lt_of_le hb h.s) hf).trans (h.c b f hb hf)⟩
theorem Keeps.refl (w : World) (N : Nat → Nat) : Keeps w w N := ⟨Nat.le_refl _, fun _ _ _ _ => rfl⟩

section
variable {w w' : World} {N : Nat → Nat} {v : Value}
theorem Mk1.keep (h : Mk1 w N [] v) (k : Keeps w w' N) : Mk1 w' N [] v := by
  obtain ⟨b, c, h1, h2, h3, hb, h4⟩ := h
  exact ⟨b, c, h1, h2, Nat.lt_of_lt_of_le h3 k.s, hb, fun j hj => by rw [k.c b _ h3 (by omega)]; exact h4 j hj⟩
theorem Mk2.keep (h : Mk2 w N [] v) (k : Keeps w w' N) : Mk2 w' N [] v := by
  obtain ⟨b, c, h1, h2, h3, hb, h4⟩ := h
  exact ⟨b, c, h1, h2, Nat.lt_of_lt_of_le h3 k.s, hb, fun j hj => by rw [k.c b _ h3 (by omega)]; exact h4 j hj⟩
theorem Ml.keep {j : Nat} (h : Ml w N [] j v) (k : Keeps w w' N) : Ml w' N [] j v := by
  obtain ⟨b, c, h1, h2, h3, h4, h5⟩ := h
  exact ⟨b, c, h1, h2, Nat.lt_of_lt_of_le h3 k.s, h4, by rw [k.c b _ h3 (by omega)]; exact h5⟩
theorem Mm.keep {j : Nat} (h : Mm w N [] j v) (k : Keeps w w' N) : Mm w' N [] j v := by
  obtain ⟨b, c, h1, h2, h3, h4, u, h5, h6⟩ := h
  exact ⟨b, c, h1, h2, Nat.lt_of_lt_of_le h3 k.s, h4, u, by rw [k.c b _ h3 (by omega)]; exact h5, h6.keep k⟩
theorem Mk5.keep (h : Mk5 w N [] v) (k : Keeps w w' N) : Mk5 w' N [] v := by
  obtain ⟨b, c, h1, h2, h3, hb, h4⟩ := h
  refine ⟨b, c, h1, h2, Nat.lt_of_lt_of_le h3 k.s, hb, fun j hj => ?_⟩
  obtain ⟨u, h5, h6⟩ := h4 j hj
  exact ⟨u, by rw [k.c b _ h3 (by omega)]; exact h5, h6.keep k⟩
theorem Mk6.keep (h : Mk6 w N [] v) (k : Keeps w w' N) : Mk6 w' N [] v := by
  obtain ⟨b, c, h1, h2, h3, hb, h4⟩ := h
  refine ⟨b, c, h1, h2, Nat.lt_of_lt_of_le h3 k.s, hb, fun j hj => ?_⟩
  obtain ⟨u, h5, h6⟩ := h4 j hj
  exact ⟨u, by rw [k.c b _ h3 (by omega)]; exact h5, h6.keep k⟩
theorem Mk7.keep (h : Mk7 w N [] v) (k : Keeps w w' N) : Mk7 w' N [] v := by
  obtain ⟨b, c, n, h1, h0, h2, h3, hb, h4⟩ := h
  exact ⟨b, c, n, h1, h0, h2, Nat.lt_of_lt_of_le h3 k.s, hb, fun j hj i hi => by rw [k.c b _ h3 (by omega)]; exact h4 j hj i hi⟩
theorem Rw.keep {E : List Value} (h : Rw w N E v) (k : Keeps w w' N) : Rw w' N E v := by
  obtain ⟨a, cap, h1, h2⟩ := h
  refine ⟨a, cap, h1, fun i u hu => ?_⟩
  obtain ⟨g, h3, h4, h5, h6⟩ := h2 i u hu
  exact ⟨g, h3, Nat.lt_of_lt_of_le h4 k.s, h5, by rw [k.c g _ h4 (by omega)]; exact h6⟩
end

theorem Rg.keep {w w' : World} {R : Nat} {N : Nat → Nat} {S : RS} (h : Rg w R N S) (k : Keeps w w' N) : Rg w' R N S :=
  ⟨Nat.lt_of_lt_of_le h.l k.s, h.z, fun j hj => by rw [k.c R _ h.l (by rw [h.z]; omega)]; exact h.c j hj, h.w1.keep k, h.w2.keep k, h.w5.keep k, h.w6.keep k, h.w7.keep k, fun v hv => (h.m1 v hv).keep k, fun v hv => (h.m2 v hv).keep k, fun v hv => (h.m5 v hv).keep k, fun v hv => (h.m6 v hv).keep k, fun v hv => (h.m7 v hv).keep k, h.t⟩

end Go.Proofs.YtckgcpoheodbcaaGreatDoor
