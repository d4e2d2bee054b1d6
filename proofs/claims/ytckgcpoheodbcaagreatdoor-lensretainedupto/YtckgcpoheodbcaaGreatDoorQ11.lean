import Derived.Test.YtckgcpoheodbcaaGreatDoorQ10
set_option linter.unusedVariables false
set_option maxHeartbeats 8000000
set_option maxRecDepth 20000
namespace Go.Proofs.YtckgcpoheodbcaaGreatDoor
open Go.RowKit Go.Shelf
def mrk (j : Nat) : Int := if j % 2 = 0 then -7701 else -7702
def mru (j : Nat) : Int := if j % 2 = 0 then 7701 else 7702
def Mk1 (w : World) (N : Nat → Nat) (F : List Nat) (v : Value) : Prop :=
 ∃ b c, v = .slice (some ⟨b, 0, none⟩) (N b + 40) c ∧ b ∉ F ∧ b < w.heap.size ∧ N b ≤ 1000000000000 ∧ ∀ j, j < 40 → w.cell? ⟨b, N b + j, none⟩ = some (.int .i64 (mrk j))
def Mk2 (w : World) (N : Nat → Nat) (F : List Nat) (v : Value) : Prop :=
 ∃ b c, v = .slice (some ⟨b, 0, none⟩) (N b + 40) c ∧ b ∉ F ∧ b < w.heap.size ∧ N b ≤ 1000000000000 ∧ ∀ j, j < 40 → w.cell? ⟨b, N b + j, none⟩ = some (.int .u64 (mru j))
def Ml (w : World) (N : Nat → Nat) (F : List Nat) (j : Nat) (v : Value) : Prop :=
 ∃ b c, v = .slice (some ⟨b, 0, none⟩) 1 c ∧ b ∉ F ∧ b < w.heap.size ∧ N b = 0 ∧ w.cell? ⟨b, 0, none⟩ = some (.int .i64 (mrk j))
def Mm (w : World) (N : Nat → Nat) (F : List Nat) (j : Nat) (v : Value) : Prop :=
 ∃ b c, v = .slice (some ⟨b, 0, none⟩) 1 c ∧ b ∉ F ∧ b < w.heap.size ∧ N b = 0 ∧ ∃ u, w.cell? ⟨b, 0, none⟩ = some u ∧ Ml w N F j u
def Mk5 (w : World) (N : Nat → Nat) (F : List Nat) (v : Value) : Prop :=
 ∃ b c, v = .slice (some ⟨b, 0, none⟩) (N b + 8) c ∧ b ∉ F ∧ b < w.heap.size ∧ N b ≤ 1000000000000 ∧ ∀ j, j < 8 → ∃ u, w.cell? ⟨b, N b + j, none⟩ = some u ∧ Ml w N F j u
def Mk6 (w : World) (N : Nat → Nat) (F : List Nat) (v : Value) : Prop :=
 ∃ b c, v = .slice (some ⟨b, 0, none⟩) (N b + 8) c ∧ b ∉ F ∧ b < w.heap.size ∧ N b ≤ 1000000000000 ∧ ∀ j, j < 8 → ∃ u, w.cell? ⟨b, N b + j, none⟩ = some u ∧ Mm w N F j u
abbrev mob (j : Nat) : Array Value := ocs 0 (mrk j) 0 (.slice none 0 0) (.slice none 0 0)
def Mk7 (w : World) (N : Nat → Nat) (F : List Nat) (v : Value) : Prop :=
 ∃ b c n, v = .slice (some ⟨b, 0, none⟩) (n + 8) c ∧ N b = n * 5 ∧ b ∉ F ∧ b < w.heap.size ∧ N b ≤ 1000000000000 ∧ ∀ j, j < 8 → ∀ i, i < 5 → w.cell? ⟨b, (n + j) * 5 + i, none⟩ = (mob j)[i]?
structure Stp (w w' : World) (F F' : List Nat) (N N' : Nat → Nat) : Prop where
 t : Kg.Touch F w w'
 f : ∀ k, k ∈ F' → k ∈ F ∨ w.heap.size ≤ k
 n : ∀ b, b < w.heap.size → b ∉ F → N' b = N b
theorem Stp.refl (w : World) (F : List Nat) (N : Nat → Nat) : Stp w w F F N N := ⟨Kg.Touch.refl _ _, fun _ h => .inl h, fun _ _ _ => rfl⟩
theorem Stp.trans {w w' w'' : World} {F F' F'' : List Nat} {N N' N'' : Nat → Nat} (h : Stp w w' F F' N N') (k : Stp w' w'' F' F'' N' N'') : Stp w w'' F F'' N N'' :=
 ⟨h.t.then k.t (fun x hx => h.f x hx), fun x hx => (k.f x hx).elim (fun h1 => h.f x h1) (fun h1 => .inr (Nat.le_trans h.t.size h1)), fun b hb hf => (k.n b (Nat.lt_of_lt_of_le hb h.t.size) (fun h1 => (h.f b h1).elim hf (fun h2 => by omega))).trans (h.n b hb hf)⟩
theorem Stp.below {w w' : World} {F : List Nat} {N : Nat → Nat} (h : Below w.heap.size w w') : Stp w w' F F N N := ⟨Kg.Touch.of_below h F, fun _ h => .inl h, fun _ _ _ => rfl⟩
theorem Stp.out {w w' : World} {F F' : List Nat} {N N' : Nat → Nat} (h : Stp w w' F F' N N') {b : Nat} (hb : b < w.heap.size) (hf : b ∉ F) : b ∉ F' := fun h1 => (h.f b h1).elim hf (fun h2 => by omega)
theorem Stp.cell {w w' : World} {F F' : List Nat} {N N' : Nat → Nat} (h : Stp w w' F F' N N') {b i : Nat} (hb : b < w.heap.size) (hf : b ∉ F) : w'.cell? ⟨b, i, none⟩ = w.cell? ⟨b, i, none⟩ := World.cell?_of_block (w := w) (h.t.block b hb hf)
theorem frozen_blk {w w' : World} {b i : Nat} (h : w'.heap[b]? = w.heap[b]?) : w'.frozen? ⟨b, i, none⟩ = w.frozen? ⟨b, i, none⟩ := by
 unfold World.frozen?
 rw [h]
theorem Stp.frozen {w w' : World} {F F' : List Nat} {N N' : Nat → Nat} (h : Stp w w' F F' N N') {b i : Nat} (hb : b < w.heap.size) (hf : b ∉ F) : w'.frozen? ⟨b, i, none⟩ = w.frozen? ⟨b, i, none⟩ := frozen_blk (h.t.block b hb hf)
theorem Stp.lt {w w' : World} {F F' : List Nat} {N N' : Nat → Nat} (h : Stp w w' F F' N N') {b : Nat} (hb : b < w.heap.size) : b < w'.heap.size := Nat.lt_of_lt_of_le hb h.t.size
section
variable {w w' : World} {F F' : List Nat} {N N' : Nat → Nat} {v : Value}
theorem Mk1.stp (h : Mk1 w N F v) (s : Stp w w' F F' N N') : Mk1 w' N' F' v := by
 obtain ⟨b, c, h1, h2, h3, hb, h4⟩ := h
 exact ⟨b, c, by rw [s.n b h3 h2]; exact h1, s.out h3 h2, s.lt h3, by rw [s.n b h3 h2]; exact hb, fun j hj => by rw [s.n b h3 h2, s.cell h3 h2]; exact h4 j hj⟩
theorem Mk2.stp (h : Mk2 w N F v) (s : Stp w w' F F' N N') : Mk2 w' N' F' v := by
 obtain ⟨b, c, h1, h2, h3, hb, h4⟩ := h
 exact ⟨b, c, by rw [s.n b h3 h2]; exact h1, s.out h3 h2, s.lt h3, by rw [s.n b h3 h2]; exact hb, fun j hj => by rw [s.n b h3 h2, s.cell h3 h2]; exact h4 j hj⟩
theorem Ml.stp {j : Nat} (h : Ml w N F j v) (s : Stp w w' F F' N N') : Ml w' N' F' j v := by
 obtain ⟨b, c, h1, h2, h3, h4, h5⟩ := h
 exact ⟨b, c, h1, s.out h3 h2, s.lt h3, by rw [s.n b h3 h2]; exact h4, by rw [s.cell h3 h2]; exact h5⟩
theorem Mm.stp {j : Nat} (h : Mm w N F j v) (s : Stp w w' F F' N N') : Mm w' N' F' j v := by
 obtain ⟨b, c, h1, h2, h3, h4, u, h5, h6⟩ := h
 exact ⟨b, c, h1, s.out h3 h2, s.lt h3, by rw [s.n b h3 h2]; exact h4, u, by rw [s.cell h3 h2]; exact h5, h6.stp s⟩
theorem Mk5.stp (h : Mk5 w N F v) (s : Stp w w' F F' N N') : Mk5 w' N' F' v := by
 obtain ⟨b, c, h1, h2, h3, hb, h4⟩ := h
 refine ⟨b, c, by rw [s.n b h3 h2]; exact h1, s.out h3 h2, s.lt h3, by rw [s.n b h3 h2]; exact hb, fun j hj => ?_⟩
 obtain ⟨u, h5, h6⟩ := h4 j hj
 exact ⟨u, by rw [s.n b h3 h2, s.cell h3 h2]; exact h5, h6.stp s⟩
theorem Mk6.stp (h : Mk6 w N F v) (s : Stp w w' F F' N N') : Mk6 w' N' F' v := by
 obtain ⟨b, c, h1, h2, h3, hb, h4⟩ := h
 refine ⟨b, c, by rw [s.n b h3 h2]; exact h1, s.out h3 h2, s.lt h3, by rw [s.n b h3 h2]; exact hb, fun j hj => ?_⟩
 obtain ⟨u, h5, h6⟩ := h4 j hj
 exact ⟨u, by rw [s.n b h3 h2, s.cell h3 h2]; exact h5, h6.stp s⟩
theorem Mk7.stp (h : Mk7 w N F v) (s : Stp w w' F F' N N') : Mk7 w' N' F' v := by
 obtain ⟨b, c, n, h1, h0, h2, h3, hb, h4⟩ := h
 exact ⟨b, c, n, h1, by rw [s.n b h3 h2]; exact h0, s.out h3 h2, s.lt h3, by rw [s.n b h3 h2]; exact hb, fun j hj i hi => by rw [s.cell h3 h2]; exact h4 j hj i hi⟩
end
structure RS where
 v1 : Value
 v2 : Value
 v5 : Value
 v6 : Value
 v7 : Value
 E1 : List Value
 E2 : List Value
 E5 : List Value
 E6 : List Value
 E7 : List Value
abbrev rmc (v1 v2 v5 v6 v7 : Value) : Array Value := #[.slice none 0 0, v1, v2, .slice none 0 0, .slice none 0 0, v5, v6, v7]
def RS.F (S : RS) (R : Nat) : List Nat := R :: (S.v1.ownBlock.toList ++ (S.v2.ownBlock.toList ++ (S.v5.ownBlock.toList ++ (S.v6.ownBlock.toList ++ S.v7.ownBlock.toList))))
structure Bd (w : World) (n1 R : Nat) (N : Nat → Nat) (S : RS) (X : List Nat) : Prop where
 r : w.heap[R]? = some (.cells (rmc S.v1 S.v2 S.v5 S.v6 S.v7) 37 (0, 0))
 hR : n1 ≤ R
 o1 : w.ownsRow n1 24 1 S.v1 S.E1.length S.E1
 o2 : w.ownsRow n1 59 1 S.v2 S.E2.length S.E2
 o5 : w.ownsRow n1 30 1 S.v5 S.E5.length S.E5
 o6 : w.ownsRow n1 23 1 S.v6 S.E6.length S.E6
 o7 : w.ownsRow n1 22 1 S.v7 S.E7.length S.E7
 m1 : ∀ v, v ∈ S.E1 → Mk1 w N (X ++ S.F R) v
 m2 : ∀ v, v ∈ S.E2 → Mk2 w N (X ++ S.F R) v
 m5 : ∀ v, v ∈ S.E5 → Mk5 w N (X ++ S.F R) v
 m6 : ∀ v, v ∈ S.E6 → Mk6 w N (X ++ S.F R) v
 m7 : ∀ v, v ∈ S.E7 → Mk7 w N (X ++ S.F R) v
 z : ∀ k, k ∈ X ++ S.F R → N k = 0
 d : ∀ k, w.heap.size ≤ k → N k = 0
 x : ∀ k, k ∈ X → k < w.heap.size ∧ k ∉ S.F R
theorem Bd.lt {w : World} {n1 R : Nat} {N : Nat → Nat} {S : RS} {X : List Nat} (h : Bd w n1 R N S X) : ∀ k, k ∈ S.F R → k < w.heap.size ∧ n1 ≤ k := by
 intro k hk
 simp only [RS.F, List.mem_cons, List.mem_append, Option.mem_toList] at hk
 rcases hk with rfl | h1 | h1 | h1 | h1 | h1
 ·exact ⟨Kg.heap_lt h.r, h.hR⟩
 ·exact ⟨(h.o1.lt k h1).2, (h.o1.lt k h1).1⟩
 ·exact ⟨(h.o2.lt k h1).2, (h.o2.lt k h1).1⟩
 ·exact ⟨(h.o5.lt k h1).2, (h.o5.lt k h1).1⟩
 ·exact ⟨(h.o6.lt k h1).2, (h.o6.lt k h1).1⟩
 ·exact ⟨(h.o7.lt k h1).2, (h.o7.lt k h1).1⟩
theorem Bd.ltX {w : World} {n1 R : Nat} {N : Nat → Nat} {S : RS} {X : List Nat} (h : Bd w n1 R N S X) : ∀ k, k ∈ X ++ S.F R → k < w.heap.size := fun k hk => by
 rcases List.mem_append.1 hk with h1 | h1
 ·exact (h.x k h1).1
 ·exact (h.lt k h1).1
theorem Bd.move {w w' : World} {n1 R : Nat} {N N' : Nat → Nat} {S : RS} {X X' : List Nat} (h : Bd w n1 R N S X) (t : Kg.Touch X w w') (hX : ∀ k, k ∈ X' → k < w'.heap.size ∧ (k ∈ X ∨ w.heap.size ≤ k)) (hN : ∀ k, k < w.heap.size → k ∉ X → N' k = N k) (hd : ∀ k, w'.heap.size ≤ k → N' k = 0) (hz : ∀ k, k ∈ X' → N' k = 0) : Bd w' n1 R N' S X' ∧ Stp w w' (X ++ S.F R) (X' ++ S.F R) N N' := by
 have hnx : ∀ k, k ∈ S.F R → k ∉ X := fun k hk hx => (h.x k hx).2 hk
 have s : Stp w w' (X ++ S.F R) (X' ++ S.F R) N N' := ⟨t.mono (fun k hk => .inl (List.mem_append_left _ hk)), fun k hk => by
  rcases List.mem_append.1 hk with h1 | h1
  ·exact (hX k h1).2.imp (fun h2 => List.mem_append_left _ h2) id
  ·exact .inl (List.mem_append_right _ h1), fun b hb hf => hN b hb (fun hx => hf (List.mem_append_left _ hx))⟩
 have k : ∀ {e n : Nat} {v : Value} {xs : List Value}, w.ownsRow n1 e 1 v n xs → (∀ q, v.ownBlock = some q → q ∈ S.F R) → w'.ownsRow n1 e 1 v n xs := fun ho hq => Kg.row_keep2 ho t (fun q hb => hnx q (hq q hb))
 have f1 : ∀ q, S.v1.ownBlock = some q → q ∈ S.F R := fun q hq => by simp only [RS.F, List.mem_cons, List.mem_append, Option.mem_toList]; exact .inr (.inl hq)
 have f2 : ∀ q, S.v2.ownBlock = some q → q ∈ S.F R := fun q hq => by simp only [RS.F, List.mem_cons, List.mem_append, Option.mem_toList]; exact .inr (.inr (.inl hq))
 have f5 : ∀ q, S.v5.ownBlock = some q → q ∈ S.F R := fun q hq => by simp only [RS.F, List.mem_cons, List.mem_append, Option.mem_toList]; exact .inr (.inr (.inr (.inl hq)))
 have f6 : ∀ q, S.v6.ownBlock = some q → q ∈ S.F R := fun q hq => by simp only [RS.F, List.mem_cons, List.mem_append, Option.mem_toList]; exact .inr (.inr (.inr (.inr (.inl hq))))
 have f7 : ∀ q, S.v7.ownBlock = some q → q ∈ S.F R := fun q hq => by simp only [RS.F, List.mem_cons, List.mem_append, Option.mem_toList]; exact .inr (.inr (.inr (.inr (.inr hq))))
 have hRF : R ∈ S.F R := by simp [RS.F]
 refine ⟨⟨(t.block R (Kg.heap_lt h.r) (hnx R hRF)).trans h.r, h.hR, k h.o1 f1, k h.o2 f2, k h.o5 f5, k h.o6 f6, k h.o7 f7, fun v hv => (h.m1 v hv).stp s, fun v hv => (h.m2 v hv).stp s, fun v hv => (h.m5 v hv).stp s, fun v hv => (h.m6 v hv).stp s, fun v hv => (h.m7 v hv).stp s, fun q hq => ?_, hd, fun q hq => ⟨(hX q hq).1, fun hf => ?_⟩⟩, s⟩
 ·rcases List.mem_append.1 hq with h1 | h1
  ·exact hz q h1
  ·rw [hN q (h.lt q h1).1 (hnx q h1)]
   exact h.z q (List.mem_append_right _ h1)
 ·rcases (hX q hq).2 with h1 | h1
  ·exact (h.x q h1).2 hf
  ·have := (h.lt q hf).1
   omega
theorem Bd.laid {w w' : World} {n1 R : Nat} {N N' : Nat → Nat} {S : RS} {X : List Nat} (h : Bd w n1 R N S X) (b : Below w.heap.size w w') (hN : ∀ k, k < w.heap.size → N' k = N k) (hd : ∀ k, w'.heap.size ≤ k → N' k = 0) : Bd w' n1 R N' S X ∧ Stp w w' (X ++ S.F R) (X ++ S.F R) N N' :=
 h.move (Kg.Touch.of_below b X) (fun k hk => ⟨Nat.lt_of_lt_of_le (h.x k hk).1 b.size, .inl hk⟩) (fun k hk _ => hN k hk) hd (fun k hk => by rw [hN k (h.x k hk).1]; exact h.z k (List.mem_append_left _ hk))
theorem Bd.below {w w' : World} {n1 R : Nat} {N : Nat → Nat} {S : RS} {X : List Nat} (h : Bd w n1 R N S X) (b : Below w.heap.size w w') : Bd w' n1 R N S X := (h.laid b (fun _ _ => rfl) (fun k hk => h.d k (Nat.le_trans b.size hk))).1
theorem own_blk {w : World} {base e n : Nat} {v : Value} {xs : List Value} (h : w.ownsRow base e 1 v n xs) {k : Nat} (hk : v.ownBlock = some k) : ∃ cur, w.heap[k]? = some (.cells cur e (0, 0)) := by
 rcases h.2 with ⟨rfl, _⟩ | ⟨g, cap, cur, rfl, h2, h3, h4, h5, h6, h7⟩
 ·cases hk
 ·cases hk
  exact ⟨cur, h3⟩
theorem own_ne {w : World} {base base' e e' n n' : Nat} {v v' : Value} {xs xs' : List Value} (h : w.ownsRow base e 1 v n xs) (h' : w.ownsRow base' e' 1 v' n' xs') (hne : e ≠ e') : ∀ k, v.ownBlock = some k → v'.ownBlock ≠ some k := by
 intro k h1 h2
 obtain ⟨c, h3⟩ := own_blk h h1
 obtain ⟨c', h4⟩ := own_blk h' h2
 rw [h3] at h4
 cases h4
 exact hne rfl
def RS.put1 (S : RS) (v' e : Value) : RS := { S with v1 := v', E1 := S.E1 ++ [e] }
theorem Bd.put1 {w w8 : World} {n1 R : Nat} {N : Nat → Nat} {S : RS} {X : List Nat} {v' e : Value} (h : Bd w n1 R N S X) (he : Mk1 w N (X ++ S.F R) e) (ho : w8.ownsRow n1 24 1 v' (S.E1.length + 1) (S.E1 ++ [e])) (t8 : Kg.Touch S.v1.ownBlock.toList w w8) (hat : v'.ownBlock = S.v1.ownBlock ∨ v'.ownBlock = some w.heap.size) :
  Bd (w8.setCell ⟨R, 1, none⟩ v') n1 R N (S.put1 v' e) X ∧ Stp w (w8.setCell ⟨R, 1, none⟩ v') (X ++ S.F R) (X ++ (S.put1 v' e).F R) N N ∧ Stp w (w8.setCell ⟨R, 1, none⟩ v') (S.F R) ((S.put1 v' e).F R) N N := by
 have hRl := Kg.heap_lt h.r
 have hRn : R ∉ S.v1.ownBlock.toList := fun hm => by
  rw [Option.mem_toList] at hm
  obtain ⟨c, h3⟩ := own_blk h.o1 hm
  rw [h.r] at h3
  cases h3
 have t9 : Kg.Touch [R] w8 (w8.setCell ⟨R, 1, none⟩ v') := Kg.Touch.setCell _ _ _ (by simp)
 have hF : ∀ k, k ∈ S.v1.ownBlock.toList → k ∈ S.F R := fun k hk => by simp only [RS.F, List.mem_cons, List.mem_append]; exact (.inr (.inl hk))
 have tt : Kg.Touch (S.F R) w (w8.setCell ⟨R, 1, none⟩ v') := (t8.mono (fun k hk => .inl (hF k hk))).trans (t9.mono (fun k hk => .inl (by simp at hk; rw [hk]; simp [RS.F])))
 have hf : ∀ k, k ∈ (S.put1 v' e).F R → k ∈ S.F R ∨ w.heap.size ≤ k := fun k hk => by
  simp only [RS.F, RS.put1, List.mem_cons, List.mem_append, Option.mem_toList] at hk ⊢
  rcases hk with h1 | h1 | h1 | h1 | h1 | h1
  ·exact .inl (.inl h1)
  ·rcases hat with e1 | e1
   ·exact .inl (.inr (.inl (e1 ▸ h1)))
   ·exact .inr (by rw [e1] at h1; exact Nat.le_of_eq (Option.some.inj h1))
  ·exact .inl (.inr (.inr (.inl h1)))
  ·exact .inl (.inr (.inr (.inr (.inl h1))))
  ·exact .inl (.inr (.inr (.inr (.inr (.inl h1)))))
  ·exact .inl (.inr (.inr (.inr (.inr (.inr h1)))))
 have s0 : Stp w (w8.setCell ⟨R, 1, none⟩ v') (S.F R) ((S.put1 v' e).F R) N N := ⟨tt, hf, fun _ _ _ => rfl⟩
 have s : Stp w (w8.setCell ⟨R, 1, none⟩ v') (X ++ S.F R) (X ++ (S.put1 v' e).F R) N N := ⟨tt.mono (fun k hk => .inl (List.mem_append_right _ hk)), fun k hk => by
  rcases List.mem_append.1 hk with h1 | h1
  ·exact .inl (List.mem_append_left _ h1)
  ·exact (hf k h1).imp (fun h2 => List.mem_append_right _ h2) id, fun _ _ _ => rfl⟩
 have ho' : (w8.setCell ⟨R, 1, none⟩ v').ownsRow n1 24 1 v' (S.E1 ++ [e]).length (S.E1 ++ [e]) := by
  rw [List.length_append]
  refine Kg.ownsRow_setOther ho (fun hb => ?_) _
  obtain ⟨c, h3⟩ := own_blk ho hb.symm
  have h4 := (t8.block R hRl hRn).trans h.r
  rw [h4] at h3
  cases h3
 have kp : ∀ {e' n : Nat} {u : Value} {xs : List Value}, w.ownsRow n1 e' 1 u n xs → (∀ k, S.v1.ownBlock = some k → u.ownBlock ≠ some k) → e' ≠ 37 → (w8.setCell ⟨R, 1, none⟩ v').ownsRow n1 e' 1 u n xs := fun hu hne hty => by
  refine Kg.ownsRow_setOther (Kg.row_keep2 hu t8 (fun k hk hm => by rw [Option.mem_toList] at hm; exact hne k hm hk)) (fun hb => ?_) _
  obtain ⟨c, h3⟩ := own_blk hu hb.symm
  rw [h.r] at h3
  cases h3
  exact hty rfl
 refine ⟨⟨?_, h.hR, ho', kp h.o2 (own_ne h.o1 h.o2 (by decide)) (by decide), kp h.o5 (own_ne h.o1 h.o5 (by decide)) (by decide), kp h.o6 (own_ne h.o1 h.o6 (by decide)) (by decide), kp h.o7 (own_ne h.o1 h.o7 (by decide)) (by decide), (fun u hu => by rcases List.mem_append.1 hu with h1 | h1; exact (h.m1 u h1).stp s; rw [List.mem_singleton] at h1; rw [h1]; exact he.stp s), (fun u hu => (h.m2 u hu).stp s), (fun u hu => (h.m5 u hu).stp s), (fun u hu => (h.m6 u hu).stp s), (fun u hu => (h.m7 u hu).stp s), fun k hk => ?_, fun k hk => h.d k (Nat.le_trans tt.size hk), fun k hk => ⟨Nat.lt_of_lt_of_le (h.x k hk).1 tt.size, fun h1 => (hf k h1).elim (h.x k hk).2 (fun h2 => by have := (h.x k hk).1; omega)⟩⟩, s, s0⟩
 ·have h4 := (t8.block R hRl hRn).trans h.r
  rw [Kg.heap_set h4]
  rfl
 ·rcases List.mem_append.1 hk with h0 | h0
  ·exact h.z k (List.mem_append_left _ h0)
  rcases hf k h0 with h1 | h1
  ·exact h.z k (List.mem_append_right _ h1)
  ·exact h.d k h1
def RS.put2 (S : RS) (v' e : Value) : RS := { S with v2 := v', E2 := S.E2 ++ [e] }
theorem Bd.put2 {w w8 : World} {n1 R : Nat} {N : Nat → Nat} {S : RS} {X : List Nat} {v' e : Value} (h : Bd w n1 R N S X) (he : Mk2 w N (X ++ S.F R) e) (ho : w8.ownsRow n1 59 1 v' (S.E2.length + 1) (S.E2 ++ [e])) (t8 : Kg.Touch S.v2.ownBlock.toList w w8) (hat : v'.ownBlock = S.v2.ownBlock ∨ v'.ownBlock = some w.heap.size) :
  Bd (w8.setCell ⟨R, 2, none⟩ v') n1 R N (S.put2 v' e) X ∧ Stp w (w8.setCell ⟨R, 2, none⟩ v') (X ++ S.F R) (X ++ (S.put2 v' e).F R) N N ∧ Stp w (w8.setCell ⟨R, 2, none⟩ v') (S.F R) ((S.put2 v' e).F R) N N := by
 have hRl := Kg.heap_lt h.r
 have hRn : R ∉ S.v2.ownBlock.toList := fun hm => by
  rw [Option.mem_toList] at hm
  obtain ⟨c, h3⟩ := own_blk h.o2 hm
  rw [h.r] at h3
  cases h3
 have t9 : Kg.Touch [R] w8 (w8.setCell ⟨R, 2, none⟩ v') := Kg.Touch.setCell _ _ _ (by simp)
 have hF : ∀ k, k ∈ S.v2.ownBlock.toList → k ∈ S.F R := fun k hk => by simp only [RS.F, List.mem_cons, List.mem_append]; exact (.inr (.inr (.inl hk)))
 have tt : Kg.Touch (S.F R) w (w8.setCell ⟨R, 2, none⟩ v') := (t8.mono (fun k hk => .inl (hF k hk))).trans (t9.mono (fun k hk => .inl (by simp at hk; rw [hk]; simp [RS.F])))
 have hf : ∀ k, k ∈ (S.put2 v' e).F R → k ∈ S.F R ∨ w.heap.size ≤ k := fun k hk => by
  simp only [RS.F, RS.put2, List.mem_cons, List.mem_append, Option.mem_toList] at hk ⊢
  rcases hk with h1 | h1 | h1 | h1 | h1 | h1
  ·exact .inl (.inl h1)
  ·exact .inl (.inr (.inl h1))
  ·rcases hat with e1 | e1
   ·exact .inl (.inr (.inr (.inl (e1 ▸ h1))))
   ·exact .inr (by rw [e1] at h1; exact Nat.le_of_eq (Option.some.inj h1))
  ·exact .inl (.inr (.inr (.inr (.inl h1))))
  ·exact .inl (.inr (.inr (.inr (.inr (.inl h1)))))
  ·exact .inl (.inr (.inr (.inr (.inr (.inr h1)))))
 have s0 : Stp w (w8.setCell ⟨R, 2, none⟩ v') (S.F R) ((S.put2 v' e).F R) N N := ⟨tt, hf, fun _ _ _ => rfl⟩
 have s : Stp w (w8.setCell ⟨R, 2, none⟩ v') (X ++ S.F R) (X ++ (S.put2 v' e).F R) N N := ⟨tt.mono (fun k hk => .inl (List.mem_append_right _ hk)), fun k hk => by
  rcases List.mem_append.1 hk with h1 | h1
  ·exact .inl (List.mem_append_left _ h1)
  ·exact (hf k h1).imp (fun h2 => List.mem_append_right _ h2) id, fun _ _ _ => rfl⟩
 have ho' : (w8.setCell ⟨R, 2, none⟩ v').ownsRow n1 59 1 v' (S.E2 ++ [e]).length (S.E2 ++ [e]) := by
  rw [List.length_append]
  refine Kg.ownsRow_setOther ho (fun hb => ?_) _
  obtain ⟨c, h3⟩ := own_blk ho hb.symm
  have h4 := (t8.block R hRl hRn).trans h.r
  rw [h4] at h3
  cases h3
 have kp : ∀ {e' n : Nat} {u : Value} {xs : List Value}, w.ownsRow n1 e' 1 u n xs → (∀ k, S.v2.ownBlock = some k → u.ownBlock ≠ some k) → e' ≠ 37 → (w8.setCell ⟨R, 2, none⟩ v').ownsRow n1 e' 1 u n xs := fun hu hne hty => by
  refine Kg.ownsRow_setOther (Kg.row_keep2 hu t8 (fun k hk hm => by rw [Option.mem_toList] at hm; exact hne k hm hk)) (fun hb => ?_) _
  obtain ⟨c, h3⟩ := own_blk hu hb.symm
  rw [h.r] at h3
  cases h3
  exact hty rfl
 refine ⟨⟨?_, h.hR, kp h.o1 (own_ne h.o2 h.o1 (by decide)) (by decide), ho', kp h.o5 (own_ne h.o2 h.o5 (by decide)) (by decide), kp h.o6 (own_ne h.o2 h.o6 (by decide)) (by decide), kp h.o7 (own_ne h.o2 h.o7 (by decide)) (by decide), (fun u hu => (h.m1 u hu).stp s), (fun u hu => by rcases List.mem_append.1 hu with h1 | h1; exact (h.m2 u h1).stp s; rw [List.mem_singleton] at h1; rw [h1]; exact he.stp s), (fun u hu => (h.m5 u hu).stp s), (fun u hu => (h.m6 u hu).stp s), (fun u hu => (h.m7 u hu).stp s), fun k hk => ?_, fun k hk => h.d k (Nat.le_trans tt.size hk), fun k hk => ⟨Nat.lt_of_lt_of_le (h.x k hk).1 tt.size, fun h1 => (hf k h1).elim (h.x k hk).2 (fun h2 => by have := (h.x k hk).1; omega)⟩⟩, s, s0⟩
 ·have h4 := (t8.block R hRl hRn).trans h.r
  rw [Kg.heap_set h4]
  rfl
 ·rcases List.mem_append.1 hk with h0 | h0
  ·exact h.z k (List.mem_append_left _ h0)
  rcases hf k h0 with h1 | h1
  ·exact h.z k (List.mem_append_right _ h1)
  ·exact h.d k h1
def RS.put5 (S : RS) (v' e : Value) : RS := { S with v5 := v', E5 := S.E5 ++ [e] }
theorem Bd.put5 {w w8 : World} {n1 R : Nat} {N : Nat → Nat} {S : RS} {X : List Nat} {v' e : Value} (h : Bd w n1 R N S X) (he : Mk5 w N (X ++ S.F R) e) (ho : w8.ownsRow n1 30 1 v' (S.E5.length + 1) (S.E5 ++ [e])) (t8 : Kg.Touch S.v5.ownBlock.toList w w8) (hat : v'.ownBlock = S.v5.ownBlock ∨ v'.ownBlock = some w.heap.size) :
  Bd (w8.setCell ⟨R, 5, none⟩ v') n1 R N (S.put5 v' e) X ∧ Stp w (w8.setCell ⟨R, 5, none⟩ v') (X ++ S.F R) (X ++ (S.put5 v' e).F R) N N ∧ Stp w (w8.setCell ⟨R, 5, none⟩ v') (S.F R) ((S.put5 v' e).F R) N N := by
 have hRl := Kg.heap_lt h.r
 have hRn : R ∉ S.v5.ownBlock.toList := fun hm => by
  rw [Option.mem_toList] at hm
  obtain ⟨c, h3⟩ := own_blk h.o5 hm
  rw [h.r] at h3
  cases h3
 have t9 : Kg.Touch [R] w8 (w8.setCell ⟨R, 5, none⟩ v') := Kg.Touch.setCell _ _ _ (by simp)
 have hF : ∀ k, k ∈ S.v5.ownBlock.toList → k ∈ S.F R := fun k hk => by simp only [RS.F, List.mem_cons, List.mem_append]; exact (.inr (.inr (.inr (.inl hk))))
 have tt : Kg.Touch (S.F R) w (w8.setCell ⟨R, 5, none⟩ v') := (t8.mono (fun k hk => .inl (hF k hk))).trans (t9.mono (fun k hk => .inl (by simp at hk; rw [hk]; simp [RS.F])))
 have hf : ∀ k, k ∈ (S.put5 v' e).F R → k ∈ S.F R ∨ w.heap.size ≤ k := fun k hk => by
  simp only [RS.F, RS.put5, List.mem_cons, List.mem_append, Option.mem_toList] at hk ⊢
  rcases hk with h1 | h1 | h1 | h1 | h1 | h1
  ·exact .inl (.inl h1)
  ·exact .inl (.inr (.inl h1))
  ·exact .inl (.inr (.inr (.inl h1)))
  ·rcases hat with e1 | e1
   ·exact .inl (.inr (.inr (.inr (.inl (e1 ▸ h1)))))
   ·exact .inr (by rw [e1] at h1; exact Nat.le_of_eq (Option.some.inj h1))
  ·exact .inl (.inr (.inr (.inr (.inr (.inl h1)))))
  ·exact .inl (.inr (.inr (.inr (.inr (.inr h1)))))
 have s0 : Stp w (w8.setCell ⟨R, 5, none⟩ v') (S.F R) ((S.put5 v' e).F R) N N := ⟨tt, hf, fun _ _ _ => rfl⟩
 have s : Stp w (w8.setCell ⟨R, 5, none⟩ v') (X ++ S.F R) (X ++ (S.put5 v' e).F R) N N := ⟨tt.mono (fun k hk => .inl (List.mem_append_right _ hk)), fun k hk => by
  rcases List.mem_append.1 hk with h1 | h1
  ·exact .inl (List.mem_append_left _ h1)
  ·exact (hf k h1).imp (fun h2 => List.mem_append_right _ h2) id, fun _ _ _ => rfl⟩
 have ho' : (w8.setCell ⟨R, 5, none⟩ v').ownsRow n1 30 1 v' (S.E5 ++ [e]).length (S.E5 ++ [e]) := by
  rw [List.length_append]
  refine Kg.ownsRow_setOther ho (fun hb => ?_) _
  obtain ⟨c, h3⟩ := own_blk ho hb.symm
  have h4 := (t8.block R hRl hRn).trans h.r
  rw [h4] at h3
  cases h3
 have kp : ∀ {e' n : Nat} {u : Value} {xs : List Value}, w.ownsRow n1 e' 1 u n xs → (∀ k, S.v5.ownBlock = some k → u.ownBlock ≠ some k) → e' ≠ 37 → (w8.setCell ⟨R, 5, none⟩ v').ownsRow n1 e' 1 u n xs := fun hu hne hty => by
  refine Kg.ownsRow_setOther (Kg.row_keep2 hu t8 (fun k hk hm => by rw [Option.mem_toList] at hm; exact hne k hm hk)) (fun hb => ?_) _
  obtain ⟨c, h3⟩ := own_blk hu hb.symm
  rw [h.r] at h3
  cases h3
  exact hty rfl
 refine ⟨⟨?_, h.hR, kp h.o1 (own_ne h.o5 h.o1 (by decide)) (by decide), kp h.o2 (own_ne h.o5 h.o2 (by decide)) (by decide), ho', kp h.o6 (own_ne h.o5 h.o6 (by decide)) (by decide), kp h.o7 (own_ne h.o5 h.o7 (by decide)) (by decide), (fun u hu => (h.m1 u hu).stp s), (fun u hu => (h.m2 u hu).stp s), (fun u hu => by rcases List.mem_append.1 hu with h1 | h1; exact (h.m5 u h1).stp s; rw [List.mem_singleton] at h1; rw [h1]; exact he.stp s), (fun u hu => (h.m6 u hu).stp s), (fun u hu => (h.m7 u hu).stp s), fun k hk => ?_, fun k hk => h.d k (Nat.le_trans tt.size hk), fun k hk => ⟨Nat.lt_of_lt_of_le (h.x k hk).1 tt.size, fun h1 => (hf k h1).elim (h.x k hk).2 (fun h2 => by have := (h.x k hk).1; omega)⟩⟩, s, s0⟩
 ·have h4 := (t8.block R hRl hRn).trans h.r
  rw [Kg.heap_set h4]
  rfl
 ·rcases List.mem_append.1 hk with h0 | h0
  ·exact h.z k (List.mem_append_left _ h0)
  rcases hf k h0 with h1 | h1
  ·exact h.z k (List.mem_append_right _ h1)
  ·exact h.d k h1
def RS.put6 (S : RS) (v' e : Value) : RS := { S with v6 := v', E6 := S.E6 ++ [e] }
theorem Bd.put6 {w w8 : World} {n1 R : Nat} {N : Nat → Nat} {S : RS} {X : List Nat} {v' e : Value} (h : Bd w n1 R N S X) (he : Mk6 w N (X ++ S.F R) e) (ho : w8.ownsRow n1 23 1 v' (S.E6.length + 1) (S.E6 ++ [e])) (t8 : Kg.Touch S.v6.ownBlock.toList w w8) (hat : v'.ownBlock = S.v6.ownBlock ∨ v'.ownBlock = some w.heap.size) :
  Bd (w8.setCell ⟨R, 6, none⟩ v') n1 R N (S.put6 v' e) X ∧ Stp w (w8.setCell ⟨R, 6, none⟩ v') (X ++ S.F R) (X ++ (S.put6 v' e).F R) N N ∧ Stp w (w8.setCell ⟨R, 6, none⟩ v') (S.F R) ((S.put6 v' e).F R) N N := by
 have hRl := Kg.heap_lt h.r
 have hRn : R ∉ S.v6.ownBlock.toList := fun hm => by
  rw [Option.mem_toList] at hm
  obtain ⟨c, h3⟩ := own_blk h.o6 hm
  rw [h.r] at h3
  cases h3
 have t9 : Kg.Touch [R] w8 (w8.setCell ⟨R, 6, none⟩ v') := Kg.Touch.setCell _ _ _ (by simp)
 have hF : ∀ k, k ∈ S.v6.ownBlock.toList → k ∈ S.F R := fun k hk => by simp only [RS.F, List.mem_cons, List.mem_append]; exact (.inr (.inr (.inr (.inr (.inl hk)))))
 have tt : Kg.Touch (S.F R) w (w8.setCell ⟨R, 6, none⟩ v') := (t8.mono (fun k hk => .inl (hF k hk))).trans (t9.mono (fun k hk => .inl (by simp at hk; rw [hk]; simp [RS.F])))
 have hf : ∀ k, k ∈ (S.put6 v' e).F R → k ∈ S.F R ∨ w.heap.size ≤ k := fun k hk => by
  simp only [RS.F, RS.put6, List.mem_cons, List.mem_append, Option.mem_toList] at hk ⊢
  rcases hk with h1 | h1 | h1 | h1 | h1 | h1
  ·exact .inl (.inl h1)
  ·exact .inl (.inr (.inl h1))
  ·exact .inl (.inr (.inr (.inl h1)))
  ·exact .inl (.inr (.inr (.inr (.inl h1))))
  ·rcases hat with e1 | e1
   ·exact .inl (.inr (.inr (.inr (.inr (.inl (e1 ▸ h1))))))
   ·exact .inr (by rw [e1] at h1; exact Nat.le_of_eq (Option.some.inj h1))
  ·exact .inl (.inr (.inr (.inr (.inr (.inr h1)))))
 have s0 : Stp w (w8.setCell ⟨R, 6, none⟩ v') (S.F R) ((S.put6 v' e).F R) N N := ⟨tt, hf, fun _ _ _ => rfl⟩
 have s : Stp w (w8.setCell ⟨R, 6, none⟩ v') (X ++ S.F R) (X ++ (S.put6 v' e).F R) N N := ⟨tt.mono (fun k hk => .inl (List.mem_append_right _ hk)), fun k hk => by
  rcases List.mem_append.1 hk with h1 | h1
  ·exact .inl (List.mem_append_left _ h1)
  ·exact (hf k h1).imp (fun h2 => List.mem_append_right _ h2) id, fun _ _ _ => rfl⟩
 have ho' : (w8.setCell ⟨R, 6, none⟩ v').ownsRow n1 23 1 v' (S.E6 ++ [e]).length (S.E6 ++ [e]) := by
  rw [List.length_append]
  refine Kg.ownsRow_setOther ho (fun hb => ?_) _
  obtain ⟨c, h3⟩ := own_blk ho hb.symm
  have h4 := (t8.block R hRl hRn).trans h.r
  rw [h4] at h3
  cases h3
 have kp : ∀ {e' n : Nat} {u : Value} {xs : List Value}, w.ownsRow n1 e' 1 u n xs → (∀ k, S.v6.ownBlock = some k → u.ownBlock ≠ some k) → e' ≠ 37 → (w8.setCell ⟨R, 6, none⟩ v').ownsRow n1 e' 1 u n xs := fun hu hne hty => by
  refine Kg.ownsRow_setOther (Kg.row_keep2 hu t8 (fun k hk hm => by rw [Option.mem_toList] at hm; exact hne k hm hk)) (fun hb => ?_) _
  obtain ⟨c, h3⟩ := own_blk hu hb.symm
  rw [h.r] at h3
  cases h3
  exact hty rfl
 refine ⟨⟨?_, h.hR, kp h.o1 (own_ne h.o6 h.o1 (by decide)) (by decide), kp h.o2 (own_ne h.o6 h.o2 (by decide)) (by decide), kp h.o5 (own_ne h.o6 h.o5 (by decide)) (by decide), ho', kp h.o7 (own_ne h.o6 h.o7 (by decide)) (by decide), (fun u hu => (h.m1 u hu).stp s), (fun u hu => (h.m2 u hu).stp s), (fun u hu => (h.m5 u hu).stp s), (fun u hu => by rcases List.mem_append.1 hu with h1 | h1; exact (h.m6 u h1).stp s; rw [List.mem_singleton] at h1; rw [h1]; exact he.stp s), (fun u hu => (h.m7 u hu).stp s), fun k hk => ?_, fun k hk => h.d k (Nat.le_trans tt.size hk), fun k hk => ⟨Nat.lt_of_lt_of_le (h.x k hk).1 tt.size, fun h1 => (hf k h1).elim (h.x k hk).2 (fun h2 => by have := (h.x k hk).1; omega)⟩⟩, s, s0⟩
 ·have h4 := (t8.block R hRl hRn).trans h.r
  rw [Kg.heap_set h4]
  rfl
 ·rcases List.mem_append.1 hk with h0 | h0
  ·exact h.z k (List.mem_append_left _ h0)
  rcases hf k h0 with h1 | h1
  ·exact h.z k (List.mem_append_right _ h1)
  ·exact h.d k h1
def RS.put7 (S : RS) (v' e : Value) : RS := { S with v7 := v', E7 := S.E7 ++ [e] }
theorem Bd.put7 {w w8 : World} {n1 R : Nat} {N : Nat → Nat} {S : RS} {X : List Nat} {v' e : Value} (h : Bd w n1 R N S X) (he : Mk7 w N (X ++ S.F R) e) (ho : w8.ownsRow n1 22 1 v' (S.E7.length + 1) (S.E7 ++ [e])) (t8 : Kg.Touch S.v7.ownBlock.toList w w8) (hat : v'.ownBlock = S.v7.ownBlock ∨ v'.ownBlock = some w.heap.size) :
  Bd (w8.setCell ⟨R, 7, none⟩ v') n1 R N (S.put7 v' e) X ∧ Stp w (w8.setCell ⟨R, 7, none⟩ v') (X ++ S.F R) (X ++ (S.put7 v' e).F R) N N ∧ Stp w (w8.setCell ⟨R, 7, none⟩ v') (S.F R) ((S.put7 v' e).F R) N N := by
 have hRl := Kg.heap_lt h.r
 have hRn : R ∉ S.v7.ownBlock.toList := fun hm => by
  rw [Option.mem_toList] at hm
  obtain ⟨c, h3⟩ := own_blk h.o7 hm
  rw [h.r] at h3
  cases h3
 have t9 : Kg.Touch [R] w8 (w8.setCell ⟨R, 7, none⟩ v') := Kg.Touch.setCell _ _ _ (by simp)
 have hF : ∀ k, k ∈ S.v7.ownBlock.toList → k ∈ S.F R := fun k hk => by simp only [RS.F, List.mem_cons, List.mem_append]; exact (.inr (.inr (.inr (.inr (.inr hk)))))
 have tt : Kg.Touch (S.F R) w (w8.setCell ⟨R, 7, none⟩ v') := (t8.mono (fun k hk => .inl (hF k hk))).trans (t9.mono (fun k hk => .inl (by simp at hk; rw [hk]; simp [RS.F])))
 have hf : ∀ k, k ∈ (S.put7 v' e).F R → k ∈ S.F R ∨ w.heap.size ≤ k := fun k hk => by
  simp only [RS.F, RS.put7, List.mem_cons, List.mem_append, Option.mem_toList] at hk ⊢
  rcases hk with h1 | h1 | h1 | h1 | h1 | h1
  ·exact .inl (.inl h1)
  ·exact .inl (.inr (.inl h1))
  ·exact .inl (.inr (.inr (.inl h1)))
  ·exact .inl (.inr (.inr (.inr (.inl h1))))
  ·exact .inl (.inr (.inr (.inr (.inr (.inl h1)))))
  ·rcases hat with e1 | e1
   ·exact .inl (.inr (.inr (.inr (.inr (.inr (e1 ▸ h1))))))
   ·exact .inr (by rw [e1] at h1; exact Nat.le_of_eq (Option.some.inj h1))
 have s0 : Stp w (w8.setCell ⟨R, 7, none⟩ v') (S.F R) ((S.put7 v' e).F R) N N := ⟨tt, hf, fun _ _ _ => rfl⟩
 have s : Stp w (w8.setCell ⟨R, 7, none⟩ v') (X ++ S.F R) (X ++ (S.put7 v' e).F R) N N := ⟨tt.mono (fun k hk => .inl (List.mem_append_right _ hk)), fun k hk => by
  rcases List.mem_append.1 hk with h1 | h1
  ·exact .inl (List.mem_append_left _ h1)
  ·exact (hf k h1).imp (fun h2 => List.mem_append_right _ h2) id, fun _ _ _ => rfl⟩
 have ho' : (w8.setCell ⟨R, 7, none⟩ v').ownsRow n1 22 1 v' (S.E7 ++ [e]).length (S.E7 ++ [e]) := by
  rw [List.length_append]
  refine Kg.ownsRow_setOther ho (fun hb => ?_) _
  obtain ⟨c, h3⟩ := own_blk ho hb.symm
  have h4 := (t8.block R hRl hRn).trans h.r
  rw [h4] at h3
  cases h3
 have kp : ∀ {e' n : Nat} {u : Value} {xs : List Value}, w.ownsRow n1 e' 1 u n xs → (∀ k, S.v7.ownBlock = some k → u.ownBlock ≠ some k) → e' ≠ 37 → (w8.setCell ⟨R, 7, none⟩ v').ownsRow n1 e' 1 u n xs := fun hu hne hty => by
  refine Kg.ownsRow_setOther (Kg.row_keep2 hu t8 (fun k hk hm => by rw [Option.mem_toList] at hm; exact hne k hm hk)) (fun hb => ?_) _
  obtain ⟨c, h3⟩ := own_blk hu hb.symm
  rw [h.r] at h3
  cases h3
  exact hty rfl
 refine ⟨⟨?_, h.hR, kp h.o1 (own_ne h.o7 h.o1 (by decide)) (by decide), kp h.o2 (own_ne h.o7 h.o2 (by decide)) (by decide), kp h.o5 (own_ne h.o7 h.o5 (by decide)) (by decide), kp h.o6 (own_ne h.o7 h.o6 (by decide)) (by decide), ho', (fun u hu => (h.m1 u hu).stp s), (fun u hu => (h.m2 u hu).stp s), (fun u hu => (h.m5 u hu).stp s), (fun u hu => (h.m6 u hu).stp s), (fun u hu => by rcases List.mem_append.1 hu with h1 | h1; exact (h.m7 u h1).stp s; rw [List.mem_singleton] at h1; rw [h1]; exact he.stp s), fun k hk => ?_, fun k hk => h.d k (Nat.le_trans tt.size hk), fun k hk => ⟨Nat.lt_of_lt_of_le (h.x k hk).1 tt.size, fun h1 => (hf k h1).elim (h.x k hk).2 (fun h2 => by have := (h.x k hk).1; omega)⟩⟩, s, s0⟩
 ·have h4 := (t8.block R hRl hRn).trans h.r
  rw [Kg.heap_set h4]
  rfl
 ·rcases List.mem_append.1 hk with h0 | h0
  ·exact h.z k (List.mem_append_left _ h0)
  rcases hf k h0 with h1 | h1
  ·exact h.z k (List.mem_append_right _ h1)
  ·exact h.d k h1
def upN (N : Nat → Nat) (b n : Nat) : Nat → Nat := fun k => if k = b then n else N k
end Go.Proofs.YtckgcpoheodbcaaGreatDoor
