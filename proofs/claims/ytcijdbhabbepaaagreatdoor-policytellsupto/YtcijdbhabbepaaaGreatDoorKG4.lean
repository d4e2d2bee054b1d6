/-
  sameInts, due, holdInts, Hold.
-/
import Derived.Test.YtcijdbhabbepaaaGreatDoorKG2
import Derived.Test.YtcijdbhabbepaaaGreatDoorKG3
set_option linter.unusedVariables false
set_option maxRecDepth 20000
namespace Go.Proofs.YtcijdbhabbepaaaGreatDoor.Kg
open Go.RowKit

set_option maxHeartbeats 2000000 in
theorem ksame_any (K : List Nat) (v u : Value) (l : List Int) (w : World) (hl : l.length < 100000000000000) (h1 : Rd w K v (ints l)) (h2 : Rd w K u (ints l)) :
    Calls Tryz.prog 50 #[v, u] w fun e w' => e = .returned (.bool true) ∧ w = w' := by
  obtain ⟨a, cap, rfl, -, hc1⟩ := h1
  obtain ⟨a', cap', rfl, -, hc2⟩ := h2
  have H1 : Hid (∀ (j : Nat) x, l[j]? = some x → ∃ b, a = some ⟨b, 0, none⟩ ∧ w.cell? ⟨b, j, none⟩ = some (.int .i64 x)) := fun j x hj => hc1 j _ (by simp [ints, hj])
  have H2 : Hid (∀ (j : Nat) x, l[j]? = some x → ∃ b, a' = some ⟨b, 0, none⟩ ∧ w.cell? ⟨b, j, none⟩ = some (.int .i64 x)) := fun j x hj => hc2 j _ (by simp [ints, hj])
  clear hc1 hc2
  rw [show (ints l).length = l.length by simp [ints]]
  go_enter Tryz.func50, Tryz.ntmps50
  go_wp2
  go_loopw [5] (fun i wr => ∃ k : Nat, k ≤ l.length ∧ i = .int .i64 k ∧ wr = w) (fun i _ => l.length - (intOf i).toNat)
  case atStart => exact ⟨0, Nat.zero_le _, rfl, rfl⟩
  case round =>
    obtain ⟨k, hk, rfl, rfl⟩ := hrel
    by_cases hlt : k < l.length
    · obtain ⟨x, hx⟩ : ∃ x, l[k]? = some x := ⟨_, List.getElem?_eq_getElem hlt⟩
      obtain ⟨b, rfl, c1⟩ := H1.out k x hx
      obtain ⟨b', rfl, c2⟩ := H2.out k x hx
      have hki : (k : Int) < l.length := by omega
      clear hx
      go_wp2
      go_roundw
      case rel => exact ⟨k + 1, hlt, by go_num, trivial⟩
      case measure => simp [intOf]; omega
    · obtain rfl : k = l.length := by omega
      go_wp2
      go_ret
      exact ⟨rfl, rfl⟩

set_option maxHeartbeats 2000000 in
theorem due_any {w : World} {b : Nat} {f : Nat → Value} (h : Bk w b f) (turn : Int) (n : Nat) (h0 : f 0 = .bool false) (h2 : f 2 = .int .i64 turn) (ht0 : 0 ≤ turn) (ht : turn < 4000000000) (hn : n < 4000000000) :
    Calls Tryz.prog 47 #[.pointer (some ⟨b, 0, none⟩), .int .i64 n] w fun e w' => (∃ d, e = .returned (.int .i64 d)) ∧ w = w' := by
  have c0 := h.cell 0
  have c2 := h.cell 2
  rw [h0] at c0
  rw [h2] at c2
  clear h h0 h2
  by_cases m0 : n % 3 = 0
  · have m1 : (n : Int) % 3 = 0 := by omega
    go_enter Tryz.func47, Tryz.ntmps47
    go_wp2
    go_ret
    exact ⟨⟨_, rfl⟩, rfl⟩
  · have m1 : ((n : Int) % 3 == 0) = false := by simp; omega
    by_cases m2 : n % 3 = 1
    · have m3 : (n : Int) % 3 = 1 := by omega
      go_enter Tryz.func47, Tryz.ntmps47
      go_wp2
      go_ret
      exact ⟨⟨_, rfl⟩, rfl⟩
    · have m3 : ((n : Int) % 3 == 1) = false := by simp; omega
      go_enter Tryz.func47, Tryz.ntmps47
      go_wp2
      go_ret
      exact ⟨⟨_, rfl⟩, rfl⟩

/-- Two rows of slices that read alike, one by one. -/
structure Prs (w : World) (K : List Nat) (A B : List Value) : Prop where
  len : A.length = B.length
  at_ : ∀ (i : Nat) v, A[i]? = some v → ∃ u l, B[i]? = some u ∧ Rd w K v (ints l) ∧ Rd w K u (ints l) ∧ l.length ≤ 11000000000000

theorem Prs.off {w w' : World} {K G : List Nat} {A B : List Value} (h : Prs w K A B) (ht : Touch G w w') (hg : ∀ k, k ∈ G → k ∉ K) : Prs w' K A B :=
  ⟨h.len, fun i v hv => by
    obtain ⟨u, l, h1, h2, h3, h4⟩ := h.at_ i v hv
    exact ⟨u, l, h1, h2.off ht hg, h3.off ht hg, h4⟩⟩

theorem Prs.more {w : World} {K : List Nat} {A B : List Value} (h : Prs w K A B) (k : Nat) : Prs w (k :: K) A B :=
  ⟨h.len, fun i v hv => by
    obtain ⟨u, l, h1, h2, h3, h4⟩ := h.at_ i v hv
    exact ⟨u, l, h1, h2.more k, h3.more k, h4⟩⟩

theorem Prs.snoc {w : World} {K : List Nat} {A B : List Value} (h : Prs w K A B) (v u : Value) (l : List Int) (h1 : Rd w K v (ints l)) (h2 : Rd w K u (ints l)) (h3 : l.length ≤ 11000000000000) : Prs w K (A ++ [v]) (B ++ [u]) := by
  refine ⟨by simp [h.len], fun i x hx => ?_⟩
  by_cases hi : i < A.length
  · rw [List.getElem?_append_left hi] at hx
    obtain ⟨y, m, q1, q2, q3, q4⟩ := h.at_ i x hx
    exact ⟨y, m, by rw [List.getElem?_append_left (by have := h.len; omega)]; exact q1, q2, q3, q4⟩
  · have hl := (List.getElem?_eq_some_iff.1 hx).1
    simp at hl
    obtain rfl : i = A.length := by omega
    rw [List.getElem?_append_right (Nat.le_refl _)] at hx
    simp at hx
    subst hx
    exact ⟨u, l, by rw [h.len, List.getElem?_append_right (Nat.le_refl _)]; simp, h1, h2, h3⟩

theorem Prs.nil (w : World) (K : List Nat) : Prs w K [] [] := ⟨rfl, fun i v hv => by simp at hv⟩

/-- A row's element. -/
theorem row_val {w : World} {base n e : Nat} {v : Value} {xs : List Value} (h : w.ownsRow base e 1 v n xs) (j : Nat) (x : Value) (hj : xs[j]? = some x) : ∃ g cap, v = .slice (some ⟨g, 0, none⟩) n cap ∧ w.cell? ⟨g, j, none⟩ = some x := by
  have hjl := (List.getElem?_eq_some_iff.1 hj).1
  have hl : xs.length = n := by simpa using h.1
  rcases h.2 with ⟨rfl, h0⟩ | ⟨g, cap, cur, rfl, _⟩
  · omega
  · refine ⟨g, cap, rfl, ?_⟩
    rw [h.cellAt _ (by omega)]; exact hj

theorem row_sl {w : World} {base n e : Nat} {v : Value} {xs : List Value} (h : w.ownsRow base e 1 v n xs) : ∃ a cap, v = .slice a n cap := by
  rcases h.2 with ⟨rfl, rfl⟩ | ⟨g, cap, cur, rfl, _⟩
  · exact ⟨_, _, rfl⟩
  · exact ⟨_, _, rfl⟩

end Go.Proofs.YtcijdbhabbepaaaGreatDoor.Kg
