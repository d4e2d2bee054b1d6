/-
  RootsFrames: the pure side.
-/
import Derived.Test.YtemdmpfifcihfaaR32
set_option linter.unusedVariables false
namespace Go.Proofs.Ytemdmpfifcihfaa
open Go.RowKit

/-- S', where thread t has one frame of n slots more, which holds xs. -/
structure Fx (S S' : Sta) (t n : Nat) (xs : List Int) : Prop where
  T : S'.T = S.T
  a : S'.rw (t * 2) = S.rw (t * 2) ++ [(n : Int)]
  b : S'.rw (t * 2 + 1) = S.rw (t * 2 + 1) ++ xs
  l : xs.length = n
  o : ∀ j, j ≠ t * 2 → j ≠ t * 2 + 1 → S'.rw j = S.rw j

theorem Fx.same {S S' S'' : Sta} {t n : Nat} {xs : List Int} (h : Fx S S' t n xs) (hT : S''.T = S'.T) (hr : S''.rw = S'.rw) : Fx S S'' t n xs :=
  ⟨hT.trans h.T, by rw [hr]; exact h.a, by rw [hr]; exact h.b, h.l, fun j h1 h2 => by rw [hr]; exact h.o j h1 h2⟩

theorem Fx.push {S : Sta} {t n : Nat} (he : S.pushE t n = 0) : Fx S (S.pushS t n) t n (List.replicate n 0) := by
  have e : S.pushS t n = S.push t n := by unfold Sta.pushS; rw [if_pos he]; rfl
  rw [e]
  refine ⟨rfl, ?_, ?_, by simp, fun j h1 h2 => ?_⟩
  · show upd (upd S.rw (t * 2) _) (t * 2 + 1) _ (t * 2) = _
    rw [upd_ne _ _ (by omega), upd_same]
  · show upd (upd S.rw (t * 2) _) (t * 2 + 1) _ (t * 2 + 1) = _
    rw [upd_same]
  · show upd (upd S.rw (t * 2) _) (t * 2 + 1) _ j = _
    rw [upd_ne _ _ h2, upd_ne _ _ h1]

theorem Fx.last {S S' : Sta} {t n : Nat} {xs : List Int} (h : Fx S S' t n xs) : S'.lastOf t = n := by
  unfold Sta.lastOf
  show ((S'.rw (t * 2)).getLastD 0).toNat = n
  rw [h.a]
  simp

theorem Fx.slot {S S' : Sta} {t n : Nat} {xs : List Int} (h : Fx S S' t n xs) (ht : t < S.T) {i : Nat} (hi : i < n) : S'.slotE t i = 0 ∧ S'.slotAt t i = (S.rw (t * 2 + 1)).length + i ∧ S'.getV t i = xs.getD i 0 := by
  have h1 : S'.slotE t i = 0 := by
    unfold Sta.slotE
    rw [if_pos (by rw [h.T]; omega), if_neg (by show ¬ S'.rw (t * 2) = []; rw [h.a]; simp), h.last, if_pos (by omega)]
  have h2 : S'.slotAt t i = (S.rw (t * 2 + 1)).length + i := by
    unfold Sta.slotAt
    rw [h.last]
    show (S'.rw (t * 2 + 1)).length - n + i = _
    rw [h.b, List.length_append, h.l]
    omega
  refine ⟨h1, h2, ?_⟩
  unfold Sta.getV
  rw [if_pos h1, h2]
  show (S'.rw (t * 2 + 1)).getD _ 0 = _
  rw [h.b, List.getD_eq_getElem?_getD, List.getElem?_append_right (by omega), Nat.add_sub_cancel_left, List.getD_eq_getElem?_getD]

theorem Fx.set {S S' : Sta} {t n : Nat} {xs : List Int} (h : Fx S S' t n xs) (ht : t < S.T) {i : Nat} (hi : i < n) (x : Int) : Fx S (S'.setS t i x) t n (xs.set i (adr x)) := by
  obtain ⟨h1, h2, -⟩ := h.slot ht hi
  have e : S'.setS t i x = { S' with rw := upd S'.rw (t * 2 + 1) ((S'.rw (t * 2 + 1)).set ((S.rw (t * 2 + 1)).length + i) (adr x)) } := by
    unfold Sta.setS
    rw [if_pos h1, h2]
    rfl
  rw [e]
  refine ⟨h.T, ?_, ?_, by simpa using h.l, fun j h3 h4 => ?_⟩
  · show upd S'.rw (t * 2 + 1) _ (t * 2) = _
    rw [upd_ne _ _ (by omega)]; exact h.a
  · show upd S'.rw (t * 2 + 1) _ (t * 2 + 1) = _
    rw [upd_same, h.b, List.set_append_right _ _ (by omega), Nat.add_sub_cancel_left]
  · show upd S'.rw (t * 2 + 1) _ j = _
    rw [upd_ne _ _ h4]; exact h.o j h3 h4

theorem Fx.pop {S S' : Sta} {t n : Nat} {xs : List Int} (h : Fx S S' t n xs) (ht : t < S.T) : S'.popE t = 0 ∧ (S'.popS t).T = S.T ∧ (S'.popS t).rw = S.rw := by
  have h1 : S'.popE t = 0 := by
    unfold Sta.popE
    rw [if_pos (by rw [h.T]; omega), if_neg (by show ¬ S'.rw (t * 2) = []; rw [h.a]; simp)]
  have e : S'.popS t = S'.pop t n := by
    unfold Sta.popS
    rw [if_pos h1]
    show S'.pop t ((S'.rw (t * 2)).getLastD 0).toNat = _
    rw [h.a]
    simp
  refine ⟨h1, by rw [e]; exact h.T, ?_⟩
  rw [e]
  show upd (upd S'.rw (t * 2) (S'.rw (t * 2)).dropLast) (t * 2 + 1) ((S'.rw (t * 2 + 1)).take ((S'.rw (t * 2 + 1)).length - n)) = S.rw
  funext j
  by_cases e1 : j = t * 2 + 1
  · subst e1
    rw [upd_same, h.b, List.length_append, h.l, Nat.add_sub_cancel, List.take_left]
  · rw [upd_ne _ _ e1]
    by_cases e2 : j = t * 2
    · subst e2
      rw [upd_same, h.a]
      simp
    · rw [upd_ne _ _ e2]
      exact h.o j e2 e1

theorem top_congr {S S' : Sta} (hT : S'.T = S.T) (hr : S'.rw = S.rw) (t : Int) : S'.topOf t = S.topOf t ∧ S'.frames t = S.frames t := by
  unfold Sta.topOf Sta.frames Sta.lastOf
  rw [hT, hr]
  exact ⟨rfl, rfl⟩

/-- What the frame holds behind k values. -/
def fill (l : List Int) (n k : Nat) : List Int := (List.range n).map fun i => if i < k then adr (l.getD i 0) else 0

theorem fill_zero (l : List Int) (n : Nat) : fill l n 0 = List.replicate n 0 := by
  unfold fill
  rw [List.eq_replicate_iff]
  refine ⟨by simp, fun x hx => ?_⟩
  obtain ⟨i, -, rfl⟩ := List.mem_map.1 hx
  simp

theorem fill_set {l : List Int} {n k : Nat} {x : Int} (hx : l[k]? = some x) (hk : k < n) : (fill l n k).set k (adr x) = fill l n (k + 1) := by
  apply List.ext_getElem?
  intro i
  unfold fill
  rw [List.getElem?_set]
  by_cases e : k = i
  · subst e
    rw [if_pos rfl]
    simp [hk, hx]
  · rw [if_neg e]
    by_cases hi : i < n
    · simp only [List.getElem?_map, List.getElem?_range hi, Option.map_some]
      by_cases h : i < k
      · rw [if_pos h, if_pos (by omega)]
      · rw [if_neg h, if_neg (by omega)]
    · rw [List.getElem?_eq_none (by simp; omega), List.getElem?_eq_none (by simp; omega)]

theorem fill_get {l : List Int} {n k i : Nat} {x : Int} (hx : l[i]? = some x) (hi : i < n) (hk : i < k) : (fill l n k).getD i 0 = adr x := by
  unfold fill
  rw [List.getD_eq_getElem?_getD]
  simp [hi, hk, hx]

/-- All that stands between two steps. -/
structure Pf (w : World) (b : Nat) (S : Sta) (t n s u : Nat) (vb vz : Value) (xs : List Int) (M : Nat) (W : World) : Prop where
  ex : ∃ N S' F, Rts W w.heap.size b N S' F ∧ S'.Ok ∧ Fx S S' t n xs ∧ N ≤ M ∧ ∀ k, k ∈ F → k < s ∨ u ≤ k
  be : Below w.heap.size w W
  fr : Fr W s u vb (fun i => S.topOf i) 8
  sz : Ls W s u vz (S.frames t)
  u1 : u ≤ W.heap.size

theorem Pf.next {w : World} {b : Nat} {S : Sta} {t n s u : Nat} {vb vz : Value} {xs xs' : List Int} {M M' N' : Nat} {W W' : World} {N : Nat} {S' S'' : Sta} {F F' : List Nat} (p : Pf w b S t n s u vb vz xs M W) (h1 : Rts W w.heap.size b N S' F) (hF : ∀ k, k ∈ F → k < s ∨ u ≤ k)
    (h2 : Rts W' w.heap.size b N' S'' F') (ok : S''.Ok) (fx : Fx S S'' t n xs') (hN : N' ≤ M') (ht : Touch F W W') (hn : Newer W.heap.size F F') : Pf w b S t n s u vb vz xs' M' W' :=
  ⟨⟨N', S'', F', h2, ok, fx, hN, fun k hk => by
    rcases hn k hk with h | h
    · exact hF k h
    · exact .inr (Nat.le_trans p.u1 h)⟩, p.be.trans (ht.below p.be.size (fun j hj => (h1.mem j hj).1)), p.fr.keep ht hF, p.sz.keep ht hF, Nat.le_trans p.u1 ht.size⟩

theorem Pf.below {w : World} {b : Nat} {S : Sta} {t n s u : Nat} {vb vz : Value} {xs : List Int} {M : Nat} {W W' : World} (p : Pf w b S t n s u vb vz xs M W) (hb : Below W.heap.size W W') : Pf w b S t n s u vb vz xs M W' := by
  obtain ⟨N, S', F, h1, h2, h3, h4, h5⟩ := p.ex
  exact ⟨⟨N, S', F, h1.nil (Touch.of_below hb _), h2, h3, h4, h5⟩, p.be.trans (hb.mono p.be.size), p.fr.below hb, p.sz.below hb, Nat.le_trans p.u1 hb.size⟩

theorem Pf.mono {w : World} {b : Nat} {S : Sta} {t n s u : Nat} {vb vz : Value} {xs : List Int} {M : Nat} {W : World} (p : Pf w b S t n s u vb vz xs M W) : Pf w b S t n s u vb vz xs (M + 1) W := by
  obtain ⟨N, S', F, h1, h2, h3, h4, h5⟩ := p.ex
  exact ⟨⟨N, S', F, h1, h2, h3, by omega, h5⟩, p.be, p.fr, p.sz, p.u1⟩

theorem pf_get {w : World} {b : Nat} {S : Sta} {t n s u : Nat} {vb vz : Value} {xs : List Int} {M : Nat} {W : World} (p : Pf w b S t n s u vb vz xs M W) (ht : t < S.T) {i : Nat} (hi : i < n) : Calls Try.prog 22 #[.pointer (some ⟨b, 0, none⟩), .int .i64 t, .int .i64 i] W fun e W' => e = .returned (.tuple #[.int .i64 (xs.getD i 0), .int .i64 0]) ∧ Pf w b S t n s u vb vz xs M W' := by
  obtain ⟨N, S', F, h1, h2, h3, h4, h5⟩ := p.ex
  have hg := get_any w.heap.size b N t i S' F W h1 h2
  obtain ⟨e1, -, e3⟩ := h3.slot ht hi
  rw [e1, e3] at hg
  refine hg.mono ?_
  rintro e W' ⟨rfl, nq, rfl⟩
  exact ⟨rfl, p.below (below_drewN (Below.refl _ _) _)⟩

theorem pf_set {w : World} {b : Nat} {S : Sta} {t n s u : Nat} {vb vz : Value} {xs : List Int} {M : Nat} {W : World} (p : Pf w b S t n s u vb vz xs M W) (ht : t < S.T) {i : Nat} (hi : i < n) (x : Int) : Calls Try.prog 23 #[.pointer (some ⟨b, 0, none⟩), .int .i64 t, .int .i64 i, .int .i64 x] W fun e W' => e = .returned (.int .i64 0) ∧ Pf w b S t n s u vb vz (xs.set i (adr x)) M W' := by
  obtain ⟨N, S', F, h1, h2, h3, h4, h5⟩ := p.ex
  have hg := set_any w.heap.size b N t i x S' F W h1 h2
  obtain ⟨e1, -, -⟩ := h3.slot ht hi
  rw [e1] at hg
  refine hg.mono ?_
  rintro e W' ⟨rfl, h6, h7⟩
  exact ⟨rfl, p.next h1 h5 h6 (h2.setS t i x) (h3.set ht hi x) h4 h7 (Newer.refl _ _)⟩

theorem pf_open {w : World} {b : Nat} {S : Sta} {t n s u : Nat} {vb vz : Value} {xs : List Int} {M : Nat} {W : World} (p : Pf w b S t n s u vb vz xs M W) (x : Int) : ∃ e0 e1, Calls Try.prog 24 #[.pointer (some ⟨b, 0, none⟩), .int .i64 x] W fun e W' => e = .returned (.tuple #[.int .i64 e0, .int .i64 e1]) ∧ Pf w b S t n s u vb vz xs (M + 1) W' := by
  obtain ⟨N, S', F, h1, h2, h3, h4, h5⟩ := p.ex
  refine ⟨S'.openV, S'.openE, (hopen_any _ b N x S' F W h1 h2).mono ?_⟩
  rintro e W' ⟨rfl, h6, h7⟩
  exact ⟨rfl, p.next h1 h5 h6 (h2.openS x) (h3.same (by unfold Sta.openS; split <;> rfl) (by unfold Sta.openS; split <;> rfl)) (by omega) h7 (Newer.refl _ _)⟩

theorem pf_close {w : World} {b : Nat} {S : Sta} {t n s u : Nat} {vb vz : Value} {xs : List Int} {M : Nat} {W : World} (p : Pf w b S t n s u vb vz xs M W) (i : Int) : ∃ e0, Calls Try.prog 25 #[.pointer (some ⟨b, 0, none⟩), .int .i64 i] W fun e W' => e = .returned (.int .i64 e0) ∧ Pf w b S t n s u vb vz xs (M + 1) W' := by
  obtain ⟨N, S', F, h1, h2, h3, h4, h5⟩ := p.ex
  refine ⟨S'.handleE i, (hclose_any _ b N i S' F W h1 h2).mono ?_⟩
  rintro e W' ⟨rfl, h6, h7⟩
  exact ⟨rfl, p.next h1 h5 h6 (h2.closeS i) (h3.same (by unfold Sta.closeS; split <;> rfl) (by unfold Sta.closeS; split <;> rfl)) (by omega) h7 (Newer.refl _ _)⟩

theorem pf_enq {w : World} {b : Nat} {S : Sta} {t n s u : Nat} {vb vz : Value} {xs : List Int} {M : Nat} {W : World} (p : Pf w b S t n s u vb vz xs M W) (x : Int) (hM : M < 8796093022208) : Calls Try.prog 26 #[.pointer (some ⟨b, 0, none⟩), .int .i64 x] W fun e W' => e = .returned (.tuple #[]) ∧ Pf w b S t n s u vb vz xs (M + 1) W' := by
  obtain ⟨N, S', F, h1, h2, h3, h4, h5⟩ := p.ex
  refine (enqueue_any _ b N x S' F W h1 p.be.size (by omega)).mono ?_
  rintro e W' ⟨rfl, F', h6, h7, h8⟩
  exact ⟨rfl, p.next h1 h5 h6 (h2.enqS x) (h3.same rfl rfl) (by omega) h7 h8⟩

theorem pf_deq {w : World} {b : Nat} {S : Sta} {t n s u : Nat} {vb vz : Value} {xs : List Int} {M : Nat} {W : World} (p : Pf w b S t n s u vb vz xs M W) (hM : M < 8796093022208) : ∃ e0 o, Calls Try.prog 27 #[.pointer (some ⟨b, 0, none⟩)] W fun e W' => e = .returned (.tuple #[.int .i64 e0, .bool o]) ∧ Pf w b S t n s u vb vz xs (M + 1) W' := by
  obtain ⟨N, S', F, h1, h2, h3, h4, h5⟩ := p.ex
  refine ⟨S'.deqV, !S'.qs.isEmpty, (dequeue_any _ b N S' F W h1 (by omega)).mono ?_⟩
  rintro e W' ⟨rfl, h6, h7⟩
  exact ⟨rfl, p.next h1 h5 h6 h2.deqS (h3.same rfl rfl) (by omega) h7 (Newer.refl _ _)⟩

/-- Popped: all is as it was. -/
theorem pf_pop {w : World} {b : Nat} {S : Sta} {t n s u : Nat} {vb vz : Value} {xs : List Int} {M : Nat} {W : World} (p : Pf w b S t n s u vb vz xs M W) (ht : t < S.T) : Calls Try.prog 14 #[.pointer (some ⟨b, 0, none⟩), .int .i64 t] W fun e W' => e = .returned (.int .i64 0) ∧ (∃ N S' F, Rts W' w.heap.size b N S' F ∧ S'.Ok ∧ S'.T = S.T ∧ S'.rw = S.rw) ∧ Below w.heap.size w W' ∧ Fr W' s u vb (fun i => S.topOf i) 8 ∧ Ls W' s u vz (S.frames t) := by
  obtain ⟨N, S', F, h1, h2, h3, h4, h5⟩ := p.ex
  have hp := pop_any w.heap.size b N t S' F W h1 h2
  obtain ⟨e1, e2, e3⟩ := h3.pop ht
  rw [e1] at hp
  refine hp.mono ?_
  rintro e W' ⟨rfl, F', h6, h7, h8⟩
  exact ⟨rfl, ⟨N, _, F', h6, h2.popS t, e2, e3⟩, p.be.trans (h7.below p.be.size (fun j hj => (h1.mem j hj).1)), p.fr.keep h7 h5, p.sz.keep h7 h5⟩

/-- Push into a thread that there is. -/
theorem push_two {S : Sta} {t n : Nat} (ht : t < S.T) (hn : 1 ≤ n) : S.pushE t n = 0 ∨ (S.pushE t n = 53 ∧ S.most < (S.rw (t * 2 + 1)).length + n) := by
  unfold Sta.pushE
  rw [if_pos (by omega), if_neg (by omega)]
  by_cases h : (S.most : Int) - ((S.rw ((t : Int).toNat * 2 + 1)).length : Int) < n
  · rw [if_pos h]
    refine .inr ⟨rfl, ?_⟩
    have h' : (S.most : Int) - ((S.rw (t * 2 + 1)).length : Int) < n := h
    omega
  · rw [if_neg h]; exact .inl rfl

end Go.Proofs.Ytemdmpfifcihfaa
