/-
  RootsHandles: the pure side, and what stands between two steps.
-/
import Derived.Test.YtemdmpfifcihfaaR34
set_option linter.unusedVariables false
namespace Go.Proofs.Ytemdmpfifcihfaa
open Go.RowKit

/-- hs' is hs, but that the handles ms[i] from the j-th on are open and hold the values. -/
structure Opn (hs hs' : List (Option Int)) (ms : List Int) (l : List Int) (j : Nat) : Prop where
  len : hs'.length = hs.length
  at_ : ∀ (i : Nat) (m : Int), j ≤ i → ms[i]? = some m → 0 ≤ m ∧ m.toNat < hs.length ∧ hs[m.toNat]? = some none ∧ hs'[m.toNat]? = some (some (adr (l.getD i 0)))
  no : ∀ k : Nat, (∀ (i : Nat) (m : Int), j ≤ i → ms[i]? = some m → m.toNat ≠ k) → hs'[k]? = hs[k]?
  one : ∀ (i i' : Nat) (m m' : Int), ms[i]? = some m → ms[i']? = some m' → m.toNat = m'.toNat → i = i'
  ge : ∀ (i : Nat) (m : Int), ms[i]? = some m → 0 ≤ m

theorem Opn.zero (hs : List (Option Int)) (l : List Int) : Opn hs hs [] l 0 :=
  ⟨rfl, fun i m _ h => by simp at h, fun k _ => rfl, fun i i' m m' h => by simp at h, fun i m h => by simp at h⟩

/-- One more is opened. -/
theorem Opn.snoc {hs hs' : List (Option Int)} {ms l : List Int} {x : Int} (h : Opn hs hs' ms l 0) (hx : l[ms.length]? = some x) {k : Nat} (hk : k < hs'.length) (hc : hop hs' k = false) : Opn hs (hs'.set k (some (adr x))) (ms ++ [(k : Int)]) l 0 := by
  have hkn : hs'[k]? = some none := by
    have := hop_f hk hc
    rw [List.getElem?_eq_getElem hk]
    cases e : hs'[k] with
    | none => rfl
    | some y => rw [e] at this; cases this
  have hnk : ∀ (i : Nat) (m : Int), ms[i]? = some m → m.toNat ≠ k := fun i m hm e => by
    obtain ⟨-, -, -, h4⟩ := h.at_ i m (Nat.zero_le _) hm
    rw [e, hkn] at h4
    cases h4
  refine ⟨by simpa using h.len, fun i m _ hm => ?_, fun j hj => ?_, fun i i' m m' hm hm' e => ?_, fun i m hm => ?_⟩
  · by_cases hi : i < ms.length
    · rw [List.getElem?_append_left hi] at hm
      obtain ⟨h1, h2, h3, h4⟩ := h.at_ i m (Nat.zero_le _) hm
      refine ⟨h1, h2, h3, ?_⟩
      rw [List.getElem?_set_ne (Ne.symm (hnk i m hm))]
      exact h4
    · have hil := (List.getElem?_eq_some_iff.1 hm).1
      simp at hil
      have ei : i = ms.length := by omega
      subst ei
      rw [List.getElem?_append_right (Nat.le_refl _), Nat.sub_self] at hm
      simp at hm
      subst hm
      refine ⟨by omega, by rw [← h.len]; simpa using hk, ?_, ?_⟩
      · show hs[k]? = some none
        rw [← h.no k (fun i m _ hm => hnk i m hm)]; exact hkn
      · rw [show ((k : Int).toNat) = k from rfl, List.getElem?_set_self hk, List.getD_eq_getElem?_getD, hx]; rfl
  · have hjk : k ≠ j := by
      have := hj ms.length (k : Int) (Nat.zero_le _) (by simp)
      simpa using this
    rw [List.getElem?_set_ne hjk]
    exact h.no j (fun i m hi hm => hj i m hi (by rw [List.getElem?_append_left (List.getElem?_eq_some_iff.1 hm).1]; exact hm))
  · by_cases hi : i < ms.length
    · rw [List.getElem?_append_left hi] at hm
      by_cases hi' : i' < ms.length
      · rw [List.getElem?_append_left hi'] at hm'
        exact h.one i i' m m' hm hm' e
      · rw [List.getElem?_append_right (by omega)] at hm'
        have := (List.getElem?_eq_some_iff.1 hm').1
        simp at this
        rw [show i' - ms.length = 0 by omega] at hm'
        simp at hm'
        subst hm'
        exact absurd e (hnk i m hm)
    · rw [List.getElem?_append_right (by omega)] at hm
      have h1 := (List.getElem?_eq_some_iff.1 hm).1
      simp at h1
      rw [show i - ms.length = 0 by omega] at hm
      simp at hm
      subst hm
      by_cases hi' : i' < ms.length
      · rw [List.getElem?_append_left hi'] at hm'
        exact absurd e.symm (hnk i' m' hm')
      · rw [List.getElem?_append_right (by omega)] at hm'
        have := (List.getElem?_eq_some_iff.1 hm').1
        simp at this
        omega
  · by_cases hi : i < ms.length
    · rw [List.getElem?_append_left hi] at hm
      exact h.ge i m hm
    · rw [List.getElem?_append_right (by omega)] at hm
      have h1 := (List.getElem?_eq_some_iff.1 hm).1
      simp at h1
      rw [show i - ms.length = 0 by omega] at hm
      simp at hm
      subst hm
      omega

/-- One is closed. -/
theorem Opn.close {hs hs' : List (Option Int)} {ms l : List Int} {j : Nat} (h : Opn hs hs' ms l j) {m : Int} (hm : ms[j]? = some m) : Opn hs (hs'.set m.toNat none) ms l (j + 1) := by
  obtain ⟨h1, h2, h3, h4⟩ := h.at_ j m (Nat.le_refl _) hm
  refine ⟨by simpa using h.len, fun i m' hi hm' => ?_, fun k hk => ?_, h.one, h.ge⟩
  · obtain ⟨g1, g2, g3, g4⟩ := h.at_ i m' (by omega) hm'
    refine ⟨g1, g2, g3, ?_⟩
    rw [List.getElem?_set_ne (fun e => by have := h.one j i m m' hm hm' e; omega)]
    exact g4
  · by_cases e : m.toNat = k
    · subst e
      rw [List.getElem?_set_self (by rw [h.len]; exact h2), h3]
    · rw [List.getElem?_set_ne e]
      exact h.no k (fun i m' hi hm' => by
        by_cases ei : i = j
        · subst ei; rw [hm] at hm'; cases hm'; exact e
        · exact hk i m' (by omega) hm')

theorem Opn.done {hs hs' : List (Option Int)} {ms l : List Int} (h : Opn hs hs' ms l ms.length) : hs' = hs := by
  apply List.ext_getElem?
  intro k
  refine h.no k (fun i m hi hm => ?_)
  have := (List.getElem?_eq_some_iff.1 hm).1
  omega

/-- All that stands between two steps. -/
structure Ph (w : World) (b : Nat) (S : Sta) (s u : Nat) (vw vf vl : Value) (xl : List Int) (hs : List (Option Int)) (qs : List Int) (M : Nat) (W : World) : Prop where
  ex : ∃ N S' F, Rts W w.heap.size b N S' F ∧ S'.Ok ∧ S'.T = S.T ∧ S'.rw = S.rw ∧ S'.hs = hs ∧ S'.qs = qs ∧ N ≤ M ∧ (∀ k, k ∈ F → k < s ∨ u ≤ k) ∧ ∀ k, vl.ownBlock = some k → k ∉ F
  be : Below w.heap.size w W
  was : Ls W s u vw (tolds S.hs)
  fr : Fr W s u vf (fun i => S.topOf i) 8
  li : W.ownsRow u 3 1 vl xl.length (ints xl)
  u1 : u ≤ W.heap.size
  wu : w.heap.size ≤ u

section
variable {w : World} {b : Nat} {S : Sta} {s u : Nat} {vw vf vl : Value} {xl : List Int} {hs : List (Option Int)} {qs : List Int} {M : Nat} {W W' : World}

theorem Ph.below (p : Ph w b S s u vw vf vl xl hs qs M W) (hb : Below W.heap.size W W') : Ph w b S s u vw vf vl xl hs qs M W' := by
  obtain ⟨N, S', F, h1, h2⟩ := p.ex
  exact ⟨⟨N, S', F, h1.nil (Touch.of_below hb _), h2⟩, p.be.trans (hb.mono p.be.size), p.was.below hb, p.fr.below hb, own_keep (k := 0) p.li (fun k e => hb.block k (p.li.lt k e).2), Nat.le_trans p.u1 hb.size, p.wu⟩

theorem Ph.next (p : Ph w b S s u vw vf vl xl hs qs M W) {N N' M' : Nat} {S' S'' : Sta} {F F' : List Nat} {hs' : List (Option Int)} {qs' : List Int} (h1 : Rts W w.heap.size b N S' F) (hF : ∀ k, k ∈ F → k < s ∨ u ≤ k) (hl : ∀ k, vl.ownBlock = some k → k ∉ F)
    (h2 : Rts W' w.heap.size b N' S'' F') (ok : S''.Ok) (hT : S''.T = S.T) (hr : S''.rw = S.rw) (hh : S''.hs = hs') (hq : S''.qs = qs') (hN : N' ≤ M') (ht : Touch F W W') (hn : Newer W.heap.size F F') : Ph w b S s u vw vf vl xl hs' qs' M' W' := by
  refine ⟨⟨N', S'', F', h2, ok, hT, hr, hh, hq, hN, fun k hk => ?_, fun k e hk => ?_⟩, p.be.trans (ht.below p.be.size (fun j hj => (h1.mem j hj).1)), p.was.keep ht hF, p.fr.keep ht hF, own_keep (k := 0) p.li (fun k e => ht.block k (p.li.lt k e).2 (hl k e)), Nat.le_trans p.u1 ht.size, p.wu⟩
  · rcases hn k hk with h | h
    · exact hF k h
    · exact .inr (Nat.le_trans p.u1 h)
  · rcases hn k hk with h | h
    · exact hl k e h
    · have := (p.li.lt k e).2; omega

/-- The extra list grows. -/
theorem Ph.app (p : Ph w b S s u vw vf vl xl hs qs M W) {w1 : World} {v' : Value} {x : Int} {o : Obj} (hown : w1.ownsRow u 3 1 v' (xl.length + 1) (ints xl ++ [.int .i64 x])) (hgrow : (W.alloc o).grownBy w1 vl.ownBlock) (hat : v'.ownBlock = vl.ownBlock ∨ v'.ownBlock = some (W.heap.size + 1)) : Ph w b S s u vw vf v' (xl ++ [x]) hs qs M w1 := by
  obtain ⟨N, S', F, h1, h2, h3, h4, h5, h6, h7, h8, h9⟩ := p.ex
  have ta : Touch vl.ownBlock.toList W w1 := (Touch.alloc _ _ _).trans (Touch.grown hgrow (fun k hk => by simp [hk]))
  have hG : ∀ k, k ∈ vl.ownBlock.toList → k < s ∨ u ≤ k := fun k hk => .inr (p.li.lt k (by simpa using hk)).1
  refine ⟨⟨N, S', F, h1.keep ta (fun k hk hm => h9 k (by simpa using hm) hk), h2, h3, h4, h5, h6, h7, h8, fun k e hk => ?_⟩, p.be.trans (ta.below p.be.size (fun k hk => Nat.le_trans p.wu (p.li.lt k (by simpa using hk)).1)), p.was.keep ta hG, p.fr.keep ta hG, by simpa using hown, Nat.le_trans p.u1 ta.size, p.wu⟩
  rcases hat with e2 | e2
  · exact h9 k (e2 ▸ e) hk
  · rw [e2] at e; simp only [Option.some.injEq] at e; have := (h1.mem k hk).2; omega

theorem ph_handles (p : Ph w b S s u vw vf vl xl hs qs M W) : Calls Try.prog 13 #[.pointer (some ⟨b, 0, none⟩)] W fun e W' => ∃ v', e = .returned v' ∧ W'.ownsRow W.heap.size 3 1 v' hs.length (ints (tolds hs)) ∧ Below W.heap.size W W' := by
  obtain ⟨N, S', F, h1, h2, h3, h4, h5, h6, h7, h8, h9⟩ := p.ex
  have := handles_any w.heap.size b N S' F W h1 h2
  rw [h5] at this
  exact this

theorem ph_open (p : Ph w b S s u vw vf vl xl hs qs M W) (x : Int) : Calls Try.prog 24 #[.pointer (some ⟨b, 0, none⟩), .int .i64 x] W fun e W' => e = .returned (.tuple #[.int .i64 (if least hs < 0 then 0 else least hs), .int .i64 (if least hs < 0 then 56 else 0)]) ∧ Ph w b S s u vw vf vl xl (if least hs < 0 then hs else hs.set (least hs).toNat (some (adr x))) qs M W' := by
  obtain ⟨N, S', F, h1, h2, h3, h4, h5, h6, h7, h8, h9⟩ := p.ex
  have := hopen_any w.heap.size b N x S' F W h1 h2
  unfold Sta.openV Sta.openE at this
  rw [h5] at this
  refine this.mono ?_
  rintro e W' ⟨rfl, k1, k2⟩
  refine ⟨rfl, p.next h1 h8 h9 k1 (h2.openS x) ?_ ?_ ?_ ?_ h7 k2 (Newer.refl _ _)⟩
  · rw [← h3]; unfold Sta.openS; split <;> rfl
  · rw [← h4]; unfold Sta.openS; split <;> rfl
  · unfold Sta.openS; rw [h5]; split
    · exact h5
    · rfl
  · rw [← h6]; unfold Sta.openS; split <;> rfl

theorem ph_handle (p : Ph w b S s u vw vf vl xl hs qs M W) {m : Int} {y : Int} (hm : 0 ≤ m) (hy : hs[m.toNat]? = some (some y)) : Calls Try.prog 10 #[.pointer (some ⟨b, 0, none⟩), .int .i64 m] W fun e W' => e = .returned (.tuple #[.int .i64 y, .int .i64 0]) ∧ W = W' := by
  obtain ⟨N, S', F, h1, h2, h3, h4, h5, h6, h7, h8, h9⟩ := p.ex
  have := hhandle_any w.heap.size b N m S' F W h1 h2
  have ho : hop S'.hs m.toNat = true := by unfold hop; rw [h5, hy]
  have ea : hat S'.hs m.toNat = y := by unfold hat; rw [h5, hy]
  unfold Sta.handleV Sta.handleE at this
  rw [if_pos ⟨hm, ho⟩, if_pos ⟨hm, ho⟩, ea] at this
  exact this

theorem ph_close (p : Ph w b S s u vw vf vl xl hs qs M W) {m : Int} {y : Int} (hm : 0 ≤ m) (hy : hs[m.toNat]? = some (some y)) : Calls Try.prog 25 #[.pointer (some ⟨b, 0, none⟩), .int .i64 m] W fun e W' => e = .returned (.int .i64 0) ∧ Ph w b S s u vw vf vl xl (hs.set m.toNat none) qs M W' := by
  obtain ⟨N, S', F, h1, h2, h3, h4, h5, h6, h7, h8, h9⟩ := p.ex
  have := hclose_any w.heap.size b N m S' F W h1 h2
  have ho : hop S'.hs m.toNat = true := by unfold hop; rw [h5, hy]
  have eS : S'.closeS m = { S' with hs := S'.hs.set m.toNat none } := by unfold Sta.closeS; rw [if_pos ⟨hm, ho⟩]
  have eE : S'.handleE m = 0 := by unfold Sta.handleE; rw [if_pos ⟨hm, ho⟩]
  rw [eE] at this
  refine this.mono ?_
  rintro e W' ⟨rfl, k1, k2⟩
  exact ⟨rfl, p.next h1 h8 h9 k1 (h2.closeS m) (by rw [eS]; exact h3) (by rw [eS]; exact h4) (by rw [eS, h5]) (by rw [eS]; exact h6) h7 k2 (Newer.refl _ _)⟩

theorem ph_close2 (p : Ph w b S s u vw vf vl xl hs qs M W) {m : Int} (hy : hs[m.toNat]? = some none) : Calls Try.prog 25 #[.pointer (some ⟨b, 0, none⟩), .int .i64 m] W fun e W' => e = .returned (.int .i64 55) ∧ Ph w b S s u vw vf vl xl hs qs M W' := by
  obtain ⟨N, S', F, h1, h2, h3, h4, h5, h6, h7, h8, h9⟩ := p.ex
  have := hclose_any w.heap.size b N m S' F W h1 h2
  have ho : ¬ (0 ≤ m ∧ hop S'.hs m.toNat = true) := by
    rintro ⟨-, h⟩
    unfold hop at h
    rw [h5, hy] at h
    cases h
  have eS : S'.closeS m = S' := by unfold Sta.closeS; rw [if_neg ho]
  have eE : S'.handleE m = 55 := by unfold Sta.handleE; rw [if_neg ho]
  rw [eE] at this
  refine this.mono ?_
  rintro e W' ⟨rfl, k1, k2⟩
  rw [eS] at k1
  exact ⟨rfl, p.next h1 h8 h9 k1 h2 h3 h4 h5 h6 h7 k2 (Newer.refl _ _)⟩

theorem ph_queue (p : Ph w b S s u vw vf vl xl hs qs M W) (hM : M < 8796093022208) : Calls Try.prog 12 #[.pointer (some ⟨b, 0, none⟩)] W fun e W' => ∃ v', e = .returned v' ∧ W'.ownsRow W.heap.size 3 1 v' qs.length (ints qs) ∧ Below W.heap.size W W' := by
  obtain ⟨N, S', F, h1, h2, h3, h4, h5, h6, h7, h8, h9⟩ := p.ex
  have := queue_any w.heap.size b N S' F W h1 (by omega)
  rw [h6] at this
  exact this

theorem ph_enq (p : Ph w b S s u vw vf vl xl hs qs M W) (x : Int) (hM : M < 8796093022208) : Calls Try.prog 26 #[.pointer (some ⟨b, 0, none⟩), .int .i64 x] W fun e W' => e = .returned (.tuple #[]) ∧ Ph w b S s u vw vf vl xl hs (qs ++ [adr x]) (M + 1) W' := by
  obtain ⟨N, S', F, h1, h2, h3, h4, h5, h6, h7, h8, h9⟩ := p.ex
  refine (enqueue_any _ b N x S' F W h1 p.be.size (by omega)).mono ?_
  rintro e W' ⟨rfl, F', k1, k2, k3⟩
  exact ⟨rfl, p.next h1 h8 h9 k1 (h2.enqS x) h3 h4 h5 (by show S'.qs ++ [adr x] = _; rw [h6]) (by omega) k2 k3⟩

theorem ph_deq (p : Ph w b S s u vw vf vl xl hs qs M W) (hM : M < 8796093022208) : Calls Try.prog 27 #[.pointer (some ⟨b, 0, none⟩)] W fun e W' => e = .returned (.tuple #[.int .i64 (qs.headD 0), .bool (!qs.isEmpty)]) ∧ Ph w b S s u vw vf vl xl hs qs.tail M W' := by
  obtain ⟨N, S', F, h1, h2, h3, h4, h5, h6, h7, h8, h9⟩ := p.ex
  have := dequeue_any _ b N S' F W h1 (by omega)
  unfold Sta.deqV at this
  rw [h6] at this
  refine this.mono ?_
  rintro e W' ⟨rfl, k1, k2⟩
  exact ⟨rfl, p.next h1 h8 h9 k1 h2.deqS h3 h4 h5 (by show S'.qs.tail = _; rw [h6]) h7 k2 (Newer.refl _ _)⟩

theorem ph_tops (p : Ph w b S s u vw vf vl xl hs qs M W) : Calls Try.prog 19 #[.pointer (some ⟨b, 0, none⟩)] W fun e W' => ∃ v, e = .returned v ∧ Fr W' W.heap.size W'.heap.size v (fun i => S.topOf i) 8 ∧ Below W.heap.size W W' := by
  obtain ⟨N, S', F, h1, h2, h3, h4, h5, h6, h7, h8, h9⟩ := p.ex
  have := tops_any w.heap.size b N S' F W h1 h2
  have e : (fun i : Nat => S'.topOf (i : Int)) = fun i : Nat => S.topOf (i : Int) := by funext i; exact (top_congr h3 h4 i).1
  rw [e] at this
  exact this

/-- Another extra list, which is new. -/
theorem Ph.swap (p : Ph w b S s u vw vf vl xl hs qs M W) {v' : Value} {xs' : List Int} (hb : Below W.heap.size W W') (ho : W'.ownsRow W.heap.size 3 1 v' xs'.length (ints xs')) : Ph w b S s u vw vf v' xs' hs qs M W' := by
  have p' := p.below hb
  obtain ⟨N, S', F, h1, h2, h3, h4, h5, h6, h7, h8, h9⟩ := p.ex
  exact ⟨⟨N, S', F, h1.nil (Touch.of_below hb _), h2, h3, h4, h5, h6, h7, h8, fun k e hk => by have q1 := (ho.lt k e).1; have q2 := (h1.mem k hk).2; omega⟩, p'.be, p'.was, p'.fr, row_base ho p.u1, p'.u1, p'.wu⟩
end

/-- What the way down finds. -/
theorem least_down {hs : List (Option Int)} {k : Nat} (hk : k < hs.length) : (tolds hs)[k]? = some ((hs[k]).getD (-1)) := by
  unfold tolds
  rw [List.getElem?_map, List.getElem?_eq_getElem hk]
  rfl

/-- The least one from k on. -/
def lfrom (hs : List (Option Int)) (k : Nat) : Int := match (hs.drop k).findIdx? Option.isNone with | some i => ((k + i : Nat) : Int) | none => -1

theorem lfrom_end (hs : List (Option Int)) : lfrom hs hs.length = -1 := by simp [lfrom]
theorem lfrom_zero (hs : List (Option Int)) : lfrom hs 0 = least hs := by
  unfold lfrom least
  rw [List.drop_zero]
  cases hs.findIdx? Option.isNone with
  | none => rfl
  | some i => simp

theorem lfrom_none {hs : List (Option Int)} {k : Nat} (hk : hs[k]? = some none) : lfrom hs k = k := by
  have hl := (List.getElem?_eq_some_iff.1 hk).1
  unfold lfrom
  rw [List.drop_eq_getElem_cons hl, (List.getElem?_eq_some_iff.1 hk).2]
  simp [List.findIdx?_cons]

theorem lfrom_some {hs : List (Option Int)} {k : Nat} {y : Int} (hk : hs[k]? = some (some y)) : lfrom hs k = lfrom hs (k + 1) := by
  have hl := (List.getElem?_eq_some_iff.1 hk).1
  unfold lfrom
  rw [List.drop_eq_getElem_cons hl, (List.getElem?_eq_some_iff.1 hk).2, List.findIdx?_cons]
  simp only [Option.isNone_some, Bool.false_eq_true, if_false]
  cases (hs.drop (k + 1)).findIdx? Option.isNone with
  | none => rfl
  | some i => simp only [Option.map_some]; congr 1; omega

end Go.Proofs.Ytemdmpfifcihfaa
