/-
  TenureAsks, walked.
-/
import Derived.Test.YtdcmpilgfkaamaaDoorK14
set_option linter.unusedVariables false
set_option maxRecDepth 20000
namespace Go.Proofs.YtdcmpilgfkaamaaDoor
open Go.RowKit

/-- A new book. -/
def bk0 : Nat → Value := fun i => if i < 2 then .bool false else if i < 4 then .int .i64 0 else if (i - 4) % 9 = 8 then .int .i64 0 else .slice none 0 0

theorem bk0_lit : (#[.bool false, .bool false, .int .i64 0, .int .i64 0, .slice none 0 0, .slice none 0 0, .slice none 0 0, .slice none 0 0, .slice none 0 0, .slice none 0 0, .slice none 0 0, .slice none 0 0, .int .i64 0, .slice none 0 0, .slice none 0 0, .slice none 0 0, .slice none 0 0, .slice none 0 0, .slice none 0 0, .slice none 0 0, .slice none 0 0, .int .i64 0, .slice none 0 0, .slice none 0 0, .slice none 0 0, .slice none 0 0, .slice none 0 0, .slice none 0 0, .slice none 0 0, .slice none 0 0, .int .i64 0, .slice none 0 0, .slice none 0 0, .slice none 0 0, .slice none 0 0, .slice none 0 0, .slice none 0 0, .slice none 0 0, .slice none 0 0, .int .i64 0, .slice none 0 0, .slice none 0 0, .slice none 0 0, .slice none 0 0, .slice none 0 0, .slice none 0 0, .slice none 0 0, .slice none 0 0, .int .i64 0, .slice none 0 0, .slice none 0 0, .slice none 0 0, .slice none 0 0, .slice none 0 0, .slice none 0 0, .slice none 0 0, .slice none 0 0, .int .i64 0, .slice none 0 0, .slice none 0 0, .slice none 0 0, .slice none 0 0, .slice none 0 0, .slice none 0 0, .slice none 0 0, .slice none 0 0, .int .i64 0, .slice none 0 0, .slice none 0 0, .slice none 0 0, .slice none 0 0, .slice none 0 0, .slice none 0 0, .slice none 0 0, .slice none 0 0, .int .i64 0, .slice none 0 0, .slice none 0 0, .slice none 0 0, .slice none 0 0, .slice none 0 0, .slice none 0 0, .slice none 0 0, .slice none 0 0, .int .i64 0, .slice none 0 0, .slice none 0 0, .slice none 0 0, .slice none 0 0, .slice none 0 0, .slice none 0 0, .slice none 0 0, .slice none 0 0, .int .i64 0, .slice none 0 0, .slice none 0 0, .slice none 0 0, .slice none 0 0, .slice none 0 0, .slice none 0 0, .slice none 0 0, .slice none 0 0, .int .i64 0, .slice none 0 0, .slice none 0 0, .slice none 0 0, .slice none 0 0, .slice none 0 0, .slice none 0 0, .slice none 0 0, .slice none 0 0, .int .i64 0, .slice none 0 0, .slice none 0 0, .slice none 0 0, .slice none 0 0, .slice none 0 0, .slice none 0 0, .slice none 0 0, .slice none 0 0, .int .i64 0] : Array Value) = bkc bk0 := by kernel_rfl

theorem bk0_nil (o : Nat) (h1 : 4 ≤ o) (h2 : (o - 4) % 9 = 0) : Nil9 bk0 o := by
  refine ⟨?_, ?_, ?_, ?_, ?_, ?_, ?_, ?_⟩ <;> (unfold bk0; rw [if_neg (by omega), if_neg (by omega), if_neg (by omega)])

theorem bk0_row (j : Nat) (h1 : 13 ≤ j) (h2 : j ≤ 20) : bk0 j = .slice none 0 0 := by
  unfold bk0; rw [if_neg (by omega), if_neg (by omega), if_neg (by omega)]

theorem bok0 {w : World} {base b : Nat} (h : Bk w b bk0) (hb : base ≤ b) : Bok w base b bk0 (fun _ => []) [] [] [] 0 0 0 0 := by
  refine ⟨⟨h, hb, fun j h1 h2 => ?_, fun i j k a1 a2 a3 a4 _ e => ?_, fun j k a1 a2 e => ?_, by simp, fun k hk => by cases hk⟩, Prs.nil _ _, Wts.nil _ _, rfl, rfl, rfl, rfl, rfl, ⟨by simp, fun v hv => by cases hv⟩, ⟨bk0_nil 4 (by decide) (by decide), bk0_nil 22 (by decide) (by decide), bk0_nil 31 (by decide) (by decide), bk0_nil 40 (by decide) (by decide), bk0_nil 49 (by decide) (by decide), bk0_nil 58 (by decide) (by decide), bk0_nil 67 (by decide) (by decide), bk0_nil 76 (by decide) (by decide), bk0_nil 85 (by decide) (by decide), bk0_nil 94 (by decide) (by decide), bk0_nil 103 (by decide) (by decide), bk0_nil 112 (by decide) (by decide)⟩, rfl, rfl, rfl, rfl, rfl, by omega, by omega, by omega, by simp⟩
  · rw [bk0_row j h1 h2]; exact World.ownsRow_nil _ _ _ _
  · rw [bk0_row i a1 a2] at e; cases e
  · rw [bk0_row j a1 a2] at e; cases e

/-- Both histories, as sameInts tells; the program's is new. -/
theorem All7.hist {w : World} {base b tb rb : Nat} {wa : Int} {mo : Nat} {L : List Int} {T : Nat} (h : All7 w base b tb rb wa mo L T) (hlen : L.length < 1000000) :
    Calls Tryd.prog 9 #[.pointer (some ⟨tb, 0, none⟩)] w (fun e w1 => ∃ g l, e = .returned (.slice (some ⟨g, 0, none⟩) l.length l.length) ∧ w.heap.size ≤ g ∧ Lone w1 g l ∧ Below w.heap.size w w1 ∧ 1 ≤ l.length ∧ l.length ≤ 16 ∧
      Calls Tryd.prog 11 #[.pointer (some ⟨rb, 0, none⟩)] w1 (fun e w2 => ∃ v2, e = .returned v2 ∧ Below w1.heap.size w1 w2 ∧
        Calls Tryd.prog 10 #[.slice (some ⟨g, 0, none⟩) l.length l.length, v2] w2 (fun e w3 => e = .returned (.bool true) ∧ Below w2.heap.size w2 w3))) := by
  obtain ⟨f0, xs, K, ms, ds, turn, seen, F, _, hP, _⟩ := h.ex
  obtain ⟨f, n, h1, h2⟩ := hP.t
  refine (history_any h1).mono ?_
  rintro e w' ⟨k, rfl, hk, hl, hb⟩
  rw [h2.list] at hl
  have hn := last16_length L n h2.n_
  have hn0 := h1.n0
  have hn1 := h1.n1
  refine ⟨k, last16 L, by rw [hn], hk, hl, hb, by omega, by omega, ?_⟩
  refine (rhistory_any (hP.r.nil hb) hlen).mono ?_
  rintro e w2 ⟨v2, rfl, hr, hb2⟩
  refine ⟨_, rfl, hb2, ?_⟩
  obtain ⟨g, cap, rfl⟩ := ownsRow_some hr (by omega)
  have hs := same7_some k 0 (last16 L).length g 0 cap (last16 L) w2 (by omega) (fun j x hj => by
    have hc : w'.cell? ⟨k, j, none⟩ = some (.int .i64 x) := by rw [heap_cell hl]; simp [ints, hj]
    rw [Nat.zero_add, ← hc]
    simp [World.cell?, hb2.block k (World.block_lt_of_cell? _ _ hc)]) (fun j x hj => by
    obtain ⟨g2, cap2, e2, hc⟩ := row_cell hr j x hj
    simp only [Value.slice.injEq, Option.some.injEq, Addr.mk.injEq, true_and, and_true] at e2
    obtain ⟨rfl, rfl⟩ := e2
    rw [Nat.zero_add]; exact hc)
  refine hs.mono ?_
  rintro e w3 ⟨rfl, nq, rfl⟩
  exact ⟨rfl, Touch.below (Touch.drewN [] w2 nq) (Nat.le_refl _) (fun k hk => by cases hk)⟩

/-- What is asked between. -/
theorem All7.ask {w : World} {base b tb rb : Nat} {wa : Int} {mo : Nat} {L : List Int} {T : Nat} (h : All7 w base b tb rb wa mo L T) (hlen : L.length < 1000000) (hL : ∀ y, y ∈ L → 1 ≤ y ∧ y ≤ 15) : ∃ x : Int, 1 ≤ x ∧ x ≤ 15 ∧
    (∀ w1, Below w.heap.size w w1 → Calls Tryd.prog 5 #[.pointer (some ⟨tb, 0, none⟩)] w1 (fun e w' => e = .returned (.int .i64 x) ∧ Below w1.heap.size w1 w')) ∧
    (∀ w1 age, Below w.heap.size w w1 → Calls Tryd.prog 6 #[.pointer (some ⟨tb, 0, none⟩), .int .i64 age] w1 (fun e w' => e = .returned (.bool (decide (x ≤ age))) ∧ Below w1.heap.size w1 w')) ∧
    (∀ w1, Below w.heap.size w w1 → Calls Tryd.prog 7 #[.pointer (some ⟨rb, 0, none⟩)] w1 (fun e w' => e = .returned (.int .i64 x) ∧ Below w1.heap.size w1 w')) ∧
    (∀ w1 age, Below w.heap.size w w1 → Calls Tryd.prog 8 #[.pointer (some ⟨rb, 0, none⟩), .int .i64 age] w1 (fun e w' => e = .returned (.bool (decide (x ≤ age))) ∧ Below w1.heap.size w1 w')) := by
  obtain ⟨f0, xs, K, ms, ds, turn, seen, F, _, hP, _⟩ := h.ex
  obtain ⟨f, n, h1, h2⟩ := hP.t
  have hx := hL (f (n - 1)) (List.mem_of_getElem? (h2.last h1.n0))
  exact ⟨f (n - 1), hx.1, hx.2, fun w1 hb => threshold_any (h1.below hb), fun w1 age hb => old_any (h1.below hb) age, fun w1 hb => rthreshold_any (hP.r.nil hb) _ (h2.last h1.n0) hlen, fun w1 age hb => rold_any (hP.r.nil hb) _ (h2.last h1.n0) hlen age⟩

/-- A Turn of both. -/
theorem All7.turn {w : World} {base b tb rb : Nat} {wa : Int} {mo : Nat} {L : List Int} {T : Nat} (h : All7 w base b tb rb wa mo L T) (hlen : L.length < 1000000) (hL : ∀ y, y ∈ L → 1 ≤ y ∧ y ≤ 15) (ws : Nat → Int) :
    ∃ x e L', L'.length ≤ L.length + 1 ∧ (∀ y, y ∈ L' → 1 ≤ y ∧ y ≤ 15) ∧ Calls Tryd.prog 14 #[.pointer (some ⟨tb, 0, none⟩), .agg (av ws)] w (fun ee w1 => ee = .returned (.tuple #[.int .i64 x, .int .i64 e]) ∧ Below base w w1 ∧
      Calls Tryd.prog 15 #[.pointer (some ⟨rb, 0, none⟩), .agg (av ws)] w1 (fun ee w2 => ee = .returned (.tuple #[.int .i64 x, .int .i64 e]) ∧ All7 w2 base b tb rb wa mo L' T ∧ Below base w w2)) := by
  have hbs := h.base
  obtain ⟨f0, xs, K, ms, ds, turn, seen, F, hB, h1, hA⟩ := h.ex
  have key : ∃ x e L', Goes w base tb rb wa mo L F ws x e L' ∧ ∀ y, y ∈ L' → 1 ≤ y ∧ y ≤ 15 := by
    obtain ⟨f, n, k1, k2⟩ := h1.t
    by_cases hw : Wk ws
    · obtain ⟨r, hr⟩ : ∃ r, IsNext wa mo ws r := by
        have := isnext_ex wa ws (mo - 1)
        rwa [show mo - 1 + 1 = mo by have := k1.m0; omega] at this
      refine ⟨r, 0, L ++ [(r : Int)], ⟨?_, ?_, by simp⟩, fun y hy => ?_⟩
      · refine (turn_is k1 ws hw r hr).mono ?_
        rintro e w' ⟨rfl, h3, h4⟩
        exact ⟨rfl, ⟨_, _, h3, k2.step r⟩, h4⟩
      · intro w1 h3 h4
        exact rturn_ok h3 h4 hlen ws hw r hr
      · rcases List.mem_append.1 hy with hy | hy
        · exact hL y hy
        · simp at hy
          have := hr.lo
          have := hr.hi
          have := k1.m1
          omega
    · refine ⟨0, 71, L, ⟨?_, ?_, by omega⟩, hL⟩
      · refine (turn_bad _ w ws hw).mono ?_
        rintro e w' ⟨rfl, h3⟩
        exact ⟨rfl, ⟨_, _, k1.below h3, k2⟩, Touch.of_below h3 _⟩
      · intro w1 h3 h4
        refine (rturn_bad _ w1 ws hw).mono ?_
        rintro e w' ⟨rfl, h5⟩
        exact ⟨rfl, F, h3.nil h5, Touch.of_below h5 _, Newer.refl _ _⟩
  obtain ⟨x, e, L', G, hL'⟩ := key
  refine ⟨x, e, L', G.len, hL', ?_⟩
  refine G.t.mono ?_
  rintro ee w1 ⟨rfl, hTn, ht⟩
  have hlo := h1.lo
  refine ⟨rfl, ht.below hbs (fun k hk => by simp at hk; omega), ?_⟩
  refine (G.r w1 (h1.r.keep ht (fun j hj he => by simp at he; subst he; exact h1.ap hj)) (Nat.le_trans hbs ht.size)).mono ?_
  rintro ee w2 ⟨rfl, F', hTr, ht3, hnw⟩
  obtain ⟨q1, q2, q3⟩ := h1.turned hTn ht hTr ht3 hnw
  refine ⟨rfl, ⟨f0, xs, K, ms, ds, turn, seen, F', hB.ex q2 hA, q1, fun k hk => ?_⟩, q2.below hbs (fun k hk => (h1.mem k hk).1)⟩
  rcases q3 k hk with h5 | h5
  · exact hA k h5
  · exact ⟨fun ho => by have := (hB.iv.ownLt ho).2; omega, fun hm => by have := (hB.iv.kin k hm).2; omega⟩

end Go.Proofs.YtdcmpilgfkaamaaDoor
