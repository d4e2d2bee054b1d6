/-
  The two arenas side by side: any walk.
-/
import Derived.Test.YtbdkcelggffneaaGreatDoorB33
import Derived.Test.YtbdkcelggffneaaGreatDoorAS3
set_option linter.unusedVariables false
set_option maxRecDepth 20000
namespace Go.Proofs.YtbdkcelggffneaaGreatDoor
open Go.RowKit Go.Shelf

theorem past_ex (c : Cfg) (ws : Nat → Int) (T : Int) : ∀ (n : Nat) (a : Int), (T - a).toNat ≤ n → ∃ p, Past c ws T a p
  | 0, a, h => ⟨a, .done (.inl (by omega))⟩
  | n + 1, a, h => by
    by_cases h1 : a < T ∧ IsTag 3 (wat c ws a) ∧ wat c ws a / 4 ≤ T - a
    · obtain ⟨h2, h3, h4⟩ := h1
      have := h3.2.1
      obtain ⟨p, hp⟩ := past_ex c ws T n (a + wat c ws a / 4) (by omega)
      exact ⟨p, .step h2 h3 h4 hp⟩
    · exact ⟨a, .done (by
        by_cases h2 : T ≤ a
        · exact .inl h2
        · exact .inr (fun h3 => h1 ⟨by omega, h3⟩))⟩

theorem walk_ex (c : Cfg) (ws : Nat → Int) (T : Int) : ∀ (n : Nat) (a : Int), (T - a).toNat ≤ n → ∃ l e, Walk c ws T a l e ∧ l.length ≤ n ∧ (∀ y, y ∈ l → a ≤ y ∧ y < T ∧ Stands c ws T y)
  | 0, a, h => ⟨[], a, .done (by omega), Nat.le_refl _, fun y hy => by simp at hy⟩
  | n + 1, a, h => by
    by_cases h1 : a < T
    · by_cases h2 : Stands c ws T a
      · have ho := osz_in c ws a
        obtain ⟨p, hp⟩ := past_ex c ws T (T - (a + osz c ws a)).toNat (a + osz c ws a) (Nat.le_refl _)
        have hg := hp.ge
        obtain ⟨l, e, hw, hl, hy⟩ := walk_ex c ws T n p (by omega)
        refine ⟨a :: l, e, .obj h1 h2 hp hw, by simp; omega, fun y hm => ?_⟩
        rcases List.mem_cons.1 hm with rfl | hm
        · exact ⟨Int.le_refl _, h1, h2⟩
        · have := hy y hm
          exact ⟨by omega, this.2⟩
      · exact ⟨[], a, .fail h1 h2, by simp, fun y hy => by simp at hy⟩
    · exact ⟨[], a, .done (by omega), by simp, fun y hy => by simp at hy⟩

section
variable (p a h r : Nat) (g : Nat → Nat) (c : Cfg) (x : Tps) (sw : Bool) (ws : Nat → Int)

/-- Space s is gone through to the list l. -/
structure Gone (s : Int) (l : List Int) : Prop where
  go : ∃ q e, Past c ws (x.top s) (fst c s) q ∧ Walk c ws (x.top s) q l e
  len : l.length < 1000000
  at_ : ∀ y, y ∈ l → At c x ws y

theorem gone_ex (s : Int) (w : World) (hB : Bo w p a h r g c x sw ws) : ∃ l, Gone c x ws s l ∧
    ∀ w1, Ra w1 r g c x sw ws → Calls Tryz.prog 83 #[.pointer (some ⟨r, 0, none⟩), .int .i64 s] w1 fun e w' => ∃ v z, e = .returned (.tuple #[v, .int .i64 z]) ∧ w'.ownsRow w1.heap.size 3 1 v l.length (l.map (Value.int .i64)) ∧ Below w1.heap.size w1 w' := by
  obtain ⟨s0, s1, s2, s3⟩ := hB.ar.sub_in s
  have hwo := hB.ar.words
  by_cases hs : 1 ≤ s ∧ s ≤ 4
  · obtain ⟨n, rfl⟩ : ∃ n : Nat, s = n := ⟨s.toNat, by omega⟩
    obtain ⟨q, hq⟩ := past_ex c ws (x.top n) (x.top n - fst c n).toNat (fst c n) (Nat.le_refl _)
    have hge := hq.ge
    obtain ⟨l, e, hw, hl, hy⟩ := walk_ex c ws (x.top n) (x.top n - q).toNat q (Nat.le_refl _)
    have hlen : l.length < 1000000 := by omega
    refine ⟨l, ⟨⟨q, e, hq, hw⟩, hlen, fun y hm => ?_⟩, fun w1 hR => ?_⟩
    · obtain ⟨y1, y2, y3⟩ := hy y hm
      have hsp : spc c y = n := at_of hB.ra.ok (by omega) (by omega) (by omega) y2 s2
      refine ⟨by rw [hsp]; omega, by rw [hsp]; exact y2, by rw [hsp]; exact y3⟩
    · refine (rwalk_any r g c x sw ws n (by omega) (by omega) l q e hq hw hlen hB.ar.wat_wd w1 hR).mono ?_
      rintro e' w' ⟨v, rfl, h1, h2⟩
      exact ⟨v, _, rfl, h1, h2⟩
  · have ht : x.top s = fst c s := by
      have h1 : x.top s = 0 := by unfold Tps.top; rw [if_neg (by omega), if_neg (by omega), if_neg (by omega), if_neg (by omega)]
      omega
    refine ⟨[], ⟨⟨fst c s, fst c s, .done (.inl (by omega)), .done (by omega)⟩, by simp, fun y hy => by simp at hy⟩, fun w1 hR => ?_⟩
    refine (rwalk0_any r g c x sw ws s ht w1 hR).mono ?_
    rintro e' w' ⟨rfl, h2⟩
    exact ⟨_, _, rfl, World.ownsRow_nil _ _ _ _, h2⟩

/-- What a loop over the walk's list compares, step by step. -/
structure Cmp (w : World) (L : List Int) (va : Option Addr) (vc : Nat) (tb : Nat) : Prop where
  li : ∀ (i : Nat) y, L[i]? = some y → ∃ q, va = some ⟨q, 0, none⟩ ∧ w.cell? ⟨q, i, none⟩ = some (.int .i64 y)
  t0 : ∃ a1 c1, w.cell? ⟨tb, 0, none⟩ = some (.slice a1 L.length c1) ∧ ∀ (i : Nat) y, L[i]? = some y → ∃ q, a1 = some ⟨q, 0, none⟩ ∧ w.cell? ⟨q, i, none⟩ = some (.int .i64 y)
  t1 : ∀ (i : Nat) y, L[i]? = some y → ∃ q cap, w.cell? ⟨tb, 1, none⟩ = some (.slice (some ⟨q, 0, none⟩) L.length cap) ∧ ∀ j, j < 7 → w.cell? ⟨q, i * 7 + j, none⟩ = (hcells (wat c ws (y + 1)) (kdOf (wat c ws y)) (ptOf (wat c ws y)) (rwOf (wat c ws y)) (agOf (wat c ws y)) (stOf (wat c ws y)) (hdOf (wat c ws y)))[j]?

variable {c ws}
theorem Cmp.below {w w' : World} {L : List Int} {va : Option Addr} {vc tb : Nat} (h : Cmp c ws w L va vc tb) (l : Below w.heap.size w w') : Cmp c ws w' L va vc tb := by
  have cl : ∀ {q : Addr} {u : Value}, w.cell? q = some u → w'.cell? q = some u := fun hq => (l.cell (World.block_lt_of_cell? _ _ hq)).trans hq
  refine ⟨fun i y hy => ?_, ?_, fun i y hy => ?_⟩
  · obtain ⟨q, h1, h2⟩ := h.li i y hy
    exact ⟨q, h1, cl h2⟩
  · obtain ⟨a1, c1, h1, h2⟩ := h.t0
    refine ⟨a1, c1, cl h1, fun i y hy => ?_⟩
    obtain ⟨q, h3, h4⟩ := h2 i y hy
    exact ⟨q, h3, cl h4⟩
  · obtain ⟨q, cap, h1, h2⟩ := h.t1 i y hy
    refine ⟨q, cap, cl h1, fun j hj => ?_⟩
    have h3 := h2 j hj
    have : ∃ u, (hcells (wat c ws (y + 1)) (kdOf (wat c ws y)) (ptOf (wat c ws y)) (rwOf (wat c ws y)) (agOf (wat c ws y)) (stOf (wat c ws y)) (hdOf (wat c ws y)))[j]? = some u := by
      match j, hj with
      | 0, _ | 1, _ | 2, _ | 3, _ | 4, _ | 5, _ | 6, _ => exact ⟨_, rfl⟩
    obtain ⟨u, hu⟩ := this
    rw [hu] at h3 ⊢
    exact cl h3

theorem Cmp.of {w : World} {L : List Int} {va : Option Addr} {vc tb base : Nat} {f : Nat → Value} {st mo : Int} {ta th : Value} {d : Bool} (hrow : w.ownsRow base 3 1 (.slice va L.length vc) L.length (L.map (Value.int .i64))) (k : Tk w tb 56 6 0 f st mo L (hcl c ws L) ta th d) : Cmp c ws w L va vc tb := by
  refine ⟨fun i y hy => ?_, ?_, fun i y hy => ?_⟩
  · have hi := (List.getElem?_eq_some_iff.1 hy).1
    rcases id hrow.2 with ⟨h0, h1⟩ | ⟨q, cap, cur, h0, _⟩
    · omega
    · simp only [Value.slice.injEq] at h0
      obtain ⟨rfl, -, rfl⟩ := h0
      exact ⟨q, rfl, by rw [hrow.cellAt _ (by omega)]; simp [hy]⟩
  · obtain ⟨a1, c1, h1⟩ := k.va
    subst h1
    refine ⟨a1, c1, by rw [k.row.cell (i := 0) (by decide)]; exact congrArg some k.f0, fun i y hy => ?_⟩
    obtain ⟨q, cap, h2, h3⟩ := k.nums.at_ i y hy
    simp only [Value.slice.injEq] at h2
    exact ⟨q, h2.1, h3⟩
  · obtain ⟨q, cap, h2, h3⟩ := k.heads.at_ i y hy
    exact ⟨q, cap, by rw [k.row.cell (i := 1) (by decide), ← h2]; exact congrArg some k.f1, h3⟩
end

end Go.Proofs.YtbdkcelggffneaaGreatDoor
