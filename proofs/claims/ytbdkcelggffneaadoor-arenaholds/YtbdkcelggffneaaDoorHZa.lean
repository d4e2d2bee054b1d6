/-
  What Put and Fill do to what the arena holds; an empty arena.
-/
import Derived.Test.YtbdkcelggffneaaDoorHZ
set_option linter.unusedVariables false
set_option maxRecDepth 20000
namespace Go.Proofs.YtbdkcelggffneaaDoor
open Go.RowKit Go.Shelf

section
variable {c : Cfg} {x : Tps} {sw : Bool} {ws ws' : Nat → Int} {th : List Tng} {w : World} {b g : Nat}

theorem Hld.nil (hx : ∀ s : Nat, x.top s = fst c s) : Hld c x ws [] :=
  ⟨fun s _ _ => by rw [hx s]; exact .nil, fun T h => by simp at h, fun T h => by simp at h, fun T h => by simp at h, fun T h => by simp at h, fun T h => by simp at h, fun T h => by simp at h, fun i j T U h => by simp at h⟩

/-- Behind the top of one space words change: all that was held stays, in every space up to its old top. -/
theorem Hld.old (H : Hld c x ws th) (hA : Ar w b g c x sw ws) (s : Nat) (s1 : 1 ≤ s) (s4 : s ≤ 4) (n : Int) (hn : x.top s + n ≤ bhd c s) (hsame : ∀ k, (k < x.top s ∨ x.top s + n ≤ k) → wat c ws' k = wat c ws k) :
    (∀ s' : Nat, 1 ≤ s' → s' ≤ 4 → Seg c ws' (fst c s') (x.top s') ((th.filter (inS s')).map (·.at_))) ∧ (∀ T, T ∈ th → ∀ y, T.at_ ≤ y → y < T.at_ + 2 + T.p + T.r → wat c ws' y = wat c ws y) := by
  have hsub := hA.sub_in s
  have out : ∀ s' : Nat, 1 ≤ s' → s' ≤ 4 → ∀ y, fst c s' ≤ y → y < x.top s' → wat c ws' y = wat c ws y := fun s' h1 h4 y y1 y2 => by
    apply hsame
    by_cases e : s' = s
    · subst e; exact .inl y2
    · have hb := hA.sub_in s'
      have h5 : spc c y = s' := spc_is hA.ok y s' (by omega) (by omega) y1 (by omega)
      rcases Int.lt_or_le y (x.top s) with h6 | h6
      · exact .inl h6
      · rcases Int.lt_or_le y (x.top s + n) with h7 | h7
        · have h9 : spc c y = s := spc_is hA.ok y s (by omega) (by omega) (by omega) (by omega)
          exact absurd (by omega : s' = s) e
        · exact .inr h7
  refine ⟨fun s' h1 h4 => (H.seg s' h1 h4).congr fun y y1 y2 => out s' h1 h4 y y1 y2, fun T hT y y1 y2 => ?_⟩
  obtain ⟨s', h1, h4, -, -, -, hst, hge, -⟩ := H.stands hA hT
  have hoz := H.osz hT
  have := hst.2
  exact out s' h1 h4 y (by omega) (by omega)

theorem Hld.fill (H : Hld c x ws th) (hA : Ar w b g c x sw ws) (s : Nat) (s1 : 1 ≤ s) (s4 : s ≤ 4) (n : Int) (hn0 : 0 < n) (hn : x.top s + n ≤ bhd c s) (hsame : ∀ k, (k < x.top s ∨ x.top s + n ≤ k) → wat c ws' k = wat c ws k) (ht : IsTag 3 (wat c ws' (x.top s))) (hw : wat c ws' (x.top s) / 4 = n) :
    Hld c (x.put s (x.top s + n)) ws' th := by
  obtain ⟨h1, h2⟩ := H.old hA s s1 s4 n hn hsame
  have big : ∀ V, V ∈ th → 0 ≤ V.p ∧ 0 ≤ V.r := fun V hV => by
    have h1 := H.psn V hV
    have h2 := H.rsn V hV
    omega
  refine ⟨fun s' k1 k4 => ?_, H.spr, fun T hT => ?_, H.psn, H.rsn, fun T hT f z hz => ?_, fun T hT f z hz => ?_, H.dis⟩
  · by_cases e : s' = s
    · subst e
      rw [Tps.top_put _ _ _ (by omega)]
      have := (h1 s' k1 k4).snocF ht
      rw [hw] at this
      exact this
    · rw [Tps.top_put_ne _ _ _ _ (by omega)]
      exact h1 s' k1 k4
  · have hb := big T hT
    rw [h2 T hT T.at_ (by omega) (by omega), h2 T hT (T.at_ + 1) (by omega) (by omega)]
    exact H.hds T hT
  · have hb := big T hT
    have hf := (List.getElem?_eq_some_iff.1 hz).1
    have hp := H.psn T hT
    rw [h2 T hT (T.at_ + 2 + f) (by omega) (by omega)]
    exact H.psv T hT f z hz
  · have hb := big T hT
    have hf := (List.getElem?_eq_some_iff.1 hz).1
    have hp := H.psn T hT
    have hr := H.rsn T hT
    rw [h2 T hT (T.at_ + 2 + T.p + f) (by omega) (by omega)]
    exact H.rsv T hT f z hz

theorem Hld.put (H : Hld c x ws th) (hA : Ar w b g c x sw ws) (s : Nat) (s1 : 1 ≤ s) (s4 : s ≤ 4) (U : Tng) (ea : U.at_ = x.top s) (es : U.sp = s) (hp0 : 0 ≤ U.p) (hr0 : 0 ≤ U.r) (hn : x.top s + (2 + U.p + U.r) ≤ bhd c s) (hsame : ∀ k, (k < x.top s ∨ x.top s + (2 + U.p + U.r) ≤ k) → wat c ws' k = wat c ws k) (hh : IsHead (wat c ws' (x.top s)))
    (hd : wat c ws' (U.at_ + 1) = U.s ∧ kdOf (wat c ws' U.at_) = U.k ∧ ptOf (wat c ws' U.at_) = U.p ∧ rwOf (wat c ws' U.at_) = U.r ∧ agOf (wat c ws' U.at_) = U.a ∧ stOf (wat c ws' U.at_) = U.t ∧ hdOf (wat c ws' U.at_) = U.h)
    (hpn : (U.ps.length : Int) = U.p) (hrn : (U.rs.length : Int) = U.r)
    (hpv : ∀ (f : Nat) z, U.ps[f]? = some z → wat c ws' (U.at_ + 2 + f) = z ∧ z < c.words) (hrv : ∀ (f : Nat) z, U.rs[f]? = some z → wat c ws' (U.at_ + 2 + U.p + f) = z) :
    Hld c (x.put s (x.top s + (2 + U.p + U.r))) ws' (th ++ [U]) := by
  obtain ⟨h1, h2⟩ := H.old hA s s1 s4 _ hn hsame
  have big : ∀ V, V ∈ th → 0 ≤ V.p ∧ 0 ≤ V.r := fun V hV => by
    have h1 := H.psn V hV
    have h2 := H.rsn V hV
    omega
  have hoz : Go.Proofs.YtbdkcelggffneaaDoor.osz c ws' (x.top s) = 2 + U.p + U.r := by
    unfold Go.Proofs.YtbdkcelggffneaaDoor.osz
    rw [← ea, hd.2.2.1, hd.2.2.2.1]
  have mem : ∀ {V}, V ∈ th ++ [U] → V ∈ th ∨ V = U := fun hV => by simpa using hV
  have aft : ∀ V, V ∈ th → V.at_ + 2 + V.p + V.r ≤ U.at_ ∨ U.at_ + 2 + U.p + U.r ≤ V.at_ := fun V hV => by
    obtain ⟨s', k1, k4, hs, -, hlt, hst, hge, -⟩ := H.stands hA hV
    have hz := H.osz hV
    have h3 := hst.2
    have hb := big V hV
    have hb1 := hA.sub_in s'
    have hb2 := hA.sub_in s
    by_cases e : s' = s
    · subst e; exact .inl (by omega)
    · rcases Int.lt_or_le V.at_ U.at_ with h5 | h5
      · left
        rcases Int.lt_or_le U.at_ (V.at_ + 2 + V.p + V.r) with h6 | h6
        · have h7 : spc c U.at_ = s' := spc_is hA.ok _ s' (by omega) (by omega) (by omega) (by omega)
          have h8 : spc c U.at_ = s := spc_is hA.ok _ s (by omega) (by omega) (by omega) (by omega)
          exact absurd (by omega : s' = s) e
        · exact h6
      · right
        rcases Int.lt_or_le V.at_ (U.at_ + 2 + U.p + U.r) with h6 | h6
        · have h7 : spc c V.at_ = s' := spc_is hA.ok _ s' (by omega) (by omega) (by omega) (by omega)
          have h8 : spc c V.at_ = s := spc_is hA.ok _ s (by omega) (by omega) (by omega) (by omega)
          exact absurd (by omega : s' = s) e
        · exact h6
  refine ⟨fun s' k1 k4 => ?_, fun T hT => ?_, fun T hT => ?_, fun T hT => ?_, fun T hT => ?_, fun T hT f z hz => ?_, fun T hT f z hz => ?_, fun i j T V hi hj hij => ?_⟩
  · by_cases e : s' = s
    · subst e
      rw [Tps.top_put _ _ _ (by omega), List.filter_append, List.filter_cons_of_pos (by simpa [inS] using es), List.map_append]
      have := (h1 s' k1 k4).snoc hh
      rw [hoz] at this
      simpa [ea] using this
    · rw [Tps.top_put_ne _ _ _ _ (by omega), List.filter_append, List.filter_cons_of_neg (by simp [inS, es]; omega), List.map_append]
      simpa using h1 s' k1 k4
  · rcases mem hT with h | rfl
    · exact H.spr T h
    · exact ⟨s, s1, s4, es⟩
  · rcases mem hT with h | rfl
    · have hb := big T h
      rw [h2 T h T.at_ (by omega) (by omega), h2 T h (T.at_ + 1) (by omega) (by omega)]
      exact H.hds T h
    · exact hd
  · rcases mem hT with h | rfl
    · exact H.psn T h
    · exact hpn
  · rcases mem hT with h | rfl
    · exact H.rsn T h
    · exact hrn
  · rcases mem hT with h | rfl
    · have hb := big T h
      have hf := (List.getElem?_eq_some_iff.1 hz).1
      have hp := H.psn T h
      rw [h2 T h (T.at_ + 2 + f) (by omega) (by omega)]
      exact H.psv T h f z hz
    · exact hpv f z hz
  · rcases mem hT with h | rfl
    · have hb := big T h
      have hf := (List.getElem?_eq_some_iff.1 hz).1
      have hp := H.psn T h
      have hr := H.rsn T h
      rw [h2 T h (T.at_ + 2 + T.p + f) (by omega) (by omega)]
      exact H.rsv T h f z hz
    · exact hrv f z hz
  · have key : ∀ (k : Nat) V, (th ++ [U])[k]? = some V → (k < th.length ∧ th[k]? = some V) ∨ (k = th.length ∧ V = U) := fun k V hk => by
      rcases Nat.lt_or_ge k th.length with h | h
      · rw [List.getElem?_append_left h] at hk
        exact .inl ⟨h, hk⟩
      · rw [List.getElem?_append_right h] at hk
        have h3 := (List.getElem?_eq_some_iff.1 hk).1
        simp at h3
        have : k - th.length = 0 := by omega
        rw [this] at hk
        exact .inr ⟨by omega, by simpa using hk.symm⟩
    rcases key i T hi with ⟨i1, hi2⟩ | ⟨i1, e1⟩
    · rcases key j V hj with ⟨j1, hj2⟩ | ⟨j1, e2⟩
      · exact H.dis i j T V hi2 hj2 hij
      · rw [e2]
        exact aft T (List.mem_of_getElem? hi2)
    · rcases key j V hj with ⟨j1, hj2⟩ | ⟨j1, e2⟩
      · rw [e1]
        exact (aft V (List.mem_of_getElem? hj2)).symm
      · omega
end

end Go.Proofs.YtbdkcelggffneaaDoor
