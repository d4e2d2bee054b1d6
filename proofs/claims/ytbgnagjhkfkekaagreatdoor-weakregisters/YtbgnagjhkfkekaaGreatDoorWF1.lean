/-
  WeakRegisters: what stands at a filler's place: no object.
-/
import Derived.Test.YtbgnagjhkfkekaaGreatDoorY11
import Derived.Test.YtbgnagjhkfkekaaGreatDoorPWa
set_option linter.unusedVariables false
set_option maxRecDepth 20000
namespace Go.Proofs.YtbgnagjhkfkekaaGreatDoor
open Go.RowKit Go.Shelf

theorem stp_mono {c : Cfg} {x : Tps} {T : LT} (hT : T.Ok c x) (s : Int) (h1 : 1 ≤ s) (h4 : s ≤ 4) : x.top s ≤ (stp x T).top s := by
  unfold stp
  have := LT.sz_pos hT
  split
  · omega
  · by_cases e : s = T.sp
    · subst e
      rw [Tps.top_put _ _ _ ⟨h1, h4⟩]
      omega
    · rw [Tps.top_put_ne _ _ _ _ e]
      omega

theorem Plc.mono {c : Cfg} {L : List LT} (h : Plc c L) (s : Int) (h1 : 1 ≤ s) (h4 : s ≤ 4) (i : Nat) : ∀ d, i + d ≤ L.length → (tps c (L.take i)).top s ≤ (tps c (L.take (i + d))).top s := by
  intro d
  induction d with
  | zero => intro _; exact Int.le_refl _
  | succ d ih =>
    intro hd
    have hT : L[i + d]? = some (L[i + d]'(by omega)) := List.getElem?_eq_getElem (by omega)
    have e : i + (d + 1) = (i + d) + 1 := by omega
    rw [e, tps_take c L (i + d) _ hT]
    exact Int.le_trans (ih (by omega)) (stp_mono (h (i + d) _ hT) s h1 h4)

/-- A thing that is there lies within its space. -/
theorem Plc.within {c : Cfg} (hc : c.Ok) {L : List LT} (h : Plc c L) {i : Nat} {T : LT} (hT : L[i]? = some T) (h0 : T.at_ ≠ 0) : fst c T.sp ≤ T.at_ ∧ T.at_ + T.sz ≤ bhd c T.sp := by
  have ho := h i T hT
  have hi := (List.getElem?_eq_some_iff.1 hT).1
  rcases ho.at_ with e | ⟨e1, e2⟩
  · exact absurd e h0
  · have := (h.tops hc i (by omega)) T.sp ho.s1 ho.s4
    omega

theorem spaces_apart {c : Cfg} (hc : c.Ok) (s t : Int) (s1 : 1 ≤ s) (s4 : s ≤ 4) (t1 : 1 ≤ t) (t4 : t ≤ 4) (h : s ≠ t) : bhd c s ≤ fst c t ∨ bhd c t ≤ fst c s := by
  have := hc.e0; have := hc.s0; have := hc.t0
  obtain rfl | rfl | rfl | rfl : s = 1 ∨ s = 2 ∨ s = 3 ∨ s = 4 := by omega
  all_goals
    obtain rfl | rfl | rfl | rfl : t = 1 ∨ t = 2 ∨ t = 3 ∨ t = 4 := by omega
    all_goals
      simp [fst, bhd] at h ⊢
      try omega

/-- Two things that are there don't lie in one another. -/
theorem Plc.apart {c : Cfg} (hc : c.Ok) {L : List LT} (h : Plc c L) {i j : Nat} {T U : LT} (hT : L[i]? = some T) (hU : L[j]? = some U) (hij : i ≠ j) (h0 : T.at_ ≠ 0) (u0 : U.at_ ≠ 0) : T.at_ + T.sz ≤ U.at_ ∨ U.at_ + U.sz ≤ T.at_ := by
  have key : ∀ {i j : Nat} {T U : LT}, L[i]? = some T → L[j]? = some U → i < j → T.at_ ≠ 0 → U.at_ ≠ 0 → T.at_ + T.sz ≤ U.at_ ∨ U.at_ + U.sz ≤ T.at_ := by
    intro i j T U hT hU hij h0 u0
    have hw := h.within hc hT h0
    have hv := h.within hc hU u0
    have ho := h i T hT
    have hp := h j U hU
    have hj := (List.getElem?_eq_some_iff.1 hU).1
    by_cases e : T.sp = U.sp
    · left
      rcases hp.at_ with e1 | ⟨e1, e2⟩
      · exact absurd e1 u0
      · have hm := h.mono U.sp hp.s1 hp.s4 (i + 1) (j - (i + 1)) (by omega)
        rw [show i + 1 + (j - (i + 1)) = j by omega, tps_take c L i T hT] at hm
        rcases ho.at_ with e3 | ⟨e3, e4⟩
        · exact absurd e3 h0
        · unfold stp at hm
          rw [if_neg h0, e, Tps.top_put _ _ _ ⟨hp.s1, hp.s4⟩] at hm
          rw [e] at e3
          omega
    · rcases spaces_apart hc T.sp U.sp ho.s1 ho.s4 hp.s1 hp.s4 e with h9 | h9
      · left; omega
      · right; omega
  rcases Nat.lt_or_gt_of_ne hij with h9 | h9
  · exact key hT hU h9 h0 u0
  · exact (key hU hT h9 u0 h0).symm

theorem Plc.pos {c : Cfg} (hc : c.Ok) {L : List LT} (h : Plc c L) {i : Nat} {T : LT} (hT : L[i]? = some T) (h0 : T.at_ ≠ 0) : 1 ≤ T.at_ ∧ 1 ≤ T.sz ∧ T.at_ + T.sz ≤ c.words := by
  have h1 := h.within hc hT h0
  have ho := h i T hT
  have h2 := LT.sz_pos ho
  have := hc.e0; have := hc.s0; have := hc.t0
  have s1 := ho.s1
  have s4 := ho.s4
  have hb : 1 ≤ fst c T.sp ∧ bhd c T.sp ≤ c.words := by
    obtain e | e | e | e : T.sp = 1 ∨ T.sp = 2 ∨ T.sp = 3 ∨ T.sp = 4 := by omega
    all_goals
      rw [e]
      simp [fst, bhd, Cfg.words]
      try omega
  omega

/-- A word that lies in no thing of the first i but the k-th: only that one writes it. -/
theorem lw1_keep {c : Cfg} (hc : c.Ok) {L : List LT} (h : Plc c L) {k : Nat} {T : LT} (hT : L[k]? = some T) (h0 : T.at_ ≠ 0) (hf : 0 < T.fill) : ∀ i, k < i → i ≤ L.length → lw1 L i T.at_.toNat = T.fill * 4 + 3 := by
  have hp := h.pos hc hT h0
  intro i
  induction i with
  | zero => intro h9; omega
  | succ i ih =>
    intro h9 hi
    have hU : L[i]? = some (L[i]'(by omega)) := List.getElem?_eq_getElem (by omega)
    generalize L[i]'(by omega) = U at hU
    by_cases e : i = k
    · subst e
      rw [hT] at hU
      cases hU
      rw [lw1_fill hT h0 hf]
      simp [upd]
    · have hi9 := ih (by omega) (by omega)
      by_cases u0 : U.at_ = 0
      · rw [lw1_skip hU u0]; exact hi9
      · have ha := h.apart hc hT hU (fun q => e q.symm) h0 u0
        have hq := h.pos hc hU u0
        have hsz : U.sz = (if 0 < U.fill then U.fill else 2 + (U.ps.length : Int) + U.rs.length) := rfl
        have ho := h i U hU
        by_cases uf : 0 < U.fill
        · rw [if_pos uf] at hsz
          rw [lw1_fill hU u0 uf]
          have d1 : T.at_.toNat ≠ U.at_.toNat := by omega
          have d2 : ¬ (U.at_.toNat ≤ T.at_.toNat ∧ T.at_.toNat < U.at_.toNat + U.fill.toNat) := by omega
          simp only [upd, zer, if_neg d1, if_neg d2]
          exact hi9
        · rw [if_neg uf] at hsz
          have f0 := ho.f0
          have hob := ho.obj (by omega)
          rw [lw1_put hU u0 uf]
          have d1 : T.at_.toNat ≠ U.at_.toNat := by omega
          have d3 : T.at_.toNat ≠ U.at_.toNat + 1 := by omega
          have d2 : ¬ (U.at_.toNat ≤ T.at_.toNat ∧ T.at_.toNat < U.at_.toNat + (2 + U.p + U.r).toNat) := by omega
          simp only [putw, upd, zer, if_neg d1, if_neg d2, if_neg d3]
          exact hi9

theorem lwp_keep (L : List LT) (U : LT) (ws : Nat → Int) (j : Nat) : ∀ k, (∀ q, q < k → j ≠ U.at_.toNat + 2 + q) → lwp L U ws k j = ws j := by
  intro k
  induction k with
  | zero => intro _; rfl
  | succ k ih =>
    intro h
    show upd _ _ _ j = _
    rw [upd, if_neg (h k (by omega))]
    exact ih (fun q hq => h q (by omega))

theorem lwr_keep (U : LT) (ws : Nat → Int) (j : Nat) : ∀ k, (∀ q, q < k → j ≠ U.at_.toNat + (2 + U.p.toNat) + q) → lwr U ws k j = ws j := by
  intro k
  induction k with
  | zero => intro _; rfl
  | succ k ih =>
    intro h
    show upd _ _ _ j = _
    rw [upd, if_neg (h k (by omega))]
    exact ih (fun q hq => h q (by omega))

theorem lw2_keep {c : Cfg} (hc : c.Ok) {L : List LT} (h : Plc c L) {k : Nat} {T : LT} (hT : L[k]? = some T) (h0 : T.at_ ≠ 0) (hf : 0 < T.fill) : ∀ i, i ≤ L.length → lw2 L i T.at_.toNat = T.fill * 4 + 3 := by
  have hp := h.pos hc hT h0
  have hk := (List.getElem?_eq_some_iff.1 hT).1
  intro i
  induction i with
  | zero => intro _; exact lw1_keep hc h hT h0 hf L.length hk (Nat.le_refl _)
  | succ i ih =>
    intro hi
    have hU : L[i]? = some (L[i]'(by omega)) := List.getElem?_eq_getElem (by omega)
    generalize L[i]'(by omega) = U at hU
    have hi9 := ih (by omega)
    by_cases u0 : 0 < U.at_
    · rw [lw2_obj hU u0]
      have ho := h i U hU
      have f0 := ho.f0
      by_cases uf : 0 < U.fill
      · obtain ⟨e1, e2⟩ := ho.fil uf
        rw [e1, e2]
        exact hi9
      · have hob := ho.obj (by omega)
        have hsz : U.sz = (if 0 < U.fill then U.fill else 2 + (U.ps.length : Int) + U.rs.length) := rfl
        rw [if_neg uf] at hsz
        have e : i ≠ k := fun e => by
          subst e
          rw [hT] at hU
          cases hU
          exact uf hf
        have ha := h.apart hc hT hU (fun q => e q.symm) h0 (by omega)
        rw [lwr_keep _ _ _ _ (fun q hq => by omega), lwp_keep _ _ _ _ _ (fun q hq => by omega)]
        exact hi9
    · rw [lw2_skip hU u0]; exact hi9

theorem filler_word {c : Cfg} (hc : c.Ok) {L : List LT} (h : Plc c L) {k : Nat} {T : LT} (hT : L[k]? = some T) (h0 : T.at_ ≠ 0) (hf : 0 < T.fill) : wlay L T.at_.toNat = T.fill * 4 + 3 := lw2_keep hc h hT h0 hf L.length (Nat.le_refl _)

/-- No object stands at a filler's place. -/
theorem filler_not {c : Cfg} (hc : c.Ok) {L : List LT} (h : Plc c L) {k : Nat} {T : LT} (hT : L[k]? = some T) (h0 : T.at_ ≠ 0) (hf : 0 < T.fill) : ¬ At c (tps c L) (wlay L) T.at_ := by
  rintro ⟨h1, h2, h3, h4⟩
  have hp := h.pos hc hT h0
  have hw : wat c (wlay L) T.at_ = T.fill * 4 + 3 := by
    unfold wat
    rw [if_pos (by omega)]
    exact filler_word hc h hT h0 hf
  rw [hw] at h3
  have := h3.1
  omega

end Go.Proofs.YtbgnagjhkfkekaaGreatDoor
