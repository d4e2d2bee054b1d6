/-
  Eden as pieces, one behind the other: objects and fillers. (The pure side.)
-/
import Derived.Test.YtpiemfchjlihfaaDoorA10
set_option linter.unusedVariables false
namespace Go.Proofs.YtpiemfchjlihfaaDoor
open Go.RowKit

/-- A piece: an object's word and serial, or a filler; how many words. -/
structure Sg where
  n : Nat
  o : Option (Int × Int)

/-- What stands at a piece's first words. -/
def Sg.Is (g : Sg) (ws : Nat → Int) (a : Nat) : Prop :=
  match g.o with
  | some (m, s) => ws a = m ∧ IsHead m ∧ 2 + ptOf m + rwOf m = g.n ∧ ws (a + 1) = s
  | none => ws a = tg 3 g.n ∧ 1 ≤ g.n ∧ g.n ≤ 1000000

/-- Pieces from a on, up to top. -/
def Chn (ws : Nat → Int) : Nat → Nat → List Sg → Prop
  | a, top, [] => a = top
  | a, top, g :: L => g.Is ws a ∧ Chn ws (a + g.n) top L

/-- A piece stands at p. -/
def At (a : Nat) : List Sg → Nat → Sg → Prop
  | [], _, _ => False
  | g :: L, p, h => (p = a ∧ h = g) ∨ At (a + g.n) L p h

/-- All words together. -/
def szs : List Sg → Nat
  | [] => 0
  | g :: L => g.n + szs L

/-- The objects: where they stand, and their words. -/
def obs (a : Nat) : List Sg → List (Nat × Nat)
  | [] => []
  | g :: L => match g.o with
    | some _ => (a, g.n) :: obs (a + g.n) L
    | none => obs (a + g.n) L

theorem Sg.Is.pos {g : Sg} {ws : Nat → Int} {a : Nat} (h : g.Is ws a) : 1 ≤ g.n := by
  unfold Sg.Is at h
  split at h
  · have := (pt_in (ws a)).1
    obtain ⟨h1, h2, h3, h4⟩ := h
    rename_i m s _
    have := (pt_in m).1
    have := (rw_in m).1
    omega
  · exact h.2.1

theorem Sg.Is.two {g : Sg} {ws : Nat → Int} {a : Nat} (h : g.Is ws a) {m s : Int} (e : g.o = some (m, s)) : 2 ≤ g.n := by
  unfold Sg.Is at h
  rw [e] at h
  have := (pt_in m).1
  have := (rw_in m).1
  have := h.2.2.1
  omega

theorem szs_app (L M : List Sg) : szs (L ++ M) = szs L + szs M := by
  induction L with
  | nil => simp [szs]
  | cons g L ih => simp only [List.cons_append, szs, ih]; omega

theorem Chn.top {ws : Nat → Int} : ∀ {L : List Sg} {a top : Nat}, Chn ws a top L → top = a + szs L
  | [], a, top, h => by simpa [Chn, szs] using h.symm
  | g :: L, a, top, h => by have := Chn.top h.2; simp only [szs]; omega

theorem Chn.app {ws : Nat → Int} : ∀ {L M : List Sg} {a m top : Nat}, Chn ws a m L → Chn ws m top M → Chn ws a top (L ++ M)
  | [], M, a, m, top, h, k => by have e : a = m := h; subst e; exact k
  | g :: L, M, a, m, top, h, k => ⟨h.1, Chn.app h.2 k⟩

theorem Chn.split {ws : Nat → Int} : ∀ {L M : List Sg} {a top : Nat}, Chn ws a top (L ++ M) → Chn ws a (a + szs L) L ∧ Chn ws (a + szs L) top M
  | [], M, a, top, h => ⟨by simp [Chn, szs], by simpa [szs] using h⟩
  | g :: L, M, a, top, h => by
    obtain ⟨h1, h2⟩ := Chn.split (L := L) h.2
    simp only [szs]
    rw [← Nat.add_assoc]
    exact ⟨⟨h.1, h1⟩, h2⟩

theorem at_app {L M : List Sg} {a p : Nat} {g : Sg} : At a (L ++ M) p g ↔ At a L p g ∨ At (a + szs L) M p g := by
  induction L generalizing a with
  | nil => simp [At, szs]
  | cons h L ih =>
    simp only [List.cons_append, At, ih, szs, or_assoc, Nat.add_assoc]

theorem At.in {L : List Sg} {a p : Nat} {g : Sg} (h : At a L p g) : a ≤ p ∧ p + g.n ≤ a + szs L := by
  induction L generalizing a with
  | nil => exact h.elim
  | cons k L ih =>
    rcases h with ⟨rfl, rfl⟩ | h
    · simp only [szs]; omega
    · have := ih h; simp only [szs]; omega

/-- Two pieces are the same, or lie apart. -/
theorem At.apart {L : List Sg} {a p q : Nat} {g h : Sg} (hp : At a L p g) (hq : At a L q h) : (p = q ∧ g = h) ∨ p + g.n ≤ q ∨ q + h.n ≤ p := by
  induction L generalizing a with
  | nil => exact hp.elim
  | cons k L ih =>
    rcases hp with ⟨rfl, rfl⟩ | hp
    · rcases hq with ⟨rfl, rfl⟩ | hq
      · exact .inl ⟨rfl, rfl⟩
      · have := hq.in; omega
    · rcases hq with ⟨rfl, rfl⟩ | hq
      · have := hp.in; omega
      · exact ih hp hq

/-- A piece stands in the list. -/
theorem At.parts {L : List Sg} {a p : Nat} {g : Sg} (h : At a L p g) : ∃ L1 L2, L = L1 ++ g :: L2 ∧ p = a + szs L1 := by
  induction L generalizing a with
  | nil => exact h.elim
  | cons k L ih =>
    rcases h with ⟨rfl, rfl⟩ | h
    · exact ⟨[], L, rfl, by simp [szs]⟩
    · obtain ⟨L1, L2, rfl, rfl⟩ := ih h
      exact ⟨k :: L1, L2, rfl, by simp only [szs]; omega⟩

theorem Chn.is {ws : Nat → Int} {L : List Sg} {a top p : Nat} {g : Sg} (h : Chn ws a top L) (hp : At a L p g) : g.Is ws p := by
  induction L generalizing a with
  | nil => exact hp.elim
  | cons k L ih =>
    rcases hp with ⟨rfl, rfl⟩ | hp
    · exact h.1
    · exact ih h.2 hp

/-- The words that bear a piece: nothing else counts. -/
theorem Chn.congr {ws ws' : Nat → Int} {L : List Sg} {a top : Nat} (h : Chn ws a top L) (hw : ∀ p g, At a L p g → g.Is ws p → g.Is ws' p) : Chn ws' a top L := by
  induction L generalizing a with
  | nil => exact h
  | cons k L ih => exact ⟨hw a k (.inl ⟨rfl, rfl⟩) h.1, ih h.2 (fun p g hp => hw p g (.inr hp))⟩

theorem Sg.Is.keep {g : Sg} {ws ws' : Nat → Int} {a : Nat} (h : g.Is ws a) (h0 : ws' a = ws a) (h1 : ∀ m s, g.o = some (m, s) → ws' (a + 1) = ws (a + 1)) : g.Is ws' a := by
  unfold Sg.Is at h ⊢
  split at h
  · rename_i m s e
    exact ⟨h0.trans h.1, h.2.1, h.2.2.1, (h1 m s e).trans h.2.2.2⟩
  · exact ⟨h0.trans h.1, h.2⟩

/-- Words of no piece of the list are written. -/
theorem Chn.keep {ws ws' : Nat → Int} {L : List Sg} {a top : Nat} (h : Chn ws a top L) (hw : ∀ j, a ≤ j → j < top → ws' j = ws j) : Chn ws' a top L := by
  have ht := h.top
  refine h.congr (fun p g hp hi => ?_)
  have hb := hp.in
  have h1 := hi.pos
  refine hi.keep (hw p (by omega) (by omega)) (fun m s e => ?_)
  have := hi.two e
  exact hw (p + 1) (by omega) (by omega)

theorem obs_app (L M : List Sg) (a : Nat) : obs a (L ++ M) = obs a L ++ obs (a + szs L) M := by
  induction L generalizing a with
  | nil => simp [obs, szs]
  | cons g L ih =>
    simp only [List.cons_append, obs, szs]
    split
    · rw [ih, List.cons_append, Nat.add_assoc]
    · rw [ih, Nat.add_assoc]

theorem mem_obs {L : List Sg} {a p n : Nat} : (p, n) ∈ obs a L ↔ ∃ m s, At a L p ⟨n, some (m, s)⟩ := by
  induction L generalizing a with
  | nil => simp [obs, At]
  | cons g L ih =>
    obtain ⟨gn, go⟩ := g
    simp only [obs, At]
    cases go with
    | none =>
      simp only [ih]
      constructor
      · rintro ⟨m, s, h⟩; exact ⟨m, s, .inr h⟩
      · rintro ⟨m, s, ⟨_, h⟩ | h⟩
        · injection h with h1 h2; cases h2
        · exact ⟨m, s, h⟩
    | some o =>
      obtain ⟨m0, s0⟩ := o
      simp only [List.mem_cons, Prod.mk.injEq, ih]
      constructor
      · rintro (⟨rfl, rfl⟩ | ⟨m, s, h⟩)
        · exact ⟨m0, s0, .inl ⟨rfl, rfl⟩⟩
        · exact ⟨m, s, .inr h⟩
      · rintro ⟨m, s, ⟨h1, h⟩ | h⟩
        · injection h with h2 h3
          exact .inl ⟨h1, h2⟩
        · exact .inr ⟨m, s, h⟩

/-- The walk meets just the objects. -/
theorem chn_walk {c : Cfg} {ws : Nat → Int} {top : Nat} (ht : (top : Int) ≤ c.words) : ∀ {L : List Sg} {a : Nat}, Chn ws a top L → ∃ p, Past c ws top a p ∧ Walk c ws top p ((obs a L).map fun x => (x.1 : Int)) top
  | [], a, h => by
    have e : a = top := h
    subst e
    exact ⟨a, .done (.inl (Int.le_refl _)), by simpa [obs] using Walk.done (Int.le_refl _)⟩
  | g :: L, a, h => by
    obtain ⟨p, hp, hw⟩ := chn_walk ht h.2
    have h1 := h.1.pos
    have h2 := h.2.top
    have hlt : (a : Int) < top := by omega
    have hwat : ∀ j : Nat, j < top → wat c ws j = ws j := fun j hj => by
      unfold wat
      rw [if_pos ⟨by omega, by omega⟩]
      simp
    have ha := hwat a (by omega)
    obtain ⟨gn, go⟩ := g
    have hi := h.1
    unfold Sg.Is at hi
    cases go with
    | none =>
      simp only at hi h1 h2 hp hw
      have e : tg 3 gn = (gn : Int) * 4 + 3 := by unfold tg; rw [if_neg (by omega)]
      have hg : wat c ws a / 4 = gn := by rw [ha, hi.1, e]; omega
      refine ⟨p, .step hlt ⟨?_, ?_, ?_⟩ ?_ ?_, by simpa [obs] using hw⟩
      · rw [ha, hi.1, e]; omega
      · rw [hg]; omega
      · rw [hg]; omega
      · rw [hg]; omega
      · rw [hg]; exact hp
    | some o =>
      obtain ⟨m, s⟩ := o
      simp only at hi h1 h2 hp hw
      have hz : osz c ws a = gn := by unfold osz; rw [ha, hi.1]; exact hi.2.2.1
      refine ⟨a, .done (.inr fun hh => ?_), ?_⟩
      · have h3 := hh.1.1
        rw [ha, hi.1] at h3
        have h4 := hi.2.1.1
        omega
      · simp only [obs, List.map_cons]
        refine .obj hlt ⟨by rw [ha, hi.1]; exact hi.2.1, by rw [hz]; omega⟩ ?_ hw
        rw [hz]
        exact hp

end Go.Proofs.YtpiemfchjlihfaaDoor
