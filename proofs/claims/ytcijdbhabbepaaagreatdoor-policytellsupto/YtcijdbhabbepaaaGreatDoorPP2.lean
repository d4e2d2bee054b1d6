/-
  Policy: the pure side: room.
-/
import Derived.Test.YtcijdbhabbepaaaGreatDoorPP1
set_option linter.unusedVariables false
namespace Go.Proofs.YtcijdbhabbepaaaGreatDoor.Po

/-- P12.1, of a configuration that may be. -/
def lim (floor num den base : Int) : Int :=
  if (if base < 0 then 0 else if 65536 < base then 65536 else base) * num / den < floor then floor else (if base < 0 then 0 else if 65536 < base then 65536 else base) * num / den

theorem lim_ge {floor num den x : Int} (hd : 1 ≤ den) (hn : den ≤ num) (h0 : 0 ≤ x) (h1 : x ≤ 65536) : x ≤ lim floor num den x := by
  unfold lim
  rw [if_neg (show ¬ x < 0 by omega), if_neg (show ¬ 65536 < x by omega)]
  have h2 : x ≤ x * num / den := by
    rw [Int.le_ediv_iff_mul_le (by omega)]
    exact Int.mul_le_mul_of_nonneg_left hn h0
  split <;> omega

/-- Where the words lie. -/
structure Wl where
  el : Int
  ed : Int
  fl : Int
  fd : Int
  ol : Int
  od : Int

def Wl.view (eden ten : Int) (w : Wl) : Vw := ⟨eden - w.el - w.ed, w.el + w.ed + w.fl + w.fd, w.ol + w.od, ten - w.ol - w.od⟩

def pct (p : Int) : Int := if p < 0 then 0 else if 100 < p then 100 else p
def part (n p : Int) : Int := n * pct p / 100

theorem part_in {n : Int} (h : 0 ≤ n) (p : Int) : 0 ≤ part n p ∧ part n p ≤ n := by
  have h1 : 0 ≤ pct p ∧ pct p ≤ 100 := by unfold pct; split; omega; split <;> omega
  unfold part
  have h2 : 0 ≤ n * pct p := Int.mul_nonneg h h1.1
  have h3 : n * pct p ≤ n * 100 := Int.mul_le_mul_of_nonneg_left h1.2 h
  omega

def Wl.up (surv : Int) (all : Bool) (sv pr : Int) (w : Wl) : Int := if all = true ∨ surv < w.el + w.fl + part (w.ed + w.fd) sv - part (w.el + w.fl) pr then w.el + w.fl else part (w.el + w.fl) pr

def Wl.minor (surv : Int) (all : Bool) (sv pr : Int) (w : Wl) : Wl :=
  if all = true ∨ surv < w.el + w.fl - w.up surv all sv pr + part (w.ed + w.fd) sv then ⟨0, 0, w.el + w.fl - w.up surv all sv pr, 0, w.ol + w.up surv all sv pr, w.od + part (w.ed + w.fd) sv⟩
  else ⟨0, 0, w.el + w.fl - w.up surv all sv pr, part (w.ed + w.fd) sv, w.ol + w.up surv all sv pr, w.od⟩

/-- What may be of a memory. -/
structure Rom (eden ten words V : Int) (t : Tst) (w : Wl) : Prop where
  n1 : 0 ≤ w.el
  n2 : 0 ≤ w.ed
  n3 : 0 ≤ w.fl
  n4 : 0 ≤ w.fd
  n5 : 0 ≤ w.ol
  n6 : 0 ≤ w.od
  e : w.el + w.ed ≤ eden
  o : w.ol + w.od ≤ ten
  lv : t.cl = false → w.el + w.fl + w.ol = V
  mj : t.cl = false → (3 : Int) ∈ t.ran → w.ed = 0 ∧ w.fd = 0 ∧ w.od = 0
  al : t.cl = false → (2 : Int) ∈ t.ran → w.el = 0 ∧ w.ed = 0

theorem Rom.minor {eden ten words V surv sv pr : Int} {all : Bool} {t t' : Tst} {w : Wl} (h : Rom eden ten words V t w) (hs : w.el + w.ed + w.fl + w.fd ≤ ten - w.ol - w.od) (he : 0 ≤ eden) (hc : t.cl = false) (h3 : (3 : Int) ∈ t'.ran → (3 : Int) ∈ t.ran) : Rom eden ten words V t' (w.minor surv all sv pr) := by
  have l0 : 0 ≤ w.el + w.fl := by have := h.n1; have := h.n3; omega
  have d0 : 0 ≤ w.ed + w.fd := by have := h.n2; have := h.n4; omega
  have p1 := part_in l0 pr
  have p2 := part_in d0 sv
  have u : 0 ≤ w.up surv all sv pr ∧ w.up surv all sv pr ≤ w.el + w.fl := by
    unfold Wl.up; split <;> omega
  obtain ⟨n1, n2, n3, n4, n5, n6, e, o, lv, mj, al⟩ := h
  have lv' := lv hc
  have zd : (3 : Int) ∈ t.ran → part (w.ed + w.fd) sv = 0 ∧ w.od = 0 := fun hm => by
    obtain ⟨a, b, c⟩ := mj hc hm
    rw [a, b] at p2 ⊢
    omega
  unfold Wl.minor
  generalize w.up surv all sv pr = U at *
  generalize part (w.ed + w.fd) sv = D at *
  split
  · exact ⟨by dsimp only; omega, by dsimp only; omega, by dsimp only; omega, by dsimp only; omega, by dsimp only; omega, by dsimp only; omega, by dsimp only; omega, by dsimp only; omega, fun _ => by dsimp only; omega, fun _ hm => by have := zd (h3 hm); dsimp only; omega, fun _ _ => by dsimp only; omega⟩
  · exact ⟨by dsimp only; omega, by dsimp only; omega, by dsimp only; omega, by dsimp only; omega, by dsimp only; omega, by dsimp only; omega, by dsimp only; omega, by dsimp only; omega, fun _ => by dsimp only; omega, fun _ hm => by have := zd (h3 hm); dsimp only; omega, fun _ _ => by dsimp only; omega⟩

/-- What a step makes of it. -/
def Wl.step (surv words sv pr : Int) (s : Int) (w : Wl) : Wl :=
  if s = 1 then { w with el := w.el + words }
  else if s = 2 then { w with ol := w.ol + words }
  else if s = 3 then w.minor surv false sv pr
  else if s = 4 then w.minor surv true sv pr
  else if s = 5 then { w with ed := 0, fd := 0, od := 0 }
  else w

theorem st1 (surv words sv pr : Int) (w : Wl) : w.step surv words sv pr 1 = { w with el := w.el + words } := by simp [Wl.step]
theorem st2 (surv words sv pr : Int) (w : Wl) : w.step surv words sv pr 2 = { w with ol := w.ol + words } := by simp [Wl.step]
theorem st3 (surv words sv pr : Int) (w : Wl) : w.step surv words sv pr 3 = w.minor surv false sv pr := by simp [Wl.step]
theorem st4 (surv words sv pr : Int) (w : Wl) : w.step surv words sv pr 4 = w.minor surv true sv pr := by simp [Wl.step]
theorem st5 (surv words sv pr : Int) (w : Wl) : w.step surv words sv pr 5 = { w with ed := 0, fd := 0, od := 0 } := by simp [Wl.step]
theorem st6 (surv words sv pr : Int) (w : Wl) : w.step surv words sv pr 6 = w := by simp [Wl.step]
theorem st7 (surv words sv pr : Int) (w : Wl) : w.step surv words sv pr 7 = w := by simp [Wl.step]

theorem Rom.major {eden ten words V : Int} {t t' : Tst} {w : Wl} (h : Rom eden ten words V t w) (hc : t'.cl = false → t.cl = false) (h2 : (2 : Int) ∈ t'.ran → (2 : Int) ∈ t.ran) : Rom eden ten words V t' { w with ed := 0, fd := 0, od := 0 } := by
  obtain ⟨n1, n2, n3, n4, n5, n6, e, o, lv, mj, al⟩ := h
  exact ⟨n1, by simp, n3, by simp, n5, by simp, by simp; omega, by simp; omega, fun q => lv (hc q), fun _ _ => by simp, fun q hm => ⟨(al (hc q) (h2 hm)).1, rfl⟩⟩

theorem Rom.next {eden surv ten words V sv pr : Int} {k : Task} {t : Tst} {w : Wl} (h : Rom eden ten words V t w) (he : 64 ≤ eden) (hk : k.kind = 1) (hw : k.words = words) (hw2 : 2 ≤ words) (hb : k.big = false → words ≤ eden) :
    Rom eden ten words V (k.next t (w.view eden ten)).2 (w.step surv words sv pr (k.next t (w.view eden ten)).1) ∧ ((k.next t (w.view eden ten)).1 = 6 → ten - V < words) ∧ ((k.next t (w.view eden ten)).1 = 7 → w.ol + w.od ≤ k.most ∨ (3 : Int) ∈ t.ran ∨ t.ov = true) := by
  obtain ⟨n1, n2, n3, n4, n5, n6, e, o, lv, mj, al⟩ := h
  have H : Rom eden ten words V t w := ⟨n1, n2, n3, n4, n5, n6, e, o, lv, mj, al⟩
  have ev : (w.view eden ten).clip = w.view eden ten := by
    unfold Vw.clip Wl.view
    simp only
    rw [clp_of (by omega), clp_of (by omega), clp_of (by omega), clp_of (by omega)]
  unfold Task.next
  rw [ev]
  have shutR : t.cl = true → Rom eden ten words V (k.shut t (w.view eden ten)).2 (w.step surv words sv pr (k.shut t (w.view eden ten)).1) ∧ ((k.shut t (w.view eden ten)).1 = 6 → ten - V < words) ∧ ((k.shut t (w.view eden ten)).1 = 7 → w.ol + w.od ≤ k.most ∨ (3 : Int) ∈ t.ran ∨ t.ov = true) := fun hc => by
    unfold Task.shut
    by_cases c : t.ov = false ∧ k.most < (w.view eden ten).te ∧ 3 ∉ t.ran
    · rw [if_pos c]
      exact ⟨by show Rom eden ten words V _ (w.step surv words sv pr 5); rw [st5]; exact H.major (fun q => by cases q) (fun hm => by simpa [Tst.cyc, Tst.close] using hm), by simp, by simp⟩
    · rw [if_neg c]
      refine ⟨by show Rom eden ten words V _ (w.step surv words sv pr 7); rw [st7]; exact ⟨n1, n2, n3, n4, n5, n6, e, o, fun q => (by cases q), fun q => (by cases q), fun q => (by cases q)⟩, by simp, fun _ => ?_⟩
      by_cases c1 : t.ov = true
      · exact .inr (.inr c1)
      · by_cases c3 : 3 ∈ t.ran
        · exact .inr (.inl c3)
        · refine .inl ?_
          have : (w.view eden ten).te = w.ol + w.od := rfl
          by_cases c2 : k.most < (w.view eden ten).te
          · exact absurd ⟨by simpa using c1, c2, c3⟩ c
          · omega
  by_cases hc : t.cl = false
  · rw [if_pos hc]
    have lv' := lv hc
    have clR : ∀ w' : Wl, 0 ≤ w'.el → 0 ≤ w'.ed → 0 ≤ w'.fl → 0 ≤ w'.fd → 0 ≤ w'.ol → 0 ≤ w'.od → w'.el + w'.ed ≤ eden → w'.ol + w'.od ≤ ten → Rom eden ten words V t.close w' := fun w' a1 a2 a3 a4 a5 a6 a7 a8 => ⟨a1, a2, a3, a4, a5, a6, a7, a8, fun q => (by cases q), fun q => (by cases q), fun q => (by cases q)⟩
    have e0 : k.opn t (w.view eden ten) = if k.big then k.bigs t (w.view eden ten) else k.small t (w.view eden ten) := by unfold Task.opn; rw [if_pos hk]
    rw [e0]
    have x1 : (w.view eden ten).er = eden - w.el - w.ed := rfl
    have x2 : (w.view eden ten).yo = w.el + w.ed + w.fl + w.fd := rfl
    have x3 : (w.view eden ten).te = w.ol + w.od := rfl
    have x4 : (w.view eden ten).tr = ten - w.ol - w.od := rfl
    generalize w.view eden ten = v at *
    cases hbg : k.big
    · have hbe := hb hbg
      simp only [Bool.false_eq_true, if_false]
      unfold Task.small
      by_cases a1 : k.words ≤ v.er
      · rw [if_pos a1, if_neg (by simp)]
        exact ⟨by show Rom eden ten words V _ (w.step surv words sv pr 1); rw [st1]; exact clR _ (by dsimp only; omega) n2 n3 n4 n5 n6 (by dsimp only; omega) o, by simp, by simp⟩
      · rw [if_neg a1]
        by_cases a2 : t.ran = [] ∧ v.yo ≤ v.tr
        · rw [if_pos a2, if_neg (by simp)]
          exact ⟨by show Rom eden ten words V _ (w.step surv words sv pr 3); rw [st3]; exact H.minor (by omega) (by omega) hc (fun hm => by simpa [Tst.cyc] using hm), by simp, by simp⟩
        · rw [if_neg a2]
          by_cases a3 : 3 ∉ t.ran
          · rw [if_pos a3, if_neg (by simp)]
            exact ⟨by show Rom eden ten words V _ (w.step surv words sv pr 5); rw [st5]; exact H.major (fun _ => hc) (fun hm => by simpa [Tst.cyc] using hm), by simp, by simp⟩
          · rw [if_neg a3]
            have mj' := mj hc (Decidable.not_not.1 a3)
            by_cases a4 : 2 ∉ t.ran ∧ v.yo ≤ v.tr
            · rw [if_pos a4, if_neg (by simp)]
              exact ⟨by show Rom eden ten words V _ (w.step surv words sv pr 4); rw [st4]; exact H.minor (by omega) (by omega) hc (fun hm => by simpa [Tst.cyc] using hm), by simp, by simp⟩
            · rw [if_neg a4, if_neg (by simp)]
              refine ⟨by show Rom eden ten words V _ (w.step surv words sv pr 6); rw [st6]; exact clR w n1 n2 n3 n4 n5 n6 e o, fun _ => ?_, by simp⟩
              by_cases b2 : 2 ∉ t.ran
              · have : ¬ v.yo ≤ v.tr := fun q => a4 ⟨b2, q⟩
                omega
              · have := al hc (Decidable.not_not.1 b2)
                omega
    · simp only [if_true]
      unfold Task.bigs
      by_cases a1 : k.words ≤ v.tr ∧ (3 ∈ t.ran ∨ v.te ≤ k.most - k.words)
      · rw [if_pos a1, if_neg (by simp)]
        exact ⟨by show Rom eden ten words V _ (w.step surv words sv pr 2); rw [st2]; exact clR _ n1 n2 n3 n4 (by dsimp only; omega) n6 e (by dsimp only; omega), by simp, by simp⟩
      · rw [if_neg a1]
        by_cases a3 : 3 ∉ t.ran
        · rw [if_pos a3, if_neg (by simp)]
          exact ⟨by show Rom eden ten words V _ (w.step surv words sv pr 5); rw [st5]; exact H.major (fun _ => hc) (fun hm => by simpa [Tst.cyc] using hm), by simp, by simp⟩
        · rw [if_neg a3, if_neg (by simp)]
          have m3 := Decidable.not_not.1 a3
          have mj' := mj hc m3
          refine ⟨by show Rom eden ten words V _ (w.step surv words sv pr 6); rw [st6]; exact clR w n1 n2 n3 n4 n5 n6 e o, fun _ => ?_, by simp⟩
          have : ¬ k.words ≤ v.tr := fun q => a1 ⟨q, .inl m3⟩
          omega
  · rw [if_neg hc]
    exact shutR (by simpa using hc)

end Go.Proofs.YtcijdbhabbepaaaGreatDoor.Po
