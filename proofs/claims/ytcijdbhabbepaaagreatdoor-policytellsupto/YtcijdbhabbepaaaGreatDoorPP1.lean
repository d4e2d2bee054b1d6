/-
  Policy: the pure side: what a turn tells.
-/
import Derived.Test.YtcijdbhabbepaaaGreatDoorRows
set_option linter.unusedVariables false
namespace Go.Proofs.YtcijdbhabbepaaaGreatDoor.Po

/-- A view. -/
structure Vw where
  er : Int
  yo : Int
  te : Int
  tr : Int

/-- What is below 0 counts as 0. -/
def clp (n : Int) : Int := if n < 0 then 0 else n

theorem clp_nn (n : Int) : 0 ≤ clp n := by unfold clp; split <;> omega
theorem clp_of {n : Int} (h : 0 ≤ n) : clp n = n := by unfold clp; rw [if_neg (by omega)]

def Vw.clip (v : Vw) : Vw := ⟨clp v.er, clp v.yo, clp v.te, clp v.tr⟩

/-- What a turn is made for. -/
structure Task where
  big : Bool
  kind : Int
  words : Int
  first : Int
  most : Int

/-- How far it is. -/
structure Tst where
  cl : Bool
  ov : Bool
  ran : List Int

def Tst.close (t : Tst) : Tst := { t with cl := true }
def Tst.cyc (t : Tst) (x : Int) : Tst := { t with ran := t.ran ++ [x] }

def Task.small (k : Task) (t : Tst) (v : Vw) : Int × Tst :=
  if k.words ≤ v.er then (1, t.close)
  else if t.ran = [] ∧ v.yo ≤ v.tr then (3, t.cyc 1)
  else if 3 ∉ t.ran then (5, t.cyc 3)
  else if 2 ∉ t.ran ∧ v.yo ≤ v.tr then (4, t.cyc 2)
  else (6, t.close)

def Task.bigs (k : Task) (t : Tst) (v : Vw) : Int × Tst :=
  if k.words ≤ v.tr ∧ (3 ∈ t.ran ∨ v.te ≤ k.most - k.words) then (2, t.close)
  else if 3 ∉ t.ran then (5, t.cyc 3)
  else (6, t.close)

def Task.opn (k : Task) (t : Tst) (v : Vw) : Int × Tst :=
  if k.kind = 1 then (if k.big then k.bigs t v else k.small t v)
  else if k.kind = 2 ∨ k.kind = 3 then
    (if v.yo ≤ v.tr then (if k.kind = 3 then (4, t.close.cyc 2) else (3, t.close.cyc 1))
     else if 3 ∉ t.ran then (5, t.cyc 3) else (0, t))
  else if k.kind = 4 then (5, t.close.cyc 3)
  else (0, t)

def Task.shut (k : Task) (t : Tst) (v : Vw) : Int × Tst :=
  if t.ov = false ∧ k.most < v.te ∧ 3 ∉ t.ran then (5, t.close.cyc 3) else (7, { t.close with ov := true })

def Task.next (k : Task) (t : Tst) (v : Vw) : Int × Tst :=
  if t.cl = false then (if (k.opn t v.clip).1 = 0 then k.shut t v.clip else k.opn t v.clip) else k.shut t v.clip

/-- What has been told: how often each step. -/
def bump (h : Int → Nat) (s : Int) : Int → Nat := fun j => if j = s then h j + 1 else h j

/-- What holds of a turn behind i steps. -/
structure Jn (k : Task) (t : Tst) (i : Nat) (h : Int → Nat) : Prop where
  kd : 1 ≤ k.kind ∧ k.kind ≤ 5
  oc : t.ov = true → t.cl = true
  h3 : h 3 = t.ran.count 1
  h4 : h 4 = t.ran.count 2
  h5 : h 5 = t.ran.count 3
  le : t.ran.count 1 ≤ 1 ∧ t.ran.count 2 ≤ 1 ∧ t.ran.count 3 ≤ 1
  len : t.ran.length = h 3 + h 4 + h 5
  pl : (k.kind = 1 ∧ t.cl = true → h 1 + h 2 + h 6 = 1) ∧ (¬ (k.kind = 1 ∧ t.cl = true) → h 1 + h 2 + h 6 = 0)
  st : t.ov = false → i = h 1 + h 2 + h 3 + h 4 + h 5 + h 6
  mi : k.kind ≠ 1 → t.cl = false → t.ran.count 1 = 0 ∧ t.ran.count 2 = 0
  ma : k.kind = 4 → t.cl = false → t.ran.count 3 = 0

theorem Jn.start {k : Task} (hk : 1 ≤ k.kind ∧ k.kind ≤ 5) : Jn k ⟨false, false, []⟩ 0 (fun _ => 0) := by
  refine ⟨hk, by simp, by simp, by simp, by simp, by simp, by simp, by simp, by simp, by simp, by simp⟩

/-- What the steps of a turn keep to. -/
structure Kp (k : Task) (t : Tst) (i : Nat) (h : Int → Nat) (v : Vw) (s : Int) : Prop where
  s1 : 1 ≤ s ∧ s ≤ 7
  o7 : t.ov = true → s = 7
  i5 : 5 ≤ i → s = 7
  sr : s = 3 ∨ s = 4 → clp v.yo ≤ clp v.tr
  fl : s = 6 → h 5 ≠ 0
  en : s = 7 → t.ov = false → h 5 = 0 → clp v.te ≤ k.most

theorem cnt0 {l : List Int} {x : Int} (h : x ∉ l) : l.count x = 0 := List.count_eq_zero.2 h
theorem cnt1 {l : List Int} {x : Int} (h : x ∈ l) : 0 < l.count x := List.count_pos_iff.2 h

theorem Jn.shut {k : Task} {t : Tst} {i : Nat} {h : Int → Nat} (J : Jn k t i h) (hc : t.cl = true ∨ k.kind ≠ 1) (v : Vw) : Kp k t i h v (k.shut t v.clip).1 ∧ Jn k (k.shut t v.clip).2 (i + 1) (bump h (k.shut t v.clip).1) := by
  obtain ⟨kd, oc, h3, h4, h5, le, len, pl, st, mi, ma⟩ := J
  have hpl : h 1 + h 2 + h 6 ≤ 1 := by
    by_cases e : k.kind = 1 ∧ t.cl = true
    · have := pl.1 e; omega
    · have := pl.2 e; omega
  have npl : (k.kind = 1 ∧ true = true → h 1 + h 2 + h 6 = 1) ∧ (¬ (k.kind = 1 ∧ true = true) → h 1 + h 2 + h 6 = 0) := by
    rcases hc with e | e
    · rw [e] at pl; exact pl
    · exact ⟨fun q => absurd q.1 e, fun _ => pl.2 (fun q => e q.1)⟩
  unfold Task.shut
  by_cases c : t.ov = false ∧ k.most < v.clip.te ∧ 3 ∉ t.ran
  · rw [if_pos c]
    obtain ⟨c1, c2, c3⟩ := c
    have c4 := cnt0 c3
    refine ⟨⟨by simp, fun e => (by rw [c1] at e; cases e), fun e => (by have := st c1; omega), by simp, by simp, by simp⟩, ⟨kd, fun _ => rfl, ?_, ?_, ?_, ?_, ?_, ?_, fun _ => ?_, by simp [Tst.cyc, Tst.close], by simp [Tst.cyc, Tst.close]⟩⟩
    · simpa [bump, Tst.cyc, Tst.close] using h3
    · simpa [bump, Tst.cyc, Tst.close] using h4
    · simp [bump, Tst.cyc, Tst.close]; omega
    · simp [Tst.cyc, Tst.close]; omega
    · simp [bump, Tst.cyc, Tst.close]; omega
    · simpa [bump, Tst.cyc, Tst.close] using npl
    · have := st c1; simp [bump]; omega
  · rw [if_neg c]
    refine ⟨⟨by simp, fun _ => rfl, fun _ => rfl, by simp, by simp, fun _ e1 e2 => ?_⟩, ⟨kd, fun _ => rfl, ?_, ?_, ?_, le, ?_, ?_, by simp, by simp [Tst.close], by simp [Tst.close]⟩⟩
    · have c3 : 3 ∉ t.ran := fun hm => by have := cnt1 hm; omega
      by_cases c2 : k.most < v.clip.te
      · exact absurd ⟨e1, c2, c3⟩ c
      · have : v.clip.te = clp v.te := rfl
        omega
    · simpa [bump, Tst.close] using h3
    · simpa [bump, Tst.close] using h4
    · simpa [bump, Tst.close] using h5
    · simpa [bump, Tst.close] using len
    · simpa [bump, Tst.close] using npl

/-- A cycle that is told while the turn is open. -/
theorem Jn.cyc {k : Task} {t : Tst} {i : Nat} {h : Int → Nat} (J : Jn k t i h) (hc : t.cl = false) (s x : Int) (hs : (s = 3 ∧ x = 1) ∨ (s = 4 ∧ x = 2) ∨ (s = 5 ∧ x = 3)) (hx : x ∉ t.ran) (hk : k.kind = 1 ∨ (x = 3 ∧ k.kind ≠ 4)) : Jn k (t.cyc x) (i + 1) (bump h s) := by
  obtain ⟨kd, oc, h3, h4, h5, le, len, pl, st, mi, ma⟩ := J
  have h0 := cnt0 hx
  have hov : t.ov = false := by
    cases e : t.ov with
    | false => rfl
    | true => rw [oc e] at hc; cases hc
  have p0 := pl.2 (fun q => by rw [hc] at q; cases q.2)
  have s0 := st hov
  rcases hs with ⟨rfl, rfl⟩ | ⟨rfl, rfl⟩ | ⟨rfl, rfl⟩
  all_goals
    refine ⟨kd, oc, ?_, ?_, ?_, ?_, ?_, ?_, fun _ => ?_, ?_, ?_⟩
    · simp [bump, Tst.cyc]; omega
    · simp [bump, Tst.cyc]; omega
    · simp [bump, Tst.cyc]; omega
    · simp [Tst.cyc]; omega
    · simp [bump, Tst.cyc]; omega
    · simp [bump, Tst.cyc, hc]; omega
    · simp [bump]; omega
    · intro e1 e2
      have := mi e1 hc
      simp [Tst.cyc]
      omega
    · intro e1 e2
      exfalso
      omega

/-- A cycle that is told, and the turn closes. -/
theorem Jn.cycl {k : Task} {t : Tst} {i : Nat} {h : Int → Nat} (J : Jn k t i h) (hc : t.cl = false) (s x : Int) (hs : (s = 3 ∧ x = 1) ∨ (s = 4 ∧ x = 2) ∨ (s = 5 ∧ x = 3)) (hx : x ∉ t.ran) (hk : k.kind ≠ 1) : Jn k (t.close.cyc x) (i + 1) (bump h s) := by
  obtain ⟨kd, oc, h3, h4, h5, le, len, pl, st, mi, ma⟩ := J
  have h0 := cnt0 hx
  have hov : t.ov = false := by
    cases e : t.ov with
    | false => rfl
    | true => rw [oc e] at hc; cases hc
  have p0 := pl.2 (fun q => by rw [hc] at q; cases q.2)
  have s0 := st hov
  rcases hs with ⟨rfl, rfl⟩ | ⟨rfl, rfl⟩ | ⟨rfl, rfl⟩
  all_goals
    refine ⟨kd, fun _ => rfl, ?_, ?_, ?_, ?_, ?_, ?_, fun _ => ?_, ?_, ?_⟩
    · simp [bump, Tst.cyc, Tst.close]; omega
    · simp [bump, Tst.cyc, Tst.close]; omega
    · simp [bump, Tst.cyc, Tst.close]; omega
    · simp [Tst.cyc, Tst.close]; omega
    · simp [bump, Tst.cyc, Tst.close]; omega
    · simp [bump, Tst.cyc, Tst.close, hk]; omega
    · simp [bump]; omega
    · simp [Tst.cyc, Tst.close]
    · simp [Tst.cyc, Tst.close]

/-- A place is told, and the turn closes. -/
theorem Jn.place {k : Task} {t : Tst} {i : Nat} {h : Int → Nat} (J : Jn k t i h) (hc : t.cl = false) (hk : k.kind = 1) (s : Int) (hs : s = 1 ∨ s = 2 ∨ s = 6) : Jn k t.close (i + 1) (bump h s) := by
  obtain ⟨kd, oc, h3, h4, h5, le, len, pl, st, mi, ma⟩ := J
  have hov : t.ov = false := by
    cases e : t.ov with
    | false => rfl
    | true => rw [oc e] at hc; cases hc
  have p0 := pl.2 (fun q => by rw [hc] at q; cases q.2)
  have s0 := st hov
  rcases hs with rfl | rfl | rfl
  all_goals
    refine ⟨kd, fun _ => rfl, ?_, ?_, ?_, le, ?_, ?_, fun _ => ?_, ?_, ?_⟩
    · simpa [bump, Tst.close] using h3
    · simpa [bump, Tst.close] using h4
    · simpa [bump, Tst.close] using h5
    · simpa [bump, Tst.close] using len
    · simp [bump, Tst.close, hk]; omega
    · simp [bump]; omega
    · simp [Tst.close]
    · simp [Tst.close]

theorem Jn.next {k : Task} {t : Tst} {i : Nat} {h : Int → Nat} (J : Jn k t i h) (v : Vw) : Kp k t i h v (k.next t v).1 ∧ Jn k (k.next t v).2 (i + 1) (bump h (k.next t v).1) := by
  unfold Task.next
  by_cases hc : t.cl = false
  · rw [if_pos hc]
    have hov : t.ov = false := by
      cases e : t.ov with
      | false => rfl
      | true => rw [J.oc e] at hc; cases hc
    have hi : i ≤ 4 := by
      have := J.st hov
      have := J.pl.2 (fun q => by rw [hc] at q; cases q.2)
      have := J.le
      have := J.h3
      have := J.h4
      have := J.h5
      omega
    have kp : ∀ s : Int, 1 ≤ s ∧ s ≤ 6 → (s = 3 ∨ s = 4 → clp v.yo ≤ clp v.tr) → (s = 6 → h 5 ≠ 0) → Kp k t i h v s := fun s h1 h2 h3 => ⟨by omega, fun e => (by rw [hov] at e; cases e), fun e => (by omega), h2, h3, fun e => (by omega)⟩
    have nr : ∀ x : Int, t.ran = [] → x ∉ t.ran := fun x e => by rw [e]; simp
    have eyo : v.clip.yo = clp v.yo := rfl
    have etr : v.clip.tr = clp v.tr := rfl
    by_cases k1 : k.kind = 1
    · have e0 : k.opn t v.clip = if k.big then k.bigs t v.clip else k.small t v.clip := by unfold Task.opn; rw [if_pos k1]
      rw [e0]
      cases k.big
      · simp only [Bool.false_eq_true, if_false]
        unfold Task.small
        by_cases a1 : k.words ≤ v.clip.er
        · rw [if_pos a1, if_neg (by simp)]
          exact ⟨kp 1 (by simp) (by simp) (by simp), J.place hc k1 1 (by simp)⟩
        · rw [if_neg a1]
          by_cases a2 : t.ran = [] ∧ v.clip.yo ≤ v.clip.tr
          · rw [if_pos a2, if_neg (by simp)]
            exact ⟨kp 3 (by simp) (fun _ => by omega) (by simp), J.cyc hc 3 1 (by simp) (nr 1 a2.1) (.inl k1)⟩
          · rw [if_neg a2]
            by_cases a3 : 3 ∉ t.ran
            · rw [if_pos a3, if_neg (by simp)]
              exact ⟨kp 5 (by simp) (by simp) (by simp), J.cyc hc 5 3 (by simp) a3 (.inl k1)⟩
            · rw [if_neg a3]
              by_cases a4 : 2 ∉ t.ran ∧ v.clip.yo ≤ v.clip.tr
              · rw [if_pos a4, if_neg (by simp)]
                exact ⟨kp 4 (by simp) (fun _ => by omega) (by simp), J.cyc hc 4 2 (by simp) a4.1 (.inl k1)⟩
              · rw [if_neg a4, if_neg (by simp)]
                have := cnt1 (Decidable.not_not.1 a3)
                have := J.h5
                exact ⟨kp 6 (by simp) (by simp) (fun _ => by omega), J.place hc k1 6 (by simp)⟩
      · simp only [if_true]
        unfold Task.bigs
        by_cases a1 : k.words ≤ v.clip.tr ∧ (3 ∈ t.ran ∨ v.clip.te ≤ k.most - k.words)
        · rw [if_pos a1, if_neg (by simp)]
          exact ⟨kp 2 (by simp) (by simp) (by simp), J.place hc k1 2 (by simp)⟩
        · rw [if_neg a1]
          by_cases a3 : 3 ∉ t.ran
          · rw [if_pos a3, if_neg (by simp)]
            exact ⟨kp 5 (by simp) (by simp) (by simp), J.cyc hc 5 3 (by simp) a3 (.inl k1)⟩
          · rw [if_neg a3, if_neg (by simp)]
            have := cnt1 (Decidable.not_not.1 a3)
            have := J.h5
            exact ⟨kp 6 (by simp) (by simp) (fun _ => by omega), J.place hc k1 6 (by simp)⟩
    · have m := J.mi k1 hc
      have n1 : (1 : Int) ∉ t.ran := List.count_eq_zero.1 m.1
      have n2 : (2 : Int) ∉ t.ran := List.count_eq_zero.1 m.2
      unfold Task.opn
      rw [if_neg k1]
      by_cases k2 : k.kind = 2 ∨ k.kind = 3
      · rw [if_pos k2]
        by_cases a1 : v.clip.yo ≤ v.clip.tr
        · rw [if_pos a1]
          by_cases k3 : k.kind = 3
          · rw [if_pos k3, if_neg (by simp)]
            exact ⟨kp 4 (by simp) (fun _ => by omega) (by simp), J.cycl hc 4 2 (by simp) n2 k1⟩
          · rw [if_neg k3, if_neg (by simp)]
            exact ⟨kp 3 (by simp) (fun _ => by omega) (by simp), J.cycl hc 3 1 (by simp) n1 k1⟩
        · rw [if_neg a1]
          by_cases a3 : 3 ∉ t.ran
          · rw [if_pos a3, if_neg (by simp)]
            exact ⟨kp 5 (by simp) (by simp) (by simp), J.cyc hc 5 3 (by simp) a3 (.inr ⟨rfl, by omega⟩)⟩
          · rw [if_neg a3, if_pos rfl]
            exact J.shut (.inr k1) v
      · rw [if_neg k2]
        by_cases k4 : k.kind = 4
        · rw [if_pos k4, if_neg (by simp)]
          have n3 : (3 : Int) ∉ t.ran := List.count_eq_zero.1 (J.ma k4 hc)
          exact ⟨kp 5 (by simp) (by simp) (by simp), J.cycl hc 5 3 (by simp) n3 k1⟩
        · rw [if_neg k4, if_pos rfl]
          exact J.shut (.inr k1) v
  · rw [if_neg hc]
    exact J.shut (.inl (by simpa using hc)) v

end Go.Proofs.YtcijdbhabbepaaaGreatDoor.Po
