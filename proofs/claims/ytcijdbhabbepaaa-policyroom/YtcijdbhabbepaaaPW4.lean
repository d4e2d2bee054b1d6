/-
  PolicyRoom: what the loop keeps.
-/
import Derived.Test.YtcijdbhabbepaaaPW3
import Derived.Test.YtcijdbhabbepaaaPE1
set_option linter.unusedVariables false
set_option maxRecDepth 20000
namespace Go.Proofs.Ytcijdbhabbepaaa.Po
open Go.RowKit Go.Proofs.Ytcijdbhabbepaaa.Kg

theorem minor_small {z : Wl} (h1 : 0 ≤ z.el) (h2 : 0 ≤ z.ed) (h3 : 0 ≤ z.fl) (h4 : 0 ≤ z.fd) (surv : Int) (all : Bool) (sv pr : Int) : (z.minor surv all sv pr).fl ≤ z.el + z.fl ∧ (z.minor surv all sv pr).fd ≤ z.ed + z.fd := by
  have p1 := part_in (show 0 ≤ z.el + z.fl by omega) pr
  have p2 := part_in (show 0 ≤ z.ed + z.fd by omega) sv
  have u : 0 ≤ z.up surv all sv pr ∧ z.up surv all sv pr ≤ z.el + z.fl := by
    unfold Wl.up; split <;> omega
  unfold Wl.minor
  split
  · exact ⟨by dsimp only; omega, by dsimp only; omega⟩
  · exact ⟨by dsimp only; omega, by dsimp only; omega⟩

theorem step_small {z : Wl} (h1 : 0 ≤ z.el) (h2 : 0 ≤ z.ed) (h3 : 0 ≤ z.fl) (h4 : 0 ≤ z.fd) (surv words sv pr s : Int) : (z.step surv words sv pr s).fl ≤ z.el + z.fl ∧ (z.step surv words sv pr s).fd ≤ z.ed + z.fd := by
  have h3' := minor_small h1 h2 h3 h4 surv false sv pr
  have h4' := minor_small h1 h2 h3 h4 surv true sv pr
  unfold Wl.step
  repeat' split
  all_goals first | exact h3' | exact h4' | (constructor <;> (try dsimp only) <;> omega)

/-- What the loop keeps. -/
structure Rms (n0 : Nat) (w : World) (m : Mem12) (k : Task) (b g D : Nat) (n : Nat) (t : Tst) (z : Wl) : Prop where
  ex : ∃ u, Pt w n0 b u g k t ∧ D ∉ Fq b u g ∧ ∀ q, q ∈ Fq b u g → n0 ≤ q
  j : ∃ h, Jn k t n h
  wl : Wld w D m.c z
  lo : n0 ≤ D
  rm : Rom m.c.eden m.c.ten m.words (m.fix.el + m.fix.ol) t z
  fs : z.fl ≤ 65536 * n ∧ z.fd ≤ 65536 * n
  ov : t.ov = false
  ok : m.c.Ok

theorem Rms.small {n0 : Nat} {w : World} {m : Mem12} {k : Task} {b g D n : Nat} {t : Tst} {z : Wl} (R : Rms n0 w m k b g D n t z) (hn : n ≤ 6) : Wsm m.c z := by
  have h1 := R.rm.e
  have h2 := R.rm.o
  have h3 := R.fs
  have e1 := R.ok.e1
  have t1 := R.ok.t1
  have a1 := R.rm.n1
  have a2 := R.rm.n2
  have a3 := R.rm.n3
  have a4 := R.rm.n4
  have a5 := R.rm.n5
  have a6 := R.rm.n6
  exact ⟨R.ok, by omega, by omega, by omega, by omega, by omega, by omega⟩

theorem Rms.below {n0 : Nat} {w w' : World} {m : Mem12} {k : Task} {b g D n : Nat} {t : Tst} {z : Wl} (R : Rms n0 w m k b g D n t z) (hb : Below w.heap.size w w') : Rms n0 w' m k b g D n t z := by
  obtain ⟨u, h1, h2, h3⟩ := R.ex
  exact ⟨⟨u, h1.below hb, h2, h3⟩, R.j, R.wl.touch (Kg.Touch.of_below hb []) (by simp), R.lo, R.rm, R.fs, R.ov, R.ok⟩

abbrev mtk (m : Mem12) : Task := mk12 m.c m.base 1 m.words

theorem next_ran {k : Task} {t : Tst} {v : Vw} {s : Nat} (hs : (k.next t v).1 = s) (h7 : s = 7) : (k.next t v).2.ran = t.ran := by
  subst h7
  have h1 : ∀ x : Vw, (k.shut t x).1 = 7 → (k.shut t x).2.ran = t.ran := fun x h => by
    unfold Task.shut at h ⊢
    by_cases c : t.ov = false ∧ k.most < x.te ∧ 3 ∉ t.ran
    · rw [if_pos c] at h; simp at h
    · rw [if_neg c]; rfl
  have h2 : ∀ x : Vw, (k.opn t x).1 ≠ 7 := fun x => by
    unfold Task.opn Task.small Task.bigs
    repeat' split
    all_goals simp
  have hs' : (k.next t v).1 = 7 := hs
  unfold Task.next at hs' ⊢
  by_cases hc : t.cl = false
  · rw [if_pos hc] at hs' ⊢
    by_cases h0 : (k.opn t v.clip).1 = 0
    · rw [if_pos h0] at hs' ⊢; exact h1 _ hs'
    · rw [if_neg h0] at hs' ⊢; exact absurd hs' (h2 _)
  · rw [if_neg hc] at hs' ⊢; exact h1 _ hs'

/-- The turn takes a step; what it asks for is still to be done. -/
theorem Rms.next {n0 : Nat} {w w1 : World} {m : Mem12} {b g D n : Nat} {u : Value} {t : Tst} {z : Wl} (R : Rms n0 w m (mtk m) b g D n t z) (hu : Pt w n0 b u g (mtk m) t ∧ D ∉ Fq b u g ∧ ∀ q, q ∈ Fq b u g → n0 ≤ q) (hw2 : 2 ≤ m.words)
    (hG : Gop w w1 n0 b u g (mtk m) ((mtk m).next t (z.view m.c.eden m.c.ten)).2) (s : Nat) (hs : ((mtk m).next t (z.view m.c.eden m.c.ten)).1 = s) (h0 : n0 ≤ w.heap.size) :
    Wld w1 D m.c z ∧ Below n0 w w1 ∧ (∃ u', Pt w1 n0 b u' g (mtk m) ((mtk m).next t (z.view m.c.eden m.c.ten)).2 ∧ D ∉ Fq b u' g ∧ ∀ q, q ∈ Fq b u' g → n0 ≤ q) ∧
    (1 ≤ s ∧ s ≤ 7) ∧ (5 ≤ n → s = 7) ∧ Rom m.c.eden m.c.ten m.words (m.fix.el + m.fix.ol) ((mtk m).next t (z.view m.c.eden m.c.ten)).2 (z.step m.c.surv m.words m.sv m.pr s) ∧
    (s = 6 → m.c.ten - (m.fix.el + m.fix.ol) < m.words) ∧ (s = 7 → z.ol + z.od ≤ clim m.c m.base ∨ (3 : Int) ∈ t.ran) ∧
    (∀ w2, Wld w2 D m.c (z.step m.c.surv m.words m.sv m.pr s) → Kg.Touch [D] w1 w2 → s ≠ 7 → Rms n0 w2 m (mtk m) b g D (n + 1) ((mtk m).next t (z.view m.c.eden m.c.ten)).2 (z.step m.c.surv m.words m.sv m.pr s)) := by
  obtain ⟨u', h1, h2, h3⟩ := hG.ex
  obtain ⟨p1, p2, p3⟩ := hu
  obtain ⟨h, J⟩ := R.j
  obtain ⟨kp, jn⟩ := J.next (z.view m.c.eden m.c.ten)
  rw [hs] at kp jn
  have hr := R.rm.next (k := mtk m) (surv := m.c.surv) (sv := m.sv) (pr := m.pr) R.ok.e0 rfl rfl hw2 (fun hb => by
    have hb' : decide (m.c.large ≤ m.words ∨ m.c.eden < m.words) = false := hb
    have := of_decide_eq_false hb'
    omega)
  rw [hs] at hr
  obtain ⟨r1, r2, r3⟩ := hr
  have hB2 : D ∉ Fq b u' g := fun hm => (h3 D hm).elim p2 (fun hl => by have := heap_lt R.wl; omega)
  have hl : ∀ q, q ∈ Fq b u' g → n0 ≤ q := fun q hq => (h3 q hq).elim (p3 q) (fun hl => Nat.le_trans h0 hl)
  refine ⟨R.wl.touch h2 p2, h2.below h0 p3, ⟨u', h1, hB2, hl⟩, by have := kp.s1; omega, fun h5 => by have := kp.i5 h5; omega, r1, fun e => r2 (by omega), fun e => ?_, fun w2 hw2' ht hn7 => ?_⟩
  · rcases r3 (by omega) with q | q | q
    · exact .inl q
    · exact .inr q
    · rw [R.ov] at q; cases q
  · have hst := step_small R.rm.n1 R.rm.n2 R.rm.n3 R.rm.n4 m.c.surv m.words m.sv m.pr s
    have he := R.rm.e
    have he1 := R.ok.e1
    have hf := R.fs
    have a1 := R.rm.n1
    have a2 := R.rm.n2
    refine ⟨⟨u', h1.touch ht (fun q hq hm => by simp at hm; subst hm; exact hB2 hq), hB2, hl⟩, ⟨_, jn⟩, hw2', R.lo, r1, by omega, ?_, R.ok⟩
    rw [next_ov, R.ov, hs]
    simp only [Bool.false_or, decide_eq_false_iff_not]
    omega

end Go.Proofs.Ytcijdbhabbepaaa.Po
