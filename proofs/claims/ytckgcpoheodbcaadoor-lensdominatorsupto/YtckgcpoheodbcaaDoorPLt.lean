import Derived.Test.YtckgcpoheodbcaaDoorRows
import Derived.Test.YtckgcpoheodbcaaDoorPLp
/-
  Dominators by the method of Lengauer and Tarjan, over places: trees that a search in depth leaves; which places a list of ways cannot pass by.
-/
set_option linter.unusedVariables false
namespace Go.Proofs.YtckgcpoheodbcaaDoor.Lt

/-- u stands on the way up from v, or is v. -/
inductive Anc (par : Nat → Nat) : Nat → Nat → Prop
  | refl (v : Nat) : Anc par v v
  | up {u v : Nat} : v ≠ 0 → Anc par u (par v) → Anc par u v

/-- What a search in depth leaves: places 0 .. p - 1 in their order, whom each was met from. -/
structure Dt (E : Nat → Nat → Prop) (par : Nat → Nat) (p : Nat) : Prop where
  pl : ∀ v, v ≠ 0 → v < p → par v < v
  pe : ∀ v, v ≠ 0 → v < p → E (par v) v
  fw : ∀ u v, E u v → u < v → Anc par u v
  iv : ∀ u y v, v < p → Anc par u v → u ≤ y → y ≤ v → Anc par u y
  el : ∀ u v, E u v → u < p ∧ v < p

/-- A list of ways from v to w that passes greater ones than w alone. -/
inductive Sp (E : Nat → Nat → Prop) (w : Nat) : Nat → Prop
  | last {v : Nat} : E v w → Sp E w v
  | step {v x : Nat} : E v x → w < x → Sp E w x → Sp E w v

/-- A list of ways from 0 that doesn't meet d. -/
inductive Av (E : Nat → Nat → Prop) (d : Nat) : Nat → Prop
  | root : d ≠ 0 → Av E d 0
  | step {u v : Nat} : Av E d u → E u v → v ≠ d → Av E d v

theorem Anc.trans {par : Nat → Nat} {a b c : Nat} (h : Anc par a b) (k : Anc par b c) : Anc par a c := by
  induction k with
  | refl => exact h
  | up h0 _ ih => exact .up h0 ih

theorem Anc.par_ {par : Nat → Nat} {a b : Nat} (h : Anc par a b) (hne : a ≠ b) : b ≠ 0 ∧ Anc par a (par b) := by
  cases h with
  | refl => exact absurd rfl hne
  | up h0 h => exact ⟨h0, h⟩

section
variable {E : Nat → Nat → Prop} {par : Nat → Nat} {p : Nat} (D : Dt E par p)
include D

theorem Dt.le {u v : Nat} (hv : v < p) (h : Anc par u v) : u ≤ v := by
  induction h with
  | refl => exact Nat.le_refl _
  | @up v h0 _ ih =>
    have := D.pl v h0 hv
    have := ih (by omega)
    omega

theorem Dt.lt {u v : Nat} (hv : v < p) (h : Anc par u v) (hne : u ≠ v) : u < v := by
  have := D.le hv h
  omega

theorem Dt.chain {a b v : Nat} (hv : v < p) (ha : Anc par a v) (hb : Anc par b v) (h : a ≤ b) : Anc par a b := D.iv a b v hv ha h (D.le hv hb)

theorem Dt.top {v : Nat} (hv : v < p) : Anc par 0 v := by
  induction v using Nat.strongRecOn with
  | _ v ih =>
    by_cases h0 : v = 0
    · rw [h0]; exact .refl 0
    · have := D.pl v h0 hv
      exact .up h0 (ih _ this (by omega))

/-- Down the tree. -/
theorem Dt.down {d y v : Nat} (hv : v < p) (h : Av E d y) (ha : Anc par y v) (hn : ∀ z, Anc par y z → Anc par z v → z ≠ y → z ≠ d) : Av E d v := by
  induction ha with
  | refl => exact h
  | @up v h0 ha ih =>
    have hp := D.pl v h0 hv
    have h1 := ih (by omega) (fun z h1 h2 => hn z h1 (.up h0 h2))
    refine .step h1 (D.pe v h0 hv) (hn v (.up h0 ha) (.refl v) (fun e => ?_))
    have := D.le (by omega) ha
    omega

theorem Dt.over {d v : Nat} (hv : v < p) (h : v < d) : Av E d v :=
  D.down hv (.root (by omega)) (D.top hv) (fun z _ h2 _ => by have := D.le hv h2; omega)

omit D in
/-- Along a list that passes greater ones alone. -/
theorem along {d w v : Nat} (h : Av E d v) (hs : Sp E w v) (hd : d < w) : Av E d w := by
  induction hs with
  | last e => exact .step h e (by omega)
  | step e hx _ ih => exact ih (.step h e (by omega))

theorem Dt.sp_lt {w v : Nat} (h : Sp E w v) : v < p ∧ w < p := by
  induction h with
  | last e => exact D.el _ _ e
  | step e _ _ ih => exact ⟨(D.el _ _ e).1, ih.2⟩

/-- From below it begins above. -/
theorem Dt.sp_anc {w v : Nat} (h : Sp E w v) (hl : v < w) : Anc par v w := by
  cases h with
  | last e => exact D.fw _ _ e hl
  | @step _ x e hx h =>
    have h1 := D.fw v x e (by omega)
    exact D.iv v w x (D.el _ _ e).2 h1 (by omega) (by omega)

/-- A list from below i to y, between which there is nobody that isn't behind i and off the way to w. -/
inductive Bf (E : Nat → Nat → Prop) (i : Nat) (T : Nat → Prop) : Nat → Prop
  | base {x v : Nat} : x < i → E x v → Bf E i T v
  | step {u v : Nat} : Bf E i T u → i < u → ¬ T u → E u v → Bf E i T v

theorem Dt.bf {i w y : Nat} (hw : w < p) (hT : Anc par i y ∧ y ≠ i ∧ Anc par y w) : ∀ u, Bf E i (fun z => Anc par i z ∧ z ≠ i ∧ Anc par z w) u → (u = y ∨ (y < u ∧ Sp E y u)) → ∃ x, x < i ∧ Sp E y x := by
  have hyw := D.le hw hT.2.2
  intro u hu
  induction hu with
  | @base x v hx e =>
    rintro (rfl | ⟨h1, h2⟩)
    · exact ⟨x, hx, .last e⟩
    · exact ⟨x, hx, .step e h1 h2⟩
  | @step u v hu hi hn e ih =>
    intro h
    have hny : u ≠ y := fun h => hn (h ▸ hT)
    have hvp := (D.el _ _ e).2
    have key : y < u := by
      rcases Nat.lt_or_ge y u with h1 | h1
      · exact h1
      · exfalso
        have h2 : u < y := by omega
        have h3 : Anc par u y := by
          rcases h with rfl | ⟨h4, -⟩
          · exact D.fw _ _ e h2
          · exact D.iv u y v hvp (D.fw _ _ e (by omega)) (by omega) (by omega)
        exact hn ⟨D.iv i u y (by omega) hT.1 (by omega) (by omega), by omega, h3.trans hT.2.2⟩
    refine ih (.inr ⟨key, ?_⟩)
    rcases h with rfl | ⟨h4, h5⟩
    · exact .last e
    · exact .step e h4 h5

/-- Whoever comes to w past i comes first to one between them, from above i, by greater ones alone. -/
theorem Dt.core {i w : Nat} (hw : w < p) (hi : i ≠ 0) (ha : Anc par i w) (hne : i ≠ w) (h : Av E i w) : ∃ y x, Anc par i y ∧ y ≠ i ∧ Anc par y w ∧ Av E i y ∧ x < i ∧ Sp E y x := by
  obtain ⟨T, hT⟩ : ∃ T : Nat → Prop, T = fun z => Anc par i z ∧ z ≠ i ∧ Anc par z w := ⟨_, rfl⟩
  have key : ∀ v, Av E i v → (∃ y, T y ∧ Av E i y ∧ Bf E i T y) ∨ v < i ∨ (i < v ∧ ¬ T v ∧ Bf E i T v) := by
    intro v hv
    induction hv with
    | root h0 => exact .inr (.inl (by omega))
    | @step u v hu e hne ih =>
      have hAv : Av E i v := .step hu e hne
      rcases ih with h1 | h1 | ⟨h1, h2, h3⟩
      · exact .inl h1
      · rcases Nat.lt_or_ge v i with h4 | h4
        · exact .inr (.inl h4)
        · by_cases hTv : T v
          · exact .inl ⟨v, hTv, hAv, .base h1 e⟩
          · exact .inr (.inr ⟨by omega, hTv, .base h1 e⟩)
      · rcases Nat.lt_or_ge v i with h4 | h4
        · exact .inr (.inl h4)
        · by_cases hTv : T v
          · exact .inl ⟨v, hTv, hAv, .step h3 h1 h2 e⟩
          · exact .inr (.inr ⟨by omega, hTv, .step h3 h1 h2 e⟩)
  have hTw : T w := by rw [hT]; exact ⟨ha, fun e => hne e.symm, .refl w⟩
  rcases key w h with ⟨y, h1, h2, h3⟩ | h1 | ⟨-, h1, -⟩
  · rw [hT] at h1 h3
    obtain ⟨x, hx, hs⟩ := D.bf hw h1 y h3 (.inl rfl)
    exact ⟨y, x, h1.1, h1.2.1, h1.2.2, h2, hx, hs⟩
  · have := D.le hw ha; omega
  · exact absurd hTw h1

/-- S tells of each the least one from which a list leads to it that passes greater ones alone. -/
structure Sem (E : Nat → Nat → Prop) (p : Nat) (S : Nat → Nat) : Prop where
  sp : ∀ w, w ≠ 0 → w < p → Sp E w (S w)
  mn : ∀ w, w ≠ 0 → w < p → ∀ x, Sp E w x → S w ≤ x

omit D in
/-- I tells of each its dominator, out of S. -/
def Idm (par : Nat → Nat) (p : Nat) (S I : Nat → Nat) : Prop := ∀ w, w ≠ 0 → w < p → ∃ u, Anc par (S w) u ∧ u ≠ S w ∧ Anc par u w ∧ (∀ y, Anc par (S w) y → y ≠ S w → Anc par y w → S u ≤ S y) ∧ ((S u = S w ∧ I w = S w) ∨ (S u < S w ∧ u ≠ w ∧ I w = I u))

theorem Dt.sem_anc {S : Nat → Nat} (H : Sem E p S) {w : Nat} (h0 : w ≠ 0) (hw : w < p) : S w < w ∧ Anc par (S w) w := by
  have h1 := H.mn w h0 hw _ (.last (D.pe w h0 hw))
  have h2 := D.pl w h0 hw
  exact ⟨by omega, D.sp_anc (H.sp w h0 hw) (by omega)⟩

/-- That is: it stands on every list to it, and nobody else does that doesn't stand on every list to that one. -/
theorem Dt.idom {S I : Nat → Nat} (H : Sem E p S) (K : Idm par p S I) : ∀ w, w ≠ 0 → w < p → Anc par (I w) (S w) ∧ (I w ≠ 0 → ¬ Av E (I w) w) ∧ (∀ d, d ≠ 0 → d ≠ I w → d ≠ w → Av E d (I w) → Av E d w) := by
  intro w
  induction w using Nat.strongRecOn with
  | _ w ih =>
    intro h0 hw
    obtain ⟨hsl, hsa⟩ := D.sem_anc H h0 hw
    obtain ⟨u, u1, u2, u3, u4, u5⟩ := K w h0 hw
    have huw := D.le hw u3
    have hul : S w < u := D.lt (by omega) u1 (fun e => u2 e.symm)
    rcases u5 with ⟨e1, e2⟩ | ⟨e1, hune, e2⟩
    · rw [e2]
      refine ⟨.refl _, fun hs hav => ?_, fun d hd1 hd2 hd3 hav => ?_⟩
      · obtain ⟨y, x, h1, h2, h3, -, h5, h6⟩ := D.core hw hs hsa (by omega) hav
        have h7 := u4 y h1 h2 h3
        have h8 := D.le hw h3
        have h9 := H.mn y (fun e => by have := D.le (by omega) h1; omega) (by omega) x h6
        omega
      · rcases Nat.lt_or_ge d w with h1 | h1
        · exact along hav (H.sp w h0 hw) h1
        · exact D.over hw (by omega)
    · have hu0 : u ≠ 0 := by omega
      have hup : u < p := by omega
      obtain ⟨i1, i2, i3⟩ := ih u (by omega) hu0 hup
      obtain ⟨usl, usa⟩ := D.sem_anc H hu0 hup
      rw [e2]
      have hiS : I u ≤ S u := D.le (by omega) i1
      have hiw : Anc par (I u) w := (i1.trans usa).trans u3
      refine ⟨i1.trans (D.chain hw (usa.trans u3) hsa (by omega)), fun hi hav => ?_, fun d hd1 hd2 hd3 hav => ?_⟩
      · obtain ⟨y, x, h1, h2, h3, h4, h5, h6⟩ := D.core hw hi hiw (by omega) hav
        have hyw := D.le hw h3
        have hiy : I u < y := D.lt (by omega) h1 (fun e => h2 e.symm)
        have h9 := H.mn y (by omega) (by omega) x h6
        rcases Nat.lt_or_ge (S w) y with h7 | h7
        · have h8 := u4 y (D.chain hw hsa h3 (by omega)) (by omega) h3
          omega
        · have h8 : Anc par y u := (D.chain hw h3 hsa h7).trans u1
          exact i2 hi (D.down hup h4 h8 (fun z h10 h11 h12 => by have := D.le (by have := D.le hup h11; omega) h10; omega))
      · by_cases hdT : Anc par (S w) d ∧ d ≠ S w ∧ Anc par d w
        · have h1 : S w < d := D.lt (by have := D.le hw hdT.2.2; omega) hdT.1 (fun e => hdT.2.1 e.symm)
          have h2 := D.lt hw hdT.2.2 hd3
          exact along (D.over (d := d) (v := S w) (by omega) h1) (H.sp w h0 hw) h2
        · have hdu : d ≠ u := fun e => hdT (e ▸ ⟨u1, u2, u3⟩)
          have h1 := i3 d hd1 hd2 hdu hav
          refine D.down hw h1 u3 (fun z h2 h3 h4 e => hdT (e ▸ ⟨u1.trans h2, fun h5 => ?_, h3⟩))
          have := D.le (by have := D.le hw h3; omega) h2
          omega

end
end Go.Proofs.YtckgcpoheodbcaaDoor.Lt

/-
  Dominators: from whom the lists come that pass greater ones alone; the search in depth.
-/
set_option linter.unusedVariables false
namespace Go.Proofs.YtckgcpoheodbcaaDoor.Lt

section
variable {E : Nat → Nat → Prop} {par : Nat → Nat} {p : Nat} (D : Dt E par p)
include D

theorem Dt.sp_up {w u v : Nat} (hv : v < p) (ha : Anc par u v) (hu : w < u) (h : Sp E w v) : Sp E w u := by
  induction ha with
  | refl => exact h
  | @up v h0 ha ih =>
    have h1 := D.pl v h0 hv
    have h2 := D.le (by omega) ha
    exact ih (by omega) (.step (D.pe v h0 hv) (by omega) h)

omit D in
theorem sp_then {w u x : Nat} (h : Sp E u x) (hu : w < u) (k : Sp E w u) : Sp E w x := by
  induction h with
  | last e => exact .step e hu k
  | step e hx _ ih => exact .step e (by omega) ih

/-- Whoever comes to w by greater ones alone comes ahead of it to one by which the last of them is reached. -/
theorem Dt.sp_via {w v : Nat} (h : Sp E w v) (hv : w < v) : ∃ z u, E z w ∧ w < z ∧ w < u ∧ Anc par u z ∧ (v = u ∨ (u < v ∧ Sp E u v)) := by
  induction h with
  | @last v e => exact ⟨v, v, e, hv, hv, .refl v, .inl rfl⟩
  | @step v x e hx h ih =>
    obtain ⟨z, u, h1, h2, h3, h4, h5⟩ := ih hx
    rcases Nat.lt_trichotomy v u with h6 | h6 | h6
    · have hux : u ≤ x := by rcases h5 with rfl | ⟨h7, -⟩ <;> omega
      have h7 := D.fw v x e (by omega)
      have h8 := D.iv v u x (D.el _ _ e).2 h7 (by omega) hux
      exact ⟨z, v, h1, h2, hv, h8.trans h4, .inl rfl⟩
    · exact ⟨z, u, h1, h2, h3, h4, .inl h6⟩
    · refine ⟨z, u, h1, h2, h3, h4, .inr ⟨h6, ?_⟩⟩
      rcases h5 with rfl | ⟨h7, h8⟩
      · exact .last e
      · exact .step e h7 h8

/-- What is reckoned of w, where S is known of all behind it. -/
theorem Dt.semi {S : Nat → Nat} {w s : Nat} (h0 : w ≠ 0) (hw : w < p) (hS : ∀ u, w < u → u < p → Sp E u (S u) ∧ ∀ x, Sp E u x → S u ≤ x)
    (ha : s = w ∨ ∃ v, E v w ∧ ((v < w ∧ s = v) ∨ (w < v ∧ ∃ u, w < u ∧ Anc par u v ∧ s = S u)))
    (hb : ∀ v, E v w → (v < w → s ≤ v) ∧ (w < v → ∀ u, w < u → Anc par u v → s ≤ S u)) : Sp E w s ∧ ∀ x, Sp E w x → s ≤ x := by
  have hsw : s < w := by
    have h1 := (hb _ (D.pe w h0 hw)).1 (D.pl w h0 hw)
    have := D.pl w h0 hw
    omega
  constructor
  · rcases ha with h | ⟨v, e, ⟨h1, rfl⟩ | ⟨h1, u, h2, h3, rfl⟩⟩
    · omega
    · exact .last e
    · have hvp := (D.el _ _ e).1
      have hup : u < p := by have := D.le hvp h3; omega
      exact sp_then (hS u h2 hup).1 h2 (D.sp_up hvp h3 h2 (.last e))
  · intro x hx
    cases hx with
    | last e =>
      rcases Nat.lt_or_ge x w with h1 | h1
      · exact (hb x e).1 h1
      · omega
    | @step _ v e hv h =>
      obtain ⟨z, u, h1, h2, h3, h4, h5⟩ := D.sp_via h hv
      have hup : u < p := by have := D.le (D.el _ _ h1).1 h4; have := (D.el _ _ h1).1; omega
      have h6 := (hb z h1).2 h2 u h3 h4
      have h7 := (hS u h3 hup).2 x (by
        rcases h5 with rfl | ⟨h8, h9⟩
        · exact .last e
        · exact .step e h8 h9)
      omega

end

theorem anc_congr {par par' : Nat → Nat} {p : Nat} (hpl : ∀ v, v ≠ 0 → v < p → par v < v) (he : ∀ v, v < p → par' v = par v) {u v : Nat} (hv : v < p) (h : Anc par u v) : Anc par' u v := by
  induction h with
  | refl => exact .refl _
  | @up v h0 _ ih =>
    have := hpl v h0 hv
    exact .up h0 (by rw [he v hv]; exact ih (by omega))

/-- Ways between places. -/
def Ed (W : Nat → List Nat) (ord : List Nat) (u v : Nat) : Prop := ∃ a b, ord[u]? = some a ∧ ord[v]? = some b ∧ b ∈ W a

/-- A search in depth on its way: what was met, from whom, what is still to be looked at. -/
structure Df (W : Nat → List Nat) (ord : List Nat) (par : Nat → Nat) (st : List (Nat × Nat)) : Prop where
  nd : ord.Nodup
  z : ord[0]? = some 0
  d : Dt (Ed W ord) par ord.length
  i1 : ∀ x, x ∈ st → x.1 < ord.length ∧ Anc par x.1 (ord.length - 1) ∧ ∃ a, ord[x.1]? = some a ∧ x.2 ∈ W a
  i2 : st.Pairwise (fun a b => b.1 ≤ a.1)
  i3 : ∀ (u : Nat) a, ord[u]? = some a → ∀ t, t ∈ W a → t ∈ ord ∨ (u, t) ∈ st

variable {W : Nat → List Nat} {ord : List Nat} {par : Nat → Nat} {st : List (Nat × Nat)}

theorem Df.skip {f t : Nat} (h : Df W ord par ((f, t) :: st)) (ht : t ∈ ord) : Df W ord par st := by
  refine ⟨h.nd, h.z, h.d, fun x hx => h.i1 x (List.mem_cons_of_mem _ hx), (List.pairwise_cons.1 h.i2).2, fun u a hu t' ht' => ?_⟩
  rcases h.i3 u a hu t' ht' with h1 | h1
  · exact .inl h1
  · rcases List.mem_cons.1 h1 with h2 | h2
    · cases h2; exact .inl ht
    · exact .inr h2

theorem Df.start {new : List (Nat × Nat)} (h1 : ∀ x, x ∈ new → x.1 = 0 ∧ x.2 ∈ W 0) (h2 : ∀ t, t ∈ W 0 → t ≠ 0 → (0, t) ∈ new) : Df W [0] (fun _ => 0) new := by
  have hz : ∀ (v : Nat) b, ([0] : List Nat)[v]? = some b → v = 0 ∧ b = 0 := fun v b h => by
    cases v with
    | zero => cases h; exact ⟨rfl, rfl⟩
    | succ v => simp at h
  refine ⟨by simp, rfl, ⟨fun v h0 hv => ?_, fun v h0 hv => ?_, fun u v ⟨a, b, hu, hv, _⟩ hl => ?_, fun u y v hv ha hu hy => ?_, fun u v ⟨a, b, hu, hv, _⟩ => ?_⟩, fun x hx => ?_, ?_, fun u a hu t ht => ?_⟩
  · simp at hv; exact absurd hv h0
  · simp at hv; exact absurd hv h0
  · have := (hz u a hu).1; have := (hz v b hv).1; omega
  · simp at hv
    subst hv
    have : y = 0 := by omega
    subst this
    exact ha
  · have := (hz u a hu).1; have := (hz v b hv).1; simp; omega
  · obtain ⟨h3, h4⟩ := h1 x hx
    exact ⟨by simp [h3], by rw [h3]; exact .refl 0, 0, by rw [h3]; rfl, h4⟩
  · rw [List.pairwise_iff_forall_sublist]
    intro a b hab
    have h3 := (h1 a (hab.subset (by simp))).1
    have h4 := (h1 b (hab.subset (by simp))).1
    omega
  · obtain ⟨rfl, rfl⟩ := hz u a hu
    by_cases h0 : t = 0
    · exact .inl (by simp [h0])
    · exact .inr (h2 t ht h0)

/-- One more is met. -/
theorem Df.step {f t : Nat} (h : Df W ord par ((f, t) :: st)) (ht : t ∉ ord) {new : List (Nat × Nat)} (h1 : ∀ x, x ∈ new → x.1 = ord.length ∧ x.2 ∈ W t) (h2 : ∀ t', t' ∈ W t → t' ∉ ord ++ [t] → (ord.length, t') ∈ new) :
    Df W (ord ++ [t]) (fun v => if v = ord.length then f else par v) (new ++ st) := by
  have hp0 : 0 < ord.length := (List.getElem?_eq_some_iff.1 h.z).1
  obtain ⟨hf, hfa, a, hfo, hta⟩ := h.i1 (f, t) (by simp)
  have hle : ∀ x, x ∈ st → x.1 ≤ f := (List.pairwise_cons.1 h.i2).1
  have hpar : ∀ v, v < ord.length → (if v = ord.length then f else par v) = par v := fun v hv => if_neg (by omega)
  have up : ∀ {u v : Nat}, v < ord.length → Anc par u v → Anc (fun v => if v = ord.length then f else par v) u v := fun hv ha => anc_congr h.d.pl hpar hv ha
  have dn : ∀ {u v : Nat}, v < ord.length → Anc (fun v => if v = ord.length then f else par v) u v → Anc par u v := fun hv ha =>
    anc_congr (fun v h0 hv => by rw [hpar v hv]; exact h.d.pl v h0 hv) (fun v hv => (hpar v hv).symm) hv ha
  have new_up : ∀ {u : Nat}, Anc par u f → Anc (fun v => if v = ord.length then f else par v) u ord.length := fun ha => .up (by omega) (by simp only [if_true]; exact up hf ha)
  have old : ∀ {v b : Nat}, v < ord.length → (ord ++ [t])[v]? = some b → ord[v]? = some b := fun hv hb => by rwa [List.getElem?_append_left hv] at hb
  have oldl : ∀ {v b : Nat}, (ord ++ [t])[v]? = some b → v < ord.length ∨ (v = ord.length ∧ b = t) := fun {v b} hb => by
    rcases Nat.lt_or_ge v ord.length with h3 | h3
    · exact .inl h3
    · rw [List.getElem?_append_right h3] at hb
      have h4 := (List.getElem?_eq_some_iff.1 hb).1
      simp at h4
      have h5 : v = ord.length := by omega
      subst h5
      simp at hb
      exact .inr ⟨rfl, hb.symm⟩
  have ed : ∀ {u v : Nat}, u < ord.length → v < ord.length → Ed W (ord ++ [t]) u v → Ed W ord u v := fun hu hv ⟨a, b, h3, h4, h5⟩ => ⟨a, b, old hu h3, old hv h4, h5⟩
  have inr : ∀ {v b : Nat}, ord[v]? = some b → (ord ++ [t])[v]? = some b := fun hb => by rw [List.getElem?_append_left (List.getElem?_eq_some_iff.1 hb).1]; exact hb
  have last : (ord ++ [t])[ord.length]? = some t := by simp
  have lowa : ∀ {u : Nat}, u ≤ f → Anc par u (ord.length - 1) → Anc par u f := fun hu ha => h.d.chain (by omega) ha hfa hu
  refine ⟨?_, inr h.z, ⟨fun v h0 hv => ?_, fun v h0 hv => ?_, fun u v e hl => ?_, fun u y v hv ha hu hy => ?_, fun u v ⟨a, b, hu, hv, _⟩ => ⟨(List.getElem?_eq_some_iff.1 hu).1, (List.getElem?_eq_some_iff.1 hv).1⟩⟩, fun x hx => ?_, ?_, fun u a' hu t' ht' => ?_⟩
  · rw [List.nodup_append]
    exact ⟨h.nd, by simp, fun x hx y hy e => by
      have : y = t := by simpa using hy
      rw [e, this] at hx
      exact ht hx⟩
  · rw [List.length_append] at hv
    simp only [List.length_cons, List.length_nil] at hv
    by_cases h3 : v = ord.length
    · rw [if_pos h3]; omega
    · rw [if_neg h3]; exact h.d.pl v h0 (by omega)
  · rw [List.length_append] at hv
    simp only [List.length_cons, List.length_nil] at hv
    by_cases h3 : v = ord.length
    · rw [if_pos h3, h3]
      exact ⟨a, t, inr hfo, last, hta⟩
    · rw [if_neg h3]
      obtain ⟨a, b, h4, h5, h6⟩ := h.d.pe v h0 (by omega)
      exact ⟨a, b, inr h4, inr h5, h6⟩
  · obtain ⟨a1, b1, hu, hv, hab⟩ := e
    rcases oldl hv with h3 | ⟨h3, h4⟩
    · exact up h3 (h.d.fw u v ⟨a1, b1, old (by omega) hu, old h3 hv, hab⟩ hl)
    · subst h3 h4
      have hul : u < ord.length := by omega
      rcases h.i3 u a1 (old hul hu) b1 hab with h5 | h5
      · exact absurd h5 ht
      · obtain ⟨-, h6, -⟩ := h.i1 _ h5
        rcases List.mem_cons.1 h5 with h7 | h7
        · cases h7; exact new_up (.refl _)
        · exact new_up (lowa (hle _ h7) h6)
  · rw [List.length_append] at hv
    simp only [List.length_cons, List.length_nil] at hv
    by_cases h3 : v = ord.length
    · subst h3
      by_cases h4 : y = ord.length
      · rw [h4]; exact ha
      · have h5 : u ≠ ord.length := by omega
        obtain ⟨-, h6⟩ := ha.par_ h5
        simp only [if_true] at h6
        have h7 := (dn hf h6).trans hfa
        exact up (by omega) (h.d.iv u y (ord.length - 1) (by omega) h7 hu (by omega))
    · exact up (by omega) (h.d.iv u y v (by omega) (dn (by omega) ha) hu hy)
  · rcases List.mem_append.1 hx with h3 | h3
    · obtain ⟨h4, h5⟩ := h1 x h3
      rw [h4]
      exact ⟨by simp, by simpa using Anc.refl _, t, last, h5⟩
    · obtain ⟨h4, h5, a1, h6, h7⟩ := h.i1 x (List.mem_cons_of_mem _ h3)
      refine ⟨by rw [List.length_append]; omega, ?_, a1, inr h6, h7⟩
      have h8 := new_up (lowa (hle x h3) h5)
      simpa using h8
  · rw [List.pairwise_append]
    refine ⟨?_, (List.pairwise_cons.1 h.i2).2, fun x hx y hy => ?_⟩
    · rw [List.pairwise_iff_forall_sublist]
      intro x y hxy
      have h3 := (h1 x (hxy.subset (by simp))).1
      have h4 := (h1 y (hxy.subset (by simp))).1
      omega
    · have h3 := (h1 x hx).1
      have h4 := hle y hy
      omega
  · rcases oldl hu with h3 | ⟨h3, h4⟩
    · rcases h.i3 u a' (old h3 hu) t' ht' with h5 | h5
      · exact .inl (List.mem_append_left _ h5)
      · rcases List.mem_cons.1 h5 with h6 | h6
        · cases h6; exact .inl (by simp)
        · exact .inr (List.mem_append_right _ h6)
    · subst h3 h4
      by_cases h5 : t' ∈ ord ++ [a']
      · exact .inl h5
      · exact .inr (List.mem_append_left _ (h2 t' ht' h5))

end Go.Proofs.YtckgcpoheodbcaaDoor.Lt

/-
  Dominators: the trees as they are looked up in, shortened; the rounds; the last round.
-/
set_option linter.unusedVariables false
namespace Go.Proofs.YtckgcpoheodbcaaDoor.Lt

/-- The trees of those from q on: fa tells one above, bs the one with the least σ of those that it passes over. -/
structure Fo (par : Nat → Nat) (p q : Nat) (σ fa bs : Nat → Nat) : Prop where
  a : ∀ v, q ≤ v → v < p → Anc par (fa v) v ∧ fa v ≠ v
  b : ∀ v, q ≤ v → v < p → Anc par (fa v) (bs v) ∧ bs v ≠ fa v ∧ Anc par (bs v) v
  m : ∀ v, q ≤ v → v < p → ∀ y, Anc par (fa v) y → y ≠ fa v → Anc par y v → q ≤ y ∧ σ (bs v) ≤ σ y

section
variable {E : Nat → Nat → Prop} {par : Nat → Nat} {p : Nat} (D : Dt E par p)
include D

omit D in
theorem Fo.congr {q : Nat} {σ σ' fa bs : Nat → Nat} (h : Fo par p q σ fa bs) (e : ∀ y, q ≤ y → σ' y = σ y) : Fo par p q σ' fa bs :=
  ⟨h.a, h.b, fun v hv hp y h1 h2 h3 => by
    obtain ⟨h4, h5⟩ := h.m v hv hp y h1 h2 h3
    obtain ⟨k1, k2, k3⟩ := h.b v hv hp
    rw [e y h4, e _ (h.m v hv hp _ k1 k2 k3).1]
    exact ⟨h4, h5⟩⟩

theorem Dt.fo_link {q : Nat} {σ fa bs : Nat → Nat} (h : Fo par p (q + 1) σ fa bs) (h0 : q ≠ 0) (hq : q < p) : Fo par p q σ (fun v => if v = q then par q else fa v) (fun v => if v = q then q else bs v) := by
  have hpl := D.pl q h0 hq
  refine ⟨fun v hv hp => ?_, fun v hv hp => ?_, fun v hv hp y h1 h2 h3 => ?_⟩
  · by_cases e : v = q
    · rw [if_pos e, e]; exact ⟨.up h0 (.refl _), by omega⟩
    · rw [if_neg e]; exact h.a v (by omega) hp
  · by_cases e : v = q
    · rw [if_pos e, if_pos e, e]; exact ⟨.up h0 (.refl _), by omega, .refl _⟩
    · rw [if_neg e, if_neg e]; exact h.b v (by omega) hp
  · by_cases e : v = q
    · rw [if_pos e] at h1 h2
      rw [if_pos e]
      rw [e] at h3
      have h4 : y = q := by
        by_cases h4 : y = q
        · exact h4
        · obtain ⟨-, h5⟩ := h3.par_ h4
          have := D.le (by omega) h5
          have := D.le (by omega) h1
          omega
      rw [h4]; exact ⟨Nat.le_refl _, Nat.le_refl _⟩
    · rw [if_neg e] at h1 h2
      rw [if_neg e]
      have := h.m v (by omega) hp y h1 h2 h3
      exact ⟨by omega, this.2⟩

theorem Dt.fo_short {q v : Nat} {σ fa bs : Nat → Nat} (h : Fo par p q σ fa bs) (hv : q ≤ v) (hp : v < p) (hf : q ≤ fa v) :
    Fo par p q σ (fun y => if y = v then fa (fa v) else fa y) (fun y => if y = v then (if σ (bs (fa v)) < σ (bs v) then bs (fa v) else bs v) else bs y) := by
  obtain ⟨a1, a2⟩ := h.a v hv hp
  have hfl := D.lt hp a1 a2
  obtain ⟨c1, c2⟩ := h.a (fa v) hf (by omega)
  obtain ⟨b1, b2, b3⟩ := h.b v hv hp
  obtain ⟨d1, d2, d3⟩ := h.b (fa v) hf (by omega)
  have hfl2 := D.lt (by omega) c1 c2
  refine ⟨fun y hy hyp => ?_, fun y hy hyp => ?_, fun y hy hyp z h1 h2 h3 => ?_⟩
  · by_cases e : y = v
    · rw [if_pos e, e]; exact ⟨c1.trans a1, by omega⟩
    · rw [if_neg e]; exact h.a y hy hyp
  · by_cases e : y = v
    · rw [if_pos e, if_pos e, e]
      split
      · exact ⟨d1, d2, d3.trans a1⟩
      · refine ⟨c1.trans b1, fun e2 => ?_, b3⟩
        have := D.le (by have := D.le hp b3; omega) b1
        omega
    · rw [if_neg e, if_neg e]; exact h.b y hy hyp
  · by_cases e : y = v
    · rw [if_pos e] at h1 h2
      rw [if_pos e]
      rw [e] at h3
      have key : q ≤ z ∧ (σ (bs (fa v)) ≤ σ z ∨ σ (bs v) ≤ σ z) := by
        rcases Nat.lt_or_ge (fa v) z with h4 | h4
        · have := h.m v hv hp z (D.chain hp a1 h3 (by omega)) (by omega) h3
          exact ⟨this.1, .inr this.2⟩
        · have := h.m (fa v) hf (by omega) z h1 h2 (D.chain hp h3 a1 h4)
          exact ⟨this.1, .inl this.2⟩
      refine ⟨key.1, ?_⟩
      split
      · omega
      · omega
    · rw [if_neg e] at h1 h2
      rw [if_neg e]
      exact h.m y hy hyp z h1 h2 h3

/-- What is told of one whose fa stands below q. -/
theorem Dt.fo_low {q v : Nat} {σ fa bs : Nat → Nat} (h : Fo par p q σ fa bs) (hv : q ≤ v) (hp : v < p) (hf : fa v < q) : q ≤ bs v ∧ Anc par (bs v) v ∧ ∀ y, q ≤ y → Anc par y v → σ (bs v) ≤ σ y := by
  obtain ⟨a1, a2⟩ := h.a v hv hp
  obtain ⟨b1, b2, b3⟩ := h.b v hv hp
  refine ⟨(h.m v hv hp _ b1 b2 b3).1, b3, fun y h1 h2 => (h.m v hv hp y (D.chain hp a1 h2 (by omega)) (by omega) h2).2⟩

omit D in
/-- c stands right below s on the way to v. -/
def Ch (par : Nat → Nat) (s v c : Nat) : Prop := c ≠ 0 ∧ par c = s ∧ Anc par c v

omit D in
theorem ch_ex {s v : Nat} (h : Anc par s v) (hne : s ≠ v) : ∃ c, Ch par s v c := by
  induction h with
  | refl => exact absurd rfl hne
  | @up v h0 ha ih =>
    by_cases e : s = par v
    · exact ⟨v, h0, e.symm, .refl v⟩
    · obtain ⟨c, h1, h2, h3⟩ := ih e
      exact ⟨c, h1, h2, .up h0 h3⟩

/-- What is guessed of w. -/
def Gs (par : Nat → Nat) (σ : Nat → Nat) (w g : Nat) : Prop := ∃ u, Anc par (σ w) u ∧ u ≠ σ w ∧ Anc par u w ∧ (∀ y, Anc par (σ w) y → y ≠ σ w → Anc par y w → σ u ≤ σ y) ∧ ((σ u = σ w ∧ g = σ w) ∨ (σ u < σ w ∧ g = u))

/-- The rounds, down to q. -/
structure Ma (E : Nat → Nat → Prop) (par : Nat → Nat) (p q : Nat) (σ : Nat → Nat) (wt : Nat → List Nat) (tg : Nat → Nat) : Prop where
  lo : ∀ v, v < q → σ v = v
  hi : ∀ v, q ≤ v → v < p → Sp E v (σ v) ∧ ∀ x, Sp E v x → σ v ≤ x
  wi : ∀ s o, o ∈ wt s → q ≤ o ∧ o < p ∧ σ o = s ∧ ∃ c, Ch par s o c ∧ c < q
  wo : ∀ o, q ≤ o → o < p → (∃ c, Ch par (σ o) o c ∧ c < q ∧ o ∈ wt (σ o)) ∨ (∃ c, Ch par (σ o) o c ∧ q ≤ c ∧ Gs par σ o (tg o))
  nd : ∀ s, (wt s).Nodup
  t0 : tg 0 = 0

omit D in
theorem ma_start : Ma E par p p (fun v => v) (fun _ => []) (fun _ => 0) :=
  ⟨fun _ _ => rfl, fun v h1 h2 => by omega, fun s o h => by simp at h, fun o h1 h2 => by omega, fun _ => List.nodup_nil, rfl⟩

/-- Those that wait at the one above q are just those behind q. -/
theorem Dt.ma_wait {q : Nat} {σ : Nat → Nat} {wt : Nat → List Nat} {tg : Nat → Nat} (h : Ma E par p (q + 1) σ wt tg) (h0 : q ≠ 0) (hq : q < p) {s : Nat} (hs : Sp E q s ∧ ∀ x, Sp E q x → s ≤ x) {o : Nat} (ho : o ∈ (if par q = s then wt (par q) ++ [q] else wt (par q))) :
    q ≤ o ∧ o < p ∧ (if o = q then s else σ o) = par q ∧ Anc par q o := by
  have hpl := D.pl q h0 hq
  have base : o ∈ wt (par q) → q ≤ o ∧ o < p ∧ (if o = q then s else σ o) = par q ∧ Anc par q o := fun h1 => by
    obtain ⟨h2, h3, h4, c, ⟨c1, c2, c3⟩, c4⟩ := h.wi _ _ h1
    refine ⟨by omega, h3, by rw [if_neg (by omega)]; exact h4, ?_⟩
    have h5 := D.iv c q o h3 c3 (by omega) (by omega)
    by_cases e : c = q
    · exact e ▸ c3
    · obtain ⟨-, h6⟩ := h5.par_ e
      have h7 := D.le (by omega) h6
      have h8 := D.pl c c1 (by omega)
      omega
  by_cases e : par q = s
  · rw [if_pos e] at ho
    rcases List.mem_append.1 ho with h1 | h1
    · exact base h1
    · have : o = q := by simpa using h1
      subst this
      exact ⟨Nat.le_refl _, hq, by rw [if_pos rfl]; exact e.symm, .refl _⟩
  · rw [if_neg e] at ho
    exact base ho

/-- What is guessed of one of these. -/
theorem Dt.ma_guess {q : Nat} (h0 : q ≠ 0) (hq : q < p) {σ : Nat → Nat} {o u : Nat} (h1 : q ≤ o) (h2 : o < p) (h3 : σ o = par q) (h4 : Anc par q o) (u1 : q ≤ u) (u2 : Anc par u o) (u3 : ∀ y, q ≤ y → Anc par y o → σ u ≤ σ y) : Gs par σ o (if σ u < σ o then u else σ o) := by
  have hpl := D.pl q h0 hq
  have hpq : Anc par (par q) q := .up h0 (.refl _)
  refine ⟨u, by rw [h3]; exact hpq.trans (D.chain h2 h4 u2 u1), by omega, u2, fun y y1 y2 y3 => ?_, ?_⟩
  · rw [h3] at y1 y2
    refine u3 y ?_ y3
    rcases Nat.lt_or_ge y q with h5 | h5
    · have h6 := D.chain h2 y3 h4 (by omega)
      obtain ⟨-, h7⟩ := h6.par_ (by omega)
      have := D.le (by omega) h7
      have := D.le (by omega) y1
      omega
    · exact h5
  · have h5 := u3 o h1 (.refl o)
    by_cases h6 : σ u < σ o
    · rw [if_pos h6]; exact .inr ⟨h6, rfl⟩
    · rw [if_neg h6]; exact .inl ⟨by omega, rfl⟩

theorem Gs.congr {σ σ' : Nat → Nat} {q w g : Nat} (hw : w < p) (hσ : ∀ v, q < v → σ' v = σ v) (hqw : q < w) (hs : Anc par (σ w) w ∧ σ w ≠ w) {c : Nat} (hc : Ch par (σ w) w c) (hcq : q < c) (h : Gs par σ w g) : Gs par σ' w g := by
  obtain ⟨u, u1, u2, u3, u4, u5⟩ := h
  have big : ∀ y, Anc par (σ w) y → y ≠ σ w → Anc par y w → q < y := fun y y1 y2 y3 => by
    rcases Nat.lt_or_ge y c with h1 | h1
    · obtain ⟨c1, c2, c3⟩ := hc
      have h2 := D.chain hw y3 c3 (by omega)
      obtain ⟨-, h3⟩ := h2.par_ (by omega)
      rw [c2] at h3
      have := D.le (by have := D.le hw hs.1; omega) h3
      have := D.le (by have := D.le hw y3; omega) y1
      omega
    · omega
  have hu := big u u1 u2 u3
  refine ⟨u, by rw [hσ w hqw]; exact u1, by rw [hσ w hqw]; exact u2, u3, fun y y1 y2 y3 => ?_, by rw [hσ w hqw, hσ u hu]; exact u5⟩
  rw [hσ w hqw] at y1 y2
  rw [hσ u hu, hσ y (big y y1 y2 y3)]
  exact u4 y y1 y2 y3

end
end Go.Proofs.YtckgcpoheodbcaaDoor.Lt

/-
  Dominators: a round; the last round.
-/
set_option linter.unusedVariables false
namespace Go.Proofs.YtckgcpoheodbcaaDoor.Lt

section
variable {E : Nat → Nat → Prop} {par : Nat → Nat} {p : Nat} (D : Dt E par p)
include D

theorem Dt.sp_low {q s : Nat} (h0 : q ≠ 0) (hq : q < p) (hs : Sp E q s ∧ ∀ x, Sp E q x → s ≤ x) : s < q ∧ Anc par s q := by
  have h1 := hs.2 _ (.last (D.pe q h0 hq))
  have h2 := D.pl q h0 hq
  exact ⟨by omega, D.sp_anc hs.1 (by omega)⟩

theorem Dt.ma_step {q : Nat} {σ : Nat → Nat} {wt : Nat → List Nat} {tg : Nat → Nat} (h : Ma E par p (q + 1) σ wt tg) (h0 : q ≠ 0) (hq : q < p) {s : Nat} (hs : Sp E q s ∧ ∀ x, Sp E q x → s ≤ x) {tg' : Nat → Nat}
    (g1 : ∀ o, o ∈ (if par q = s then wt (par q) ++ [q] else wt (par q)) → Gs par (fun v => if v = q then s else σ v) o (tg' o)) (g2 : ∀ o, o ∉ (if par q = s then wt (par q) ++ [q] else wt (par q)) → tg' o = tg o) :
    Ma E par p q (fun v => if v = q then s else σ v) (fun x => if x = par q then [] else if x = s then wt x ++ [q] else wt x) tg' := by
  obtain ⟨hsl, hsa⟩ := D.sp_low h0 hq hs
  have hpl := D.pl q h0 hq
  have hw := fun o ho => D.ma_wait h h0 hq hs (o := o) ho
  refine ⟨fun v hv => ?_, fun v hv hp => ?_, fun x o ho => ?_, fun o h1 h2 => ?_, fun x => ?_, ?_⟩
  · rw [if_neg (by omega)]; exact h.lo v (by omega)
  · by_cases e : v = q
    · rw [if_pos e, e]; exact hs
    · rw [if_neg e]; exact h.hi v (by omega) hp
  · by_cases e : x = par q
    · rw [if_pos e] at ho; simp at ho
    · rw [if_neg e] at ho
      have base : o ∈ wt x → q ≤ o ∧ o < p ∧ (if o = q then s else σ o) = x ∧ ∃ c, Ch par x o c ∧ c < q := fun h1 => by
        obtain ⟨h2, h3, h4, c, hc, h5⟩ := h.wi _ _ h1
        refine ⟨by omega, h3, by rw [if_neg (by omega)]; exact h4, c, hc, ?_⟩
        have h6 : c ≠ q := fun e2 => e (by rw [← hc.2.1, e2])
        omega
      by_cases e2 : x = s
      · rw [if_pos e2] at ho
        rcases List.mem_append.1 ho with h1 | h1
        · exact base h1
        · have : o = q := by simpa using h1
          subst this
          obtain ⟨c, hc⟩ := ch_ex hsa (by omega)
          refine ⟨Nat.le_refl _, hq, by rw [if_pos rfl]; exact e2.symm, c, e2 ▸ hc, ?_⟩
          have h6 : c ≠ o := fun e3 => e (by rw [e2, ← hc.2.1, e3])
          have := D.le hq hc.2.2
          omega
      · rw [if_neg e2] at ho
        exact base ho
  · by_cases hin : o ∈ (if par q = s then wt (par q) ++ [q] else wt (par q))
    · obtain ⟨k1, k2, k3, k4⟩ := hw o hin
      exact .inr ⟨q, by show Ch par (if o = q then s else σ o) o q; rw [k3]; exact ⟨h0, rfl, k4⟩, Nat.le_refl _, g1 o hin⟩
    · rw [g2 o hin]
      by_cases e : o = q
      · subst e
        have hne : par o ≠ s := fun e2 => hin (by rw [if_pos e2]; simp)
        obtain ⟨c, hc⟩ := ch_ex hsa (by omega)
        refine .inl ⟨c, by rw [if_pos rfl]; exact hc, ?_, ?_⟩
        · have h6 : c ≠ o := fun e3 => hne (by rw [← hc.2.1, e3])
          have := D.le hq hc.2.2
          omega
        · rw [if_pos rfl, if_neg (fun e2 => hne e2.symm), if_pos rfl]
          simp
      · have hgt : q < o := by omega
        rcases h.wo o (by omega) h2 with ⟨c, hc, hcq, hwo⟩ | ⟨c, hc, hcq, hg⟩
        · have hne : σ o ≠ par q := fun e2 => hin (by
            rw [e2] at hwo
            split
            · exact List.mem_append_left _ hwo
            · exact hwo)
          have h6 : c ≠ q := fun e3 => hne (by rw [← hc.2.1, e3])
          refine .inl ⟨c, by rw [if_neg e]; exact hc, by omega, ?_⟩
          rw [if_neg e, if_neg hne]
          split
          · exact List.mem_append_left _ hwo
          · exact hwo
        · have h7 := D.sp_low (q := o) (by omega) h2 (h.hi o (by omega) h2)
          refine .inr ⟨c, by rw [if_neg e]; exact hc, by omega, Gs.congr D h2 (fun v hv => if_neg (by omega)) hgt ⟨h7.2, by omega⟩ hc (by omega) hg⟩
  · by_cases e : x = par q
    · rw [if_pos e]; exact List.nodup_nil
    · rw [if_neg e]
      split
      · rw [List.nodup_append]
        refine ⟨h.nd x, by simp, fun a ha b hb e2 => ?_⟩
        have hb' : b = q := by simpa using hb
        have := (h.wi x a ha).1
        omega
      · exact h.nd x
  · rw [g2 0 (fun h1 => by have := (hw 0 h1).1; omega)]
    exact h.t0

omit D in
theorem ma_end {σ : Nat → Nat} {wt : Nat → List Nat} {tg : Nat → Nat} (h : Ma E par p 1 σ wt tg) : Sem E p σ ∧ ∀ w, w ≠ 0 → w < p → Gs par σ w (tg w) := by
  refine ⟨⟨fun w h0 hw => (h.hi w (by omega) hw).1, fun w h0 hw => (h.hi w (by omega) hw).2⟩, fun w h0 hw => ?_⟩
  rcases h.wo w (by omega) hw with ⟨c, hc, hcq, -⟩ | ⟨-, -, -, h1⟩
  · exact absurd (by omega) hc.1
  · exact h1

/-- The last round, up to k. -/
structure La (par : Nat → Nat) (p k : Nat) (σ tg ft : Nat → Nat) : Prop where
  dn : ∀ w, w ≠ 0 → w < k → ∃ u, Anc par (σ w) u ∧ u ≠ σ w ∧ Anc par u w ∧ (∀ y, Anc par (σ w) y → y ≠ σ w → Anc par y w → σ u ≤ σ y) ∧ ((σ u = σ w ∧ ft w = σ w) ∨ (σ u < σ w ∧ u ≠ w ∧ ft w = ft u))
  up : ∀ w, k ≤ w → ft w = tg w
  z : ft 0 = 0

omit D in
theorem La.start {σ tg : Nat → Nat} (h : tg 0 = 0) : La par p 0 σ tg tg := ⟨fun w h0 h => by omega, fun _ _ => rfl, h⟩

theorem Dt.la_step {k : Nat} {σ tg ft : Nat → Nat} (h : La par p k σ tg ft) (hk : k < p) (hσ : σ 0 = 0) (hs : ∀ w, w ≠ 0 → w < p → σ w < w) (hg : ∀ w, w ≠ 0 → w < p → Gs par σ w (tg w)) : tg k ≤ k ∧ La par p (k + 1) σ tg (fun v => if v = k then (if tg k ≠ σ k then ft (tg k) else tg k) else ft v) := by
  by_cases h0 : k = 0
  · subst h0
    have ht : tg 0 = 0 := by rw [← h.up 0 (Nat.le_refl _)]; exact h.z
    refine ⟨by omega, fun w w0 hw => by omega, fun w hw => by rw [if_neg (by omega)]; exact h.up w (by omega), ?_⟩
    rw [if_pos rfl, if_neg (by rw [ht, hσ]; exact fun h => h rfl)]
    exact ht
  · obtain ⟨u, u1, u2, u3, u4, u5⟩ := hg k h0 hk
    have hsk := hs k h0 hk
    have hul := D.le hk u3
    have hus : σ k < u := D.lt (by omega) u1 (fun e => u2 e.symm)
    have htk : tg k ≤ k := by rcases u5 with ⟨-, h1⟩ | ⟨-, h1⟩ <;> omega
    refine ⟨htk, fun w w0 hw => ?_, fun w hw => by rw [if_neg (by omega)]; exact h.up w (by omega), by rw [if_neg (by omega)]; exact h.z⟩
    by_cases e : w = k
    · subst e
      refine ⟨u, u1, u2, u3, u4, ?_⟩
      rcases u5 with ⟨h1, h2⟩ | ⟨h1, h2⟩
      · refine .inl ⟨h1, ?_⟩
        rw [if_pos rfl, if_neg (fun h => h h2)]
        exact h2
      · have huw : u ≠ w := fun e2 => by rw [e2] at h1; omega
        refine .inr ⟨h1, huw, ?_⟩
        rw [if_pos rfl, if_pos (by rw [h2]; exact u2), if_neg huw, h2]
    · obtain ⟨u', v1, v2, v3, v4, v5⟩ := h.dn w w0 (by omega)
      have hu' := D.le (by omega) v3
      refine ⟨u', v1, v2, v3, v4, ?_⟩
      rw [if_neg e, if_neg (by omega)]
      exact v5

omit D in
theorem La.idm {σ tg ft : Nat → Nat} (h : La par p p σ tg ft) : Idm par p σ ft := fun w h0 hw => h.dn w h0 hw

end
end Go.Proofs.YtckgcpoheodbcaaDoor.Lt

/-
  Dominators: which numbers stand on every list of ways to one; the one that all the others stand ahead of.
-/
set_option linter.unusedVariables false
namespace Go.Proofs.YtckgcpoheodbcaaDoor.Lt

/-- Ways from 0 lead to it, none of them through d. -/
inductive Rv (W : Nat → List Nat) (d : Nat) : Nat → Prop
  | root {y : Nat} : y ∈ W 0 → y ≠ d → Rv W d y
  | step {u y : Nat} : Rv W d u → y ∈ W u → y ≠ d → Rv W d y

/-- d stands on every way to x. -/
def Ov (W : Nat → List Nat) (d x : Nat) : Prop := d ≠ 0 ∧ x ≠ 0 ∧ x ≠ d ∧ Rv W 0 x ∧ Rv W 0 d ∧ ¬ Rv W d x

/-- P17.4: the one that all the others stand ahead of. -/
def Ids (W : Nat → List Nat) (i x : Nat) : Prop := (i = 0 ∨ Ov W i x) ∧ ∀ d, Ov W d x → d = i ∨ Ov W d i

variable {W : Nat → List Nat}

theorem Ov.anti {d e : Nat} (h : Ov W d e) : ¬ Ov W e d := fun k => by
  obtain ⟨d0, e0, hne, re, rd, h1⟩ := h
  have h2 := k.2.2.2.2.2
  have key : ∀ v, Rv W 0 v → (v ≠ d ∧ v ≠ e ∧ Rv W d v ∧ Rv W e v) := by
    intro v hv
    induction hv with
    | @root y hy _ =>
      have a : y ≠ d := fun e1 => h2 (.root (e1 ▸ hy) (fun e2 => hne e2.symm))
      have b : y ≠ e := fun e1 => h1 (.root (e1 ▸ hy) hne)
      exact ⟨a, b, .root hy a, .root hy b⟩
    | @step u y _ hy _ ih =>
      obtain ⟨-, -, i1, i2⟩ := ih
      have a : y ≠ d := fun e1 => h2 (.step i2 (e1 ▸ hy) (fun e2 => hne e2.symm))
      have b : y ≠ e := fun e1 => h1 (.step i1 (e1 ▸ hy) hne)
      exact ⟨a, b, .step i1 hy a, .step i2 hy b⟩
  exact (key e re).2.1 rfl

theorem Ov.trans {a b c : Nat} (h : Ov W a b) (k : Ov W b c) : Ov W a c := by
  obtain ⟨a0, b0, hne, rb, ra, h1⟩ := h
  obtain ⟨-, c0, hne2, rc, -, h2⟩ := k
  have h3 : ¬ Rv W a c := fun hac => by
    have key : ∀ v, Rv W a v → Rv W b v := by
      intro v hv
      induction hv with
      | @root y hy hya =>
        exact .root hy (fun e => h1 (e ▸ .root hy hya))
      | @step u y hu hy hya ih =>
        exact .step ih hy (fun e => h1 (e ▸ .step hu hy hya))
    exact h2 (key c hac)
  refine ⟨a0, c0, fun e => ?_, rc, ra, h3⟩
  subst e
  exact Ov.anti (W := W) (d := c) (e := b) ⟨a0, b0, hne, rb, ra, h1⟩ ⟨b0, c0, hne2, rc, rb, h2⟩

theorem Ov.chain {d e x : Nat} (h : Ov W d x) (k : Ov W e x) (hne : d ≠ e) : Ov W d e ∨ Ov W e d := by
  obtain ⟨d0, x0, -, rx, rd, h1⟩ := h
  obtain ⟨e0, -, -, -, re, h2⟩ := k
  by_cases h3 : Rv W d e
  · by_cases h4 : Rv W e d
    · exfalso
      have key : ∀ v, Rv W 0 v → Rv W d v ∨ Rv W e v := by
        intro v hv
        induction hv with
        | @root y hy _ =>
          by_cases e1 : y = d
          · exact .inr (e1 ▸ h4)
          · exact .inl (.root hy e1)
        | @step u y _ hy _ ih =>
          rcases ih with i | i
          · by_cases e1 : y = d
            · exact .inr (e1 ▸ h4)
            · exact .inl (.step i hy e1)
          · by_cases e1 : y = e
            · exact .inl (e1 ▸ h3)
            · exact .inr (.step i hy e1)
      rcases key x rx with i | i
      · exact h1 i
      · exact h2 i
    · exact .inr ⟨e0, d0, hne, rd, re, h4⟩
  · exact .inl ⟨d0, e0, fun e1 => hne e1.symm, re, rd, h3⟩

theorem Ids.uniq {i i' x : Nat} (h : Ids W i x) (h' : Ids W i' x) : i = i' := by
  by_cases e : i = i'
  · exact e
  · exfalso
    rcases h.1 with h1 | h1
    · subst h1
      rcases h'.1 with h2 | h2
      · exact e h2.symm
      · rcases h.2 i' h2 with h3 | h3
        · exact e h3.symm
        · exact h3.2.1 rfl
    · rcases h'.2 i h1 with h3 | h3
      · exact e h3
      · rcases h'.1 with h2 | h2
        · exact h3.2.1 h2
        · rcases h.2 i' h2 with h4 | h4
          · exact e h4.symm
          · exact h3.anti h4

/-- Of those that stand on every way to x the one on whose ways most stand is it. -/
theorem ids_of_most {n x b : Nat} {ov : Nat → Nat → Bool} (hov : ∀ d y, 1 ≤ d → d ≤ n → 1 ≤ y → y ≤ n → (ov d y = true ↔ Ov W d y)) (hin : ∀ d, Rv W 0 d → 1 ≤ d ∧ d ≤ n) (hx : 1 ≤ x ∧ x ≤ n)
    (hb : (b = 0 ∧ ∀ d, 1 ≤ d → d ≤ n → ov d x = false) ∨ (1 ≤ b ∧ b ≤ n ∧ ov b x = true ∧ ∀ d, 1 ≤ d → d ≤ n → ov d x = true → ((List.range' 1 n).filter (fun e => ov e d)).length ≤ ((List.range' 1 n).filter (fun e => ov e b)).length)) : Ids W b x := by
  rcases hb with ⟨h1, h2⟩ | ⟨h1, h2, h3, h4⟩
  · refine ⟨.inl h1, fun d hd => ?_⟩
    obtain ⟨k1, k2⟩ := hin d hd.2.2.2.2.1
    have := (hov d x k1 k2 hx.1 hx.2).2 hd
    rw [h2 d k1 k2] at this
    cases this
  · have hbx := (hov b x h1 h2 hx.1 hx.2).1 h3
    refine ⟨.inr hbx, fun d hd => ?_⟩
    by_cases e : d = b
    · exact .inl e
    · obtain ⟨k1, k2⟩ := hin d hd.2.2.2.2.1
      rcases hd.chain hbx e with h5 | h5
      · exact .inr h5
      · exfalso
        have h6 := h4 d k1 k2 ((hov d x k1 k2 hx.1 hx.2).2 hd)
        have h7 := Lp.nodup_len ((List.range' 1 n).filter (fun e => ov e b) ++ [b]) ((List.range' 1 n).filter (fun e => ov e d)) (by
          rw [List.nodup_append]
          refine ⟨(List.nodup_range' ..).filter _, by simp, fun y hy z hz e2 => ?_⟩
          have hz' : z = b := by simpa using hz
          rw [List.mem_filter, List.mem_range'_1] at hy
          have h8 := (hov y b hy.1.1 (by omega) h1 h2).1 hy.2
          exact h8.2.2.1 (by rw [e2, hz'])) (fun y hy => by
          rw [List.mem_filter, List.mem_range'_1]
          rcases List.mem_append.1 hy with h8 | h8
          · rw [List.mem_filter, List.mem_range'_1] at h8
            have h9 := (hov y b h8.1.1 (by omega) h1 h2).1 h8.2
            exact ⟨h8.1, (hov y d h8.1.1 (by omega) k1 k2).2 (h9.trans h5)⟩
          · have : y = b := by simpa using h8
            rw [this]
            exact ⟨⟨h1, by omega⟩, (hov b d h1 h2 k1 k2).2 h5⟩)
        rw [List.length_append] at h7
        simp only [List.length_cons, List.length_nil] at h7
        omega

section
variable {ord : List Nat} {par : Nat → Nat} (D : Df W ord par [])
include D

theorem Df.inj {u v a : Nat} (hu : ord[u]? = some a) (hv : ord[v]? = some a) : u = v := by
  obtain ⟨h1, h2⟩ := List.getElem?_eq_some_iff.1 hu
  obtain ⟨h3, h4⟩ := List.getElem?_eq_some_iff.1 hv
  have h5 := D.nd
  unfold List.Nodup at h5
  rw [List.pairwise_iff_getElem] at h5
  rcases Nat.lt_trichotomy u v with h6 | h6 | h6
  · exact absurd (h2.trans h4.symm) (h5 u v h1 h3 h6)
  · exact h6
  · exact absurd (h4.trans h2.symm) (h5 v u h3 h1 h6)

theorem Df.closed {u a t : Nat} (hu : ord[u]? = some a) (ht : t ∈ W a) : ∃ v : Nat, ord[v]? = some t := by
  rcases D.i3 u a hu t ht with h | h
  · exact List.getElem?_of_mem h
  · simp at h

/-- Who was met: whom ways lead to. -/
theorem Df.met (hw : ∀ x y, y ∈ W x → y ≠ 0) : ∀ (v : Nat) x, ord[v]? = some x → v ≠ 0 → Rv W 0 x := by
  intro v
  induction v using Nat.strongRecOn with
  | _ v ih =>
    intro x hx h0
    have hv := (List.getElem?_eq_some_iff.1 hx).1
    obtain ⟨a, b, h1, h2, h3⟩ := D.d.pe v h0 hv
    rw [hx] at h2
    cases h2
    by_cases h4 : par v = 0
    · rw [h4, D.z] at h1
      cases h1
      exact .root h3 (hw 0 x h3)
    · exact .step (ih _ (D.d.pl v h0 hv) a h1 h4) h3 (hw a x h3)

theorem Df.meets {x : Nat} (h : Rv W 0 x) : ∃ v : Nat, ord[v]? = some x := by
  induction h with
  | root hy _ => exact D.closed D.z hy
  | step _ hy _ ih =>
    obtain ⟨v, hv⟩ := ih
    exact D.closed hv hy

theorem Df.av_rv {pd d : Nat} (hd : ord[pd]? = some d) {v : Nat} (h : Av (Ed W ord) pd v) : v = 0 ∨ ∃ x, ord[v]? = some x ∧ Rv W d x := by
  induction h with
  | root => exact .inl rfl
  | @step u v _ e hne ih =>
    obtain ⟨a, b, h1, h2, h3⟩ := e
    have hbd : b ≠ d := fun e => hne (D.inj h2 (e ▸ hd))
    refine .inr ⟨b, h2, ?_⟩
    rcases ih with h4 | ⟨x, h4, h5⟩
    · rw [h4, D.z] at h1
      cases h1
      exact .root h3 hbd
    · rw [h1] at h4
      cases h4
      exact .step h5 h3 hbd

theorem Df.rv_av {pd d : Nat} (hd : ord[pd]? = some d) (h0 : pd ≠ 0) {x : Nat} (h : Rv W d x) : ∃ v : Nat, ord[v]? = some x ∧ Av (Ed W ord) pd v := by
  induction h with
  | @root y hy hne =>
    obtain ⟨v, hv⟩ := D.closed D.z hy
    refine ⟨v, hv, .step (.root h0) ⟨0, y, D.z, hv, hy⟩ (fun e => ?_)⟩
    rw [e, hd] at hv
    cases hv
    exact hne rfl
  | @step u y _ hy hne ih =>
    obtain ⟨w, hw, ha⟩ := ih
    obtain ⟨v, hv⟩ := D.closed hw hy
    refine ⟨v, hv, .step ha ⟨u, y, hw, hv, hy⟩ (fun e => ?_)⟩
    rw [e, hd] at hv
    cases hv
    exact hne rfl

/-- The dominator by place is the one by number. -/
theorem Df.ids (hw : ∀ x y, y ∈ W x → y ≠ 0) {S I : Nat → Nat} (H : Sem (Ed W ord) ord.length S) (K : Idm par ord.length S I) {w x i : Nat} (h0 : w ≠ 0) (hx : ord[w]? = some x) (hi : ord[I w]? = some i) : Ids W i x := by
  have hwp := (List.getElem?_eq_some_iff.1 hx).1
  obtain ⟨i1, i2, i3⟩ := D.d.idom H K w h0 hwp
  obtain ⟨s1, s2⟩ := D.d.sem_anc H h0 hwp
  have hiw : I w < w := by have := D.d.le (by omega) i1; omega
  have nz : ∀ {v a : Nat}, ord[v]? = some a → v ≠ 0 → a ≠ 0 := fun {v a} ha hv e => hv (D.inj ha (e ▸ D.z))
  have rx := D.met hw w x hx h0
  refine ⟨?_, fun d hd => ?_⟩
  · by_cases e : I w = 0
    · rw [e, D.z] at hi
      cases hi
      exact .inl rfl
    · refine .inr ⟨nz hi e, nz hx h0, fun e2 => ?_, rx, D.met hw _ i hi e, fun h => ?_⟩
      · have := D.inj hx (e2 ▸ hi); omega
      · obtain ⟨v, hv, ha⟩ := D.rv_av hi e h
        have := D.inj hv hx
        subst this
        exact i2 e ha
  · obtain ⟨pd, hpd⟩ := D.meets hd.2.2.2.2.1
    have hpd0 : pd ≠ 0 := fun e => by rw [e, D.z] at hpd; cases hpd; exact hd.1 rfl
    by_cases e : pd = I w
    · rw [e, hi] at hpd
      cases hpd
      exact .inl rfl
    · have hpw : pd ≠ w := fun e2 => by rw [e2, hx] at hpd; cases hpd; exact hd.2.2.1 rfl
      have hnw : ¬ Av (Ed W ord) pd w := fun ha => by
        rcases D.av_rv hpd ha with h1 | ⟨y, h1, h2⟩
        · exact h0 h1
        · rw [hx] at h1
          cases h1
          exact hd.2.2.2.2.2 h2
      have hni : ¬ Av (Ed W ord) pd (I w) := fun ha => hnw (i3 pd hpd0 e hpw ha)
      have hI0 : I w ≠ 0 := fun e2 => hni (by rw [e2]; exact .root hpd0)
      refine .inr ⟨hd.1, nz hi hI0, fun e2 => e (D.inj hpd (e2 ▸ hi)), D.met hw _ i hi hI0, hd.2.2.2.2.1, fun h => ?_⟩
      obtain ⟨v, hv, ha⟩ := D.rv_av hpd hpd0 h
      have := D.inj hv hi
      subst this
      exact hni ha

end
end Go.Proofs.YtckgcpoheodbcaaDoor.Lt

/-
  Dominators: ways back to 0 open no new one.
-/
set_option linter.unusedVariables false
namespace Go.Proofs.YtckgcpoheodbcaaDoor.Lt

variable {W W' : Nat → List Nat} {ord : List Nat} {par : Nat → Nat}

theorem Df.nz_at (D : Df W ord par []) {v b : Nat} (h0 : v ≠ 0) (hv : ord[v]? = some b) : b ≠ 0 := fun e => h0 (D.inj hv (by rw [e]; exact D.z))

theorem Df.ed_nz (hW : ∀ x y, y ∈ W' x ↔ y ∈ W x ∧ y ≠ 0) (D : Df W ord par []) {u v : Nat} (h0 : v ≠ 0) (h : Ed W ord u v) : Ed W' ord u v := by
  obtain ⟨a, b, h1, h2, h3⟩ := h
  exact ⟨a, b, h1, h2, (hW a b).2 ⟨h3, D.nz_at h0 h2⟩⟩

theorem ed_sub (hW : ∀ x y, y ∈ W' x ↔ y ∈ W x ∧ y ≠ 0) {u v : Nat} (h : Ed W' ord u v) : Ed W ord u v := by
  obtain ⟨a, b, h1, h2, h3⟩ := h
  exact ⟨a, b, h1, h2, ((hW a b).1 h3).1⟩

theorem Df.nz (hW : ∀ x y, y ∈ W' x ↔ y ∈ W x ∧ y ≠ 0) (D : Df W ord par []) : Df W' ord par [] := by
  refine ⟨D.nd, D.z, ⟨D.d.pl, fun v h0 hv => D.ed_nz hW h0 (D.d.pe v h0 hv), fun u v e hl => D.d.fw u v (ed_sub hW e) hl, D.d.iv, fun u v e => D.d.el u v (ed_sub hW e)⟩, fun x hx => by simp at hx, D.i2, fun u a hu t ht => D.i3 u a hu t ((hW a t).1 ht).1⟩

theorem Df.sp_nz (hW : ∀ x y, y ∈ W' x ↔ y ∈ W x ∧ y ≠ 0) (D : Df W ord par []) {w v : Nat} (h0 : w ≠ 0) (h : Sp (Ed W ord) w v) : Sp (Ed W' ord) w v := by
  induction h with
  | last e => exact .last (D.ed_nz hW h0 e)
  | step e hx _ ih => exact .step (D.ed_nz hW (by omega) e) hx ih

theorem sp_sub (hW : ∀ x y, y ∈ W' x ↔ y ∈ W x ∧ y ≠ 0) {w v : Nat} (h : Sp (Ed W' ord) w v) : Sp (Ed W ord) w v := by
  induction h with
  | last e => exact .last (ed_sub hW e)
  | step e hx _ ih => exact .step (ed_sub hW e) hx ih

theorem Df.sem_nz (hW : ∀ x y, y ∈ W' x ↔ y ∈ W x ∧ y ≠ 0) (D : Df W ord par []) {S : Nat → Nat} (H : Sem (Ed W ord) ord.length S) : Sem (Ed W' ord) ord.length S :=
  ⟨fun w h0 hw => D.sp_nz hW h0 (H.sp w h0 hw), fun w h0 hw x h => H.mn w h0 hw x (sp_sub hW h)⟩

/-- The dominator by place is the one by number, where some ways lead back to 0. -/
theorem Df.ids0 (hW : ∀ x y, y ∈ W' x ↔ y ∈ W x ∧ y ≠ 0) (D : Df W ord par []) {S I : Nat → Nat} (H : Sem (Ed W ord) ord.length S) (K : Idm par ord.length S I) {w x i : Nat} (h0 : w ≠ 0) (hx : ord[w]? = some x) (hi : ord[I w]? = some i) : Ids W' i x :=
  (D.nz hW).ids (fun x y h => ((hW x y).1 h).2) (D.sem_nz hW H) K h0 hx hi

/-- Whom ways lead to: who was met. -/
theorem Df.rv_iff (hW : ∀ x y, y ∈ W' x ↔ y ∈ W x ∧ y ≠ 0) (D : Df W ord par []) {x : Nat} : Rv W' 0 x ↔ x ∈ ord ∧ x ≠ 0 := by
  constructor
  · intro h
    obtain ⟨v, hv⟩ := (D.nz hW).meets h
    refine ⟨List.mem_of_getElem? hv, ?_⟩
    cases h with
    | root _ h => exact h
    | step _ _ h => exact h
  · rintro ⟨h, h0⟩
    obtain ⟨v, hv⟩ := List.getElem?_of_mem h
    refine (D.nz hW).met (fun x y h => ((hW x y).1 h).2) v x hv (fun e => ?_)
    rw [e, D.z] at hv
    cases hv
    exact h0 rfl

end Go.Proofs.YtckgcpoheodbcaaDoor.Lt

/-
  Dominators by the document: its list of ways that lead on; its choice.
-/
set_option linter.unusedVariables false
namespace Go.Proofs.YtckgcpoheodbcaaDoor.Lt

/-- What may still come: of those that aren't in. -/
def uw (f : Nat → Nat) (ins : Nat → Bool) (l : List Nat) : Nat := (l.map (fun y => if ins y = true then 0 else f y)).sum

/-- One more is in. -/
def inw (ins : Nat → Bool) (x : Nat) : Nat → Bool := fun y => if y = x then true else ins y

theorem inw_ne {ins : Nat → Bool} {x y : Nat} (h : y ≠ x) : inw ins x y = ins y := if_neg h
theorem inw_at {ins : Nat → Bool} {x : Nat} : inw ins x x = true := if_pos rfl

theorem uw_same {f : Nat → Nat} {ins : Nat → Bool} {x : Nat} : ∀ l : List Nat, x ∉ l → uw f (inw ins x) l = uw f ins l
  | [], _ => rfl
  | y :: l, h => by
    have h1 := uw_same (f := f) (ins := ins) l (fun k => h (List.mem_cons_of_mem _ k))
    have h2 : y ≠ x := fun e => h (by rw [e]; simp)
    unfold uw at h1 ⊢
    simp only [List.map_cons, List.sum_cons, inw_ne h2, h1]

theorem uw_in {f : Nat → Nat} {ins : Nat → Bool} {x : Nat} (hx : ins x = false) : ∀ l : List Nat, l.Nodup → x ∈ l → uw f ins l = uw f (inw ins x) l + f x
  | [], _, h => by simp at h
  | y :: l, hn, h => by
    obtain ⟨n1, n2⟩ := List.nodup_cons.1 hn
    by_cases e : y = x
    · subst e
      have h1 := uw_same (f := f) (ins := ins) l n1
      unfold uw at h1 ⊢
      simp only [List.map_cons, List.sum_cons, inw_at, hx, h1]
      simp
      omega
    · have h2 := uw_in (f := f) hx l n2 ((List.mem_cons.1 h).resolve_left (fun k => e k.symm))
      unfold uw at h2 ⊢
      simp only [List.map_cons, List.sum_cons, inw_ne e]
      omega

theorem uw_none {f : Nat → Nat} (l : List Nat) : uw f (fun _ => false) l = (l.map f).sum := by
  unfold uw
  congr 1

/-- The document's search: what is in, the list that it goes through, how far. -/
structure Wq (W : Nat → List Nat) (d n C : Nat) (ins : Nat → Bool) (wk : List Nat) (i : Nat) : Prop where
  s : ∀ x, ins x = true → Rv W d x
  k : ∀ x, x ∈ wk → x = d ∨ Rv W d x
  r : ∀ y, y ∈ W 0 → y ≠ d → y ∈ wk
  c : ∀ x, ins x = true → ∀ y, y ∈ W x → y ∈ wk
  p : ∀ (j : Nat) x, j < i → wk[j]? = some x → x = d ∨ ins x = true
  b : ∀ x, x ∈ wk → 1 ≤ x ∧ x ≤ n
  l : i ≤ wk.length
  t : wk.length + uw (fun x => (W x).length) ins (List.range' 1 n) = C

variable {W : Nat → List Nat} {d n C : Nat} {ins : Nat → Bool} {wk : List Nat} {i : Nat}

theorem Wq.start {wk : List Nat} (h : ∀ y, y ∈ wk ↔ y ∈ W 0 ∧ y ≠ d) (hb : ∀ x, x ∈ wk → 1 ≤ x ∧ x ≤ n) : Wq W d n (wk.length + ((List.range' 1 n).map (fun x => (W x).length)).sum) (fun _ => false) wk 0 :=
  ⟨fun x h => (by cases h), fun x hx => .inr (.root ((h x).1 hx).1 ((h x).1 hx).2), fun y h1 h2 => (h y).2 ⟨h1, h2⟩, fun x h => (by cases h), fun j x h => by omega, hb, Nat.zero_le _, by rw [uw_none]⟩

theorem Wq.skip {x : Nat} (h : Wq W d n C ins wk i) (hx : wk[i]? = some x) (he : x = d ∨ ins x = true) : Wq W d n C ins wk (i + 1) := by
  refine ⟨h.s, h.k, h.r, h.c, fun j y hj hy => ?_, h.b, (List.getElem?_eq_some_iff.1 hx).1, h.t⟩
  by_cases e : j = i
  · rw [e, hx] at hy; cases hy; exact he
  · exact h.p j y (by omega) hy

theorem Wq.step {x : Nat} (h : Wq W d n C ins wk i) (hx : wk[i]? = some x) (hd : x ≠ d) (hi : ins x = false) (hw : ∀ y, y ∈ W x → 1 ≤ y ∧ y ≤ n) : Wq W d n C (inw ins x) (wk ++ W x) (i + 1) := by
  have hxm := List.mem_of_getElem? hx
  have hil := (List.getElem?_eq_some_iff.1 hx).1
  have hr : Rv W d x := (h.k x hxm).resolve_left hd
  have h0 := h.b x hxm
  refine ⟨fun y hy => ?_, fun y hy => ?_, fun y h1 h2 => List.mem_append_left _ (h.r y h1 h2), fun y hy z hz => ?_, fun j y hj hy => ?_, fun y hy => ?_, by rw [List.length_append]; omega, ?_⟩
  · by_cases e : y = x
    · rw [e]; exact hr
    · rw [inw_ne e] at hy; exact h.s y hy
  · rcases List.mem_append.1 hy with h1 | h1
    · exact h.k y h1
    · by_cases e : y = d
      · exact .inl e
      · exact .inr (.step hr h1 e)
  · by_cases e : y = x
    · rw [e] at hz; exact List.mem_append_right _ hz
    · rw [inw_ne e] at hy; exact List.mem_append_left _ (h.c y hy z hz)
  · rw [List.getElem?_append_left (by omega)] at hy
    by_cases e : j = i
    · rw [e, hx] at hy; cases hy; exact .inr inw_at
    · rcases h.p j y (by omega) hy with h1 | h1
      · exact .inl h1
      · by_cases e2 : y = x
        · rw [e2]; exact .inr inw_at
        · exact .inr ((inw_ne e2).trans h1)
  · rcases List.mem_append.1 hy with h1 | h1
    · exact h.b y h1
    · exact hw y h1
  · have h1 := h.t
    rw [uw_in hi (List.range' 1 n) (List.nodup_range' ..) (List.mem_range'_1.2 ⟨h0.1, by omega⟩)] at h1
    rw [List.length_append]
    omega

theorem Wq.le (h : Wq W d n C ins wk i) : wk.length ≤ C := by have := h.t; omega

theorem Wq.done (h : Wq W d n C ins wk i) (hi : wk.length ≤ i) (x : Nat) : ins x = true ↔ Rv W d x := by
  refine ⟨h.s x, fun hr => ?_⟩
  have key : ∀ y, y ∈ wk → y ≠ d → ins y = true := fun y hy hne => by
    obtain ⟨j, hj⟩ := List.getElem?_of_mem hy
    exact (h.p j y (by have := (List.getElem?_eq_some_iff.1 hj).1; omega) hj).resolve_left hne
  induction hr with
  | root h1 h2 => exact key _ (h.r _ h1 h2) h2
  | step _ h1 h2 ih => exact key _ (h.c _ ih _ h1) h2

/-- d stands on every way to x, by what was found without d. -/
def ovb (all : Nat → Bool) (left : Nat → Nat → Bool) (d x : Nat) : Bool := ! decide (x = d) && all x && all d && ! left d x

theorem ovb_ov {all : Nat → Bool} {left : Nat → Nat → Bool} (ha : ∀ x, all x = true ↔ Rv W 0 x) (hl : ∀ d x, 1 ≤ d → d ≤ n → (left d x = true ↔ Rv W d x)) {d y : Nat} (h1 : 1 ≤ d) (h2 : d ≤ n) (h3 : 1 ≤ y) : ovb all left d y = true ↔ Ov W d y := by
  unfold ovb Ov
  simp only [Bool.and_eq_true, Bool.not_eq_true', decide_eq_false_iff_not]
  rw [ha, ha]
  have : (left d y = false) ↔ ¬ Rv W d y := by rw [← hl d y h1 h2]; simp
  rw [this]
  constructor
  · rintro ⟨⟨⟨a, b⟩, c⟩, e⟩
    exact ⟨by omega, by omega, a, b, c, e⟩
  · rintro ⟨-, -, a, b, c, e⟩
    exact ⟨⟨⟨a, b⟩, c⟩, e⟩

/-- How many of the first ones (from 1 on, below k) stand on every way to x. -/
def mny (ov : Nat → Nat → Bool) (k x : Nat) : Nat := ((List.range' 1 (k - 1)).filter (fun e => ov e x)).length

theorem mny_one (ov : Nat → Nat → Bool) (x : Nat) : mny ov 1 x = 0 := rfl

theorem mny_step (ov : Nat → Nat → Bool) {k : Nat} (hk : 1 ≤ k) (x : Nat) : mny ov (k + 1) x = mny ov k x + (if ov k x = true then 1 else 0) := by
  unfold mny
  have e : k + 1 - 1 = (k - 1) + 1 := by omega
  rw [e, List.range'_1_concat, List.filter_append, List.length_append]
  have e2 : 1 + (k - 1) = k := by omega
  rw [e2]
  congr 1
  by_cases h : ov k x = true
  · simp [h]
  · simp [h]

theorem mny_le (ov : Nat → Nat → Bool) (k x : Nat) : mny ov k x ≤ k - 1 := by
  unfold mny
  have := List.length_filter_le (fun e => ov e x) (List.range' 1 (k - 1))
  rw [List.length_range'] at this
  exact this

/-- The choice, of those below k. -/
def Bst (ov : Nat → Nat → Bool) (many : Nat → Nat) (x k b : Nat) : Prop := (b = 0 ∧ ∀ d, 1 ≤ d → d < k → ov d x = false) ∨ (1 ≤ b ∧ b < k ∧ ov b x = true ∧ ∀ d, 1 ≤ d → d < k → ov d x = true → many d ≤ many b)

variable {ov : Nat → Nat → Bool} {many : Nat → Nat} {x k b : Nat}

theorem Bst.start : Bst ov many x 1 0 := .inl ⟨rfl, fun d h1 h2 => by omega⟩

theorem Bst.skip (h : Bst ov many x k b) (hk : ov k x = false) : Bst ov many x (k + 1) b := by
  rcases h with ⟨h1, h2⟩ | ⟨h1, h2, h3, h4⟩
  · refine .inl ⟨h1, fun d k1 k2 => ?_⟩
    by_cases e : d = k
    · rw [e]; exact hk
    · exact h2 d k1 (by omega)
  · refine .inr ⟨h1, by omega, h3, fun d k1 k2 k3 => ?_⟩
    by_cases e : d = k
    · rw [e, hk] at k3; cases k3
    · exact h4 d k1 (by omega) k3

theorem Bst.less (h : Bst ov many x k b) (hb : b ≠ 0) (hl : many k ≤ many b) : Bst ov many x (k + 1) b := by
  rcases h with ⟨h1, h2⟩ | ⟨h1, h2, h3, h4⟩
  · exact absurd h1 hb
  · refine .inr ⟨h1, by omega, h3, fun d k1 k2 k3 => ?_⟩
    by_cases e : d = k
    · rw [e]; exact hl
    · exact h4 d k1 (by omega) k3

theorem Bst.more (h : Bst ov many x k b) (h0 : 1 ≤ k) (hk : ov k x = true) (hl : b = 0 ∨ many b < many k) : Bst ov many x (k + 1) k := by
  refine .inr ⟨h0, by omega, hk, fun d k1 k2 k3 => ?_⟩
  by_cases e : d = k
  · rw [e]; exact Nat.le_refl _
  · rcases h with ⟨h1, h2⟩ | ⟨h1, h2, h3, h4⟩
    · rw [h2 d k1 (by omega)] at k3; cases k3
    · have := h4 d k1 (by omega) k3
      rcases hl with h5 | h5
      · omega
      · omega

theorem Bst.ids {all : Nat → Bool} {left : Nat → Nat → Bool} (ha : ∀ x, all x = true ↔ Rv W 0 x) (hl : ∀ d x, 1 ≤ d → d ≤ n → (left d x = true ↔ Rv W d x)) (hin : ∀ d, Rv W 0 d → 1 ≤ d ∧ d ≤ n) (hx : 1 ≤ x ∧ x ≤ n) (h : Bst (ovb all left) (mny (ovb all left) (n + 1)) x (n + 1) b) : Ids W b x := by
  refine ids_of_most (ov := ovb all left) (fun d y h1 h2 h3 _ => ovb_ov ha hl h1 h2 h3) hin hx ?_
  rcases h with ⟨h1, h2⟩ | ⟨h1, h2, h3, h4⟩
  · exact .inl ⟨h1, fun d k1 k2 => h2 d k1 (by omega)⟩
  · refine .inr ⟨h1, by omega, h3, fun d k1 k2 k3 => ?_⟩
    have := h4 d k1 (by omega) k3
    unfold mny at this
    simpa using this

end Go.Proofs.YtckgcpoheodbcaaDoor.Lt

