import Derived.Test.YtkekaifiahjljaaGreatDoorC11
set_option linter.unusedVariables false
set_option maxHeartbeats 8000000
namespace Go.Proofs.YtkekaifiahjljaaGreatDoor.Lt
section
variable {E : Nat → Nat → Prop} {par : Nat → Nat} {p : Nat} (D : Dt E par p)
include D
theorem Dt.sp_up {w u v : Nat} (hv : v < p) (ha : Anc par u v) (hu : w < u) (h : Sp E w v) : Sp E w u := by
  induction ha with
  | refl => exact h
  | @up v h0 ha ih =>
    have h1 := D.pl v h0 hv
    have h2 := D.le (by omega) ha
    exact ih (by omega) (.step (D.pe v h0 hv) (by omega) h)
omit D in
theorem sp_then {w u x : Nat} (h : Sp E u x) (hu : w < u) (k : Sp E w u) : Sp E w x := by
  induction h with
  | last e => exact .step e hu k
  | step e hx _ ih => exact .step e (by omega) ih
theorem Dt.sp_via {w v : Nat} (h : Sp E w v) (hv : w < v) : ∃ z u, E z w ∧ w < z ∧ w < u ∧ Anc par u z ∧ (v = u ∨ (u < v ∧ Sp E u v)) := by
  induction h with
  | @last v e => exact ⟨v, v, e, hv, hv, .refl v, .inl rfl⟩
  | @step v x e hx h ih =>
    obtain ⟨z, u, h1, h2, h3, h4, h5⟩ := ih hx
    rcases Nat.lt_trichotomy v u with h6 | h6 | h6
    · have hux : u ≤ x := by rcases h5 with rfl | ⟨h7, -⟩ <;> omega
      have h7 := D.fw v x e (by omega)
      have h8 := D.iv v u x (D.el _ _ e).2 h7 (by omega) hux
      exact ⟨z, v, h1, h2, hv, h8.trans h4, .inl rfl⟩
    · exact ⟨z, u, h1, h2, h3, h4, .inl h6⟩
    · refine ⟨z, u, h1, h2, h3, h4, .inr ⟨h6, ?_⟩⟩
      rcases h5 with rfl | ⟨h7, h8⟩
      · exact .last e
      · exact .step e h7 h8
theorem Dt.semi {S : Nat → Nat} {w s : Nat} (h0 : w ≠ 0) (hw : w < p) (hS : ∀ u, w < u → u < p → Sp E u (S u) ∧ ∀ x, Sp E u x → S u ≤ x)
    (ha : s = w ∨ ∃ v, E v w ∧ ((v < w ∧ s = v) ∨ (w < v ∧ ∃ u, w < u ∧ Anc par u v ∧ s = S u)))
    (hb : ∀ v, E v w → (v < w → s ≤ v) ∧ (w < v → ∀ u, w < u → Anc par u v → s ≤ S u)) : Sp E w s ∧ ∀ x, Sp E w x → s ≤ x := by
  have hsw : s < w := by
    have h1 := (hb _ (D.pe w h0 hw)).1 (D.pl w h0 hw)
    have := D.pl w h0 hw
    omega
  constructor
  · rcases ha with h | ⟨v, e, ⟨h1, rfl⟩ | ⟨h1, u, h2, h3, rfl⟩⟩
    · omega
    · exact .last e
    · have hvp := (D.el _ _ e).1
      have hup : u < p := by have := D.le hvp h3; omega
      exact sp_then (hS u h2 hup).1 h2 (D.sp_up hvp h3 h2 (.last e))
  · intro x hx
    cases hx with
    | last e =>
      rcases Nat.lt_or_ge x w with h1 | h1
      · exact (hb x e).1 h1
      · omega
    | @step _ v e hv h =>
      obtain ⟨z, u, h1, h2, h3, h4, h5⟩ := D.sp_via h hv
      have hup : u < p := by have := D.le (D.el _ _ h1).1 h4; have := (D.el _ _ h1).1; omega
      have h6 := (hb z h1).2 h2 u h3 h4
      have h7 := (hS u h3 hup).2 x (by
        rcases h5 with rfl | ⟨h8, h9⟩
        · exact .last e
        · exact .step e h8 h9)
      omega
end
theorem anc_congr {par par' : Nat → Nat} {p : Nat} (hpl : ∀ v, v ≠ 0 → v < p → par v < v) (he : ∀ v, v < p → par' v = par v) {u v : Nat} (hv : v < p) (h : Anc par u v) : Anc par' u v := by
  induction h with
  | refl => exact .refl _
  | @up v h0 _ ih =>
    have := hpl v h0 hv
    exact .up h0 (by rw [he v hv]; exact ih (by omega))
def Ed (W : Nat → List Nat) (ord : List Nat) (u v : Nat) : Prop := ∃ a b, ord[u]? = some a ∧ ord[v]? = some b ∧ b ∈ W a
structure Df (W : Nat → List Nat) (ord : List Nat) (par : Nat → Nat) (st : List (Nat × Nat)) : Prop where
  nd : ord.Nodup
  z : ord[0]? = some 0
  d : Dt (Ed W ord) par ord.length
  i1 : ∀ x, x ∈ st → x.1 < ord.length ∧ Anc par x.1 (ord.length - 1) ∧ ∃ a, ord[x.1]? = some a ∧ x.2 ∈ W a
  i2 : st.Pairwise (fun a b => b.1 ≤ a.1)
  i3 : ∀ (u : Nat) a, ord[u]? = some a → ∀ t, t ∈ W a → t ∈ ord ∨ (u, t) ∈ st
variable {W : Nat → List Nat} {ord : List Nat} {par : Nat → Nat} {st : List (Nat × Nat)}
theorem Df.skip {f t : Nat} (h : Df W ord par ((f, t) :: st)) (ht : t ∈ ord) : Df W ord par st := by
  refine ⟨h.nd, h.z, h.d, fun x hx => h.i1 x (List.mem_cons_of_mem _ hx), (List.pairwise_cons.1 h.i2).2, fun u a hu t' ht' => ?_⟩
  rcases h.i3 u a hu t' ht' with h1 | h1
  · exact .inl h1
  · rcases List.mem_cons.1 h1 with h2 | h2
    · cases h2; exact .inl ht
    · exact .inr h2
theorem Df.start {new : List (Nat × Nat)} (h1 : ∀ x, x ∈ new → x.1 = 0 ∧ x.2 ∈ W 0) (h2 : ∀ t, t ∈ W 0 → t ≠ 0 → (0, t) ∈ new) : Df W [0] (fun _ => 0) new := by
  have hz : ∀ (v : Nat) b, ([0] : List Nat)[v]? = some b → v = 0 ∧ b = 0 := fun v b h => by
    cases v with
    | zero => cases h; exact ⟨rfl, rfl⟩
    | succ v => simp at h
  refine ⟨by simp, rfl, ⟨fun v h0 hv => ?_, fun v h0 hv => ?_, fun u v ⟨a, b, hu, hv, _⟩ hl => ?_, fun u y v hv ha hu hy => ?_, fun u v ⟨a, b, hu, hv, _⟩ => ?_⟩, fun x hx => ?_, ?_, fun u a hu t ht => ?_⟩
  · simp at hv; exact absurd hv h0
  · simp at hv; exact absurd hv h0
  · have := (hz u a hu).1; have := (hz v b hv).1; omega
  · simp at hv
    subst hv
    have : y = 0 := by omega
    subst this
    exact ha
  · have := (hz u a hu).1; have := (hz v b hv).1; simp; omega
  · obtain ⟨h3, h4⟩ := h1 x hx
    exact ⟨by simp [h3], by rw [h3]; exact .refl 0, 0, by rw [h3]; rfl, h4⟩
  · rw [List.pairwise_iff_forall_sublist]
    intro a b hab
    have h3 := (h1 a (hab.subset (by simp))).1
    have h4 := (h1 b (hab.subset (by simp))).1
    omega
  · obtain ⟨rfl, rfl⟩ := hz u a hu
    by_cases h0 : t = 0
    · exact .inl (by simp [h0])
    · exact .inr (h2 t ht h0)
theorem Df.step {f t : Nat} (h : Df W ord par ((f, t) :: st)) (ht : t ∉ ord) {new : List (Nat × Nat)} (h1 : ∀ x, x ∈ new → x.1 = ord.length ∧ x.2 ∈ W t) (h2 : ∀ t', t' ∈ W t → t' ∉ ord ++ [t] → (ord.length, t') ∈ new) :
    Df W (ord ++ [t]) (fun v => if v = ord.length then f else par v) (new ++ st) := by
  have hp0 : 0 < ord.length := (List.getElem?_eq_some_iff.1 h.z).1
  obtain ⟨hf, hfa, a, hfo, hta⟩ := h.i1 (f, t) (by simp)
  have hle : ∀ x, x ∈ st → x.1 ≤ f := (List.pairwise_cons.1 h.i2).1
  have hpar : ∀ v, v < ord.length → (if v = ord.length then f else par v) = par v := fun v hv => if_neg (by omega)
  have up : ∀ {u v : Nat}, v < ord.length → Anc par u v → Anc (fun v => if v = ord.length then f else par v) u v := fun hv ha => anc_congr h.d.pl hpar hv ha
  have dn : ∀ {u v : Nat}, v < ord.length → Anc (fun v => if v = ord.length then f else par v) u v → Anc par u v := fun hv ha =>
    anc_congr (fun v h0 hv => by rw [hpar v hv]; exact h.d.pl v h0 hv) (fun v hv => (hpar v hv).symm) hv ha
  have new_up : ∀ {u : Nat}, Anc par u f → Anc (fun v => if v = ord.length then f else par v) u ord.length := fun ha => .up (by omega) (by simp only [if_true]; exact up hf ha)
  have old : ∀ {v b : Nat}, v < ord.length → (ord ++ [t])[v]? = some b → ord[v]? = some b := fun hv hb => by rwa [List.getElem?_append_left hv] at hb
  have oldl : ∀ {v b : Nat}, (ord ++ [t])[v]? = some b → v < ord.length ∨ (v = ord.length ∧ b = t) := fun {v b} hb => by
    rcases Nat.lt_or_ge v ord.length with h3 | h3
    · exact .inl h3
    · rw [List.getElem?_append_right h3] at hb
      have h4 := (List.getElem?_eq_some_iff.1 hb).1
      simp at h4
      have h5 : v = ord.length := by omega
      subst h5
      simp at hb
      exact .inr ⟨rfl, hb.symm⟩
  have ed : ∀ {u v : Nat}, u < ord.length → v < ord.length → Ed W (ord ++ [t]) u v → Ed W ord u v := fun hu hv ⟨a, b, h3, h4, h5⟩ => ⟨a, b, old hu h3, old hv h4, h5⟩
  have inr : ∀ {v b : Nat}, ord[v]? = some b → (ord ++ [t])[v]? = some b := fun hb => by rw [List.getElem?_append_left (List.getElem?_eq_some_iff.1 hb).1]; exact hb
  have last : (ord ++ [t])[ord.length]? = some t := by simp
  have lowa : ∀ {u : Nat}, u ≤ f → Anc par u (ord.length - 1) → Anc par u f := fun hu ha => h.d.chain (by omega) ha hfa hu
  refine ⟨?_, inr h.z, ⟨fun v h0 hv => ?_, fun v h0 hv => ?_, fun u v e hl => ?_, fun u y v hv ha hu hy => ?_, fun u v ⟨a, b, hu, hv, _⟩ => ⟨(List.getElem?_eq_some_iff.1 hu).1, (List.getElem?_eq_some_iff.1 hv).1⟩⟩, fun x hx => ?_, ?_, fun u a' hu t' ht' => ?_⟩
  · rw [List.nodup_append]
    exact ⟨h.nd, by simp, fun x hx y hy e => by
      have : y = t := by simpa using hy
      rw [e, this] at hx
      exact ht hx⟩
  · rw [List.length_append] at hv
    simp only [List.length_cons, List.length_nil] at hv
    by_cases h3 : v = ord.length
    · rw [if_pos h3]; omega
    · rw [if_neg h3]; exact h.d.pl v h0 (by omega)
  · rw [List.length_append] at hv
    simp only [List.length_cons, List.length_nil] at hv
    by_cases h3 : v = ord.length
    · rw [if_pos h3, h3]
      exact ⟨a, t, inr hfo, last, hta⟩
    · rw [if_neg h3]
      obtain ⟨a, b, h4, h5, h6⟩ := h.d.pe v h0 (by omega)
      exact ⟨a, b, inr h4, inr h5, h6⟩
  · obtain ⟨a1, b1, hu, hv, hab⟩ := e
    rcases oldl hv with h3 | ⟨h3, h4⟩
    · exact up h3 (h.d.fw u v ⟨a1, b1, old (by omega) hu, old h3 hv, hab⟩ hl)
    · subst h3 h4
      have hul : u < ord.length := by omega
      rcases h.i3 u a1 (old hul hu) b1 hab with h5 | h5
      · exact absurd h5 ht
      · obtain ⟨-, h6, -⟩ := h.i1 _ h5
        rcases List.mem_cons.1 h5 with h7 | h7
        · cases h7; exact new_up (.refl _)
        · exact new_up (lowa (hle _ h7) h6)
  · rw [List.length_append] at hv
    simp only [List.length_cons, List.length_nil] at hv
    by_cases h3 : v = ord.length
    · subst h3
      by_cases h4 : y = ord.length
      · rw [h4]; exact ha
      · have h5 : u ≠ ord.length := by omega
        obtain ⟨-, h6⟩ := ha.par_ h5
        simp only [if_true] at h6
        have h7 := (dn hf h6).trans hfa
        exact up (by omega) (h.d.iv u y (ord.length - 1) (by omega) h7 hu (by omega))
    · exact up (by omega) (h.d.iv u y v (by omega) (dn (by omega) ha) hu hy)
  · rcases List.mem_append.1 hx with h3 | h3
    · obtain ⟨h4, h5⟩ := h1 x h3
      rw [h4]
      exact ⟨by simp, by simpa using Anc.refl _, t, last, h5⟩
    · obtain ⟨h4, h5, a1, h6, h7⟩ := h.i1 x (List.mem_cons_of_mem _ h3)
      refine ⟨by rw [List.length_append]; omega, ?_, a1, inr h6, h7⟩
      have h8 := new_up (lowa (hle x h3) h5)
      simpa using h8
  · rw [List.pairwise_append]
    refine ⟨?_, (List.pairwise_cons.1 h.i2).2, fun x hx y hy => ?_⟩
    · rw [List.pairwise_iff_forall_sublist]
      intro x y hxy
      have h3 := (h1 x (hxy.subset (by simp))).1
      have h4 := (h1 y (hxy.subset (by simp))).1
      omega
    · have h3 := (h1 x hx).1
      have h4 := hle y hy
      omega
  · rcases oldl hu with h3 | ⟨h3, h4⟩
    · rcases h.i3 u a' (old h3 hu) t' ht' with h5 | h5
      · exact .inl (List.mem_append_left _ h5)
      · rcases List.mem_cons.1 h5 with h6 | h6
        · cases h6; exact .inl (by simp)
        · exact .inr (List.mem_append_right _ h6)
    · subst h3 h4
      by_cases h5 : t' ∈ ord ++ [a']
      · exact .inl h5
      · exact .inr (List.mem_append_left _ (h2 t' ht' h5))
structure Fo (par : Nat → Nat) (p q : Nat) (σ fa bs : Nat → Nat) : Prop where
  a : ∀ v, q ≤ v → v < p → Anc par (fa v) v ∧ fa v ≠ v
  b : ∀ v, q ≤ v → v < p → Anc par (fa v) (bs v) ∧ bs v ≠ fa v ∧ Anc par (bs v) v
  m : ∀ v, q ≤ v → v < p → ∀ y, Anc par (fa v) y → y ≠ fa v → Anc par y v → q ≤ y ∧ σ (bs v) ≤ σ y
section
variable {E : Nat → Nat → Prop} {par : Nat → Nat} {p : Nat} (D : Dt E par p)
include D
omit D in
theorem Fo.congr {q : Nat} {σ σ' fa bs : Nat → Nat} (h : Fo par p q σ fa bs) (e : ∀ y, q ≤ y → σ' y = σ y) : Fo par p q σ' fa bs :=
  ⟨h.a, h.b, fun v hv hp y h1 h2 h3 => by
    obtain ⟨h4, h5⟩ := h.m v hv hp y h1 h2 h3
    obtain ⟨k1, k2, k3⟩ := h.b v hv hp
    rw [e y h4, e _ (h.m v hv hp _ k1 k2 k3).1]
    exact ⟨h4, h5⟩⟩
theorem Dt.fo_link {q : Nat} {σ fa bs : Nat → Nat} (h : Fo par p (q + 1) σ fa bs) (h0 : q ≠ 0) (hq : q < p) : Fo par p q σ (fun v => if v = q then par q else fa v) (fun v => if v = q then q else bs v) := by
  have hpl := D.pl q h0 hq
  refine ⟨fun v hv hp => ?_, fun v hv hp => ?_, fun v hv hp y h1 h2 h3 => ?_⟩
  · by_cases e : v = q
    · rw [if_pos e, e]; exact ⟨.up h0 (.refl _), by omega⟩
    · rw [if_neg e]; exact h.a v (by omega) hp
  · by_cases e : v = q
    · rw [if_pos e, if_pos e, e]; exact ⟨.up h0 (.refl _), by omega, .refl _⟩
    · rw [if_neg e, if_neg e]; exact h.b v (by omega) hp
  · by_cases e : v = q
    · rw [if_pos e] at h1 h2
      rw [if_pos e]
      rw [e] at h3
      have h4 : y = q := by
        by_cases h4 : y = q
        · exact h4
        · obtain ⟨-, h5⟩ := h3.par_ h4
          have := D.le (by omega) h5
          have := D.le (by omega) h1
          omega
      rw [h4]; exact ⟨Nat.le_refl _, Nat.le_refl _⟩
    · rw [if_neg e] at h1 h2
      rw [if_neg e]
      have := h.m v (by omega) hp y h1 h2 h3
      exact ⟨by omega, this.2⟩
theorem Dt.fo_short {q v : Nat} {σ fa bs : Nat → Nat} (h : Fo par p q σ fa bs) (hv : q ≤ v) (hp : v < p) (hf : q ≤ fa v) :
    Fo par p q σ (fun y => if y = v then fa (fa v) else fa y) (fun y => if y = v then (if σ (bs (fa v)) < σ (bs v) then bs (fa v) else bs v) else bs y) := by
  obtain ⟨a1, a2⟩ := h.a v hv hp
  have hfl := D.lt hp a1 a2
  obtain ⟨c1, c2⟩ := h.a (fa v) hf (by omega)
  obtain ⟨b1, b2, b3⟩ := h.b v hv hp
  obtain ⟨d1, d2, d3⟩ := h.b (fa v) hf (by omega)
  have hfl2 := D.lt (by omega) c1 c2
  refine ⟨fun y hy hyp => ?_, fun y hy hyp => ?_, fun y hy hyp z h1 h2 h3 => ?_⟩
  · by_cases e : y = v
    · rw [if_pos e, e]; exact ⟨c1.trans a1, by omega⟩
    · rw [if_neg e]; exact h.a y hy hyp
  · by_cases e : y = v
    · rw [if_pos e, if_pos e, e]
      split
      · exact ⟨d1, d2, d3.trans a1⟩
      · refine ⟨c1.trans b1, fun e2 => ?_, b3⟩
        have := D.le (by have := D.le hp b3; omega) b1
        omega
    · rw [if_neg e, if_neg e]; exact h.b y hy hyp
  · by_cases e : y = v
    · rw [if_pos e] at h1 h2
      rw [if_pos e]
      rw [e] at h3
      have key : q ≤ z ∧ (σ (bs (fa v)) ≤ σ z ∨ σ (bs v) ≤ σ z) := by
        rcases Nat.lt_or_ge (fa v) z with h4 | h4
        · have := h.m v hv hp z (D.chain hp a1 h3 (by omega)) (by omega) h3
          exact ⟨this.1, .inr this.2⟩
        · have := h.m (fa v) hf (by omega) z h1 h2 (D.chain hp h3 a1 h4)
          exact ⟨this.1, .inl this.2⟩
      refine ⟨key.1, ?_⟩
      split
      · omega
      · omega
    · rw [if_neg e] at h1 h2
      rw [if_neg e]
      exact h.m y hy hyp z h1 h2 h3
theorem Dt.fo_low {q v : Nat} {σ fa bs : Nat → Nat} (h : Fo par p q σ fa bs) (hv : q ≤ v) (hp : v < p) (hf : fa v < q) : q ≤ bs v ∧ Anc par (bs v) v ∧ ∀ y, q ≤ y → Anc par y v → σ (bs v) ≤ σ y := by
  obtain ⟨a1, a2⟩ := h.a v hv hp
  obtain ⟨b1, b2, b3⟩ := h.b v hv hp
  refine ⟨(h.m v hv hp _ b1 b2 b3).1, b3, fun y h1 h2 => (h.m v hv hp y (D.chain hp a1 h2 (by omega)) (by omega) h2).2⟩
omit D in
def Ch (par : Nat → Nat) (s v c : Nat) : Prop := c ≠ 0 ∧ par c = s ∧ Anc par c v
omit D in
theorem ch_ex {s v : Nat} (h : Anc par s v) (hne : s ≠ v) : ∃ c, Ch par s v c := by
  induction h with
  | refl => exact absurd rfl hne
  | @up v h0 ha ih =>
    by_cases e : s = par v
    · exact ⟨v, h0, e.symm, .refl v⟩
    · obtain ⟨c, h1, h2, h3⟩ := ih e
      exact ⟨c, h1, h2, .up h0 h3⟩
def Gs (par : Nat → Nat) (σ : Nat → Nat) (w g : Nat) : Prop := ∃ u, Anc par (σ w) u ∧ u ≠ σ w ∧ Anc par u w ∧ (∀ y, Anc par (σ w) y → y ≠ σ w → Anc par y w → σ u ≤ σ y) ∧ ((σ u = σ w ∧ g = σ w) ∨ (σ u < σ w ∧ g = u))
structure Ma (E : Nat → Nat → Prop) (par : Nat → Nat) (p q : Nat) (σ : Nat → Nat) (wt : Nat → List Nat) (tg : Nat → Nat) : Prop where
  lo : ∀ v, v < q → σ v = v
  hi : ∀ v, q ≤ v → v < p → Sp E v (σ v) ∧ ∀ x, Sp E v x → σ v ≤ x
  wi : ∀ s o, o ∈ wt s → q ≤ o ∧ o < p ∧ σ o = s ∧ ∃ c, Ch par s o c ∧ c < q
  wo : ∀ o, q ≤ o → o < p → (∃ c, Ch par (σ o) o c ∧ c < q ∧ o ∈ wt (σ o)) ∨ (∃ c, Ch par (σ o) o c ∧ q ≤ c ∧ Gs par σ o (tg o))
  nd : ∀ s, (wt s).Nodup
  t0 : tg 0 = 0
omit D in
theorem ma_start : Ma E par p p (fun v => v) (fun _ => []) (fun _ => 0) :=
  ⟨fun _ _ => rfl, fun v h1 h2 => by omega, fun s o h => by simp at h, fun o h1 h2 => by omega, fun _ => List.nodup_nil, rfl⟩
theorem Dt.ma_wait {q : Nat} {σ : Nat → Nat} {wt : Nat → List Nat} {tg : Nat → Nat} (h : Ma E par p (q + 1) σ wt tg) (h0 : q ≠ 0) (hq : q < p) {s : Nat} (hs : Sp E q s ∧ ∀ x, Sp E q x → s ≤ x) {o : Nat} (ho : o ∈ (if par q = s then wt (par q) ++ [q] else wt (par q))) :
    q ≤ o ∧ o < p ∧ (if o = q then s else σ o) = par q ∧ Anc par q o := by
  have hpl := D.pl q h0 hq
  have base : o ∈ wt (par q) → q ≤ o ∧ o < p ∧ (if o = q then s else σ o) = par q ∧ Anc par q o := fun h1 => by
    obtain ⟨h2, h3, h4, c, ⟨c1, c2, c3⟩, c4⟩ := h.wi _ _ h1
    refine ⟨by omega, h3, by rw [if_neg (by omega)]; exact h4, ?_⟩
    have h5 := D.iv c q o h3 c3 (by omega) (by omega)
    by_cases e : c = q
    · exact e ▸ c3
    · obtain ⟨-, h6⟩ := h5.par_ e
      have h7 := D.le (by omega) h6
      have h8 := D.pl c c1 (by omega)
      omega
  by_cases e : par q = s
  · rw [if_pos e] at ho
    rcases List.mem_append.1 ho with h1 | h1
    · exact base h1
    · have : o = q := by simpa using h1
      subst this
      exact ⟨Nat.le_refl _, hq, by rw [if_pos rfl]; exact e.symm, .refl _⟩
  · rw [if_neg e] at ho
    exact base ho
theorem Dt.ma_guess {q : Nat} (h0 : q ≠ 0) (hq : q < p) {σ : Nat → Nat} {o u : Nat} (h1 : q ≤ o) (h2 : o < p) (h3 : σ o = par q) (h4 : Anc par q o) (u1 : q ≤ u) (u2 : Anc par u o) (u3 : ∀ y, q ≤ y → Anc par y o → σ u ≤ σ y) : Gs par σ o (if σ u < σ o then u else σ o) := by
  have hpl := D.pl q h0 hq
  have hpq : Anc par (par q) q := .up h0 (.refl _)
  refine ⟨u, by rw [h3]; exact hpq.trans (D.chain h2 h4 u2 u1), by omega, u2, fun y y1 y2 y3 => ?_, ?_⟩
  · rw [h3] at y1 y2
    refine u3 y ?_ y3
    rcases Nat.lt_or_ge y q with h5 | h5
    · have h6 := D.chain h2 y3 h4 (by omega)
      obtain ⟨-, h7⟩ := h6.par_ (by omega)
      have := D.le (by omega) h7
      have := D.le (by omega) y1
      omega
    · exact h5
  · have h5 := u3 o h1 (.refl o)
    by_cases h6 : σ u < σ o
    · rw [if_pos h6]; exact .inr ⟨h6, rfl⟩
    · rw [if_neg h6]; exact .inl ⟨by omega, rfl⟩
theorem Gs.congr {σ σ' : Nat → Nat} {q w g : Nat} (hw : w < p) (hσ : ∀ v, q < v → σ' v = σ v) (hqw : q < w) (hs : Anc par (σ w) w ∧ σ w ≠ w) {c : Nat} (hc : Ch par (σ w) w c) (hcq : q < c) (h : Gs par σ w g) : Gs par σ' w g := by
  obtain ⟨u, u1, u2, u3, u4, u5⟩ := h
  have big : ∀ y, Anc par (σ w) y → y ≠ σ w → Anc par y w → q < y := fun y y1 y2 y3 => by
    rcases Nat.lt_or_ge y c with h1 | h1
    · obtain ⟨c1, c2, c3⟩ := hc
      have h2 := D.chain hw y3 c3 (by omega)
      obtain ⟨-, h3⟩ := h2.par_ (by omega)
      rw [c2] at h3
      have := D.le (by have := D.le hw hs.1; omega) h3
      have := D.le (by have := D.le hw y3; omega) y1
      omega
    · omega
  have hu := big u u1 u2 u3
  refine ⟨u, by rw [hσ w hqw]; exact u1, by rw [hσ w hqw]; exact u2, u3, fun y y1 y2 y3 => ?_, by rw [hσ w hqw, hσ u hu]; exact u5⟩
  rw [hσ w hqw] at y1 y2
  rw [hσ u hu, hσ y (big y y1 y2 y3)]
  exact u4 y y1 y2 y3
end
section
variable {E : Nat → Nat → Prop} {par : Nat → Nat} {p : Nat} (D : Dt E par p)
include D
theorem Dt.sp_low {q s : Nat} (h0 : q ≠ 0) (hq : q < p) (hs : Sp E q s ∧ ∀ x, Sp E q x → s ≤ x) : s < q ∧ Anc par s q := by
  have h1 := hs.2 _ (.last (D.pe q h0 hq))
  have h2 := D.pl q h0 hq
  exact ⟨by omega, D.sp_anc hs.1 (by omega)⟩
theorem Dt.ma_step {q : Nat} {σ : Nat → Nat} {wt : Nat → List Nat} {tg : Nat → Nat} (h : Ma E par p (q + 1) σ wt tg) (h0 : q ≠ 0) (hq : q < p) {s : Nat} (hs : Sp E q s ∧ ∀ x, Sp E q x → s ≤ x) {tg' : Nat → Nat}
    (g1 : ∀ o, o ∈ (if par q = s then wt (par q) ++ [q] else wt (par q)) → Gs par (fun v => if v = q then s else σ v) o (tg' o)) (g2 : ∀ o, o ∉ (if par q = s then wt (par q) ++ [q] else wt (par q)) → tg' o = tg o) :
    Ma E par p q (fun v => if v = q then s else σ v) (fun x => if x = par q then [] else if x = s then wt x ++ [q] else wt x) tg' := by
  obtain ⟨hsl, hsa⟩ := D.sp_low h0 hq hs
  have hpl := D.pl q h0 hq
  have hw := fun o ho => D.ma_wait h h0 hq hs (o := o) ho
  refine ⟨fun v hv => ?_, fun v hv hp => ?_, fun x o ho => ?_, fun o h1 h2 => ?_, fun x => ?_, ?_⟩
  · rw [if_neg (by omega)]; exact h.lo v (by omega)
  · by_cases e : v = q
    · rw [if_pos e, e]; exact hs
    · rw [if_neg e]; exact h.hi v (by omega) hp
  · by_cases e : x = par q
    · rw [if_pos e] at ho; simp at ho
    · rw [if_neg e] at ho
      have base : o ∈ wt x → q ≤ o ∧ o < p ∧ (if o = q then s else σ o) = x ∧ ∃ c, Ch par x o c ∧ c < q := fun h1 => by
        obtain ⟨h2, h3, h4, c, hc, h5⟩ := h.wi _ _ h1
        refine ⟨by omega, h3, by rw [if_neg (by omega)]; exact h4, c, hc, ?_⟩
        have h6 : c ≠ q := fun e2 => e (by rw [← hc.2.1, e2])
        omega
      by_cases e2 : x = s
      · rw [if_pos e2] at ho
        rcases List.mem_append.1 ho with h1 | h1
        · exact base h1
        · have : o = q := by simpa using h1
          subst this
          obtain ⟨c, hc⟩ := ch_ex hsa (by omega)
          refine ⟨Nat.le_refl _, hq, by rw [if_pos rfl]; exact e2.symm, c, e2 ▸ hc, ?_⟩
          have h6 : c ≠ o := fun e3 => e (by rw [e2, ← hc.2.1, e3])
          have := D.le hq hc.2.2
          omega
      · rw [if_neg e2] at ho
        exact base ho
  · by_cases hin : o ∈ (if par q = s then wt (par q) ++ [q] else wt (par q))
    · obtain ⟨k1, k2, k3, k4⟩ := hw o hin
      exact .inr ⟨q, by show Ch par (if o = q then s else σ o) o q; rw [k3]; exact ⟨h0, rfl, k4⟩, Nat.le_refl _, g1 o hin⟩
    · rw [g2 o hin]
      by_cases e : o = q
      · subst e
        have hne : par o ≠ s := fun e2 => hin (by rw [if_pos e2]; simp)
        obtain ⟨c, hc⟩ := ch_ex hsa (by omega)
        refine .inl ⟨c, by rw [if_pos rfl]; exact hc, ?_, ?_⟩
        · have h6 : c ≠ o := fun e3 => hne (by rw [← hc.2.1, e3])
          have := D.le hq hc.2.2
          omega
        · rw [if_pos rfl, if_neg (fun e2 => hne e2.symm), if_pos rfl]
          simp
      · have hgt : q < o := by omega
        rcases h.wo o (by omega) h2 with ⟨c, hc, hcq, hwo⟩ | ⟨c, hc, hcq, hg⟩
        · have hne : σ o ≠ par q := fun e2 => hin (by
            rw [e2] at hwo
            split
            · exact List.mem_append_left _ hwo
            · exact hwo)
          have h6 : c ≠ q := fun e3 => hne (by rw [← hc.2.1, e3])
          refine .inl ⟨c, by rw [if_neg e]; exact hc, by omega, ?_⟩
          rw [if_neg e, if_neg hne]
          split
          · exact List.mem_append_left _ hwo
          · exact hwo
        · have h7 := D.sp_low (q := o) (by omega) h2 (h.hi o (by omega) h2)
          refine .inr ⟨c, by rw [if_neg e]; exact hc, by omega, Gs.congr D h2 (fun v hv => if_neg (by omega)) hgt ⟨h7.2, by omega⟩ hc (by omega) hg⟩
  · by_cases e : x = par q
    · rw [if_pos e]; exact List.nodup_nil
    · rw [if_neg e]
      split
      · rw [List.nodup_append]
        refine ⟨h.nd x, by simp, fun a ha b hb e2 => ?_⟩
        have hb' : b = q := by simpa using hb
        have := (h.wi x a ha).1
        omega
      · exact h.nd x
  · rw [g2 0 (fun h1 => by have := (hw 0 h1).1; omega)]
    exact h.t0
omit D in
theorem ma_end {σ : Nat → Nat} {wt : Nat → List Nat} {tg : Nat → Nat} (h : Ma E par p 1 σ wt tg) : Sem E p σ ∧ ∀ w, w ≠ 0 → w < p → Gs par σ w (tg w) := by
  refine ⟨⟨fun w h0 hw => (h.hi w (by omega) hw).1, fun w h0 hw => (h.hi w (by omega) hw).2⟩, fun w h0 hw => ?_⟩
  rcases h.wo w (by omega) hw with ⟨c, hc, hcq, -⟩ | ⟨-, -, -, h1⟩
  · exact absurd (by omega) hc.1
  · exact h1
structure La (par : Nat → Nat) (p k : Nat) (σ tg ft : Nat → Nat) : Prop where
  dn : ∀ w, w ≠ 0 → w < k → ∃ u, Anc par (σ w) u ∧ u ≠ σ w ∧ Anc par u w ∧ (∀ y, Anc par (σ w) y → y ≠ σ w → Anc par y w → σ u ≤ σ y) ∧ ((σ u = σ w ∧ ft w = σ w) ∨ (σ u < σ w ∧ u ≠ w ∧ ft w = ft u))
  up : ∀ w, k ≤ w → ft w = tg w
  z : ft 0 = 0
omit D in
theorem La.start {σ tg : Nat → Nat} (h : tg 0 = 0) : La par p 0 σ tg tg := ⟨fun w h0 h => by omega, fun _ _ => rfl, h⟩
theorem Dt.la_step {k : Nat} {σ tg ft : Nat → Nat} (h : La par p k σ tg ft) (hk : k < p) (hσ : σ 0 = 0) (hs : ∀ w, w ≠ 0 → w < p → σ w < w) (hg : ∀ w, w ≠ 0 → w < p → Gs par σ w (tg w)) : tg k ≤ k ∧ La par p (k + 1) σ tg (fun v => if v = k then (if tg k ≠ σ k then ft (tg k) else tg k) else ft v) := by
  by_cases h0 : k = 0
  · subst h0
    have ht : tg 0 = 0 := by rw [← h.up 0 (Nat.le_refl _)]; exact h.z
    refine ⟨by omega, fun w w0 hw => by omega, fun w hw => by rw [if_neg (by omega)]; exact h.up w (by omega), ?_⟩
    rw [if_pos rfl, if_neg (by rw [ht, hσ]; exact fun h => h rfl)]
    exact ht
  · obtain ⟨u, u1, u2, u3, u4, u5⟩ := hg k h0 hk
    have hsk := hs k h0 hk
    have hul := D.le hk u3
    have hus : σ k < u := D.lt (by omega) u1 (fun e => u2 e.symm)
    have htk : tg k ≤ k := by rcases u5 with ⟨-, h1⟩ | ⟨-, h1⟩ <;> omega
    refine ⟨htk, fun w w0 hw => ?_, fun w hw => by rw [if_neg (by omega)]; exact h.up w (by omega), by rw [if_neg (by omega)]; exact h.z⟩
    by_cases e : w = k
    · subst e
      refine ⟨u, u1, u2, u3, u4, ?_⟩
      rcases u5 with ⟨h1, h2⟩ | ⟨h1, h2⟩
      · refine .inl ⟨h1, ?_⟩
        rw [if_pos rfl, if_neg (fun h => h h2)]
        exact h2
      · have huw : u ≠ w := fun e2 => by rw [e2] at h1; omega
        refine .inr ⟨h1, huw, ?_⟩
        rw [if_pos rfl, if_pos (by rw [h2]; exact u2), if_neg huw, h2]
    · obtain ⟨u', v1, v2, v3, v4, v5⟩ := h.dn w w0 (by omega)
      have hu' := D.le (by omega) v3
      refine ⟨u', v1, v2, v3, v4, ?_⟩
      rw [if_neg e, if_neg (by omega)]
      exact v5
omit D in
theorem La.idm {σ tg ft : Nat → Nat} (h : La par p p σ tg ft) : Idm par p σ ft := fun w h0 hw => h.dn w h0 hw
end
end Go.Proofs.YtkekaifiahjljaaGreatDoor.Lt
