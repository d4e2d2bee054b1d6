import Derived.Test.YtkekaifiahjljaaGreatDoorC12
import Derived.Test.YtkekaifiahjljaaGreatDoorC10
import Derived.Test.YtkekaifiahjljaaGreatDoorC11
set_option linter.unusedVariables false
set_option maxHeartbeats 8000000
set_option maxRecDepth 20000
namespace Go.Proofs.YtkekaifiahjljaaGreatDoor.Lt
inductive Rv (W : Nat → List Nat) (d : Nat) : Nat → Prop
  | root {y : Nat} : y ∈ W 0 → y ≠ d → Rv W d y
  | step {u y : Nat} : Rv W d u → y ∈ W u → y ≠ d → Rv W d y
def Ov (W : Nat → List Nat) (d x : Nat) : Prop := d ≠ 0 ∧ x ≠ 0 ∧ x ≠ d ∧ Rv W 0 x ∧ Rv W 0 d ∧ ¬ Rv W d x
def Ids (W : Nat → List Nat) (i x : Nat) : Prop := (i = 0 ∨ Ov W i x) ∧ ∀ d, Ov W d x → d = i ∨ Ov W d i
variable {W : Nat → List Nat}
theorem Ov.anti {d e : Nat} (h : Ov W d e) : ¬ Ov W e d := fun k => by
  obtain ⟨d0, e0, hne, re, rd, h1⟩ := h
  have h2 := k.2.2.2.2.2
  have key : ∀ v, Rv W 0 v → (v ≠ d ∧ v ≠ e ∧ Rv W d v ∧ Rv W e v) := by
    intro v hv
    induction hv with
    | @root y hy _ =>
      have a : y ≠ d := fun e1 => h2 (.root (e1 ▸ hy) (fun e2 => hne e2.symm))
      have b : y ≠ e := fun e1 => h1 (.root (e1 ▸ hy) hne)
      exact ⟨a, b, .root hy a, .root hy b⟩
    | @step u y _ hy _ ih =>
      obtain ⟨-, -, i1, i2⟩ := ih
      have a : y ≠ d := fun e1 => h2 (.step i2 (e1 ▸ hy) (fun e2 => hne e2.symm))
      have b : y ≠ e := fun e1 => h1 (.step i1 (e1 ▸ hy) hne)
      exact ⟨a, b, .step i1 hy a, .step i2 hy b⟩
  exact (key e re).2.1 rfl
theorem Ov.trans {a b c : Nat} (h : Ov W a b) (k : Ov W b c) : Ov W a c := by
  obtain ⟨a0, b0, hne, rb, ra, h1⟩ := h
  obtain ⟨-, c0, hne2, rc, -, h2⟩ := k
  have h3 : ¬ Rv W a c := fun hac => by
    have key : ∀ v, Rv W a v → Rv W b v := by
      intro v hv
      induction hv with
      | @root y hy hya =>
        exact .root hy (fun e => h1 (e ▸ .root hy hya))
      | @step u y hu hy hya ih =>
        exact .step ih hy (fun e => h1 (e ▸ .step hu hy hya))
    exact h2 (key c hac)
  refine ⟨a0, c0, fun e => ?_, rc, ra, h3⟩
  subst e
  exact Ov.anti (W := W) (d := c) (e := b) ⟨a0, b0, hne, rb, ra, h1⟩ ⟨b0, c0, hne2, rc, rb, h2⟩
theorem Ov.chain {d e x : Nat} (h : Ov W d x) (k : Ov W e x) (hne : d ≠ e) : Ov W d e ∨ Ov W e d := by
  obtain ⟨d0, x0, -, rx, rd, h1⟩ := h
  obtain ⟨e0, -, -, -, re, h2⟩ := k
  by_cases h3 : Rv W d e
  · by_cases h4 : Rv W e d
    · exfalso
      have key : ∀ v, Rv W 0 v → Rv W d v ∨ Rv W e v := by
        intro v hv
        induction hv with
        | @root y hy _ =>
          by_cases e1 : y = d
          · exact .inr (e1 ▸ h4)
          · exact .inl (.root hy e1)
        | @step u y _ hy _ ih =>
          rcases ih with i | i
          · by_cases e1 : y = d
            · exact .inr (e1 ▸ h4)
            · exact .inl (.step i hy e1)
          · by_cases e1 : y = e
            · exact .inl (e1 ▸ h3)
            · exact .inr (.step i hy e1)
      rcases key x rx with i | i
      · exact h1 i
      · exact h2 i
    · exact .inr ⟨e0, d0, hne, rd, re, h4⟩
  · exact .inl ⟨d0, e0, fun e1 => hne e1.symm, re, rd, h3⟩
theorem Ids.uniq {i i' x : Nat} (h : Ids W i x) (h' : Ids W i' x) : i = i' := by
  by_cases e : i = i'
  · exact e
  · exfalso
    rcases h.1 with h1 | h1
    · subst h1
      rcases h'.1 with h2 | h2
      · exact e h2.symm
      · rcases h.2 i' h2 with h3 | h3
        · exact e h3.symm
        · exact h3.2.1 rfl
    · rcases h'.2 i h1 with h3 | h3
      · exact e h3
      · rcases h'.1 with h2 | h2
        · exact h3.2.1 h2
        · rcases h.2 i' h2 with h4 | h4
          · exact e h4.symm
          · exact h3.anti h4
section
variable {ord : List Nat} {par : Nat → Nat} (D : Df W ord par [])
include D
theorem Df.inj {u v a : Nat} (hu : ord[u]? = some a) (hv : ord[v]? = some a) : u = v := by
  obtain ⟨h1, h2⟩ := List.getElem?_eq_some_iff.1 hu
  obtain ⟨h3, h4⟩ := List.getElem?_eq_some_iff.1 hv
  have h5 := D.nd
  unfold List.Nodup at h5
  rw [List.pairwise_iff_getElem] at h5
  rcases Nat.lt_trichotomy u v with h6 | h6 | h6
  · exact absurd (h2.trans h4.symm) (h5 u v h1 h3 h6)
  · exact h6
  · exact absurd (h4.trans h2.symm) (h5 v u h3 h1 h6)
theorem Df.closed {u a t : Nat} (hu : ord[u]? = some a) (ht : t ∈ W a) : ∃ v : Nat, ord[v]? = some t := by
  rcases D.i3 u a hu t ht with h | h
  · exact List.getElem?_of_mem h
  · simp at h
theorem Df.met (hw : ∀ x y, y ∈ W x → y ≠ 0) : ∀ (v : Nat) x, ord[v]? = some x → v ≠ 0 → Rv W 0 x := by
  intro v
  induction v using Nat.strongRecOn with
  | _ v ih =>
    intro x hx h0
    have hv := (List.getElem?_eq_some_iff.1 hx).1
    obtain ⟨a, b, h1, h2, h3⟩ := D.d.pe v h0 hv
    rw [hx] at h2
    cases h2
    by_cases h4 : par v = 0
    · rw [h4, D.z] at h1
      cases h1
      exact .root h3 (hw 0 x h3)
    · exact .step (ih _ (D.d.pl v h0 hv) a h1 h4) h3 (hw a x h3)
theorem Df.meets {x : Nat} (h : Rv W 0 x) : ∃ v : Nat, ord[v]? = some x := by
  induction h with
  | root hy _ => exact D.closed D.z hy
  | step _ hy _ ih =>
    obtain ⟨v, hv⟩ := ih
    exact D.closed hv hy
theorem Df.av_rv {pd d : Nat} (hd : ord[pd]? = some d) {v : Nat} (h : Av (Ed W ord) pd v) : v = 0 ∨ ∃ x, ord[v]? = some x ∧ Rv W d x := by
  induction h with
  | root => exact .inl rfl
  | @step u v _ e hne ih =>
    obtain ⟨a, b, h1, h2, h3⟩ := e
    have hbd : b ≠ d := fun e => hne (D.inj h2 (e ▸ hd))
    refine .inr ⟨b, h2, ?_⟩
    rcases ih with h4 | ⟨x, h4, h5⟩
    · rw [h4, D.z] at h1
      cases h1
      exact .root h3 hbd
    · rw [h1] at h4
      cases h4
      exact .step h5 h3 hbd
theorem Df.rv_av {pd d : Nat} (hd : ord[pd]? = some d) (h0 : pd ≠ 0) {x : Nat} (h : Rv W d x) : ∃ v : Nat, ord[v]? = some x ∧ Av (Ed W ord) pd v := by
  induction h with
  | @root y hy hne =>
    obtain ⟨v, hv⟩ := D.closed D.z hy
    refine ⟨v, hv, .step (.root h0) ⟨0, y, D.z, hv, hy⟩ (fun e => ?_)⟩
    rw [e, hd] at hv
    cases hv
    exact hne rfl
  | @step u y _ hy hne ih =>
    obtain ⟨w, hw, ha⟩ := ih
    obtain ⟨v, hv⟩ := D.closed hw hy
    refine ⟨v, hv, .step ha ⟨u, y, hw, hv, hy⟩ (fun e => ?_)⟩
    rw [e, hd] at hv
    cases hv
    exact hne rfl
theorem Df.ids (hw : ∀ x y, y ∈ W x → y ≠ 0) {S I : Nat → Nat} (H : Sem (Ed W ord) ord.length S) (K : Idm par ord.length S I) {w x i : Nat} (h0 : w ≠ 0) (hx : ord[w]? = some x) (hi : ord[I w]? = some i) : Ids W i x := by
  have hwp := (List.getElem?_eq_some_iff.1 hx).1
  obtain ⟨i1, i2, i3⟩ := D.d.idom H K w h0 hwp
  obtain ⟨s1, s2⟩ := D.d.sem_anc H h0 hwp
  have hiw : I w < w := by have := D.d.le (by omega) i1; omega
  have nz : ∀ {v a : Nat}, ord[v]? = some a → v ≠ 0 → a ≠ 0 := fun {v a} ha hv e => hv (D.inj ha (e ▸ D.z))
  have rx := D.met hw w x hx h0
  refine ⟨?_, fun d hd => ?_⟩
  · by_cases e : I w = 0
    · rw [e, D.z] at hi
      cases hi
      exact .inl rfl
    · refine .inr ⟨nz hi e, nz hx h0, fun e2 => ?_, rx, D.met hw _ i hi e, fun h => ?_⟩
      · have := D.inj hx (e2 ▸ hi); omega
      · obtain ⟨v, hv, ha⟩ := D.rv_av hi e h
        have := D.inj hv hx
        subst this
        exact i2 e ha
  · obtain ⟨pd, hpd⟩ := D.meets hd.2.2.2.2.1
    have hpd0 : pd ≠ 0 := fun e => by rw [e, D.z] at hpd; cases hpd; exact hd.1 rfl
    by_cases e : pd = I w
    · rw [e, hi] at hpd
      cases hpd
      exact .inl rfl
    · have hpw : pd ≠ w := fun e2 => by rw [e2, hx] at hpd; cases hpd; exact hd.2.2.1 rfl
      have hnw : ¬ Av (Ed W ord) pd w := fun ha => by
        rcases D.av_rv hpd ha with h1 | ⟨y, h1, h2⟩
        · exact h0 h1
        · rw [hx] at h1
          cases h1
          exact hd.2.2.2.2.2 h2
      have hni : ¬ Av (Ed W ord) pd (I w) := fun ha => hnw (i3 pd hpd0 e hpw ha)
      have hI0 : I w ≠ 0 := fun e2 => hni (by rw [e2]; exact .root hpd0)
      refine .inr ⟨hd.1, nz hi hI0, fun e2 => e (D.inj hpd (e2 ▸ hi)), D.met hw _ i hi hI0, hd.2.2.2.2.1, fun h => ?_⟩
      obtain ⟨v, hv, ha⟩ := D.rv_av hpd hpd0 h
      have := D.inj hv hi
      subst this
      exact hni ha
end
variable {W W' : Nat → List Nat} {ord : List Nat} {par : Nat → Nat}
theorem Df.nz_at (D : Df W ord par []) {v b : Nat} (h0 : v ≠ 0) (hv : ord[v]? = some b) : b ≠ 0 := fun e => h0 (D.inj hv (by rw [e]; exact D.z))
theorem Df.ed_nz (hW : ∀ x y, y ∈ W' x ↔ y ∈ W x ∧ y ≠ 0) (D : Df W ord par []) {u v : Nat} (h0 : v ≠ 0) (h : Ed W ord u v) : Ed W' ord u v := by
  obtain ⟨a, b, h1, h2, h3⟩ := h
  exact ⟨a, b, h1, h2, (hW a b).2 ⟨h3, D.nz_at h0 h2⟩⟩
theorem ed_sub (hW : ∀ x y, y ∈ W' x ↔ y ∈ W x ∧ y ≠ 0) {u v : Nat} (h : Ed W' ord u v) : Ed W ord u v := by
  obtain ⟨a, b, h1, h2, h3⟩ := h
  exact ⟨a, b, h1, h2, ((hW a b).1 h3).1⟩
theorem Df.nz (hW : ∀ x y, y ∈ W' x ↔ y ∈ W x ∧ y ≠ 0) (D : Df W ord par []) : Df W' ord par [] := by
  refine ⟨D.nd, D.z, ⟨D.d.pl, fun v h0 hv => D.ed_nz hW h0 (D.d.pe v h0 hv), fun u v e hl => D.d.fw u v (ed_sub hW e) hl, D.d.iv, fun u v e => D.d.el u v (ed_sub hW e)⟩, fun x hx => by simp at hx, D.i2, fun u a hu t ht => D.i3 u a hu t ((hW a t).1 ht).1⟩
theorem Df.sp_nz (hW : ∀ x y, y ∈ W' x ↔ y ∈ W x ∧ y ≠ 0) (D : Df W ord par []) {w v : Nat} (h0 : w ≠ 0) (h : Sp (Ed W ord) w v) : Sp (Ed W' ord) w v := by
  induction h with
  | last e => exact .last (D.ed_nz hW h0 e)
  | step e hx _ ih => exact .step (D.ed_nz hW (by omega) e) hx ih
theorem sp_sub (hW : ∀ x y, y ∈ W' x ↔ y ∈ W x ∧ y ≠ 0) {w v : Nat} (h : Sp (Ed W' ord) w v) : Sp (Ed W ord) w v := by
  induction h with
  | last e => exact .last (ed_sub hW e)
  | step e hx _ ih => exact .step (ed_sub hW e) hx ih
theorem Df.sem_nz (hW : ∀ x y, y ∈ W' x ↔ y ∈ W x ∧ y ≠ 0) (D : Df W ord par []) {S : Nat → Nat} (H : Sem (Ed W ord) ord.length S) : Sem (Ed W' ord) ord.length S :=
  ⟨fun w h0 hw => D.sp_nz hW h0 (H.sp w h0 hw), fun w h0 hw x h => H.mn w h0 hw x (sp_sub hW h)⟩
theorem Df.ids0 (hW : ∀ x y, y ∈ W' x ↔ y ∈ W x ∧ y ≠ 0) (D : Df W ord par []) {S I : Nat → Nat} (H : Sem (Ed W ord) ord.length S) (K : Idm par ord.length S I) {w x i : Nat} (h0 : w ≠ 0) (hx : ord[w]? = some x) (hi : ord[I w]? = some i) : Ids W' i x :=
  (D.nz hW).ids (fun x y h => ((hW x y).1 h).2) (D.sem_nz hW H) K h0 hx hi
theorem Df.rv_iff (hW : ∀ x y, y ∈ W' x ↔ y ∈ W x ∧ y ≠ 0) (D : Df W ord par []) {x : Nat} : Rv W' 0 x ↔ x ∈ ord ∧ x ≠ 0 := by
  constructor
  · intro h
    obtain ⟨v, hv⟩ := (D.nz hW).meets h
    refine ⟨List.mem_of_getElem? hv, ?_⟩
    cases h with
    | root _ h => exact h
    | step _ _ h => exact h
  · rintro ⟨h, h0⟩
    obtain ⟨v, hv⟩ := List.getElem?_of_mem h
    refine (D.nz hW).met (fun x y h => ((hW x y).1 h).2) v x hv (fun e => ?_)
    rw [e, D.z] at hv
    cases hv
    exact h0 rfl
def uw (f : Nat → Nat) (ins : Nat → Bool) (l : List Nat) : Nat := (l.map (fun y => if ins y = true then 0 else f y)).sum
def inw (ins : Nat → Bool) (x : Nat) : Nat → Bool := fun y => if y = x then true else ins y
theorem inw_ne {ins : Nat → Bool} {x y : Nat} (h : y ≠ x) : inw ins x y = ins y := if_neg h
theorem inw_at {ins : Nat → Bool} {x : Nat} : inw ins x x = true := if_pos rfl
theorem uw_same {f : Nat → Nat} {ins : Nat → Bool} {x : Nat} : ∀ l : List Nat, x ∉ l → uw f (inw ins x) l = uw f ins l
  | [], _ => rfl
  | y :: l, h => by
    have h1 := uw_same (f := f) (ins := ins) l (fun k => h (List.mem_cons_of_mem _ k))
    have h2 : y ≠ x := fun e => h (by rw [e]; simp)
    unfold uw at h1 ⊢
    simp only [List.map_cons, List.sum_cons, inw_ne h2, h1]
theorem uw_in {f : Nat → Nat} {ins : Nat → Bool} {x : Nat} (hx : ins x = false) : ∀ l : List Nat, l.Nodup → x ∈ l → uw f ins l = uw f (inw ins x) l + f x
  | [], _, h => by simp at h
  | y :: l, hn, h => by
    obtain ⟨n1, n2⟩ := List.nodup_cons.1 hn
    by_cases e : y = x
    · subst e
      have h1 := uw_same (f := f) (ins := ins) l n1
      unfold uw at h1 ⊢
      simp only [List.map_cons, List.sum_cons, inw_at, hx, h1]
      simp
      omega
    · have h2 := uw_in (f := f) hx l n2 ((List.mem_cons.1 h).resolve_left (fun k => e k.symm))
      unfold uw at h2 ⊢
      simp only [List.map_cons, List.sum_cons, inw_ne e]
      omega
variable {W : Nat → List Nat} {d n C : Nat} {ins : Nat → Bool} {wk : List Nat} {i : Nat}
variable {ov : Nat → Nat → Bool} {many : Nat → Nat} {x k b : Nat}
end Go.Proofs.YtkekaifiahjljaaGreatDoor.Lt
namespace Go.Proofs.YtkekaifiahjljaaGreatDoor
open Go.RowKit Go.Shelf Go.Proofs.YtkekaifiahjljaaGreatDoor.Lt
structure Fb (w : World) (b m : Nat) (f : Nat → Bool) : Prop where
  ex : ∃ cs, w.heap[b]? = some (.cells cs 4 (0, 0)) ∧ cs.size = m ∧ ∀ x, x < m → cs[x]? = some (.bool (f x))
theorem Fb.lt {w : World} {b m : Nat} {f : Nat → Bool} (h : Fb w b m f) : b < w.heap.size := by
  obtain ⟨cs, h1, -⟩ := h.ex
  exact Kg.heap_lt h1
theorem Fb.cell {w : World} {b m : Nat} {f : Nat → Bool} (h : Fb w b m f) {x : Nat} (hx : x < m) : w.cell? ⟨b, x, none⟩ = some (.bool (f x)) := by
  obtain ⟨cs, h1, -, h3⟩ := h.ex
  exact (Kg.heap_cell h1 x).trans (h3 x hx)
theorem Fb.frozen {w : World} {b m : Nat} {f : Nat → Bool} (h : Fb w b m f) (x : Nat) : w.frozen? ⟨b, x, none⟩ = false := by
  obtain ⟨cs, h1, -⟩ := h.ex
  exact Kg.heap_frozen h1 x
theorem Fb.touch {w w' : World} {b m : Nat} {f : Nat → Bool} {F : List Nat} (h : Fb w b m f) (ht : Kg.Touch F w w') (hF : b ∉ F) : Fb w' b m f := by
  obtain ⟨cs, h1, h2, h3⟩ := h.ex
  exact ⟨cs, (ht.block _ (Kg.heap_lt h1) hF).trans h1, h2, h3⟩
theorem Fb.below {w w' : World} {b m : Nat} {f : Nat → Bool} (h : Fb w b m f) (hb : Below w.heap.size w w') : Fb w' b m f := h.touch (Kg.Touch.of_below hb []) (by simp)
theorem Fb.low {w w' : World} {b m B : Nat} {f : Nat → Bool} (h : Fb w b m f) (hb : Below B w w') (hB : b < B) : Fb w' b m f := by
  obtain ⟨cs, h1, h2, h3⟩ := h.ex
  exact ⟨cs, (hb.block _ hB).trans h1, h2, h3⟩
theorem Fb.set {w : World} {b m : Nat} {f : Nat → Bool} (h : Fb w b m f) {x : Nat} (hx : x < m) (v : Bool) : Fb (w.setCell ⟨b, x, none⟩ (.bool v)) b m (fun y => if y = x then v else f y) := by
  obtain ⟨cs, h1, h2, h3⟩ := h.ex
  refine ⟨cs.setIfInBounds x (.bool v), Kg.heap_set h1 x _, by simpa using h2, fun y hy => ?_⟩
  rw [Array.getElem?_setIfInBounds]
  by_cases e : x = y
  · subst e
    rw [if_pos rfl, if_pos (by omega), if_pos rfl]
  · rw [if_neg e, if_neg (fun h => e h.symm)]
    exact h3 y hy
theorem Fb.new (w : World) (m : Nat) : Fb (w.alloc (.cells (madeCells #[.bool false] m) 4)) w.heap.size m (fun _ => false) :=
  ⟨_, heap_alloc_new w _, by simp [madeCells], fun x hx => by simp [madeCells, hx, Nat.mod_one]⟩
end Go.Proofs.YtkekaifiahjljaaGreatDoor
namespace Go.Proofs.YtkekaifiahjljaaGreatDoor.Lt
inductive Re (W : Nat → List Nat) (P : List (Nat × Nat × Nat)) (d : Nat) : Nat → Prop
  | root {y : Nat} : y ∈ W 0 → y ≠ d → Re W P d y
  | step {u y : Nat} : Re W P d u → y ∈ W u → y ≠ d → Re W P d y
  | eph {i k v : Nat} : (i, k, v) ∈ P → Re W P d i → Re W P d k → v ≠ d → Re W P d v
variable {W : Nat → List Nat} {P : List (Nat × Nat × Nat)} {d : Nat}
theorem Re.ne {y : Nat} (h : Re W P d y) : y ≠ d := by
  cases h with
  | root _ h => exact h
  | step _ _ h => exact h
  | eph _ _ _ h => exact h
theorem Re.all (hw : ∀ x y, y ∈ W x → y ≠ 0) (hp : ∀ i k v, (i, k, v) ∈ P → v ≠ 0) {y : Nat} (h : Re W P d y) : Re W P 0 y := by
  induction h with
  | root h1 _ => exact .root h1 (hw _ _ h1)
  | step _ h1 _ ih => exact .step ih h1 (hw _ _ h1)
  | eph h1 _ _ _ ih1 ih2 => exact .eph h1 ih1 ih2 (hp _ _ _ h1)
def Met (W : Nat → List Nat) (P : List (Nat × Nat × Nat)) (seq : List Nat) (j y b : Nat) : Prop :=
  (b = 0 ∧ y ∈ W 0) ∨ (b ∈ seq.take j ∧ b ≠ 0 ∧ y ∈ W b) ∨ (∃ κ, (b, κ, y) ∈ P ∧ b ∈ seq.take j ∧ κ ∈ seq.take j)
structure Rx (W : Nat → List Nat) (P : List (Nat × Nat × Nat)) (d : Nat) (seq : List Nat) (k : Nat) (by' : Nat → Nat) : Prop where
  nd : seq.Nodup
  nz : ∀ y, y ∈ seq → y ≠ 0 ∧ y ≠ d
  src : ∀ (j : Nat) y, seq[j]? = some y → Met W P seq j y (by' y)
  root : ∀ y, y ∈ W 0 → y ≠ d → y ∈ seq
  clo : ∀ u, u ∈ seq.take k → ∀ y, y ∈ W u → y ≠ d → y ∈ seq
  eph : ∀ i κ v, (i, κ, v) ∈ P → v ≠ d → i ∈ seq.take k → κ ∈ seq.take k → v ∈ seq
  le : k ≤ seq.length
structure Ry (W : Nat → List Nat) (P : List (Nat × Nat × Nat)) (d : Nat) (seq : List Nat) (by' : Nat → Nat) : Prop where
  nd : seq.Nodup
  nz : ∀ y, y ∈ seq → y ≠ 0 ∧ y ≠ d
  src : ∀ (j : Nat) y, seq[j]? = some y → Met W P seq j y (by' y)
variable {seq : List Nat} {by' : Nat → Nat}
theorem Met.mono {seq2 : List Nat} {j y b : Nat} (h : Met W P seq j y b) (hj : j ≤ seq.length) : Met W P (seq ++ seq2) j y b := by
  have e : (seq ++ seq2).take j = seq.take j := by rw [List.take_append_of_le_length hj]
  unfold Met
  rw [e]
  exact h
theorem Ry.add (h : Ry W P d seq by') {y b : Nat} (hy : y ∉ seq) (h0 : y ≠ 0) (hd : y ≠ d) (hm : (b = 0 ∧ y ∈ W 0) ∨ (b ∈ seq ∧ b ≠ 0 ∧ y ∈ W b) ∨ (∃ κ, (b, κ, y) ∈ P ∧ b ∈ seq ∧ κ ∈ seq)) : Ry W P d (seq ++ [y]) (fun x => if x = y then b else by' x) := by
  refine ⟨?_, fun x hx => ?_, fun j x hx => ?_⟩
  · rw [List.nodup_append]
    exact ⟨h.nd, by simp, fun a ha c hc => by rw [List.mem_singleton.1 hc]; exact fun e => hy (by rw [← e]; exact ha)⟩
  · rcases List.mem_append.1 hx with h1 | h1
    · exact h.nz x h1
    · rw [List.mem_singleton.1 h1]; exact ⟨h0, hd⟩
  · rcases Nat.lt_or_ge j seq.length with h1 | h1
    · rw [List.getElem?_append_left h1] at hx
      have hne : x ≠ y := fun e => hy (by rw [← e]; exact List.mem_of_getElem? hx)
      show Met W P (seq ++ [y]) j x (if x = y then b else by' x)
      rw [if_neg hne]
      exact (h.src j x hx).mono (by omega)
    · rw [List.getElem?_append_right h1] at hx
      have h2 := (List.getElem?_eq_some_iff.1 hx).1
      simp at h2
      have h3 : j = seq.length := by omega
      subst h3
      simp at hx
      subst hx
      show Met W P (seq ++ [y]) seq.length y (if y = y then b else by' y)
      rw [if_pos rfl]
      have e : (seq ++ [y]).take seq.length = seq := by rw [List.take_append_of_le_length (Nat.le_refl _), List.take_length]
      unfold Met
      rw [e]
      exact hm
theorem Rx.ry {k : Nat} (h : Rx W P d seq k by') : Ry W P d seq by' := ⟨h.nd, h.nz, h.src⟩
theorem Ry.start (h : Ry W P d seq by') (hr : ∀ y, y ∈ W 0 → y ≠ d → y ∈ seq) : Rx W P d seq 0 by' :=
  ⟨h.nd, h.nz, h.src, hr, fun u hu => by simp at hu, fun i κ v _ _ hi => by simp at hi, Nat.zero_le _⟩
theorem Rx.next {k u : Nat} {seq2 : List Nat} {by2 : Nat → Nat} (h : Rx W P d seq k by') (hu : seq[k]? = some u) (h2 : Ry W P d (seq ++ seq2) by2) (hw : ∀ y, y ∈ W u → y ≠ d → y ∈ seq ++ seq2) (he : ∀ i κ v, (i, κ, v) ∈ P → v ≠ d → i = u ∨ κ = u → i ∈ seq.take (k + 1) → κ ∈ seq.take (k + 1) → v ∈ seq ++ seq2) : Rx W P d (seq ++ seq2) (k + 1) by2 := by
  have hk := (List.getElem?_eq_some_iff.1 hu).1
  have et : (seq ++ seq2).take (k + 1) = seq.take k ++ [u] := by rw [List.take_append_of_le_length (by omega), List.take_add_one, hu]; rfl
  have et2 : seq.take (k + 1) = seq.take k ++ [u] := by rw [List.take_add_one, hu]; rfl
  refine ⟨h2.nd, h2.nz, h2.src, fun y h1 h3 => List.mem_append_left _ (h.root y h1 h3), fun x hx y hy hd => ?_, fun i κ v hp hv hi hκ => ?_, by rw [List.length_append]; omega⟩
  · rw [et] at hx
    rcases List.mem_append.1 hx with h1 | h1
    · exact List.mem_append_left _ (h.clo x h1 y hy hd)
    · rw [List.mem_singleton.1 h1] at hy
      exact hw y hy hd
  · rw [et] at hi hκ
    by_cases e : i = u ∨ κ = u
    · exact he i κ v hp hv e (by rw [et2]; exact hi) (by rw [et2]; exact hκ)
    · have h1 : i ∈ seq.take k := (List.mem_append.1 hi).resolve_right (fun h1 => e (.inl (List.mem_singleton.1 h1)))
      have h3 : κ ∈ seq.take k := (List.mem_append.1 hκ).resolve_right (fun h1 => e (.inr (List.mem_singleton.1 h1)))
      exact List.mem_append_left _ (h.eph i κ v hp hv h1 h3)
theorem Rx.done (h : Rx W P d seq seq.length by') (y : Nat) : y ∈ seq ↔ Re W P d y := by
  constructor
  · intro hy
    obtain ⟨j, hj⟩ := List.getElem?_of_mem hy
    clear hy
    induction j using Nat.strongRecOn generalizing y with
    | _ j ih =>
      have hm := List.mem_of_getElem? hj
      have tk : ∀ x, x ∈ seq.take j → Re W P d x := fun x hx => by
        obtain ⟨i, hi⟩ := List.getElem?_of_mem hx
        rw [List.getElem?_take] at hi
        by_cases e : i < j
        · rw [if_pos e] at hi; exact ih i e x hi
        · rw [if_neg e] at hi; cases hi
      rcases h.src j y hj with ⟨-, h1⟩ | ⟨h1, h2, h3⟩ | ⟨κ, h1, h2, h3⟩
      · exact .root h1 (h.nz y hm).2
      · exact .step (tk _ h1) h3 (h.nz y hm).2
      · exact .eph h1 (tk _ h2) (tk _ h3) (h.nz y hm).2
  · intro hr
    induction hr with
    | root h1 h2 => exact h.root _ h1 h2
    | step _ h1 h2 ih => exact h.clo _ (by rw [List.take_length]; exact ih) _ h1 h2
    | eph h1 _ _ h2 ih1 ih2 => exact h.eph _ _ _ h1 h2 (by rw [List.take_length]; exact ih1) (by rw [List.take_length]; exact ih2)
structure Nd (P : List (Nat × Nat × Nat)) (seq : List Nat) (by' : Nat → Nat) (N : List Nat) : Prop where
  i : ∀ x, x ∈ N → x ∈ seq
  c : ∀ x, x ∈ N → by' x ≠ 0 → by' x ∈ N
  p : ∀ i κ v, (i, κ, v) ∈ P → i ∈ seq → κ ∈ seq → i ∈ N ∧ κ ∈ N
theorem Rx.needed (h : Rx W P 0 seq seq.length by') {N : List Nat} (hN : Nd P seq by' N) {n : Nat} (hn : n ∉ N) : ∀ x, x ∈ N → Re W P n x := by
  have key : ∀ (j : Nat) x, seq[j]? = some x → x ∈ N → Re W P n x := by
    intro j
    induction j using Nat.strongRecOn with
    | _ j ih =>
      intro x hx hxN
      have hne : x ≠ n := fun e => hn (by rw [← e]; exact hxN)
      have tk : ∀ y, y ∈ seq.take j → y ∈ N → Re W P n y := fun y hy hyN => by
        obtain ⟨i, hi⟩ := List.getElem?_of_mem hy
        rw [List.getElem?_take] at hi
        by_cases e : i < j
        · rw [if_pos e] at hi; exact ih i e y hi hyN
        · rw [if_neg e] at hi; cases hi
      rcases h.src j x hx with ⟨-, h1⟩ | ⟨h1, h2, h3⟩ | ⟨κ, h1, h2, h3⟩
      · exact .root h1 hne
      · exact .step (tk _ h1 (hN.c x hxN h2)) h3 hne
      · obtain ⟨p1, p2⟩ := hN.p _ _ _ h1 (List.mem_of_mem_take h2) (List.mem_of_mem_take h3)
        exact .eph h1 (tk _ h2 p1) (tk _ h3 p2) hne
  intro x hx
  obtain ⟨j, hj⟩ := List.getElem?_of_mem (hN.i x hx)
  exact key j x hj hx
def wwith (W : Nat → List Nat) (H : List (Nat × Nat × Nat)) (x : Nat) : List Nat := if x = 0 then W 0 ++ H.map (fun e => e.2.2) else W x
theorem Rx.rv_iff (h : Rx W P 0 seq seq.length by') {H : List (Nat × Nat × Nat)} {N : List Nat} (hH : ∀ e, e ∈ H ↔ e ∈ P ∧ e.1 ∈ seq ∧ e.2.1 ∈ seq) (hw : ∀ x y, y ∈ W x → y ≠ 0) (hp : ∀ i k v, (i, k, v) ∈ P → v ≠ 0) (hN : Nd P seq by' N) {n : Nat} (hn : n ∉ N) (x : Nat) : Rv (wwith W H) n x ↔ Re W P n x := by
  constructor
  · intro hx
    induction hx with
    | @root y h1 h2 =>
      unfold wwith at h1
      rw [if_pos rfl] at h1
      rcases List.mem_append.1 h1 with h3 | h3
      · exact .root h3 h2
      · obtain ⟨⟨i, κ, v⟩, h4, rfl⟩ := List.mem_map.1 h3
        obtain ⟨h5, h6, h7⟩ := (hH _).1 h4
        obtain ⟨p1, p2⟩ := hN.p i κ v h5 h6 h7
        exact .eph h5 (h.needed hN hn i p1) (h.needed hN hn κ p2) h2
    | @step u y hu h1 h2 ih =>
      by_cases e : u = 0
      · have h3 := h.done u
        have h4 := (h3.2 (ih.all hw hp))
        exact absurd e (h.nz u h4).1
      · unfold wwith at h1
        rw [if_neg e] at h1
        exact .step ih h1 h2
  · intro hx
    induction hx with
    | @root y h1 h2 => exact .root (by unfold wwith; rw [if_pos rfl]; exact List.mem_append_left _ h1) h2
    | @step u y hu h1 h2 ih =>
      have h4 := ((h.done u).2 (hu.all hw hp))
      exact .step ih (by unfold wwith; rw [if_neg (h.nz u h4).1]; exact h1) h2
    | @eph i κ v h1 hi hk h2 _ _ =>
      have h4 := ((h.done i).2 (hi.all hw hp))
      have h5 := ((h.done κ).2 (hk.all hw hp))
      refine .root ?_ h2
      unfold wwith
      rw [if_pos rfl]
      exact List.mem_append_right _ (List.mem_map.2 ⟨(i, κ, v), (hH _).2 ⟨h1, h4, h5⟩, rfl⟩)
end Go.Proofs.YtkekaifiahjljaaGreatDoor.Lt
