import Derived.Test.YtkekaifiahjljaaGreatDoorT27
import Derived.Test.YtkekaifiahjljaaGreatDoorT13
import Derived.Test.YtkekaifiahjljaaGreatDoorT14
set_option linter.unusedVariables false
set_option maxHeartbeats 8000000
set_option maxRecDepth 20000
namespace Go.Proofs.YtkekaifiahjljaaGreatDoor
open Go.RowKit Go.Shelf Go.Proofs.YtkekaifiahjljaaGreatDoor.Lt
def Dm17 (g : Im.Gr) (l : List Int) : Prop := l.length = g.obs.length ∧ ∀ (i : Nat) z, l[i]? = some z → (Rv (wy17 g) 0 (i + 1) ∧ ∃ b : Nat, z = b ∧ Ids (wy17 g) b (i + 1)) ∨ (¬ Rv (wy17 g) 0 (i + 1) ∧ z = -1)
theorem Dm17.uniq {g : Im.Gr} {l l' : List Int} (h : Dm17 g l) (h' : Dm17 g l') : l = l' := by
  refine List.ext_getElem? (fun i => ?_)
  rcases Nat.lt_or_ge i l.length with h1 | h1
  · have h2 : i < l'.length := by have := h.1; have := h'.1; omega
    obtain ⟨z, hz⟩ : ∃ z, l[i]? = some z := ⟨_, List.getElem?_eq_getElem h1⟩
    obtain ⟨z', hz'⟩ : ∃ z, l'[i]? = some z := ⟨_, List.getElem?_eq_getElem h2⟩
    rw [hz, hz']
    congr 1
    rcases h.2 i z hz with ⟨a1, b, rfl, a2⟩ | ⟨a1, a2⟩ <;> rcases h'.2 i z' hz' with ⟨c1, b', rfl, c2⟩ | ⟨c1, c2⟩
    · rw [a2.uniq c2]
    · exact absurd a1 c1
    · exact absurd c1 a1
    · rw [a2, c2]
  · rw [List.getElem?_eq_none h1, List.getElem?_eq_none (by have := h.1; have := h'.1; omega)]
def Pd17 (g : Im.Gr) (l : List Int) (e : Int) : Prop := (¬ MB g ∧ l = [] ∧ e = 171) ∨ (MB g ∧ e = 0 ∧ Dm17 g l)
theorem Pd17.uniq {g : Im.Gr} {l l' : List Int} {e e' : Int} (h : Pd17 g l e) (h' : Pd17 g l' e') : l = l' ∧ e = e' := by
  rcases h with ⟨h1, h2, h3⟩ | ⟨h1, h2, h3⟩ <;> rcases h' with ⟨k1, k2, k3⟩ | ⟨k1, k2, k3⟩
  · exact ⟨h2.trans k2.symm, h3.trans k3.symm⟩
  · exact absurd k1 h1
  · exact absurd h1 k1
  · exact ⟨h3.uniq k3, h2.trans k2.symm⟩
theorem Tre.dm {g : Im.Gr} (hm : MB g) {m : Nat} (hmm : m = g.obs.length + 1) {ord : List Nat} {f : Nat → Int} (h : Tre (wz17 g) m ord f) : Dm17 g ((List.range' 1 g.obs.length).map f) := by
  obtain ⟨par, S, I, hD, hS, hI, hI0, hf⟩ := h.d
  refine ⟨by simp, fun i z hz => ?_⟩
  rw [List.getElem?_map] at hz
  have hi : i < g.obs.length := by
    rcases Nat.lt_or_ge i g.obs.length with h1 | h1
    · exact h1
    · rw [List.getElem?_eq_none (by simpa using h1)] at hz; cases hz
  rw [List.getElem?_range' hi] at hz
  simp only [Option.map_some, Option.some.injEq] at hz
  have e1 : 1 + 1 * i = i + 1 := by omega
  rw [e1] at hz
  have hiff := hD.rv_iff (fun x y => wy_wz hm x y) (x := i + 1)
  by_cases ho : i + 1 ∈ ord
  · obtain ⟨v, hv⟩ := List.getElem?_of_mem ho
    have h0 : v ≠ 0 := fun e => by rw [e, hD.z] at hv; cases hv
    have hvl := (List.getElem?_eq_some_iff.1 hv).1
    have h9 : I v < ord.length := by
      have h1 := (hD.d.idom hS hI v h0 hvl).1
      obtain ⟨h2, -⟩ := hD.d.sem_anc hS h0 hvl
      have h3 := hD.d.le (by omega) h1
      omega
    have hid : ord[I v]? = some (ord[I v]'h9) := List.getElem?_eq_getElem h9
    refine .inl ⟨hiff.2 ⟨ho, by omega⟩, _, hz.symm.trans (hf v _ _ hv hid), ?_⟩
    exact Df.ids0 (fun x y => wy_wz hm x y) hD hS hI h0 hv hid
  · exact .inr ⟨fun hr => ho (hiff.1 hr).1, hz.symm.trans (h.n _ ho)⟩
end Go.Proofs.YtkekaifiahjljaaGreatDoor
namespace Go.Proofs.YtkekaifiahjljaaGreatDoor.Lt
theorem Rv.ne {W : Nat → List Nat} {d x : Nat} (h : Rv W d x) : x ≠ d := by
  cases h with
  | root _ h => exact h
  | step _ _ h => exact h
theorem Rv.all {W : Nat → List Nat} {d x : Nat} (hw : ∀ x y, y ∈ W x → y ≠ 0) (h : Rv W d x) : Rv W 0 x := by
  induction h with
  | root h1 _ => exact .root h1 (hw _ _ h1)
  | step _ h1 _ ih => exact .step ih h1 (hw _ _ h1)
theorem re_rv {W : Nat → List Nat} {P : List (Nat × Nat × Nat)} (hw : ∀ x y, y ∈ W x → y ≠ 0) (hp : ∀ i k v, (i, k, v) ∈ P → v ≠ 0) (h : ∀ i k v, (i, k, v) ∈ P → ¬ Re W P 0 i) (d x : Nat) : Re W P d x ↔ Rv W d x := by
  constructor
  · intro hr
    induction hr with
    | root h1 h2 => exact .root h1 h2
    | step _ h1 h2 ih => exact .step ih h1 h2
    | eph h1 h2 _ _ _ _ => exact absurd (h2.all hw hp) (h _ _ _ h1)
  · intro hr
    induction hr with
    | root h1 h2 => exact .root h1 h2
    | step _ h1 h2 ih => exact .step ih h1 h2
def Dmb (W : Nat → List Nat) (x y : Nat) : Prop := y = x ∨ Ov W x y
theorem dmb_iff {W : Nat → List Nat} {x y : Nat} (hx : Rv W 0 x) : (Rv W 0 y ∧ ¬ Rv W x y) ↔ Dmb W x y := by
  constructor
  · rintro ⟨h1, h2⟩
    by_cases e : y = x
    · exact .inl e
    · exact .inr ⟨hx.ne, h1.ne, e, h1, hx, h2⟩
  · rintro (h | h)
    · exact ⟨by rw [h]; exact hx, fun k => k.ne h⟩
    · exact ⟨h.2.2.2.1, h.2.2.2.2.2⟩
noncomputable def wt (w : Nat → Nat) (W : Nat → List Nat) (k x : Nat) : Nat := sm w (fun y => Rv W 0 y ∧ Dmb W x y) (List.range' 1 k)
theorem wt_zero (w : Nat → Nat) (W : Nat → List Nat) (x : Nat) : wt w W 0 x = 0 := rfl
theorem sm_snoc (w : Nat → Nat) (p : Nat → Prop) (l : List Nat) (y : Nat) : sm w p (l ++ [y]) = sm w p l + @ite _ (p y) (Classical.propDecidable _) (w y) 0 := by
  unfold sm
  rw [List.map_append, List.sum_append]
  simp
theorem wt_yes {w : Nat → Nat} {W : Nat → List Nat} {k x : Nat} (h : Rv W 0 (k + 1) ∧ Dmb W x (k + 1)) : wt w W (k + 1) x = wt w W k x + w (k + 1) := by
  have e : List.range' 1 (k + 1) = List.range' 1 k ++ [k + 1] := by rw [List.range'_1_concat]; congr 2; omega
  unfold wt
  rw [e, sm_snoc, if_pos h]
theorem wt_no {w : Nat → Nat} {W : Nat → List Nat} {k x : Nat} (h : ¬ (Rv W 0 (k + 1) ∧ Dmb W x (k + 1))) : wt w W (k + 1) x = wt w W k x := by
  have e : List.range' 1 (k + 1) = List.range' 1 k ++ [k + 1] := by rw [List.range'_1_concat]; congr 2; omega
  unfold wt
  rw [e, sm_snoc, if_neg h, Nat.add_zero]
theorem sm_ge {w : Nat → Nat} {p : Nat → Prop} {y : Nat} (hp : p y) : ∀ l : List Nat, y ∈ l → w y ≤ sm w p l
  | [], h => by simp at h
  | x :: l, h => by
    rcases List.mem_cons.1 h with e | h1
    · subst e
      rw [sm_yes l hp]
      omega
    · have ih := sm_ge (w := w) hp l h1
      rw [sm_cons]
      omega
theorem wt_le (w : Nat → Nat) (W : Nat → List Nat) (k x c : Nat) (hc : ∀ y, w y ≤ c) : wt w W k x ≤ k * c := by
  induction k with
  | zero => exact Nat.zero_le _
  | succ k ih =>
    have h := hc (k + 1)
    rw [Nat.succ_mul]
    by_cases e : Rv W 0 (k + 1) ∧ Dmb W x (k + 1)
    · rw [wt_yes e]; omega
    · rw [wt_no e]; omega
section
variable {W : Nat → List Nat} {P : List (Nat × Nat × Nat)} {M : Nat} {w : Nat → Nat}
theorem wt_yes_rs (hw : ∀ x y, y ∈ W x → y ≠ 0) (hp : ∀ i k v, (i, k, v) ∈ P → v ≠ 0) (h : ∀ i k v, (i, k, v) ∈ P → ¬ Re W P 0 i) {x : Nat} (hx : Re W P 0 x) : wt w W M x + rs w W P M x = rs w W P M 0 := by
  have hx' := (re_rv hw hp h 0 x).1 hx
  have e0 : rs w W P M 0 = sm w (Rv W 0) (List.range' 1 M) := sm_congr _ (fun y _ => re_rv hw hp h 0 y)
  have e1 : rs w W P M x = sm w (Rv W x) (List.range' 1 M) := sm_congr _ (fun y _ => re_rv hw hp h x y)
  rw [e0, e1, sm_and (p := Rv W 0) (q := Rv W x) _ (fun y hy => hy.all hw), Nat.add_comm]
  congr 1
  unfold wt
  refine sm_congr _ (fun y _ => ?_)
  rw [dmb_iff hx']
  constructor
  · exact fun h => h.2
  · exact fun h => ⟨((dmb_iff hx').2 h).1, h⟩
theorem wt_none {x : Nat} (hx : ¬ Rv W 0 x) : wt w W M x = 0 := by
  unfold wt
  refine sm_false _ (fun y _ => ?_)
  rintro ⟨h1, h2 | h2⟩
  · rw [h2] at h1; exact hx h1
  · exact hx h2.2.2.2.2.1
theorem wt_lt {b x : Nat} (hb : Ov W b x) (hM : 1 ≤ b ∧ b ≤ M) : wt w W M x + w b ≤ wt w W M b := by
  unfold wt
  rw [sm_and (p := fun y => Rv W 0 y ∧ Dmb W b y) (q := fun y => Rv W 0 y ∧ Dmb W x y) (List.range' 1 M) (fun y hy => ⟨hy.1, ?_⟩)]
  · have h1 := sm_ge (w := w) (p := fun y => (Rv W 0 y ∧ Dmb W b y) ∧ ¬ (Rv W 0 y ∧ Dmb W x y)) (y := b) ⟨⟨hb.2.2.2.2.1, .inl rfl⟩, fun h => by
      rcases h.2 with h2 | h2
      · exact hb.2.2.1 h2.symm
      · exact hb.anti h2⟩ (List.range' 1 M) (List.mem_range'_1.2 ⟨hM.1, by omega⟩)
    omega
  · rcases hy.2 with h2 | h2
    · rw [h2]; exact .inr hb
    · exact .inr (hb.trans h2)
structure Cn (W : Nat → List Nat) (M i at' : Nat) (ps : List Nat) : Prop where
  nd : ps.Nodup
  in_ : ∀ x, x ∈ ps → (1 ≤ x ∧ x ≤ M) ∧ Dmb W x i
  all : ∀ x, Dmb W x i → x ∈ ps ∨ (at' ≠ 0 ∧ Dmb W x at')
  at_ : at' = 0 ∨ ((1 ≤ at' ∧ at' ≤ M) ∧ Dmb W at' i)
  up : at' ≠ 0 → ∀ x, x ∈ ps → Ov W at' x
theorem Cn.start {i : Nat} (h : 1 ≤ i ∧ i ≤ M) : Cn W M i i [] :=
  ⟨List.nodup_nil, fun x hx => (by cases hx), fun x hx => .inr ⟨by omega, hx⟩, .inr ⟨h, .inl rfl⟩, fun _ x hx => (by cases hx)⟩
theorem Cn.step {i a b : Nat} {ps : List Nat} (h : Cn W M i a ps) (h0 : a ≠ 0) (hb : Ids W b a) (hM : ∀ x, Rv W 0 x → 1 ≤ x ∧ x ≤ M) : Cn W M i b (ps ++ [a]) := by
  obtain ⟨ha1, ha2⟩ := h.at_.resolve_left h0
  have hbo : b = 0 ∨ Ov W b a := hb.1
  refine ⟨?_, fun x hx => ?_, fun x hx => ?_, ?_, fun hb0 x hx => ?_⟩
  · rw [List.nodup_append]
    refine ⟨h.nd, by simp, fun x hx y hy => ?_⟩
    rw [List.mem_singleton.1 hy]
    intro e
    exact (h.up h0 x hx).2.2.1 e
  · rcases List.mem_append.1 hx with h1 | h1
    · exact h.in_ x h1
    · rw [List.mem_singleton.1 h1]
      exact ⟨ha1, ha2⟩
  · rcases h.all x hx with h1 | ⟨-, h1⟩
    · exact .inl (List.mem_append_left _ h1)
    · rcases h1 with h1 | h1
      · exact .inl (by rw [h1]; simp)
      · rcases hb.2 x h1 with h2 | h2
        · have : b ≠ 0 := fun e => h1.1 (h2.trans e)
          exact .inr ⟨this, .inl h2.symm⟩
        · exact .inr ⟨h2.2.1, .inr h2⟩
  · rcases hbo with h1 | h1
    · exact .inl h1
    · refine .inr ⟨hM b h1.2.2.2.2.1, .inr ?_⟩
      rcases ha2 with h2 | h2
      · rw [h2]; exact h1
      · exact h1.trans h2
  · have h1 := hbo.resolve_left hb0
    rcases List.mem_append.1 hx with h2 | h2
    · exact h1.trans (h.up h0 x h2)
    · rw [List.mem_singleton.1 h2]
      exact h1
theorem Cn.len {i a : Nat} {ps : List Nat} (h : Cn W M i a ps) : ps.length ≤ M := by
  have h1 := List.Nodup.length_le_of_subset h.nd (l₂ := List.range' 1 M) (fun x hx => List.mem_range'_1.2 ⟨(h.in_ x hx).1.1, by have := (h.in_ x hx).1.2; omega⟩)
  rw [List.length_range'] at h1
  exact h1
theorem Cn.not {i a : Nat} {ps : List Nat} (h : Cn W M i a ps) (h0 : a ≠ 0) : a ∉ ps := fun ha => (h.up h0 a ha).2.2.1 rfl
theorem Cn.ends {i : Nat} {ps : List Nat} (h : Cn W M i 0 ps) (x : Nat) : x ∈ ps ↔ Dmb W x i :=
  ⟨fun hx => (h.in_ x hx).2, fun hx => (h.all x hx).resolve_right (fun k => k.1 rfl)⟩
end
end Go.Proofs.YtkekaifiahjljaaGreatDoor.Lt
namespace Go.Proofs.YtkekaifiahjljaaGreatDoor
open Go.RowKit Go.Shelf Go.Proofs.YtkekaifiahjljaaGreatDoor.Lt
theorem pe_mem {g : Im.Gr} {e : Nat × Nat × Nat} : e ∈ pe17 g ↔ ∃ i o, g.obs[i]? = some o ∧ oe17 o i = some e := by
  unfold pe17 pk17
  rw [List.mem_filterMap]
  constructor
  · rintro ⟨i, hi, h⟩
    cases ho : g.obs[i]? with
    | none => rw [ho] at h; cases h
    | some o => rw [ho, Option.bind_some] at h; exact ⟨i, o, ho, h⟩
  · rintro ⟨i, o, h1, h2⟩
    exact ⟨i, List.mem_range.2 (List.getElem?_eq_some_iff.1 h1).1, by rw [h1, Option.bind_some]; exact h2⟩
structure Ok17 (g : Im.Gr) : Prop where
  p : ∀ o, o ∈ g.obs → ∀ z, z ∈ o.ps → 0 ≤ z ∧ z ≤ g.obs.length
  r : ∀ z, z ∈ slotsF g.slots ++ (g.hs ++ g.qu) → z ≤ g.obs.length
  e : ∀ o, o ∈ g.obs → o.kind = 3 → 2 ≤ o.ps.length
theorem pe_at {g : Im.Gr} (hk : Ok17 g) {k : Nat} {o : Im.Ob} (ho : g.obs[k]? = some o) (κ v : Nat) : (k + 1, κ, v) ∈ pe17 g ↔ o.kind = 3 ∧ o.ps[0]? = some (κ : Int) ∧ o.ps[1]? = some (v : Int) ∧ κ ≠ 0 ∧ v ≠ 0 := by
  rw [pe_mem]
  constructor
  · rintro ⟨i, o', h1, h2⟩
    have h3 := (oe_iff (e := (k + 1, κ, v)) (fun z hz => (hk.p o' (List.mem_of_getElem? h1) z hz).1)).1 h2
    obtain ⟨a, b, c, d, e, f⟩ := h3
    have : i = k := by simp only at b; omega
    subst this
    rw [ho] at h1
    cases h1
    exact ⟨a, c, d, e, f⟩
  · rintro ⟨a, c, d, e, f⟩
    exact ⟨k, o, ho, (oe_iff (fun z hz => (hk.p o (List.mem_of_getElem? ho) z hz).1)).2 ⟨a, rfl, c, d, e, f⟩⟩
theorem wy_at {g : Im.Gr} {k : Nat} {o : Im.Ob} (ho : g.obs[k]? = some o) : wy17 g (k + 1) = (stg o).map Int.toNat := by
  simp only [wy17, ho]
theorem wy_rt {g : Im.Gr} {y : Nat} : y ∈ wy17 g 0 ↔ (y : Int) ∈ slotsF g.slots ++ (g.hs ++ g.qu) ∧ y ≠ 0 := by
  show y ∈ (rtl g).map Int.toNat ↔ _
  unfold rtl
  rw [List.append_assoc, List.mem_map]
  constructor
  · rintro ⟨z, hz, rfl⟩
    obtain ⟨h1, h2⟩ := List.mem_filter.1 hz
    have h3 := of_decide_eq_true h2
    have e : ((z.toNat : Nat) : Int) = z := Int.toNat_of_nonneg (by omega)
    rw [e]
    exact ⟨h1, by omega⟩
  · rintro ⟨h1, h2⟩
    exact ⟨(y : Int), List.mem_filter.2 ⟨h1, decide_eq_true (by omega)⟩, by simp⟩
theorem stg_pos {o : Im.Ob} {z : Int} (h : z ∈ stg o) : 0 < z ∧ z ∈ o.ps := by
  unfold stg at h
  obtain ⟨h1, h2⟩ := List.mem_filter.1 h
  exact ⟨of_decide_eq_true h2, List.mem_of_mem_drop h1⟩
theorem wy_stg {g : Im.Gr} {k y : Nat} {o : Im.Ob} (ho : g.obs[k]? = some o) : y ∈ wy17 g (k + 1) ↔ (y : Int) ∈ stg o := by
  rw [wy_at ho, List.mem_map]
  constructor
  · rintro ⟨z, hz, rfl⟩
    have e : ((z.toNat : Nat) : Int) = z := Int.toNat_of_nonneg (by have := (stg_pos hz).1; omega)
    rw [e]
    exact hz
  · intro h
    exact ⟨(y : Int), h, by simp⟩
structure Lw (g : Im.Gr) (L : List Int) (ins : Nat → Bool) (i : Nat) : Prop where
  a : ∀ z, z ∈ L → z ≤ g.obs.length ∧ (0 < z → Re (wy17 g) (pe17 g) 0 z.toNat)
  s : ∀ x, ins x = true → Re (wy17 g) (pe17 g) 0 x
  b : ∀ (j : Nat) z, j < i → L[j]? = some z → 0 < z → ins z.toNat = true
  r : ∀ z, z ∈ slotsF g.slots ++ (g.hs ++ g.qu) → z ∈ L
  w : ∀ x, ins x = true → ∀ y, y ∈ wy17 g x → (y : Int) ∈ L
  e : ∀ i κ v, (i, κ, v) ∈ pe17 g → ins i = true → ins κ = true → (v : Int) ∈ L
  il : i ≤ L.length
structure Lv (g : Im.Gr) (L : List Int) (ins : Nat → Bool) (i n k : Nat) : Prop where
  a : ∀ z, z ∈ L → z ≤ g.obs.length ∧ (0 < z → Re (wy17 g) (pe17 g) 0 z.toNat)
  s : ∀ x, ins x = true → Re (wy17 g) (pe17 g) 0 x
  b : ∀ (j : Nat) z, j < i → L[j]? = some z → 0 < z → ins z.toNat = true
  r : ∀ z, z ∈ slotsF g.slots ++ (g.hs ++ g.qu) → z ∈ L
  w : ∀ x, ins x = true → ∀ y, y ∈ wy17 g x → (y : Int) ∈ L
  e : ∀ i κ v, (i, κ, v) ∈ pe17 g → ins i = true → ins κ = true → (v : Int) ∈ L ∨ ((i = n ∨ κ = n) ∧ k ≤ i)
  il : i ≤ L.length
section
variable {g : Im.Gr} {L : List Int} {ins : Nat → Bool} {i n k : Nat}
theorem wy_nz (g : Im.Gr) : ∀ x y, y ∈ wy17 g x → y ≠ 0 := fun x y hy => by
  cases x with
  | zero => exact (wy_rt.1 hy).2
  | succ x =>
    cases ho : g.obs[x]? with
    | none => simp [wy17, ho] at hy
    | some o =>
      have := (stg_pos ((wy_stg ho).1 hy)).1
      omega
theorem pe_nz (hk : Ok17 g) : ∀ i κ v, (i, κ, v) ∈ pe17 g → v ≠ 0 := fun i κ v h => by
  obtain ⟨j, o, h1, h2⟩ := pe_mem.1 h
  exact ((oe_iff (fun z hz => (hk.p o (List.mem_of_getElem? h1) z hz).1)).1 h2).2.2.2.2.2
theorem Lw.start (hk : Ok17 g) : Lw g (slotsF g.slots ++ (g.hs ++ g.qu)) (fun _ => false) 0 :=
  ⟨fun z hz => ⟨hk.r z hz, fun h => .root (wy_rt.2 ⟨by rw [Int.toNat_of_nonneg (by omega)]; exact hz, by omega⟩) (by omega)⟩, fun _ h => (by cases h), fun j z h => (by omega), fun z hz => hz, fun _ h => (by cases h), fun _ _ _ _ h => (by cases h), Nat.zero_le _⟩
theorem Lw.skip (h : Lw g L ins i) {z : Int} (hz : L[i]? = some z) (hi : z ≤ 0 ∨ ins z.toNat = true) : Lw g L ins (i + 1) := by
  refine ⟨h.a, h.s, fun j y hj hy h0 => ?_, h.r, h.w, h.e, (List.getElem?_eq_some_iff.1 hz).1⟩
  by_cases e : j = i
  · rw [e, hz] at hy
    cases hy
    rcases hi with h1 | h1
    · omega
    · exact h1
  · exact h.b j y (by omega) hy h0
theorem Lw.new (hk : Ok17 g) (h : Lw g L ins i) {x : Nat} {o : Im.Ob} (hz : L[i]? = some ((x + 1 : Nat) : Int)) (ho : g.obs[x]? = some o) (hi : ins (x + 1) = false) : Lv g (L ++ stg o) (inw ins (x + 1)) (i + 1) (x + 1) 1 := by
  have hr : Re (wy17 g) (pe17 g) 0 (x + 1) := (h.a _ (List.mem_of_getElem? hz)).2 (by omega)
  have hil := (List.getElem?_eq_some_iff.1 hz).1
  refine ⟨fun z h1 => ?_, fun y h1 => ?_, fun j y hj hy h0 => ?_, fun z h1 => List.mem_append_left _ (h.r z h1), fun y h1 u hu => ?_, fun i κ v h1 h2 h3 => ?_, by rw [List.length_append]; omega⟩
  · rcases List.mem_append.1 h1 with h2 | h2
    · exact h.a z h2
    · have h3 := stg_pos h2
      refine ⟨(hk.p o (List.mem_of_getElem? ho) z h3.2).2, fun _ => .step hr ((wy_stg ho).2 ?_) (by omega)⟩
      rw [Int.toNat_of_nonneg (by omega)]
      exact h2
  · by_cases e : y = x + 1
    · rw [e]; exact hr
    · rw [inw_ne e] at h1; exact h.s y h1
  · have hjl : j < L.length := by omega
    rw [List.getElem?_append_left hjl] at hy
    by_cases e : y.toNat = x + 1
    · rw [e]; exact inw_at
    · rw [inw_ne e]
      refine h.b j y ?_ hy h0
      rcases Nat.lt_or_ge j i with h1 | h1
      · exact h1
      · exfalso
        have h2 : j = i := by omega
        rw [h2, hz] at hy
        cases hy
        exact e (by simp)
  · by_cases e : y = x + 1
    · rw [e] at hu
      exact List.mem_append_right _ ((wy_stg ho).1 hu)
    · rw [inw_ne e] at h1
      exact List.mem_append_left _ (h.w y h1 u hu)
  · by_cases e1 : i = x + 1
    · refine .inr ⟨.inl e1, by omega⟩
    · by_cases e2 : κ = x + 1
      · refine .inr ⟨.inr e2, ?_⟩
        obtain ⟨j, o', a1, a2⟩ := pe_mem.1 h1
        have a3 := ((oe_iff (fun z hz => (hk.p o' (List.mem_of_getElem? a1) z hz).1)).1 a2).2.1
        simp only at a3
        omega
      · rw [inw_ne e1] at h2
        rw [inw_ne e2] at h3
        exact .inl (List.mem_append_left _ (h.e i κ v h1 h2 h3))
theorem Lv.no (hk : Ok17 g) (h : Lv g L ins i n (k + 1)) {o : Im.Ob} (ho : g.obs[k]? = some o) (hc : ∀ κ : Nat, ins (k + 1) = true → o.kind = 3 → o.ps[0]? = some (κ : Int) → κ ≠ 0 → ins κ = true → k + 1 ≠ n ∧ κ ≠ n) : Lv g L ins i n (k + 2) := by
  refine ⟨h.a, h.s, h.b, h.r, h.w, fun i κ v h1 h2 h3 => ?_, h.il⟩
  rcases h.e i κ v h1 h2 h3 with h4 | ⟨h4, h5⟩
  · exact .inl h4
  · by_cases e : i = k + 1
    · subst e
      obtain ⟨a1, a2, a3, a4, a5⟩ := (pe_at hk ho κ v).1 h1
      have := hc κ h2 a1 a2 a4 h3
      exact absurd h4 (fun h => h.elim this.1 this.2)
    · exact .inr ⟨h4, by omega⟩
theorem Lv.yes (hk : Ok17 g) (h : Lv g L ins i n (k + 1)) {o : Im.Ob} (ho : g.obs[k]? = some o) {κ v : Nat} (h3 : o.kind = 3) (hκ : o.ps[0]? = some (κ : Int)) (hv : o.ps[1]? = some (v : Int)) (h0 : κ ≠ 0) (hi : ins (k + 1) = true) (hik : ins κ = true) : Lv g (L ++ [(v : Int)]) ins i n (k + 2) := by
  refine ⟨fun z h1 => ?_, h.s, fun j y hj hy => ?_, fun z h1 => List.mem_append_left _ (h.r z h1), fun x h1 y h2 => List.mem_append_left _ (h.w x h1 y h2), fun i κ' v' h1 h2 h4 => ?_, by have := h.il; rw [List.length_append]; omega⟩
  · rcases List.mem_append.1 h1 with h2 | h2
    · exact h.a z h2
    · rw [List.mem_singleton.1 h2]
      refine ⟨(hk.p o (List.mem_of_getElem? ho) _ (List.mem_of_getElem? hv)).2, fun h5 => ?_⟩
      have e : ((v : Int)).toNat = v := by simp
      rw [e]
      exact .eph ((pe_at hk ho κ v).2 ⟨h3, hκ, hv, h0, by omega⟩) (h.s _ hi) (h.s _ hik) (by omega)
  · rw [List.getElem?_append_left (by have := h.il; omega)] at hy
    exact h.b j y hj hy
  · rcases h.e i κ' v' h1 h2 h4 with h5 | ⟨h5, h6⟩
    · exact .inl (List.mem_append_left _ h5)
    · by_cases e : i = k + 1
      · subst e
        obtain ⟨a1, a2, a3, a4, a5⟩ := (pe_at hk ho κ' v').1 h1
        rw [hv] at a3
        cases a3
        exact .inl (by simp)
      · exact .inr ⟨h5, by omega⟩
theorem Lv.done (hk : Ok17 g) (h : Lv g L ins i n k) (hl : g.obs.length < k) : Lw g L ins i := by
  refine ⟨h.a, h.s, h.b, h.r, h.w, fun i κ v h1 h2 h3 => ?_, h.il⟩
  rcases h.e i κ v h1 h2 h3 with h4 | ⟨-, h4⟩
  · exact h4
  · exfalso
    obtain ⟨j, o', a1, a2⟩ := pe_mem.1 h1
    have a3 := ((oe_iff (fun z hz => (hk.p o' (List.mem_of_getElem? a1) z hz).1)).1 a2).2.1
    have a4 := (List.getElem?_eq_some_iff.1 a1).1
    simp only at a3
    omega
theorem Lw.done (hk : Ok17 g) (h : Lw g L ins L.length) (x : Nat) : ins x = true ↔ Re (wy17 g) (pe17 g) 0 x := by
  have key : ∀ y : Nat, (y : Int) ∈ L → y ≠ 0 → ins y = true := fun y hy h0 => by
    obtain ⟨j, hj⟩ := List.getElem?_of_mem hy
    have := h.b j _ (List.getElem?_eq_some_iff.1 hj).1 hj (by omega)
    simpa using this
  refine ⟨h.s x, fun hr => ?_⟩
  induction hr with
  | root h1 h2 => exact key _ (h.r _ (wy_rt.1 h1).1) h2
  | step _ h1 h2 ih => exact key _ (h.w _ ih _ h1) h2
  | eph h1 _ _ h2 ih1 ih2 => exact key _ (h.e _ _ _ h1 ih1 ih2) h2
end
noncomputable def tw (g : Im.Gr) (k : Nat) (ps : List Nat) (x : Nat) : Nat := wt (wd17 g) (wy17 g) k x + (if x ∈ ps then wd17 g (k + 1) else 0)
variable {g : Im.Gr} {k : Nat} {ps : List Nat} {W : Nat → List Nat}
theorem tw_nil (x : Nat) : tw g k [] x = wt (wd17 g) (wy17 g) k x := by unfold tw; simp
theorem tw_step {M a : Nat} (h : Cn (wy17 g) M (k + 1) a ps) (h0 : a ≠ 0) (x : Nat) : tw g k (ps ++ [a]) x = if x = a then tw g k ps a + wd17 g (k + 1) else tw g k ps x := by
  unfold tw
  by_cases e : x = a
  · subst e
    rw [if_pos rfl, if_pos (by simp), if_neg (h.not h0)]
    rfl
  · rw [if_neg e]
    simp [List.mem_append, e]
theorem tw_end {M : Nat} (h : Cn (wy17 g) M (k + 1) 0 ps) (hr : Rv (wy17 g) 0 (k + 1)) (x : Nat) : tw g k ps x = wt (wd17 g) (wy17 g) (k + 1) x := by
  unfold tw
  by_cases e : x ∈ ps
  · rw [if_pos e, wt_yes ⟨hr, (h.ends x).1 e⟩]
  · rw [if_neg e, wt_no (fun k => e ((h.ends x).2 k.2)), Nat.add_zero]
theorem wt_skip (hr : ¬ Rv (wy17 g) 0 (k + 1)) (x : Nat) : wt (wd17 g) (wy17 g) (k + 1) x = wt (wd17 g) (wy17 g) k x := wt_no (fun h => hr h.1)
theorem tw_le {c : Nat} (hc : ∀ y, wd17 g y ≤ c) (x : Nat) : tw g k ps x ≤ (k + 1) * c := by
  have h1 := wt_le (wd17 g) (wy17 g) k x c hc
  have h2 := hc (k + 1)
  unfold tw
  rw [Nat.succ_mul]
  split <;> omega
theorem dr_wt (hk : Ok17 g) {l : List Int} (hd : Dr17 g l) (h : ∀ i k v, (i, k, v) ∈ pe17 g → ¬ Re (wy17 g) (pe17 g) 0 i) {i : Nat} (hi : i < g.obs.length) : l[i]? = some ((wt (wd17 g) (wy17 g) g.obs.length (i + 1) : Nat) : Int) := by
  have hl : i < l.length := by rw [hd.1]; exact hi
  have hz : l[i]? = some l[i] := List.getElem?_eq_getElem hl
  rw [hz]
  congr 1
  rcases hd.2 i _ hz with ⟨h1, h2⟩ | ⟨h1, h2⟩
  · have h3 := wt_yes_rs (w := wd17 g) (M := g.obs.length) (wy_nz g) (pe_nz hk) h h1
    rw [h2]
    omega
  · rw [h2, wt_none (fun hr => h1 ((re_rv (wy_nz g) (pe_nz hk) h 0 _).2 hr))]
    rfl
theorem wd_two {x : Nat} (h1 : 1 ≤ x) (h2 : x ≤ g.obs.length) : 2 ≤ wd17 g x := by
  unfold wd17
  rw [if_neg (by omega)]
  cases h : g.obs[x - 1]? with
  | none => rw [List.getElem?_eq_none_iff] at h; omega
  | some o => simp only; omega
theorem rv_in (hk : Ok17 g) {x : Nat} (h : Rv (wy17 g) 0 x) : 1 ≤ x ∧ x ≤ g.obs.length := by
  cases h with
  | root h1 h2 =>
    have := hk.r _ (wy_rt.1 h1).1
    exact ⟨by omega, by omega⟩
  | @step u _ h0 h1 h2 =>
    refine ⟨by omega, ?_⟩
    cases u with
    | zero =>
      have := hk.r _ (wy_rt.1 h1).1
      omega
    | succ u =>
      cases ho : g.obs[u]? with
      | none => simp [wy17, ho] at h1
      | some o =>
        have := (hk.p o (List.mem_of_getElem? ho) _ (stg_pos ((wy_stg ho).1 h1)).2).2
        omega
theorem wt_more (hk : Ok17 g) {b x : Nat} (h : Ids (wy17 g) b x) (hb : b ≠ 0) : wt (wd17 g) (wy17 g) g.obs.length x < wt (wd17 g) (wy17 g) g.obs.length b ∧ 1 ≤ b ∧ b ≤ g.obs.length := by
  have h1 := h.1.resolve_left hb
  have h2 := rv_in hk h1.2.2.2.2.1
  have h3 := wt_lt (w := wd17 g) (M := g.obs.length) h1 h2
  have h4 := wd_two h2.1 h2.2
  exact ⟨by omega, h2⟩
theorem ok_of_mb (h : MB g) : Ok17 g := by
  refine ⟨fun o ho z hz => inB_iff.1 (h.o.ptrs o ho z hz), fun z hz => ?_, fun o ho h3 => ?_⟩
  · by_cases e : 0 < z
    · have h1 : z ∈ rtl g := by
        unfold rtl
        rw [List.append_assoc]
        exact List.mem_filter.2 ⟨hz, decide_eq_true e⟩
      exact (rtl_in h h1).2
    · omega
  · have h1 := (fst_le h ho).1
    rw [h3] at h1
    exact h1
end Go.Proofs.YtkekaifiahjljaaGreatDoor
