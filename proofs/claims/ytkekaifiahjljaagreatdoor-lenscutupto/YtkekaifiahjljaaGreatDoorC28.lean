import Derived.Test.YtkekaifiahjljaaGreatDoorC27
import Derived.Test.YtkekaifiahjljaaGreatDoorC13
import Derived.Test.YtkekaifiahjljaaGreatDoorC14
import Derived.Test.YtkekaifiahjljaaGreatDoorC15
import Derived.Test.YtkekaifiahjljaaGreatDoorC11
set_option linter.unusedVariables false
set_option maxHeartbeats 8000000
set_option maxRecDepth 20000
namespace Go.Proofs.YtkekaifiahjljaaGreatDoor
open Go.RowKit Go.Shelf Go.Proofs.YtkekaifiahjljaaGreatDoor.Lt
def Dm17 (g : Im.Gr) (l : List Int) : Prop := l.length = g.obs.length ∧ ∀ (i : Nat) z, l[i]? = some z → (Rv (wy17 g) 0 (i + 1) ∧ ∃ b : Nat, z = b ∧ Ids (wy17 g) b (i + 1)) ∨ (¬ Rv (wy17 g) 0 (i + 1) ∧ z = -1)
theorem Dm17.uniq {g : Im.Gr} {l l' : List Int} (h : Dm17 g l) (h' : Dm17 g l') : l = l' := by
  refine List.ext_getElem? (fun i => ?_)
  rcases Nat.lt_or_ge i l.length with h1 | h1
  · have h2 : i < l'.length := by have := h.1; have := h'.1; omega
    obtain ⟨z, hz⟩ : ∃ z, l[i]? = some z := ⟨_, List.getElem?_eq_getElem h1⟩
    obtain ⟨z', hz'⟩ : ∃ z, l'[i]? = some z := ⟨_, List.getElem?_eq_getElem h2⟩
    rw [hz, hz']
    congr 1
    rcases h.2 i z hz with ⟨a1, b, rfl, a2⟩ | ⟨a1, a2⟩ <;> rcases h'.2 i z' hz' with ⟨c1, b', rfl, c2⟩ | ⟨c1, c2⟩
    · rw [a2.uniq c2]
    · exact absurd a1 c1
    · exact absurd c1 a1
    · rw [a2, c2]
  · rw [List.getElem?_eq_none h1, List.getElem?_eq_none (by have := h.1; have := h'.1; omega)]
def Pd17 (g : Im.Gr) (l : List Int) (e : Int) : Prop := (¬ MB g ∧ l = [] ∧ e = 171) ∨ (MB g ∧ e = 0 ∧ Dm17 g l)
theorem Pd17.uniq {g : Im.Gr} {l l' : List Int} {e e' : Int} (h : Pd17 g l e) (h' : Pd17 g l' e') : l = l' ∧ e = e' := by
  rcases h with ⟨h1, h2, h3⟩ | ⟨h1, h2, h3⟩ <;> rcases h' with ⟨k1, k2, k3⟩ | ⟨k1, k2, k3⟩
  · exact ⟨h2.trans k2.symm, h3.trans k3.symm⟩
  · exact absurd k1 h1
  · exact absurd h1 k1
  · exact ⟨h3.uniq k3, h2.trans k2.symm⟩
theorem Tre.dm {g : Im.Gr} (hm : MB g) {m : Nat} (hmm : m = g.obs.length + 1) {ord : List Nat} {f : Nat → Int} (h : Tre (wz17 g) m ord f) : Dm17 g ((List.range' 1 g.obs.length).map f) := by
  obtain ⟨par, S, I, hD, hS, hI, hI0, hf⟩ := h.d
  refine ⟨by simp, fun i z hz => ?_⟩
  rw [List.getElem?_map] at hz
  have hi : i < g.obs.length := by
    rcases Nat.lt_or_ge i g.obs.length with h1 | h1
    · exact h1
    · rw [List.getElem?_eq_none (by simpa using h1)] at hz; cases hz
  rw [List.getElem?_range' hi] at hz
  simp only [Option.map_some, Option.some.injEq] at hz
  have e1 : 1 + 1 * i = i + 1 := by omega
  rw [e1] at hz
  have hiff := hD.rv_iff (fun x y => wy_wz hm x y) (x := i + 1)
  by_cases ho : i + 1 ∈ ord
  · obtain ⟨v, hv⟩ := List.getElem?_of_mem ho
    have h0 : v ≠ 0 := fun e => by rw [e, hD.z] at hv; cases hv
    have hvl := (List.getElem?_eq_some_iff.1 hv).1
    have h9 : I v < ord.length := by
      have h1 := (hD.d.idom hS hI v h0 hvl).1
      obtain ⟨h2, -⟩ := hD.d.sem_anc hS h0 hvl
      have h3 := hD.d.le (by omega) h1
      omega
    have hid : ord[I v]? = some (ord[I v]'h9) := List.getElem?_eq_getElem h9
    refine .inl ⟨hiff.2 ⟨ho, by omega⟩, _, hz.symm.trans (hf v _ _ hv hid), ?_⟩
    exact Df.ids0 (fun x y => wy_wz hm x y) hD hS hI h0 hv hid
  · exact .inr ⟨fun hr => ho (hiff.1 hr).1, hz.symm.trans (h.n _ ho)⟩
end Go.Proofs.YtkekaifiahjljaaGreatDoor
namespace Go.Proofs.YtkekaifiahjljaaGreatDoor.Lt
def Dmb (W : Nat → List Nat) (x y : Nat) : Prop := y = x ∨ Ov W x y
noncomputable def wt (w : Nat → Nat) (W : Nat → List Nat) (k x : Nat) : Nat := sm w (fun y => Rv W 0 y ∧ Dmb W x y) (List.range' 1 k)
theorem sm_ge {w : Nat → Nat} {p : Nat → Prop} {y : Nat} (hp : p y) : ∀ l : List Nat, y ∈ l → w y ≤ sm w p l
  | [], h => by simp at h
  | x :: l, h => by
    rcases List.mem_cons.1 h with e | h1
    · subst e
      rw [sm_yes l hp]
      omega
    · have ih := sm_ge (w := w) hp l h1
      rw [sm_cons]
      omega
section
variable {W : Nat → List Nat} {P : List (Nat × Nat × Nat)} {M : Nat} {w : Nat → Nat}
end
end Go.Proofs.YtkekaifiahjljaaGreatDoor.Lt
namespace Go.Proofs.YtkekaifiahjljaaGreatDoor
open Go.RowKit Go.Shelf Go.Proofs.YtkekaifiahjljaaGreatDoor.Lt
theorem pe_mem {g : Im.Gr} {e : Nat × Nat × Nat} : e ∈ pe17 g ↔ ∃ i o, g.obs[i]? = some o ∧ oe17 o i = some e := by
  unfold pe17 pk17
  rw [List.mem_filterMap]
  constructor
  · rintro ⟨i, hi, h⟩
    cases ho : g.obs[i]? with
    | none => rw [ho] at h; cases h
    | some o => rw [ho, Option.bind_some] at h; exact ⟨i, o, ho, h⟩
  · rintro ⟨i, o, h1, h2⟩
    exact ⟨i, List.mem_range.2 (List.getElem?_eq_some_iff.1 h1).1, by rw [h1, Option.bind_some]; exact h2⟩
structure Ok17 (g : Im.Gr) : Prop where
  p : ∀ o, o ∈ g.obs → ∀ z, z ∈ o.ps → 0 ≤ z ∧ z ≤ g.obs.length
  r : ∀ z, z ∈ slotsF g.slots ++ (g.hs ++ g.qu) → z ≤ g.obs.length
  e : ∀ o, o ∈ g.obs → o.kind = 3 → 2 ≤ o.ps.length
theorem pe_at {g : Im.Gr} (hk : Ok17 g) {k : Nat} {o : Im.Ob} (ho : g.obs[k]? = some o) (κ v : Nat) : (k + 1, κ, v) ∈ pe17 g ↔ o.kind = 3 ∧ o.ps[0]? = some (κ : Int) ∧ o.ps[1]? = some (v : Int) ∧ κ ≠ 0 ∧ v ≠ 0 := by
  rw [pe_mem]
  constructor
  · rintro ⟨i, o', h1, h2⟩
    have h3 := (oe_iff (e := (k + 1, κ, v)) (fun z hz => (hk.p o' (List.mem_of_getElem? h1) z hz).1)).1 h2
    obtain ⟨a, b, c, d, e, f⟩ := h3
    have : i = k := by simp only at b; omega
    subst this
    rw [ho] at h1
    cases h1
    exact ⟨a, c, d, e, f⟩
  · rintro ⟨a, c, d, e, f⟩
    exact ⟨k, o, ho, (oe_iff (fun z hz => (hk.p o (List.mem_of_getElem? ho) z hz).1)).2 ⟨a, rfl, c, d, e, f⟩⟩
theorem wy_at {g : Im.Gr} {k : Nat} {o : Im.Ob} (ho : g.obs[k]? = some o) : wy17 g (k + 1) = (stg o).map Int.toNat := by
  simp only [wy17, ho]
theorem wy_rt {g : Im.Gr} {y : Nat} : y ∈ wy17 g 0 ↔ (y : Int) ∈ slotsF g.slots ++ (g.hs ++ g.qu) ∧ y ≠ 0 := by
  show y ∈ (rtl g).map Int.toNat ↔ _
  unfold rtl
  rw [List.append_assoc, List.mem_map]
  constructor
  · rintro ⟨z, hz, rfl⟩
    obtain ⟨h1, h2⟩ := List.mem_filter.1 hz
    have h3 := of_decide_eq_true h2
    have e : ((z.toNat : Nat) : Int) = z := Int.toNat_of_nonneg (by omega)
    rw [e]
    exact ⟨h1, by omega⟩
  · rintro ⟨h1, h2⟩
    exact ⟨(y : Int), List.mem_filter.2 ⟨h1, decide_eq_true (by omega)⟩, by simp⟩
theorem stg_pos {o : Im.Ob} {z : Int} (h : z ∈ stg o) : 0 < z ∧ z ∈ o.ps := by
  unfold stg at h
  obtain ⟨h1, h2⟩ := List.mem_filter.1 h
  exact ⟨of_decide_eq_true h2, List.mem_of_mem_drop h1⟩
theorem wy_stg {g : Im.Gr} {k y : Nat} {o : Im.Ob} (ho : g.obs[k]? = some o) : y ∈ wy17 g (k + 1) ↔ (y : Int) ∈ stg o := by
  rw [wy_at ho, List.mem_map]
  constructor
  · rintro ⟨z, hz, rfl⟩
    have e : ((z.toNat : Nat) : Int) = z := Int.toNat_of_nonneg (by have := (stg_pos hz).1; omega)
    rw [e]
    exact hz
  · intro h
    exact ⟨(y : Int), h, by simp⟩
structure Lw (g : Im.Gr) (L : List Int) (ins : Nat → Bool) (i : Nat) : Prop where
  a : ∀ z, z ∈ L → z ≤ g.obs.length ∧ (0 < z → Re (wy17 g) (pe17 g) 0 z.toNat)
  s : ∀ x, ins x = true → Re (wy17 g) (pe17 g) 0 x
  b : ∀ (j : Nat) z, j < i → L[j]? = some z → 0 < z → ins z.toNat = true
  r : ∀ z, z ∈ slotsF g.slots ++ (g.hs ++ g.qu) → z ∈ L
  w : ∀ x, ins x = true → ∀ y, y ∈ wy17 g x → (y : Int) ∈ L
  e : ∀ i κ v, (i, κ, v) ∈ pe17 g → ins i = true → ins κ = true → (v : Int) ∈ L
  il : i ≤ L.length
structure Lv (g : Im.Gr) (L : List Int) (ins : Nat → Bool) (i n k : Nat) : Prop where
  a : ∀ z, z ∈ L → z ≤ g.obs.length ∧ (0 < z → Re (wy17 g) (pe17 g) 0 z.toNat)
  s : ∀ x, ins x = true → Re (wy17 g) (pe17 g) 0 x
  b : ∀ (j : Nat) z, j < i → L[j]? = some z → 0 < z → ins z.toNat = true
  r : ∀ z, z ∈ slotsF g.slots ++ (g.hs ++ g.qu) → z ∈ L
  w : ∀ x, ins x = true → ∀ y, y ∈ wy17 g x → (y : Int) ∈ L
  e : ∀ i κ v, (i, κ, v) ∈ pe17 g → ins i = true → ins κ = true → (v : Int) ∈ L ∨ ((i = n ∨ κ = n) ∧ k ≤ i)
  il : i ≤ L.length
section
variable {g : Im.Gr} {L : List Int} {ins : Nat → Bool} {i n k : Nat}
theorem wy_nz (g : Im.Gr) : ∀ x y, y ∈ wy17 g x → y ≠ 0 := fun x y hy => by
  cases x with
  | zero => exact (wy_rt.1 hy).2
  | succ x =>
    cases ho : g.obs[x]? with
    | none => simp [wy17, ho] at hy
    | some o =>
      have := (stg_pos ((wy_stg ho).1 hy)).1
      omega
theorem pe_nz (hk : Ok17 g) : ∀ i κ v, (i, κ, v) ∈ pe17 g → v ≠ 0 := fun i κ v h => by
  obtain ⟨j, o, h1, h2⟩ := pe_mem.1 h
  exact ((oe_iff (fun z hz => (hk.p o (List.mem_of_getElem? h1) z hz).1)).1 h2).2.2.2.2.2
theorem Lw.start (hk : Ok17 g) : Lw g (slotsF g.slots ++ (g.hs ++ g.qu)) (fun _ => false) 0 :=
  ⟨fun z hz => ⟨hk.r z hz, fun h => .root (wy_rt.2 ⟨by rw [Int.toNat_of_nonneg (by omega)]; exact hz, by omega⟩) (by omega)⟩, fun _ h => (by cases h), fun j z h => (by omega), fun z hz => hz, fun _ h => (by cases h), fun _ _ _ _ h => (by cases h), Nat.zero_le _⟩
theorem Lw.skip (h : Lw g L ins i) {z : Int} (hz : L[i]? = some z) (hi : z ≤ 0 ∨ ins z.toNat = true) : Lw g L ins (i + 1) := by
  refine ⟨h.a, h.s, fun j y hj hy h0 => ?_, h.r, h.w, h.e, (List.getElem?_eq_some_iff.1 hz).1⟩
  by_cases e : j = i
  · rw [e, hz] at hy
    cases hy
    rcases hi with h1 | h1
    · omega
    · exact h1
  · exact h.b j y (by omega) hy h0
theorem Lw.new (hk : Ok17 g) (h : Lw g L ins i) {x : Nat} {o : Im.Ob} (hz : L[i]? = some ((x + 1 : Nat) : Int)) (ho : g.obs[x]? = some o) (hi : ins (x + 1) = false) : Lv g (L ++ stg o) (inw ins (x + 1)) (i + 1) (x + 1) 1 := by
  have hr : Re (wy17 g) (pe17 g) 0 (x + 1) := (h.a _ (List.mem_of_getElem? hz)).2 (by omega)
  have hil := (List.getElem?_eq_some_iff.1 hz).1
  refine ⟨fun z h1 => ?_, fun y h1 => ?_, fun j y hj hy h0 => ?_, fun z h1 => List.mem_append_left _ (h.r z h1), fun y h1 u hu => ?_, fun i κ v h1 h2 h3 => ?_, by rw [List.length_append]; omega⟩
  · rcases List.mem_append.1 h1 with h2 | h2
    · exact h.a z h2
    · have h3 := stg_pos h2
      refine ⟨(hk.p o (List.mem_of_getElem? ho) z h3.2).2, fun _ => .step hr ((wy_stg ho).2 ?_) (by omega)⟩
      rw [Int.toNat_of_nonneg (by omega)]
      exact h2
  · by_cases e : y = x + 1
    · rw [e]; exact hr
    · rw [inw_ne e] at h1; exact h.s y h1
  · have hjl : j < L.length := by omega
    rw [List.getElem?_append_left hjl] at hy
    by_cases e : y.toNat = x + 1
    · rw [e]; exact inw_at
    · rw [inw_ne e]
      refine h.b j y ?_ hy h0
      rcases Nat.lt_or_ge j i with h1 | h1
      · exact h1
      · exfalso
        have h2 : j = i := by omega
        rw [h2, hz] at hy
        cases hy
        exact e (by simp)
  · by_cases e : y = x + 1
    · rw [e] at hu
      exact List.mem_append_right _ ((wy_stg ho).1 hu)
    · rw [inw_ne e] at h1
      exact List.mem_append_left _ (h.w y h1 u hu)
  · by_cases e1 : i = x + 1
    · refine .inr ⟨.inl e1, by omega⟩
    · by_cases e2 : κ = x + 1
      · refine .inr ⟨.inr e2, ?_⟩
        obtain ⟨j, o', a1, a2⟩ := pe_mem.1 h1
        have a3 := ((oe_iff (fun z hz => (hk.p o' (List.mem_of_getElem? a1) z hz).1)).1 a2).2.1
        simp only at a3
        omega
      · rw [inw_ne e1] at h2
        rw [inw_ne e2] at h3
        exact .inl (List.mem_append_left _ (h.e i κ v h1 h2 h3))
theorem Lv.no (hk : Ok17 g) (h : Lv g L ins i n (k + 1)) {o : Im.Ob} (ho : g.obs[k]? = some o) (hc : ∀ κ : Nat, ins (k + 1) = true → o.kind = 3 → o.ps[0]? = some (κ : Int) → κ ≠ 0 → ins κ = true → k + 1 ≠ n ∧ κ ≠ n) : Lv g L ins i n (k + 2) := by
  refine ⟨h.a, h.s, h.b, h.r, h.w, fun i κ v h1 h2 h3 => ?_, h.il⟩
  rcases h.e i κ v h1 h2 h3 with h4 | ⟨h4, h5⟩
  · exact .inl h4
  · by_cases e : i = k + 1
    · subst e
      obtain ⟨a1, a2, a3, a4, a5⟩ := (pe_at hk ho κ v).1 h1
      have := hc κ h2 a1 a2 a4 h3
      exact absurd h4 (fun h => h.elim this.1 this.2)
    · exact .inr ⟨h4, by omega⟩
theorem Lv.yes (hk : Ok17 g) (h : Lv g L ins i n (k + 1)) {o : Im.Ob} (ho : g.obs[k]? = some o) {κ v : Nat} (h3 : o.kind = 3) (hκ : o.ps[0]? = some (κ : Int)) (hv : o.ps[1]? = some (v : Int)) (h0 : κ ≠ 0) (hi : ins (k + 1) = true) (hik : ins κ = true) : Lv g (L ++ [(v : Int)]) ins i n (k + 2) := by
  refine ⟨fun z h1 => ?_, h.s, fun j y hj hy => ?_, fun z h1 => List.mem_append_left _ (h.r z h1), fun x h1 y h2 => List.mem_append_left _ (h.w x h1 y h2), fun i κ' v' h1 h2 h4 => ?_, by have := h.il; rw [List.length_append]; omega⟩
  · rcases List.mem_append.1 h1 with h2 | h2
    · exact h.a z h2
    · rw [List.mem_singleton.1 h2]
      refine ⟨(hk.p o (List.mem_of_getElem? ho) _ (List.mem_of_getElem? hv)).2, fun h5 => ?_⟩
      have e : ((v : Int)).toNat = v := by simp
      rw [e]
      exact .eph ((pe_at hk ho κ v).2 ⟨h3, hκ, hv, h0, by omega⟩) (h.s _ hi) (h.s _ hik) (by omega)
  · rw [List.getElem?_append_left (by have := h.il; omega)] at hy
    exact h.b j y hj hy
  · rcases h.e i κ' v' h1 h2 h4 with h5 | ⟨h5, h6⟩
    · exact .inl (List.mem_append_left _ h5)
    · by_cases e : i = k + 1
      · subst e
        obtain ⟨a1, a2, a3, a4, a5⟩ := (pe_at hk ho κ' v').1 h1
        rw [hv] at a3
        cases a3
        exact .inl (by simp)
      · exact .inr ⟨h5, by omega⟩
theorem Lv.done (hk : Ok17 g) (h : Lv g L ins i n k) (hl : g.obs.length < k) : Lw g L ins i := by
  refine ⟨h.a, h.s, h.b, h.r, h.w, fun i κ v h1 h2 h3 => ?_, h.il⟩
  rcases h.e i κ v h1 h2 h3 with h4 | ⟨-, h4⟩
  · exact h4
  · exfalso
    obtain ⟨j, o', a1, a2⟩ := pe_mem.1 h1
    have a3 := ((oe_iff (fun z hz => (hk.p o' (List.mem_of_getElem? a1) z hz).1)).1 a2).2.1
    have a4 := (List.getElem?_eq_some_iff.1 a1).1
    simp only at a3
    omega
theorem Lw.done (hk : Ok17 g) (h : Lw g L ins L.length) (x : Nat) : ins x = true ↔ Re (wy17 g) (pe17 g) 0 x := by
  have key : ∀ y : Nat, (y : Int) ∈ L → y ≠ 0 → ins y = true := fun y hy h0 => by
    obtain ⟨j, hj⟩ := List.getElem?_of_mem hy
    have := h.b j _ (List.getElem?_eq_some_iff.1 hj).1 hj (by omega)
    simpa using this
  refine ⟨h.s x, fun hr => ?_⟩
  induction hr with
  | root h1 h2 => exact key _ (h.r _ (wy_rt.1 h1).1) h2
  | step _ h1 h2 ih => exact key _ (h.w _ ih _ h1) h2
  | eph h1 _ _ h2 ih1 ih2 => exact key _ (h.e _ _ _ h1 ih1 ih2) h2
end
noncomputable def tw (g : Im.Gr) (k : Nat) (ps : List Nat) (x : Nat) : Nat := wt (wd17 g) (wy17 g) k x + (if x ∈ ps then wd17 g (k + 1) else 0)
variable {g : Im.Gr} {k : Nat} {ps : List Nat} {W : Nat → List Nat}
theorem ok_of_mb (h : MB g) : Ok17 g := by
  refine ⟨fun o ho z hz => inB_iff.1 (h.o.ptrs o ho z hz), fun z hz => ?_, fun o ho h3 => ?_⟩
  · by_cases e : 0 < z
    · have h1 : z ∈ rtl g := by
        unfold rtl
        rw [List.append_assoc]
        exact List.mem_filter.2 ⟨hz, decide_eq_true e⟩
      exact (rtl_in h h1).2
    · omega
  · have h1 := (fst_le h ho).1
    rw [h3] at h1
    exact h1
end Go.Proofs.YtkekaifiahjljaaGreatDoor
namespace Go.Proofs.YtkekaifiahjljaaGreatDoor
open Go.RowKit Go.Shelf Go.Proofs.YtkekaifiahjljaaGreatDoor.Lt Go.Proofs.YtkekaifiahjljaaGreatDoor.Lp
def gEx : Im.Gr := { next := 7, obs := [⟨1, 1, 0, [2, 3], []⟩, ⟨2, 1, 0, [4], []⟩, ⟨3, 1, 0, [4, 5], []⟩, ⟨4, 1, 0, [], []⟩, ⟨5, 3, 0, [2, 6], []⟩, ⟨6, 1, 0, [], []⟩], slots := [ [ [1] ] ], hs := [], rg := [], qu := [] }
theorem wyEx : ∀ x, wy17 gEx x = if x = 0 then [1] else if x = 1 then [2, 3] else if x = 2 then [4] else if x = 3 then [4, 5] else [] := fun x => by
  match x with
  | 0 => rfl
  | 1 => rfl
  | 2 => rfl
  | 3 => rfl
  | 4 => rfl
  | 5 => rfl
  | 6 => rfl
  | n + 7 =>
    rw [if_neg (by omega), if_neg (by omega), if_neg (by omega), if_neg (by omega)]
    rfl
theorem peEx : pe17 gEx = [(5, 2, 6)] := by decide
theorem rv_cl {W : Nat → List Nat} {d : Nat} {S : Nat → Prop} (h0 : ∀ y, y ∈ W 0 → y ≠ d → S y) (hc : ∀ u, S u → ∀ y, y ∈ W u → y ≠ d → S y) {x : Nat} (h : Rv W d x) : S x := by
  induction h with
  | root h1 h2 => exact h0 _ h1 h2
  | step _ h1 h2 ih => exact hc _ ih _ h1 h2
theorem re_cl {W : Nat → List Nat} {P : List (Nat × Nat × Nat)} {d : Nat} {S : Nat → Prop} (h0 : ∀ y, y ∈ W 0 → y ≠ d → S y) (hc : ∀ u, S u → ∀ y, y ∈ W u → y ≠ d → S y) (he : ∀ i k v, (i, k, v) ∈ P → S i → S k → v ≠ d → S v) {x : Nat} (h : Re W P d x) : S x := by
  induction h with
  | root h1 h2 => exact h0 _ h1 h2
  | step _ h1 h2 ih => exact hc _ ih _ h1 h2
  | eph h1 _ _ h2 ih1 ih2 => exact he _ _ _ h1 ih1 ih2 h2
theorem ex_mem {x y : Nat} : y ∈ wy17 gEx x ↔ (x = 0 ∧ y = 1) ∨ (x = 1 ∧ (y = 2 ∨ y = 3)) ∨ (x = 2 ∧ y = 4) ∨ (x = 3 ∧ (y = 4 ∨ y = 5)) := by
  rw [wyEx]
  by_cases h0 : x = 0
  · subst h0; simp
  · rw [if_neg h0]
    by_cases h1 : x = 1
    · subst h1; simp
    · rw [if_neg h1]
      by_cases h2 : x = 2
      · subst h2; simp
      · rw [if_neg h2]
        by_cases h3 : x = 3
        · subst h3; simp
        · rw [if_neg h3]
          simp only [List.not_mem_nil, false_iff]
          omega
def exS (d x : Nat) : Prop := d ≠ 1 ∧ x ≠ d ∧ (x = 1 ∨ x = 2 ∨ x = 3 ∨ (x = 4 ∧ (d ≠ 2 ∨ d ≠ 3)) ∨ (x = 5 ∧ d ≠ 3))
theorem ex_rv {d x : Nat} : Rv (wy17 gEx) d x ↔ exS d x := by
  constructor
  · intro h
    refine rv_cl (S := exS d) (fun y hy hd => ?_) (fun u hu y hy hd => ?_) h
    · rw [ex_mem] at hy
      unfold exS
      omega
    · rw [ex_mem] at hy
      unfold exS at hu ⊢
      omega
  · rintro ⟨h1, h2, h3⟩
    have r1 : Rv (wy17 gEx) d 1 := .root (ex_mem.2 (by omega)) (by omega)
    have r2 : 2 ≠ d → Rv (wy17 gEx) d 2 := fun h => .step r1 (ex_mem.2 (by omega)) h
    have r3 : 3 ≠ d → Rv (wy17 gEx) d 3 := fun h => .step r1 (ex_mem.2 (by omega)) h
    rcases h3 with rfl | rfl | rfl | ⟨rfl, h4⟩ | ⟨rfl, h4⟩
    · exact r1
    · exact r2 h2
    · exact r3 h2
    · by_cases h5 : d = 2
      · exact .step (r3 (by omega)) (ex_mem.2 (by omega)) h2
      · exact .step (r2 (by omega)) (ex_mem.2 (by omega)) h2
    · exact .step (r3 (by omega)) (ex_mem.2 (by omega)) h2
theorem ex_ov {d x : Nat} : Ov (wy17 gEx) d x ↔ (d = 1 ∧ (x = 2 ∨ x = 3 ∨ x = 4 ∨ x = 5)) ∨ (d = 3 ∧ x = 5) := by
  unfold Ov
  rw [ex_rv, ex_rv, ex_rv]
  unfold exS
  omega
theorem ex_ids {b x : Nat} (h : (x = 1 ∧ b = 0) ∨ (x = 2 ∧ b = 1) ∨ (x = 3 ∧ b = 1) ∨ (x = 4 ∧ b = 1) ∨ (x = 5 ∧ b = 3)) : Ids (wy17 gEx) b x := by
  unfold Ids
  simp only [ex_ov]
  refine ⟨?_, fun d hd => ?_⟩
  · omega
  · omega
theorem ex_dm : Dm17 gEx [0, 1, 1, 1, 3, -1] := by
  refine ⟨rfl, fun i z hz => ?_⟩
  match i with
  | 0 => cases hz; exact .inl ⟨ex_rv.2 (by unfold exS; omega), 0, rfl, ex_ids (by omega)⟩
  | 1 => cases hz; exact .inl ⟨ex_rv.2 (by unfold exS; omega), 1, rfl, ex_ids (by omega)⟩
  | 2 => cases hz; exact .inl ⟨ex_rv.2 (by unfold exS; omega), 1, rfl, ex_ids (by omega)⟩
  | 3 => cases hz; exact .inl ⟨ex_rv.2 (by unfold exS; omega), 1, rfl, ex_ids (by omega)⟩
  | 4 => cases hz; exact .inl ⟨ex_rv.2 (by unfold exS; omega), 3, rfl, ex_ids (by omega)⟩
  | 5 => cases hz; exact .inr ⟨fun h => by have := ex_rv.1 h; unfold exS at this; omega, rfl⟩
  | n + 6 => simp at hz
def exT (d x : Nat) : Prop := exS d x ∨ (x = 6 ∧ d ≠ 1 ∧ d ≠ 2 ∧ d ≠ 3 ∧ d ≠ 5 ∧ d ≠ 6)
theorem ex_re {d x : Nat} : Re (wy17 gEx) (pe17 gEx) d x ↔ exT d x := by
  constructor
  · intro h
    refine re_cl (S := exT d) (fun y hy hd => ?_) (fun u hu y hy hd => ?_) (fun i k v hp hi hk hd => ?_) h
    · rw [ex_mem] at hy
      unfold exT exS
      omega
    · rw [ex_mem] at hy
      unfold exT exS at hu ⊢
      omega
    · rw [peEx] at hp
      simp only [List.mem_singleton, Prod.mk.injEq] at hp
      unfold exT exS at hi hk ⊢
      omega
  · have key : ∀ y, exS d y → Re (wy17 gEx) (pe17 gEx) d y := fun y hy => by
      have h := ex_rv.2 hy
      induction h with
      | root h1 h2 => exact .root h1 h2
      | step h0 h1 h2 ih => exact .step (ih (ex_rv.1 h0)) h1 h2
    rintro (h | ⟨rfl, h⟩)
    · exact key x h
    · exact .eph (i := 5) (k := 2) (by rw [peEx]; simp) (key 5 (by unfold exS; omega)) (key 2 (by unfold exS; omega)) (by omega)
theorem ex_rs (d : Nat) (ins : Nat → Bool) (h : ∀ x, ins x = true ↔ exT d x) : rs (wd17 gEx) (wy17 gEx) (pe17 gEx) 6 d = smb (wd17 gEx) ins 6 := by
  unfold rs
  rw [smb_sm (p := Re (wy17 gEx) (pe17 gEx) d) (fun x => by rw [h, ex_re])]
def exI (d x : Nat) : Bool := decide ((d ≠ 1 ∧ x ≠ d ∧ (x = 1 ∨ x = 2 ∨ x = 3 ∨ (x = 4 ∧ (d ≠ 2 ∨ d ≠ 3)) ∨ (x = 5 ∧ d ≠ 3))) ∨ (x = 6 ∧ d ≠ 1 ∧ d ≠ 2 ∧ d ≠ 3 ∧ d ≠ 5 ∧ d ≠ 6))
theorem exI_iff (d x : Nat) : exI d x = true ↔ exT d x := by
  unfold exI exT exS
  rw [decide_eq_true_iff]
theorem ex_words : rs (wd17 gEx) (wy17 gEx) (pe17 gEx) 6 0 = 19 ∧ rs (wd17 gEx) (wy17 gEx) (pe17 gEx) 6 1 = 0 ∧ rs (wd17 gEx) (wy17 gEx) (pe17 gEx) 6 2 = 14 ∧ rs (wd17 gEx) (wy17 gEx) (pe17 gEx) 6 3 = 9 ∧ rs (wd17 gEx) (wy17 gEx) (pe17 gEx) 6 4 = 17 ∧ rs (wd17 gEx) (wy17 gEx) (pe17 gEx) 6 5 = 13 ∧ rs (wd17 gEx) (wy17 gEx) (pe17 gEx) 6 6 = 17 := by
  refine ⟨?_, ?_, ?_, ?_, ?_, ?_, ?_⟩ <;> rw [ex_rs _ _ (exI_iff _)] <;> decide
theorem ex_dr : Dr17 gEx [19, 5, 10, 2, 6, 2] := by
  refine ⟨rfl, fun i z hz => ?_⟩
  obtain ⟨h0, h1, h2, h3, h4, h5, h6⟩ := ex_words
  have hl : gEx.obs.length = 6 := rfl
  rw [hl, h0]
  match i with
  | 0 => cases hz; exact .inl ⟨ex_re.2 (by unfold exT exS; omega), by rw [h1]; rfl⟩
  | 1 => cases hz; exact .inl ⟨ex_re.2 (by unfold exT exS; omega), by rw [h2]; rfl⟩
  | 2 => cases hz; exact .inl ⟨ex_re.2 (by unfold exT exS; omega), by rw [h3]; rfl⟩
  | 3 => cases hz; exact .inl ⟨ex_re.2 (by unfold exT exS; omega), by rw [h4]; rfl⟩
  | 4 => cases hz; exact .inl ⟨ex_re.2 (by unfold exT exS; omega), by rw [h5]; rfl⟩
  | 5 => cases hz; exact .inl ⟨ex_re.2 (by unfold exT exS; omega), by rw [h6]; rfl⟩
  | n + 6 => simp at hz
theorem ex_pth5 (e x : Nat) : Pth (wy17 gEx) 5 e x → (x = 5 ∧ e = 0) ∨ (x = 3 ∧ e = 1) ∨ (x = 1 ∧ e = 2) ∨ (x = 0 ∧ e = 3) := by
  induction e generalizing x with
  | zero => intro h; exact .inl ⟨h, rfl⟩
  | succ e ih =>
    rintro ⟨y, hy, hp⟩
    have := ih y hp
    rw [ex_mem] at hy
    omega
theorem ex_dis {x e : Nat} (hp : Pth (wy17 gEx) 5 e x) : Dis (wy17 gEx) 5 x e := ⟨hp, fun e' h' => by
  have h1 := ex_pth5 e x hp
  have h2 := ex_pth5 e' x h'
  omega⟩
theorem ex_row : Row17 (wy17 gEx) 5 [1, 3, 5] := by
  have p5 : Pth (wy17 gEx) 5 0 5 := rfl
  have p3 : Pth (wy17 gEx) 5 1 3 := ⟨5, ex_mem.2 (by omega), p5⟩
  have p1 : Pth (wy17 gEx) 5 2 1 := ⟨3, ex_mem.2 (by omega), p3⟩
  have key : ∀ {x y e z e' : Nat}, y ∈ wy17 gEx x → Pth (wy17 gEx) 5 e y → z ∈ wy17 gEx x → Dis (wy17 gEx) 5 z e' → e ≤ e' ∧ (e' = e → y ≤ z) := fun {x y e z e'} hy hp hz hd => by
    have h1 := ex_pth5 _ _ hp
    have h2 := ex_pth5 _ _ hd.1
    rw [ex_mem] at hy hz
    omega
  refine .inr ⟨by simp, ?_⟩
  refine .cons (y := 1) (by omega) (ex_mem.2 (by omega)) (ex_dis p1) (fun z e' hz hd => key (x := 0) (ex_mem.2 (by omega)) p1 hz hd) ?_
  refine .cons (y := 3) (by omega) (ex_mem.2 (by omega)) (ex_dis p3) (fun z e' hz hd => key (x := 1) (ex_mem.2 (by omega)) p3 hz hd) ?_
  exact .cons (y := 5) (by omega) (ex_mem.2 (by omega)) (ex_dis p5) (fun z e' hz hd => key (x := 3) (ex_mem.2 (by omega)) p5 hz hd) .nil
theorem ex_mb : MB gEx := by
  refine ⟨⟨?_, ?_, ?_, ?_, ?_⟩, ⟨?_, ?_, ?_, ?_⟩, ⟨?_, ?_⟩, ⟨?_, ?_, ?_, ?_⟩, ?_⟩
  · unfold gEx; simp [Im.Rise]
  · intro o ho
    simp only [gEx, List.mem_cons, List.not_mem_nil, or_false] at ho
    rcases ho with rfl | rfl | rfl | rfl | rfl | rfl <;> (unfold hd16; decide)
  · intro o ho z hz
    simp only [gEx, List.mem_cons, List.not_mem_nil, or_false] at ho
    rw [inB_iff]
    rcases ho with rfl | rfl | rfl | rfl | rfl | rfl <;> simp at hz <;> (simp [gEx]; omega)
  · decide
  · decide
  · intro t ht
    simp only [gEx, List.mem_singleton] at ht
    subst ht
    decide
  · intro t ht
    simp only [gEx, List.mem_singleton] at ht
    subst ht
    intro f hf
    simp only [List.mem_singleton] at hf
    subst hf
    exact ⟨by decide, fun z hz => by simp at hz; rw [inB_iff, hz]; decide⟩
  · decide
  · decide
  · decide
  · intro z hz; simp [gEx] at hz
  · decide
  · intro z hz; simp [gEx] at hz
  · exact List.nodup_nil
  · intro z hz; simp [gEx] at hz
  · have k1 : Im.Known gEx 1 := .slot [ [1] ] [1] 1 (by simp [gEx]) (by simp) (by simp) (by omega)
    have k2 : Im.Known gEx 2 := .ptr 1 2 ⟨1, 1, 0, [2, 3], []⟩ k1 rfl (by simp) (by omega)
    have k3 : Im.Known gEx 3 := .ptr 1 3 ⟨1, 1, 0, [2, 3], []⟩ k1 rfl (by simp) (by omega)
    have k4 : Im.Known gEx 4 := .ptr 2 4 ⟨2, 1, 0, [4], []⟩ k2 rfl (by simp) (by omega)
    have k5 : Im.Known gEx 5 := .ptr 3 5 ⟨3, 1, 0, [4, 5], []⟩ k3 rfl (by simp) (by omega)
    have k6 : Im.Known gEx 6 := .ptr 5 6 ⟨5, 3, 0, [2, 6], []⟩ k5 rfl (by simp) (by omega)
    intro n h1 h2
    have hl : gEx.obs.length = 6 := rfl
    rw [hl] at h2
    match n with
    | 0 => omega
    | 1 => exact k1
    | 2 => exact k2
    | 3 => exact k3
    | 4 => exact k4
    | 5 => exact k5
    | 6 => exact k6
    | n + 7 => omega
end Go.Proofs.YtkekaifiahjljaaGreatDoor
