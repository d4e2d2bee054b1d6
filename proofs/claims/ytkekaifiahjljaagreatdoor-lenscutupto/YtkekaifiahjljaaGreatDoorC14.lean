import Derived.Test.YtkekaifiahjljaaGreatDoorC13
import Derived.Test.YtkekaifiahjljaaGreatDoorC11
set_option linter.unusedVariables false
set_option maxHeartbeats 8000000
set_option maxRecDepth 20000
namespace Go.Proofs.YtkekaifiahjljaaGreatDoor.Lt
noncomputable def sm (w : Nat → Nat) (p : Nat → Prop) (l : List Nat) : Nat := (l.map (fun y => @ite _ (p y) (Classical.propDecidable _) (w y) 0)).sum
theorem sm_nil (w : Nat → Nat) (p : Nat → Prop) : sm w p [] = 0 := rfl
theorem sm_cons (w : Nat → Nat) (p : Nat → Prop) (y : Nat) (l : List Nat) : sm w p (y :: l) = @ite _ (p y) (Classical.propDecidable _) (w y) 0 + sm w p l := by
  unfold sm
  rw [List.map_cons, List.sum_cons]
theorem sm_yes {w : Nat → Nat} {p : Nat → Prop} {y : Nat} (l : List Nat) (h : p y) : sm w p (y :: l) = w y + sm w p l := by rw [sm_cons, if_pos h]
theorem sm_no {w : Nat → Nat} {p : Nat → Prop} {y : Nat} (l : List Nat) (h : ¬ p y) : sm w p (y :: l) = sm w p l := by rw [sm_cons, if_neg h, Nat.zero_add]
theorem sm_congr {w : Nat → Nat} {p q : Nat → Prop} : ∀ l : List Nat, (∀ y, y ∈ l → (p y ↔ q y)) → sm w p l = sm w q l
  | [], _ => rfl
  | y :: l, h => by
    have ih := sm_congr (w := w) l (fun z hz => h z (List.mem_cons_of_mem _ hz))
    have h1 := h y (by simp)
    by_cases hp : p y
    · rw [sm_yes l hp, sm_yes l (h1.1 hp), ih]
    · rw [sm_no l hp, sm_no l (fun k => hp (h1.2 k)), ih]
theorem sm_false {w : Nat → Nat} {p : Nat → Prop} : ∀ l : List Nat, (∀ y, y ∈ l → ¬ p y) → sm w p l = 0
  | [], _ => rfl
  | y :: l, h => by rw [sm_no l (h y (by simp)), sm_false l (fun z hz => h z (List.mem_cons_of_mem _ hz))]
theorem sm_one {w : Nat → Nat} {n : Nat} : ∀ l : List Nat, l.Nodup → n ∈ l → sm w (fun y => y = n) l = w n
  | [], _, h => by simp at h
  | y :: l, hn, h => by
    obtain ⟨n1, n2⟩ := List.nodup_cons.1 hn
    by_cases e : y = n
    · subst e
      rw [sm_yes (p := fun z => z = y) l rfl, sm_false l (fun z hz e => n1 (by rw [← e]; exact hz)), Nat.add_zero]
    · rw [sm_no (p := fun z => z = n) l e, sm_one l n2 ((List.mem_cons.1 h).resolve_left (fun k => e k.symm))]
theorem csum_zero {α : Type} (f : α → Nat) : ∀ C : List α, (∀ c, c ∈ C → f c = 0) → (C.map f).sum = 0
  | [], _ => rfl
  | c :: C, h => by rw [List.map_cons, List.sum_cons, h c (by simp), csum_zero f C (fun x hx => h x (List.mem_cons_of_mem _ hx))]
theorem csum_add {α : Type} (f h : α → Nat) : ∀ C : List α, (C.map (fun c => f c + h c)).sum = (C.map f).sum + (C.map h).sum
  | [] => rfl
  | c :: C => by
    have := csum_add f h C
    simp only [List.map_cons, List.sum_cons] at this ⊢
    omega
theorem csum_one {q : Nat → Prop} {a : Nat} : ∀ C : List Nat, C.Nodup → (∀ c c', c ∈ C → c' ∈ C → q c → q c' → c = c') → ∀ c, c ∈ C → q c → (C.map (fun c => @ite _ (q c) (Classical.propDecidable _) a 0)).sum = a
  | [], _, _, c, h, _ => by simp at h
  | b :: C, hn, hu, c, hc, hq => by
    obtain ⟨n1, n2⟩ := List.nodup_cons.1 hn
    rw [List.map_cons, List.sum_cons]
    by_cases e : c = b
    · subst e
      rw [if_pos hq, csum_zero _ C (fun x hx => by
        have : ¬ q x := fun hqx => n1 (by rw [hu c x (by simp) (List.mem_cons_of_mem _ hx) hq hqx]; exact hx)
        rw [if_neg this]), Nat.add_zero]
    · have hcC := (List.mem_cons.1 hc).resolve_left e
      have : ¬ q b := fun hqb => e (hu c b hc (by simp) hq hqb)
      rw [if_neg this, Nat.zero_add]
      exact csum_one C n2 (fun x y hx hy => hu x y (List.mem_cons_of_mem _ hx) (List.mem_cons_of_mem _ hy)) c hcC hq
theorem sm_split {w : Nat → Nat} {p q0 : Nat → Prop} {q : Nat → Nat → Prop} {C : List Nat} (hC : C.Nodup) : ∀ l : List Nat, (∀ y, y ∈ l → (p y ↔ q0 y ∨ ∃ c, c ∈ C ∧ q c y) ∧ (q0 y → ∀ c, c ∈ C → ¬ q c y) ∧ ∀ c c', c ∈ C → c' ∈ C → q c y → q c' y → c = c') → sm w p l = sm w q0 l + (C.map (fun c => sm w (q c) l)).sum
  | [], _ => by
    rw [sm_nil, sm_nil, csum_zero (fun c => sm w (q c) []) C (fun _ _ => rfl)]
  | y :: l, h => by
    have ih := sm_split (w := w) hC l (fun z hz => h z (List.mem_cons_of_mem _ hz))
    obtain ⟨h1, h2, h3⟩ := h y (by simp)
    have e : (C.map (fun c => sm w (q c) (y :: l))).sum = (C.map (fun c => @ite _ (q c y) (Classical.propDecidable _) (w y) 0)).sum + (C.map (fun c => sm w (q c) l)).sum := by
      rw [← csum_add]
      exact congrArg List.sum (List.map_congr_left (fun c _ => sm_cons _ _ _ _))
    rw [e]
    by_cases h0 : q0 y
    · rw [sm_yes l (h1.2 (.inl h0)), sm_yes l h0, csum_zero _ C (fun c hc => by rw [if_neg (h2 h0 c hc)]), ih]
      omega
    · by_cases hx : ∃ c, c ∈ C ∧ q c y
      · obtain ⟨c, hc, hq⟩ := hx
        rw [sm_yes l (h1.2 (.inr ⟨c, hc, hq⟩)), sm_no l h0, csum_one (q := fun c => q c y) C hC h3 c hc hq, ih]
        omega
      · rw [sm_no l (fun k => (h1.1 k).elim h0 hx), sm_no l h0, csum_zero _ C (fun c hc => by rw [if_neg (fun k => hx ⟨c, hc, k⟩)]), ih]
        omega
def gst (w F : Nat → Nat) (n : Nat) (a : Nat → Nat) : Nat → Nat :=
  let a1 := fun x => if x = n then a n + w n else a x
  if n = 0 then a1 else fun x => if x = F n then a1 (F n) + a1 n else a1 x
def gth (w F : Nat → Nat) : List Nat → Nat → Nat
  | [] => fun _ => 0
  | n :: l => gst w F n (gth w F l)
structure Gt (W : Nat → List Nat) (ord : List Nat) (F : Nat → Nat) : Prop where
  nd : ord.Nodup
  z : ord[0]? = some 0
  f : ∀ (v : Nat) x, ord[v]? = some x → v ≠ 0 → x ≠ 0 ∧ Ids W (F x) x ∧ ∃ u, u < v ∧ ord[u]? = some (F x)
def Dn (W : Nat → List Nat) (n y : Nat) : Prop := n = 0 ∨ y = n ∨ Ov W n y
variable {W : Nat → List Nat} {ord : List Nat} {F : Nat → Nat}
theorem Gt.inj (h : Gt W ord F) {u v a : Nat} (hu : ord[u]? = some a) (hv : ord[v]? = some a) : u = v := by
  obtain ⟨h1, h2⟩ := List.getElem?_eq_some_iff.1 hu
  obtain ⟨h3, h4⟩ := List.getElem?_eq_some_iff.1 hv
  have h5 := h.nd
  unfold List.Nodup at h5
  rw [List.pairwise_iff_getElem] at h5
  rcases Nat.lt_trichotomy u v with h6 | h6 | h6
  · exact absurd (h2.trans h4.symm) (h5 u v h1 h3 h6)
  · exact h6
  · exact absurd (h4.trans h2.symm) (h5 v u h3 h1 h6)
theorem Gt.fx (h : Gt W ord F) {x : Nat} (hx : x ∈ ord) (h0 : x ≠ 0) : Ids W (F x) x ∧ F x ∈ ord ∧ F x ≠ x := by
  obtain ⟨v, hv⟩ := List.getElem?_of_mem hx
  have hv0 : v ≠ 0 := fun e => by rw [e, h.z] at hv; cases hv; exact h0 rfl
  obtain ⟨-, h1, u, h2, h3⟩ := h.f v x hv hv0
  exact ⟨h1, List.mem_of_getElem? h3, fun e => by rw [e] at h3; have := h.inj h3 hv; omega⟩
theorem dn_up (h : Gt W ord F) {n y : Nat} (hy : y ∈ ord) (h0 : y ≠ 0) (hne : y ≠ n) : Dn W n y ↔ F y = n ∨ Dn W n (F y) := by
  obtain ⟨h1, h2, -⟩ := h.fx hy h0
  constructor
  · rintro (h3 | h3 | h3)
    · exact .inr (.inl h3)
    · exact absurd h3 hne
    · rcases h1.2 n h3 with h4 | h4
      · exact .inl h4.symm
      · exact .inr (.inr (.inr h4))
  · intro h3
    have key : F y = n → Dn W n y := fun e => by
      rcases h1.1 with h4 | h4
      · exact .inl (by rw [← e]; exact h4)
      · exact .inr (.inr (by rw [← e]; exact h4))
    rcases h3 with h3 | h3 | h3 | h3
    · exact key h3
    · exact .inl h3
    · exact key h3
    · rcases h1.1 with h4 | h4
      · exact absurd h4 h3.2.1
      · exact .inr (.inr (h3.trans h4))
def below (ord : List Nat) (F : Nat → Nat) (n : Nat) : List Nat := ord.filter (fun c => decide (c ≠ 0 ∧ F c = n))
theorem mem_below {n c : Nat} : c ∈ below ord F n ↔ c ∈ ord ∧ c ≠ 0 ∧ F c = n := by
  unfold below
  rw [List.mem_filter, decide_eq_true_iff]
theorem Gt.parts (h : Gt W ord F) {n : Nat} (hn : n ∈ ord) {y : Nat} (hy : y ∈ ord) : (Dn W n y ↔ y = n ∨ ∃ c, c ∈ below ord F n ∧ Dn W c y) ∧ (y = n → ∀ c, c ∈ below ord F n → ¬ Dn W c y) ∧ ∀ c c', c ∈ below ord F n → c' ∈ below ord F n → Dn W c y → Dn W c' y → c = c' := by
  have anti : ∀ c, c ∈ below ord F n → ¬ Dn W c n := fun c hc hd => by
    obtain ⟨c1, c2, c3⟩ := mem_below.1 hc
    obtain ⟨i1, i2, i3⟩ := h.fx c1 c2
    rcases hd with h1 | h1 | h1
    · exact c2 h1
    · exact i3 (by rw [c3, h1])
    · rw [c3] at i1
      rcases i1.1 with h2 | h2
      · exact h1.2.1 h2
      · exact h1.anti h2
  refine ⟨⟨fun hd => ?_, ?_⟩, fun e c hc => by rw [e]; exact anti c hc, fun c c' hc hc' hd hd' => ?_⟩
  · obtain ⟨v, hv⟩ := List.getElem?_of_mem hy
    clear hy
    induction v using Nat.strongRecOn generalizing y with
    | _ v ih =>
      by_cases e : y = n
      · exact .inl e
      · by_cases h0 : y = 0
        · exfalso
          rcases hd with h1 | h1 | h1
          · exact e (h0.trans h1.symm)
          · exact e h1
          · exact h1.2.1 h0
        · have hym := List.mem_of_getElem? hv
          have hv0 : v ≠ 0 := fun e => by rw [e, h.z] at hv; cases hv; exact h0 rfl
          obtain ⟨-, i1, u, hu, hfu⟩ := h.f v y hv hv0
          by_cases ef : F y = n
          · exact .inr ⟨y, mem_below.2 ⟨hym, h0, ef⟩, .inr (.inl rfl)⟩
          · have hd2 := ((dn_up h hym h0 e).1 hd).resolve_left ef
            rcases ih u hu hd2 hfu with h1 | ⟨c, h1, h2⟩
            · exact absurd h1 ef
            · refine .inr ⟨c, h1, ?_⟩
              have hcy : y ≠ c ∨ y = c := (Decidable.em _).symm
              rcases hcy with h3 | h3
              · exact (dn_up h hym h0 h3).2 (.inr h2)
              · exact .inr (.inl h3)
  · rintro (e | ⟨c, hc, hd⟩)
    · exact .inr (.inl e)
    · obtain ⟨c1, c2, c3⟩ := mem_below.1 hc
      obtain ⟨i1, -, -⟩ := h.fx c1 c2
      rw [c3] at i1
      have hnc : n = 0 ∨ Ov W n c := i1.1
      rcases hnc with h1 | h1
      · exact .inl h1
      · rcases hd with h2 | h2 | h2
        · exact absurd h2 c2
        · exact .inr (.inr (by rw [h2]; exact h1))
        · exact .inr (.inr (h1.trans h2))
  · by_cases e : c = c'
    · exact e
    · exfalso
      obtain ⟨c1, c2, c3⟩ := mem_below.1 hc
      obtain ⟨d1, d2, d3⟩ := mem_below.1 hc'
      have h1 : Dn W c c' ∨ Dn W c' c := by
        rcases hd with h1 | h1 | h1
        · exact absurd h1 c2
        · rcases hd' with h2 | h2 | h2
          · exact absurd h2 d2
          · exact absurd (h1.symm.trans h2) e
          · exact .inr (by rw [← h1]; exact .inr (.inr h2))
        · rcases hd' with h2 | h2 | h2
          · exact absurd h2 d2
          · exact .inl (by rw [← h2]; exact .inr (.inr h1))
          · rcases h1.chain h2 e with h3 | h3
            · exact .inl (.inr (.inr h3))
            · exact .inr (.inr (.inr h3))
      rcases h1 with h1 | h1
      · rw [dn_up h d1 d2 (fun k => e k.symm), d3] at h1
        rcases h1 with h2 | h2
        · exact (h.fx c1 c2).2.2 (by rw [c3, h2])
        · exact anti c hc h2
      · rw [dn_up h c1 c2 e, c3] at h1
        rcases h1 with h2 | h2
        · exact (h.fx d1 d2).2.2 (by rw [d3, h2])
        · exact anti c' hc' h2
theorem Gt.sum (h : Gt W ord F) (w : Nat → Nat) {n : Nat} (hn : n ∈ ord) : sm w (Dn W n) ord = w n + ((below ord F n).map (fun c => sm w (Dn W c) ord)).sum := by
  rw [sm_split (q0 := fun y => y = n) (q := fun c => Dn W c) (h.nd.filter _) ord (fun y hy => h.parts hn hy), sm_one ord h.nd hn]
  rfl
theorem Gt.gth (h : Gt W ord F) (w : Nat → Nat) : ∀ (l pre : List Nat), pre ++ l = ord → ∀ x, Lt.gth w F l x = (if x ∈ l then w x else 0) + ((l.filter (fun c => decide (c ≠ 0 ∧ F c = x))).map (fun c => sm w (Dn W c) ord)).sum
  | [], pre, _, x => by simp [Lt.gth]
  | n :: l, pre, hp, x => by
    have ih := h.gth w l (pre ++ [n]) (by rw [List.append_assoc]; exact hp)
    have hnd := h.nd
    rw [← hp, List.nodup_append] at hnd
    obtain ⟨n1, n2⟩ := List.nodup_cons.1 hnd.2.1
    have hn : n ∈ ord := by rw [← hp]; simp
    have hnp : ord[pre.length]? = some n := by rw [← hp, List.getElem?_append_right (Nat.le_refl _)]; simp
    have hbl : l.filter (fun c => decide (c ≠ 0 ∧ F c = n)) = below ord F n := by
      unfold below
      rw [← hp, List.filter_append, List.filter_cons]
      have e1 : ¬ (n ≠ 0 ∧ F n = n) := fun ⟨a, b⟩ => (h.fx hn a).2.2 b
      rw [decide_eq_false e1]
      have e2 : pre.filter (fun c => decide (c ≠ 0 ∧ F c = n)) = [] := by
        rw [List.filter_eq_nil_iff]
        intro c hc hk
        obtain ⟨a, b⟩ := of_decide_eq_true hk
        obtain ⟨v, hv⟩ := List.getElem?_of_mem hc
        have hvl := (List.getElem?_eq_some_iff.1 hv).1
        have hv2 : ord[v]? = some c := by rw [← hp, List.getElem?_append_left hvl]; exact hv
        have hv0 : v ≠ 0 := fun e => by rw [e, h.z] at hv2; cases hv2; exact a rfl
        obtain ⟨-, -, u, hu, hfu⟩ := h.f v c hv2 hv0
        rw [b] at hfu
        have := h.inj hfu hnp
        omega
      rw [e2]
      simp
    have ha : Lt.gth w F l n + w n = sm w (Dn W n) ord := by
      rw [ih n, if_neg n1, hbl, h.sum w hn]
      omega
    show gst w F n (Lt.gth w F l) x = _
    unfold gst
    rw [ha]
    by_cases h0 : n = 0
    · rw [if_pos h0]
      show (if x = n then sm w (Dn W n) ord else Lt.gth w F l x) = _
      rw [List.filter_cons, decide_eq_false (fun k : n ≠ 0 ∧ F n = x => k.1 h0)]
      by_cases e : x = n
      · rw [if_pos e, e, if_pos (by simp), h.sum w hn, ← hbl]
        simp
      · rw [if_neg e, ih x]
        by_cases e2 : x ∈ l
        · rw [if_pos e2, if_pos (by simp [e2])]; simp
        · rw [if_neg e2, if_neg (by simp [e, e2])]; simp
    · rw [if_neg h0]
      have hfn : F n ≠ n := (h.fx hn h0).2.2
      show (if x = F n then (if F n = n then sm w (Dn W n) ord else Lt.gth w F l (F n)) + (if n = n then sm w (Dn W n) ord else Lt.gth w F l n) else (if x = n then sm w (Dn W n) ord else Lt.gth w F l x)) = _
      rw [if_neg hfn, if_pos rfl, List.filter_cons]
      by_cases e : x = F n
      · have e9 : x ≠ n := fun k => hfn (e.symm.trans k)
        rw [if_pos e, decide_eq_true (show n ≠ 0 ∧ F n = x from ⟨h0, e.symm⟩), ← e, ih x]
        simp only [if_true, List.map_cons, List.sum_cons]
        by_cases e2 : x ∈ l
        · rw [if_pos e2, if_pos (by simp [e2])]; omega
        · rw [if_neg e2, if_neg (by simp [e9, e2])]; omega
      · rw [if_neg e, decide_eq_false (fun k : n ≠ 0 ∧ F n = x => e k.2.symm)]
        by_cases e1 : x = n
        · rw [if_pos e1, e1, if_pos (by simp), h.sum w hn, ← hbl]
          simp
        · rw [if_neg e1, ih x]
          by_cases e2 : x ∈ l
          · rw [if_pos e2, if_pos (by simp [e2])]; simp
          · rw [if_neg e2, if_neg (by simp [e1, e2])]; simp
theorem Gt.all (h : Gt W ord F) (w : Nat → Nat) {n : Nat} (hn : n ∈ ord) : Lt.gth w F ord n = sm w (Dn W n) ord := by
  rw [h.gth w ord [] rfl n, if_pos hn, h.sum w hn]
  unfold below
  rfl
theorem Gt.none (h : Gt W ord F) (w : Nat → Nat) {n : Nat} (hn : n ∉ ord) : Lt.gth w F ord n = 0 := by
  rw [h.gth w ord [] rfl n, if_neg hn]
  have : ord.filter (fun c => decide (c ≠ 0 ∧ F c = n)) = [] := by
    rw [List.filter_eq_nil_iff]
    intro c hc hk
    obtain ⟨a, b⟩ := of_decide_eq_true hk
    exact hn (by rw [← b]; exact (h.fx hc a).2.1)
  rw [this]
  rfl
theorem sm_filter (w : Nat → Nat) (p : Nat → Prop) : ∀ l : List Nat, sm w p l = ((l.filter (fun y => @decide (p y) (Classical.propDecidable _))).map w).sum
  | [] => rfl
  | y :: l => by
    have ih := sm_filter w p l
    by_cases h : p y
    · rw [sm_yes l h, List.filter_cons, if_pos (@decide_eq_true _ (Classical.propDecidable _) h), List.map_cons, List.sum_cons, ih]
    · rw [sm_no l h, List.filter_cons, if_neg (by rw [@decide_eq_false _ (Classical.propDecidable _) h]; simp), ih]
theorem sm_lists {w : Nat → Nat} {p q : Nat → Prop} {l l' : List Nat} (hl : l.Nodup) (hl' : l'.Nodup) (h : ∀ y, (y ∈ l ∧ p y) ↔ (y ∈ l' ∧ q y)) : sm w p l = sm w q l' := by
  rw [sm_filter, sm_filter]
  refine ((List.perm_ext_iff_of_nodup (hl.filter _) (hl'.filter _)).2 (fun y => ?_)).map w |>.sum_nat
  rw [List.mem_filter, List.mem_filter, @decide_eq_true_iff _ (Classical.propDecidable _), @decide_eq_true_iff _ (Classical.propDecidable _)]
  exact h y
theorem sm_and {w : Nat → Nat} {p q : Nat → Prop} : ∀ l : List Nat, (∀ y, q y → p y) → sm w p l = sm w q l + sm w (fun y => p y ∧ ¬ q y) l
  | [], _ => rfl
  | y :: l, h => by
    have ih := sm_and (w := w) l h
    by_cases h1 : q y
    · rw [sm_yes l (h y h1), sm_yes l h1, sm_no (p := fun y => p y ∧ ¬ q y) l (fun k => k.2 h1), ih]
      omega
    · rw [sm_no l h1]
      by_cases h2 : p y
      · rw [sm_yes l h2, sm_yes (p := fun y => p y ∧ ¬ q y) l ⟨h2, h1⟩, ih]
        omega
      · rw [sm_no l h2, sm_no (p := fun y => p y ∧ ¬ q y) l (fun k => h2 k.1), ih]
theorem sm_le {w : Nat → Nat} {p : Nat → Prop} : ∀ l : List Nat, sm w p l ≤ (l.map w).sum
  | [] => Nat.le_refl _
  | y :: l => by
    have ih := sm_le (w := w) (p := p) l
    rw [List.map_cons, List.sum_cons]
    by_cases h : p y
    · rw [sm_yes l h]; omega
    · rw [sm_no l h]; omega
noncomputable def rs (w : Nat → Nat) (W : Nat → List Nat) (P : List (Nat × Nat × Nat)) (M d : Nat) : Nat := sm w (Re W P d) (List.range' 1 M)
variable {W Wp : Nat → List Nat} {P : List (Nat × Nat × Nat)} {ord seq N : List Nat} {par by' F S I : Nat → Nat} {M : Nat} {H : List (Nat × Nat × Nat)}
structure Rt (W Wp : Nat → List Nat) (P : List (Nat × Nat × Nat)) (M : Nat) (seq : List Nat) (by' : Nat → Nat) (H : List (Nat × Nat × Nat)) (N : List Nat) (ord : List Nat) (F : Nat → Nat) : Prop where
  rx : Rx W P 0 seq seq.length by'
  hH : ∀ e, e ∈ H ↔ e ∈ P ∧ e.1 ∈ seq ∧ e.2.1 ∈ seq
  hw : ∀ x y, y ∈ W x → 1 ≤ y ∧ y ≤ M
  hp : ∀ i k v, (i, k, v) ∈ P → 1 ≤ v ∧ v ≤ M
  nd : Nd P seq by' N
  hW : ∀ x y, y ∈ wwith W H x ↔ y ∈ Wp x ∧ y ≠ 0
  tr : ∃ (par S I : Nat → Nat), Df Wp ord par [] ∧ Sem (Ed Wp ord) ord.length S ∧ Idm par ord.length S I ∧ ∀ (v : Nat) x i, ord[v]? = some x → ord[I v]? = some i → F x = i
theorem Rt.wn (h : Rt W Wp P M seq by' H N ord F) : (∀ x y, y ∈ W x → y ≠ 0) ∧ (∀ i k v, (i, k, v) ∈ P → v ≠ 0) := ⟨fun x y hy => by have := h.hw x y hy; omega, fun i k v hv => by have := h.hp i k v hv; omega⟩
theorem Rt.rv (h : Rt W Wp P M seq by' H N ord F) {n : Nat} (hn : n ∉ N) (x : Nat) : Rv (wwith W H) n x ↔ Re W P n x := h.rx.rv_iff h.hH h.wn.1 h.wn.2 h.nd hn x
theorem Rt.n0 (h : Rt W Wp P M seq by' H N ord F) : 0 ∉ N := fun h0 => (h.rx.nz 0 (h.nd.i 0 h0)).1 rfl
theorem Rt.mem (h : Rt W Wp P M seq by' H N ord F) (x : Nat) : Re W P 0 x ↔ x ∈ ord ∧ x ≠ 0 := by
  obtain ⟨par, S, I, hD, -⟩ := h.tr
  rw [← h.rv h.n0, hD.rv_iff h.hW]
theorem Rt.in_ (h : Rt W Wp P M seq by' H N ord F) {d x : Nat} (hr : Re W P d x) : 1 ≤ x ∧ x ≤ M := by
  cases hr with
  | root h1 _ => exact h.hw _ _ h1
  | step _ h1 _ => exact h.hw _ _ h1
  | eph h1 _ _ _ => exact h.hp _ _ _ h1
theorem Rt.gt (h : Rt W Wp P M seq by' H N ord F) : Gt (wwith W H) ord F := by
  obtain ⟨par, S, I, hD, hS, hI, hf⟩ := h.tr
  refine ⟨hD.nd, hD.z, fun v x hx h0 => ?_⟩
  have hvl := (List.getElem?_eq_some_iff.1 hx).1
  have h1 := (hD.d.idom hS hI v h0 hvl).1
  obtain ⟨h2, -⟩ := hD.d.sem_anc hS h0 hvl
  have h3 := hD.d.le (by omega) h1
  have hid : ord[I v]? = some (ord[I v]'(by omega)) := List.getElem?_eq_getElem (by omega)
  have hfx := hf v x _ hx hid
  rw [← hfx] at hid
  exact ⟨hD.nz_at h0 hx, Df.ids0 h.hW hD hS hI h0 hx hid, I v, by omega, hid⟩
theorem Rt.told (h : Rt W Wp P M seq by' H N ord F) (w : Nat → Nat) {n : Nat} (h0 : n ≠ 0) (hn : n ∉ N) : (Re W P 0 n → gth w F ord n + rs w W P M n = rs w W P M 0) ∧ (¬ Re W P 0 n → gth w F ord n = 0) := by
  have hg := h.gt
  constructor
  · intro hr
    have hno := ((h.mem n).1 hr).1
    have h1 : gth w F ord n = sm w (fun y => Re W P 0 y ∧ ¬ Re W P n y) (List.range' 1 M) := by
      rw [hg.all w hno]
      refine sm_lists hg.nd (List.nodup_range' ..) (fun y => ?_)
      rw [List.mem_range'_1]
      constructor
      · rintro ⟨hy, hd⟩
        have hy0 : Re W P 0 y ∧ ¬ Re W P n y := by
          rcases hd with h2 | h2 | h2
          · exact absurd h2 h0
          · rw [h2]; exact ⟨hr, fun k => k.ne rfl⟩
          · exact ⟨(h.rv h.n0 y).1 h2.2.2.2.1, fun k => h2.2.2.2.2.2 ((h.rv hn y).2 k)⟩
        have := h.in_ hy0.1
        exact ⟨⟨this.1, by omega⟩, hy0⟩
      · rintro ⟨-, hy1, hy2⟩
        obtain ⟨hyo, hy0⟩ := (h.mem y).1 hy1
        refine ⟨hyo, .inr ?_⟩
        by_cases e : y = n
        · exact .inl e
        · exact .inr ⟨h0, hy0, e, (h.rv h.n0 y).2 hy1, (h.rv h.n0 n).2 hr, fun k => hy2 ((h.rv hn y).1 k)⟩
    unfold rs
    rw [h1, sm_and (p := Re W P 0) (q := Re W P n) _ (fun y hy => hy.all h.wn.1 h.wn.2)]
    omega
  · intro hr
    exact hg.none w (fun k => hr ((h.mem n).2 ⟨k, h0⟩))
theorem Rt.whole (h : Rt W Wp P M seq by' H N ord F) (w : Nat → Nat) (hw0 : w 0 = 0) : gth w F ord 0 = rs w W P M 0 := by
  have hg := h.gt
  rw [hg.all w (List.mem_of_getElem? hg.z)]
  have e : sm w (Dn (wwith W H) 0) ord = sm w (fun y => y ≠ 0) ord := by
    rw [sm_and (p := Dn (wwith W H) 0) (q := fun y => y ≠ 0) ord (fun y _ => .inl rfl)]
    have : sm w (fun y => Dn (wwith W H) 0 y ∧ ¬ y ≠ 0) ord = sm w (fun y => y = 0) ord := sm_congr ord (fun y _ => ⟨fun k => Decidable.not_not.1 k.2, fun k => ⟨.inl rfl, fun c => c k⟩⟩)
    rw [this, sm_one ord hg.nd (List.mem_of_getElem? hg.z), hw0, Nat.add_zero]
  rw [e]
  unfold rs
  refine sm_lists hg.nd (List.nodup_range' ..) (fun y => ?_)
  rw [List.mem_range'_1]
  constructor
  · intro hy
    have hr := (h.mem y).2 hy
    have := h.in_ hr
    exact ⟨⟨this.1, by omega⟩, hr⟩
  · rintro ⟨-, hr⟩
    exact (h.mem y).1 hr
variable {W : Nat → List Nat} {P : List (Nat × Nat × Nat)} {d M : Nat} {ins : Nat → Bool}
end Go.Proofs.YtkekaifiahjljaaGreatDoor.Lt
namespace Go.Proofs.YtkekaifiahjljaaGreatDoor
open Go.RowKit Go.Shelf Go.Proofs.YtkekaifiahjljaaGreatDoor.Lt
def oe17 (o : Im.Ob) (i : Nat) : Option (Nat × Nat × Nat) :=
  match o.ps with
  | k :: v :: _ => if o.kind = 3 ∧ k ≠ 0 ∧ v ≠ 0 then some (i + 1, k.toNat, v.toNat) else none
  | _ => none
def pk17 (g : Im.Gr) (k : Nat) : List (Nat × Nat × Nat) := (List.range k).filterMap (fun i => (g.obs[i]?).bind (fun o => oe17 o i))
def pe17 (g : Im.Gr) : List (Nat × Nat × Nat) := pk17 g g.obs.length
theorem pk_step {g : Im.Gr} {k : Nat} {o : Im.Ob} (h : g.obs[k]? = some o) : pk17 g (k + 1) = pk17 g k ++ (oe17 o k).toList := by
  unfold pk17
  rw [List.range_succ, List.filterMap_append]
  congr 1
  simp only [List.filterMap_cons, List.filterMap_nil, h, Option.bind_some]
  cases oe17 o k <;> rfl
theorem pk_len (g : Im.Gr) (k : Nat) : (pk17 g k).length ≤ k := by
  unfold pk17
  have := List.length_filterMap_le (fun i => (g.obs[i]?).bind (fun o => oe17 o i)) (List.range k)
  rw [List.length_range] at this
  exact this
theorem oe_iff {o : Im.Ob} {i : Nat} {e : Nat × Nat × Nat} (h0 : ∀ z, z ∈ o.ps → 0 ≤ z) : oe17 o i = some e ↔ o.kind = 3 ∧ e.1 = i + 1 ∧ o.ps[0]? = some (e.2.1 : Int) ∧ o.ps[1]? = some (e.2.2 : Int) ∧ e.2.1 ≠ 0 ∧ e.2.2 ≠ 0 := by
  obtain ⟨a, b, c⟩ := e
  unfold oe17
  cases hp : o.ps with
  | nil => simp
  | cons k r =>
    cases r with
    | nil => simp
    | cons v r =>
      have hk := h0 k (by rw [hp]; simp)
      have hv := h0 v (by rw [hp]; simp)
      by_cases hc : o.kind = 3 ∧ k ≠ 0 ∧ v ≠ 0
      · simp only [if_pos hc, Option.some.injEq, Prod.mk.injEq, List.getElem?_cons_zero, List.getElem?_cons_succ]
        constructor
        · rintro ⟨rfl, rfl, rfl⟩
          exact ⟨hc.1, rfl, by omega, by omega, by omega, by omega⟩
        · rintro ⟨-, h1, h2, h3, -, -⟩
          exact ⟨h1.symm, by omega, by omega⟩
      · simp only [if_neg hc, List.getElem?_cons_zero, List.getElem?_cons_succ, Option.some.injEq]
        constructor
        · intro h; cases h
        · rintro ⟨h1, -, h2, h3, h4, h5⟩
          exact absurd ⟨h1, by omega, by omega⟩ hc
theorem mem_pe {g : Im.Gr} (hm : MB g) {e : Nat × Nat × Nat} : e ∈ pe17 g ↔ ∃ o, 1 ≤ e.1 ∧ g.obs[e.1 - 1]? = some o ∧ o.kind = 3 ∧ o.ps[0]? = some (e.2.1 : Int) ∧ o.ps[1]? = some (e.2.2 : Int) ∧ e.2.1 ≠ 0 ∧ e.2.2 ≠ 0 := by
  unfold pe17 pk17
  rw [List.mem_filterMap]
  constructor
  · rintro ⟨i, hi, h⟩
    cases ho : g.obs[i]? with
    | none => rw [ho] at h; cases h
    | some o =>
      rw [ho, Option.bind_some] at h
      obtain ⟨h1, h2, h3, h4, h5, h6⟩ := (oe_iff (fun z hz => (ps_in hm ho hz).1)).1 h
      refine ⟨o, by omega, ?_, h1, h3, h4, h5, h6⟩
      rw [h2, Nat.add_sub_cancel]
      exact ho
  · rintro ⟨o, h0, ho, h1, h3, h4, h5, h6⟩
    refine ⟨e.1 - 1, List.mem_range.2 (List.getElem?_eq_some_iff.1 ho).1, ?_⟩
    rw [ho, Option.bind_some]
    exact (oe_iff (fun z hz => (ps_in hm ho hz).1)).2 ⟨h1, by omega, h3, h4, h5, h6⟩
theorem pe_in {g : Im.Gr} (hm : MB g) {i k v : Nat} (h : (i, k, v) ∈ pe17 g) : (1 ≤ i ∧ i ≤ g.obs.length) ∧ (1 ≤ k ∧ k ≤ g.obs.length) ∧ (1 ≤ v ∧ v ≤ g.obs.length) := by
  obtain ⟨o, h0, ho, h1, h3, h4, h5, h6⟩ := (mem_pe hm).1 h
  simp only at h0 ho h3 h4 h5 h6
  have hl := (List.getElem?_eq_some_iff.1 ho).1
  have a := ps_in hm ho (List.mem_of_getElem? h3)
  have b := ps_in hm ho (List.mem_of_getElem? h4)
  omega
def wd17 (g : Im.Gr) (x : Nat) : Nat := if x = 0 then 0 else match g.obs[x - 1]? with
  | some o => 2 + o.ps.length + o.rs.length
  | none => 0
def Dr17 (g : Im.Gr) (l : List Int) : Prop := l.length = g.obs.length ∧ ∀ (i : Nat) z, l[i]? = some z → (Re (wy17 g) (pe17 g) 0 (i + 1) ∧ z = (rs (wd17 g) (wy17 g) (pe17 g) g.obs.length 0 : Int) - (rs (wd17 g) (wy17 g) (pe17 g) g.obs.length (i + 1) : Int)) ∨ (¬ Re (wy17 g) (pe17 g) 0 (i + 1) ∧ z = 0)
theorem Dr17.uniq {g : Im.Gr} {l l' : List Int} (h : Dr17 g l) (h' : Dr17 g l') : l = l' := by
  refine List.ext_getElem? (fun i => ?_)
  rcases Nat.lt_or_ge i l.length with h1 | h1
  · have h2 : i < l'.length := by have := h.1; have := h'.1; omega
    obtain ⟨z, hz⟩ : ∃ z, l[i]? = some z := ⟨_, List.getElem?_eq_getElem h1⟩
    obtain ⟨z', hz'⟩ : ∃ z, l'[i]? = some z := ⟨_, List.getElem?_eq_getElem h2⟩
    rw [hz, hz']
    congr 1
    rcases h.2 i z hz with ⟨a1, a2⟩ | ⟨a1, a2⟩ <;> rcases h'.2 i z' hz' with ⟨c1, c2⟩ | ⟨c1, c2⟩
    · rw [a2, c2]
    · exact absurd a1 c1
    · exact absurd c1 a1
    · rw [a2, c2]
  · rw [List.getElem?_eq_none h1, List.getElem?_eq_none (by have := h.1; have := h'.1; omega)]
def Pr18 (g : Im.Gr) (l : List Int) (e : Int) : Prop := (¬ MB g ∧ l = [] ∧ e = 171) ∨ (MB g ∧ e = 0 ∧ Dr17 g l)
theorem Pr18.uniq {g : Im.Gr} {l l' : List Int} {e e' : Int} (h : Pr18 g l e) (h' : Pr18 g l' e') : l = l' ∧ e = e' := by
  rcases h with ⟨h1, h2, h3⟩ | ⟨h1, h2, h3⟩ <;> rcases h' with ⟨k1, k2, k3⟩ | ⟨k1, k2, k3⟩
  · exact ⟨h2.trans k2.symm, h3.trans k3.symm⟩
  · exact absurd k1 h1
  · exact absurd h1 k1
  · exact ⟨h3.uniq k3, h2.trans k2.symm⟩
end Go.Proofs.YtkekaifiahjljaaGreatDoor
