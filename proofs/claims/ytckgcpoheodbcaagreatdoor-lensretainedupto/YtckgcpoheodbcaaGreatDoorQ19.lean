import Derived.Test.YtckgcpoheodbcaaGreatDoorQ18
set_option linter.unusedVariables false
set_option maxHeartbeats 8000000
namespace Go.Proofs.YtckgcpoheodbcaaGreatDoor.Lt
inductive Re (W : Nat → List Nat) (P : List (Nat × Nat × Nat)) (d : Nat) : Nat → Prop
 | root {y : Nat} : y ∈ W 0 → y ≠ d → Re W P d y
 | step {u y : Nat} : Re W P d u → y ∈ W u → y ≠ d → Re W P d y
 | eph {i k v : Nat} : (i, k, v) ∈ P → Re W P d i → Re W P d k → v ≠ d → Re W P d v
variable {W : Nat → List Nat} {P : List (Nat × Nat × Nat)} {d : Nat}
theorem Re.ne {y : Nat} (h : Re W P d y) : y ≠ d := by
 cases h with
 | root _ h => exact h
 | step _ _ h => exact h
 | eph _ _ _ h => exact h
theorem Re.all (hw : ∀ x y, y ∈ W x → y ≠ 0) (hp : ∀ i k v, (i, k, v) ∈ P → v ≠ 0) {y : Nat} (h : Re W P d y) : Re W P 0 y := by
 induction h with
 | root h1 _ => exact .root h1 (hw _ _ h1)
 | step _ h1 _ ih => exact .step ih h1 (hw _ _ h1)
 | eph h1 _ _ _ ih1 ih2 => exact .eph h1 ih1 ih2 (hp _ _ _ h1)
def Met (W : Nat → List Nat) (P : List (Nat × Nat × Nat)) (seq : List Nat) (j y b : Nat) : Prop :=
 (b = 0 ∧ y ∈ W 0) ∨ (b ∈ seq.take j ∧ b ≠ 0 ∧ y ∈ W b) ∨ (∃ κ, (b, κ, y) ∈ P ∧ b ∈ seq.take j ∧ κ ∈ seq.take j)
structure Rx (W : Nat → List Nat) (P : List (Nat × Nat × Nat)) (d : Nat) (seq : List Nat) (k : Nat) (by' : Nat → Nat) : Prop where
 nd : seq.Nodup
 nz : ∀ y, y ∈ seq → y ≠ 0 ∧ y ≠ d
 src : ∀ (j : Nat) y, seq[j]? = some y → Met W P seq j y (by' y)
 root : ∀ y, y ∈ W 0 → y ≠ d → y ∈ seq
 clo : ∀ u, u ∈ seq.take k → ∀ y, y ∈ W u → y ≠ d → y ∈ seq
 eph : ∀ i κ v, (i, κ, v) ∈ P → v ≠ d → i ∈ seq.take k → κ ∈ seq.take k → v ∈ seq
 le : k ≤ seq.length
structure Ry (W : Nat → List Nat) (P : List (Nat × Nat × Nat)) (d : Nat) (seq : List Nat) (by' : Nat → Nat) : Prop where
 nd : seq.Nodup
 nz : ∀ y, y ∈ seq → y ≠ 0 ∧ y ≠ d
 src : ∀ (j : Nat) y, seq[j]? = some y → Met W P seq j y (by' y)
variable {seq : List Nat} {by' : Nat → Nat}
theorem Met.mono {seq2 : List Nat} {j y b : Nat} (h : Met W P seq j y b) (hj : j ≤ seq.length) : Met W P (seq ++ seq2) j y b := by
 have e : (seq ++ seq2).take j = seq.take j := by rw [List.take_append_of_le_length hj]
 unfold Met
 rw [e]
 exact h
theorem Ry.add (h : Ry W P d seq by') {y b : Nat} (hy : y ∉ seq) (h0 : y ≠ 0) (hd : y ≠ d) (hm : (b = 0 ∧ y ∈ W 0) ∨ (b ∈ seq ∧ b ≠ 0 ∧ y ∈ W b) ∨ (∃ κ, (b, κ, y) ∈ P ∧ b ∈ seq ∧ κ ∈ seq)) : Ry W P d (seq ++ [y]) (fun x => if x = y then b else by' x) := by
 refine ⟨?_, fun x hx => ?_, fun j x hx => ?_⟩
 ·rw [List.nodup_append]
  exact ⟨h.nd, by simp, fun a ha c hc => by rw [List.mem_singleton.1 hc]; exact fun e => hy (by rw [← e]; exact ha)⟩
 ·rcases List.mem_append.1 hx with h1 | h1
  ·exact h.nz x h1
  ·rw [List.mem_singleton.1 h1]; exact ⟨h0, hd⟩
 ·rcases Nat.lt_or_ge j seq.length with h1 | h1
  ·rw [List.getElem?_append_left h1] at hx
   have hne : x ≠ y := fun e => hy (by rw [← e]; exact List.mem_of_getElem? hx)
   show Met W P (seq ++ [y]) j x (if x = y then b else by' x)
   rw [if_neg hne]
   exact (h.src j x hx).mono (by omega)
  ·rw [List.getElem?_append_right h1] at hx
   have h2 := (List.getElem?_eq_some_iff.1 hx).1
   simp at h2
   have h3 : j = seq.length := by omega
   subst h3
   simp at hx
   subst hx
   show Met W P (seq ++ [y]) seq.length y (if y = y then b else by' y)
   rw [if_pos rfl]
   have e : (seq ++ [y]).take seq.length = seq := by rw [List.take_append_of_le_length (Nat.le_refl _), List.take_length]
   unfold Met
   rw [e]
   exact hm
theorem Rx.ry {k : Nat} (h : Rx W P d seq k by') : Ry W P d seq by' := ⟨h.nd, h.nz, h.src⟩
theorem Ry.start (h : Ry W P d seq by') (hr : ∀ y, y ∈ W 0 → y ≠ d → y ∈ seq) : Rx W P d seq 0 by' :=
 ⟨h.nd, h.nz, h.src, hr, fun u hu => by simp at hu, fun i κ v _ _ hi => by simp at hi, Nat.zero_le _⟩
theorem Rx.next {k u : Nat} {seq2 : List Nat} {by2 : Nat → Nat} (h : Rx W P d seq k by') (hu : seq[k]? = some u) (h2 : Ry W P d (seq ++ seq2) by2) (hw : ∀ y, y ∈ W u → y ≠ d → y ∈ seq ++ seq2) (he : ∀ i κ v, (i, κ, v) ∈ P → v ≠ d → i = u ∨ κ = u → i ∈ seq.take (k + 1) → κ ∈ seq.take (k + 1) → v ∈ seq ++ seq2) : Rx W P d (seq ++ seq2) (k + 1) by2 := by
 have hk := (List.getElem?_eq_some_iff.1 hu).1
 have et : (seq ++ seq2).take (k + 1) = seq.take k ++ [u] := by rw [List.take_append_of_le_length (by omega), List.take_add_one, hu]; rfl
 have et2 : seq.take (k + 1) = seq.take k ++ [u] := by rw [List.take_add_one, hu]; rfl
 refine ⟨h2.nd, h2.nz, h2.src, fun y h1 h3 => List.mem_append_left _ (h.root y h1 h3), fun x hx y hy hd => ?_, fun i κ v hp hv hi hκ => ?_, by rw [List.length_append]; omega⟩
 ·rw [et] at hx
  rcases List.mem_append.1 hx with h1 | h1
  ·exact List.mem_append_left _ (h.clo x h1 y hy hd)
  ·rw [List.mem_singleton.1 h1] at hy
   exact hw y hy hd
 ·rw [et] at hi hκ
  by_cases e : i = u ∨ κ = u
  ·exact he i κ v hp hv e (by rw [et2]; exact hi) (by rw [et2]; exact hκ)
  ·have h1 : i ∈ seq.take k := (List.mem_append.1 hi).resolve_right (fun h1 => e (.inl (List.mem_singleton.1 h1)))
   have h3 : κ ∈ seq.take k := (List.mem_append.1 hκ).resolve_right (fun h1 => e (.inr (List.mem_singleton.1 h1)))
   exact List.mem_append_left _ (h.eph i κ v hp hv h1 h3)
theorem Rx.done (h : Rx W P d seq seq.length by') (y : Nat) : y ∈ seq ↔ Re W P d y := by
 constructor
 ·intro hy
  obtain ⟨j, hj⟩ := List.getElem?_of_mem hy
  clear hy
  induction j using Nat.strongRecOn generalizing y with
  | _ j ih =>
   have hm := List.mem_of_getElem? hj
   have tk : ∀ x, x ∈ seq.take j → Re W P d x := fun x hx => by
    obtain ⟨i, hi⟩ := List.getElem?_of_mem hx
    rw [List.getElem?_take] at hi
    by_cases e : i < j
    ·rw [if_pos e] at hi; exact ih i e x hi
    ·rw [if_neg e] at hi; cases hi
   rcases h.src j y hj with ⟨-, h1⟩ | ⟨h1, h2, h3⟩ | ⟨κ, h1, h2, h3⟩
   ·exact .root h1 (h.nz y hm).2
   ·exact .step (tk _ h1) h3 (h.nz y hm).2
   ·exact .eph h1 (tk _ h2) (tk _ h3) (h.nz y hm).2
 ·intro hr
  induction hr with
  | root h1 h2 => exact h.root _ h1 h2
  | step _ h1 h2 ih => exact h.clo _ (by rw [List.take_length]; exact ih) _ h1 h2
  | eph h1 _ _ h2 ih1 ih2 => exact h.eph _ _ _ h1 h2 (by rw [List.take_length]; exact ih1) (by rw [List.take_length]; exact ih2)
structure Nd (P : List (Nat × Nat × Nat)) (seq : List Nat) (by' : Nat → Nat) (N : List Nat) : Prop where
 i : ∀ x, x ∈ N → x ∈ seq
 c : ∀ x, x ∈ N → by' x ≠ 0 → by' x ∈ N
 p : ∀ i κ v, (i, κ, v) ∈ P → i ∈ seq → κ ∈ seq → i ∈ N ∧ κ ∈ N
theorem Rx.needed (h : Rx W P 0 seq seq.length by') {N : List Nat} (hN : Nd P seq by' N) {n : Nat} (hn : n ∉ N) : ∀ x, x ∈ N → Re W P n x := by
 have key : ∀ (j : Nat) x, seq[j]? = some x → x ∈ N → Re W P n x := by
  intro j
  induction j using Nat.strongRecOn with
  | _ j ih =>
   intro x hx hxN
   have hne : x ≠ n := fun e => hn (by rw [← e]; exact hxN)
   have tk : ∀ y, y ∈ seq.take j → y ∈ N → Re W P n y := fun y hy hyN => by
    obtain ⟨i, hi⟩ := List.getElem?_of_mem hy
    rw [List.getElem?_take] at hi
    by_cases e : i < j
    ·rw [if_pos e] at hi; exact ih i e y hi hyN
    ·rw [if_neg e] at hi; cases hi
   rcases h.src j x hx with ⟨-, h1⟩ | ⟨h1, h2, h3⟩ | ⟨κ, h1, h2, h3⟩
   ·exact .root h1 hne
   ·exact .step (tk _ h1 (hN.c x hxN h2)) h3 hne
   ·obtain ⟨p1, p2⟩ := hN.p _ _ _ h1 (List.mem_of_mem_take h2) (List.mem_of_mem_take h3)
    exact .eph h1 (tk _ h2 p1) (tk _ h3 p2) hne
 intro x hx
 obtain ⟨j, hj⟩ := List.getElem?_of_mem (hN.i x hx)
 exact key j x hj hx
def wwith (W : Nat → List Nat) (H : List (Nat × Nat × Nat)) (x : Nat) : List Nat := if x = 0 then W 0 ++ H.map (fun e => e.2.2) else W x
theorem Rx.rv_iff (h : Rx W P 0 seq seq.length by') {H : List (Nat × Nat × Nat)} {N : List Nat} (hH : ∀ e, e ∈ H ↔ e ∈ P ∧ e.1 ∈ seq ∧ e.2.1 ∈ seq) (hw : ∀ x y, y ∈ W x → y ≠ 0) (hp : ∀ i k v, (i, k, v) ∈ P → v ≠ 0) (hN : Nd P seq by' N) {n : Nat} (hn : n ∉ N) (x : Nat) : Rv (wwith W H) n x ↔ Re W P n x := by
 constructor
 ·intro hx
  induction hx with
  | @root y h1 h2 =>
   unfold wwith at h1
   rw [if_pos rfl] at h1
   rcases List.mem_append.1 h1 with h3 | h3
   ·exact .root h3 h2
   ·obtain ⟨⟨i, κ, v⟩, h4, rfl⟩ := List.mem_map.1 h3
    obtain ⟨h5, h6, h7⟩ := (hH _).1 h4
    obtain ⟨p1, p2⟩ := hN.p i κ v h5 h6 h7
    exact .eph h5 (h.needed hN hn i p1) (h.needed hN hn κ p2) h2
  | @step u y hu h1 h2 ih =>
   by_cases e : u = 0
   ·have h3 := h.done u
    have h4 := (h3.2 (ih.all hw hp))
    exact absurd e (h.nz u h4).1
   ·unfold wwith at h1
    rw [if_neg e] at h1
    exact .step ih h1 h2
 ·intro hx
  induction hx with
  | @root y h1 h2 => exact .root (by unfold wwith; rw [if_pos rfl]; exact List.mem_append_left _ h1) h2
  | @step u y hu h1 h2 ih =>
   have h4 := ((h.done u).2 (hu.all hw hp))
   exact .step ih (by unfold wwith; rw [if_neg (h.nz u h4).1]; exact h1) h2
  | @eph i κ v h1 hi hk h2 _ _ =>
   have h4 := ((h.done i).2 (hi.all hw hp))
   have h5 := ((h.done κ).2 (hk.all hw hp))
   refine .root ?_ h2
   unfold wwith
   rw [if_pos rfl]
   exact List.mem_append_right _ (List.mem_map.2 ⟨(i, κ, v), (hH _).2 ⟨h1, h4, h5⟩, rfl⟩)
noncomputable def sm (w : Nat → Nat) (p : Nat → Prop) (l : List Nat) : Nat := (l.map (fun y => @ite _ (p y) (Classical.propDecidable _) (w y) 0)).sum
theorem sm_nil (w : Nat → Nat) (p : Nat → Prop) : sm w p [] = 0 := rfl
theorem sm_cons (w : Nat → Nat) (p : Nat → Prop) (y : Nat) (l : List Nat) : sm w p (y :: l) = @ite _ (p y) (Classical.propDecidable _) (w y) 0 + sm w p l := by
 unfold sm
 rw [List.map_cons, List.sum_cons]
theorem sm_yes {w : Nat → Nat} {p : Nat → Prop} {y : Nat} (l : List Nat) (h : p y) : sm w p (y :: l) = w y + sm w p l := by rw [sm_cons, if_pos h]
theorem sm_no {w : Nat → Nat} {p : Nat → Prop} {y : Nat} (l : List Nat) (h : ¬ p y) : sm w p (y :: l) = sm w p l := by rw [sm_cons, if_neg h, Nat.zero_add]
theorem sm_congr {w : Nat → Nat} {p q : Nat → Prop} : ∀ l : List Nat, (∀ y, y ∈ l → (p y ↔ q y)) → sm w p l = sm w q l
 | [], _ => rfl
 | y :: l, h => by
  have ih := sm_congr (w := w) l (fun z hz => h z (List.mem_cons_of_mem _ hz))
  have h1 := h y (by simp)
  by_cases hp : p y
  ·rw [sm_yes l hp, sm_yes l (h1.1 hp), ih]
  ·rw [sm_no l hp, sm_no l (fun k => hp (h1.2 k)), ih]
theorem sm_false {w : Nat → Nat} {p : Nat → Prop} : ∀ l : List Nat, (∀ y, y ∈ l → ¬ p y) → sm w p l = 0
 | [], _ => rfl
 | y :: l, h => by rw [sm_no l (h y (by simp)), sm_false l (fun z hz => h z (List.mem_cons_of_mem _ hz))]
theorem sm_one {w : Nat → Nat} {n : Nat} : ∀ l : List Nat, l.Nodup → n ∈ l → sm w (fun y => y = n) l = w n
 | [], _, h => by simp at h
 | y :: l, hn, h => by
  obtain ⟨n1, n2⟩ := List.nodup_cons.1 hn
  by_cases e : y = n
  ·subst e
   rw [sm_yes (p := fun z => z = y) l rfl, sm_false l (fun z hz e => n1 (by rw [← e]; exact hz)), Nat.add_zero]
  ·rw [sm_no (p := fun z => z = n) l e, sm_one l n2 ((List.mem_cons.1 h).resolve_left (fun k => e k.symm))]
theorem csum_zero {α : Type} (f : α → Nat) : ∀ C : List α, (∀ c, c ∈ C → f c = 0) → (C.map f).sum = 0
 | [], _ => rfl
 | c :: C, h => by rw [List.map_cons, List.sum_cons, h c (by simp), csum_zero f C (fun x hx => h x (List.mem_cons_of_mem _ hx))]
theorem csum_add {α : Type} (f h : α → Nat) : ∀ C : List α, (C.map (fun c => f c + h c)).sum = (C.map f).sum + (C.map h).sum
 | [] => rfl
 | c :: C => by
  have := csum_add f h C
  simp only [List.map_cons, List.sum_cons] at this ⊢
  omega
theorem csum_one {q : Nat → Prop} {a : Nat} : ∀ C : List Nat, C.Nodup → (∀ c c', c ∈ C → c' ∈ C → q c → q c' → c = c') → ∀ c, c ∈ C → q c → (C.map (fun c => @ite _ (q c) (Classical.propDecidable _) a 0)).sum = a
 | [], _, _, c, h, _ => by simp at h
 | b :: C, hn, hu, c, hc, hq => by
  obtain ⟨n1, n2⟩ := List.nodup_cons.1 hn
  rw [List.map_cons, List.sum_cons]
  by_cases e : c = b
  ·subst e
   rw [if_pos hq, csum_zero _ C (fun x hx => by
    have : ¬ q x := fun hqx => n1 (by rw [hu c x (by simp) (List.mem_cons_of_mem _ hx) hq hqx]; exact hx)
    rw [if_neg this]), Nat.add_zero]
  ·have hcC := (List.mem_cons.1 hc).resolve_left e
   have : ¬ q b := fun hqb => e (hu c b hc (by simp) hq hqb)
   rw [if_neg this, Nat.zero_add]
   exact csum_one C n2 (fun x y hx hy => hu x y (List.mem_cons_of_mem _ hx) (List.mem_cons_of_mem _ hy)) c hcC hq
theorem sm_split {w : Nat → Nat} {p q0 : Nat → Prop} {q : Nat → Nat → Prop} {C : List Nat} (hC : C.Nodup) : ∀ l : List Nat, (∀ y, y ∈ l → (p y ↔ q0 y ∨ ∃ c, c ∈ C ∧ q c y) ∧ (q0 y → ∀ c, c ∈ C → ¬ q c y) ∧ ∀ c c', c ∈ C → c' ∈ C → q c y → q c' y → c = c') → sm w p l = sm w q0 l + (C.map (fun c => sm w (q c) l)).sum
 | [], _ => by
  rw [sm_nil, sm_nil, csum_zero (fun c => sm w (q c) []) C (fun _ _ => rfl)]
 | y :: l, h => by
  have ih := sm_split (w := w) hC l (fun z hz => h z (List.mem_cons_of_mem _ hz))
  obtain ⟨h1, h2, h3⟩ := h y (by simp)
  have e : (C.map (fun c => sm w (q c) (y :: l))).sum = (C.map (fun c => @ite _ (q c y) (Classical.propDecidable _) (w y) 0)).sum + (C.map (fun c => sm w (q c) l)).sum := by
   rw [← csum_add]
   exact congrArg List.sum (List.map_congr_left (fun c _ => sm_cons _ _ _ _))
  rw [e]
  by_cases h0 : q0 y
  ·rw [sm_yes l (h1.2 (.inl h0)), sm_yes l h0, csum_zero _ C (fun c hc => by rw [if_neg (h2 h0 c hc)]), ih]
   omega
  ·by_cases hx : ∃ c, c ∈ C ∧ q c y
   ·obtain ⟨c, hc, hq⟩ := hx
    rw [sm_yes l (h1.2 (.inr ⟨c, hc, hq⟩)), sm_no l h0, csum_one (q := fun c => q c y) C hC h3 c hc hq, ih]
    omega
   ·rw [sm_no l (fun k => (h1.1 k).elim h0 hx), sm_no l h0, csum_zero _ C (fun c hc => by rw [if_neg (fun k => hx ⟨c, hc, k⟩)]), ih]
    omega
def gst (w F : Nat → Nat) (n : Nat) (a : Nat → Nat) : Nat → Nat :=
 let a1 := fun x => if x = n then a n + w n else a x
 if n = 0 then a1 else fun x => if x = F n then a1 (F n) + a1 n else a1 x
def gth (w F : Nat → Nat) : List Nat → Nat → Nat
 | [] => fun _ => 0
 | n :: l => gst w F n (gth w F l)
structure Gt (W : Nat → List Nat) (ord : List Nat) (F : Nat → Nat) : Prop where
 nd : ord.Nodup
 z : ord[0]? = some 0
 f : ∀ (v : Nat) x, ord[v]? = some x → v ≠ 0 → x ≠ 0 ∧ Ids W (F x) x ∧ ∃ u, u < v ∧ ord[u]? = some (F x)
def Dn (W : Nat → List Nat) (n y : Nat) : Prop := n = 0 ∨ y = n ∨ Ov W n y
variable {W : Nat → List Nat} {ord : List Nat} {F : Nat → Nat}
theorem Gt.inj (h : Gt W ord F) {u v a : Nat} (hu : ord[u]? = some a) (hv : ord[v]? = some a) : u = v := by
 obtain ⟨h1, h2⟩ := List.getElem?_eq_some_iff.1 hu
 obtain ⟨h3, h4⟩ := List.getElem?_eq_some_iff.1 hv
 have h5 := h.nd
 unfold List.Nodup at h5
 rw [List.pairwise_iff_getElem] at h5
 rcases Nat.lt_trichotomy u v with h6 | h6 | h6
 ·exact absurd (h2.trans h4.symm) (h5 u v h1 h3 h6)
 ·exact h6
 ·exact absurd (h4.trans h2.symm) (h5 v u h3 h1 h6)
theorem Gt.fx (h : Gt W ord F) {x : Nat} (hx : x ∈ ord) (h0 : x ≠ 0) : Ids W (F x) x ∧ F x ∈ ord ∧ F x ≠ x := by
 obtain ⟨v, hv⟩ := List.getElem?_of_mem hx
 have hv0 : v ≠ 0 := fun e => by rw [e, h.z] at hv; cases hv; exact h0 rfl
 obtain ⟨-, h1, u, h2, h3⟩ := h.f v x hv hv0
 exact ⟨h1, List.mem_of_getElem? h3, fun e => by rw [e] at h3; have := h.inj h3 hv; omega⟩
theorem dn_up (h : Gt W ord F) {n y : Nat} (hy : y ∈ ord) (h0 : y ≠ 0) (hne : y ≠ n) : Dn W n y ↔ F y = n ∨ Dn W n (F y) := by
 obtain ⟨h1, h2, -⟩ := h.fx hy h0
 constructor
 ·rintro (h3 | h3 | h3)
  ·exact .inr (.inl h3)
  ·exact absurd h3 hne
  ·rcases h1.2 n h3 with h4 | h4
   ·exact .inl h4.symm
   ·exact .inr (.inr (.inr h4))
 ·intro h3
  have key : F y = n → Dn W n y := fun e => by
   rcases h1.1 with h4 | h4
   ·exact .inl (by rw [← e]; exact h4)
   ·exact .inr (.inr (by rw [← e]; exact h4))
  rcases h3 with h3 | h3 | h3 | h3
  ·exact key h3
  ·exact .inl h3
  ·exact key h3
  ·rcases h1.1 with h4 | h4
   ·exact absurd h4 h3.2.1
   ·exact .inr (.inr (h3.trans h4))
def below (ord : List Nat) (F : Nat → Nat) (n : Nat) : List Nat := ord.filter (fun c => decide (c ≠ 0 ∧ F c = n))
theorem mem_below {n c : Nat} : c ∈ below ord F n ↔ c ∈ ord ∧ c ≠ 0 ∧ F c = n := by
 unfold below
 rw [List.mem_filter, decide_eq_true_iff]
theorem Gt.parts (h : Gt W ord F) {n : Nat} (hn : n ∈ ord) {y : Nat} (hy : y ∈ ord) : (Dn W n y ↔ y = n ∨ ∃ c, c ∈ below ord F n ∧ Dn W c y) ∧ (y = n → ∀ c, c ∈ below ord F n → ¬ Dn W c y) ∧ ∀ c c', c ∈ below ord F n → c' ∈ below ord F n → Dn W c y → Dn W c' y → c = c' := by
 have anti : ∀ c, c ∈ below ord F n → ¬ Dn W c n := fun c hc hd => by
  obtain ⟨c1, c2, c3⟩ := mem_below.1 hc
  obtain ⟨i1, i2, i3⟩ := h.fx c1 c2
  rcases hd with h1 | h1 | h1
  ·exact c2 h1
  ·exact i3 (by rw [c3, h1])
  ·rw [c3] at i1
   rcases i1.1 with h2 | h2
   ·exact h1.2.1 h2
   ·exact h1.anti h2
 refine ⟨⟨fun hd => ?_, ?_⟩, fun e c hc => by rw [e]; exact anti c hc, fun c c' hc hc' hd hd' => ?_⟩
 ·obtain ⟨v, hv⟩ := List.getElem?_of_mem hy
  clear hy
  induction v using Nat.strongRecOn generalizing y with
  | _ v ih =>
   by_cases e : y = n
   ·exact .inl e
   ·by_cases h0 : y = 0
    ·exfalso
     rcases hd with h1 | h1 | h1
     ·exact e (h0.trans h1.symm)
     ·exact e h1
     ·exact h1.2.1 h0
    ·have hym := List.mem_of_getElem? hv
     have hv0 : v ≠ 0 := fun e => by rw [e, h.z] at hv; cases hv; exact h0 rfl
     obtain ⟨-, i1, u, hu, hfu⟩ := h.f v y hv hv0
     by_cases ef : F y = n
     ·exact .inr ⟨y, mem_below.2 ⟨hym, h0, ef⟩, .inr (.inl rfl)⟩
     ·have hd2 := ((dn_up h hym h0 e).1 hd).resolve_left ef
      rcases ih u hu hd2 hfu with h1 | ⟨c, h1, h2⟩
      ·exact absurd h1 ef
      ·refine .inr ⟨c, h1, ?_⟩
       have hcy : y ≠ c ∨ y = c := (Decidable.em _).symm
       rcases hcy with h3 | h3
       ·exact (dn_up h hym h0 h3).2 (.inr h2)
       ·exact .inr (.inl h3)
 ·rintro (e | ⟨c, hc, hd⟩)
  ·exact .inr (.inl e)
  ·obtain ⟨c1, c2, c3⟩ := mem_below.1 hc
   obtain ⟨i1, -, -⟩ := h.fx c1 c2
   rw [c3] at i1
   have hnc : n = 0 ∨ Ov W n c := i1.1
   rcases hnc with h1 | h1
   ·exact .inl h1
   ·rcases hd with h2 | h2 | h2
    ·exact absurd h2 c2
    ·exact .inr (.inr (by rw [h2]; exact h1))
    ·exact .inr (.inr (h1.trans h2))
 ·by_cases e : c = c'
  ·exact e
  ·exfalso
   obtain ⟨c1, c2, c3⟩ := mem_below.1 hc
   obtain ⟨d1, d2, d3⟩ := mem_below.1 hc'
   have h1 : Dn W c c' ∨ Dn W c' c := by
    rcases hd with h1 | h1 | h1
    ·exact absurd h1 c2
    ·rcases hd' with h2 | h2 | h2
     ·exact absurd h2 d2
     ·exact absurd (h1.symm.trans h2) e
     ·exact .inr (by rw [← h1]; exact .inr (.inr h2))
    ·rcases hd' with h2 | h2 | h2
     ·exact absurd h2 d2
     ·exact .inl (by rw [← h2]; exact .inr (.inr h1))
     ·rcases h1.chain h2 e with h3 | h3
      ·exact .inl (.inr (.inr h3))
      ·exact .inr (.inr (.inr h3))
   rcases h1 with h1 | h1
   ·rw [dn_up h d1 d2 (fun k => e k.symm), d3] at h1
    rcases h1 with h2 | h2
    ·exact (h.fx c1 c2).2.2 (by rw [c3, h2])
    ·exact anti c hc h2
   ·rw [dn_up h c1 c2 e, c3] at h1
    rcases h1 with h2 | h2
    ·exact (h.fx d1 d2).2.2 (by rw [d3, h2])
    ·exact anti c' hc' h2
theorem Gt.sum (h : Gt W ord F) (w : Nat → Nat) {n : Nat} (hn : n ∈ ord) : sm w (Dn W n) ord = w n + ((below ord F n).map (fun c => sm w (Dn W c) ord)).sum := by
 rw [sm_split (q0 := fun y => y = n) (q := fun c => Dn W c) (h.nd.filter _) ord (fun y hy => h.parts hn hy), sm_one ord h.nd hn]
 rfl
theorem Gt.gth (h : Gt W ord F) (w : Nat → Nat) : ∀ (l pre : List Nat), pre ++ l = ord → ∀ x, Lt.gth w F l x = (if x ∈ l then w x else 0) + ((l.filter (fun c => decide (c ≠ 0 ∧ F c = x))).map (fun c => sm w (Dn W c) ord)).sum
 | [], pre, _, x => by simp [Lt.gth]
 | n :: l, pre, hp, x => by
  have ih := h.gth w l (pre ++ [n]) (by rw [List.append_assoc]; exact hp)
  have hnd := h.nd
  rw [← hp, List.nodup_append] at hnd
  obtain ⟨n1, n2⟩ := List.nodup_cons.1 hnd.2.1
  have hn : n ∈ ord := by rw [← hp]; simp
  have hnp : ord[pre.length]? = some n := by rw [← hp, List.getElem?_append_right (Nat.le_refl _)]; simp
  have hbl : l.filter (fun c => decide (c ≠ 0 ∧ F c = n)) = below ord F n := by
   unfold below
   rw [← hp, List.filter_append, List.filter_cons]
   have e1 : ¬ (n ≠ 0 ∧ F n = n) := fun ⟨a, b⟩ => (h.fx hn a).2.2 b
   rw [decide_eq_false e1]
   have e2 : pre.filter (fun c => decide (c ≠ 0 ∧ F c = n)) = [] := by
    rw [List.filter_eq_nil_iff]
    intro c hc hk
    obtain ⟨a, b⟩ := of_decide_eq_true hk
    obtain ⟨v, hv⟩ := List.getElem?_of_mem hc
    have hvl := (List.getElem?_eq_some_iff.1 hv).1
    have hv2 : ord[v]? = some c := by rw [← hp, List.getElem?_append_left hvl]; exact hv
    have hv0 : v ≠ 0 := fun e => by rw [e, h.z] at hv2; cases hv2; exact a rfl
    obtain ⟨-, -, u, hu, hfu⟩ := h.f v c hv2 hv0
    rw [b] at hfu
    have := h.inj hfu hnp
    omega
   rw [e2]
   simp
  have ha : Lt.gth w F l n + w n = sm w (Dn W n) ord := by
   rw [ih n, if_neg n1, hbl, h.sum w hn]
   omega
  show gst w F n (Lt.gth w F l) x = _
  unfold gst
  rw [ha]
  by_cases h0 : n = 0
  ·rw [if_pos h0]
   show (if x = n then sm w (Dn W n) ord else Lt.gth w F l x) = _
   rw [List.filter_cons, decide_eq_false (fun k : n ≠ 0 ∧ F n = x => k.1 h0)]
   by_cases e : x = n
   ·rw [if_pos e, e, if_pos (by simp), h.sum w hn, ← hbl]
    simp
   ·rw [if_neg e, ih x]
    by_cases e2 : x ∈ l
    ·rw [if_pos e2, if_pos (by simp [e2])]; simp
    ·rw [if_neg e2, if_neg (by simp [e, e2])]; simp
  ·rw [if_neg h0]
   have hfn : F n ≠ n := (h.fx hn h0).2.2
   show (if x = F n then (if F n = n then sm w (Dn W n) ord else Lt.gth w F l (F n)) + (if n = n then sm w (Dn W n) ord else Lt.gth w F l n) else (if x = n then sm w (Dn W n) ord else Lt.gth w F l x)) = _
   rw [if_neg hfn, if_pos rfl, List.filter_cons]
   by_cases e : x = F n
   ·have e9 : x ≠ n := fun k => hfn (e.symm.trans k)
    rw [if_pos e, decide_eq_true (show n ≠ 0 ∧ F n = x from ⟨h0, e.symm⟩), ← e, ih x]
    simp only [if_true, List.map_cons, List.sum_cons]
    by_cases e2 : x ∈ l
    ·rw [if_pos e2, if_pos (by simp [e2])]; omega
    ·rw [if_neg e2, if_neg (by simp [e9, e2])]; omega
   ·rw [if_neg e, decide_eq_false (fun k : n ≠ 0 ∧ F n = x => e k.2.symm)]
    by_cases e1 : x = n
    ·rw [if_pos e1, e1, if_pos (by simp), h.sum w hn, ← hbl]
     simp
    ·rw [if_neg e1, ih x]
     by_cases e2 : x ∈ l
     ·rw [if_pos e2, if_pos (by simp [e2])]; simp
     ·rw [if_neg e2, if_neg (by simp [e1, e2])]; simp
theorem Gt.all (h : Gt W ord F) (w : Nat → Nat) {n : Nat} (hn : n ∈ ord) : Lt.gth w F ord n = sm w (Dn W n) ord := by
 rw [h.gth w ord [] rfl n, if_pos hn, h.sum w hn]
 unfold below
 rfl
theorem Gt.none (h : Gt W ord F) (w : Nat → Nat) {n : Nat} (hn : n ∉ ord) : Lt.gth w F ord n = 0 := by
 rw [h.gth w ord [] rfl n, if_neg hn]
 have : ord.filter (fun c => decide (c ≠ 0 ∧ F c = n)) = [] := by
  rw [List.filter_eq_nil_iff]
  intro c hc hk
  obtain ⟨a, b⟩ := of_decide_eq_true hk
  exact hn (by rw [← b]; exact (h.fx hc a).2.1)
 rw [this]
 rfl
theorem sm_filter (w : Nat → Nat) (p : Nat → Prop) : ∀ l : List Nat, sm w p l = ((l.filter (fun y => @decide (p y) (Classical.propDecidable _))).map w).sum
 | [] => rfl
 | y :: l => by
  have ih := sm_filter w p l
  by_cases h : p y
  ·rw [sm_yes l h, List.filter_cons, if_pos (@decide_eq_true _ (Classical.propDecidable _) h), List.map_cons, List.sum_cons, ih]
  ·rw [sm_no l h, List.filter_cons, if_neg (by rw [@decide_eq_false _ (Classical.propDecidable _) h]; simp), ih]
theorem sm_lists {w : Nat → Nat} {p q : Nat → Prop} {l l' : List Nat} (hl : l.Nodup) (hl' : l'.Nodup) (h : ∀ y, (y ∈ l ∧ p y) ↔ (y ∈ l' ∧ q y)) : sm w p l = sm w q l' := by
 rw [sm_filter, sm_filter]
 refine ((List.perm_ext_iff_of_nodup (hl.filter _) (hl'.filter _)).2 (fun y => ?_)).map w |>.sum_nat
 rw [List.mem_filter, List.mem_filter, @decide_eq_true_iff _ (Classical.propDecidable _), @decide_eq_true_iff _ (Classical.propDecidable _)]
 exact h y
theorem sm_and {w : Nat → Nat} {p q : Nat → Prop} : ∀ l : List Nat, (∀ y, q y → p y) → sm w p l = sm w q l + sm w (fun y => p y ∧ ¬ q y) l
 | [], _ => rfl
 | y :: l, h => by
  have ih := sm_and (w := w) l h
  by_cases h1 : q y
  ·rw [sm_yes l (h y h1), sm_yes l h1, sm_no (p := fun y => p y ∧ ¬ q y) l (fun k => k.2 h1), ih]
   omega
  ·rw [sm_no l h1]
   by_cases h2 : p y
   ·rw [sm_yes l h2, sm_yes (p := fun y => p y ∧ ¬ q y) l ⟨h2, h1⟩, ih]
    omega
   ·rw [sm_no l h2, sm_no (p := fun y => p y ∧ ¬ q y) l (fun k => h2 k.1), ih]
theorem sm_le {w : Nat → Nat} {p : Nat → Prop} : ∀ l : List Nat, sm w p l ≤ (l.map w).sum
 | [] => Nat.le_refl _
 | y :: l => by
  have ih := sm_le (w := w) (p := p) l
  rw [List.map_cons, List.sum_cons]
  by_cases h : p y
  ·rw [sm_yes l h]; omega
  ·rw [sm_no l h]; omega
noncomputable def rs (w : Nat → Nat) (W : Nat → List Nat) (P : List (Nat × Nat × Nat)) (M d : Nat) : Nat := sm w (Re W P d) (List.range' 1 M)
variable {W Wp : Nat → List Nat} {P : List (Nat × Nat × Nat)} {ord seq N : List Nat} {par by' F S I : Nat → Nat} {M : Nat} {H : List (Nat × Nat × Nat)}
structure Rt (W Wp : Nat → List Nat) (P : List (Nat × Nat × Nat)) (M : Nat) (seq : List Nat) (by' : Nat → Nat) (H : List (Nat × Nat × Nat)) (N : List Nat) (ord : List Nat) (F : Nat → Nat) : Prop where
 rx : Rx W P 0 seq seq.length by'
 hH : ∀ e, e ∈ H ↔ e ∈ P ∧ e.1 ∈ seq ∧ e.2.1 ∈ seq
 hw : ∀ x y, y ∈ W x → 1 ≤ y ∧ y ≤ M
 hp : ∀ i k v, (i, k, v) ∈ P → 1 ≤ v ∧ v ≤ M
 nd : Nd P seq by' N
 hW : ∀ x y, y ∈ wwith W H x ↔ y ∈ Wp x ∧ y ≠ 0
 tr : ∃ (par S I : Nat → Nat), Df Wp ord par [] ∧ Sem (Ed Wp ord) ord.length S ∧ Idm par ord.length S I ∧ ∀ (v : Nat) x i, ord[v]? = some x → ord[I v]? = some i → F x = i
theorem Rt.wn (h : Rt W Wp P M seq by' H N ord F) : (∀ x y, y ∈ W x → y ≠ 0) ∧ (∀ i k v, (i, k, v) ∈ P → v ≠ 0) := ⟨fun x y hy => by have := h.hw x y hy; omega, fun i k v hv => by have := h.hp i k v hv; omega⟩
theorem Rt.rv (h : Rt W Wp P M seq by' H N ord F) {n : Nat} (hn : n ∉ N) (x : Nat) : Rv (wwith W H) n x ↔ Re W P n x := h.rx.rv_iff h.hH h.wn.1 h.wn.2 h.nd hn x
theorem Rt.n0 (h : Rt W Wp P M seq by' H N ord F) : 0 ∉ N := fun h0 => (h.rx.nz 0 (h.nd.i 0 h0)).1 rfl
theorem Rt.mem (h : Rt W Wp P M seq by' H N ord F) (x : Nat) : Re W P 0 x ↔ x ∈ ord ∧ x ≠ 0 := by
 obtain ⟨par, S, I, hD, -⟩ := h.tr
 rw [← h.rv h.n0, hD.rv_iff h.hW]
theorem Rt.in_ (h : Rt W Wp P M seq by' H N ord F) {d x : Nat} (hr : Re W P d x) : 1 ≤ x ∧ x ≤ M := by
 cases hr with
 | root h1 _ => exact h.hw _ _ h1
 | step _ h1 _ => exact h.hw _ _ h1
 | eph h1 _ _ _ => exact h.hp _ _ _ h1
theorem Rt.gt (h : Rt W Wp P M seq by' H N ord F) : Gt (wwith W H) ord F := by
 obtain ⟨par, S, I, hD, hS, hI, hf⟩ := h.tr
 refine ⟨hD.nd, hD.z, fun v x hx h0 => ?_⟩
 have hvl := (List.getElem?_eq_some_iff.1 hx).1
 have h1 := (hD.d.idom hS hI v h0 hvl).1
 obtain ⟨h2, -⟩ := hD.d.sem_anc hS h0 hvl
 have h3 := hD.d.le (by omega) h1
 have hid : ord[I v]? = some (ord[I v]'(by omega)) := List.getElem?_eq_getElem (by omega)
 have hfx := hf v x _ hx hid
 rw [← hfx] at hid
 exact ⟨hD.nz_at h0 hx, Df.ids0 h.hW hD hS hI h0 hx hid, I v, by omega, hid⟩
theorem Rt.told (h : Rt W Wp P M seq by' H N ord F) (w : Nat → Nat) {n : Nat} (h0 : n ≠ 0) (hn : n ∉ N) : (Re W P 0 n → gth w F ord n + rs w W P M n = rs w W P M 0) ∧ (¬ Re W P 0 n → gth w F ord n = 0) := by
 have hg := h.gt
 constructor
 ·intro hr
  have hno := ((h.mem n).1 hr).1
  have h1 : gth w F ord n = sm w (fun y => Re W P 0 y ∧ ¬ Re W P n y) (List.range' 1 M) := by
   rw [hg.all w hno]
   refine sm_lists hg.nd (List.nodup_range' ..) (fun y => ?_)
   rw [List.mem_range'_1]
   constructor
   ·rintro ⟨hy, hd⟩
    have hy0 : Re W P 0 y ∧ ¬ Re W P n y := by
     rcases hd with h2 | h2 | h2
     ·exact absurd h2 h0
     ·rw [h2]; exact ⟨hr, fun k => k.ne rfl⟩
     ·exact ⟨(h.rv h.n0 y).1 h2.2.2.2.1, fun k => h2.2.2.2.2.2 ((h.rv hn y).2 k)⟩
    have := h.in_ hy0.1
    exact ⟨⟨this.1, by omega⟩, hy0⟩
   ·rintro ⟨-, hy1, hy2⟩
    obtain ⟨hyo, hy0⟩ := (h.mem y).1 hy1
    refine ⟨hyo, .inr ?_⟩
    by_cases e : y = n
    ·exact .inl e
    ·exact .inr ⟨h0, hy0, e, (h.rv h.n0 y).2 hy1, (h.rv h.n0 n).2 hr, fun k => hy2 ((h.rv hn y).1 k)⟩
  unfold rs
  rw [h1, sm_and (p := Re W P 0) (q := Re W P n) _ (fun y hy => hy.all h.wn.1 h.wn.2)]
  omega
 ·intro hr
  exact hg.none w (fun k => hr ((h.mem n).2 ⟨k, h0⟩))
theorem Rt.whole (h : Rt W Wp P M seq by' H N ord F) (w : Nat → Nat) (hw0 : w 0 = 0) : gth w F ord 0 = rs w W P M 0 := by
 have hg := h.gt
 rw [hg.all w (List.mem_of_getElem? hg.z)]
 have e : sm w (Dn (wwith W H) 0) ord = sm w (fun y => y ≠ 0) ord := by
  rw [sm_and (p := Dn (wwith W H) 0) (q := fun y => y ≠ 0) ord (fun y _ => .inl rfl)]
  have : sm w (fun y => Dn (wwith W H) 0 y ∧ ¬ y ≠ 0) ord = sm w (fun y => y = 0) ord := sm_congr ord (fun y _ => ⟨fun k => Decidable.not_not.1 k.2, fun k => ⟨.inl rfl, fun c => c k⟩⟩)
  rw [this, sm_one ord hg.nd (List.mem_of_getElem? hg.z), hw0, Nat.add_zero]
 rw [e]
 unfold rs
 refine sm_lists hg.nd (List.nodup_range' ..) (fun y => ?_)
 rw [List.mem_range'_1]
 constructor
 ·intro hy
  have hr := (h.mem y).2 hy
  have := h.in_ hr
  exact ⟨⟨this.1, by omega⟩, hr⟩
 ·rintro ⟨-, hr⟩
  exact (h.mem y).1 hr
end Go.Proofs.YtckgcpoheodbcaaGreatDoor.Lt
