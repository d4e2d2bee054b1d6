/-
  each: its pure side.
-/
import Derived.Test.YtdlannfjnljbcaaGreatDoorR15
set_option linter.unusedVariables false
namespace Go.Proofs.YtdlannfjnljbcaaGreatDoor
open Go.RowKit

theorem upd_upd {α : Type} (f : Nat → α) (i : Nat) (x y : α) : upd (upd f i x) i y = upd f i y := by
  funext j; by_cases e : j = i <;> simp [upd, e]

theorem upd_id {α : Type} (f : Nat → α) (i : Nat) : upd f i (f i) = f := by
  funext j; by_cases e : j = i <;> simp [upd, e]

/-- What is met in the first i threads. -/
def preT (S : Sta) : Nat → List Int
  | 0 => []
  | i + 1 => preT S i ++ nz (S.rw (i * 2 + 1))

/-- The threads' rows behind i threads. -/
def rwT (ans : List Int → Int → Int) (S : Sta) : Nat → Nat → List Int
  | 0 => S.rw
  | i + 1 => upd (rwT ans S i) (i * 2 + 1) (newl ans (preT S i) (S.rw (i * 2 + 1)))

theorem rwT_ge (ans : List Int → Int → Int) (S : Sta) : ∀ (i j : Nat), i * 2 ≤ j → rwT ans S i j = S.rw j
  | 0, _, _ => rfl
  | i + 1, j, h => by rw [rwT, upd_ne _ _ (by omega)]; exact rwT_ge ans S i j (by omega)

theorem rwT_even (ans : List Int → Int → Int) (S : Sta) : ∀ (i t : Nat), rwT ans S i (t * 2) = S.rw (t * 2)
  | 0, _ => rfl
  | i + 1, t => by rw [rwT, upd_ne _ _ (by omega)]; exact rwT_even ans S i t

theorem rwT_odd (ans : List Int → Int → Int) (S : Sta) : ∀ (i t : Nat), t < i → rwT ans S i (t * 2 + 1) = newl ans (preT S t) (S.rw (t * 2 + 1))
  | 0, _, h => by omega
  | i + 1, t, h => by
    rw [rwT]
    by_cases e : t = i
    · subst e; rw [upd_same]
    · rw [upd_ne _ _ (by omega)]; exact rwT_odd ans S i t (by omega)

theorem preT_len {S : Sta} (h : S.Ok) : ∀ i, i ≤ S.T → (preT S i).length ≤ i * 4096
  | 0, _ => by simp [preT]
  | i + 1, hi => by
    have h1 := preT_len h i (by omega)
    have h2 := nz_len (S.rw (i * 2 + 1))
    have h3 := h.room i (by omega)
    have h4 := h.m2
    simp [preT]
    omega

/-- What is met in handles. -/
def hnz (hs : List (Option Int)) : List Int := nz (hs.map fun o => o.getD 0)

/-- What a visit makes of handles. -/
def hnew (ans : List Int → Int → Int) : List Int → List (Option Int) → List (Option Int)
  | _, [] => []
  | pre, o :: l => (o.map fun x => if x = 0 then 0 else ans pre x) :: hnew ans (pre ++ nz [o.getD 0]) l

theorem hnew_length (ans : List Int → Int → Int) : ∀ (l : List (Option Int)) (pre : List Int), (hnew ans pre l).length = l.length
  | [], _ => rfl
  | x :: l, pre => by simp [hnew, hnew_length ans l]

theorem hnz_append (a b : List (Option Int)) : hnz (a ++ b) = hnz a ++ hnz b := by simp [hnz, nz_append]

theorem hnew_snoc (ans : List Int → Int → Int) : ∀ (l : List (Option Int)) (pre : List Int) (o : Option Int), hnew ans pre (l ++ [o]) = hnew ans pre l ++ [o.map fun x => if x = 0 then 0 else ans (pre ++ hnz l) x]
  | [], pre, o => by simp [hnew, hnz, nz]
  | y :: l, pre, o => by
    simp only [List.cons_append, hnew, hnew_snoc ans l, List.append_assoc]
    rw [show y :: l = [y] ++ l from rfl, hnz_append]
    rfl

def hmid (ans : List Int → Int → Int) (pre : List Int) (hs : List (Option Int)) (k : Nat) : List (Option Int) := hnew ans pre (hs.take k) ++ hs.drop k

theorem hmid_zero (ans : List Int → Int → Int) (pre : List Int) (l : List (Option Int)) : hmid ans pre l 0 = l := by simp [hmid, hnew]
theorem hmid_all (ans : List Int → Int → Int) (pre : List Int) (l : List (Option Int)) : hmid ans pre l l.length = hnew ans pre l := by simp [hmid]
theorem hmid_length (ans : List Int → Int → Int) (pre : List Int) (l : List (Option Int)) (k : Nat) (hk : k ≤ l.length) : (hmid ans pre l k).length = l.length := by
  simp [hmid, hnew_length]; omega

theorem hmid_get (ans : List Int → Int → Int) (pre : List Int) (l : List (Option Int)) (k : Nat) : (hmid ans pre l k)[k]? = l[k]? := by
  unfold hmid
  by_cases h : k < l.length
  · rw [List.getElem?_append_right (by rw [hnew_length, List.length_take]; omega), hnew_length, List.length_take, List.getElem?_drop, Nat.min_eq_left (by omega), Nat.sub_self, Nat.add_zero]
  · rw [List.getElem?_eq_none (by simp [hnew_length]; omega), List.getElem?_eq_none (by omega)]

theorem hmid_succ (ans : List Int → Int → Int) (pre : List Int) (l : List (Option Int)) (k : Nat) (o : Option Int) (hx : l[k]? = some o) : (hmid ans pre l k).set k (o.map fun x => if x = 0 then 0 else ans (pre ++ hnz (l.take k)) x) = hmid ans pre l (k + 1) := by
  have hk := (List.getElem?_eq_some_iff.1 hx).1
  unfold hmid
  rw [← take_snoc' hx, hnew_snoc, List.set_append_right _ _ (by rw [hnew_length, List.length_take]; omega), hnew_length, List.length_take, Nat.min_eq_left (by omega), Nat.sub_self, List.append_assoc]
  congr 1
  have : l.drop k = o :: l.drop (k + 1) := by
    rw [List.drop_eq_getElem_cons hk]
    congr 1
    exact (List.getElem?_eq_some_iff.1 hx).2
  rw [this]
  rfl

theorem hnz_len (l : List (Option Int)) : (hnz l).length ≤ l.length := by
  have := nz_len (l.map fun o => o.getD 0)
  simpa [hnz] using this

/-- All roots. -/
def Sta.all (S : Sta) : List Int := preT S S.T ++ hnz S.hs ++ nz S.qs

/-- What a visit makes of roots. -/
def Sta.vis (S : Sta) (ans : List Int → Int → Int) : Sta := { S with rw := rwT ans S S.T, hs := hnew ans (preT S S.T) S.hs, qs := newl ans (preT S S.T ++ hnz S.hs) S.qs }

theorem newl_nn {ans : List Int → Int → Int} (ha : ∀ pre x, 0 < x → 0 ≤ ans pre x) : ∀ (l pre : List Int), (∀ x ∈ l, 0 ≤ x) → ∀ y ∈ newl ans pre l, 0 ≤ y
  | [], _, _, _, h => by cases h
  | x :: l, pre, h0, y, h => by
    rcases List.mem_cons.1 h with rfl | h
    · by_cases e : x = 0
      · simp [e]
      · rw [if_neg e]; exact ha pre x (by have := h0 x (by simp); omega)
    · exact newl_nn ha l _ (fun z hz => h0 z (by simp [hz])) y h

theorem hnew_nn {ans : List Int → Int → Int} (ha : ∀ pre x, 0 < x → 0 ≤ ans pre x) : ∀ (l : List (Option Int)) (pre : List Int), (∀ x, some x ∈ l → 0 ≤ x) → ∀ y, some y ∈ hnew ans pre l → 0 ≤ y
  | [], _, _, _, h => by cases h
  | o :: l, pre, h0, y, h => by
    rcases List.mem_cons.1 h with h | h
    · cases o with
      | none => cases h
      | some x =>
        simp only [Option.map_some, Option.some.injEq] at h
        subst h
        by_cases e : x = 0
        · simp [e]
        · rw [if_neg e]; exact ha pre x (by have := h0 x (by simp); omega)
    · exact hnew_nn ha l _ (fun z hz => h0 z (by simp [hz])) y h

theorem Sta.Ok.vis {S : Sta} (h : S.Ok) {ans : List Int → Int → Int} (ha : ∀ pre x, 0 < x → 0 ≤ ans pre x) : (S.vis ans).Ok := by
  refine ⟨h.T1, h.T8, h.m1, h.m2, by simpa [Sta.vis, hnew_length] using h.hn, fun t ht => ?_, fun t ht => ?_, fun t ht => ?_, fun t ht => ?_, fun x hx => hnew_nn ha S.hs _ h.h0 x hx, fun x hx => newl_nn ha S.qs _ h.q0 x hx⟩
  · show (rwT ans S S.T (t * 2)).sum = (rwT ans S S.T (t * 2 + 1)).length
    rw [rwT_even, rwT_odd ans S S.T t ht, newl_length]
    exact h.sum t ht
  · show ∀ n ∈ rwT ans S S.T (t * 2), 1 ≤ n
    rw [rwT_even]
    exact h.pos t ht
  · show (rwT ans S S.T (t * 2 + 1)).length ≤ S.most
    rw [rwT_odd ans S S.T t ht, newl_length]
    exact h.room t ht
  · show ∀ x ∈ rwT ans S S.T (t * 2 + 1), 0 ≤ x
    rw [rwT_odd ans S S.T t ht]
    exact newl_nn ha _ _ (h.s0 t ht)

/-- A visit that leaves all as it is. -/
theorem newl_same : ∀ (l pre : List Int), newl (fun _ x => x) pre l = l
  | [], _ => rfl
  | x :: l, pre => by
    simp only [newl, newl_same l]
    by_cases e : x = 0 <;> simp [e]

theorem hnew_same : ∀ (l : List (Option Int)) (pre : List Int), hnew (fun _ x => x) pre l = l
  | [], _ => rfl
  | o :: l, pre => by
    simp only [hnew, hnew_same l]
    congr 1
    cases o with
    | none => rfl
    | some x => by_cases e : x = 0 <;> simp [e]

theorem rwT_same (S : Sta) : ∀ i, rwT (fun _ x => x) S i = S.rw
  | 0 => rfl
  | i + 1 => by rw [rwT, newl_same, rwT_same S i, upd_id]

theorem vis_same (S : Sta) : S.vis (fun _ x => x) = S := by
  unfold Sta.vis
  rw [rwT_same, hnew_same, newl_same]

end Go.Proofs.YtdlannfjnljbcaaGreatDoor
