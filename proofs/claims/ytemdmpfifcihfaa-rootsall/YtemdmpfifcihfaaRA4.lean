import Derived.Test.YtemdmpfifcihfaaRA2
import Derived.Test.YtemdmpfifcihfaaR38
/-
  The document's Lay: the pure side.
-/
set_option linter.unusedVariables false
namespace Go.Proofs.Ytemdmpfifcihfaa
open Go.RowKit

/-- What Lay makes of a list, n roots met ahead of it. -/
def newq (tz : List Int) : Nat → List Int → List Int
  | _, [] => []
  | n, x :: l => if 0 < x then adr (tz.getD n 0) :: newq tz (n + 1) l else x :: newq tz n l

theorem newq_length (tz : List Int) : ∀ (l : List Int) (n : Nat), (newq tz n l).length = l.length
  | [], _ => rfl
  | x :: l, n => by
    simp only [newq]
    split <;> simp [newq_length tz l]

theorem newq_snoc (tz : List Int) : ∀ (l : List Int) (n : Nat) (x : Int), newq tz n (l ++ [x]) = newq tz n l ++ [if 0 < x then adr (tz.getD (n + (pz l).length) 0) else x]
  | [], n, x => by simp [newq, pz]; split <;> rfl
  | y :: l, n, x => by
    simp only [List.cons_append, newq]
    by_cases h : 0 < y
    · rw [if_pos h, if_pos h, newq_snoc tz l, List.cons_append]
      have : (pz (y :: l)).length = 1 + (pz l).length := by simp [pz, h]; omega
      rw [this, ← Nat.add_assoc]
    · rw [if_neg h, if_neg h, newq_snoc tz l, List.cons_append]
      have : (pz (y :: l)).length = (pz l).length := by simp [pz, h]
      rw [this]

def midq (tz : List Int) (n : Nat) (l : List Int) (k : Nat) : List Int := newq tz n (l.take k) ++ l.drop k

theorem midq_zero (tz : List Int) (n : Nat) (l : List Int) : midq tz n l 0 = l := by simp [midq, newq]
theorem midq_all (tz : List Int) (n : Nat) (l : List Int) : midq tz n l l.length = newq tz n l := by simp [midq]
theorem midq_length (tz : List Int) (n : Nat) (l : List Int) (k : Nat) (hk : k ≤ l.length) : (midq tz n l k).length = l.length := by simp [midq, newq_length]; omega
theorem midq_get (tz : List Int) (n : Nat) (l : List Int) (k : Nat) : (midq tz n l k)[k]? = l[k]? := by
  unfold midq
  by_cases h : k < l.length
  · rw [List.getElem?_append_right (by rw [newq_length, List.length_take]; omega), newq_length, List.length_take, List.getElem?_drop, Nat.min_eq_left (by omega), Nat.sub_self, Nat.add_zero]
  · rw [List.getElem?_eq_none (by simp [newq_length]; omega), List.getElem?_eq_none (by omega)]
theorem midq_succ (tz : List Int) (n : Nat) (l : List Int) (k : Nat) (x : Int) (hx : l[k]? = some x) : midq tz n l (k + 1) = (midq tz n l k).set k (if 0 < x then adr (tz.getD (n + (pz (l.take k)).length) 0) else x) := by
  have hk := (List.getElem?_eq_some_iff.1 hx).1
  unfold midq
  rw [← take_snoc' hx, newq_snoc, List.set_append_right _ _ (by rw [newq_length, List.length_take]; omega), newq_length, List.length_take, Nat.min_eq_left (by omega), Nat.sub_self, List.append_assoc]
  congr 1
  have : l.drop k = x :: l.drop (k + 1) := by
    rw [List.drop_eq_getElem_cons hk]
    congr 1
    exact (List.getElem?_eq_some_iff.1 hx).2
  rw [this]
  rfl

theorem midq_no (tz : List Int) (n : Nat) (l : List Int) (k : Nat) (x : Int) (hx : l[k]? = some x) (h : ¬ 0 < x) : midq tz n l (k + 1) = midq tz n l k := by
  rw [midq_succ tz n l k x hx, if_neg h]
  have := midq_get tz n l k
  rw [hx] at this
  exact List.ext_getElem? fun j => by
    rw [List.getElem?_set]
    by_cases e : k = j
    · subst e
      rw [if_pos rfl, this]
      split
      · rfl
      · rename_i h2; rw [List.getElem?_eq_none (by omega)] at this; cases this
    · rw [if_neg e]

/-- Handles out of what is told of them. -/
def untold (l : List Int) : List (Option Int) := l.map fun x => if x < 0 then none else some x

/-- Roots with other lists. -/
def Sta.lay (S : Sta) (R : Nat → List Int) : Sta := { S with rw := fun i => if i % 2 = 1 ∧ i / 2 < S.T then R (i / 2) else S.rw i, hs := untold (R S.T), qs := R (S.T + 1) }

theorem untold_tolds : ∀ (hs : List (Option Int)), (∀ x, some x ∈ hs → 0 ≤ x) → untold (tolds hs) = hs
  | [], _ => rfl
  | o :: hs, h => by
    have ih := untold_tolds hs (fun x hx => h x (by simp [hx]))
    unfold untold tolds at ih ⊢
    simp only [List.map_cons, List.map_map] at ih ⊢
    rw [ih]
    cases o with
    | none => simp
    | some y => simp [show ¬ y < 0 by have := h y (by simp); omega]

theorem tolds_untold : ∀ (l : List Int), (∀ x ∈ l, -1 ≤ x) → tolds (untold l) = l
  | [], _ => rfl
  | x :: l, h => by
    have ih := tolds_untold l (fun x hx => h x (by simp [hx]))
    unfold untold tolds at ih ⊢
    simp only [List.map_cons, List.map_map] at ih ⊢
    rw [ih]
    have := h x (by simp)
    by_cases e : x < 0
    · simp [e]; omega
    · simp [e]

theorem lay_self {S : Sta} (hO : S.Ok) : S.lay (lrow S) = S := by
  unfold Sta.lay lrow
  have e1 : (fun i => if i % 2 = 1 ∧ i / 2 < S.T then (if i / 2 < S.T then S.rw (i / 2 * 2 + 1) else if i / 2 = S.T then tolds S.hs else S.qs) else S.rw i) = S.rw := by
    funext i
    by_cases h : i % 2 = 1 ∧ i / 2 < S.T
    · rw [if_pos h, if_pos h.2]; congr 1; omega
    · rw [if_neg h]
  rw [e1]
  simp only [Nat.lt_irrefl, if_false, if_true, show ¬ S.T + 1 < S.T by omega, show ¬ S.T + 1 = S.T by omega]
  rw [untold_tolds _ hO.h0]

theorem newl_newq (tz : List Int) : ∀ (l pre : List Int), (∀ x ∈ l, 0 ≤ x) → newl (ansU tz) pre l = newq tz pre.length l
  | [], _, _ => rfl
  | x :: l, pre, h => by
    have hx := h x (by simp)
    simp only [newl, newq]
    by_cases e : x = 0
    · subst e
      rw [if_pos rfl, if_neg (by omega), newl_newq tz l _ (fun y hy => h y (by simp [hy]))]
      simp [nz]
    · rw [if_neg e, if_pos (by omega), newl_newq tz l _ (fun y hy => h y (by simp [hy]))]
      simp [nz, e, ansU]

theorem hnew_newq (tz : List Int) : ∀ (hs : List (Option Int)) (pre : List Int), (∀ x, some x ∈ hs → 0 ≤ x) → hnew (ansU tz) pre hs = untold (newq tz pre.length (tolds hs))
  | [], _, _ => rfl
  | o :: hs, pre, h => by
    have ih := hnew_newq tz hs
    have e0 : tolds (o :: hs) = o.getD (-1) :: tolds hs := rfl
    rw [e0]
    simp only [hnew, newq]
    cases o with
    | none =>
      rw [ih _ (fun x hx => h x (by simp [hx]))]
      simp [nz, untold]
    | some y =>
      have hy := h y (by simp)
      rw [ih _ (fun x hx => h x (by simp [hx]))]
      by_cases e : y = 0
      · subst e; simp [nz, untold]
      · have e2 : 0 < y := by omega
        have ha : ¬ adr (tz.getD pre.length 0) < 0 := by have := adr_nn (tz.getD pre.length 0); omega
        simp only [Option.getD_some, if_pos e2, Option.map_some, if_neg e, untold, List.map_cons, if_neg ha]
        simp [nz, e, ansU]

/-- All lists laid anew: what Update makes of them. -/
theorem lay_vis {S : Sta} (hO : S.Ok) (tz : List Int) : S.lay (fun i => newq tz (preL S i).length (lrow S i)) = S.vis (ansU tz) := by
  unfold Sta.lay Sta.vis
  have hp : ∀ i, i ≤ S.T → preL S i = preT S i := fun i hi => preL_T hO i hi
  have e1 : (fun i => if i % 2 = 1 ∧ i / 2 < S.T then newq tz (preL S (i / 2)).length (lrow S (i / 2)) else S.rw i) = rwT (ansU tz) S S.T := by
    funext i
    by_cases h : i % 2 = 1 ∧ i / 2 < S.T
    · rw [if_pos h, hp _ (by omega)]
      obtain ⟨t, rfl⟩ : ∃ t, i = t * 2 + 1 := ⟨i / 2, by omega⟩
      have e : (t * 2 + 1) / 2 = t := by omega
      rw [e] at h ⊢
      rw [rwT_odd _ _ _ _ h.2, newl_newq tz _ _ (hO.s0 t h.2)]
      unfold lrow; rw [if_pos h.2]
    · rw [if_neg h]
      by_cases h2 : i < S.T * 2
      · obtain ⟨t, rfl⟩ : ∃ t, i = t * 2 := ⟨i / 2, by omega⟩
        rw [rwT_even]
      · rw [rwT_ge _ _ _ _ (by omega)]
  have e2 : untold (newq tz (preL S S.T).length (lrow S S.T)) = hnew (ansU tz) (preT S S.T) S.hs := by
    rw [hp _ (Nat.le_refl _), hnew_newq tz _ _ hO.h0]
    unfold lrow; rw [if_neg (by omega), if_pos rfl]
  have e3 : newq tz (preL S (S.T + 1)).length (lrow S (S.T + 1)) = newl (ansU tz) (preT S S.T ++ hnz S.hs) S.qs := by
    rw [newl_newq tz _ _ hO.q0]
    show newq tz (preL S S.T ++ pz (lrow S S.T)).length _ = _
    rw [hp _ (Nat.le_refl _)]
    unfold lrow
    rw [if_neg (by omega), if_pos rfl, if_neg (by omega), if_neg (by omega), pz_tolds _ hO.h0]
  rw [e1, e2, ← e3]

/-- The lists between two roots of Lay. -/
def midR (S : Sta) (tz : List Int) (j k : Nat) (i : Nat) : List Int := if i < j then newq tz (preL S i).length (lrow S i) else if i = j then midq tz (preL S j).length (lrow S j) k else lrow S i

theorem midR_zero (S : Sta) (tz : List Int) : midR S tz 0 0 = lrow S := by
  funext i
  unfold midR
  rw [if_neg (by omega)]
  split
  · rename_i h; subst h; rw [midq_zero]
  · rfl

theorem midR_next (S : Sta) (tz : List Int) (j : Nat) : midR S tz (j + 1) 0 = midR S tz j (lrow S j).length := by
  funext i
  unfold midR
  by_cases h : i < j
  · rw [if_pos (by omega), if_pos h]
  · by_cases e : i = j
    · subst e; rw [if_pos (by omega), if_neg h, if_pos rfl, midq_all]
    · rw [if_neg (by omega), if_neg h, if_neg e]
      split
      · rename_i h2; subst h2; rw [midq_zero]
      · rfl

theorem lay_congr {S : Sta} {R R' : Nat → List Int} (h : ∀ i, i < S.T + 2 → R i = R' i) : S.lay R = S.lay R' := by
  unfold Sta.lay
  have e : (fun i => if i % 2 = 1 ∧ i / 2 < S.T then R (i / 2) else S.rw i) = fun i => if i % 2 = 1 ∧ i / 2 < S.T then R' (i / 2) else S.rw i := by
    funext i
    split
    · rename_i h1; exact h _ (by omega)
    · rfl
  rw [e, h S.T (by omega), h (S.T + 1) (by omega)]

theorem midR_end {S : Sta} (hO : S.Ok) (tz : List Int) : S.lay (midR S tz (S.T + 2) 0) = S.vis (ansU tz) := by
  rw [← lay_vis hO]
  exact lay_congr fun i hi => by unfold midR; rw [if_pos hi]

end Go.Proofs.Ytemdmpfifcihfaa

/-
  The document's Lay.
-/
set_option linter.unusedVariables false
namespace Go.Proofs.Ytemdmpfifcihfaa
open Go.RowKit

theorem newq_ge (tz : List Int) : ∀ (l : List Int) (n : Nat), (∀ x ∈ l, -1 ≤ x) → ∀ y ∈ newq tz n l, -1 ≤ y
  | [], _, _, _, h => by cases h
  | x :: l, n, h, y, hy => by
    simp only [newq] at hy
    by_cases e : 0 < x
    · rw [if_pos e] at hy
      rcases List.mem_cons.1 hy with rfl | hy
      · have := adr_nn (tz.getD n 0); omega
      · exact newq_ge tz l _ (fun z hz => h z (by simp [hz])) y hy
    · rw [if_neg e] at hy
      rcases List.mem_cons.1 hy with rfl | hy
      · exact h y (by simp)
      · exact newq_ge tz l _ (fun z hz => h z (by simp [hz])) y hy

theorem tolds_ge {hs : List (Option Int)} (h : ∀ x, some x ∈ hs → 0 ≤ x) : ∀ y ∈ tolds hs, -1 ≤ y := by
  intro y hy
  unfold tolds at hy
  obtain ⟨o, ho, rfl⟩ := List.mem_map.1 hy
  cases o with
  | none => simp
  | some x => have := h x ho; simp; omega

theorem midR_ge {S : Sta} (hO : S.Ok) (tz : List Int) (j k : Nat) : ∀ y ∈ midR S tz j k S.T, -1 ≤ y := by
  have h0 : ∀ y ∈ lrow S S.T, -1 ≤ y := by
    unfold lrow; rw [if_neg (by omega), if_pos rfl]; exact tolds_ge hO.h0
  intro y hy
  unfold midR at hy
  split at hy
  · exact newq_ge tz _ _ h0 y hy
  · split at hy
    · rename_i h; subst h
      unfold midq at hy
      rcases List.mem_append.1 hy with h | h
      · exact newq_ge tz _ _ (fun z hz => h0 z (List.mem_of_mem_take hz)) y h
      · exact h0 y (List.mem_of_mem_drop h)
    · exact h0 y hy

/-- The row in which a list of roots lies. -/
def lx (T i : Nat) : Nat := if i < T then i * 2 else if i = T then T * 2 else T * 2 + 1

theorem lv_lx (T : Nat) (vs : Nat → Value) (i : Nat) : lv T vs i = vs (lx T i) := by
  unfold lv lx; split
  · rfl
  · split <;> rfl

theorem rrow_lay {S : Sta} {R : Nat → List Int} (h : ∀ y ∈ R S.T, -1 ≤ y) {i : Nat} (hi : i < S.T + 2) : rrow (S.lay R) (lx S.T i) = R i := by
  unfold rrow lx Sta.lay
  simp only
  by_cases h1 : i < S.T
  · rw [if_pos h1, if_neg (by omega), if_neg (by omega), if_pos (by omega), if_pos (by omega)]
    congr 1; omega
  · rw [if_neg h1]
    by_cases h2 : i = S.T
    · rw [if_pos h2, if_pos rfl, tolds_untold _ h, h2]
    · rw [if_neg h2, if_neg (by omega), if_pos rfl]
      congr 1; omega

theorem rrow_odd {S : Sta} {R : Nat → List Int} {j : Nat} (hj : j < S.T * 2) (ho : j % 2 = 1) : rrow (S.lay R) j = sts (S.rw (j - 1)) := by
  unfold rrow Sta.lay
  simp only
  rw [if_neg (by omega), if_neg (by omega), if_neg (by omega), if_neg (by omega)]

theorem lx_or {T j : Nat} (hj : j < T * 2 + 2) : (j < T * 2 ∧ j % 2 = 1) ∨ ∃ i, i < T + 2 ∧ j = lx T i := by
  by_cases h1 : j < T * 2
  · by_cases h2 : j % 2 = 1
    · exact .inl ⟨h1, h2⟩
    · exact .inr ⟨j / 2, by omega, by unfold lx; rw [if_pos (by omega)]; omega⟩
  · by_cases h2 : j = T * 2
    · exact .inr ⟨T, by omega, by unfold lx; rw [if_neg (by omega), if_pos rfl]; exact h2⟩
    · exact .inr ⟨T + 1, by omega, by unfold lx; rw [if_neg (by omega), if_neg (by omega)]; omega⟩

theorem lx_lt {T i : Nat} (hi : i < T + 2) : lx T i < T * 2 + 2 := by
  unfold lx
  split
  · omega
  · split <;> omega
theorem lx_inj {T i j : Nat} (hi : i < T + 2) (hj : j < T + 2) (h : lx T i = lx T j) : i = j := by
  unfold lx at h
  split at h <;> split at h <;> (try split at h) <;> (try split at h) <;> omega

/-- One root is laid. -/
theorem lay_step {W : World} {base b : Nat} {vt : Value} {vs : Nat → Value} {S : Sta} (hO : S.Ok) {tz : List Int} {j k g n cap : Nat} {x : Int} (H : Rf W base b vt vs (S.lay (midR S tz j k))) (hj : j < S.T + 2) (hx : (lrow S j)[k]? = some x) (h0 : 0 < x) (hv : lv S.T vs j = .slice (some ⟨g, 0, none⟩) n cap) :
    Rf (W.setCell ⟨g, k, none⟩ (.int .i64 (adr (tz.getD ((preL S j).length + (pz ((lrow S j).take k)).length) 0)))) base b vt vs (S.lay (midR S tz j (k + 1))) ∧ Touch (rfp b vt S.T vs) W (W.setCell ⟨g, k, none⟩ (.int .i64 (adr (tz.getD ((preL S j).length + (pz ((lrow S j).take k)).length) 0)))) := by
  have g1 := midR_ge hO tz j k
  have g2 := midR_ge hO tz j (k + 1)
  have hT : ∀ R, (S.lay R).T = S.T := fun _ => rfl
  refine H.setAt (S' := S.lay (midR S tz j (k + 1))) (j0 := lx S.T j) (by rw [hT]; exact lx_lt hj) rfl rfl ((lv_lx S.T vs j).symm.trans hv) ?_ (fun i hi hne => ?_)
  · rw [rrow_lay g1 hj, rrow_lay g2 hj]
    unfold midR
    rw [if_neg (by omega), if_pos rfl, if_neg (by omega), if_pos rfl, midq_succ tz _ _ k x hx, if_pos h0]
  · rw [hT] at hi
    rcases lx_or hi with ⟨h1, h2⟩ | ⟨i, hi2, rfl⟩
    · rw [rrow_odd h1 h2, rrow_odd h1 h2]
    · rw [rrow_lay g1 hi2, rrow_lay g2 hi2]
      have hij : i ≠ j := fun e => hne (by rw [e])
      unfold midR
      by_cases h : i < j
      · rw [if_pos h, if_pos h]
      · rw [if_neg h, if_neg h, if_neg hij, if_neg hij]

theorem lay_skip {S : Sta} {tz : List Int} {j k : Nat} {x : Int} (hx : (lrow S j)[k]? = some x) (h0 : ¬ 0 < x) : midR S tz j (k + 1) = midR S tz j k := by
  funext i
  unfold midR
  by_cases h : i < j
  · rw [if_pos h, if_pos h]
  · rw [if_neg h, if_neg h]
    by_cases e : i = j
    · rw [if_pos e, if_pos e, midq_no tz _ _ k x hx h0]
    · rw [if_neg e, if_neg e]

/-- A list of roots as it stands between two roots of Lay. -/
theorem lay_row {W : World} {base b : Nat} {vt : Value} {vs : Nat → Value} {S : Sta} (hO : S.Ok) {tz : List Int} {j k : Nat} (H : Rf W base b vt vs (S.lay (midR S tz j k))) (hj : j < S.T + 2) (hk : k ≤ (lrow S j).length) :
    W.ownsRow base 3 1 (lv S.T vs j) (lrow S j).length (ints (midq tz (preL S j).length (lrow S j) k)) := by
  have g1 := midR_ge hO tz j k
  have h := H.row (lx S.T j) (lx_lt hj)
  rw [rrow_lay g1 hj, ← lv_lx S.T vs j] at h
  have e : midR S tz j k j = midq tz (preL S j).length (lrow S j) k := by unfold midR; rw [if_neg (by omega), if_pos rfl]
  rw [e, midq_length _ _ _ _ hk] at h
  exact h

/-- Between two roots of Lay. -/
structure La (w : World) (base b : Nat) (vt : Value) (vs : Nat → Value) (S : Sta) (tz : List Int) (vl : Value) (j k : Nat) (W : World) : Prop where
  rf : Rf W base b vt vs (S.lay (midR S tz j k))
  ls : W.ownsRow w.heap.size 31 1 vl (S.T + 2) (lsts S.T vs)
  ht : Touch (rfp b vt S.T vs) w W
end Go.Proofs.Ytemdmpfifcihfaa

/-
  The document's Lay, walked.
-/
set_option linter.unusedVariables false
namespace Go.Proofs.Ytemdmpfifcihfaa
open Go.RowKit

theorem La.start {w : World} {base b : Nat} {vt : Value} {vs : Nat → Value} {S : Sta} (hO : S.Ok) {tz : List Int} {vl : Value} {W : World} (H : Rf w base b vt vs S) (ls : W.ownsRow w.heap.size 31 1 vl (S.T + 2) (lsts S.T vs)) (l : Below w.heap.size w W) : La w base b vt vs S tz vl 0 0 W :=
  ⟨by rw [midR_zero, lay_self hO]; exact H.keep (fun k hk => l.block k (H.mem k hk).2), ls, Touch.of_below l _⟩

theorem La.next {w : World} {base b : Nat} {vt : Value} {vs : Nat → Value} {S : Sta} {tz : List Int} {vl : Value} {j : Nat} {W : World} (h : La w base b vt vs S tz vl j (lrow S j).length W) : La w base b vt vs S tz vl (j + 1) 0 W :=
  ⟨by rw [midR_next]; exact h.rf, h.ls, h.ht⟩

theorem La.skip {w : World} {base b : Nat} {vt : Value} {vs : Nat → Value} {S : Sta} {tz : List Int} {vl : Value} {j k : Nat} {W : World} {x : Int} (h : La w base b vt vs S tz vl j k W) (hx : (lrow S j)[k]? = some x) (h0 : ¬ 0 < x) : La w base b vt vs S tz vl j (k + 1) W :=
  ⟨by rw [lay_skip hx h0]; exact h.rf, h.ls, h.ht⟩

theorem La.step {w : World} {base b : Nat} {vt : Value} {vs : Nat → Value} {S : Sta} (hO : S.Ok) {tz : List Int} {vl : Value} {j k g n cap : Nat} {W : World} {x : Int} (h : La w base b vt vs S tz vl j k W) (hlt : ∀ i, i ∈ rfp b vt S.T vs → i < w.heap.size) (hj : j < S.T + 2) (hx : (lrow S j)[k]? = some x) (h0 : 0 < x) (hv : lv S.T vs j = .slice (some ⟨g, 0, none⟩) n cap) :
    La w base b vt vs S tz vl j (k + 1) (W.setCell ⟨g, k, none⟩ (.int .i64 (adr (tz.getD ((preL S j).length + (pz ((lrow S j).take k)).length) 0)))) := by
  obtain ⟨h1, h2⟩ := lay_step hO h.rf hj hx h0 hv
  refine ⟨h1, own_keep (k := 0) h.ls (fun i e => h2.block i (h.ls.lt i e).2 (fun hm => ?_)), h.ht.trans h2⟩
  have := hlt i hm
  have := (h.ls.lt i e).1
  omega

set_option maxRecDepth 20000 in
set_option maxHeartbeats 4000000 in
theorem rlay_any (base b n0 cap : Nat) (a : Option Addr) (tz : List Int) (S : Sta) (F : List Nat) (w : World) (H : Rfs w base b S F) (hO : S.Ok) (hq : S.qs.length < 8796093022208) (hto : Came n0 w a tz) (hn0 : n0 ≤ base) :
    Calls Try.prog 63 #[.pointer (some ⟨b, 0, none⟩), .slice a tz.length cap] w fun e w' => e = .returned (.tuple #[]) ∧ Rfs w' base b (S.vis (ansU tz)) F ∧ Touch F w w' := by
  obtain ⟨vt, vs, H, rfl⟩ := H
  have hli := rlists_any base b vt vs S w H hO
  have HR : Hid (Rf w base b vt vs S ∧ S.Ok ∧ S.qs.length < 8796093022208 ∧ Came n0 w a tz ∧ n0 ≤ base) := ⟨H, hO, hq, hto, hn0⟩
  have hT := hO.T8
  have HA : Hid (S.all.length ≤ 33792 + S.qs.length) := all_len hO
  have HM : Hid (∀ i, i ∈ rfp b vt S.T vs → base ≤ i ∧ i < w.heap.size) := H.mem
  clear H hO hq hto hn0
  go_enter Try.func63, Try.ntmps63
  go_wp2_with fail
  refine hli.mono ?_
  rintro e w1 ⟨vl, rfl, ol, bl⟩
  obtain ⟨gl, cl, el, -, -⟩ := own_addr ol (by omega)
  subst el
  have A0 : Hid (La w base b vt vs S tz (.slice (some ⟨gl, 0, none⟩) (S.T + 2) cl) 0 0 w1) := La.start HR.out.2.1 HR.out.1 ol bl
  clear hli ol bl
  go_wp2
  go_loopw [4, 6] (fun v i wr => ∃ (j : Nat), j ≤ S.T + 2 ∧ i = .int .i64 j ∧ v = .int .i64 (preL S j).length ∧ Hid (La w base b vt vs S tz (.slice (some ⟨gl, 0, none⟩) (S.T + 2) cl) j 0 wr)) (fun _ i _ => S.T + 2 - (intOf i).toNat)
  case atStart => exact ⟨0, Nat.zero_le _, rfl, rfl, A0⟩
  case round =>
    obtain ⟨j, hj, rfl, rfl, hp⟩ := hrel
    clear A0
    by_cases hlt : j < S.T + 2
    · have hji : (j : Int) < (S.T : Int) + 2 := by omega
      have hLb : (lrow S j).length < 8796093022208 := by
        have h1 := HR.out.2.1
        have h2 := HR.out.2.2.1
        unfold lrow
        split
        · rename_i h; have h3 := h1.room j h; have h4 := h1.m2; omega
        · split
          · rw [tolds_length]; have := h1.hn; omega
          · exact h2
      go_wp2
      go_loopw [4, 7] (fun v i wr => ∃ (k : Nat), k ≤ (lrow S j).length ∧ i = .int .i64 k ∧ v = .int .i64 ((preL S j).length + (pz ((lrow S j).take k)).length : Nat) ∧ Hid (La w base b vt vs S tz (.slice (some ⟨gl, 0, none⟩) (S.T + 2) cl) j k wr)) (fun _ i _ => (lrow S j).length - (intOf i).toNat)
      case atStart => exact ⟨0, Nat.zero_le _, rfl, by simp [pz], hp⟩
      case round =>
        obtain ⟨k, hk, rfl, rfl, hq⟩ := hrel
        clear hp
        have d1 := hq.out.ls.cells (g := gl) rfl j _ (lsts_get S.T vs hlt)
        rw [Addr.add_lit, Nat.zero_add] at d1
        have hrow := lay_row HR.out.2.1 hq.out.rf hlt hk
        have hnb : (preL S j).length + (pz ((lrow S j).take k)).length ≤ 8796093056000 := by
          have h1 := pre_len HR.out.2.1 hlt k
          have h2 := HA.out
          have h3 := HR.out.2.2.1
          rw [List.length_append] at h1
          omega
        obtain ⟨nn, hnn⟩ : ∃ nn, nn = (preL S j).length + (pz ((lrow S j).take k)).length := ⟨_, rfl⟩
        rw [← hnn] at hnb ⊢
        have HNN : Hid (nn = (preL S j).length + (pz ((lrow S j).take k)).length) := hnn
        clear hnn
        by_cases hlt2 : k < (lrow S j).length
        · obtain ⟨x, hx⟩ : ∃ x, (lrow S j)[k]? = some x := ⟨_, List.getElem?_eq_getElem hlt2⟩
          obtain ⟨g2, c2, e5, -, -⟩ := own_addr hrow (by omega)
          have Ev : Hid (lv S.T vs j = .slice (some ⟨g2, 0, none⟩) (lrow S j).length c2) := e5
          rw [e5] at d1 hrow
          have d2 := hrow.cells (g := g2) rfl k (.int .i64 x) (by unfold ints; rw [List.getElem?_map, midq_get, hx]; rfl)
          rw [Addr.add_lit, Nat.zero_add] at d2
          have d3 := own_thaw (i := k) hrow
          have Hx : Hid ((lrow S j)[k]? = some x) := hx
          have hki : (k : Int) < ((lrow S j).length : Int) := by omega
          clear hrow hx e5
          by_cases h0 : x ≤ 0
          · have P7 : Hid (La w base b vt vs S tz (.slice (some ⟨gl, 0, none⟩) (S.T + 2) cl) j (k + 1) wr) := hq.out.skip Hx.out (by omega)
            have HN7 : Hid (nn = (preL S j).length + (pz ((lrow S j).take (k + 1))).length) := by rw [pz_snoc_no Hx.out (by omega)]; exact HNN.out
            clear hq HNN
            generalize (lrow S j).length = LL at *
            go_wp2
            go_roundw
            case rel => exact ⟨k + 1, hlt2, by go_num, by rw [← HN7.out], P7⟩
            case measure => simp [intOf]; omega
          · have h0' : decide (x ≤ 0) = false := decide_eq_false h0
            have h0p : 0 < x := by omega
            have S7 := hq.out.step HR.out.2.1 (fun i hi => (HM.out i hi).2) hlt Hx.out h0p Ev.out
            rw [← HNN.out] at S7
            have HN7 : Hid (((nn + 1 : Nat) : Int) = ((preL S j).length + (pz ((lrow S j).take (k + 1))).length : Nat)) := by
              have h1 := HNN.out
              rw [pz_snoc_yes Hx.out h0p, List.length_append, List.length_singleton]
              exact (show _ = _ by omega)
            by_cases hin : nn < tz.length
            · obtain ⟨z, hz⟩ : ∃ z, tz[nn]? = some z := ⟨_, List.getElem?_eq_getElem hin⟩
              have hcame : Came n0 wr a tz := HR.out.2.2.2.1.keep (fun i hi => by
                have hb := HM.out
                by_cases hil : i < w.heap.size
                · exact hq.out.ht.block i hil (fun hm => by have := (hb i hm).1; have := HR.out.2.2.2.2; omega)
                · have h2 := (HM.out b (by simp [mem_rfp])).2
                  have h3 := (HM.out b (by simp [mem_rfp])).1
                  have := HR.out.2.2.2.2
                  omega)
              obtain ⟨gt, off, rfl, -, ct⟩ := hcame nn z hz
              have hc := raddress_any z wr
              have hgd : tz.getD nn 0 = z := by rw [List.getD_eq_getElem?_getD, hz]; rfl
              rw [hgd] at S7
              have HS7 : Hid _ := S7
              have hni : (nn : Int) < (tz.length : Int) := by omega
              clear S7 hq hz hcame hgd HNN h0
              generalize adr z = y at *
              generalize hLL : (lrow S j).length = LL at *
              generalize tz.length = tl at *
              go_wp2_with fail
              refine hc.mono ?_
              rintro e w5 ⟨rfl, rfl⟩
              clear hc
              go_wp2
              go_roundw
              case rel => exact ⟨k + 1, by omega, by go_num, by rw [← HN7.out]; go_num, HS7⟩
              case measure => simp [intOf]; omega
            · have hgd : tz.getD nn 0 = 0 := by rw [List.getD_eq_getElem?_getD, List.getElem?_eq_none (by omega)]; rfl
              have hni : decide ((nn : Int) < (tz.length : Int)) = false := decide_eq_false (by omega)
              rw [hgd, show adr 0 = 0 from rfl] at S7
              have HS7 : Hid _ := S7
              clear S7 hq hgd HNN h0
              generalize hLL : (lrow S j).length = LL at *
              generalize tz.length = tl at *
              go_wp2
              go_roundw
              case rel => exact ⟨k + 1, by omega, by go_num, by rw [← HN7.out]; go_num, HS7⟩
              case measure => simp [intOf]; omega
        · obtain rfl : k = (lrow S j).length := by omega
          obtain ⟨ar, cr, er⟩ := own_slice hrow
          rw [er] at d1
          have P7 : Hid (La w base b vt vs S tz (.slice (some ⟨gl, 0, none⟩) (S.T + 2) cl) (j + 1) 0 wr) := hq.out.next
          have HN7 : Hid (nn = (preL S (j + 1)).length) := by
            have := HNN.out
            rw [List.take_length] at this
            show nn = (preL S j ++ pz (lrow S j)).length
            rw [List.length_append]; exact this
          clear hrow er hq HNN
          generalize (lrow S j).length = LL at *
          go_wp2
          go_roundw
          case rel => exact ⟨j + 1, hlt, by go_num, by rw [← HN7.out], P7⟩
          case measure => simp [intOf]; omega
    · obtain rfl : j = S.T + 2 := by omega
      have hnk : ¬ ((S.T + 2 : Nat) : Int) < (S.T : Int) + 2 := by omega
      have HF : Hid (Rfs wr base b (S.vis (ansU tz)) (rfp b vt S.T vs) ∧ Touch (rfp b vt S.T vs) w wr) := by
        have h1 := hp.out.rf
        rw [midR_end HR.out.2.1] at h1
        exact ⟨⟨vt, vs, h1, rfl⟩, hp.out.ht⟩
      clear hp
      go_wp2
      go_end0
      exact ⟨rfl, HF.out⟩
end Go.Proofs.Ytemdmpfifcihfaa

