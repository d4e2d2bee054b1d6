/-
  RootsMoves: the pure side; lists that were handed out.
-/
import Derived.Test.YtdlannfjnljbcaaGreatDoorR23
set_option linter.unusedVariables false
namespace Go.Proofs.YtdlannfjnljbcaaGreatDoor
open Go.RowKit

/-- What is left of the answers from a on, n of them. -/
def wnt (l : List Int) (a n : Nat) : List Int := nz ((List.range' a n).map fun i => adr (l.getD i 0))

theorem wnt_add (l : List Int) (a n m : Nat) : wnt l a (n + m) = wnt l a n ++ wnt l (a + n) m := by
  unfold wnt
  rw [← nz_append, ← List.map_append]
  congr 2
  have := List.range'_append (s := a) (m := n) (n := m) (step := 1)
  rw [Nat.one_mul] at this
  exact this.symm

theorem wnt_zero (l : List Int) (a : Nat) : wnt l a 0 = [] := by simp [wnt, nz]

theorem wnt_one (l : List Int) (a : Nat) : wnt l a 1 = nz [adr (l.getD a 0)] := by simp [wnt]

theorem nz_newl (l : List Int) : ∀ (xs pre : List Int), nz (newl (ansU l) pre xs) = wnt l pre.length (nz xs).length
  | [], pre => by simp [newl, nz, wnt]
  | x :: xs, pre => by
    have ih := nz_newl l xs (pre ++ nz [x])
    rw [newl, show ((if x = 0 then 0 else ansU l pre x) :: newl (ansU l) (pre ++ nz [x]) xs) = [if x = 0 then 0 else ansU l pre x] ++ newl (ansU l) (pre ++ nz [x]) xs from rfl, nz_append, ih, show x :: xs = [x] ++ xs from rfl, nz_append]
    by_cases e : x = 0
    · subst e
      simp [nz_zero]
    · rw [if_neg e, nz_one e]
      simp only [List.length_append, List.length_cons, List.length_nil, Nat.zero_add]
      rw [wnt_add, wnt_one]
      rfl

theorem hnz_hnew (l : List Int) : ∀ (hs : List (Option Int)) (pre : List Int), hnz (hnew (ansU l) pre hs) = wnt l pre.length (hnz hs).length
  | [], pre => by simp [hnew, hnz, nz, wnt]
  | o :: hs, pre => by
    have ih := hnz_hnew l hs (pre ++ nz [o.getD 0])
    have e0 : hnz (o :: hs) = nz [o.getD 0] ++ hnz hs := by rw [show o :: hs = [o] ++ hs from rfl, hnz_append]; rfl
    rw [hnew, e0]
    have e1 : hnz ((o.map fun x => if x = 0 then 0 else ansU l pre x) :: hnew (ansU l) (pre ++ nz [o.getD 0]) hs) = nz [(o.map fun x => if x = 0 then 0 else ansU l pre x).getD 0] ++ hnz (hnew (ansU l) (pre ++ nz [o.getD 0]) hs) := by
      rw [show (o.map fun x => if x = 0 then 0 else ansU l pre x) :: hnew (ansU l) (pre ++ nz [o.getD 0]) hs = [o.map fun x => if x = 0 then 0 else ansU l pre x] ++ hnew (ansU l) (pre ++ nz [o.getD 0]) hs from rfl, hnz_append]; rfl
    rw [e1, ih]
    cases o with
    | none => simp [nz_zero]
    | some x =>
      simp only [Option.map_some, Option.getD_some]
      by_cases e : x = 0
      · subst e
        simp [nz_zero]
      · rw [if_neg e, nz_one e]
        simp only [List.length_append, List.length_cons, List.length_nil, Nat.zero_add]
        rw [wnt_add, wnt_one]
        rfl

theorem preT_vis (l : List Int) (S : Sta) : ∀ i, i ≤ S.T → preT (S.vis (ansU l)) i = wnt l 0 (preT S i).length
  | 0, _ => by simp [preT, wnt_zero]
  | i + 1, h => by
    rw [preT, preT_vis l S i (by omega)]
    have e : (S.vis (ansU l)).rw (i * 2 + 1) = newl (ansU l) (preT S i) (S.rw (i * 2 + 1)) := rwT_odd _ S S.T i (by omega)
    rw [e, nz_newl, preT, List.length_append, wnt_add]
    simp

theorem all_vis (l : List Int) (S : Sta) : (S.vis (ansU l)).all = wnt l 0 S.all.length := by
  unfold Sta.all
  have e0 : (S.vis (ansU l)).T = S.T := rfl
  have e1 : (S.vis (ansU l)).hs = hnew (ansU l) (preT S S.T) S.hs := rfl
  have e2 : (S.vis (ansU l)).qs = newl (ansU l) (preT S S.T ++ hnz S.hs) S.qs := rfl
  rw [e0, e1, e2, preT_vis l S S.T (Nat.le_refl _), hnz_hnew, nz_newl]
  simp only [List.length_append, wnt_add, Nat.zero_add, List.append_assoc]

theorem wnt_snoc (l : List Int) (k : Nat) : wnt l 0 (k + 1) = wnt l 0 k ++ nz [adr (l.getD k 0)] := by
  rw [wnt_add, wnt_one]; simp

theorem wnt_len (l : List Int) (k : Nat) : (wnt l 0 k).length ≤ k := by
  have := nz_len ((List.range' 0 k).map fun i => adr (l.getD i 0))
  simpa [wnt] using this

theorem all_len {S : Sta} (h : S.Ok) : S.all.length ≤ 33792 + S.qs.length := by
  have h1 := preT_len h S.T (Nat.le_refl _)
  have h2 := hnz_len S.hs
  have h3 := nz_len S.qs
  have h4 := h.T8
  have h5 := h.hn
  unfold Sta.all
  simp
  omega

/-- A list that was handed out, in a block from s on and below u. -/
structure Ls (W : World) (s u : Nat) (v : Value) (xs : List Int) : Prop where
  o : W.ownsRow s 3 1 v xs.length (ints xs)
  u : ∀ k, v.ownBlock = some k → k < u

theorem Ls.keep {W W' : World} {s u : Nat} {v : Value} {xs : List Int} {G : List Nat} (h : Ls W s u v xs) (ht : Touch G W W') (hG : ∀ k, k ∈ G → k < s ∨ u ≤ k) : Ls W' s u v xs :=
  ⟨own_keep (k := 0) h.o (fun k e => ht.block k (h.o.lt k e).2 (fun hm => by have h1 := (h.o.lt k e).1; have h2 := h.u k e; have h3 := hG k hm; omega)), h.u⟩

theorem Ls.below {W W' : World} {s u : Nat} {v : Value} {xs : List Int} (h : Ls W s u v xs) (hb : Below W.heap.size W W') : Ls W' s u v xs := h.keep (Touch.of_below hb []) (fun k h => by cases h)

theorem Ls.new {W : World} {s : Nat} {v : Value} {xs : List Int} (h : W.ownsRow s 3 1 v xs.length (ints xs)) : Ls W s W.heap.size v xs := ⟨h, fun k e => (h.lt k e).2⟩

theorem Ls.is {W : World} {s u : Nat} {v : Value} {xs : List Int} (h : Ls W s u v xs) : SliceIs W.heap.size W v xs := own_is h.o

/-- A list of lists. -/
structure Fr (W : World) (s u : Nat) (v : Value) (f : Nat → List Int) (k : Nat) : Prop where
  ex : ∃ fs : List Value, fs.length = k ∧ W.ownsRow s 33 1 v k fs ∧ ∀ (i : Nat) x, fs[i]? = some x → Ls W s u x (f i)
  u : ∀ k, v.ownBlock = some k → k < u

theorem Fr.keep {W W' : World} {s u : Nat} {v : Value} {f : Nat → List Int} {k : Nat} {G : List Nat} (h : Fr W s u v f k) (ht : Touch G W W') (hG : ∀ k, k ∈ G → k < s ∨ u ≤ k) : Fr W' s u v f k := by
  obtain ⟨fs, h1, h2, h3⟩ := h.ex
  exact ⟨⟨fs, h1, own_keep (k := 0) h2 (fun k e => ht.block k (h2.lt k e).2 (fun hm => by have q1 := (h2.lt k e).1; have q2 := h.u k e; have q3 := hG k hm; omega)), fun i x hx => (h3 i x hx).keep ht hG⟩, h.u⟩

theorem Fr.below {W W' : World} {s u : Nat} {v : Value} {f : Nat → List Int} {k : Nat} (h : Fr W s u v f k) (hb : Below W.heap.size W W') : Fr W' s u v f k := h.keep (Touch.of_below hb []) (fun k h => by cases h)

theorem Ls.up {W : World} {s u u' : Nat} {v : Value} {xs : List Int} (h : Ls W s u v xs) (hu : u ≤ u') : Ls W s u' v xs := ⟨h.o, fun k e => Nat.lt_of_lt_of_le (h.u k e) hu⟩

theorem Ls.down {W : World} {s s' u : Nat} {v : Value} {xs : List Int} (h : Ls W s u v xs) (hs : s' ≤ s) : Ls W s' u v xs := ⟨row_base h.o hs, h.u⟩

theorem Tryz.infoInts : (Tryz.prog.info? 33).map (fun i => (i.zero, i.size, i.bytes)) = some (some (.slice none 0 0), 1, 24) := by kernel_rfl

/-- One list more. -/
theorem Fr.snoc {W w1 : World} {s : Nat} {v v' x : Value} {f : Nat → List Int} {k : Nat} {fs : List Value} (h1 : fs.length = k) (h2 : W.ownsRow s 33 1 v k fs) (h3 : ∀ (i : Nat) y, fs[i]? = some y → Ls W s W.heap.size y (f i)) (hx : Ls W s W.heap.size x (f k))
    (hown : w1.ownsRow s 33 1 v' (k + 1) (fs ++ [x])) (hgrow : (W.alloc (.cells #[x] 33)).grownBy w1 v.ownBlock) : Fr w1 s w1.heap.size v' f (k + 1) := by
  have hsz : W.heap.size ≤ w1.heap.size := by have := hgrow.size; simp at this; omega
  have keep : ∀ y xs, Ls W s W.heap.size y xs → Ls w1 s w1.heap.size y xs := fun y xs h => by
    refine ⟨own_keep (k := 0) h.o (fun j e => ?_), fun j e => Nat.lt_of_lt_of_le (h.u j e) hsz⟩
    have hj := (h.o.lt j e).2
    rw [hgrow.block j (by simp; omega) (fun e2 => ?_)]
    · exact Below.heap_alloc W _ j hj
    · -- a row of lists is no row of numbers
      rcases h2.2 with ⟨rfl, _⟩ | ⟨g, cap, cur, rfl, _, hg, _⟩
      · simp [Value.ownBlock] at e2
      · rcases h.o.2 with ⟨rfl, _⟩ | ⟨g', cap', cur', rfl, _, hg', _⟩
        · simp [Value.ownBlock] at e
        · simp [Value.ownBlock] at e e2
          subst e
          subst e2
          have := hg.symm.trans hg'
          simp at this
  refine ⟨⟨fs ++ [x], by simp [h1], hown, fun i y hy => ?_⟩, fun j e => (hown.lt j e).2⟩
  by_cases hi : i < fs.length
  · rw [List.getElem?_append_left hi] at hy
    exact keep y _ (h3 i y hy)
  · rw [List.getElem?_append_right (by omega)] at hy
    have hi2 : i = k := by
      have := (List.getElem?_eq_some_iff.1 hy).1
      simp at this
      omega
    subst hi2
    rw [h1, Nat.sub_self] at hy
    simp at hy
    subst hy
    exact keep x _ hx

theorem frames_vis (S : Sta) (ans : List Int → Int → Int) (t : Int) : (S.vis ans).frames t = S.frames t := by
  unfold Sta.frames
  show (if 0 ≤ t ∧ t < S.T then rwT ans S S.T (t.toNat * 2) else []) = _
  rw [rwT_even]

/-- Handles behind an update. -/
theorem told_vis (l : List Int) {S : Sta} (h : S.Ok) (i : Nat) (o : Option Int) (ho : S.hs[i]? = some o) : (tolds S.hs)[i]? = some (o.getD (-1)) ∧ ∃ y : Int, (tolds (S.vis (ansU l)).hs)[i]? = some y ∧ (o = none → y = -1) ∧ (∀ x, o = some x → 0 ≤ x ∧ 0 ≤ y ∧ (x = 0 → y = 0)) := by
  have hi := (List.getElem?_eq_some_iff.1 ho).1
  refine ⟨by unfold tolds; rw [List.getElem?_map, ho]; rfl, ?_⟩
  have key : ∀ (hs : List (Option Int)) (pre : List Int) (i : Nat) (o : Option Int), hs[i]? = some o → ∃ q, (hnew (ansU l) pre hs)[i]? = some (o.map fun x => if x = 0 then 0 else ansU l q x) := by
    intro hs
    induction hs with
    | nil => intro pre i o h; simp at h
    | cons a t ih =>
      intro pre i o h
      cases i with
      | zero => simp at h; subst h; exact ⟨pre, by simp [hnew]⟩
      | succ i =>
        simp at h
        obtain ⟨q, hq⟩ := ih (pre ++ nz [a.getD 0]) i o h
        exact ⟨q, by simpa [hnew] using hq⟩
  obtain ⟨q, hq⟩ := key S.hs (preT S S.T) i o ho
  refine ⟨(o.map fun x => if x = 0 then 0 else ansU l q x).getD (-1), ?_, ?_, ?_⟩
  · unfold tolds
    rw [List.getElem?_map]
    show ((hnew (ansU l) (preT S S.T) S.hs)[i]?).map _ = _
    rw [hq]
    rfl
  · rintro rfl; rfl
  · rintro x rfl
    refine ⟨h.h0 x (List.mem_of_getElem? ho), ?_, fun e => by simp [e]⟩
    show 0 ≤ (if x = 0 then 0 else ansU l q x)
    by_cases e : x = 0
    · rw [if_pos e]; omega
    · rw [if_neg e]; exact adr_nn _

theorem Rts.base {w : World} {base base' b N : Nat} {S : Sta} {F : List Nat} (h : Rts w base b N S F) (hb : base' ≤ base) : Rts w base' b N S F := by
  obtain ⟨g, h, q, FQ, vs, H, rfl⟩ := h
  obtain ⟨v, ts, f, q1, q2, q3, q4⟩ := H.que
  exact ⟨g, h, q, FQ, vs, ⟨Nat.le_trans hb H.bb, Nat.le_trans hb H.bg, Nat.le_trans hb H.bh, H.own, H.thr, H.hnd, ⟨v, ts, f, q1, Nat.le_trans hb q2, row_base q3 hb, q4⟩, fun i hi => row_base (H.row i hi) hb, H.ap, H.apq⟩, rfl⟩

theorem LOps.up {n0 n1 : Nat} {w w' : World} {a : Option Addr} {ops : List OpD} (h : LOps n0 w a ops) (hb : Below n0 w w') (hn : n0 ≤ n1) : LOps n1 w' a ops := fun i o ho => by
  obtain ⟨g, off, e, hg, c0, c1, c2, c3, c4, c5, hc⟩ := (h.below hb) i o ho
  exact ⟨g, off, e, Nat.lt_of_lt_of_le hg hn, c0, c1, c2, c3, c4, c5, fun j x hj => by
    obtain ⟨g2, o2, e2, h2, k2⟩ := hc j x hj
    exact ⟨g2, o2, e2, Nat.lt_of_lt_of_le h2 hn, k2⟩⟩

theorem wnt_yes {l : List Int} {k : Nat} {x : Int} (hx : l[k]? = some x) (h : 0 < x) : wnt l 0 (k + 1) = wnt l 0 k ++ [x] := by
  rw [wnt_snoc, List.getD_eq_getElem?_getD, hx, Option.getD_some, adr_of (by omega), nz_one (by omega)]

theorem wnt_no {l : List Int} {k : Nat} (h : ∀ x, l[k]? = some x → ¬ 0 < x) : wnt l 0 (k + 1) = wnt l 0 k := by
  rw [wnt_snoc]
  have : adr (l.getD k 0) = 0 := by
    rw [List.getD_eq_getElem?_getD]
    cases e : l[k]? with
    | none => rfl
    | some x => have := h x e; simp [adr]; omega
  rw [this, nz_zero, List.append_nil]

theorem Ls.snoc {W w1 : World} {s : Nat} {v v' : Value} {xs : List Int} {x : Int} {o : Obj} (hown : w1.ownsRow s 3 1 v' (xs.length + 1) (ints xs ++ [.int .i64 x])) : Ls w1 s w1.heap.size v' (xs ++ [x]) :=
  Ls.new (by simpa using hown)

end Go.Proofs.YtdlannfjnljbcaaGreatDoor
