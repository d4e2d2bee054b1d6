import Derived.Test.YtfihjmoaibmllaaDoorY1
/-
  Lists of numbers and things, as they are read.
-/
set_option linter.unusedVariables false
set_option maxRecDepth 20000
namespace Go.Proofs.YtfihjmoaibmllaaDoor
open Go.RowKit Go.Shelf

def InI (x : Int) : Prop := -9223372036854775808 ≤ x ∧ x ≤ 9223372036854775807

/-- v reads as the numbers xs, in a block below n0. -/
def Lrd (n0 : Nat) (w : World) (v : Value) (k : IntKind) (xs : List Int) : Prop :=
  ∃ a cap, v = .slice a xs.length cap ∧ xs.length ≤ cap ∧ ∀ (f : Nat) z, xs[f]? = some z → ∃ q off, a = some ⟨q, off, none⟩ ∧ q < n0 ∧ w.cell? ⟨q, off + f, none⟩ = some (.int k z)

theorem Lrd.below {n0 : Nat} {w w' : World} {v : Value} {k : IntKind} {xs : List Int} (h : Lrd n0 w v k xs) (l : Below n0 w w') : Lrd n0 w' v k xs := by
  obtain ⟨a, cap, h1, h2, h3⟩ := h
  refine ⟨a, cap, h1, h2, fun f z hz => ?_⟩
  obtain ⟨q, off, h4, h5, h6⟩ := h3 f z hz
  exact ⟨q, off, h4, h5, (l.cell (p := ⟨q, off + f, none⟩) h5).trans h6⟩

theorem Lrd.mono {n0 n1 : Nat} {w : World} {v : Value} {k : IntKind} {xs : List Int} (h : Lrd n0 w v k xs) (l : n0 ≤ n1) : Lrd n1 w v k xs := by
  obtain ⟨a, cap, h1, h2, h3⟩ := h
  refine ⟨a, cap, h1, h2, fun f z hz => ?_⟩
  obtain ⟨q, off, h4, h5, h6⟩ := h3 f z hz
  exact ⟨q, off, h4, Nat.lt_of_lt_of_le h5 l, h6⟩

theorem row_at {w : World} {e size n : Nat} {v : Value} {xs : List Value} (h : w.ownsRow 0 e size v n xs) (hs : 0 < size) : ∃ a cap, v = .slice a n cap ∧ n ≤ cap ∧ ∀ (f : Nat) z, xs[f]? = some z → ∃ q, a = some ⟨q, 0, none⟩ ∧ q < w.heap.size ∧ w.cell? ⟨q, f, none⟩ = some z := by
  have hl := h.1
  rcases h.2 with ⟨rfl, rfl⟩ | ⟨g, cap, cur, rfl, hb, hg, hn, hc, hsz, ht⟩
  · exact ⟨none, 0, rfl, Nat.le_refl _, fun f z hz => by
      have := (List.getElem?_eq_some_iff.1 hz).1
      omega⟩
  · refine ⟨_, _, rfl, hn, fun f z hz => ⟨g, rfl, (Array.getElem?_eq_some_iff.1 hg).1, ?_⟩⟩
    have hf := (List.getElem?_eq_some_iff.1 hz).1
    rw [cell_of_row _ _ f _ _ _ hg, ← Array.getElem?_toList]
    rw [← ht, List.getElem?_take] at hz
    split at hz
    · exact hz
    · simp at hz

theorem Lrd.of_row {w : World} {e : Nat} {v : Value} {k : IntKind} {xs : List Int} (h : w.ownsRow 0 e 1 v xs.length (xs.map (Value.int k))) : Lrd w.heap.size w v k xs := by
  obtain ⟨a, cap, h1, h2, h3⟩ := row_at h (by decide)
  refine ⟨a, cap, h1, h2, fun f z hz => ?_⟩
  obtain ⟨q, h4, h5, h6⟩ := h3 f (.int k z) (by rw [List.getElem?_map, hz]; rfl)
  exact ⟨q, 0, h4, h5, by rw [Nat.zero_add]; exact h6⟩

/-- A thing of a plan or of a lay. -/
structure LT where
  sp : Int
  s : Int
  k : Int
  p : Int
  r : Int
  a : Int
  t : Int
  h : Bool
  vp : Value
  vr : Value
  fill : Int
  ps : List Int
  rs : List Int
  at_ : Int

abbrev lcells (sp s k p r a t : Int) (h : Bool) (vp vr : Value) (fill : Int) : Array Value := #[.int .i64 sp, .int .u64 s, .int .i64 k, .int .i64 p, .int .i64 r, .int .i64 a, .int .i64 t, .bool h, vp, vr, .int .i64 fill]
abbrev LT.cells (T : LT) : Array Value := lcells T.sp T.s T.k T.p T.r T.a T.t T.h T.vp T.vr T.fill

def lflat (l : List LT) : List Value := (l.map fun T => T.cells.toList).flatten

theorem lflat_at : ∀ (l : List LT) (i : Nat) (T : LT) (j : Nat), l[i]? = some T → j < 11 → (lflat l)[i * 11 + j]? = T.cells[j]? := by
  intro l
  induction l with
  | nil => intro i T j h; simp at h
  | cons y l ih =>
    intro i T j h hj
    have e : lflat (y :: l) = y.cells.toList ++ lflat l := by simp [lflat]
    rw [e]
    cases i with
    | zero =>
      simp at h
      subst h
      rw [List.getElem?_append_left (by simpa using hj)]
      simp
    | succ i =>
      rw [List.getElem?_append_right (by simp; omega)]
      have : (i + 1) * 11 + j - y.cells.toList.length = i * 11 + j := by simp; omega
      rw [this]
      exact ih i T j (by simpa using h) hj

theorem lflat_snoc (l : List LT) (T : LT) : lflat (l ++ [T]) = lflat l ++ T.cells.toList := by simp [lflat]

theorem lcells_some (T : LT) (j : Nat) (hj : j < 11) : ∃ u, T.cells[j]? = some u := by
  match j, hj with
  | 0, _ | 1, _ | 2, _ | 3, _ | 4, _ | 5, _ | 6, _ | 7, _ | 8, _ | 9, _ | 10, _ => exact ⟨_, rfl⟩

/-- What may be in a plan. -/
structure LT.In (o : LT) : Prop where
  sp : InI o.sp
  k : InI o.k
  a : InI o.a
  t : InI o.t
  fill : InI o.fill
  s : Wd o.s
  rs : ∀ z, z ∈ o.rs → Wd z

/-- v reads as the things P. -/
def Prd (n0 : Nat) (w : World) (v : Value) (P : List LT) : Prop :=
  ∃ a cap, v = .slice a P.length cap ∧ ∀ (i : Nat) o, P[i]? = some o → o.In ∧ Lrd n0 w o.vp .i64 o.ps ∧ Lrd n0 w o.vr .u64 o.rs ∧ ∃ q off, a = some ⟨q, off, none⟩ ∧ q < n0 ∧ ∀ j, j < 11 → w.cell? ⟨q, off + i * 11 + j, none⟩ = o.cells[j]?

theorem Prd.below {n0 : Nat} {w w' : World} {v : Value} {P : List LT} (h : Prd n0 w v P) (l : Below n0 w w') : Prd n0 w' v P := by
  obtain ⟨a, cap, h1, h2⟩ := h
  refine ⟨a, cap, h1, fun i o ho => ?_⟩
  obtain ⟨h3, h4, h5, q, off, h6, h7, h8⟩ := h2 i o ho
  exact ⟨h3, h4.below l, h5.below l, q, off, h6, h7, fun j hj => (l.cell (p := ⟨q, off + i * 11 + j, none⟩) h7).trans (h8 j hj)⟩

theorem Prd.of_row {w : World} {v : Value} {P : List LT} (h : w.ownsRow 0 51 11 v P.length (lflat P)) (hP : ∀ o, o ∈ P → o.In ∧ Lrd w.heap.size w o.vp .i64 o.ps ∧ Lrd w.heap.size w o.vr .u64 o.rs) : Prd w.heap.size w v P := by
  obtain ⟨a, cap, h1, h2, h3⟩ := row_at h (by decide)
  refine ⟨a, cap, h1, fun i o ho => ?_⟩
  obtain ⟨h4, h5, h6⟩ := hP o (List.mem_of_getElem? ho)
  have key : ∀ j, j < 11 → ∃ q, a = some ⟨q, 0, none⟩ ∧ q < w.heap.size ∧ w.cell? ⟨q, i * 11 + j, none⟩ = o.cells[j]? := fun j hj => by
    obtain ⟨u, hu⟩ := lcells_some o j hj
    obtain ⟨q, e1, e2, e3⟩ := h3 (i * 11 + j) u (by rw [lflat_at P i o j ho hj]; exact hu)
    exact ⟨q, e1, e2, e3.trans hu.symm⟩
  obtain ⟨q, e1, e2, -⟩ := key 0 (by decide)
  refine ⟨h4, h5, h6, q, 0, e1, e2, fun j hj => ?_⟩
  obtain ⟨q', f1, f2, f3⟩ := key j hj
  rw [e1] at f1
  simp at f1
  subst f1
  rw [Nat.zero_add]
  exact f3

end Go.Proofs.YtfihjmoaibmllaaDoor

/-
  Where the things of a lay are.
-/
set_option linter.unusedVariables false
set_option maxRecDepth 20000
namespace Go.Proofs.YtfihjmoaibmllaaDoor
open Go.RowKit Go.Shelf

/-- How many words a thing has. -/
def LT.sz (T : LT) : Int := if 0 < T.fill then T.fill else 2 + T.ps.length + T.rs.length

def stp (x : Tps) (T : LT) : Tps := if T.at_ = 0 then x else x.put T.sp (x.top T.sp + T.sz)
/-- The tops behind the things. -/
def tps (c : Cfg) (L : List LT) : Tps := L.foldl stp (tops0 c)

theorem tps_snoc (c : Cfg) (L : List LT) (T : LT) : tps c (L ++ [T]) = stp (tps c L) T := by simp [tps]

theorem tps_take (c : Cfg) (L : List LT) (i : Nat) (T : LT) (h : L[i]? = some T) : tps c (L.take (i + 1)) = stp (tps c (L.take i)) T := by
  rw [List.take_add_one, h]
  exact tps_snoc c _ T

/-- A thing that may be laid behind the tops x. -/
structure LT.Ok (c : Cfg) (x : Tps) (T : LT) : Prop where
  s1 : 1 ≤ T.sp
  s4 : T.sp ≤ 4
  f0 : 0 ≤ T.fill
  obj : T.fill = 0 → flt T.k T.p T.r T.a T.t = 0 ∧ T.p = T.ps.length ∧ T.r = T.rs.length
  fil : 0 < T.fill → T.ps = [] ∧ T.rs = []
  at_ : T.at_ = 0 ∨ (T.at_ = x.top T.sp ∧ T.at_ + T.sz ≤ bhd c T.sp)
  few : T.ps.length ≤ 60 ∧ T.rs.length ≤ 60

/-- All things are laid one behind the other. -/
def Plc (c : Cfg) (L : List LT) : Prop := ∀ (i : Nat) T, L[i]? = some T → T.Ok c (tps c (L.take i))

theorem Plc.nil (c : Cfg) : Plc c [] := fun i T h => by simp at h

theorem Plc.snoc {c : Cfg} {L : List LT} (h : Plc c L) {T : LT} (hT : T.Ok c (tps c L)) : Plc c (L ++ [T]) := fun i U hU => by
  rcases Nat.lt_or_ge i L.length with hi | hi
  · rw [List.getElem?_append_left hi] at hU
    rw [List.take_append_of_le_length (Nat.le_of_lt hi)]
    exact h i U hU
  · rw [List.getElem?_append_right hi] at hU
    have h3 := (List.getElem?_eq_some_iff.1 hU).1
    simp at h3
    have e : i = L.length := by omega
    subst e
    simp at hU
    subst hU
    rw [List.take_left']
    · exact hT
    · rfl

/-- The tops lie within their spaces. -/
def TpOk (c : Cfg) (x : Tps) : Prop := ∀ s : Int, 1 ≤ s → s ≤ 4 → fst c s ≤ x.top s ∧ x.top s ≤ bhd c s

theorem LT.sz_pos {c : Cfg} {x : Tps} {T : LT} (h : T.Ok c x) : 1 ≤ T.sz := by
  unfold LT.sz
  split
  · omega
  · omega

theorem TpOk.tops0 (c : Cfg) (h : c.Ok) : TpOk c (tops0 c) := fun s h1 h4 => by
  have := h.e0; have := h.s0; have := h.t0
  obtain rfl | rfl | rfl | rfl : s = 1 ∨ s = 2 ∨ s = 3 ∨ s = 4 := by omega
  all_goals
    simp [fst, bhd, Go.Proofs.YtfihjmoaibmllaaDoor.tops0, Tps.top]
    try omega

theorem TpOk.stp {c : Cfg} {x : Tps} (h : TpOk c x) {T : LT} (hT : T.Ok c x) : TpOk c (stp x T) := fun s h1 h4 => by
  unfold Go.Proofs.YtfihjmoaibmllaaDoor.stp
  have := LT.sz_pos hT
  have h5 := h s h1 h4
  split
  · exact h5
  · rename_i h0
    rcases hT.at_ with e | ⟨e1, e2⟩
    · exact absurd e h0
    · by_cases e : s = T.sp
      · subst e
        rw [Tps.top_put _ _ _ ⟨h1, h4⟩]
        omega
      · rw [Tps.top_put_ne _ _ _ _ e]
        exact h5

theorem Plc.tops {c : Cfg} (hc : c.Ok) {L : List LT} (h : Plc c L) : ∀ i, i ≤ L.length → TpOk c (tps c (L.take i)) := by
  intro i
  induction i with
  | zero => intro _; simpa [tps] using TpOk.tops0 c hc
  | succ i ih =>
    intro hi
    have hT : L[i]? = some (L[i]'(by omega)) := List.getElem?_eq_getElem (by omega)
    rw [tps_take c L i _ hT]
    exact (ih (by omega)).stp (h i _ hT)

theorem Plc.all {c : Cfg} (hc : c.Ok) {L : List LT} (h : Plc c L) : TpOk c (tps c L) := by
  have := h.tops hc L.length (Nat.le_refl _)
  rwa [List.take_length] at this

/-- The object of that number. -/
def ob (L : List LT) (z : Int) : Option LT := if 1 ≤ z then (L[(z - 1).toNat]?).filter (fun T => decide (0 < T.at_ ∧ T.fill = 0)) else none
/-- Is it there? -/
def thr (L : List LT) (z : Int) : Bool := (ob L z).isSome
/-- Where it is. -/
def plc (L : List LT) (z : Int) : Int := ((ob L z).map (·.at_)).getD 0

theorem ob_some {L : List LT} {z : Int} {T : LT} : ob L z = some T ↔ 1 ≤ z ∧ L[(z - 1).toNat]? = some T ∧ 0 < T.at_ ∧ T.fill = 0 := by
  unfold ob
  split
  · rename_i h
    rw [Option.filter_eq_some_iff]
    simp [h]
  · rename_i h
    simp [h]

theorem ob_at {L : List LT} {i : Nat} {T : LT} (h : L[i]? = some T) (h1 : 0 < T.at_) (h2 : T.fill = 0) : ob L (i + 1 : Nat) = some T := by
  rw [ob_some]
  refine ⟨by omega, ?_, h1, h2⟩
  have : (((i + 1 : Nat) : Int) - 1).toNat = i := by omega
  rw [this]
  exact h

theorem thr_iff {L : List LT} {z : Int} : thr L z = true ↔ ∃ T, ob L z = some T := by
  unfold thr
  rw [Option.isSome_iff_exists]

theorem plc_some {L : List LT} {z : Int} {T : LT} (h : ob L z = some T) : plc L z = T.at_ := by unfold plc; rw [h]; rfl
theorem plc_none {L : List LT} {z : Int} (h : thr L z = false) : plc L z = 0 := by
  unfold thr at h
  unfold plc
  rw [Option.isSome_eq_false_iff, Option.isNone_iff_eq_none] at h
  rw [h]
  rfl

/-- A lay that was made. -/
structure Ly (n1 : Nat) (w : World) (lb : Nat) (c : Cfg) (L : List LT) : Prop where
  lt : lb < n1
  cfg : ∀ j, j < 14 → w.cell? ⟨lb, j, none⟩ = (ccells c)[j]?
  things : ∃ v, w.cell? ⟨lb, 14, none⟩ = some v ∧ Prd n1 w v L
  ats : ∃ v, w.cell? ⟨lb, 15, none⟩ = some v ∧ Lrd n1 w v .i64 (L.map (·.at_))

theorem Ly.below {n1 : Nat} {w w' : World} {lb : Nat} {c : Cfg} {L : List LT} (h : Ly n1 w lb c L) (l : Below n1 w w') : Ly n1 w' lb c L := by
  obtain ⟨v, h1, h2⟩ := h.things
  obtain ⟨u, h3, h4⟩ := h.ats
  exact ⟨h.lt, fun j hj => (l.cell (p := ⟨lb, j, none⟩) h.lt).trans (h.cfg j hj), ⟨v, (l.cell (p := ⟨lb, 14, none⟩) h.lt).trans h1, h2.below l⟩, ⟨u, (l.cell (p := ⟨lb, 15, none⟩) h.lt).trans h3, h4.below l⟩⟩

/-- What holds of a lay's things. -/
structure LOk (c : Cfg) (L : List LT) : Prop where
  cok : c.Ok
  len : L.length ≤ 400
  plc : Plc c L
  ptr : ∀ T, T ∈ L → ∀ z, z ∈ T.ps → z = 0 ∨ thr L z = true

end Go.Proofs.YtfihjmoaibmllaaDoor

/-
  The objects of a lay, and the things that the arena holds.
-/
set_option linter.unusedVariables false
set_option maxRecDepth 20000
namespace Go.Proofs.YtfihjmoaibmllaaDoor
open Go.RowKit Go.Shelf

/-- T is the object of o, but for what its fields hold, and Held. -/
structure Mt (T : Tng) (o : LT) : Prop where
  at_ : T.at_ = o.at_
  sp : T.sp = o.sp
  s : T.s = o.s
  k : T.k = o.k
  p : T.p = o.p
  r : T.r = o.r
  a : T.a = o.a
  t : T.t = o.t
  pl : T.ps.length = o.ps.length
  rl : T.rs.length = o.rs.length

/-- The things are the objects of the lay that are there, in their order. -/
structure Sk (L : List LT) (th : List Tng) : Prop where
  of : ∀ T, T ∈ th → ∃ (n : Nat) (o : LT), T.no = n + 1 ∧ L[n]? = some o ∧ 0 < o.at_ ∧ o.fill = 0 ∧ Mt T o
  tn : ∀ (n : Nat) (o : LT), L[n]? = some o → 0 < o.at_ → o.fill = 0 → ∃ T, T ∈ th ∧ T.no = n + 1
  ord : th.Pairwise (fun T U => T.no < U.no)

theorem Sk.nil : Sk [] [] := ⟨fun T h => by simp at h, fun n o h => by simp at h, List.Pairwise.nil⟩

theorem snoc_at {α : Type} {L : List α} {o y : α} {n : Nat} (h : (L ++ [o])[n]? = some y) : (n < L.length ∧ L[n]? = some y) ∨ (n = L.length ∧ y = o) := by
  rcases Nat.lt_or_ge n L.length with hi | hi
  · rw [List.getElem?_append_left hi] at h
    exact .inl ⟨hi, h⟩
  · rw [List.getElem?_append_right hi] at h
    have h3 := (List.getElem?_eq_some_iff.1 h).1
    simp at h3
    have e : n - L.length = 0 := by omega
    rw [e] at h
    exact .inr ⟨by omega, by simpa using h.symm⟩

theorem Sk.obj {L : List LT} {th : List Tng} (H : Sk L th) {o : LT} {U : Tng} (hU : Mt U o) (hn : U.no = L.length + 1) (h1 : 0 < o.at_) (h2 : o.fill = 0) : Sk (L ++ [o]) (th ++ [U]) := by
  refine ⟨fun T hT => ?_, fun n y hy h3 h4 => ?_, ?_⟩
  · rw [List.mem_append] at hT
    rcases hT with hT | hT
    · obtain ⟨n, y, e1, e2, e3⟩ := H.of T hT
      exact ⟨n, y, e1, by rw [List.getElem?_append_left (List.getElem?_eq_some_iff.1 e2).1]; exact e2, e3⟩
    · simp at hT
      subst hT
      exact ⟨L.length, o, hn, by simp, h1, h2, hU⟩
  · rcases snoc_at hy with ⟨-, e⟩ | ⟨rfl, rfl⟩
    · obtain ⟨T, e1, e2⟩ := H.tn n y e h3 h4
      exact ⟨T, List.mem_append_left _ e1, e2⟩
    · exact ⟨U, by simp, hn⟩
  · rw [List.pairwise_append]
    refine ⟨H.ord, by simp, fun T hT V hV => ?_⟩
    simp at hV
    subst hV
    obtain ⟨n, y, e1, e2, -⟩ := H.of T hT
    have := (List.getElem?_eq_some_iff.1 e2).1
    omega

theorem Sk.skip {L : List LT} {th : List Tng} (H : Sk L th) {o : LT} (h : ¬ (0 < o.at_ ∧ o.fill = 0)) : Sk (L ++ [o]) th := by
  refine ⟨fun T hT => ?_, fun n y hy h3 h4 => ?_, H.ord⟩
  · obtain ⟨n, y, e1, e2, e3⟩ := H.of T hT
    exact ⟨n, y, e1, by rw [List.getElem?_append_left (List.getElem?_eq_some_iff.1 e2).1]; exact e2, e3⟩
  · rcases snoc_at hy with ⟨-, e⟩ | ⟨rfl, rfl⟩
    · exact H.tn n y e h3 h4
    · exact absurd ⟨h3, h4⟩ h

theorem Sk.set {L : List LT} {th : List Tng} (H : Sk L th) (i : Nat) (T U : Tng) (hT : th[i]? = some T) (hn : U.no = T.no) (hm : ∀ o, Mt T o → Mt U o) : Sk L (th.set i U) := by
  refine ⟨fun V hV => ?_, fun n y hy h3 h4 => ?_, ?_⟩
  · obtain ⟨k, hk⟩ := List.getElem?_of_mem hV
    rcases set_at_of hk with ⟨rfl, rfl⟩ | ⟨-, hk⟩
    · obtain ⟨n, y, e1, e2, e3, e4, e5⟩ := H.of T (List.mem_of_getElem? hT)
      exact ⟨n, y, by omega, e2, e3, e4, hm y e5⟩
    · exact H.of V (List.mem_of_getElem? hk)
  · obtain ⟨V, e1, e2⟩ := H.tn n y hy h3 h4
    obtain ⟨k, hk⟩ := List.getElem?_of_mem e1
    by_cases e : k = i
    · subst e
      rw [hT] at hk
      simp at hk
      subst hk
      exact ⟨U, List.mem_of_getElem? (i := k) (by rw [List.getElem?_set, if_pos rfl, if_pos (List.getElem?_eq_some_iff.1 hT).1]), by omega⟩
    · exact ⟨V, List.mem_of_getElem? (i := k) (by rw [List.getElem?_set, if_neg (fun h => e h.symm)]; exact hk), e2⟩
  · have h1 : (th.set i U).map (·.no) = th.map (·.no) := map_set_same (fun T : Tng => T.no) th i T U hT hn
    have h2 : ((th.set i U).map (·.no)).Pairwise (· < ·) := by
      rw [h1, List.pairwise_map]
      exact H.ord
    rw [List.pairwise_map] at h2
    exact h2

theorem Sk.uniq {L : List LT} {th : List Tng} (H : Sk L th) {T U : Tng} (hT : T ∈ th) (hU : U ∈ th) (h : T.no = U.no) : T = U := by
  obtain ⟨i, hi⟩ := List.getElem?_of_mem hT
  obtain ⟨j, hj⟩ := List.getElem?_of_mem hU
  have hp := List.pairwise_iff_getElem.1 H.ord
  obtain ⟨i1, i2⟩ := List.getElem?_eq_some_iff.1 hi
  obtain ⟨j1, j2⟩ := List.getElem?_eq_some_iff.1 hj
  rcases Nat.lt_trichotomy i j with h1 | h1 | h1
  · have := hp i j i1 j1 h1
    rw [i2, j2] at this
    omega
  · subst h1
    rw [← i2, j2]
  · have := hp j i j1 i1 h1
    rw [i2, j2] at this
    omega

theorem Sk.find {L : List LT} {th : List Tng} (H : Sk L th) {z : Int} {o : LT} (h : ob L z = some o) : ∃ (i : Nat) (T : Tng), th[i]? = some T ∧ (T.no : Int) = z ∧ Mt T o := by
  obtain ⟨h1, h2, h3, h4⟩ := ob_some.1 h
  obtain ⟨T, e1, e2⟩ := H.tn _ o h2 h3 h4
  obtain ⟨i, hi⟩ := List.getElem?_of_mem e1
  obtain ⟨n, y, f1, f2, -, -, f5⟩ := H.of T e1
  have e : n = (z - 1).toNat := by omega
  subst e
  rw [h2] at f2
  simp at f2
  subst f2
  exact ⟨i, T, hi, by omega, f5⟩

theorem Sk.ob {L : List LT} {th : List Tng} (H : Sk L th) {T : Tng} (h : T ∈ th) : ∃ o, Go.Proofs.YtfihjmoaibmllaaDoor.ob L T.no = some o ∧ Mt T o := by
  obtain ⟨n, y, f1, f2, f3, f4, f5⟩ := H.of T h
  refine ⟨y, ?_, f5⟩
  rw [f1]
  exact ob_at f2 f3 f4

theorem Sk.plc {L : List LT} {th : List Tng} (H : Sk L th) {T : Tng} (h : T ∈ th) : Go.Proofs.YtfihjmoaibmllaaDoor.plc L T.no = T.at_ := by
  obtain ⟨o, h1, h2⟩ := H.ob h
  rw [plc_some h1, h2.at_]

theorem filter_step {th : List Tng} (h : th.Pairwise (fun T U => T.no < U.no)) (q : Tng → Bool) (n : Nat) :
    th.filter (fun T => q T && decide (T.no < n + 1)) = th.filter (fun T => q T && decide (T.no < n)) ++ th.filter (fun T => q T && decide (T.no = n)) := by
  induction th with
  | nil => rfl
  | cons T th ih =>
    rw [List.pairwise_cons] at h
    have ih' := ih h.2
    rcases Nat.lt_trichotomy T.no n with h1 | h1 | h1
    · have a1 : decide (T.no < n + 1) = true := by simp; omega
      have a2 : decide (T.no < n) = true := by simp; omega
      have a3 : decide (T.no = n) = false := by simp; omega
      cases hq : q T
      · rw [List.filter_cons_of_neg (by simp [hq]), List.filter_cons_of_neg (by simp [hq]), List.filter_cons_of_neg (by simp [hq])]
        exact ih'
      · rw [List.filter_cons_of_pos (by simp [hq, a1]), List.filter_cons_of_pos (by simp [hq, a2]), List.filter_cons_of_neg (by simp [a3]), List.cons_append, ih']
    · have n1 : th.filter (fun T => q T && decide (T.no < n + 1)) = [] := by
        rw [List.filter_eq_nil_iff]
        intro U hU
        have := h.1 U hU
        simp
        omega
      have n2 : th.filter (fun T => q T && decide (T.no < n)) = [] := by
        rw [List.filter_eq_nil_iff]
        intro U hU
        have := h.1 U hU
        simp
        omega
      have n3 : th.filter (fun T => q T && decide (T.no = n)) = [] := by
        rw [List.filter_eq_nil_iff]
        intro U hU
        have := h.1 U hU
        simp
        omega
      have a1 : decide (T.no < n + 1) = true := by simp; omega
      have a2 : decide (T.no < n) = false := by simp; omega
      have a3 : decide (T.no = n) = true := by simp; omega
      cases hq : q T
      · rw [List.filter_cons_of_neg (by simp [hq]), List.filter_cons_of_neg (by simp [hq]), List.filter_cons_of_neg (by simp [hq]), n1, n2, n3]
        rfl
      · rw [List.filter_cons_of_pos (by simp [hq, a1]), List.filter_cons_of_neg (by simp [a2]), List.filter_cons_of_pos (by simp [hq, a3]), n1, n2, n3]
        rfl
    · have n1 : (T :: th).filter (fun T => q T && decide (T.no < n + 1)) = [] := by
        rw [List.filter_eq_nil_iff]
        intro U hU
        rcases List.mem_cons.1 hU with rfl | hU
        · simp; omega
        · have := h.1 U hU
          simp
          omega
      have n2 : (T :: th).filter (fun T => q T && decide (T.no < n)) = [] := by
        rw [List.filter_eq_nil_iff]
        intro U hU
        rcases List.mem_cons.1 hU with rfl | hU
        · simp; omega
        · have := h.1 U hU
          simp
          omega
      have n3 : (T :: th).filter (fun T => q T && decide (T.no = n)) = [] := by
        rw [List.filter_eq_nil_iff]
        intro U hU
        rcases List.mem_cons.1 hU with rfl | hU
        · simp; omega
        · have := h.1 U hU
          simp
          omega
      rw [n1, n2, n3]
      rfl

/-- The numbers below n of the things of a kind. -/
def nos (th : List Tng) (q : Tng → Bool) (n : Nat) : List Int := (th.filter (fun T => q T && decide (T.no < n))).map (fun T => (T.no : Int))

theorem nos_yes {L : List LT} {th : List Tng} (H : Sk L th) {q : Tng → Bool} {n : Nat} {T : Tng} (hT : T ∈ th) (hn : T.no = n) (hq : q T = true) : nos th q (n + 1) = nos th q n ++ [(n : Int)] := by
  unfold nos
  rw [filter_step H.ord, List.map_append]
  congr 1
  have key : ∀ (l : List Tng), l.Pairwise (fun T U => T.no < U.no) → T ∈ l → l.filter (fun T => q T && decide (T.no = n)) = [T] := by
    intro l
    induction l with
    | nil => intro _ h; simp at h
    | cons U l ih =>
      intro hp hm
      rw [List.pairwise_cons] at hp
      rcases List.mem_cons.1 hm with rfl | hm
      · rw [List.filter_cons_of_pos (by simp [hq, hn])]
        congr 1
        rw [List.filter_eq_nil_iff]
        intro V hV
        have := hp.1 V hV
        simp
        omega
      · have := hp.1 T hm
        rw [List.filter_cons_of_neg (by simp; omega)]
        exact ih hp.2 hm
  rw [key th H.ord hT]
  simp [hn]

theorem nos_no {L : List LT} {th : List Tng} (H : Sk L th) {q : Tng → Bool} {n : Nat} (h : ∀ T, T ∈ th → T.no = n → q T = false) : nos th q (n + 1) = nos th q n := by
  unfold nos
  rw [filter_step H.ord, List.map_append]
  have : th.filter (fun T => q T && decide (T.no = n)) = [] := by
    rw [List.filter_eq_nil_iff]
    intro T hT
    simp
    intro h1 h2
    rw [h T hT h2] at h1
    simp at h1
  rw [this]
  simp

end Go.Proofs.YtfihjmoaibmllaaDoor

