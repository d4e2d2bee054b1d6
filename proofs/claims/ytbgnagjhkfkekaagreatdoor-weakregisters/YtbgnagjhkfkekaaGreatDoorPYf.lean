import Derived.Test.YtbgnagjhkfkekaaGreatDoorPYe
import Derived.Test.YtbgnagjhkfkekaaGreatDoorY21
import Derived.Deep.MidRow
/-
  Fix: the lay that is being made.
-/
set_option linter.unusedVariables false
set_option maxRecDepth 20000
namespace Go.Proofs.YtbgnagjhkfkekaaGreatDoor
open Go.RowKit Go.Shelf

/-- A lay's cells. -/
def lyg (c : Cfg) (tv av : Value) (F T E : Nat → Int) (wd : Int) : Nat → Value := fun j => if j < 14 then ((ccells c)[j]?).getD undef else if j = 14 then tv else if j = 15 then av else if j < 21 then .int .i64 (F (j - 16)) else if j < 26 then .int .i64 (T (j - 21)) else if j < 31 then .int .i64 (E (j - 26)) else .int .i64 wd

def z5 : Nat → Int := fun _ => 0
/-- The first words, and the ends. -/
def firsts (c : Cfg) : Nat → Int := fun i => if i = 0 then 0 else if i = 1 then 1 else if i = 2 then 1 + c.eden else if i = 3 then 1 + c.eden + c.surv else 1 + c.eden + 2 * c.surv
def endsf (c : Cfg) : Nat → Int := fun i => if i = 0 then 0 else if i = 1 then 1 + c.eden else if i = 2 then 1 + c.eden + c.surv else if i = 3 then 1 + c.eden + 2 * c.surv else 1 + c.eden + 2 * c.surv + c.ten
/-- The tops, by space. -/
def topf (x : Tps) : Nat → Int := fun i => if i = 0 then 0 else if i = 1 then x.t1 else if i = 2 then x.t2 else if i = 3 then x.t3 else x.t4

theorem firsts_top (c : Cfg) : firsts c = topf (tops0 c) := by
  funext i
  unfold firsts topf tops0
  repeat' split
  all_goals first | rfl | (dsimp only; omega)

theorem topf_at (x : Tps) (s : Int) (h1 : 1 ≤ s) (h4 : s ≤ 4) : topf x s.toNat = x.top s := by
  obtain rfl | rfl | rfl | rfl : s = 1 ∨ s = 2 ∨ s = 3 ∨ s = 4 := by omega
  all_goals rfl

theorem endsf_at (c : Cfg) (s : Int) (h1 : 1 ≤ s) (h4 : s ≤ 4) : endsf c s.toNat = bhd c s := by
  obtain rfl | rfl | rfl | rfl : s = 1 ∨ s = 2 ∨ s = 3 ∨ s = 4 := by omega
  all_goals
    simp [endsf, bhd]
    try omega

/-- The lay in block lb. -/
abbrev Lw (w : World) (lb : Nat) (c : Cfg) (tv av : Value) (F T E : Nat → Int) (wd : Int) : Prop := w.rowIs lb 56 32 (lyg c tv av F T E wd)

theorem lw_cfg {w : World} {lb : Nat} {c : Cfg} {tv av : Value} {F T E : Nat → Int} {wd : Int} (h : Lw w lb c tv av F T E wd) (j : Nat) (hj : j < 14) : w.cell? ⟨lb, j, none⟩ = (ccells c)[j]? := by
  have := h.cell (i := j) (by omega)
  rw [this]
  unfold lyg
  rw [if_pos hj]
  match j, hj with
  | 0, _ | 1, _ | 2, _ | 3, _ | 4, _ | 5, _ | 6, _ | 7, _ | 8, _ | 9, _ | 10, _ | 11, _ | 12, _ | 13, _ => rfl

theorem lw_there {w : World} {lb : Nat} {f : Nat → Value} (h : w.rowIs lb 56 32 f) (o n : Nat) (hn : o + n ≤ 32) : w.there lb o n := fun j hj => ⟨by rw [h.cell (i := o + j) (by omega)]; rfl, h.frozen (o + j)⟩

/-- The configuration is stored. -/
theorem lw_setc {w : World} {lb : Nat} {c c' : Cfg} {tv av : Value} {F T E : Nat → Int} {wd : Int} (h : Lw w lb c tv av F T E wd) : Lw (w.setCells lb 0 (ccells c').toList) lb c' tv av F T E wd :=
  (rowIs_setCells _ 0 _ _ h).congr (fun j hj => by
    match j, hj with
    | 0, _ | 1, _ | 2, _ | 3, _ | 4, _ | 5, _ | 6, _ | 7, _ | 8, _ | 9, _ | 10, _ | 11, _ | 12, _ | 13, _ | 14, _ | 15, _ | 16, _ | 17, _ | 18, _ | 19, _ | 20, _ | 21, _ | 22, _ | 23, _ | 24, _ | 25, _ | 26, _ | 27, _ | 28, _ | 29, _ | 30, _ | 31, _ => rfl
    | j + 32, h => exact absurd h (by omega))

abbrev five (F : Nat → Int) : Array Value := #[.int .i64 (F 0), .int .i64 (F 1), .int .i64 (F 2), .int .i64 (F 3), .int .i64 (F 4)]

theorem lw_setF {w : World} {lb : Nat} {c : Cfg} {tv av : Value} {F F' T E : Nat → Int} {wd : Int} (h : Lw w lb c tv av F T E wd) : Lw (w.setCells lb 16 (five F').toList) lb c tv av F' T E wd :=
  (rowIs_setCells _ 16 _ _ h).congr (fun j hj => by
    match j, hj with
    | 0, _ | 1, _ | 2, _ | 3, _ | 4, _ | 5, _ | 6, _ | 7, _ | 8, _ | 9, _ | 10, _ | 11, _ | 12, _ | 13, _ | 14, _ | 15, _ | 16, _ | 17, _ | 18, _ | 19, _ | 20, _ | 21, _ | 22, _ | 23, _ | 24, _ | 25, _ | 26, _ | 27, _ | 28, _ | 29, _ | 30, _ | 31, _ => rfl
    | j + 32, h => exact absurd h (by omega))
theorem lw_setT {w : World} {lb : Nat} {c : Cfg} {tv av : Value} {F T' T E : Nat → Int} {wd : Int} (h : Lw w lb c tv av F T E wd) : Lw (w.setCells lb 21 (five T').toList) lb c tv av F T' E wd :=
  (rowIs_setCells _ 21 _ _ h).congr (fun j hj => by
    match j, hj with
    | 0, _ | 1, _ | 2, _ | 3, _ | 4, _ | 5, _ | 6, _ | 7, _ | 8, _ | 9, _ | 10, _ | 11, _ | 12, _ | 13, _ | 14, _ | 15, _ | 16, _ | 17, _ | 18, _ | 19, _ | 20, _ | 21, _ | 22, _ | 23, _ | 24, _ | 25, _ | 26, _ | 27, _ | 28, _ | 29, _ | 30, _ | 31, _ => rfl
    | j + 32, h => exact absurd h (by omega))
theorem lw_setE {w : World} {lb : Nat} {c : Cfg} {tv av : Value} {F E' T E : Nat → Int} {wd : Int} (h : Lw w lb c tv av F T E wd) : Lw (w.setCells lb 26 (five E').toList) lb c tv av F T E' wd :=
  (rowIs_setCells _ 26 _ _ h).congr (fun j hj => by
    match j, hj with
    | 0, _ | 1, _ | 2, _ | 3, _ | 4, _ | 5, _ | 6, _ | 7, _ | 8, _ | 9, _ | 10, _ | 11, _ | 12, _ | 13, _ | 14, _ | 15, _ | 16, _ | 17, _ | 18, _ | 19, _ | 20, _ | 21, _ | 22, _ | 23, _ | 24, _ | 25, _ | 26, _ | 27, _ | 28, _ | 29, _ | 30, _ | 31, _ => rfl
    | j + 32, h => exact absurd h (by omega))

end Go.Proofs.YtbgnagjhkfkekaaGreatDoor

/-
  The things of a lay that is being made, each with its fields in rows of its own.
-/
set_option linter.unusedVariables false
set_option maxRecDepth 20000
namespace Go.Proofs.YtbgnagjhkfkekaaGreatDoor
open Go.RowKit Go.Shelf

abbrev words (xs : List Int) : List Value := xs.map (Value.int .u64)

/-- The things and their places, as they are being made. -/
structure Lf (w : World) (tv av : Value) (L : List LT) : Prop where
  row : w.ownsRow 0 63 11 tv L.length (lflat L)
  att : w.ownsRow 0 3 1 av L.length (ints (L.map (·.at_)))
  pb : ∀ T, T ∈ L → w.ownsRow 0 3 1 T.vp T.ps.length (ints T.ps)
  rb : ∀ T, T ∈ L → w.ownsRow 0 58 1 T.vr T.rs.length (words T.rs)
  dp : ∀ (i j : Nat) T U, L[i]? = some T → L[j]? = some U → i ≠ j → ∀ q, T.vp.ownBlock = some q → U.vp.ownBlock ≠ some q
  da : ∀ T, T ∈ L → ∀ q, T.vp.ownBlock = some q → av.ownBlock ≠ some q
  inn : ∀ T, T ∈ L → T.In

theorem Lf.nil (w : World) : Lf w (.slice none 0 0) (.slice none 0 0) [] :=
  ⟨World.ownsRow_nil _ _ _ _, World.ownsRow_nil _ _ _ _, fun T h => by simp at h, fun T h => by simp at h, fun i j T U h => by simp at h, fun T h => by simp at h, fun T h => by simp at h⟩

theorem row_cells {w : World} {base e size n : Nat} {v : Value} {xs : List Value} (h : w.ownsRow base e size v n xs) {q : Nat} (hq : v.ownBlock = some q) : ∃ cs, w.heap[q]? = some (.cells cs e (0, 0)) := by
  rcases h.2 with ⟨rfl, _⟩ | ⟨y, cp, cur, rfl, _, hy, _⟩
  · simp [Value.ownBlock] at hq
  · simp [Value.ownBlock] at hq
    subst hq
    exact ⟨_, hy⟩

/-- Blocks that are neither things nor numbers turn. -/
theorem Lf.touch {w w' : World} {tv av : Value} {L : List LT} (H : Lf w tv av L) {F : List Nat} (t : Touch F w w') (hF : ∀ (q : Nat) (cs : Array Value) (ty : TypeId), w.heap[q]? = some (.cells cs ty (0, 0)) → ty = 63 ∨ ty = 3 ∨ ty = 58 → q ∉ F) : Lf w' tv av L := by
  have key : ∀ {e size n : Nat} {v : Value} {xs : List Value}, w.ownsRow 0 e size v n xs → (e = 63 ∨ e = 3 ∨ e = 58) → w'.ownsRow 0 e size v n xs := fun h he => row_keep h (fun q hq => by
    obtain ⟨cs, hc⟩ := row_cells h hq
    exact t.block q (row_lt h q hq) (hF q cs _ hc he))
  exact ⟨key H.row (.inl rfl), key H.att (.inr (.inl rfl)), fun T hT => key (H.pb T hT) (.inr (.inl rfl)), fun T hT => key (H.rb T hT) (.inr (.inr rfl)), H.dp, H.da, H.inn⟩

theorem Lf.below {w w' : World} {tv av : Value} {L : List LT} (H : Lf w tv av L) (l : Below w.heap.size w w') : Lf w' tv av L := H.touch (Touch.of_below l []) (fun _ _ _ _ _ => by simp)

/-- One thing more. -/
theorem Lf.snoc {w w' : World} {tv av tv' av' : Value} {L : List LT} (H : Lf w tv av L) {T : LT} (hrow : w'.ownsRow 0 63 11 tv' (L.length + 1) (lflat L ++ T.cells.toList)) (hatt : w'.ownsRow 0 3 1 av' (L.length + 1) (ints (L.map (·.at_)) ++ [.int .i64 T.at_]))
    (hold : ∀ U, U ∈ L → w'.ownsRow 0 3 1 U.vp U.ps.length (ints U.ps) ∧ w'.ownsRow 0 58 1 U.vr U.rs.length (words U.rs)) (hp : w'.ownsRow 0 3 1 T.vp T.ps.length (ints T.ps)) (hr : w'.ownsRow 0 58 1 T.vr T.rs.length (words T.rs))
    (hnew : ∀ q, T.vp.ownBlock = some q → av'.ownBlock ≠ some q ∧ ∀ U, U ∈ L → U.vp.ownBlock ≠ some q) (hav : ∀ U, U ∈ L → ∀ q, U.vp.ownBlock = some q → av'.ownBlock ≠ some q) (hin : T.In) : Lf w' tv' av' (L ++ [T]) := by
  have mem : ∀ {V}, V ∈ L ++ [T] → V ∈ L ∨ V = T := fun hV => by simpa using hV
  refine ⟨?_, ?_, fun V hV => ?_, fun V hV => ?_, fun i j V U hi hj hij q hq => ?_, fun V hV q hq => ?_, fun V hV => ?_⟩
  · rw [lflat_snoc, List.length_append]
    exact hrow
  · rw [List.length_append]
    simpa [ints] using hatt
  · rcases mem hV with h | rfl
    · exact (hold V h).1
    · exact hp
  · rcases mem hV with h | rfl
    · exact (hold V h).2
    · exact hr
  · rcases snoc_at hi with ⟨i1, hi2⟩ | ⟨rfl, rfl⟩
    · rcases snoc_at hj with ⟨j1, hj2⟩ | ⟨rfl, rfl⟩
      · exact H.dp i j V U hi2 hj2 hij q hq
      · intro e
        exact (hnew q e).2 V (List.mem_of_getElem? hi2) hq
    · rcases snoc_at hj with ⟨j1, hj2⟩ | ⟨rfl, rfl⟩
      · exact (hnew q hq).2 U (List.mem_of_getElem? hj2)
      · exact absurd rfl hij
  · rcases mem hV with h | rfl
    · exact hav V h q hq
    · exact (hnew q hq).1
  · rcases mem hV with h | rfl
    · exact H.inn V h
    · exact hin

theorem Lf.lt {w : World} {tv av : Value} {L : List LT} (H : Lf w tv av L) : (∀ q, tv.ownBlock = some q → q < w.heap.size) ∧ (∀ q, av.ownBlock = some q → q < w.heap.size) ∧ ∀ T, T ∈ L → (∀ q, T.vp.ownBlock = some q → q < w.heap.size) ∧ ∀ q, T.vr.ownBlock = some q → q < w.heap.size :=
  ⟨fun q hq => row_lt H.row q hq, fun q hq => row_lt H.att q hq, fun T hT => ⟨fun q hq => row_lt (H.pb T hT) q hq, fun q hq => row_lt (H.rb T hT) q hq⟩⟩

/-- A pointer is made null. -/
theorem Lf.null {w w' : World} {tv av : Value} {L : List LT} (H : Lf w tv av L) (i : Nat) (T : LT) (hT : L[i]? = some T) (k : Nat) (t : Touch T.vp.ownBlock.toList w w') (hp : w'.ownsRow 0 3 1 T.vp T.ps.length (ints (T.ps.set k 0))) : Lf w' tv av (L.set i { T with ps := T.ps.set k 0 }) := by
  have hm := List.mem_of_getElem? hT
  have ec : (L.set i { T with ps := T.ps.set k 0 }).map (fun U => U.cells.toList) = L.map (fun U => U.cells.toList) := map_set_same _ L i T _ hT rfl
  have ea : (L.set i { T with ps := T.ps.set k 0 }).map (·.at_) = L.map (·.at_) := map_set_same _ L i T _ hT rfl
  have nF : ∀ q, q ∈ T.vp.ownBlock.toList → T.vp.ownBlock = some q := fun q hq => by rwa [Option.mem_toList] at hq
  have k1 : ∀ {e size n : Nat} {v : Value} {xs : List Value}, w.ownsRow 0 e size v n xs → (∀ q, v.ownBlock = some q → T.vp.ownBlock ≠ some q) → w'.ownsRow 0 e size v n xs := fun h hne => row_keep h (fun q hq => t.block q (row_lt h q hq) (fun hm => hne q hq (nF q hm)))
  have ty : ∀ {e size n : Nat} {v : Value} {xs : List Value}, w.ownsRow 0 e size v n xs → e ≠ 3 → ∀ q, v.ownBlock = some q → T.vp.ownBlock ≠ some q := fun h he q hq hq2 => by
    obtain ⟨cs, hc⟩ := row_cells h hq
    exact row_ne hc (H.pb T hm) he hq2.symm
  refine ⟨?_, ?_, fun V hV => ?_, fun V hV => ?_, fun a b V U ha hb hab q hq => ?_, fun V hV q hq => ?_, fun V hV => ?_⟩
  · unfold lflat
    rw [ec, List.length_set]
    exact k1 H.row (ty H.row (by decide))
  · rw [ea, List.length_set]
    exact k1 H.att (fun q hq hq2 => H.da T hm q hq2 hq)
  · obtain ⟨j, hj⟩ := List.getElem?_of_mem hV
    rcases set_at_of hj with ⟨rfl, rfl⟩ | ⟨hn, hj2⟩
    · show w'.ownsRow 0 3 1 T.vp (T.ps.set k 0).length (ints (T.ps.set k 0))
      rw [List.length_set]
      exact hp
    · exact k1 (H.pb V (List.mem_of_getElem? hj2)) (fun q hq hq2 => H.dp j i V T hj2 hT hn q hq hq2)
  · obtain ⟨j, hj⟩ := List.getElem?_of_mem hV
    rcases set_at_of hj with ⟨rfl, rfl⟩ | ⟨hn, hj2⟩
    · exact k1 (H.rb T hm) (ty (H.rb T hm) (by decide))
    · exact k1 (H.rb V (List.mem_of_getElem? hj2)) (ty (H.rb V (List.mem_of_getElem? hj2)) (by decide))
  · rcases set_at_of ha with ⟨rfl, rfl⟩ | ⟨hn, ha2⟩
    · rcases set_at_of hb with ⟨rfl, rfl⟩ | ⟨hn2, hb2⟩
      · exact absurd rfl hab
      · exact H.dp _ _ T U hT hb2 hab q hq
    · rcases set_at_of hb with ⟨rfl, rfl⟩ | ⟨hn2, hb2⟩
      · exact H.dp _ _ V T ha2 hT hab q hq
      · exact H.dp _ _ V U ha2 hb2 hab q hq
  · obtain ⟨j, hj⟩ := List.getElem?_of_mem hV
    rcases set_at_of hj with ⟨rfl, rfl⟩ | ⟨hn, hj2⟩
    · exact H.da T hm q hq
    · exact H.da V (List.mem_of_getElem? hj2) q hq
  · obtain ⟨j, hj⟩ := List.getElem?_of_mem hV
    rcases set_at_of hj with ⟨rfl, rfl⟩ | ⟨hn, hj2⟩
    · obtain ⟨h1, h2, h3, h4, h5, h6, h7⟩ := H.inn T hm
      exact ⟨h1, h2, h3, h4, h5, h6, h7⟩
    · exact H.inn V (List.mem_of_getElem? hj2)

/-- A lay that was made. -/
theorem Lf.ly {w : World} {tv av : Value} {L : List LT} (H : Lf w tv av L) {lb : Nat} {c : Cfg} {F T E : Nat → Int} {wd : Int} (hy : Lw w lb c tv av F T E wd) : Ly w.heap.size w lb c L := by
  refine ⟨hy.lt, fun j hj => lw_cfg hy j hj, ⟨tv, hy.cell (i := 14) (by decide), Prd.of_row H.row (fun o ho => ⟨H.inn o ho, Lrd.of_row (H.pb o ho), Lrd.of_row (H.rb o ho)⟩)⟩, ⟨av, hy.cell (i := 15) (by decide), ?_⟩⟩
  have := H.att
  exact Lrd.of_row (by rw [List.length_map]; exact this)

end Go.Proofs.YtbgnagjhkfkekaaGreatDoor

/-
  Fix: what becomes of a plan's things.
-/
set_option linter.unusedVariables false
set_option maxRecDepth 20000
namespace Go.Proofs.YtbgnagjhkfkekaaGreatDoor
open Go.RowKit Go.Shelf

/-- What of a thing bears on places. -/
def ky (T : LT) : Int × Int × Int × Int := (T.at_, T.sp, T.sz, T.fill)

theorem foldl_ky : ∀ (L L' : List LT) (x : Tps), L.map ky = L'.map ky → L.foldl stp x = L'.foldl stp x := by
  intro L
  induction L with
  | nil =>
    intro L' x h
    cases L' with
    | nil => rfl
    | cons U L' => simp at h
  | cons T L ih =>
    intro L' x h
    cases L' with
    | nil => simp at h
    | cons U L' =>
      rw [List.map_cons, List.map_cons, List.cons.injEq] at h
      obtain ⟨h1, h2⟩ := h
      simp only [ky, Prod.mk.injEq] at h1
      obtain ⟨e1, e2, e3, -⟩ := h1
      have e : stp x T = stp x U := by unfold stp; rw [e1, e2, e3]
      rw [List.foldl_cons, List.foldl_cons, e]
      exact ih L' _ h2

theorem tps_ky (c : Cfg) {L L' : List LT} (h : L.map ky = L'.map ky) : tps c L = tps c L' := foldl_ky L L' _ h

theorem tps_ky_take (c : Cfg) {L L' : List LT} (h : L.map ky = L'.map ky) (i : Nat) : tps c (L.take i) = tps c (L'.take i) := tps_ky c (by rw [List.map_take, List.map_take, h])

theorem ky_at {L L' : List LT} (h : L.map ky = L'.map ky) (i : Nat) : (L[i]?).map ky = (L'[i]?).map ky := by
  rw [← List.getElem?_map, ← List.getElem?_map, h]

theorem thr_ky {L L' : List LT} (h : L.map ky = L'.map ky) (z : Int) : thr L z = thr L' z := by
  have e := ky_at h (z - 1).toNat
  unfold thr ob
  split
  · cases h1 : L[(z - 1).toNat]? with
    | none =>
      rw [h1] at e
      cases h2 : L'[(z - 1).toNat]? with
      | none => rfl
      | some U => rw [h2] at e; simp at e
    | some T =>
      rw [h1] at e
      cases h2 : L'[(z - 1).toNat]? with
      | none => rw [h2] at e; simp at e
      | some U =>
        rw [h2] at e
        simp only [Option.map_some, ky, Option.some.injEq, Prod.mk.injEq] at e
        obtain ⟨e1, -, -, e4⟩ := e
        rw [Option.filter_some, Option.filter_some, e1, e4]
        split <;> rfl
  · rfl

/-- What becomes of a thing of a plan, behind the tops x. -/
structure Fx1 (c : Cfg) (x : Tps) (o T : LT) : Prop where
  sp : T.sp = 1 + amg (wrap64 (o.sp - 1)) 4
  fill : T.fill = if 0 < o.fill then 1 + amg (o.fill - 1) 40 else 0
  ps : T.ps.length = if 0 < o.fill then 0 else min o.ps.length 60
  rs : T.rs.length = if 0 < o.fill then 0 else min o.rs.length 60
  h : T.h = if 0 < o.fill then false else o.h
  at_ : T.at_ = if x.top T.sp + T.sz ≤ bhd c T.sp then x.top T.sp else 0
  pz : ∀ z, z ∈ T.ps → z = 0 ∨ z ∈ o.ps

/-- What holds of the things while a lay is made. -/
structure Lk (c : Cfg) (P L : List LT) : Prop where
  plc : Plc c L
  fx : ∀ (i : Nat) o T, P[i]? = some o → L[i]? = some T → Fx1 c (tps c (L.take i)) o T
  ini : ∀ T, T ∈ L → ∀ z, z ∈ T.ps → InI z

theorem Lk.nil (c : Cfg) (P : List LT) : Lk c P [] := ⟨Plc.nil c, fun i o T _ h => by simp at h, fun T h => by simp at h⟩

theorem Lk.snoc {c : Cfg} {P L : List LT} (H : Lk c P L) {o T : LT} (ho : P[L.length]? = some o) (hT : T.Ok c (tps c L)) (hf : Fx1 c (tps c L) o T) (hi : ∀ z, z ∈ T.ps → InI z) : Lk c P (L ++ [T]) := by
  refine ⟨H.plc.snoc hT, fun i y U hy hU => ?_, fun U hU => ?_⟩
  · rcases snoc_at hU with ⟨h1, h2⟩ | ⟨rfl, rfl⟩
    · rw [List.take_append_of_le_length (Nat.le_of_lt h1)]
      exact H.fx i y U hy h2
    · rw [ho] at hy
      simp at hy
      subst hy
      rw [List.take_left']
      · exact hf
      · rfl
  · rcases List.mem_append.1 hU with h | h
    · exact H.ini U h
    · simp at h
      subst h
      exact hi

theorem ky_null {L : List LT} {i : Nat} {T : LT} (hT : L[i]? = some T) (k : Nat) : (L.set i { T with ps := T.ps.set k 0 }).map ky = L.map ky :=
  map_set_same ky L i T _ hT (by simp [ky, LT.sz])

theorem Lk.null {c : Cfg} {P L : List LT} (H : Lk c P L) {i : Nat} {T : LT} (hT : L[i]? = some T) (k : Nat) : Lk c P (L.set i { T with ps := T.ps.set k 0 }) := by
  have hky := ky_null hT k
  have htk : ∀ j, tps c ((L.set i { T with ps := T.ps.set k 0 }).take j) = tps c (L.take j) := fun j => tps_ky_take c hky j
  refine ⟨fun j U hU => ?_, fun j o U ho hU => ?_, fun U hU z hz => ?_⟩
  · rw [htk]
    rcases set_at_of hU with ⟨rfl, rfl⟩ | ⟨hn, hU⟩
    · obtain ⟨h1, h2, h3, h4, h5, h6, h7⟩ := H.plc _ T hT
      refine ⟨h1, h2, h3, fun h => ?_, fun h => ?_, ?_, ?_⟩
      · obtain ⟨q1, q2, q3⟩ := h4 h
        exact ⟨q1, by simpa using q2, q3⟩
      · obtain ⟨q1, q2⟩ := h5 h
        exact ⟨by simp [q1], q2⟩
      · simpa [LT.sz] using h6
      · simpa using h7
    · exact H.plc j U hU
  · rw [htk]
    rcases set_at_of hU with ⟨rfl, rfl⟩ | ⟨hn, hU⟩
    · obtain ⟨h1, h2, h3, h4, h5, h6, h7⟩ := H.fx _ o T ho hT
      have e : ({ T with ps := T.ps.set k 0 } : LT).sz = T.sz := by simp [LT.sz]
      refine ⟨h1, h2, by simpa using h3, h4, h5, ?_, fun z hz => ?_⟩
      · rw [e]
        exact h6
      · rcases List.mem_or_eq_of_mem_set hz with h | h
        · exact h7 z h
        · exact .inl h
    · exact H.fx j o U ho hU
  · obtain ⟨j, hj⟩ := List.getElem?_of_mem hU
    rcases set_at_of hj with ⟨rfl, rfl⟩ | ⟨hn, hj⟩
    · rcases List.mem_or_eq_of_mem_set hz with h | h
      · exact H.ini T (List.mem_of_getElem? hT) z h
      · subst h
        unfold InI
        omega
    · exact H.ini U (List.mem_of_getElem? hj) z hz

end Go.Proofs.YtbgnagjhkfkekaaGreatDoor

