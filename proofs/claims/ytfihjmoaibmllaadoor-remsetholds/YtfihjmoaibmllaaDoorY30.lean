/-
  The things of a lay that is being made, each with its fields in rows of its own.
-/
import Derived.Test.YtfihjmoaibmllaaDoorY28
set_option linter.unusedVariables false
set_option maxRecDepth 20000
namespace Go.Proofs.YtfihjmoaibmllaaDoor
open Go.RowKit Go.Shelf

abbrev words (xs : List Int) : List Value := xs.map (Value.int .u64)

/-- The things and their places, as they are being made. -/
structure Lf (w : World) (tv av : Value) (L : List LT) : Prop where
  row : w.ownsRow 0 51 11 tv L.length (lflat L)
  att : w.ownsRow 0 3 1 av L.length (ints (L.map (·.at_)))
  pb : ∀ T, T ∈ L → w.ownsRow 0 3 1 T.vp T.ps.length (ints T.ps)
  rb : ∀ T, T ∈ L → w.ownsRow 0 46 1 T.vr T.rs.length (words T.rs)
  dp : ∀ (i j : Nat) T U, L[i]? = some T → L[j]? = some U → i ≠ j → ∀ q, T.vp.ownBlock = some q → U.vp.ownBlock ≠ some q
  da : ∀ T, T ∈ L → ∀ q, T.vp.ownBlock = some q → av.ownBlock ≠ some q
  inn : ∀ T, T ∈ L → T.In

theorem Lf.nil (w : World) : Lf w (.slice none 0 0) (.slice none 0 0) [] :=
  ⟨World.ownsRow_nil _ _ _ _, World.ownsRow_nil _ _ _ _, fun T h => by simp at h, fun T h => by simp at h, fun i j T U h => by simp at h, fun T h => by simp at h, fun T h => by simp at h⟩

theorem row_cells {w : World} {base e size n : Nat} {v : Value} {xs : List Value} (h : w.ownsRow base e size v n xs) {q : Nat} (hq : v.ownBlock = some q) : ∃ cs, w.heap[q]? = some (.cells cs e (0, 0)) := by
  rcases h.2 with ⟨rfl, _⟩ | ⟨y, cp, cur, rfl, _, hy, _⟩
  · simp [Value.ownBlock] at hq
  · simp [Value.ownBlock] at hq
    subst hq
    exact ⟨_, hy⟩

/-- Blocks that are neither things nor numbers turn. -/
theorem Lf.touch {w w' : World} {tv av : Value} {L : List LT} (H : Lf w tv av L) {F : List Nat} (t : Touch F w w') (hF : ∀ (q : Nat) (cs : Array Value) (ty : TypeId), w.heap[q]? = some (.cells cs ty (0, 0)) → ty = 51 ∨ ty = 3 ∨ ty = 46 → q ∉ F) : Lf w' tv av L := by
  have key : ∀ {e size n : Nat} {v : Value} {xs : List Value}, w.ownsRow 0 e size v n xs → (e = 51 ∨ e = 3 ∨ e = 46) → w'.ownsRow 0 e size v n xs := fun h he => row_keep h (fun q hq => by
    obtain ⟨cs, hc⟩ := row_cells h hq
    exact t.block q (row_lt h q hq) (hF q cs _ hc he))
  exact ⟨key H.row (.inl rfl), key H.att (.inr (.inl rfl)), fun T hT => key (H.pb T hT) (.inr (.inl rfl)), fun T hT => key (H.rb T hT) (.inr (.inr rfl)), H.dp, H.da, H.inn⟩

theorem Lf.below {w w' : World} {tv av : Value} {L : List LT} (H : Lf w tv av L) (l : Below w.heap.size w w') : Lf w' tv av L := H.touch (Touch.of_below l []) (fun _ _ _ _ _ => by simp)

/-- One thing more. -/
theorem Lf.snoc {w w' : World} {tv av tv' av' : Value} {L : List LT} (H : Lf w tv av L) {T : LT} (hrow : w'.ownsRow 0 51 11 tv' (L.length + 1) (lflat L ++ T.cells.toList)) (hatt : w'.ownsRow 0 3 1 av' (L.length + 1) (ints (L.map (·.at_)) ++ [.int .i64 T.at_]))
    (hold : ∀ U, U ∈ L → w'.ownsRow 0 3 1 U.vp U.ps.length (ints U.ps) ∧ w'.ownsRow 0 46 1 U.vr U.rs.length (words U.rs)) (hp : w'.ownsRow 0 3 1 T.vp T.ps.length (ints T.ps)) (hr : w'.ownsRow 0 46 1 T.vr T.rs.length (words T.rs))
    (hnew : ∀ q, T.vp.ownBlock = some q → av'.ownBlock ≠ some q ∧ ∀ U, U ∈ L → U.vp.ownBlock ≠ some q) (hav : ∀ U, U ∈ L → ∀ q, U.vp.ownBlock = some q → av'.ownBlock ≠ some q) (hin : T.In) : Lf w' tv' av' (L ++ [T]) := by
  have mem : ∀ {V}, V ∈ L ++ [T] → V ∈ L ∨ V = T := fun hV => by simpa using hV
  refine ⟨?_, ?_, fun V hV => ?_, fun V hV => ?_, fun i j V U hi hj hij q hq => ?_, fun V hV q hq => ?_, fun V hV => ?_⟩
  · rw [lflat_snoc, List.length_append]
    exact hrow
  · rw [List.length_append]
    simpa [ints] using hatt
  · rcases mem hV with h | rfl
    · exact (hold V h).1
    · exact hp
  · rcases mem hV with h | rfl
    · exact (hold V h).2
    · exact hr
  · rcases snoc_at hi with ⟨i1, hi2⟩ | ⟨rfl, rfl⟩
    · rcases snoc_at hj with ⟨j1, hj2⟩ | ⟨rfl, rfl⟩
      · exact H.dp i j V U hi2 hj2 hij q hq
      · intro e
        exact (hnew q e).2 V (List.mem_of_getElem? hi2) hq
    · rcases snoc_at hj with ⟨j1, hj2⟩ | ⟨rfl, rfl⟩
      · exact (hnew q hq).2 U (List.mem_of_getElem? hj2)
      · exact absurd rfl hij
  · rcases mem hV with h | rfl
    · exact hav V h q hq
    · exact (hnew q hq).1
  · rcases mem hV with h | rfl
    · exact H.inn V h
    · exact hin

theorem Lf.lt {w : World} {tv av : Value} {L : List LT} (H : Lf w tv av L) : (∀ q, tv.ownBlock = some q → q < w.heap.size) ∧ (∀ q, av.ownBlock = some q → q < w.heap.size) ∧ ∀ T, T ∈ L → (∀ q, T.vp.ownBlock = some q → q < w.heap.size) ∧ ∀ q, T.vr.ownBlock = some q → q < w.heap.size :=
  ⟨fun q hq => row_lt H.row q hq, fun q hq => row_lt H.att q hq, fun T hT => ⟨fun q hq => row_lt (H.pb T hT) q hq, fun q hq => row_lt (H.rb T hT) q hq⟩⟩

/-- A pointer is made null. -/
theorem Lf.null {w w' : World} {tv av : Value} {L : List LT} (H : Lf w tv av L) (i : Nat) (T : LT) (hT : L[i]? = some T) (k : Nat) (t : Touch T.vp.ownBlock.toList w w') (hp : w'.ownsRow 0 3 1 T.vp T.ps.length (ints (T.ps.set k 0))) : Lf w' tv av (L.set i { T with ps := T.ps.set k 0 }) := by
  have hm := List.mem_of_getElem? hT
  have ec : (L.set i { T with ps := T.ps.set k 0 }).map (fun U => U.cells.toList) = L.map (fun U => U.cells.toList) := map_set_same _ L i T _ hT rfl
  have ea : (L.set i { T with ps := T.ps.set k 0 }).map (·.at_) = L.map (·.at_) := map_set_same _ L i T _ hT rfl
  have nF : ∀ q, q ∈ T.vp.ownBlock.toList → T.vp.ownBlock = some q := fun q hq => by rwa [Option.mem_toList] at hq
  have k1 : ∀ {e size n : Nat} {v : Value} {xs : List Value}, w.ownsRow 0 e size v n xs → (∀ q, v.ownBlock = some q → T.vp.ownBlock ≠ some q) → w'.ownsRow 0 e size v n xs := fun h hne => row_keep h (fun q hq => t.block q (row_lt h q hq) (fun hm => hne q hq (nF q hm)))
  have ty : ∀ {e size n : Nat} {v : Value} {xs : List Value}, w.ownsRow 0 e size v n xs → e ≠ 3 → ∀ q, v.ownBlock = some q → T.vp.ownBlock ≠ some q := fun h he q hq hq2 => by
    obtain ⟨cs, hc⟩ := row_cells h hq
    exact row_ne hc (H.pb T hm) he hq2.symm
  refine ⟨?_, ?_, fun V hV => ?_, fun V hV => ?_, fun a b V U ha hb hab q hq => ?_, fun V hV q hq => ?_, fun V hV => ?_⟩
  · unfold lflat
    rw [ec, List.length_set]
    exact k1 H.row (ty H.row (by decide))
  · rw [ea, List.length_set]
    exact k1 H.att (fun q hq hq2 => H.da T hm q hq2 hq)
  · obtain ⟨j, hj⟩ := List.getElem?_of_mem hV
    rcases set_at_of hj with ⟨rfl, rfl⟩ | ⟨hn, hj2⟩
    · show w'.ownsRow 0 3 1 T.vp (T.ps.set k 0).length (ints (T.ps.set k 0))
      rw [List.length_set]
      exact hp
    · exact k1 (H.pb V (List.mem_of_getElem? hj2)) (fun q hq hq2 => H.dp j i V T hj2 hT hn q hq hq2)
  · obtain ⟨j, hj⟩ := List.getElem?_of_mem hV
    rcases set_at_of hj with ⟨rfl, rfl⟩ | ⟨hn, hj2⟩
    · exact k1 (H.rb T hm) (ty (H.rb T hm) (by decide))
    · exact k1 (H.rb V (List.mem_of_getElem? hj2)) (ty (H.rb V (List.mem_of_getElem? hj2)) (by decide))
  · rcases set_at_of ha with ⟨rfl, rfl⟩ | ⟨hn, ha2⟩
    · rcases set_at_of hb with ⟨rfl, rfl⟩ | ⟨hn2, hb2⟩
      · exact absurd rfl hab
      · exact H.dp _ _ T U hT hb2 hab q hq
    · rcases set_at_of hb with ⟨rfl, rfl⟩ | ⟨hn2, hb2⟩
      · exact H.dp _ _ V T ha2 hT hab q hq
      · exact H.dp _ _ V U ha2 hb2 hab q hq
  · obtain ⟨j, hj⟩ := List.getElem?_of_mem hV
    rcases set_at_of hj with ⟨rfl, rfl⟩ | ⟨hn, hj2⟩
    · exact H.da T hm q hq
    · exact H.da V (List.mem_of_getElem? hj2) q hq
  · obtain ⟨j, hj⟩ := List.getElem?_of_mem hV
    rcases set_at_of hj with ⟨rfl, rfl⟩ | ⟨hn, hj2⟩
    · obtain ⟨h1, h2, h3, h4, h5, h6, h7⟩ := H.inn T hm
      exact ⟨h1, h2, h3, h4, h5, h6, h7⟩
    · exact H.inn V (List.mem_of_getElem? hj2)

/-- A lay that was made. -/
theorem Lf.ly {w : World} {tv av : Value} {L : List LT} (H : Lf w tv av L) {lb : Nat} {c : Cfg} {F T E : Nat → Int} {wd : Int} (hy : Lw w lb c tv av F T E wd) : Ly w.heap.size w lb c L := by
  refine ⟨hy.lt, fun j hj => lw_cfg hy j hj, ⟨tv, hy.cell (i := 14) (by decide), Prd.of_row H.row (fun o ho => ⟨H.inn o ho, Lrd.of_row (H.pb o ho), Lrd.of_row (H.rb o ho)⟩)⟩, ⟨av, hy.cell (i := 15) (by decide), ?_⟩⟩
  have := H.att
  exact Lrd.of_row (by rw [List.length_map]; exact this)

end Go.Proofs.YtfihjmoaibmllaaDoor
