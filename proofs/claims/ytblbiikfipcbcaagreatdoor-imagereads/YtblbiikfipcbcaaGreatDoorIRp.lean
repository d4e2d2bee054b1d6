/-
  Images: the chapter's examples.
-/
import Derived.Test.YtblbiikfipcbcaaGreatDoorPRo
import Derived.Test.YtblbiikfipcbcaaGreatDoorPWe
set_option linter.unusedVariables false
set_option maxRecDepth 20000
namespace Go.Proofs.YtblbiikfipcbcaaGreatDoor
open Go.RowKit Go.Shelf

theorem Lrd.conv {n0 : Nat} {w : World} {v : Value} {bs : List Nat} (he : bs ≠ []) (h : Lrd n0 w v .u8 (bs.map Int.ofNat)) : (convert 22 9 v).run Tryz.prog w = .ok (.string (strOfNums (bs.map Int.ofNat))) w := by
  obtain ⟨a, cap, rfl, hc, h2⟩ := h.byte
  obtain ⟨x, r, rfl⟩ := List.exists_cons_of_ne_nil he
  obtain ⟨q, off, rfl, -, -⟩ := h2 0 x rfl
  refine run_convert_bytes_arg w _ _ Tryz.underlying22 Tryz.underlying5 q off _ cap ((x :: r).map Int.ofNat) (by simp) (fun i hi => ?_) _ Tryz.underlying9
  have h1 : (x :: r)[i]? = some ((x :: r)[i]'hi) := List.getElem?_eq_getElem hi
  obtain ⟨q', off', e1, -, h3⟩ := h2 i _ h1
  cases e1
  rw [h3, List.getD_eq_getElem?_getD, List.getElem?_map, h1]
  rfl

theorem samel_any {n1 n2 : Nat} {w : World} {v u : Value} {bs : List Nat} (he : bs ≠ []) (h1 : Lrd n1 w v .u8 (bs.map Int.ofNat)) (h2 : Lrd n2 w u .u8 (bs.map Int.ofNat)) :
    Calls Tryz.prog 9 #[v, u] w fun e w' => e = .returned (.bool true) ∧ w' = w := by
  have f1 := Lrd.conv he h1
  have f2 := Lrd.conv he h2
  obtain ⟨a1, c1, rfl, -, -⟩ := h1.byte
  obtain ⟨a2, c2, rfl, -, -⟩ := h2.byte
  generalize strOfNums (bs.map Int.ofNat) = s at f1 f2
  clear h1 h2
  go_enter Tryz.func9, Tryz.ntmps9
  go_wp2
  go_ret
  exact ⟨by simp, rfl⟩

theorem lrd_take {n0 : Nat} {w : World} {a : Option Addr} {n cap : Nat} {bs : List Nat} (h : Lrd n0 w (.slice a n cap) .u8 (bs.map Int.ofNat)) (m : Nat) (hm : m ≤ bs.length) : Lrd n0 w (.slice a m cap) .u8 ((bs.take m).map Int.ofNat) := by
  obtain ⟨a', cap', e, hc, h2⟩ := h.byte
  cases e
  refine ⟨a, cap, by simp [Nat.min_eq_left hm], by simp; omega, fun i z hz => ?_⟩
  rw [List.getElem?_map, List.getElem?_take] at hz
  split at hz
  · obtain ⟨x, hx, rfl⟩ := Option.map_eq_some_iff.1 hz
    exact h2 i x hx
  · simp at hz

/-- A list of bytes in a block of its own. -/
theorem lrd_blk {w : World} {B : Nat} {bs : List Nat} (h : w.heap[B]? = some (.cells ((bs.map (fun x => Value.int .u8 (Int.ofNat x))).toArray) 5 (0, 0))) : Lrd w.heap.size w (.slice (some ⟨B, 0, none⟩) bs.length bs.length) .u8 (bs.map Int.ofNat) := by
  refine ⟨some ⟨B, 0, none⟩, bs.length, by simp, by simp, fun i z hz => ⟨B, 0, rfl, Kg.heap_lt h, ?_⟩⟩
  rw [List.getElem?_map] at hz
  obtain ⟨x, hx, rfl⟩ := Option.map_eq_some_iff.1 hz
  rw [Nat.zero_add, Kg.heap_cell h i]
  simp [hx]

theorem lrd_nil (n0 : Nat) (w : World) (k : IntKind) : Lrd n0 w (.slice none 0 0) k [] := ⟨none, 0, rfl, Nat.le_refl _, fun f z hz => by simp at hz⟩

theorem grd0 {w : World} {B : Nat} (h : w.heap[B]? = some (.cells #[.slice none 0 0] 33 (0, 0))) : Grd w.heap.size w (.slice none 0 0) (.slice (some ⟨B, 0, none⟩) 1 1) (.slice none 0 0) (.slice none 0 0) (.slice none 0 0) [] [(.slice none 0 0, [])] Im.g0 := by
  refine ⟨⟨none, 0, rfl, fun i x hx => (by simp at hx)⟩, ⟨some ⟨B, 0, none⟩, 1, rfl, fun i x hx => ?_⟩, lrd_nil _ _ _, lrd_nil _ _ _, lrd_nil _ _ _, rfl, rfl, by decide, fun o ho => (by cases ho)⟩
  cases i with
  | zero =>
    simp at hx
    subst hx
    exact ⟨⟨none, 0, rfl, fun i x hx => (by simp at hx)⟩, B, 0, rfl, Kg.heap_lt h, (Kg.heap_cell h 0).trans rfl⟩
  | succ i => simp at hx

end Go.Proofs.YtblbiikfipcbcaaGreatDoor
