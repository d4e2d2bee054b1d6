/-
  begin: what is made, and what has been made.
-/
import Derived.Test.YtcjblafohfiiaabGreatSo
set_option linter.unusedVariables false
namespace Go.Proofs.YtcjblafohfiiaabGreat
open Go.RowKit Go.Shelf

/-- The world while the desk is laid: all that was there, the desk, the two bounds, what has been made. -/
structure Bg (w W : World) (D : List (Option Addr)) (M : List Int) (L : List Obj) : Prop where
  os : W.os = w.os
  tape : W.tape = w.tape
  output : W.output = w.output
  heap : W.heap = w.heap ++ (Obj.cells (D.map Value.pointer).toArray 52 (0, 0) :: Obj.cells (M.map (Value.int .i64)).toArray 53 (0, 0) :: L).toArray

variable {w W : World} {D : List (Option Addr)} {M : List Int} {L : List Obj}

theorem Bg.size (h : Bg w W D M L) : W.heap.size = w.heap.size + 2 + L.length := by rw [h.heap]; simp; omega
theorem Bg.desk (h : Bg w W D M L) : W.heap[w.heap.size]? = some (.cells (D.map Value.pointer).toArray 52 (0, 0)) := by rw [h.heap]; simp
theorem Bg.two (h : Bg w W D M L) : W.heap[w.heap.size + 1]? = some (.cells (M.map (Value.int .i64)).toArray 53 (0, 0)) := by rw [h.heap]; simp
theorem Bg.obj (h : Bg w W D M L) (j : Nat) (o : Obj) (ho : L[j]? = some o) : W.heap[w.heap.size + 2 + j]? = some o := by
  rw [h.heap, Array.getElem?_append_right (by omega), show w.heap.size + 2 + j - w.heap.size = j + 2 by omega]
  simpa using ho
theorem Bg.drewN (h : Bg w W D M L) (n : Nat) : Bg w (W.drewN n) D M L := ⟨h.os, h.tape, h.output, h.heap⟩
theorem Bg.drew (h : Bg w W D M L) : Bg w W.drew D M L := ⟨h.os, h.tape, h.output, h.heap⟩
theorem Bg.alloc (h : Bg w W D M L) (o : Obj) : Bg w (W.alloc o) D M (L ++ [o]) := ⟨h.os, h.tape, h.output, by
  show W.heap.push o = _
  rw [h.heap]
  apply Array.ext'
  simp⟩
theorem Bg.cellD (h : Bg w W D M L) (j : Nat) (p : Option Addr) (hj : D[j]? = some p) : W.cell? ⟨w.heap.size, j, none⟩ = some (.pointer p) := by
  rw [heap_cell h.desk]; simp [hj]
theorem Bg.frozenD (h : Bg w W D M L) (j : Nat) : W.frozen? ⟨w.heap.size, j, none⟩ = false := heap_frozen h.desk j
theorem Bg.cellM (h : Bg w W D M L) (j : Nat) (m : Int) (hj : M[j]? = some m) : W.cell? ⟨w.heap.size + 1, j, none⟩ = some (.int .i64 m) := by
  rw [heap_cell h.two]; simp [hj]
theorem Bg.frozenM (h : Bg w W D M L) (j : Nat) : W.frozen? ⟨w.heap.size + 1, j, none⟩ = false := heap_frozen h.two j

theorem modify_at (a : Array Obj) (b : List Obj) (k : Nat) (f : Obj → Obj) : (a ++ b.toArray).modify (a.size + k) f = a ++ (b.modify k f).toArray := by
  apply Array.ext_getElem?
  intro i
  rw [Array.getElem?_modify]
  by_cases h1 : i < a.size
  · rw [if_neg (by omega), Array.getElem?_append_left h1, Array.getElem?_append_left h1]
  · rw [Array.getElem?_append_right (by omega), Array.getElem?_append_right (by omega), List.getElem?_toArray, List.getElem?_toArray, List.getElem?_modify]
    by_cases h2 : a.size + k = i
    · have e : k = i - a.size := by omega
      rw [if_pos h2]; simp [e]
    · have e : ¬ k = i - a.size := by omega
      rw [if_neg h2]; simp [e]

theorem Bg.setD (h : Bg w W D M L) (j : Nat) (p : Option Addr) : Bg w (W.setCell ⟨w.heap.size, j, none⟩ (.pointer p)) (D.set j p) M L := ⟨h.os, h.tape, h.output, by
  have e := modify_at w.heap (Obj.cells (D.map Value.pointer).toArray 52 (0, 0) :: Obj.cells (M.map (Value.int .i64)).toArray 53 (0, 0) :: L) 0
  simp only [Nat.add_zero] at e
  simp only [World.setCell, h.heap, e]
  simp [List.map_set]⟩
theorem Bg.setM (h : Bg w W D M L) (j : Nat) (m : Int) : Bg w (W.setCell ⟨w.heap.size + 1, j, none⟩ (.int .i64 m)) D (M.set j m) L := ⟨h.os, h.tape, h.output, by
  have e := modify_at w.heap (Obj.cells (D.map Value.pointer).toArray 52 (0, 0) :: Obj.cells (M.map (Value.int .i64)).toArray 53 (0, 0) :: L) 1
  simp only [World.setCell, h.heap, e]
  simp [List.map_set]⟩

theorem newitab_at (W : World) : Calls Tryz.prog 15 #[] W fun e w' => e = .returned (.pointer (some ⟨W.heap.size, 0, none⟩)) ∧ w' = W.alloc (.cells #[.slice none 0 0, .slice none 0 0] 127) := by
  go_enter Tryz.func15, Tryz.ntmps15
  go_wp2
  go_ret
  exact ⟨rfl, rfl⟩
theorem newttab_at (W : World) : Calls Tryz.prog 16 #[] W fun e w' => e = .returned (.pointer (some ⟨W.heap.size, 0, none⟩)) ∧ w' = W.alloc (.cells #[.slice none 0 0, .slice none 0 0] 129) := by
  go_enter Tryz.func16, Tryz.ntmps16
  go_wp2
  go_ret
  exact ⟨rfl, rfl⟩
theorem newnum_at (m : Int) (hm : 0 ≤ m) (W : World) : Calls Tryz.prog 10 #[.int .i64 m] W fun e w' => e = .returned (.tuple #[.pointer (some ⟨W.heap.size, 0, none⟩), .int .i64 0]) ∧ w' = W.alloc (.cells #[.slice none 0 0, .int .i64 m] 77) := by
  have h1 : ¬ m < 0 := by omega
  go_enter Tryz.func10, Tryz.ntmps10
  go_wp2
  go_ret2
  exact ⟨rfl, rfl⟩
theorem newtexts_at (m : Int) (hm : 0 ≤ m) (W : World) : Calls Tryz.prog 17 #[.int .i64 m] W fun e w' => e = .returned (.tuple #[.pointer (some ⟨W.heap.size, 0, none⟩), .int .i64 0]) ∧ w' = W.alloc (.cells #[.slice none 0 0, .int .i64 m] 79) := by
  have h1 : ¬ m < 0 := by omega
  go_enter Tryz.func17, Tryz.ntmps17
  go_wp2
  go_ret2
  exact ⟨rfl, rfl⟩

abbrev oNum (m : Int) : Obj := .cells #[.slice none 0 0, .int .i64 m] 77 (0, 0)
abbrev oStk (m : Int) : Obj := .cells #[.slice none 0 0, .int .i64 m] 121 (0, 0)
abbrev oQue (m : Int) : Obj := .cells #[.slice none 0 0, .int .i64 0, .int .i64 m] 123 (0, 0)
abbrev oTqu (m : Int) : Obj := .cells #[.slice none 0 0, .int .i64 0, .int .i64 m] 125 (0, 0)
abbrev oTxs (m : Int) : Obj := .cells #[.slice none 0 0, .int .i64 m] 79 (0, 0)
abbrev oIta : Obj := .cells #[.slice none 0 0, .slice none 0 0] 127 (0, 0)
abbrev oTta : Obj := .cells #[.slice none 0 0, .slice none 0 0] 129 (0, 0)
abbrev oWds : Obj := .cells #[.slice none 0 0, .slice none 0 0] 71 (0, 0)
abbrev oNmd : Obj := .cells #[.slice none 0 0, .slice none 0 0] 74 (0, 0)

/-- The place of the j-th thing that has been made. -/
abbrev plc (w : World) (L : List Obj) : Option Addr := some ⟨w.heap.size + 2 + L.length, 0, none⟩

theorem newnum_bg (m : Int) (hm : 0 ≤ m) (h : Bg w W D M L) : Calls Tryz.prog 10 #[.int .i64 m] W fun e w' => e = .returned (.tuple #[.pointer (plc w L), .int .i64 0]) ∧ Bg w w' D M (L ++ [oNum m]) := by
  refine (newnum_at m hm W).mono ?_
  rintro e w' ⟨rfl, rfl⟩
  exact ⟨by rw [h.size], h.alloc _⟩
theorem newstk_bg (m : Int) (hm : 0 ≤ m) (h : Bg w W D M L) : Calls Tryz.prog 11 #[.int .i64 m] W fun e w' => e = .returned (.tuple #[.pointer (plc w L), .int .i64 0]) ∧ Bg w w' D M (L ++ [oStk m]) := by
  have h1 : ¬ m < 0 := by omega
  have hz := h.size
  have hx : ∀ w', w' = W.alloc (oStk m) → Bg w w' D M (L ++ [oStk m]) := fun w' e => e ▸ h.alloc _
  have hp : plc w L = some ⟨W.heap.size, 0, none⟩ := by simp [plc, hz]
  rw [hp]
  clear hz h hp
  go_enter Tryz.func11, Tryz.ntmps11
  go_wp2
  go_ret2
  exact ⟨rfl, hx _ rfl⟩
theorem newque_bg (m : Int) (hm : 0 ≤ m) (h : Bg w W D M L) : Calls Tryz.prog 12 #[.int .i64 m] W fun e w' => e = .returned (.tuple #[.pointer (plc w L), .int .i64 0]) ∧ Bg w w' D M (L ++ [oQue m]) := by
  have h1 : ¬ m < 0 := by omega
  have hz := h.size
  have hx : ∀ w', w' = W.alloc (oQue m) → Bg w w' D M (L ++ [oQue m]) := fun w' e => e ▸ h.alloc _
  have hp : plc w L = some ⟨W.heap.size, 0, none⟩ := by simp [plc, hz]
  rw [hp]
  clear hz h hp
  go_enter Tryz.func12, Tryz.ntmps12
  go_wp2
  go_ret2
  exact ⟨rfl, hx _ rfl⟩
theorem newtqu_bg (m : Int) (hm : 0 ≤ m) (h : Bg w W D M L) : Calls Tryz.prog 13 #[.int .i64 m] W fun e w' => e = .returned (.tuple #[.pointer (plc w L), .int .i64 0]) ∧ Bg w w' D M (L ++ [oTqu m]) := by
  have h1 : ¬ m < 0 := by omega
  have hz := h.size
  have hx : ∀ w', w' = W.alloc (oTqu m) → Bg w w' D M (L ++ [oTqu m]) := fun w' e => e ▸ h.alloc _
  have hp : plc w L = some ⟨W.heap.size, 0, none⟩ := by simp [plc, hz]
  rw [hp]
  clear hz h hp
  go_enter Tryz.func13, Tryz.ntmps13
  go_wp2
  go_ret2
  exact ⟨rfl, hx _ rfl⟩
theorem newita_bg (h : Bg w W D M L) : Calls Tryz.prog 15 #[] W fun e w' => e = .returned (.pointer (plc w L)) ∧ Bg w w' D M (L ++ [oIta]) := by
  refine (newitab_at W).mono ?_
  rintro e w' ⟨rfl, rfl⟩
  exact ⟨by rw [h.size], h.alloc _⟩
theorem newtta_bg (h : Bg w W D M L) : Calls Tryz.prog 16 #[] W fun e w' => e = .returned (.pointer (plc w L)) ∧ Bg w w' D M (L ++ [oTta]) := by
  refine (newttab_at W).mono ?_
  rintro e w' ⟨rfl, rfl⟩
  exact ⟨by rw [h.size], h.alloc _⟩
theorem newtxs_bg (m : Int) (hm : 0 ≤ m) (h : Bg w W D M L) : Calls Tryz.prog 17 #[.int .i64 m] W fun e w' => e = .returned (.tuple #[.pointer (plc w L), .int .i64 0]) ∧ Bg w w' D M (L ++ [oTxs m]) := by
  refine (newtexts_at m hm W).mono ?_
  rintro e w' ⟨rfl, rfl⟩
  exact ⟨by rw [h.size], h.alloc _⟩
theorem newnum_no (m : Int) (hm : m < 0) (W : World) : Calls Tryz.prog 10 #[.int .i64 m] W fun e w' => e = .returned (.tuple #[.pointer none, .int .i64 10]) ∧ W = w' := by
  go_enter Tryz.func10, Tryz.ntmps10
  go_wp2
  go_ret2
  exact ⟨rfl, rfl⟩
theorem newstk_no (m : Int) (hm : m < 0) (W : World) : Calls Tryz.prog 11 #[.int .i64 m] W fun e w' => e = .returned (.tuple #[.pointer none, .int .i64 10]) ∧ W = w' := by
  go_enter Tryz.func11, Tryz.ntmps11
  go_wp2
  go_ret2
  exact ⟨rfl, rfl⟩
theorem newque_no (m : Int) (hm : m < 0) (W : World) : Calls Tryz.prog 12 #[.int .i64 m] W fun e w' => e = .returned (.tuple #[.pointer none, .int .i64 10]) ∧ W = w' := by
  go_enter Tryz.func12, Tryz.ntmps12
  go_wp2
  go_ret2
  exact ⟨rfl, rfl⟩
theorem newtqu_no (m : Int) (hm : m < 0) (W : World) : Calls Tryz.prog 13 #[.int .i64 m] W fun e w' => e = .returned (.tuple #[.pointer none, .int .i64 10]) ∧ W = w' := by
  go_enter Tryz.func13, Tryz.ntmps13
  go_wp2
  go_ret2
  exact ⟨rfl, rfl⟩

/-- The place of the p-th thing that has been made. -/
abbrev atP (w : World) (p : Nat) : Option Addr := some ⟨w.heap.size + 2 + p, 0, none⟩

/-- Two of each: what is made for one bound. -/
abbrev ten (m : Int) : List Obj := [oStk m, oQue m, oTqu m, oIta, oTta, oNum m, oNum m, oTxs m, oWds, oNmd]

def setTen (w : World) (D : List (Option Addr)) (k b : Nat) : List (Option Addr) :=
  ((((((((((D.set (k) (atP w b)).set (2 + k) (atP w (b + 1))).set (4 + k) (atP w (b + 2))).set (6 + k) (atP w (b + 3))).set (8 + k) (atP w (b + 4))).set (10 + k) (atP w (b + 5))).set (12 + k) (atP w (b + 6))).set (14 + k) (atP w (b + 7))).set (16 + k) (atP w (b + 8))).set (18 + k) (atP w (b + 9)))

structure Placed (w : World) (D : List (Option Addr)) (L : List Obj) (j b : Nat) (m : Int) : Prop where
  d0 : D[j]? = some (atP w b)
  d1 : D[2 + j]? = some (atP w (b + 1))
  d2 : D[4 + j]? = some (atP w (b + 2))
  d3 : D[6 + j]? = some (atP w (b + 3))
  d4 : D[8 + j]? = some (atP w (b + 4))
  d5 : D[10 + j]? = some (atP w (b + 5))
  d6 : D[12 + j]? = some (atP w (b + 6))
  d7 : D[14 + j]? = some (atP w (b + 7))
  d8 : D[16 + j]? = some (atP w (b + 8))
  d9 : D[18 + j]? = some (atP w (b + 9))
  o : ∀ i, i < 10 → L[b + i]? = (ten m)[i]?

structure Beg (w : World) (one two : Int) (k : Nat) (D : List (Option Addr)) (M : List Int) (L : List Obj) : Prop where
  dl : D.length = 20
  ml : M.length = 2
  left : ∀ j, k ≤ j → j < 2 → M[j]? = some (if j = 0 then one else two)
  made : ∃ b : Nat → Nat, (∀ j, j < k → Placed w D L j (b j) (max 0 (if j = 0 then one else two)) ∧ b j + 10 ≤ L.length) ∧ (k = 2 → b 0 + 10 ≤ b 1)

theorem Placed.more {w : World} {D : List (Option Addr)} {L x : List Obj} {b : Nat} {m : Int} (h : Placed w D L 0 b m) (hb : b + 10 ≤ L.length) (c : Nat) (hD : D.length = 20) : Placed w (setTen w D 1 c) (L ++ x) 0 b m := by
  obtain ⟨d0, d1, d2, d3, d4, d5, d6, d7, d8, d9, ho⟩ := h
  refine ⟨by simpa [setTen] using d0, by simpa [setTen] using d1, by simpa [setTen] using d2, by simpa [setTen] using d3, by simpa [setTen] using d4, by simpa [setTen] using d5, by simpa [setTen] using d6, by simpa [setTen] using d7, by simpa [setTen] using d8, by simpa [setTen] using d9, fun i hi => ?_⟩
  · rw [List.getElem?_append_left (by omega)]
    exact ho i hi

theorem Placed.now {w : World} {D : List (Option Addr)} {pre : List Obj} {m : Int} (k : Nat) (hk : k < 2) (hD : D.length = 20) : Placed w (setTen w D k pre.length) (pre ++ ten m) k pre.length m := by
  obtain rfl | rfl : k = 0 ∨ k = 1 := by omega
  all_goals
    refine ⟨by simp [setTen, hD], by simp [setTen, hD], by simp [setTen, hD], by simp [setTen, hD], by simp [setTen, hD], by simp [setTen, hD], by simp [setTen, hD], by simp [setTen, hD], by simp [setTen, hD], by simp [setTen, hD], fun i hi => ?_⟩
    rw [List.getElem?_append_right (by omega), show pre.length + i - pre.length = i by omega]

theorem setTen_length (w : World) (D : List (Option Addr)) (k b : Nat) : (setTen w D k b).length = D.length := by simp [setTen]

theorem beg_step {w : World} {one two : Int} {k : Nat} {D : List (Option Addr)} {M M' : List Int} {L x : List Obj} {m : Int} (hk : k < 2) (h : Beg w one two k D M L) (hm : m = max 0 (if k = 0 then one else two)) (hl : M'.length = 2) (hM : ∀ j, k + 1 ≤ j → M'[j]? = M[j]?) :
    Beg w one two (k + 1) (setTen w D k (L ++ x).length) M' ((L ++ x) ++ ten m) := by
  obtain ⟨dl, ml, lf, b, hb, -⟩ := h
  refine ⟨by rw [setTen_length, dl], hl, fun j h1 h2 => by rw [hM j h1]; exact lf j (by omega) h2, ?_⟩
  obtain rfl | rfl : k = 0 ∨ k = 1 := by omega
  · refine ⟨fun _ => (L ++ x).length, fun j hj => ?_, fun h => by omega⟩
    obtain rfl : j = 0 := by omega
    rw [← hm]
    exact ⟨Placed.now 0 (by omega) dl, by simp; omega⟩
  · refine ⟨fun j => if j = 0 then b 0 else (L ++ x).length, fun j hj => ?_, fun _ => ?_⟩
    · obtain rfl | rfl : j = 0 ∨ j = 1 := by omega
      · obtain ⟨h0, h1⟩ := hb 0 (by omega)
        refine ⟨?_, by simp; omega⟩
        rw [List.append_assoc]
        exact h0.more h1 _ dl
      · rw [← hm]
        exact ⟨Placed.now 1 (by omega) dl, by simp; omega⟩
    · have := (hb 0 (by omega)).2
      simp
      omega

theorem bg_start (w : World) (one two : Int) : Bg w ((w.alloc (.cells #[.pointer none, .pointer none, .pointer none, .pointer none, .pointer none, .pointer none, .pointer none, .pointer none, .pointer none, .pointer none, .pointer none, .pointer none, .pointer none, .pointer none, .pointer none, .pointer none, .pointer none, .pointer none, .pointer none, .pointer none] 52)).alloc (.cells #[.int .i64 one, .int .i64 two] 53)) (List.replicate 20 none) [one, two] [] := ⟨rfl, rfl, rfl, by
  show (w.heap.push _).push _ = _
  apply Array.ext'
  simp only [Array.toList_push, Array.toList_append, List.append_assoc, List.cons_append, List.nil_append]
  rfl⟩

end Go.Proofs.YtcjblafohfiiaabGreat
