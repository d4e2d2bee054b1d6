/-
  The pair: both, and where objects were put.
-/
import Derived.Test.YtpiemfchjlihfaaGreatDoorPB3
import Derived.Test.YtpiemfchjlihfaaGreatDoorPKm
set_option linter.unusedVariables false
set_option maxRecDepth 20000
namespace Go.Proofs.YtpiemfchjlihfaaGreatDoor
open Go.RowKit Go.Shelf

/-- A call of a script. -/
structure Op13 where
  k : Int
  t : Int
  s : Int
  kd : Int
  p : Int
  r : Int
  a : Int
  y : Int
  h : Bool
  n : Int
  i : Int
  w : Int

abbrev I64 (z : Int) : Prop := -9223372036854775808 ≤ z ∧ z < 9223372036854775808

structure Op13.Ok (o : Op13) : Prop where
  t : I64 o.t
  s : Wd o.s
  kd : I64 o.kd
  p : I64 o.p
  r : I64 o.r
  a : I64 o.a
  y : I64 o.y
  n : I64 o.n
  i : I64 o.i
  w : Wd o.w

abbrev Op13.cells (o : Op13) : Array Value := #[.int .i64 o.k, .int .i64 o.t, .int .u64 o.s, .int .i64 o.kd, .int .i64 o.p, .int .i64 o.r, .int .i64 o.a, .int .i64 o.y, .bool o.h, .int .i64 o.n, .int .i64 o.i, .int .u64 o.w]
abbrev Op13.val (o : Op13) : Value := .agg o.cells

abbrev ats (Th : List Ob) : List Value := Th.map fun T => .int .i64 (T.at_ : Int)

/-- The pair in memory. -/
structure Pz (n0 : Nat) (w : World) (pb b ab ag vb ga gr N rb : Nat) (g : Nat → Nat) (c : Cfg) (Th : List Ob) (lv : Value) : Prop where
  pc : ∃ top ws B at_ rs L, Pc n0 w b ab ag vb ga gr N rb g c top ws B at_ rs L Th
  pq : w.heap[pb]? = some (.cells #[.pointer (some ⟨ab, 0, none⟩), .pointer (some ⟨b, 0, none⟩), .pointer (some ⟨rb, 0, none⟩), .pointer (some ⟨vb, 0, none⟩), lv] 42 (0, 0))
  row : w.ownsRow n0 3 1 lv Th.length (ats Th)
  av : ∀ q, lv.ownBlock = some q → q ∉ pf b ab ag vb ga gr rb g
  lo : n0 ≤ pb

section
variable {n0 : Nat} {w w' : World} {pb b ab ag vb ga gr N rb : Nat} {g : Nat → Nat} {c : Cfg} {top : Nat} {ws : Nat → Int} {B : Bfs} {at_ rs : Nat → Int} {L : List Sg} {Th : List Ob} {lv : Value}

/-- A block of another type is none of theirs. -/
theorem Pc.other (S : Pc n0 w b ab ag vb ga gr N rb g c top ws B at_ rs L Th) {p t : Nat} {cs : Array Value} (hp : w.heap[p]? = some (.cells cs t (0, 0))) (h1 : t ≠ 75) (h2 : t ≠ 67) (h3 : t ≠ 44) (h4 : t ≠ 77) (h5 : t ≠ 3) (h6 : t ≠ 70) : p ∉ pf b ab ag vb ga gr rb g := by
  have key : ∀ {q u n : Nat} {f : Nat → Value}, w.rowIs q u n f → t ≠ u → p ≠ q := fun h h9 e => by
    obtain ⟨c1, e1, _⟩ := h
    rw [← e, hp] at e1
    injection e1 with e2
    injection e2 with _ e3
    exact h9 e3
  have kv : p ≠ vb := fun e => by
    have e1 := S.rz.bu.own
    rw [← e, hp] at e1
    injection e1 with e2
    injection e2 with _ e3
    exact h4 e3
  intro hm
  rcases List.mem_append.1 hm with hm | hm
  · simp only [List.mem_cons, List.not_mem_nil, or_false] at hm
    rcases hm with e | e | e
    · exact key S.bw.bf.own h1 e
    · exact key S.bw.ar.own h2 e
    · exact key S.bw.ar.row h3 e
  · rcases List.mem_append.1 hm with hm | hm
    · simp only [List.mem_cons, List.not_mem_nil, or_false] at hm
      rcases hm with e | e | e
      · exact kv e
      · exact key S.rz.bu.ra h5 e
      · exact key S.rz.bu.rr h5 e
    · simp only [rft, List.mem_cons, List.not_mem_nil, or_false] at hm
      rcases hm with e | e | e | e | e
      · exact key S.rz.ar.own h6 e
      · exact key (S.rz.ar.row 1 (by omega) (by omega)) h3 e
      · exact key (S.rz.ar.row 2 (by omega) (by omega)) h3 e
      · exact key (S.rz.ar.row 3 (by omega) (by omega)) h3 e
      · exact key (S.rz.ar.row 4 (by omega) (by omega)) h3 e

theorem Pz.below (S : Pz n0 w pb b ab ag vb ga gr N rb g c Th lv) (l : Below w.heap.size w w') : Pz n0 w' pb b ab ag vb ga gr N rb g c Th lv := by
  obtain ⟨top, ws, B, at_, rs, L, h⟩ := S.pc
  exact ⟨⟨top, ws, B, at_, rs, L, h.below l⟩, (l.block pb (Array.getElem?_eq_some_iff.1 S.pq).1).trans S.pq, row_keep S.row (fun q hq => l.block q (row_lt S.row q hq)), S.av, S.lo⟩

theorem Pz.cs (S : Pz n0 w pb b ab ag vb ga gr N rb g c Th lv) : w.cell? ⟨pb, 0, none⟩ = some (.pointer (some ⟨ab, 0, none⟩)) ∧ w.cell? ⟨pb, 1, none⟩ = some (.pointer (some ⟨b, 0, none⟩)) ∧ w.cell? ⟨pb, 2, none⟩ = some (.pointer (some ⟨rb, 0, none⟩)) ∧ w.cell? ⟨pb, 3, none⟩ = some (.pointer (some ⟨vb, 0, none⟩)) ∧ w.cell? ⟨pb, 4, none⟩ = some lv :=
  ⟨cell_of_row _ _ 0 _ _ _ S.pq, cell_of_row _ _ 1 _ _ _ S.pq, cell_of_row _ _ 2 _ _ _ S.pq, cell_of_row _ _ 3 _ _ _ S.pq, cell_of_row _ _ 4 _ _ _ S.pq⟩

/-- What the calls leave. -/
theorem Pz.frame (S : Pz n0 w pb b ab ag vb ga gr N rb g c Th lv) {F : List Nat} (t : Touch F w w') (hF : ∀ q, q ∈ F → q ∈ pf b ab ag vb ga gr rb g) : w'.heap[pb]? = w.heap[pb]? ∧ w'.ownsRow n0 3 1 lv Th.length (ats Th) := by
  obtain ⟨top, ws, B, at_, rs, L, h⟩ := S.pc
  have hp := h.other S.pq (by decide) (by decide) (by decide) (by decide) (by decide) (by decide)
  exact ⟨t.block pb (Array.getElem?_eq_some_iff.1 S.pq).1 (fun hm => hp (hF pb hm)), row_keep S.row (fun q hq => t.block q (row_lt S.row q hq) (fun hm => S.av q hq (hF q hm)))⟩

theorem Pz.lo_pf (S : Pz n0 w pb b ab ag vb ga gr N rb g c Th lv) : ∀ q, q ∈ pf b ab ag vb ga gr rb g → n0 ≤ q := by
  obtain ⟨top, ws, B, at_, rs, L, h⟩ := S.pc
  intro q hq
  rcases List.mem_append.1 hq with hq | hq
  · have := h.bw.lo
    simp only [List.mem_cons, List.not_mem_nil, or_false] at hq
    omega
  · exact h.lo q hq

theorem Pz.lt_pf (S : Pz n0 w pb b ab ag vb ga gr N rb g c Th lv) : ∀ q, q ∈ pf b ab ag vb ga gr rb g → q < w.heap.size := by
  obtain ⟨top, ws, B, at_, rs, L, h⟩ := S.pc
  intro q hq
  rcases List.mem_append.1 hq with hq | hq
  · have h1 := h.bw.bf.own.lt
    have h2 := h.bw.ar.own.lt
    have h3 := h.bw.ar.row.lt
    simp only [List.mem_cons, List.not_mem_nil, or_false] at hq
    omega
  · exact h.rz.lts q hq

theorem Pz.sl (S : Pz n0 w pb b ab ag vb ga gr N rb g c Th lv) : ∃ a0 cap, lv = .slice a0 Th.length cap := by
  rcases S.row.2 with ⟨h1, h2⟩ | ⟨q, cap, cur, h1, _⟩
  · exact ⟨none, 0, by rw [h1, h2]⟩
  · exact ⟨_, _, h1⟩

/-- One of the list. -/
theorem Pz.cell {a0 : Option Addr} {n cap : Nat} (S : Pz n0 w pb b ab ag vb ga gr N rb g c Th (.slice a0 n cap)) {i : Nat} {T : Ob} (hT : Th[i]? = some T) : ∃ q, a0 = some ⟨q, 0, none⟩ ∧ q < w.heap.size ∧ w.cell? ⟨q, i, none⟩ = some (.int .i64 (T.at_ : Int)) := by
  have hi := (List.getElem?_eq_some_iff.1 hT).1
  rcases S.row.2 with ⟨h1, h2⟩ | ⟨q, cap', cur, h1, _, hg, hn, _, hs, ht⟩
  · omega
  · simp only [Value.slice.injEq] at h1
    refine ⟨q, h1.1, (Array.getElem?_eq_some_iff.1 hg).1, ?_⟩
    have h3 : (ats Th)[i]? = some (.int .i64 (T.at_ : Int)) := by simp [ats, hT]
    rw [cell_of_row _ _ i _ _ _ hg, ← h3, ← ht, List.getElem?_take, if_pos (by omega), Array.getElem?_toList]

/-- The list is one longer. -/
theorem Pz.laid {w6 : World} {lv' : Value} {ob : Obj} {T : Ob} (hP : ∃ top ws B at_ rs L, Pc n0 w b ab ag vb ga gr N rb g c top ws B at_ rs L (Th ++ [T])) (hq : w.heap[pb]? = some (.cells #[.pointer (some ⟨ab, 0, none⟩), .pointer (some ⟨b, 0, none⟩), .pointer (some ⟨rb, 0, none⟩), .pointer (some ⟨vb, 0, none⟩), lv] 42 (0, 0))) (hr : w.ownsRow n0 3 1 lv Th.length (ats Th)) (hav : ∀ q, lv.ownBlock = some q → q ∉ pf b ab ag vb ga gr rb g) (hlo : n0 ≤ pb) (hn : n0 ≤ w.heap.size)
    (hlt : ∀ q, q ∈ pf b ab ag vb ga gr rb g → q < w.heap.size) (hg : (w.alloc ob).grownBy w6 lv.ownBlock) (r6 : w6.ownsRow n0 3 1 lv' (Th.length + 1) (ats Th ++ [.int .i64 (T.at_ : Int)])) (ha : lv'.ownBlock = lv.ownBlock ∨ lv'.ownBlock = some (w.alloc ob).heap.size) :
    Pz n0 (w6.setCell ⟨pb, 4, none⟩ lv') pb b ab ag vb ga gr N rb g c (Th ++ [T]) lv' ∧ Below n0 w (w6.setCell ⟨pb, 4, none⟩ lv') := by
  obtain ⟨top, ws, B, at_, rs, L, h⟩ := hP
  have hs := hg.size
  simp at hs
  have l : Touch lv.ownBlock.toList w w6 := ⟨hg.os, hg.tape, hg.output, by omega, fun k hk hn' => by
    rw [hg.block k (by simp; omega) (fun e => hn' (by rw [← e]; simp))]
    exact Below.heap_alloc _ _ k hk⟩
  have t1 : Touch (pb :: lv.ownBlock.toList) w (w6.setCell ⟨pb, 4, none⟩ lv') := ((Touch.refl _ _).then l (fun z hz => .inl (List.mem_cons_of_mem _ hz))).trans (Touch.setCell _ _ _ (by simp))
  have hp := h.other hq (by decide) (by decide) (by decide) (by decide) (by decide) (by decide)
  have no : ∀ q, q ∈ pf b ab ag vb ga gr rb g → q ∉ pb :: lv.ownBlock.toList := fun q hqq hm => by
    simp only [List.mem_cons, Option.mem_toList] at hm
    rcases hm with e | e
    · rw [e] at hqq
      exact hp hqq
    · exact hav q e hqq
  have lo : ∀ z, z ∈ pb :: lv.ownBlock.toList → n0 ≤ z := fun z hz => by
    simp only [List.mem_cons, Option.mem_toList] at hz
    rcases hz with h | h
    · omega
    · rcases hr.2 with ⟨e1, -⟩ | ⟨g, cap, cur, e1, e2, -⟩
      · rw [e1] at h
        simp [Value.ownBlock] at h
      · rw [e1] at h
        simp [Value.ownBlock] at h
        omega
  have hpl : some pb ≠ lv.ownBlock := row_ne hq hr (by decide)
  have hq6 : w6.heap[pb]? = some (.cells #[.pointer (some ⟨ab, 0, none⟩), .pointer (some ⟨b, 0, none⟩), .pointer (some ⟨rb, 0, none⟩), .pointer (some ⟨vb, 0, none⟩), lv] 42 (0, 0)) := (l.block pb (Array.getElem?_eq_some_iff.1 hq).1 (by simp only [Option.mem_toList]; exact fun e => hpl e.symm)).trans hq
  refine ⟨⟨⟨top, ws, B, at_, rs, L, ⟨h.bw.touch t1 (no b (by simp [pf])) (no ab (by simp [pf])) (no ag (by simp [pf])) lo, h.wo, h.rz.touch t1 (fun q hq => no q (List.mem_append.2 (.inr hq))), h.rel, h.nn, h.ap, h.lo⟩⟩, ?_, ?_, ?_, hlo⟩, t1.below hn lo⟩
  · rw [setCell_eq_setRow _ _ _ _ _ _ _ hq6]
    exact setRow_heap _ _ _ _ _ _ hq6
  · have e : ats (Th ++ [T]) = ats Th ++ [.int .i64 (T.at_ : Int)] := by simp [ats]
    rw [e, List.length_append]
    exact row_keep r6 (fun q hq' => Below.heap_setCell _ _ _ _ (fun e => row_ne hq6 r6 (by decide) (by rw [hq']; exact congrArg some e.symm)))
  · intro q hq'
    rcases ha with e | e
    · exact hav q (by rw [← e]; exact hq')
    · intro hm
      have h1 := hlt q hm
      rw [e] at hq'
      simp at hq'
      omega

end
end Go.Proofs.YtpiemfchjlihfaaGreatDoor
