/-
  PolicyEnds: the counts; what the loop keeps.
-/
import Derived.Test.YtcijdbhabbepaaaPT2
set_option linter.unusedVariables false
set_option maxRecDepth 20000
namespace Go.Proofs.Ytcijdbhabbepaaa.Po
open Go.RowKit Go.Proofs.Ytcijdbhabbepaaa.Kg

theorem next_ov (k : Task) (t : Tst) (v : Vw) : (k.next t v).2.ov = (t.ov || decide ((k.next t v).1 = 7)) := by
  have hs : ∀ x : Vw, (k.shut t x).2.ov = (t.ov || decide ((k.shut t x).1 = 7)) := fun x => by
    unfold Task.shut
    by_cases c : t.ov = false ∧ k.most < x.te ∧ 3 ∉ t.ran
    · rw [if_pos c]; simp [Tst.cyc, Tst.close]
    · rw [if_neg c]; simp
  have ho : ∀ x : Vw, (k.opn t x).2.ov = (t.ov || decide ((k.opn t x).1 = 7)) := fun x => by
    unfold Task.opn Task.small Task.bigs
    repeat' split
    all_goals simp [Tst.cyc, Tst.close]
  unfold Task.next
  by_cases hc : t.cl = false
  · rw [if_pos hc]
    by_cases h0 : (k.opn t v.clip).1 = 0
    · rw [if_pos h0]; exact hs _
    · rw [if_neg h0]; exact ho _
  · rw [if_neg hc]; exact hs _

abbrev hcells (h : Int → Nat) : Array Value := #[.int .i64 (h 0), .int .i64 (h 1), .int .i64 (h 2), .int .i64 (h 3), .int .i64 (h 4), .int .i64 (h 5), .int .i64 (h 6), .int .i64 (h 7)]

/-- The counts in a block. -/
def Had (w : World) (b : Nat) (h : Int → Nat) : Prop := w.heap[b]? = some (.cells (hcells h) 38 (0, 0))

theorem Had.cell {w : World} {b : Nat} {h : Int → Nat} (H : Had w b h) (j : Nat) (v : Value) (hv : (hcells h)[j]? = some v) : w.cell? ⟨b, j, none⟩ = some v := (heap_cell H j).trans hv
theorem Had.frozen {w : World} {b : Nat} {h : Int → Nat} (H : Had w b h) (j : Nat) : w.frozen? ⟨b, j, none⟩ = false := heap_frozen H j
theorem Had.touch {w w' : World} {b : Nat} {h : Int → Nat} {G : List Nat} (H : Had w b h) (ht : Kg.Touch G w w') (hb : b ∉ G) : Had w' b h := (ht.block b (heap_lt H) hb).trans H

/-- What the loop keeps. -/
structure Eds (n0 : Nat) (w : World) (k : Task) (b g B : Nat) (n : Nat) (t : Tst) (h : Int → Nat) : Prop where
  ex : ∃ u, Pt w n0 b u g k t ∧ B ∉ Fq b u g ∧ ∀ q, q ∈ Fq b u g → n0 ≤ q
  j : Jn k t n h
  had : Had w B h
  lo : n0 ≤ B
  le : ∀ j, h j ≤ n
  ov : 6 ≤ n → t.ov = true

theorem Eds.below {n0 : Nat} {w w' : World} {k : Task} {b g B n : Nat} {t : Tst} {h : Int → Nat} (E : Eds n0 w k b g B n t h) (hb : Below w.heap.size w w') : Eds n0 w' k b g B n t h := by
  obtain ⟨u, h1, h2, h3⟩ := E.ex
  exact ⟨⟨u, h1.below hb, h2, h3⟩, E.j, E.had.touch (Kg.Touch.of_below hb []) (by simp), E.lo, E.le, E.ov⟩

/-- One of the counts is one more. -/
theorem Had.bump {w : World} {b : Nat} {h : Int → Nat} (H : Had w b h) (s : Nat) (hs : s < 8) : Had (w.setCell ⟨b, s, none⟩ (.int .i64 ((h s : Nat) + 1))) b (Po.bump h s) := by
  have h1 := heap_set H s (.int .i64 ((h s : Nat) + 1))
  rw [Had, h1]
  match s, hs with
  | 0, _ | 1, _ | 2, _ | 3, _ | 4, _ | 5, _ | 6, _ | 7, _ => simp [Po.bump, hcells]

/-- A step of the turn, and what was counted. -/
theorem Eds.step {n0 : Nat} {w w1 : World} {k : Task} {b g B n : Nat} {u : Value} {t : Tst} {h : Int → Nat} (E : Eds n0 w k b g B n t h) (hu : Pt w n0 b u g k t ∧ B ∉ Fq b u g ∧ ∀ q, q ∈ Fq b u g → n0 ≤ q) (v : Vw) (hG : Gop w w1 n0 b u g k (k.next t v).2) (s : Nat) (hs : (k.next t v).1 = s) (h0 : n0 ≤ w.heap.size) :
    Had w1 B h ∧ Eds n0 (w1.setCell ⟨B, s, none⟩ (.int .i64 ((h s : Nat) + 1))) k b g B (n + 1) (k.next t v).2 (Po.bump h s) ∧ Below n0 w w1 ∧ Below n0 w (w1.setCell ⟨B, s, none⟩ (.int .i64 ((h s : Nat) + 1))) ∧ Kp k t n h v s := by
  obtain ⟨u', h1, h2, h3⟩ := hG.ex
  obtain ⟨p1, p2, p3⟩ := hu
  obtain ⟨kp, jn⟩ := E.j.next v
  rw [hs] at kp jn
  have hs7 : s < 8 := by have := kp.s1; omega
  have hA : Had w1 B h := E.had.touch h2 p2
  have hB2 : B ∉ Fq b u' g := fun hm => (h3 B hm).elim p2 (fun hl => by have := heap_lt E.had; omega)
  have hl : ∀ q, q ∈ Fq b u' g → n0 ≤ q := fun q hq => (h3 q hq).elim (p3 q) (fun hl => Nat.le_trans h0 hl)
  have ht : Kg.Touch [B] w1 (w1.setCell ⟨B, s, none⟩ (.int .i64 ((h s : Nat) + 1))) := Kg.Touch.setCell _ _ _ (by simp)
  have b1 : Below n0 w w1 := h2.below h0 p3
  refine ⟨hA, ⟨⟨u', h1.touch ht (fun q hq hm => by simp at hm; subst hm; exact hB2 hq), hB2, hl⟩, jn, hA.bump s hs7, E.lo, fun j => ?_, fun h6 => ?_⟩, b1, b1.trans (ht.below (Nat.le_trans h0 h2.size) (fun q hq => by simp at hq; subst hq; exact E.lo)), kp⟩
  · have := E.le j
    unfold Po.bump
    split <;> omega
  · rw [next_ov, hs, kp.i5 (by omega)]
    simp

end Go.Proofs.Ytcijdbhabbepaaa.Po
