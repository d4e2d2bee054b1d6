/-
  Fix: the lay that is being made.
-/
import Derived.Test.YtfihjmoaibmllaaDoorY27
import Derived.Test.YtfihjmoaibmllaaDoorY21
import Derived.Deep.MidRow
set_option linter.unusedVariables false
set_option maxRecDepth 20000
namespace Go.Proofs.YtfihjmoaibmllaaDoor
open Go.RowKit Go.Shelf

/-- A lay's cells. -/
def lyg (c : Cfg) (tv av : Value) (F T E : Nat → Int) (wd : Int) : Nat → Value := fun j => if j < 14 then ((ccells c)[j]?).getD undef else if j = 14 then tv else if j = 15 then av else if j < 21 then .int .i64 (F (j - 16)) else if j < 26 then .int .i64 (T (j - 21)) else if j < 31 then .int .i64 (E (j - 26)) else .int .i64 wd

def z5 : Nat → Int := fun _ => 0
/-- The first words, and the ends. -/
def firsts (c : Cfg) : Nat → Int := fun i => if i = 0 then 0 else if i = 1 then 1 else if i = 2 then 1 + c.eden else if i = 3 then 1 + c.eden + c.surv else 1 + c.eden + 2 * c.surv
def endsf (c : Cfg) : Nat → Int := fun i => if i = 0 then 0 else if i = 1 then 1 + c.eden else if i = 2 then 1 + c.eden + c.surv else if i = 3 then 1 + c.eden + 2 * c.surv else 1 + c.eden + 2 * c.surv + c.ten
/-- The tops, by space. -/
def topf (x : Tps) : Nat → Int := fun i => if i = 0 then 0 else if i = 1 then x.t1 else if i = 2 then x.t2 else if i = 3 then x.t3 else x.t4

theorem firsts_top (c : Cfg) : firsts c = topf (tops0 c) := by
  funext i
  unfold firsts topf tops0
  repeat' split
  all_goals first | rfl | (dsimp only; omega)

theorem topf_at (x : Tps) (s : Int) (h1 : 1 ≤ s) (h4 : s ≤ 4) : topf x s.toNat = x.top s := by
  obtain rfl | rfl | rfl | rfl : s = 1 ∨ s = 2 ∨ s = 3 ∨ s = 4 := by omega
  all_goals rfl

theorem endsf_at (c : Cfg) (s : Int) (h1 : 1 ≤ s) (h4 : s ≤ 4) : endsf c s.toNat = bhd c s := by
  obtain rfl | rfl | rfl | rfl : s = 1 ∨ s = 2 ∨ s = 3 ∨ s = 4 := by omega
  all_goals
    simp [endsf, bhd]
    try omega

/-- The lay in block lb. -/
abbrev Lw (w : World) (lb : Nat) (c : Cfg) (tv av : Value) (F T E : Nat → Int) (wd : Int) : Prop := w.rowIs lb 45 32 (lyg c tv av F T E wd)

theorem lw_cfg {w : World} {lb : Nat} {c : Cfg} {tv av : Value} {F T E : Nat → Int} {wd : Int} (h : Lw w lb c tv av F T E wd) (j : Nat) (hj : j < 14) : w.cell? ⟨lb, j, none⟩ = (ccells c)[j]? := by
  have := h.cell (i := j) (by omega)
  rw [this]
  unfold lyg
  rw [if_pos hj]
  match j, hj with
  | 0, _ | 1, _ | 2, _ | 3, _ | 4, _ | 5, _ | 6, _ | 7, _ | 8, _ | 9, _ | 10, _ | 11, _ | 12, _ | 13, _ => rfl

theorem lw_there {w : World} {lb : Nat} {f : Nat → Value} (h : w.rowIs lb 45 32 f) (o n : Nat) (hn : o + n ≤ 32) : w.there lb o n := fun j hj => ⟨by rw [h.cell (i := o + j) (by omega)]; rfl, h.frozen (o + j)⟩

/-- The configuration is stored. -/
theorem lw_setc {w : World} {lb : Nat} {c c' : Cfg} {tv av : Value} {F T E : Nat → Int} {wd : Int} (h : Lw w lb c tv av F T E wd) : Lw (w.setCells lb 0 (ccells c').toList) lb c' tv av F T E wd :=
  (rowIs_setCells _ 0 _ _ h).congr (fun j hj => by
    match j, hj with
    | 0, _ | 1, _ | 2, _ | 3, _ | 4, _ | 5, _ | 6, _ | 7, _ | 8, _ | 9, _ | 10, _ | 11, _ | 12, _ | 13, _ | 14, _ | 15, _ | 16, _ | 17, _ | 18, _ | 19, _ | 20, _ | 21, _ | 22, _ | 23, _ | 24, _ | 25, _ | 26, _ | 27, _ | 28, _ | 29, _ | 30, _ | 31, _ => rfl
    | j + 32, h => exact absurd h (by omega))

abbrev five (F : Nat → Int) : Array Value := #[.int .i64 (F 0), .int .i64 (F 1), .int .i64 (F 2), .int .i64 (F 3), .int .i64 (F 4)]

theorem lw_setF {w : World} {lb : Nat} {c : Cfg} {tv av : Value} {F F' T E : Nat → Int} {wd : Int} (h : Lw w lb c tv av F T E wd) : Lw (w.setCells lb 16 (five F').toList) lb c tv av F' T E wd :=
  (rowIs_setCells _ 16 _ _ h).congr (fun j hj => by
    match j, hj with
    | 0, _ | 1, _ | 2, _ | 3, _ | 4, _ | 5, _ | 6, _ | 7, _ | 8, _ | 9, _ | 10, _ | 11, _ | 12, _ | 13, _ | 14, _ | 15, _ | 16, _ | 17, _ | 18, _ | 19, _ | 20, _ | 21, _ | 22, _ | 23, _ | 24, _ | 25, _ | 26, _ | 27, _ | 28, _ | 29, _ | 30, _ | 31, _ => rfl
    | j + 32, h => exact absurd h (by omega))
theorem lw_setT {w : World} {lb : Nat} {c : Cfg} {tv av : Value} {F T' T E : Nat → Int} {wd : Int} (h : Lw w lb c tv av F T E wd) : Lw (w.setCells lb 21 (five T').toList) lb c tv av F T' E wd :=
  (rowIs_setCells _ 21 _ _ h).congr (fun j hj => by
    match j, hj with
    | 0, _ | 1, _ | 2, _ | 3, _ | 4, _ | 5, _ | 6, _ | 7, _ | 8, _ | 9, _ | 10, _ | 11, _ | 12, _ | 13, _ | 14, _ | 15, _ | 16, _ | 17, _ | 18, _ | 19, _ | 20, _ | 21, _ | 22, _ | 23, _ | 24, _ | 25, _ | 26, _ | 27, _ | 28, _ | 29, _ | 30, _ | 31, _ => rfl
    | j + 32, h => exact absurd h (by omega))
theorem lw_setE {w : World} {lb : Nat} {c : Cfg} {tv av : Value} {F E' T E : Nat → Int} {wd : Int} (h : Lw w lb c tv av F T E wd) : Lw (w.setCells lb 26 (five E').toList) lb c tv av F T E' wd :=
  (rowIs_setCells _ 26 _ _ h).congr (fun j hj => by
    match j, hj with
    | 0, _ | 1, _ | 2, _ | 3, _ | 4, _ | 5, _ | 6, _ | 7, _ | 8, _ | 9, _ | 10, _ | 11, _ | 12, _ | 13, _ | 14, _ | 15, _ | 16, _ | 17, _ | 18, _ | 19, _ | 20, _ | 21, _ | 22, _ | 23, _ | 24, _ | 25, _ | 26, _ | 27, _ | 28, _ | 29, _ | 30, _ | 31, _ => rfl
    | j + 32, h => exact absurd h (by omega))

end Go.Proofs.YtfihjmoaibmllaaDoor
