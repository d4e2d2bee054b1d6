/-
  A new book.
-/
import Derived.Test.YtbgnagjhkfkekaaGreatDoorKG13
set_option linter.unusedVariables false
set_option maxRecDepth 20000
namespace Go.Proofs.YtbgnagjhkfkekaaGreatDoor.Kg
open Go.RowKit

/-- A new book. -/
def bk0 : Nat → Value := fun i => if i < 2 then .bool false else if i < 4 then .int .i64 0 else if (i - 4) % 9 = 8 then .int .i64 0 else .slice none 0 0

theorem bk0_lit : (#[.bool false, .bool false, .int .i64 0, .int .i64 0, .slice none 0 0, .slice none 0 0, .slice none 0 0, .slice none 0 0, .slice none 0 0, .slice none 0 0, .slice none 0 0, .slice none 0 0, .int .i64 0, .slice none 0 0, .slice none 0 0, .slice none 0 0, .slice none 0 0, .slice none 0 0, .slice none 0 0, .slice none 0 0, .slice none 0 0, .int .i64 0, .slice none 0 0, .slice none 0 0, .slice none 0 0, .slice none 0 0, .slice none 0 0, .slice none 0 0, .slice none 0 0, .slice none 0 0, .int .i64 0, .slice none 0 0, .slice none 0 0, .slice none 0 0, .slice none 0 0, .slice none 0 0, .slice none 0 0, .slice none 0 0, .slice none 0 0, .int .i64 0, .slice none 0 0, .slice none 0 0, .slice none 0 0, .slice none 0 0, .slice none 0 0, .slice none 0 0, .slice none 0 0, .slice none 0 0, .int .i64 0, .slice none 0 0, .slice none 0 0, .slice none 0 0, .slice none 0 0, .slice none 0 0, .slice none 0 0, .slice none 0 0, .slice none 0 0, .int .i64 0, .slice none 0 0, .slice none 0 0, .slice none 0 0, .slice none 0 0, .slice none 0 0, .slice none 0 0, .slice none 0 0, .slice none 0 0, .int .i64 0, .slice none 0 0, .slice none 0 0, .slice none 0 0, .slice none 0 0, .slice none 0 0, .slice none 0 0, .slice none 0 0, .slice none 0 0, .int .i64 0, .slice none 0 0, .slice none 0 0, .slice none 0 0, .slice none 0 0, .slice none 0 0, .slice none 0 0, .slice none 0 0, .slice none 0 0, .int .i64 0, .slice none 0 0, .slice none 0 0, .slice none 0 0, .slice none 0 0, .slice none 0 0, .slice none 0 0, .slice none 0 0, .slice none 0 0, .int .i64 0, .slice none 0 0, .slice none 0 0, .slice none 0 0, .slice none 0 0, .slice none 0 0, .slice none 0 0, .slice none 0 0, .slice none 0 0, .int .i64 0, .slice none 0 0, .slice none 0 0, .slice none 0 0, .slice none 0 0, .slice none 0 0, .slice none 0 0, .slice none 0 0, .slice none 0 0, .int .i64 0, .slice none 0 0, .slice none 0 0, .slice none 0 0, .slice none 0 0, .slice none 0 0, .slice none 0 0, .slice none 0 0, .slice none 0 0, .int .i64 0] : Array Value) = bkc bk0 := by kernel_rfl

theorem bk0_nil (o : Nat) (h1 : 4 ≤ o) (h2 : (o - 4) % 9 = 0) : Nil9 bk0 o := by
  refine ⟨?_, ?_, ?_, ?_, ?_, ?_, ?_, ?_⟩ <;> (unfold bk0; rw [if_neg (by omega), if_neg (by omega), if_neg (by omega)])

theorem bk0_row (j : Nat) (h1 : 13 ≤ j) (h2 : j ≤ 20) : bk0 j = .slice none 0 0 := by
  unfold bk0; rw [if_neg (by omega), if_neg (by omega), if_neg (by omega)]

theorem bok0 {w : World} {base b : Nat} (h : Bk w b bk0) (hb : base ≤ b) : Bok w base b bk0 (fun _ => []) [] [] [] 0 0 0 0 := by
  refine ⟨⟨h, hb, fun j h1 h2 => ?_, fun i j k a1 a2 a3 a4 _ e => ?_, fun j k a1 a2 e => ?_, by simp, fun k hk => by cases hk⟩, Prs.nil _ _, Wts.nil _ _ _, rfl, rfl, rfl, rfl, rfl, ⟨by simp, fun v hv => by cases hv⟩, ⟨bk0_nil 4 (by decide) (by decide), bk0_nil 22 (by decide) (by decide), bk0_nil 31 (by decide) (by decide), bk0_nil 40 (by decide) (by decide), bk0_nil 49 (by decide) (by decide), bk0_nil 58 (by decide) (by decide), bk0_nil 67 (by decide) (by decide), bk0_nil 76 (by decide) (by decide), bk0_nil 85 (by decide) (by decide), bk0_nil 94 (by decide) (by decide), bk0_nil 103 (by decide) (by decide), bk0_nil 112 (by decide) (by decide)⟩, rfl, rfl, rfl, rfl, rfl, by omega, by omega, by omega, by simp⟩
  · rw [bk0_row j h1 h2]; exact World.ownsRow_nil _ _ _ _
  · rw [bk0_row i a1 a2] at e; cases e
  · rw [bk0_row j a1 a2] at e; cases e

theorem build_bk0 (w : World) : (Instr.build 53 #[]).run Tryz.prog w = .ok (.agg (bkc bk0)) w := by kernel_rfl

theorem wpList_build0 {P : Program} {ops : Array Oper} {rest : List Oper} {op : Oper} {a : Act} {w : World} {Q : Exit → Act → World → Prop} (hgd : op.guard = none) (ty : TypeId) (v : Value) (ho : op.op = .build ty #[]) (hr : ∀ w, (Instr.build ty #[]).run P w = .ok v w)
    (h : wpList P ops Q rest (a.put op.dst v) w) : wpList P ops Q (op :: rest) a w :=
  wpList_plain hgd fun _ hK => by
    unfold Oper.wp execOp
    simp only [ho]
    simp [hr, Result.andThen]
    exact hK _ _ h

end Go.Proofs.YtbgnagjhkfkekaaGreatDoor.Kg
