/-
  Retire: P13.5.
-/
import Derived.Test.YtpiemfchjlihfaaGreatDoorBC1
import Derived.Test.YtpiemfchjlihfaaGreatDoorHK
import Derived.Deep.MidRow
import Derived.Lib.LazyBuf
import Derived.Deep.MidRow
import Derived.Lib.LazyBuf
set_option linter.unusedVariables false
set_option maxRecDepth 20000
namespace Go.Proofs.YtpiemfchjlihfaaGreatDoor
open Go.RowKit Go.Shelf

abbrev z16 : Array Value := #[.int .i64 0, .int .i64 0, .int .i64 0, .int .i64 0, .int .i64 0, .int .i64 0, .int .i64 0, .int .i64 0, .int .i64 0, .int .i64 0, .int .i64 0, .int .i64 0, .int .i64 0, .int .i64 0, .int .i64 0, .int .i64 0]

theorem bretire_any {w : World} {b : Nat} {B : Bfs} (h : Bf w b B) (a : Value) :
    Calls Tryz.prog 23 #[.pointer (some ⟨b, 0, none⟩), a] w fun e w' => e = .returned (.tuple #[]) ∧ Bf w' b (bfs0 B.n B.size) ∧ Touch [b] w w' := by
  have HB := h
  have q := rowIs_setCells z16.toList 2 w (bf B) h.own
  have hT : Touch [b] w (w.setCells b 2 z16.toList) := Touch.setCells b (by simp) _ _ _
  have hth : w.there b 2 z16.size := fun j hj => by
    have hj' : j < 16 := hj
    obtain ⟨c, h1, h2, h3⟩ := h.own
    refine ⟨by rw [cell_of_row _ _ (2 + j) c _ _ h1, h3 (2 + j) (by omega)]; rfl, h.frozen (2 + j)⟩
  have hinf : (Tryz.prog.info? 73).map (·.size) = some z16.size := by kernel_rfl
  clear h
  go_enter Tryz.func23, Tryz.ntmps23
  go_wp2_with (refine wpList_store_mid rfl 73 _ _ rfl b 2 z16 rfl rfl hth hinf (by kernel_rfl) ?_)
  go_end0
  refine ⟨rfl, ⟨?_, HB.n0, HB.n1, HB.s0, HB.s1⟩, hT⟩
  obtain ⟨c, h1, h2, h3⟩ := q
  refine ⟨c, h1, h2, fun i hi => ?_⟩
  rw [h3 i hi]
  unfold bf
  match i, hi with
  | 0, _ | 1, _ => rfl
  | 2, _ | 3, _ | 4, _ | 5, _ | 6, _ | 7, _ | 8, _ | 9, _ | 10, _ | 11, _ | 12, _ | 13, _ | 14, _ | 15, _ | 16, _ | 17, _ => rfl
  | n + 18, h => exact absurd h (by omega)

end Go.Proofs.YtpiemfchjlihfaaGreatDoor
