/-
  Put where it may not be; the program's arena with its buffers beside the document's.
-/
import Derived.Test.YtpiemfchjlihfaaGreatDoorRB4
import Derived.Test.YtpiemfchjlihfaaGreatDoorBC1
import Derived.Test.YtpiemfchjlihfaaGreatDoorPBp
import Derived.Test.YtpiemfchjlihfaaGreatDoorBS3
set_option linter.unusedVariables false
set_option maxRecDepth 20000
namespace Go.Proofs.YtpiemfchjlihfaaGreatDoor
open Go.RowKit Go.Shelf

set_option maxHeartbeats 4000000 in
theorem bput_no {w : World} {b : Nat} {B : Bfs} (hB : Bf w b B) (hL : Laid w) (T s k p r a y : Int) (h : Bool) (hno : ¬ (0 ≤ T ∧ T < B.n) ∨ flt k p r a y ≠ 0) (A : Value) :
    Calls Tryz.prog 15 #[.pointer (some ⟨b, 0, none⟩), A, .int .i64 T, hv s k p r a y h] w fun e w' => e = .returned (.tuple #[.int .i64 0, .bool false]) ∧ Below w.heap.size w w' := by
  have b0 : Below w.heap.size w (w.alloc (.cells (hcells s k p r a y h) 46)) := Below.alloc (Below.refl _ _) (Nat.le_refl _) _
  have hp := pack_any s k p r a y h _ (hL.keep b0)
  have x0 := Box.new w 46 (.int .u64 s) (.int .i64 k) (.int .i64 p) (.int .i64 r) (.int .i64 a) (.int .i64 y) (.bool h)
  have HB : Hid (Below w.heap.size w (w.alloc (.cells (hcells s k p r a y h) 46))) := b0
  have HBf : Hid (Bf w b B) := hB
  obtain ⟨f, hf⟩ : ∃ f, f = flt k p r a y := ⟨_, rfl⟩
  rw [← hf] at hp hno
  obtain ⟨d, hd⟩ : ∃ d, d = decide (0 ≤ T ∧ T < B.n) := ⟨_, rfl⟩
  have Hd : Hid (d = decide (0 ≤ T ∧ T < B.n)) := hd
  have Hno : Hid (d = false ∨ f ≠ 0) := by
    rcases hno with h1 | h1
    · exact .inl (by rw [hd]; exact decide_eq_false h1)
    · exact .inr h1
  generalize pck k p r a y h = pk at hp
  clear hB hL hno hd hf b0
  go_enter_defers Tryz.func15, Tryz.ntmps15
  go_upto_region 1 with fail
  generalize w.alloc (.cells (hcells s k p r a y h) 46) = v at *
  obtain ⟨y0, y1, y2, y3, y4, y5, y6, -, -, -, -, -, -, -⟩ := x0
  go_wp2_with fail
  refine hp.mono ?_
  rintro e w1 ⟨rfl, b1⟩
  have HB1 : Hid (Below w.heap.size w w1) := HB.out.trans (b1.mono HB.out.size)
  have qh := bhas_any (HBf.out.below HB1.out) T
  rw [← Hd.out] at qh
  clear hp b1 y0 y1 y2 y3 y4 y5 y6 HB
  go_wp2_with fail
  refine qh.mono ?_
  rintro e9 w9 ⟨rfl, rfl⟩
  clear qh
  rcases Hno.out with hd | hf
  · subst hd
    go_wp2
    exact ⟨_, results_tmp2 Tryz.results15 _ _ _, rfl, HB1.out⟩
  · cases d
    · go_wp2
      exact ⟨_, results_tmp2 Tryz.results15 _ _ _, rfl, HB1.out⟩
    · go_wp2
      exact ⟨_, results_tmp2 Tryz.results15 _ _ _, rfl, HB1.out⟩

end Go.Proofs.YtpiemfchjlihfaaGreatDoor
