/-
  begin: a map of at most 8192 words.
-/
import Derived.Test.YtlnfhnahnmblmabDoorN8
set_option linter.unusedVariables false
set_option maxRecDepth 20000
namespace Go.Proofs.YtlnfhnahnmblmabDoor
open Go.RowKit Go.Shelf

/-- A desk's four cells. -/
def df (b r : Nat) (s t : Value) : Nat → Value
  | 0 => .pointer (some ⟨b, 0, none⟩)
  | 1 => .pointer (some ⟨r, 0, none⟩)
  | 2 => s
  | _ => t

set_option maxHeartbeats 4000000 in
theorem begin_in (n : Nat) (hn : n ≤ 8192) (w : World) (hL : Laid w) :
    Calls Tryd.prog 7 #[.int .i64 n] w fun x w' => ∃ d b g r h, x = .returned (.tuple #[.pointer (some ⟨d, 0, none⟩), .bool true]) ∧ w'.rowIs d 47 4 (df b r (.slice none 0 0) (.slice none 0 0)) ∧ Mp w' b g n (fun _ => false) ∧ Rm w' r h n (fun _ => false) ∧ Below w.heap.size w w' ∧ w.heap.size ≤ b ∧ w.heap.size ≤ g ∧ b < r ∧ b < h ∧ g < r ∧ g < h ∧ r < d ∧ h < d := by
  have c1 := new_in n (by omega) w
  have HL : Hid (Laid w) := hL
  clear hL
  go_enter Tryd.func7, Tryd.ntmps7
  go_wp2_with fail
  refine c1.mono ?_
  rintro r1 w1 ⟨b, g, rfl, hM, hB, hb, hg⟩
  have c2 := rnew_in n (by omega) w1
  have hM1 : Hid (Mp w1 b g n (fun _ => false) ∧ Below w.heap.size w w1 ∧ w.heap.size ≤ b ∧ w.heap.size ≤ g) := ⟨hM, hB, hb, hg⟩
  clear c1 hM hB hb hg
  go_wp2_with fail
  refine c2.mono ?_
  rintro r2 w2 ⟨r, h, rfl, hR, hB2, hr, hh⟩
  have hlb := hM1.out.1.own.lt
  have hlg := hM1.out.1.row.lt
  have hB' : Below w.heap.size w w2 := hM1.out.2.1.trans (hB2.mono hM1.out.2.1.size)
  have hM2 := hM1.out.1.below hB2
  have c3 := num_any 0 w2
  have c4 := words_any b g n _ w2 hM2
  have c5 := next_nat b g n 0 n (fun _ => false) 0 (by simp) (by omega) (.inl ⟨rfl, fun _ _ _ => rfl⟩) w2 hM2 (HL.out.below (by exact hB'))
  rw [if_pos rfl] at c5
  have H2 : Hid (Mp w2 b g n (fun _ => false) ∧ Rm w2 r h n (fun _ => false) ∧ Below w.heap.size w w2 ∧ w.heap.size ≤ b ∧ w.heap.size ≤ g ∧ b < r ∧ b < h ∧ g < r ∧ g < h) := ⟨hM2, hR, hB', hM1.out.2.2.1, hM1.out.2.2.2, by omega, by omega, by omega, by omega⟩
  clear c2 hR hB2 hr hh hB' hM2 hlb hlg hM1 HL
  go_wp2_with fail
  refine c3.mono ?_
  rintro r3 w3 ⟨rfl, rfl⟩
  clear c3
  go_wp2_with fail
  refine c4.mono ?_
  rintro r4 w4 ⟨rfl, rfl⟩
  clear c4
  go_wp2_with fail
  refine c5.mono ?_
  rintro r5 w5 ⟨rfl, hB5⟩
  have H5 : Hid (Mp w5 b g n (fun _ => false) ∧ Rm w5 r h n (fun _ => false) ∧ Below w.heap.size w w5 ∧ w.heap.size ≤ b ∧ w.heap.size ≤ g ∧ b < r ∧ b < h ∧ g < r ∧ g < h) := ⟨H2.out.1.below hB5, H2.out.2.1.below hB5, H2.out.2.2.1.trans (hB5.mono H2.out.2.2.1.size), H2.out.2.2.2⟩
  clear c5 H2 hB5
  go_wp2
  go_ret2
  have b5 : Below w5.heap.size w5 (w5.alloc (.cells #[.pointer (some ⟨b, 0, none⟩), .pointer (some ⟨r, 0, none⟩), .slice none 0 0, .slice none 0 0] 47)) := Below.alloc (Below.refl _ _) (Nat.le_refl _) _
  refine ⟨w5.heap.size, b, g, r, h, rfl, ?_, H5.out.1.below b5, H5.out.2.1.below b5, H5.out.2.2.1.trans (b5.mono H5.out.2.2.1.size), H5.out.2.2.2.1, H5.out.2.2.2.2.1, H5.out.2.2.2.2.2.1, H5.out.2.2.2.2.2.2.1, H5.out.2.2.2.2.2.2.2.1, H5.out.2.2.2.2.2.2.2.2, H5.out.2.1.own.lt, H5.out.2.1.row.lt⟩
  exact World.rowIs_alloc w5 _ 47 (df b r (.slice none 0 0) (.slice none 0 0)) (by
    intro i hi
    match i, hi with
    | 0, _ | 1, _ | 2, _ | 3, _ => rfl
    | j + 4, h => exact absurd (show j + 4 < 4 from h) (by omega))
end Go.Proofs.YtlnfhnahnmblmabDoor
