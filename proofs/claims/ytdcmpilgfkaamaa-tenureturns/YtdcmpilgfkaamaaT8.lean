/-
  known.
-/
import Derived.Test.YtdcmpilgfkaamaaT7
set_option linter.unusedVariables false
namespace Go.Proofs.Ytdcmpilgfkaamaa
open Go.RowKit

def wk1 : Nat → Int := fun i => if i = 1 then 20 else if i = 2 then 10 else if i = 3 then 5 else 0
def wk2 : Nat → Int := fun i => if i = 1 then 33 else 0
def wk3 : Nat → Int := fun i => if i = 4 then 65536 else 0

theorem wk1_ok : Wk wk1 := fun i _ => by unfold wk1; split <;> (try split) <;> (try split) <;> omega
theorem wk2_ok : Wk wk2 := fun i _ => by unfold wk2; split <;> omega
theorem wk3_ok : Wk wk3 := fun i _ => by unfold wk3; split <;> omega

theorem nx1 : IsNext 32 4 wk1 3 := ⟨by decide, by decide, fun a h1 h2 => by
  have : a = 1 ∨ a = 2 := by omega
  rcases this with rfl | rfl <;> decide, .inr (by decide)⟩
theorem nx2 : IsNext 32 4 wk2 1 := ⟨by decide, by decide, fun a h1 h2 => by omega, .inr (by decide)⟩
theorem nx3 : IsNext 32 4 wk3 4 := ⟨by decide, by decide, fun a h1 h2 => by
  have : a = 1 ∨ a = 2 ∨ a = 3 := by omega
  rcases this with rfl | rfl | rfl <;> decide, .inl rfl⟩

theorem eav1 : (#[.int .i64 0, .int .i64 20, .int .i64 10, .int .i64 5, .int .i64 0, .int .i64 0, .int .i64 0, .int .i64 0, .int .i64 0, .int .i64 0, .int .i64 0, .int .i64 0, .int .i64 0, .int .i64 0, .int .i64 0, .int .i64 0] : Array Value) = av wk1 := by kernel_rfl
theorem eav2 : (#[.int .i64 0, .int .i64 33, .int .i64 0, .int .i64 0, .int .i64 0, .int .i64 0, .int .i64 0, .int .i64 0, .int .i64 0, .int .i64 0, .int .i64 0, .int .i64 0, .int .i64 0, .int .i64 0, .int .i64 0, .int .i64 0] : Array Value) = av wk2 := by kernel_rfl
theorem eav3 : (#[.int .i64 0, .int .i64 0, .int .i64 0, .int .i64 0, .int .i64 65536, .int .i64 0, .int .i64 0, .int .i64 0, .int .i64 0, .int .i64 0, .int .i64 0, .int .i64 0, .int .i64 0, .int .i64 0, .int .i64 0, .int .i64 0] : Array Value) = av wk3 := by kernel_rfl

/-- Turn, whose answer is known. -/
theorem turn_is {w : World} {b : Nat} {wa : Int} {mo n : Nat} {f : Nat → Int} (H : Tn w b wa mo f n) (ws : Nat → Int) (hw : Wk ws) (r : Nat) (hr : IsNext wa mo ws r) :
    Calls Try.prog 12 #[.pointer (some ⟨b, 0, none⟩), .agg (av ws)] w fun e w' => e = .returned (.tuple #[.int .i64 (r : Int), .int .i64 0]) ∧ Tn w' b wa mo (wf f n r) (wn n) ∧ Touch [b] w w' := by
  refine (turn_ok H ws hw).mono ?_
  rintro e w' ⟨s, rfl, h1, h2, h3⟩
  obtain rfl := h1.unique hr
  exact ⟨rfl, h2, h3⟩

set_option maxHeartbeats 2000000 in
theorem known_any (w : World) :
    Calls Try.prog 9 #[] w fun e w' => e = .returned (.bool true) ∧ Below w.heap.size w w' := by
  have hn := new_yes 64 50 4 (by unfold May; decide) w
  go_enter Try.func9, Try.ntmps9
  go_wp2_with fail
  refine hn.mono ?_
  rintro e w1 ⟨rfl, ⟨f, hf, H⟩, hb⟩
  have hwa : wan 64 50 = 32 := by decide
  rw [hwa] at H
  have hth := threshold_any H
  simp only [show (1 : Nat) - 1 = 0 from rfl, hf] at hth
  have hnum := num_any 0 w1
  clear hn hwa
  have HH : Hid (Tn w1 w.heap.size 32 4 f 1) := H
  have HB : Hid (Below w.heap.size w w1) := hb
  clear H hb
  go_wp2_with fail
  refine hnum.mono ?_
  rintro e w' ⟨rfl, rfl⟩
  go_wp2_with fail
  refine hth.mono ?_
  rintro e w2 ⟨rfl, hb2⟩
  have HH2 : Hid (Tn w2 w.heap.size 32 4 f 1) := HH.out.below hb2
  have HB2 : Hid (Below w.heap.size w w2) := HB.out.trans (hb2.mono HB.out.size)
  clear hb2 HH HB hth hnum
  have t1 := turn_is HH2.out wk1 wk1_ok 3 nx1
  rw [← eav1] at t1
  go_wp2_with fail
  refine t1.mono ?_
  rintro e w3 ⟨rfl, H3, ht3⟩
  have HH3 : Hid (Tn w3 w.heap.size 32 4 _ _) := H3
  have HB3 : Hid (Below w.heap.size w w3) := HB2.out.trans (ht3.below HB2.out.size (fun k hk => by simp at hk; omega))
  clear H3 ht3 t1 HH2 HB2
  have t1 := turn_is HH3.out wk2 wk2_ok 1 nx2
  rw [← eav2] at t1
  go_wp2_with fail
  refine t1.mono ?_
  rintro e w4 ⟨rfl, H4, ht4⟩
  have HH4 : Hid (Tn w4 w.heap.size 32 4 _ _) := H4
  have HB4 : Hid (Below w.heap.size w w4) := HB3.out.trans (ht4.below HB3.out.size (fun k hk => by simp at hk; omega))
  clear H4 ht4 t1 HH3 HB3
  have t1 := turn_is HH4.out wk3 wk3_ok 4 nx3
  rw [← eav3] at t1
  go_wp2_with fail
  refine t1.mono ?_
  rintro e w5 ⟨rfl, H5, ht5⟩
  have HB5 : Hid (Below w.heap.size w w5) := HB4.out.trans (ht5.below HB4.out.size (fun k hk => by simp at hk; omega))
  have o1 := old_any H5 4
  have o2 := fun wx (hx : Below w5.heap.size w5 wx) => old_any (H5.below hx) 3
  rw [show decide (wf (wf (wf f 1 (3 : Nat)) (wn 1) (1 : Nat)) (wn (wn 1)) (4 : Nat) (wn (wn (wn 1)) - 1) ≤ 4) = true by simp [wf, wn]] at o1
  rw [show decide (wf (wf (wf f 1 (3 : Nat)) (wn 1) (1 : Nat)) (wn (wn 1)) (4 : Nat) (wn (wn (wn 1)) - 1) ≤ 3) = false by simp [wf, wn]] at o2
  have O2 : Hid (∀ wx, Below w5.heap.size w5 wx → _) := o2
  clear H5 ht5 t1 HH4 HB4 o2
  go_wp2_with fail
  refine o1.mono ?_
  rintro e w6 ⟨rfl, hb6⟩
  have o2 := O2.out w6 hb6
  have HB6 : Hid (Below w.heap.size w w6) := HB5.out.trans (hb6.mono HB5.out.size)
  clear HB5 hb6 o1
  go_wp2_with fail
  refine o2.mono ?_
  rintro e w7 ⟨rfl, hb7⟩
  go_wp2
  go_ret
  exact ⟨rfl, HB6.out.trans (hb7.mono HB6.out.size)⟩

end Go.Proofs.Ytdcmpilgfkaamaa
