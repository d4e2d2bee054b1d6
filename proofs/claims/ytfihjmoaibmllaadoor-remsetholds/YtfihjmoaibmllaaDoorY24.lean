/-
  The memory of a statement: young, holds.
-/
import Derived.Test.YtfihjmoaibmllaaDoorY22
import Derived.Test.YtfihjmoaibmllaaDoorY23
set_option linter.unusedVariables false
set_option maxRecDepth 20000
namespace Go.Proofs.YtfihjmoaibmllaaDoor
open Go.RowKit Go.Shelf

/-- A lay, its arena, its Set, in block mm. -/
structure Mm (w : World) (mm lb b sb : Nat) : Prop where
  own : w.heap[mm]? = some (.cells #[.pointer (some ⟨lb, 0, none⟩), .pointer (some ⟨b, 0, none⟩), .pointer (some ⟨sb, 0, none⟩)] 39 (0, 0))

theorem Mm.lt {w : World} {mm lb b sb : Nat} (h : Mm w mm lb b sb) : mm < w.heap.size := (Array.getElem?_eq_some_iff.1 h.own).1
theorem Mm.below {w w' : World} {mm lb b sb : Nat} (h : Mm w mm lb b sb) (l : Below w.heap.size w w') : Mm w' mm lb b sb := ⟨(l.block _ h.lt).trans h.own⟩
theorem Mm.cell {w : World} {mm lb b sb : Nat} (h : Mm w mm lb b sb) (j : Nat) : w.cell? ⟨mm, j, none⟩ = (#[.pointer (some ⟨lb, 0, none⟩), .pointer (some ⟨b, 0, none⟩), .pointer (some ⟨sb, 0, none⟩)] : Array Value)[j]? := cell_of_row _ _ j _ _ _ h.own

/-- Is the thing of that number young? -/
def ynl (L : List LT) (sw : Bool) (z : Int) : Bool := (ob L z).any (fun T => decide (T.sp = 1 ∨ T.sp = if sw = true then 3 else 2))

theorem yg_plc {L : List LT} {th : List Tng} (S : Sk L th) {w : World} {b g : Nat} {c : Cfg} {x : Tps} {sw : Bool} {ws : Nat → Int} (H : Ax w b g c x sw ws th) (z : Int) : yg c sw (plc L z) = ynl L sw z := by
  unfold ynl
  cases e : ob L z with
  | none =>
    have h0 : thr L z = false := by unfold thr; rw [e]; rfl
    rw [plc_none h0]
    have hs : spc c 0 = 0 := by unfold spc; rw [if_pos (by omega)]
    unfold yg
    rw [hs]
    cases sw <;> simp
  | some T =>
    obtain ⟨i, U, hi, -, hm⟩ := S.find e
    obtain ⟨s, s1, s4, hs, hsp, -⟩ := H.hl.stands H.ar (List.mem_of_getElem? hi)
    rw [plc_some e, ← hm.at_]
    unfold yg
    rw [hsp, Option.any_some, ← hm.sp, hs]

theorem Ly.mono {n1 : Nat} {w : World} {lb : Nat} {c : Cfg} {L : List LT} (h : Ly n1 w lb c L) (l : n1 ≤ w.heap.size) {w' : World} (hb : Below w.heap.size w w') : Ly n1 w' lb c L := h.below (hb.mono l)

set_option maxHeartbeats 8000000 in
theorem young6_any {n1 : Nat} {w : World} {mm lb b sb g : Nat} {c : Cfg} {L : List LT} {x : Tps} {sw : Bool} {ws : Nat → Int} (hM : Mm w mm lb b sb) (h : Ly n1 w lb c L) (hn1 : n1 ≤ w.heap.size) (hlen : L.length ≤ 400) (hA : Ar w b g c x sw ws) (z : Int) (hz : InI z) :
    Calls Tryd.prog 21 #[.pointer (some ⟨mm, 0, none⟩), .int .i64 z] w fun e w' => e = .returned (.bool (ynl L sw z)) ∧ Below w.heap.size w w' := by
  haveI hinh : Inhabited (Bel w) := ⟨⟨w, Below.refl _ _⟩⟩
  have m0 : ∀ p : Bel w, p.v.cell? ⟨mm, 0, none⟩ = some (.pointer (some ⟨lb, 0, none⟩)) := fun p => (hM.below p.h).cell 0
  have m1 : ∀ p : Bel w, p.v.cell? ⟨mm, 1, none⟩ = some (.pointer (some ⟨b, 0, none⟩)) := fun p => (hM.below p.h).cell 1
  have hth : ∀ p : Bel w, Calls Tryd.prog 11 #[.pointer (some ⟨lb, 0, none⟩), .int .i64 z] p.v fun e w' => e = .returned (.bool (thr L z)) ∧ Below p.v.heap.size p.v w' := fun p => there_any (h.mono hn1 p.h) hlen z hz
  cases e : ob L z with
  | none =>
    have h0 : thr L z = false := by unfold thr; rw [e]; rfl
    have hy : ynl L sw z = false := by unfold ynl; rw [e]; rfl
    simp only [h0] at hth
    rw [hy]
    have Hth : Hid (∀ p : Bel w, Calls Tryd.prog 11 #[.pointer (some ⟨lb, 0, none⟩), .int .i64 z] p.v fun e w' => e = .returned (.bool false) ∧ Below p.v.heap.size p.v w') := hth
    clear hth hM h hA e h0 hy
    go_enter Tryd.func21, Tryd.ntmps21
    go_upto_region 1 with fail
    refine region_below mixed (by kernel_rfl) ?_
    repeat (go_big_quiet_step (first | (go_at_call 11; exact calls_bel (Hth.out _))))
    refine wpQuiet_nil ?_
    rintro w7 ⟨⟨w7, b7⟩, rfl⟩
    clear m0 m1
    go_wp2
    go_ret
    exact ⟨rfl, b7⟩
  | some T =>
    have h0 : thr L z = true := by unfold thr; rw [e]; rfl
    have hy : ynl L sw z = decide (T.sp = 1 ∨ T.sp = if sw = true then 3 else 2) := by unfold ynl; rw [e]; rfl
    simp only [h0] at hth
    rw [hy]
    obtain ⟨h1, h2, h3, h4⟩ := ob_some.1 e
    obtain ⟨i, rfl⟩ : ∃ i : Nat, z = (i : Int) + 1 := ⟨(z - 1).toNat, by omega⟩
    have ei : ((i : Int) + 1 - 1).toNat = i := by omega
    rw [ei] at h2
    obtain ⟨q, off, cap, q', off', cap', l14, -, cs, -, hq, -, -⟩ := h.thing h2
    have hi := (List.getElem?_eq_some_iff.1 h2).1
    have hlb := h.lt
    have k14 : ∀ p : Bel w, p.v.cell? ⟨lb, 14, none⟩ = some (.slice (some ⟨q, off, none⟩) L.length cap) := fun p => (p.h.cell (p := ⟨lb, 14, none⟩) (by simp only; omega)).trans l14
    have ksp : ∀ p : Bel w, p.v.cell? ⟨q, off + i * 11, none⟩ = some (.int .i64 T.sp) := fun p => (p.h.cell (p := ⟨q, off + i * 11, none⟩) (by simp only; omega)).trans (cs 0 (by decide))
    have Hth : Hid (∀ p : Bel w, Calls Tryd.prog 11 #[.pointer (some ⟨lb, 0, none⟩), .int .i64 ((i : Int) + 1)] p.v fun e w' => e = .returned (.bool true) ∧ Below p.v.heap.size p.v w') := hth
    have Hfr : Hid (∀ p : Bel w, Calls Tryd.prog 53 #[.pointer (some ⟨b, 0, none⟩)] p.v fun e w' => e = .returned (.int .i64 (if sw = true then 3 else 2)) ∧ Below p.v.heap.size p.v w') := fun p => (from_any b g c x sw ws p.v (hA.below p.h)).mono (fun e w' h => ⟨h.1, by rw [← h.2]; exact Below.refl _ _⟩)
    clear hth hM h hA e h0 hy h1 h2 h3 h4 l14 cs ei hq
    generalize L.length = N at *
    generalize T.sp = sp at *
    generalize (if sw = true then (3 : Int) else 2) = fr at *
    by_cases hs1 : sp = 1
    · subst hs1
      go_enter Tryd.func21, Tryd.ntmps21
      go_upto_region 1 with fail
      refine region_below mixed (by kernel_rfl) ?_
      repeat (go_big_quiet_step (first | (go_at_call 11; exact calls_bel (Hth.out _)) | (go_at_call 53; exact calls_bel (Hfr.out _))))
      refine wpQuiet_nil ?_
      rintro w7 ⟨⟨w7, b7⟩, rfl⟩
      clear m0 m1 k14 ksp
      go_wp2
      go_ret
      exact ⟨by simp, b7⟩
    · have e1 : (sp == 1) = false := by simpa using hs1
      go_enter Tryd.func21, Tryd.ntmps21
      go_upto_region 1 with fail
      refine region_below mixed (by kernel_rfl) ?_
      repeat (go_big_quiet_step (first | (go_at_call 11; exact calls_bel (Hth.out _)) | (go_at_call 53; exact calls_bel (Hfr.out _))))
      refine wpQuiet_nil ?_
      rintro w7 ⟨⟨w7, b7⟩, rfl⟩
      clear m0 m1 k14 ksp
      go_wp2
      go_ret
      refine ⟨?_, b7⟩
      by_cases h2 : sp = fr <;> simp [hs1, h2]

end Go.Proofs.YtfihjmoaibmllaaDoor
