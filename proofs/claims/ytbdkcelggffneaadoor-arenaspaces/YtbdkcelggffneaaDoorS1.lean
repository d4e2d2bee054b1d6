/-
  ArenaSpaces: the walk.
-/
import Derived.Test.YtbdkcelggffneaaDoorA17
set_option linter.unusedVariables false
namespace Go.Proofs.YtbdkcelggffneaaDoor
open Go.RowKit Go.Shelf

/-- Numbers that came in. -/
def Lst (w : World) (a : Option Addr) (xs : List Int) : Prop := ∀ (i : Nat) u, xs[i]? = some u → ∃ b off, a = some ⟨b, off, none⟩ ∧ b < w.heap.size ∧ w.cell? ⟨b, off + i, none⟩ = some (.int .i64 u)

theorem Cfd.cells {w : World} {b : Nat} {c : Cfg} (h : Cfd w b c) : w.cell? ⟨b, 0, none⟩ = some (.int .i64 c.eden) ∧ w.cell? ⟨b, 1, none⟩ = some (.int .i64 c.surv) ∧ w.cell? ⟨b, 2, none⟩ = some (.int .i64 c.ten) ∧ w.cell? ⟨b, 3, none⟩ = some (.int .i64 c.large) ∧ w.cell? ⟨b, 4, none⟩ = some (.int .i64 c.floor) ∧ w.cell? ⟨b, 5, none⟩ = some (.int .i64 c.num) ∧ w.cell? ⟨b, 6, none⟩ = some (.int .i64 c.den) ∧ w.cell? ⟨b, 7, none⟩ = some (.int .i64 c.target) ∧ w.cell? ⟨b, 8, none⟩ = some (.int .i64 c.maxAge) ∧ w.cell? ⟨b, 9, none⟩ = some (.int .i64 c.threads) ∧ w.cell? ⟨b, 10, none⟩ = some (.int .i64 c.slots) ∧ w.cell? ⟨b, 11, none⟩ = some (.int .i64 c.handles) ∧ w.cell? ⟨b, 12, none⟩ = some (.int .i64 c.buffer) ∧ w.cell? ⟨b, 13, none⟩ = some (.int .i64 c.workers) :=
  ⟨h.cell 0, h.cell 1, h.cell 2, h.cell 3, h.cell 4, h.cell 5, h.cell 6, h.cell 7, h.cell 8, h.cell 9, h.cell 10, h.cell 11, h.cell 12, h.cell 13⟩

set_option maxRecDepth 20000 in
set_option maxHeartbeats 8000000 in
theorem spaces_no (c : Cfg) (hc : ¬ c.Ok) (sp cut : Int) (wsv : Value) (w : World) (hL : Laid w) :
    Calls Tryd.prog 3 #[cv c, .int .i64 sp, wsv, .int .i64 cut] w fun e w' => e = .returned (.bool true) ∧ Below w.heap.size w w' := by
  have b0 : Below w.heap.size w (w.alloc (.cells (ccells c) 23)) := Below.alloc (Below.refl _ _) (Nat.le_refl _) _
  have f0 := Cfd.new w c
  have hk := known3_any _ (hL.keep b0)
  have Hn : Hid (∀ w, Calls Tryd.prog 6 #[cv c] w fun e w' => e = .returned (.tuple #[.pointer none, .int .i64 30]) ∧ Below w.heap.size w w') := fun w => new_no c hc w
  have Hv : Hid (∀ w, Calls Tryd.prog 7 #[cv c] w fun e w' => e = .returned (.bool false) ∧ Below w.heap.size w w') := fun w => valid_any c false (by simp [hc]) w
  clear hL hc
  go_enter Tryd.func3, Tryd.ntmps3
  go_wp2_with fail
  refine hk.mono ?_
  rintro e w1 ⟨rfl, b1⟩
  have f1 := f0.below b1
  have b2 := b0.trans (b1.mono b0.size)
  clear hk b0 b1 f0
  have fc := f1.cells
  obtain ⟨k0, k1, k2, k3, k4, k5, k6, k7, k8, k9, k10, k11, k12, k13⟩ := fc
  go_wp2_with fail
  clear k0 k1 k2 k3 k4 k5 k6 k7 k8 k9 k10 k11 k12 k13
  refine (Hn.out w1).mono ?_
  rintro e w2 ⟨rfl, b3⟩
  have f2 := f1.below b3
  have b4 := b2.trans (b3.mono b2.size)
  clear b2 b3 f1
  have fc := f2.cells
  obtain ⟨k0, k1, k2, k3, k4, k5, k6, k7, k8, k9, k10, k11, k12, k13⟩ := fc
  go_wp2_with fail
  clear k0 k1 k2 k3 k4 k5 k6 k7 k8 k9 k10 k11 k12 k13
  refine (Hv.out w2).mono ?_
  rintro e w3 ⟨rfl, b5⟩
  have b6 := b4.trans (b5.mono b4.size)
  clear b4 b5 f2
  go_wp2
  go_ret
  exact ⟨rfl, b6⟩

/-- The first word of the space s, behind the last one the array's end. -/
def atS (c : Cfg) (s : Int) : Int := if s ≤ 4 then fst c s else c.words

theorem atS_next (c : Cfg) (s : Int) (h : 1 ≤ s ∧ s ≤ 4) : atS c (s + 1) = bhd c s := by
  obtain rfl | rfl | rfl | rfl : s = 1 ∨ s = 2 ∨ s = 3 ∨ s = 4 := by omega
  all_goals simp [atS, fst, bhd, Cfg.words]

/-- A space's size. -/
def szS (c : Cfg) (s : Int) : Int := bhd c s - fst c s

theorem spc_first (c : Cfg) (h : c.Ok) (s : Int) (hs : 1 ≤ s ∧ s ≤ 4) : spc c (fst c s) = s := by
  have := h.e0; have := h.s0; have := h.t0
  obtain rfl | rfl | rfl | rfl : s = 1 ∨ s = 2 ∨ s = 3 ∨ s = 4 := by omega
  all_goals
    simp only [fst, spc]
    simp
    repeat' split
    all_goals omega

theorem spc_last (c : Cfg) (h : c.Ok) (s : Int) (hs : 1 ≤ s ∧ s ≤ 4) : spc c (bhd c s - 1) = s := by
  have := h.e0; have := h.s0; have := h.t0
  obtain rfl | rfl | rfl | rfl : s = 1 ∨ s = 2 ∨ s = 3 ∨ s = 4 := by omega
  all_goals
    simp only [bhd, spc]
    simp
    repeat' split
    all_goals omega

theorem top0 (c : Cfg) (s : Int) (hs : 1 ≤ s ∧ s ≤ 4) : (tops0 c).top s = fst c s := by
  obtain rfl | rfl | rfl | rfl : s = 1 ∨ s = 2 ∨ s = 3 ∨ s = 4 := by omega
  all_goals simp [tops0, Tps.top, fst]

end Go.Proofs.YtbdkcelggffneaaDoor
