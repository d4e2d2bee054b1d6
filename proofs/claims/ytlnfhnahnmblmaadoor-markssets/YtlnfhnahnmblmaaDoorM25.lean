/-
  What MarksFrozen tells the runs to, where nothing is changed.
-/
import Derived.Test.YtlnfhnahnmblmaaDoorM24
set_option linter.unusedVariables false
set_option maxRecDepth 100000
namespace Go.Proofs.YtlnfhnahnmblmaaDoor
open Go.RowKit Go.Shelf

/-- A list of one's own, in blocks from lo on, below hi. -/
def Lsc (lo hi : Nat) (w : World) (a : Option Addr) (l : List Int) : Prop :=
  ∀ i u, l[i]? = some u → ∃ g, lo ≤ g ∧ g < hi ∧ a = some ⟨g, 0, none⟩ ∧ w.cell? ⟨g, i, none⟩ = some (.int .i64 u)

theorem Lsc.touch {lo hi : Nat} {w w' : World} {a : Option Addr} {l : List Int} {F : List Nat} (h : Lsc lo hi w a l) (t : Touch F w w') (hF : ∀ k ∈ F, k < lo ∨ hi ≤ k) : Lsc lo hi w' a l := fun i u hu => by
  obtain ⟨g, h1, h2, h3, h4⟩ := h i u hu
  exact ⟨g, h1, h2, h3, t.cell h4 (fun hm => by have := hF _ hm; simp only at this; omega)⟩
theorem Lsc.below {lo hi : Nat} {w w' : World} {a : Option Addr} {l : List Int} (h : Lsc lo hi w a l) (t : Below w.heap.size w w') : Lsc lo hi w' a l := h.touch (Touch.of_below t []) (by simp)
theorem Lsb.c {B : Nat} {w : World} {a : Option Addr} {l : List Int} (h : Lsb B w a l) : Lsc B w.heap.size w a l := fun i u hu => by
  obtain ⟨g, h1, h2, h3⟩ := h i u hu
  exact ⟨g, h1, World.block_lt_of_cell? _ _ h3, h2, h3⟩

/-- Whether a run is the next one of a list: what is kept. -/
structure Cj (gB nB wB : Nat) (p : Option Addr) (C lo hi : Nat) (ws : List Int) (k : Nat) (W : World) : Prop where
  gd : Boxed W gB 4 (.bool true)
  nb : Boxed W nB 3 (.int .i64 (2 * k : Nat))
  wb : Boxed W wB 22 (.slice p ws.length C)
  ls : Lsc lo hi W p ws

theorem Cj.below {gB nB wB : Nat} {p : Option Addr} {C lo hi : Nat} {ws : List Int} {k : Nat} {W W' : World} (h : Cj gB nB wB p C lo hi ws k W) (l : Below W.heap.size W W') : Cj gB nB wB p C lo hi ws k W' :=
  ⟨box_below h.gd l, box_below h.nb l, box_below h.wb l, h.ls.below l⟩

set_option maxHeartbeats 4000000 in
theorem frz2_any (gB nB wB : Nat) (h1 : gB ≠ nB) (h2 : gB ≠ wB) (h3 : nB ≠ wB) (p : Option Addr) (C lo hi : Nat) (hg : gB < lo ∨ hi ≤ gB) (hnb : nB < lo ∨ hi ≤ nB) (ws : List Int) (k : Nat) (hk : k ≤ 5000) (x y : Int) (hx : ws[2 * k]? = some x) (hy : ws[2 * k + 1]? = some y) (hC : ws.length ≤ C) (hwl : ws.length ≤ 20000) (W : World) (hJ : Cj gB nB wB p C lo hi ws k W) :
    Calls Tryd.prog 25 #[.int .i64 x, .int .i64 y, .pointer (some ⟨gB, 0, none⟩), .pointer (some ⟨nB, 0, none⟩), .pointer (some ⟨wB, 0, none⟩)] W fun r W' => Touch [gB, nB] W W' ∧ r = .returned (.bool true) ∧ Cj gB nB wB p C lo hi ws (k + 1) W' := by
  obtain ⟨g', hg1, hg3, rfl, cx⟩ := hJ.ls _ _ hx
  obtain ⟨g'', hg2, hg4, he, cy⟩ := hJ.ls _ _ hy
  simp only [Option.some.injEq, Addr.mk.injEq, and_true] at he
  subst he
  have hl1 : 2 * k + 1 < ws.length := (List.getElem?_eq_some_iff.1 hy).1
  have k0 := hJ.gd.cell
  have kf := hJ.gd.frozen
  have k1 := hJ.nb.cell
  have k2 := hJ.wb.cell
  have hxx : ((x == x) = true) := by simp
  have HJ : Hid (Cj gB nB wB (some ⟨g', 0, none⟩) C lo hi ws k W) := hJ
  have hi2 : (2 * (k : Int) + 1 < ws.length) := by omega
  clear hJ hx hy
  generalize ws.length = L at *
  go_enter Tryd.func25, Tryd.ntmps25
  go_upto_region 2 with fail
  obtain ⟨w4, hw4⟩ : ∃ w4, w4 = W.setCell ⟨gB, 0, none⟩ (.bool true) := ⟨_, rfl⟩
  have t4 : Touch [gB, nB] W w4 := by rw [hw4]; exact Touch.setCell _ _ _ (by simp)
  have e0 : Boxed w4 gB 4 (.bool true) := by rw [hw4]; exact HJ.out.gd.set (.bool true)
  have e1 : Boxed w4 nB 3 (.int .i64 (2 * k : Nat)) := by rw [hw4]; exact HJ.out.nb.other h1.symm _
  rw [← hw4]
  clear hw4 k0 kf k1 k2 cx cy
  have k0 := e1.cell
  have kf := e1.frozen
  go_upto_region 3 with fail
  obtain ⟨w5, hw5⟩ : ∃ w5, w5 = w4.setCell ⟨nB, 0, none⟩ (.int .i64 (2 * (k : Int) + 2)) := ⟨_, rfl⟩
  have t5 : Touch [gB, nB] w4 w5 := by rw [hw5]; exact Touch.setCell _ _ _ (by simp)
  have f0 : Boxed w5 gB 4 (.bool true) := by rw [hw5]; exact e0.other h1 _
  have f1 : Boxed w5 nB 3 (.int .i64 (2 * (k : Int) + 2)) := by rw [hw5]; exact e1.set _
  rw [← hw5]
  clear hw5 k0 kf e0 e1
  have k0 := f0.cell
  have tt := t4.trans t5
  have HT : Hid (Touch [gB, nB] W w5) := tt
  have HF : Hid (Cj gB nB wB (some ⟨g', 0, none⟩) C lo hi ws (k + 1) w5) := by
    refine ⟨f0, ?_, box_touch HJ.out.wb tt (by simp; omega), HJ.out.ls.touch tt (by simp; omega)⟩
    rw [show ((2 * (k + 1) : Nat) : Int) = 2 * (k : Int) + 2 by omega]
    exact f1
  clear t4 t5 tt f0 f1 HJ
  go_wp2
  go_ret
  exact ⟨HT.out, rfl, HF.out⟩

set_option maxHeartbeats 4000000 in
theorem frz11_any (gB nB wB : Nat) (h1 : gB ≠ nB) (h2 : gB ≠ wB) (h3 : nB ≠ wB) (p : Option Addr) (C lo hi : Nat) (hg : gB < lo ∨ hi ≤ gB) (hnb : nB < lo ∨ hi ≤ nB) (ws : List Int) (k : Nat) (hk : k ≤ 5000) (x y : Int) (hx : ws[2 * k]? = some x) (hy : ws[2 * k + 1]? = some y) (hC : ws.length ≤ C) (hwl : ws.length ≤ 20000) (W : World) (hJ : Cj gB nB wB p C lo hi ws k W) :
    Calls Tryd.prog 24 #[.int .i64 x, .int .i64 y, .pointer (some ⟨gB, 0, none⟩), .pointer (some ⟨nB, 0, none⟩), .pointer (some ⟨wB, 0, none⟩)] W fun r W' => Touch [gB, nB] W W' ∧ r = .returned (.bool true) ∧ Cj gB nB wB p C lo hi ws (k + 1) W' := by
  obtain ⟨g', hg1, hg3, rfl, cx⟩ := hJ.ls _ _ hx
  obtain ⟨g'', hg2, hg4, he, cy⟩ := hJ.ls _ _ hy
  simp only [Option.some.injEq, Addr.mk.injEq, and_true] at he
  subst he
  have hl1 : 2 * k + 1 < ws.length := (List.getElem?_eq_some_iff.1 hy).1
  have k0 := hJ.gd.cell
  have kf := hJ.gd.frozen
  have k1 := hJ.nb.cell
  have k2 := hJ.wb.cell
  have hxx : ((x == x) = true) := by simp
  have HJ : Hid (Cj gB nB wB (some ⟨g', 0, none⟩) C lo hi ws k W) := hJ
  have hi2 : (2 * (k : Int) + 1 < ws.length) := by omega
  clear hJ hx hy
  generalize ws.length = L at *
  go_enter Tryd.func24, Tryd.ntmps24
  go_upto_region 2 with fail
  obtain ⟨w4, hw4⟩ : ∃ w4, w4 = W.setCell ⟨gB, 0, none⟩ (.bool true) := ⟨_, rfl⟩
  have t4 : Touch [gB, nB] W w4 := by rw [hw4]; exact Touch.setCell _ _ _ (by simp)
  have e0 : Boxed w4 gB 4 (.bool true) := by rw [hw4]; exact HJ.out.gd.set (.bool true)
  have e1 : Boxed w4 nB 3 (.int .i64 (2 * k : Nat)) := by rw [hw4]; exact HJ.out.nb.other h1.symm _
  rw [← hw4]
  clear hw4 k0 kf k1 k2 cx cy
  have k0 := e1.cell
  have kf := e1.frozen
  go_upto_region 3 with fail
  obtain ⟨w5, hw5⟩ : ∃ w5, w5 = w4.setCell ⟨nB, 0, none⟩ (.int .i64 (2 * (k : Int) + 2)) := ⟨_, rfl⟩
  have t5 : Touch [gB, nB] w4 w5 := by rw [hw5]; exact Touch.setCell _ _ _ (by simp)
  have f0 : Boxed w5 gB 4 (.bool true) := by rw [hw5]; exact e0.other h1 _
  have f1 : Boxed w5 nB 3 (.int .i64 (2 * (k : Int) + 2)) := by rw [hw5]; exact e1.set _
  rw [← hw5]
  clear hw5 k0 kf e0 e1
  have k0 := f0.cell
  have tt := t4.trans t5
  have HT : Hid (Touch [gB, nB] W w5) := tt
  have HF : Hid (Cj gB nB wB (some ⟨g', 0, none⟩) C lo hi ws (k + 1) w5) := by
    refine ⟨f0, ?_, box_touch HJ.out.wb tt (by simp; omega), HJ.out.ls.touch tt (by simp; omega)⟩
    rw [show ((2 * (k + 1) : Nat) : Int) = 2 * (k : Int) + 2 by omega]
    exact f1
  clear t4 t5 tt f0 f1 HJ
  go_wp2
  go_ret
  exact ⟨HT.out, rfl, HF.out⟩
end Go.Proofs.YtlnfhnahnmblmaaDoor
