/-
  desk.runs: what it tells the runs to.
-/
import Derived.Test.YtlnfhnahnmblmabDoorN10
import Derived.Test.YtlnfhnahnmblmabDoorN6
import Derived.Test.YtlnfhnahnmblmabDoorN7
import Derived.Test.YtlnfhnahnmblmabDoorM25
import Derived.Test.YtlnfhnahnmblmabDoorMRC
set_option linter.unusedVariables false
set_option maxRecDepth 100000
namespace Go.Proofs.YtlnfhnahnmblmabDoor
open Go.RowKit Go.Shelf

/-- What desk.runs keeps while it goes through the runs. -/
structure Dj (oB kB wB aB nB sB : Nat) (pa pd : Option Addr) (Ca Cd lo hi : Nat) (A D : List Int) (want : Nat) (stop : Int) (k : Nat) (W : World) : Prop where
  ok : Boxed W oB 4 (.bool true)
  kb : Boxed W kB 3 (.int .i64 (k : Nat))
  wb : Boxed W wB 3 (.int .i64 (want : Nat))
  ab : Boxed W aB 64 (.slice pa A.length Ca)
  nb : Boxed W nB 64 (.slice pd D.length Cd)
  sb : Boxed W sB 3 (.int .i64 stop)
  la : Lsc lo hi W pa A
  ld : Lsc lo hi W pd D

theorem Dj.below {oB kB wB aB nB sB : Nat} {pa pd : Option Addr} {Ca Cd lo hi : Nat} {A D : List Int} {want : Nat} {stop : Int} {k : Nat} {W W' : World} (h : Dj oB kB wB aB nB sB pa pd Ca Cd lo hi A D want stop k W) (l : Below W.heap.size W W') : Dj oB kB wB aB nB sB pa pd Ca Cd lo hi A D want stop k W' :=
  ⟨box_below h.ok l, box_below h.kb l, box_below h.wb l, box_below h.ab l, box_below h.nb l, box_below h.sb l, h.la.below l, h.ld.below l⟩

set_option maxHeartbeats 4000000 in
theorem druns1_any (oB kB wB aB nB sB : Nat) (h1 : oB ≠ kB) (ho : oB ≠ wB ∧ oB ≠ aB ∧ oB ≠ nB ∧ oB ≠ sB) (hkk : kB ≠ wB ∧ kB ≠ aB ∧ kB ≠ nB ∧ kB ≠ sB) (pa pd : Option Addr) (Ca Cd lo hi : Nat) (hol : oB < lo ∨ hi ≤ oB) (hkl : kB < lo ∨ hi ≤ kB) (A D : List Int) (want : Nat) (stop : Int) (k : Nat) (hk : k < want) (x y : Int) (hx : A[k]? = some x) (hy : D[k]? = some y) (hA : A.length ≤ 1048576) (hD : D.length ≤ 1048576) (hw : want ≤ 1048576) (hCa : A.length ≤ Ca) (hCd : D.length ≤ Cd) (W : World) (hJ : Dj oB kB wB aB nB sB pa pd Ca Cd lo hi A D want stop k W) :
    Calls Tryd.prog 31 #[.int .i64 x, .int .i64 y, .pointer (some ⟨oB, 0, none⟩), .pointer (some ⟨kB, 0, none⟩), .pointer (some ⟨wB, 0, none⟩), .pointer (some ⟨aB, 0, none⟩), .pointer (some ⟨nB, 0, none⟩), .pointer (some ⟨sB, 0, none⟩)] W fun r W' => Touch [oB, kB] W W' ∧ ((r = .returned (.bool true) ∧ (k : Int) + 1 ≠ stop) ∨ (r = .returned (.bool false) ∧ (k : Int) + 1 = stop)) ∧ Dj oB kB wB aB nB sB pa pd Ca Cd lo hi A D want stop (k + 1) W' := by
  obtain ⟨g1, hg1, hg3, rfl, cx⟩ := hJ.la _ _ hx
  obtain ⟨g2, hg2, hg4, rfl, cy⟩ := hJ.ld _ _ hy
  have hl1 : k < A.length := (List.getElem?_eq_some_iff.1 hx).1
  have hl2 : k < D.length := (List.getElem?_eq_some_iff.1 hy).1
  have k0 := hJ.ok.cell
  have kf := hJ.ok.frozen
  have k1 := hJ.kb.cell
  have k2 := hJ.wb.cell
  have k3 := hJ.ab.cell
  have k4 := hJ.nb.cell
  have HJ : Hid (Dj oB kB wB aB nB sB (some ⟨g1, 0, none⟩) (some ⟨g2, 0, none⟩) Ca Cd lo hi A D want stop k W) := hJ
  have hi1 : (k : Int) < A.length := by omega
  have hi2 : (k : Int) < D.length := by omega
  have hi3 : (k : Int) < want := by omega
  have HO : Hid (oB ≠ kB ∧ (oB ≠ wB ∧ oB ≠ aB ∧ oB ≠ nB ∧ oB ≠ sB) ∧ (kB ≠ wB ∧ kB ≠ aB ∧ kB ≠ nB ∧ kB ≠ sB)) := ⟨h1, ho, hkk⟩
  clear hJ hx hy ho hkk
  generalize hAL : A.length = L1 at *
  generalize hDL : D.length = L2 at *
  go_enter Tryd.func31, Tryd.ntmps31
  go_upto_region 2 with fail
  obtain ⟨w4, hw4⟩ : ∃ w4, w4 = W.setCell ⟨oB, 0, none⟩ (.bool true) := ⟨_, rfl⟩
  have t4 : Touch [oB, kB] W w4 := by rw [hw4]; exact Touch.setCell _ _ _ (by simp)
  have e0 : Boxed w4 oB 4 (.bool true) := by rw [hw4]; exact HJ.out.ok.set (.bool true)
  have e1 : Boxed w4 kB 3 (.int .i64 (k : Nat)) := by rw [hw4]; exact HJ.out.kb.other h1.symm _
  rw [← hw4]
  clear hw4 k0 kf k1 k2 k3 k4 cx cy
  have k0 := e1.cell
  have kf := e1.frozen
  go_upto_region 3 with fail
  obtain ⟨w5, hw5⟩ : ∃ w5, w5 = w4.setCell ⟨kB, 0, none⟩ (.int .i64 ((k : Int) + 1)) := ⟨_, rfl⟩
  have t5 : Touch [oB, kB] w4 w5 := by rw [hw5]; exact Touch.setCell _ _ _ (by simp)
  have f0 : Boxed w5 oB 4 (.bool true) := by rw [hw5]; exact e0.other h1 _
  have f1 : Boxed w5 kB 3 (.int .i64 ((k : Int) + 1)) := by rw [hw5]; exact e1.set _
  rw [← hw5]
  clear hw5 k0 kf e0 e1
  have tt := t4.trans t5
  have f2 := box_touch HJ.out.sb tt (by have := HO.out; simp; omega)
  have k0 := f0.cell
  have k1 := f1.cell
  have k2 := f2.cell
  have HT : Hid (Touch [oB, kB] W w5) := tt
  have HF : Hid (Dj oB kB wB aB nB sB (some ⟨g1, 0, none⟩) (some ⟨g2, 0, none⟩) Ca Cd lo hi A D want stop (k + 1) w5) := by
    have := HO.out
    refine ⟨f0, ?_, box_touch HJ.out.wb tt (by simp; omega), box_touch HJ.out.ab tt (by simp; omega), box_touch HJ.out.nb tt (by simp; omega), f2, HJ.out.la.touch tt (by simp; omega), HJ.out.ld.touch tt (by simp; omega)⟩
    rw [show ((k + 1 : Nat) : Int) = (k : Int) + 1 by omega]
    exact f1
  clear t4 t5 tt f0 f1 f2 HJ HO
  by_cases hs : (k : Int) + 1 = stop
  · subst hs
    go_wp2
    go_ret
    exact ⟨HT.out, rfl, HF.out⟩
  · have hs' : ((k : Int) + 1 != stop) = true := by simpa using hs
    have HS : Hid ((k : Int) + 1 ≠ stop) := hs
    clear hs
    go_wp2
    go_ret
    exact ⟨HT.out, .inl ⟨rfl, HS.out⟩, HF.out⟩
end Go.Proofs.YtlnfhnahnmblmabDoor
