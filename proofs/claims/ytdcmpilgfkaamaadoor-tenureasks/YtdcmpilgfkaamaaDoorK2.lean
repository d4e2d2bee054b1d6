/-
  The kinds of which the book keeps nothing.
-/
import Derived.Test.YtdcmpilgfkaamaaDoorK1
set_option linter.unusedVariables false
set_option maxRecDepth 20000
namespace Go.Proofs.YtdcmpilgfkaamaaDoor
open Go.RowKit

set_option maxHeartbeats 2000000 in
theorem markBytes_nil {w : World} {b : Nat} {f : Nat → Value} (h : Bk w b f) (hn : Nil9 f 4) :
    Calls Tryd.prog 54 #[.pointer (some ⟨b, 0, none⟩)] w fun e w' => e = .returned (.tuple #[]) ∧ w = w' := by
  have c2 := h.cell (4 + 2)
  have c3 := h.cell (4 + 3)
  have c5 := h.cell (4 + 5)
  have c6 := h.cell (4 + 6)
  rw [hn.c2] at c2
  rw [hn.c3] at c3
  rw [hn.c5] at c5
  rw [hn.c6] at c6
  clear h hn
  go_enter Tryd.func54, Tryd.ntmps54
  go_wp2
  go_returns
  exact ⟨rfl, rfl⟩

set_option maxHeartbeats 2000000 in
theorem growBytes_nil {w : World} {b : Nat} {f : Nat → Value} (h : Bk w b f) (hn : Nil9 f 4) :
    Calls Tryd.prog 67 #[.pointer (some ⟨b, 0, none⟩)] w fun e w' => e = .returned (.tuple #[]) ∧ Bk w' b f ∧ Touch [b] w w' := by
  have c4 := h.cell (4 + 4)
  have c7 := h.cell (4 + 7)
  have f4 := h.frozen (4 + 4)
  have f7 := h.frozen (4 + 7)
  rw [hn.c4] at c4
  rw [hn.c7] at c7
  have h1 := h.set (4 + 4) (.slice none 0 0)
  rw [put_self f (4 + 4) _ hn.c4] at h1
  have h2 := h1.set (4 + 7) (.slice none 0 0)
  rw [put_self f (4 + 7) _ hn.c7] at h2
  have HK : Hid (Bk _ b f) := h2
  clear h h1 h2 hn
  go_enter Tryd.func67, Tryd.ntmps67
  go_wp2
  refine wp_loop_rounds 1 ?_
  rw [rounds_succ]
  go_wp2
  go_returns
  exact ⟨rfl, HK.out, (Touch.setCell _ _ _ (by simp)).trans (Touch.setCell _ _ _ (by simp))⟩

set_option maxHeartbeats 2000000 in
theorem holdBytes_nil {w : World} {b : Nat} {f : Nat → Value} (h : Bk w b f) (hn : Nil9 f 4) :
    Calls Tryd.prog 23 #[.pointer (some ⟨b, 0, none⟩)] w fun e w' => e = .returned (.bool true) ∧ w = w' := by
  have c0 := h.cell (4 + 0)
  have c2 := h.cell (4 + 2)
  rw [hn.c0] at c0
  rw [hn.c2] at c2
  clear h hn
  go_enter Tryd.func23, Tryd.ntmps23
  go_wp2
  refine wp_loop_rounds 1 ?_
  rw [rounds_succ]
  go_wp2
  refine wp_loop_rounds 1 ?_
  rw [rounds_succ]
  go_wp2
  go_ret
  exact ⟨rfl, rfl⟩

set_option maxHeartbeats 2000000 in
theorem markBools_nil {w : World} {b : Nat} {f : Nat → Value} (h : Bk w b f) (hn : Nil9 f 22) :
    Calls Tryd.prog 56 #[.pointer (some ⟨b, 0, none⟩)] w fun e w' => e = .returned (.tuple #[]) ∧ w = w' := by
  have c2 := h.cell (22 + 2)
  have c3 := h.cell (22 + 3)
  have c5 := h.cell (22 + 5)
  have c6 := h.cell (22 + 6)
  rw [hn.c2] at c2
  rw [hn.c3] at c3
  rw [hn.c5] at c5
  rw [hn.c6] at c6
  clear h hn
  go_enter Tryd.func56, Tryd.ntmps56
  go_wp2
  go_returns
  exact ⟨rfl, rfl⟩

set_option maxHeartbeats 2000000 in
theorem growBools_nil {w : World} {b : Nat} {f : Nat → Value} (h : Bk w b f) (hn : Nil9 f 22) :
    Calls Tryd.prog 69 #[.pointer (some ⟨b, 0, none⟩)] w fun e w' => e = .returned (.tuple #[]) ∧ Bk w' b f ∧ Touch [b] w w' := by
  have c4 := h.cell (22 + 4)
  have c7 := h.cell (22 + 7)
  have f4 := h.frozen (22 + 4)
  have f7 := h.frozen (22 + 7)
  rw [hn.c4] at c4
  rw [hn.c7] at c7
  have h1 := h.set (22 + 4) (.slice none 0 0)
  rw [put_self f (22 + 4) _ hn.c4] at h1
  have h2 := h1.set (22 + 7) (.slice none 0 0)
  rw [put_self f (22 + 7) _ hn.c7] at h2
  have HK : Hid (Bk _ b f) := h2
  clear h h1 h2 hn
  go_enter Tryd.func69, Tryd.ntmps69
  go_wp2
  refine wp_loop_rounds 1 ?_
  rw [rounds_succ]
  go_wp2
  go_returns
  exact ⟨rfl, HK.out, (Touch.setCell _ _ _ (by simp)).trans (Touch.setCell _ _ _ (by simp))⟩

set_option maxHeartbeats 2000000 in
theorem holdBools_nil {w : World} {b : Nat} {f : Nat → Value} (h : Bk w b f) (hn : Nil9 f 22) :
    Calls Tryd.prog 25 #[.pointer (some ⟨b, 0, none⟩)] w fun e w' => e = .returned (.bool true) ∧ w = w' := by
  have c0 := h.cell (22 + 0)
  have c2 := h.cell (22 + 2)
  rw [hn.c0] at c0
  rw [hn.c2] at c2
  clear h hn
  go_enter Tryd.func25, Tryd.ntmps25
  go_wp2
  refine wp_loop_rounds 1 ?_
  rw [rounds_succ]
  go_wp2
  refine wp_loop_rounds 1 ?_
  rw [rounds_succ]
  go_wp2
  go_ret
  exact ⟨rfl, rfl⟩

set_option maxHeartbeats 2000000 in
theorem markWords_nil {w : World} {b : Nat} {f : Nat → Value} (h : Bk w b f) (hn : Nil9 f 31) :
    Calls Tryd.prog 57 #[.pointer (some ⟨b, 0, none⟩)] w fun e w' => e = .returned (.tuple #[]) ∧ w = w' := by
  have c2 := h.cell (31 + 2)
  have c3 := h.cell (31 + 3)
  have c5 := h.cell (31 + 5)
  have c6 := h.cell (31 + 6)
  rw [hn.c2] at c2
  rw [hn.c3] at c3
  rw [hn.c5] at c5
  rw [hn.c6] at c6
  clear h hn
  go_enter Tryd.func57, Tryd.ntmps57
  go_wp2
  go_returns
  exact ⟨rfl, rfl⟩

set_option maxHeartbeats 2000000 in
theorem growWords_nil {w : World} {b : Nat} {f : Nat → Value} (h : Bk w b f) (hn : Nil9 f 31) :
    Calls Tryd.prog 70 #[.pointer (some ⟨b, 0, none⟩)] w fun e w' => e = .returned (.tuple #[]) ∧ Bk w' b f ∧ Touch [b] w w' := by
  have c4 := h.cell (31 + 4)
  have c7 := h.cell (31 + 7)
  have f4 := h.frozen (31 + 4)
  have f7 := h.frozen (31 + 7)
  rw [hn.c4] at c4
  rw [hn.c7] at c7
  have h1 := h.set (31 + 4) (.slice none 0 0)
  rw [put_self f (31 + 4) _ hn.c4] at h1
  have h2 := h1.set (31 + 7) (.slice none 0 0)
  rw [put_self f (31 + 7) _ hn.c7] at h2
  have HK : Hid (Bk _ b f) := h2
  clear h h1 h2 hn
  go_enter Tryd.func70, Tryd.ntmps70
  go_wp2
  refine wp_loop_rounds 1 ?_
  rw [rounds_succ]
  go_wp2
  go_returns
  exact ⟨rfl, HK.out, (Touch.setCell _ _ _ (by simp)).trans (Touch.setCell _ _ _ (by simp))⟩

set_option maxHeartbeats 2000000 in
theorem holdWords_nil {w : World} {b : Nat} {f : Nat → Value} (h : Bk w b f) (hn : Nil9 f 31) :
    Calls Tryd.prog 26 #[.pointer (some ⟨b, 0, none⟩)] w fun e w' => e = .returned (.bool true) ∧ w = w' := by
  have c0 := h.cell (31 + 0)
  have c2 := h.cell (31 + 2)
  rw [hn.c0] at c0
  rw [hn.c2] at c2
  clear h hn
  go_enter Tryd.func26, Tryd.ntmps26
  go_wp2
  refine wp_loop_rounds 1 ?_
  rw [rounds_succ]
  go_wp2
  refine wp_loop_rounds 1 ?_
  rw [rounds_succ]
  go_wp2
  go_ret
  exact ⟨rfl, rfl⟩

set_option maxHeartbeats 2000000 in
theorem markTexts_nil {w : World} {b : Nat} {f : Nat → Value} (h : Bk w b f) (hn : Nil9 f 40) :
    Calls Tryd.prog 58 #[.pointer (some ⟨b, 0, none⟩)] w fun e w' => e = .returned (.tuple #[]) ∧ w = w' := by
  have c2 := h.cell (40 + 2)
  have c3 := h.cell (40 + 3)
  have c5 := h.cell (40 + 5)
  have c6 := h.cell (40 + 6)
  rw [hn.c2] at c2
  rw [hn.c3] at c3
  rw [hn.c5] at c5
  rw [hn.c6] at c6
  clear h hn
  go_enter Tryd.func58, Tryd.ntmps58
  go_wp2
  go_returns
  exact ⟨rfl, rfl⟩

set_option maxHeartbeats 2000000 in
theorem growTexts_nil {w : World} {b : Nat} {f : Nat → Value} (h : Bk w b f) (hn : Nil9 f 40) :
    Calls Tryd.prog 71 #[.pointer (some ⟨b, 0, none⟩)] w fun e w' => e = .returned (.tuple #[]) ∧ Bk w' b f ∧ Touch [b] w w' := by
  have c4 := h.cell (40 + 4)
  have c7 := h.cell (40 + 7)
  have f4 := h.frozen (40 + 4)
  have f7 := h.frozen (40 + 7)
  rw [hn.c4] at c4
  rw [hn.c7] at c7
  have h1 := h.set (40 + 4) (.slice none 0 0)
  rw [put_self f (40 + 4) _ hn.c4] at h1
  have h2 := h1.set (40 + 7) (.slice none 0 0)
  rw [put_self f (40 + 7) _ hn.c7] at h2
  have HK : Hid (Bk _ b f) := h2
  clear h h1 h2 hn
  go_enter Tryd.func71, Tryd.ntmps71
  go_wp2
  refine wp_loop_rounds 1 ?_
  rw [rounds_succ]
  go_wp2
  go_returns
  exact ⟨rfl, HK.out, (Touch.setCell _ _ _ (by simp)).trans (Touch.setCell _ _ _ (by simp))⟩

set_option maxHeartbeats 2000000 in
theorem holdTexts_nil {w : World} {b : Nat} {f : Nat → Value} (h : Bk w b f) (hn : Nil9 f 40) :
    Calls Tryd.prog 27 #[.pointer (some ⟨b, 0, none⟩)] w fun e w' => e = .returned (.bool true) ∧ w = w' := by
  have c0 := h.cell (40 + 0)
  have c2 := h.cell (40 + 2)
  rw [hn.c0] at c0
  rw [hn.c2] at c2
  clear h hn
  go_enter Tryd.func27, Tryd.ntmps27
  go_wp2
  refine wp_loop_rounds 1 ?_
  rw [rounds_succ]
  go_wp2
  refine wp_loop_rounds 1 ?_
  rw [rounds_succ]
  go_wp2
  go_ret
  exact ⟨rfl, rfl⟩

set_option maxHeartbeats 2000000 in
theorem markMoves_nil {w : World} {b : Nat} {f : Nat → Value} (h : Bk w b f) (hn : Nil9 f 49) :
    Calls Tryd.prog 59 #[.pointer (some ⟨b, 0, none⟩)] w fun e w' => e = .returned (.tuple #[]) ∧ w = w' := by
  have c2 := h.cell (49 + 2)
  have c3 := h.cell (49 + 3)
  have c5 := h.cell (49 + 5)
  have c6 := h.cell (49 + 6)
  rw [hn.c2] at c2
  rw [hn.c3] at c3
  rw [hn.c5] at c5
  rw [hn.c6] at c6
  clear h hn
  go_enter Tryd.func59, Tryd.ntmps59
  go_wp2
  go_returns
  exact ⟨rfl, rfl⟩

set_option maxHeartbeats 2000000 in
theorem growMoves_nil {w : World} {b : Nat} {f : Nat → Value} (h : Bk w b f) (hn : Nil9 f 49) :
    Calls Tryd.prog 72 #[.pointer (some ⟨b, 0, none⟩)] w fun e w' => e = .returned (.tuple #[]) ∧ Bk w' b f ∧ Touch [b] w w' := by
  have c4 := h.cell (49 + 4)
  have c7 := h.cell (49 + 7)
  have f4 := h.frozen (49 + 4)
  have f7 := h.frozen (49 + 7)
  rw [hn.c4] at c4
  rw [hn.c7] at c7
  have h1 := h.set (49 + 4) (.slice none 0 0)
  rw [put_self f (49 + 4) _ hn.c4] at h1
  have h2 := h1.set (49 + 7) (.slice none 0 0)
  rw [put_self f (49 + 7) _ hn.c7] at h2
  have HK : Hid (Bk _ b f) := h2
  clear h h1 h2 hn
  go_enter Tryd.func72, Tryd.ntmps72
  go_wp2
  refine wp_loop_rounds 1 ?_
  rw [rounds_succ]
  go_wp2
  go_returns
  exact ⟨rfl, HK.out, (Touch.setCell _ _ _ (by simp)).trans (Touch.setCell _ _ _ (by simp))⟩

set_option maxHeartbeats 2000000 in
theorem holdMoves_nil {w : World} {b : Nat} {f : Nat → Value} (h : Bk w b f) (hn : Nil9 f 49) :
    Calls Tryd.prog 28 #[.pointer (some ⟨b, 0, none⟩)] w fun e w' => e = .returned (.bool true) ∧ w = w' := by
  have c0 := h.cell (49 + 0)
  have c2 := h.cell (49 + 2)
  rw [hn.c0] at c0
  rw [hn.c2] at c2
  clear h hn
  go_enter Tryd.func28, Tryd.ntmps28
  go_wp2
  refine wp_loop_rounds 1 ?_
  rw [rounds_succ]
  go_wp2
  refine wp_loop_rounds 1 ?_
  rw [rounds_succ]
  go_wp2
  go_ret
  exact ⟨rfl, rfl⟩

set_option maxHeartbeats 2000000 in
theorem markSites_nil {w : World} {b : Nat} {f : Nat → Value} (h : Bk w b f) (hn : Nil9 f 58) :
    Calls Tryd.prog 60 #[.pointer (some ⟨b, 0, none⟩)] w fun e w' => e = .returned (.tuple #[]) ∧ w = w' := by
  have c2 := h.cell (58 + 2)
  have c3 := h.cell (58 + 3)
  have c5 := h.cell (58 + 5)
  have c6 := h.cell (58 + 6)
  rw [hn.c2] at c2
  rw [hn.c3] at c3
  rw [hn.c5] at c5
  rw [hn.c6] at c6
  clear h hn
  go_enter Tryd.func60, Tryd.ntmps60
  go_wp2
  go_returns
  exact ⟨rfl, rfl⟩

set_option maxHeartbeats 2000000 in
theorem growSites_nil {w : World} {b : Nat} {f : Nat → Value} (h : Bk w b f) (hn : Nil9 f 58) :
    Calls Tryd.prog 73 #[.pointer (some ⟨b, 0, none⟩)] w fun e w' => e = .returned (.tuple #[]) ∧ Bk w' b f ∧ Touch [b] w w' := by
  have c4 := h.cell (58 + 4)
  have c7 := h.cell (58 + 7)
  have f4 := h.frozen (58 + 4)
  have f7 := h.frozen (58 + 7)
  rw [hn.c4] at c4
  rw [hn.c7] at c7
  have h1 := h.set (58 + 4) (.slice none 0 0)
  rw [put_self f (58 + 4) _ hn.c4] at h1
  have h2 := h1.set (58 + 7) (.slice none 0 0)
  rw [put_self f (58 + 7) _ hn.c7] at h2
  have HK : Hid (Bk _ b f) := h2
  clear h h1 h2 hn
  go_enter Tryd.func73, Tryd.ntmps73
  go_wp2
  refine wp_loop_rounds 1 ?_
  rw [rounds_succ]
  go_wp2
  go_returns
  exact ⟨rfl, HK.out, (Touch.setCell _ _ _ (by simp)).trans (Touch.setCell _ _ _ (by simp))⟩

set_option maxHeartbeats 2000000 in
theorem holdSites_nil {w : World} {b : Nat} {f : Nat → Value} (h : Bk w b f) (hn : Nil9 f 58) :
    Calls Tryd.prog 29 #[.pointer (some ⟨b, 0, none⟩)] w fun e w' => e = .returned (.bool true) ∧ w = w' := by
  have c0 := h.cell (58 + 0)
  have c2 := h.cell (58 + 2)
  rw [hn.c0] at c0
  rw [hn.c2] at c2
  clear h hn
  go_enter Tryd.func29, Tryd.ntmps29
  go_wp2
  refine wp_loop_rounds 1 ?_
  rw [rounds_succ]
  go_wp2
  refine wp_loop_rounds 1 ?_
  rw [rounds_succ]
  go_wp2
  go_ret
  exact ⟨rfl, rfl⟩

set_option maxHeartbeats 2000000 in
theorem markGrowths_nil {w : World} {b : Nat} {f : Nat → Value} (h : Bk w b f) (hn : Nil9 f 67) :
    Calls Tryd.prog 61 #[.pointer (some ⟨b, 0, none⟩)] w fun e w' => e = .returned (.tuple #[]) ∧ w = w' := by
  have c2 := h.cell (67 + 2)
  have c3 := h.cell (67 + 3)
  have c5 := h.cell (67 + 5)
  have c6 := h.cell (67 + 6)
  rw [hn.c2] at c2
  rw [hn.c3] at c3
  rw [hn.c5] at c5
  rw [hn.c6] at c6
  clear h hn
  go_enter Tryd.func61, Tryd.ntmps61
  go_wp2
  go_returns
  exact ⟨rfl, rfl⟩

set_option maxHeartbeats 2000000 in
theorem growGrowths_nil {w : World} {b : Nat} {f : Nat → Value} (h : Bk w b f) (hn : Nil9 f 67) :
    Calls Tryd.prog 74 #[.pointer (some ⟨b, 0, none⟩)] w fun e w' => e = .returned (.tuple #[]) ∧ Bk w' b f ∧ Touch [b] w w' := by
  have c4 := h.cell (67 + 4)
  have c7 := h.cell (67 + 7)
  have f4 := h.frozen (67 + 4)
  have f7 := h.frozen (67 + 7)
  rw [hn.c4] at c4
  rw [hn.c7] at c7
  have h1 := h.set (67 + 4) (.slice none 0 0)
  rw [put_self f (67 + 4) _ hn.c4] at h1
  have h2 := h1.set (67 + 7) (.slice none 0 0)
  rw [put_self f (67 + 7) _ hn.c7] at h2
  have HK : Hid (Bk _ b f) := h2
  clear h h1 h2 hn
  go_enter Tryd.func74, Tryd.ntmps74
  go_wp2
  refine wp_loop_rounds 1 ?_
  rw [rounds_succ]
  go_wp2
  go_returns
  exact ⟨rfl, HK.out, (Touch.setCell _ _ _ (by simp)).trans (Touch.setCell _ _ _ (by simp))⟩

set_option maxHeartbeats 2000000 in
theorem holdGrowths_nil {w : World} {b : Nat} {f : Nat → Value} (h : Bk w b f) (hn : Nil9 f 67) :
    Calls Tryd.prog 30 #[.pointer (some ⟨b, 0, none⟩)] w fun e w' => e = .returned (.bool true) ∧ w = w' := by
  have c0 := h.cell (67 + 0)
  have c2 := h.cell (67 + 2)
  rw [hn.c0] at c0
  rw [hn.c2] at c2
  clear h hn
  go_enter Tryd.func30, Tryd.ntmps30
  go_wp2
  refine wp_loop_rounds 1 ?_
  rw [rounds_succ]
  go_wp2
  refine wp_loop_rounds 1 ?_
  rw [rounds_succ]
  go_wp2
  go_ret
  exact ⟨rfl, rfl⟩

set_option maxHeartbeats 2000000 in
theorem markOps_nil {w : World} {b : Nat} {f : Nat → Value} (h : Bk w b f) (hn : Nil9 f 76) :
    Calls Tryd.prog 62 #[.pointer (some ⟨b, 0, none⟩)] w fun e w' => e = .returned (.tuple #[]) ∧ w = w' := by
  have c2 := h.cell (76 + 2)
  have c3 := h.cell (76 + 3)
  have c5 := h.cell (76 + 5)
  have c6 := h.cell (76 + 6)
  rw [hn.c2] at c2
  rw [hn.c3] at c3
  rw [hn.c5] at c5
  rw [hn.c6] at c6
  clear h hn
  go_enter Tryd.func62, Tryd.ntmps62
  go_wp2
  go_returns
  exact ⟨rfl, rfl⟩

set_option maxHeartbeats 2000000 in
theorem growOps_nil {w : World} {b : Nat} {f : Nat → Value} (h : Bk w b f) (hn : Nil9 f 76) :
    Calls Tryd.prog 75 #[.pointer (some ⟨b, 0, none⟩)] w fun e w' => e = .returned (.tuple #[]) ∧ Bk w' b f ∧ Touch [b] w w' := by
  have c4 := h.cell (76 + 4)
  have c7 := h.cell (76 + 7)
  have f4 := h.frozen (76 + 4)
  have f7 := h.frozen (76 + 7)
  rw [hn.c4] at c4
  rw [hn.c7] at c7
  have h1 := h.set (76 + 4) (.slice none 0 0)
  rw [put_self f (76 + 4) _ hn.c4] at h1
  have h2 := h1.set (76 + 7) (.slice none 0 0)
  rw [put_self f (76 + 7) _ hn.c7] at h2
  have HK : Hid (Bk _ b f) := h2
  clear h h1 h2 hn
  go_enter Tryd.func75, Tryd.ntmps75
  go_wp2
  refine wp_loop_rounds 1 ?_
  rw [rounds_succ]
  go_wp2
  go_returns
  exact ⟨rfl, HK.out, (Touch.setCell _ _ _ (by simp)).trans (Touch.setCell _ _ _ (by simp))⟩

set_option maxHeartbeats 2000000 in
theorem holdOps_nil {w : World} {b : Nat} {f : Nat → Value} (h : Bk w b f) (hn : Nil9 f 76) :
    Calls Tryd.prog 31 #[.pointer (some ⟨b, 0, none⟩)] w fun e w' => e = .returned (.bool true) ∧ w = w' := by
  have c0 := h.cell (76 + 0)
  have c2 := h.cell (76 + 2)
  rw [hn.c0] at c0
  rw [hn.c2] at c2
  clear h hn
  go_enter Tryd.func31, Tryd.ntmps31
  go_wp2
  refine wp_loop_rounds 1 ?_
  rw [rounds_succ]
  go_wp2
  refine wp_loop_rounds 1 ?_
  rw [rounds_succ]
  go_wp2
  go_ret
  exact ⟨rfl, rfl⟩

set_option maxHeartbeats 2000000 in
theorem markIntLists_nil {w : World} {b : Nat} {f : Nat → Value} (h : Bk w b f) (hn : Nil9 f 85) :
    Calls Tryd.prog 63 #[.pointer (some ⟨b, 0, none⟩)] w fun e w' => e = .returned (.tuple #[]) ∧ w = w' := by
  have c2 := h.cell (85 + 2)
  have c3 := h.cell (85 + 3)
  have c5 := h.cell (85 + 5)
  have c6 := h.cell (85 + 6)
  rw [hn.c2] at c2
  rw [hn.c3] at c3
  rw [hn.c5] at c5
  rw [hn.c6] at c6
  clear h hn
  go_enter Tryd.func63, Tryd.ntmps63
  go_wp2
  go_returns
  exact ⟨rfl, rfl⟩

set_option maxHeartbeats 2000000 in
theorem growIntLists_nil {w : World} {b : Nat} {f : Nat → Value} (h : Bk w b f) (hn : Nil9 f 85) :
    Calls Tryd.prog 76 #[.pointer (some ⟨b, 0, none⟩)] w fun e w' => e = .returned (.tuple #[]) ∧ Bk w' b f ∧ Touch [b] w w' := by
  have c4 := h.cell (85 + 4)
  have c7 := h.cell (85 + 7)
  have f4 := h.frozen (85 + 4)
  have f7 := h.frozen (85 + 7)
  rw [hn.c4] at c4
  rw [hn.c7] at c7
  have h1 := h.set (85 + 4) (.slice none 0 0)
  rw [put_self f (85 + 4) _ hn.c4] at h1
  have h2 := h1.set (85 + 7) (.slice none 0 0)
  rw [put_self f (85 + 7) _ hn.c7] at h2
  have HK : Hid (Bk _ b f) := h2
  clear h h1 h2 hn
  go_enter Tryd.func76, Tryd.ntmps76
  go_wp2
  refine wp_loop_rounds 1 ?_
  rw [rounds_succ]
  go_wp2
  go_returns
  exact ⟨rfl, HK.out, (Touch.setCell _ _ _ (by simp)).trans (Touch.setCell _ _ _ (by simp))⟩

set_option maxHeartbeats 2000000 in
theorem holdIntLists_nil {w : World} {b : Nat} {f : Nat → Value} (h : Bk w b f) (hn : Nil9 f 85) :
    Calls Tryd.prog 32 #[.pointer (some ⟨b, 0, none⟩)] w fun e w' => e = .returned (.bool true) ∧ w = w' := by
  have c0 := h.cell (85 + 0)
  have c2 := h.cell (85 + 2)
  rw [hn.c0] at c0
  rw [hn.c2] at c2
  clear h hn
  go_enter Tryd.func32, Tryd.ntmps32
  go_wp2
  refine wp_loop_rounds 1 ?_
  rw [rounds_succ]
  go_wp2
  refine wp_loop_rounds 1 ?_
  rw [rounds_succ]
  go_wp2
  go_ret
  exact ⟨rfl, rfl⟩

set_option maxHeartbeats 2000000 in
theorem markWordLists_nil {w : World} {b : Nat} {f : Nat → Value} (h : Bk w b f) (hn : Nil9 f 94) :
    Calls Tryd.prog 64 #[.pointer (some ⟨b, 0, none⟩)] w fun e w' => e = .returned (.tuple #[]) ∧ w = w' := by
  have c2 := h.cell (94 + 2)
  have c3 := h.cell (94 + 3)
  have c5 := h.cell (94 + 5)
  have c6 := h.cell (94 + 6)
  rw [hn.c2] at c2
  rw [hn.c3] at c3
  rw [hn.c5] at c5
  rw [hn.c6] at c6
  clear h hn
  go_enter Tryd.func64, Tryd.ntmps64
  go_wp2
  go_returns
  exact ⟨rfl, rfl⟩

set_option maxHeartbeats 2000000 in
theorem growWordLists_nil {w : World} {b : Nat} {f : Nat → Value} (h : Bk w b f) (hn : Nil9 f 94) :
    Calls Tryd.prog 77 #[.pointer (some ⟨b, 0, none⟩)] w fun e w' => e = .returned (.tuple #[]) ∧ Bk w' b f ∧ Touch [b] w w' := by
  have c4 := h.cell (94 + 4)
  have c7 := h.cell (94 + 7)
  have f4 := h.frozen (94 + 4)
  have f7 := h.frozen (94 + 7)
  rw [hn.c4] at c4
  rw [hn.c7] at c7
  have h1 := h.set (94 + 4) (.slice none 0 0)
  rw [put_self f (94 + 4) _ hn.c4] at h1
  have h2 := h1.set (94 + 7) (.slice none 0 0)
  rw [put_self f (94 + 7) _ hn.c7] at h2
  have HK : Hid (Bk _ b f) := h2
  clear h h1 h2 hn
  go_enter Tryd.func77, Tryd.ntmps77
  go_wp2
  refine wp_loop_rounds 1 ?_
  rw [rounds_succ]
  go_wp2
  go_returns
  exact ⟨rfl, HK.out, (Touch.setCell _ _ _ (by simp)).trans (Touch.setCell _ _ _ (by simp))⟩

set_option maxHeartbeats 2000000 in
theorem holdWordLists_nil {w : World} {b : Nat} {f : Nat → Value} (h : Bk w b f) (hn : Nil9 f 94) :
    Calls Tryd.prog 33 #[.pointer (some ⟨b, 0, none⟩)] w fun e w' => e = .returned (.bool true) ∧ w = w' := by
  have c0 := h.cell (94 + 0)
  have c2 := h.cell (94 + 2)
  rw [hn.c0] at c0
  rw [hn.c2] at c2
  clear h hn
  go_enter Tryd.func33, Tryd.ntmps33
  go_wp2
  refine wp_loop_rounds 1 ?_
  rw [rounds_succ]
  go_wp2
  refine wp_loop_rounds 1 ?_
  rw [rounds_succ]
  go_wp2
  go_ret
  exact ⟨rfl, rfl⟩

set_option maxHeartbeats 2000000 in
theorem markFrames_nil {w : World} {b : Nat} {f : Nat → Value} (h : Bk w b f) (hn : Nil9 f 103) :
    Calls Tryd.prog 65 #[.pointer (some ⟨b, 0, none⟩)] w fun e w' => e = .returned (.tuple #[]) ∧ w = w' := by
  have c2 := h.cell (103 + 2)
  have c3 := h.cell (103 + 3)
  have c5 := h.cell (103 + 5)
  have c6 := h.cell (103 + 6)
  rw [hn.c2] at c2
  rw [hn.c3] at c3
  rw [hn.c5] at c5
  rw [hn.c6] at c6
  clear h hn
  go_enter Tryd.func65, Tryd.ntmps65
  go_wp2
  go_returns
  exact ⟨rfl, rfl⟩

set_option maxHeartbeats 2000000 in
theorem growFrames_nil {w : World} {b : Nat} {f : Nat → Value} (h : Bk w b f) (hn : Nil9 f 103) :
    Calls Tryd.prog 78 #[.pointer (some ⟨b, 0, none⟩)] w fun e w' => e = .returned (.tuple #[]) ∧ Bk w' b f ∧ Touch [b] w w' := by
  have c4 := h.cell (103 + 4)
  have c7 := h.cell (103 + 7)
  have f4 := h.frozen (103 + 4)
  have f7 := h.frozen (103 + 7)
  rw [hn.c4] at c4
  rw [hn.c7] at c7
  have h1 := h.set (103 + 4) (.slice none 0 0)
  rw [put_self f (103 + 4) _ hn.c4] at h1
  have h2 := h1.set (103 + 7) (.slice none 0 0)
  rw [put_self f (103 + 7) _ hn.c7] at h2
  have HK : Hid (Bk _ b f) := h2
  clear h h1 h2 hn
  go_enter Tryd.func78, Tryd.ntmps78
  go_wp2
  refine wp_loop_rounds 1 ?_
  rw [rounds_succ]
  go_wp2
  go_returns
  exact ⟨rfl, HK.out, (Touch.setCell _ _ _ (by simp)).trans (Touch.setCell _ _ _ (by simp))⟩

set_option maxHeartbeats 2000000 in
theorem holdFrames_nil {w : World} {b : Nat} {f : Nat → Value} (h : Bk w b f) (hn : Nil9 f 103) :
    Calls Tryd.prog 34 #[.pointer (some ⟨b, 0, none⟩)] w fun e w' => e = .returned (.bool true) ∧ w = w' := by
  have c0 := h.cell (103 + 0)
  have c2 := h.cell (103 + 2)
  rw [hn.c0] at c0
  rw [hn.c2] at c2
  clear h hn
  go_enter Tryd.func34, Tryd.ntmps34
  go_wp2
  refine wp_loop_rounds 1 ?_
  rw [rounds_succ]
  go_wp2
  refine wp_loop_rounds 1 ?_
  rw [rounds_succ]
  go_wp2
  go_ret
  exact ⟨rfl, rfl⟩

set_option maxHeartbeats 2000000 in
theorem markObjects_nil {w : World} {b : Nat} {f : Nat → Value} (h : Bk w b f) (hn : Nil9 f 112) :
    Calls Tryd.prog 66 #[.pointer (some ⟨b, 0, none⟩)] w fun e w' => e = .returned (.tuple #[]) ∧ w = w' := by
  have c2 := h.cell (112 + 2)
  have c3 := h.cell (112 + 3)
  have c5 := h.cell (112 + 5)
  have c6 := h.cell (112 + 6)
  rw [hn.c2] at c2
  rw [hn.c3] at c3
  rw [hn.c5] at c5
  rw [hn.c6] at c6
  clear h hn
  go_enter Tryd.func66, Tryd.ntmps66
  go_wp2
  go_returns
  exact ⟨rfl, rfl⟩

set_option maxHeartbeats 2000000 in
theorem growObjects_nil {w : World} {b : Nat} {f : Nat → Value} (h : Bk w b f) (hn : Nil9 f 112) :
    Calls Tryd.prog 79 #[.pointer (some ⟨b, 0, none⟩)] w fun e w' => e = .returned (.tuple #[]) ∧ Bk w' b f ∧ Touch [b] w w' := by
  have c4 := h.cell (112 + 4)
  have c7 := h.cell (112 + 7)
  have f4 := h.frozen (112 + 4)
  have f7 := h.frozen (112 + 7)
  rw [hn.c4] at c4
  rw [hn.c7] at c7
  have h1 := h.set (112 + 4) (.slice none 0 0)
  rw [put_self f (112 + 4) _ hn.c4] at h1
  have h2 := h1.set (112 + 7) (.slice none 0 0)
  rw [put_self f (112 + 7) _ hn.c7] at h2
  have HK : Hid (Bk _ b f) := h2
  clear h h1 h2 hn
  go_enter Tryd.func79, Tryd.ntmps79
  go_wp2
  refine wp_loop_rounds 1 ?_
  rw [rounds_succ]
  go_wp2
  go_returns
  exact ⟨rfl, HK.out, (Touch.setCell _ _ _ (by simp)).trans (Touch.setCell _ _ _ (by simp))⟩

set_option maxHeartbeats 2000000 in
theorem holdObjects_nil {w : World} {b : Nat} {f : Nat → Value} (h : Bk w b f) (hn : Nil9 f 112) :
    Calls Tryd.prog 35 #[.pointer (some ⟨b, 0, none⟩)] w fun e w' => e = .returned (.bool true) ∧ w = w' := by
  have c0 := h.cell (112 + 0)
  have c2 := h.cell (112 + 2)
  rw [hn.c0] at c0
  rw [hn.c2] at c2
  clear h hn
  go_enter Tryd.func35, Tryd.ntmps35
  go_wp2
  refine wp_loop_rounds 1 ?_
  rw [rounds_succ]
  go_wp2
  refine wp_loop_rounds 1 ?_
  rw [rounds_succ]
  go_wp2
  go_ret
  exact ⟨rfl, rfl⟩

end Go.Proofs.YtdcmpilgfkaamaaDoor
