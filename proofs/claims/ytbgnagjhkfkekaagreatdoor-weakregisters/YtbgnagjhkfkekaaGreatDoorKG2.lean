/-
  The kinds of which the book keeps nothing.
-/
import Derived.Test.YtbgnagjhkfkekaaGreatDoorKG1
set_option linter.unusedVariables false
set_option maxRecDepth 20000
namespace Go.Proofs.YtbgnagjhkfkekaaGreatDoor.Kg
open Go.RowKit

set_option maxHeartbeats 2000000 in
theorem markBytes_nil {w : World} {b : Nat} {f : Nat → Value} (h : Bk w b f) (hn : Nil9 f 4) :
    Calls Tryz.prog 102 #[.pointer (some ⟨b, 0, none⟩)] w fun e w' => e = .returned (.tuple #[]) ∧ w = w' := by
  have c2 := h.cell (4 + 2)
  have c3 := h.cell (4 + 3)
  have c5 := h.cell (4 + 5)
  have c6 := h.cell (4 + 6)
  rw [hn.c2] at c2
  rw [hn.c3] at c3
  rw [hn.c5] at c5
  rw [hn.c6] at c6
  clear h hn
  go_enter Tryz.func102, Tryz.ntmps102
  go_wp2
  go_returns
  exact ⟨rfl, rfl⟩

set_option maxHeartbeats 2000000 in
theorem growBytes_nil {w : World} {b : Nat} {f : Nat → Value} (h : Bk w b f) (hn : Nil9 f 4) :
    Calls Tryz.prog 115 #[.pointer (some ⟨b, 0, none⟩)] w fun e w' => e = .returned (.tuple #[]) ∧ Bk w' b f ∧ Touch [b] w w' := by
  have c4 := h.cell (4 + 4)
  have c7 := h.cell (4 + 7)
  have f4 := h.frozen (4 + 4)
  have f7 := h.frozen (4 + 7)
  rw [hn.c4] at c4
  rw [hn.c7] at c7
  have h1 := h.set (4 + 4) (.slice none 0 0)
  rw [put_self f (4 + 4) _ hn.c4] at h1
  have h2 := h1.set (4 + 7) (.slice none 0 0)
  rw [put_self f (4 + 7) _ hn.c7] at h2
  have HK : Hid (Bk _ b f) := h2
  clear h h1 h2 hn
  go_enter Tryz.func115, Tryz.ntmps115
  go_wp2
  refine wp_loop_rounds 1 ?_
  rw [rounds_succ]
  go_wp2
  go_returns
  exact ⟨rfl, HK.out, (Touch.setCell _ _ _ (by simp)).trans (Touch.setCell _ _ _ (by simp))⟩

set_option maxHeartbeats 2000000 in
theorem holdBytes_nil {w : World} {b : Nat} {f : Nat → Value} (h : Bk w b f) (hn : Nil9 f 4) :
    Calls Tryz.prog 38 #[.pointer (some ⟨b, 0, none⟩)] w fun e w' => e = .returned (.bool true) ∧ w = w' := by
  have c0 := h.cell (4 + 0)
  have c2 := h.cell (4 + 2)
  rw [hn.c0] at c0
  rw [hn.c2] at c2
  clear h hn
  go_enter Tryz.func38, Tryz.ntmps38
  go_wp2
  refine wp_loop_rounds 1 ?_
  rw [rounds_succ]
  go_wp2
  refine wp_loop_rounds 1 ?_
  rw [rounds_succ]
  go_wp2
  go_ret
  exact ⟨rfl, rfl⟩

set_option maxHeartbeats 2000000 in
theorem markBools_nil {w : World} {b : Nat} {f : Nat → Value} (h : Bk w b f) (hn : Nil9 f 22) :
    Calls Tryz.prog 104 #[.pointer (some ⟨b, 0, none⟩)] w fun e w' => e = .returned (.tuple #[]) ∧ w = w' := by
  have c2 := h.cell (22 + 2)
  have c3 := h.cell (22 + 3)
  have c5 := h.cell (22 + 5)
  have c6 := h.cell (22 + 6)
  rw [hn.c2] at c2
  rw [hn.c3] at c3
  rw [hn.c5] at c5
  rw [hn.c6] at c6
  clear h hn
  go_enter Tryz.func104, Tryz.ntmps104
  go_wp2
  go_returns
  exact ⟨rfl, rfl⟩

set_option maxHeartbeats 2000000 in
theorem growBools_nil {w : World} {b : Nat} {f : Nat → Value} (h : Bk w b f) (hn : Nil9 f 22) :
    Calls Tryz.prog 117 #[.pointer (some ⟨b, 0, none⟩)] w fun e w' => e = .returned (.tuple #[]) ∧ Bk w' b f ∧ Touch [b] w w' := by
  have c4 := h.cell (22 + 4)
  have c7 := h.cell (22 + 7)
  have f4 := h.frozen (22 + 4)
  have f7 := h.frozen (22 + 7)
  rw [hn.c4] at c4
  rw [hn.c7] at c7
  have h1 := h.set (22 + 4) (.slice none 0 0)
  rw [put_self f (22 + 4) _ hn.c4] at h1
  have h2 := h1.set (22 + 7) (.slice none 0 0)
  rw [put_self f (22 + 7) _ hn.c7] at h2
  have HK : Hid (Bk _ b f) := h2
  clear h h1 h2 hn
  go_enter Tryz.func117, Tryz.ntmps117
  go_wp2
  refine wp_loop_rounds 1 ?_
  rw [rounds_succ]
  go_wp2
  go_returns
  exact ⟨rfl, HK.out, (Touch.setCell _ _ _ (by simp)).trans (Touch.setCell _ _ _ (by simp))⟩

set_option maxHeartbeats 2000000 in
theorem holdBools_nil {w : World} {b : Nat} {f : Nat → Value} (h : Bk w b f) (hn : Nil9 f 22) :
    Calls Tryz.prog 40 #[.pointer (some ⟨b, 0, none⟩)] w fun e w' => e = .returned (.bool true) ∧ w = w' := by
  have c0 := h.cell (22 + 0)
  have c2 := h.cell (22 + 2)
  rw [hn.c0] at c0
  rw [hn.c2] at c2
  clear h hn
  go_enter Tryz.func40, Tryz.ntmps40
  go_wp2
  refine wp_loop_rounds 1 ?_
  rw [rounds_succ]
  go_wp2
  refine wp_loop_rounds 1 ?_
  rw [rounds_succ]
  go_wp2
  go_ret
  exact ⟨rfl, rfl⟩

set_option maxHeartbeats 2000000 in
theorem markWords_nil {w : World} {b : Nat} {f : Nat → Value} (h : Bk w b f) (hn : Nil9 f 31) :
    Calls Tryz.prog 105 #[.pointer (some ⟨b, 0, none⟩)] w fun e w' => e = .returned (.tuple #[]) ∧ w = w' := by
  have c2 := h.cell (31 + 2)
  have c3 := h.cell (31 + 3)
  have c5 := h.cell (31 + 5)
  have c6 := h.cell (31 + 6)
  rw [hn.c2] at c2
  rw [hn.c3] at c3
  rw [hn.c5] at c5
  rw [hn.c6] at c6
  clear h hn
  go_enter Tryz.func105, Tryz.ntmps105
  go_wp2
  go_returns
  exact ⟨rfl, rfl⟩

set_option maxHeartbeats 2000000 in
theorem growWords_nil {w : World} {b : Nat} {f : Nat → Value} (h : Bk w b f) (hn : Nil9 f 31) :
    Calls Tryz.prog 118 #[.pointer (some ⟨b, 0, none⟩)] w fun e w' => e = .returned (.tuple #[]) ∧ Bk w' b f ∧ Touch [b] w w' := by
  have c4 := h.cell (31 + 4)
  have c7 := h.cell (31 + 7)
  have f4 := h.frozen (31 + 4)
  have f7 := h.frozen (31 + 7)
  rw [hn.c4] at c4
  rw [hn.c7] at c7
  have h1 := h.set (31 + 4) (.slice none 0 0)
  rw [put_self f (31 + 4) _ hn.c4] at h1
  have h2 := h1.set (31 + 7) (.slice none 0 0)
  rw [put_self f (31 + 7) _ hn.c7] at h2
  have HK : Hid (Bk _ b f) := h2
  clear h h1 h2 hn
  go_enter Tryz.func118, Tryz.ntmps118
  go_wp2
  refine wp_loop_rounds 1 ?_
  rw [rounds_succ]
  go_wp2
  go_returns
  exact ⟨rfl, HK.out, (Touch.setCell _ _ _ (by simp)).trans (Touch.setCell _ _ _ (by simp))⟩

set_option maxHeartbeats 2000000 in
theorem holdWords_nil {w : World} {b : Nat} {f : Nat → Value} (h : Bk w b f) (hn : Nil9 f 31) :
    Calls Tryz.prog 41 #[.pointer (some ⟨b, 0, none⟩)] w fun e w' => e = .returned (.bool true) ∧ w = w' := by
  have c0 := h.cell (31 + 0)
  have c2 := h.cell (31 + 2)
  rw [hn.c0] at c0
  rw [hn.c2] at c2
  clear h hn
  go_enter Tryz.func41, Tryz.ntmps41
  go_wp2
  refine wp_loop_rounds 1 ?_
  rw [rounds_succ]
  go_wp2
  refine wp_loop_rounds 1 ?_
  rw [rounds_succ]
  go_wp2
  go_ret
  exact ⟨rfl, rfl⟩

set_option maxHeartbeats 2000000 in
theorem markTexts_nil {w : World} {b : Nat} {f : Nat → Value} (h : Bk w b f) (hn : Nil9 f 40) :
    Calls Tryz.prog 106 #[.pointer (some ⟨b, 0, none⟩)] w fun e w' => e = .returned (.tuple #[]) ∧ w = w' := by
  have c2 := h.cell (40 + 2)
  have c3 := h.cell (40 + 3)
  have c5 := h.cell (40 + 5)
  have c6 := h.cell (40 + 6)
  rw [hn.c2] at c2
  rw [hn.c3] at c3
  rw [hn.c5] at c5
  rw [hn.c6] at c6
  clear h hn
  go_enter Tryz.func106, Tryz.ntmps106
  go_wp2
  go_returns
  exact ⟨rfl, rfl⟩

set_option maxHeartbeats 2000000 in
theorem growTexts_nil {w : World} {b : Nat} {f : Nat → Value} (h : Bk w b f) (hn : Nil9 f 40) :
    Calls Tryz.prog 119 #[.pointer (some ⟨b, 0, none⟩)] w fun e w' => e = .returned (.tuple #[]) ∧ Bk w' b f ∧ Touch [b] w w' := by
  have c4 := h.cell (40 + 4)
  have c7 := h.cell (40 + 7)
  have f4 := h.frozen (40 + 4)
  have f7 := h.frozen (40 + 7)
  rw [hn.c4] at c4
  rw [hn.c7] at c7
  have h1 := h.set (40 + 4) (.slice none 0 0)
  rw [put_self f (40 + 4) _ hn.c4] at h1
  have h2 := h1.set (40 + 7) (.slice none 0 0)
  rw [put_self f (40 + 7) _ hn.c7] at h2
  have HK : Hid (Bk _ b f) := h2
  clear h h1 h2 hn
  go_enter Tryz.func119, Tryz.ntmps119
  go_wp2
  refine wp_loop_rounds 1 ?_
  rw [rounds_succ]
  go_wp2
  go_returns
  exact ⟨rfl, HK.out, (Touch.setCell _ _ _ (by simp)).trans (Touch.setCell _ _ _ (by simp))⟩

set_option maxHeartbeats 2000000 in
theorem holdTexts_nil {w : World} {b : Nat} {f : Nat → Value} (h : Bk w b f) (hn : Nil9 f 40) :
    Calls Tryz.prog 42 #[.pointer (some ⟨b, 0, none⟩)] w fun e w' => e = .returned (.bool true) ∧ w = w' := by
  have c0 := h.cell (40 + 0)
  have c2 := h.cell (40 + 2)
  rw [hn.c0] at c0
  rw [hn.c2] at c2
  clear h hn
  go_enter Tryz.func42, Tryz.ntmps42
  go_wp2
  refine wp_loop_rounds 1 ?_
  rw [rounds_succ]
  go_wp2
  refine wp_loop_rounds 1 ?_
  rw [rounds_succ]
  go_wp2
  go_ret
  exact ⟨rfl, rfl⟩

set_option maxHeartbeats 2000000 in
theorem markMoves_nil {w : World} {b : Nat} {f : Nat → Value} (h : Bk w b f) (hn : Nil9 f 49) :
    Calls Tryz.prog 107 #[.pointer (some ⟨b, 0, none⟩)] w fun e w' => e = .returned (.tuple #[]) ∧ w = w' := by
  have c2 := h.cell (49 + 2)
  have c3 := h.cell (49 + 3)
  have c5 := h.cell (49 + 5)
  have c6 := h.cell (49 + 6)
  rw [hn.c2] at c2
  rw [hn.c3] at c3
  rw [hn.c5] at c5
  rw [hn.c6] at c6
  clear h hn
  go_enter Tryz.func107, Tryz.ntmps107
  go_wp2
  go_returns
  exact ⟨rfl, rfl⟩

set_option maxHeartbeats 2000000 in
theorem growMoves_nil {w : World} {b : Nat} {f : Nat → Value} (h : Bk w b f) (hn : Nil9 f 49) :
    Calls Tryz.prog 120 #[.pointer (some ⟨b, 0, none⟩)] w fun e w' => e = .returned (.tuple #[]) ∧ Bk w' b f ∧ Touch [b] w w' := by
  have c4 := h.cell (49 + 4)
  have c7 := h.cell (49 + 7)
  have f4 := h.frozen (49 + 4)
  have f7 := h.frozen (49 + 7)
  rw [hn.c4] at c4
  rw [hn.c7] at c7
  have h1 := h.set (49 + 4) (.slice none 0 0)
  rw [put_self f (49 + 4) _ hn.c4] at h1
  have h2 := h1.set (49 + 7) (.slice none 0 0)
  rw [put_self f (49 + 7) _ hn.c7] at h2
  have HK : Hid (Bk _ b f) := h2
  clear h h1 h2 hn
  go_enter Tryz.func120, Tryz.ntmps120
  go_wp2
  refine wp_loop_rounds 1 ?_
  rw [rounds_succ]
  go_wp2
  go_returns
  exact ⟨rfl, HK.out, (Touch.setCell _ _ _ (by simp)).trans (Touch.setCell _ _ _ (by simp))⟩

set_option maxHeartbeats 2000000 in
theorem holdMoves_nil {w : World} {b : Nat} {f : Nat → Value} (h : Bk w b f) (hn : Nil9 f 49) :
    Calls Tryz.prog 43 #[.pointer (some ⟨b, 0, none⟩)] w fun e w' => e = .returned (.bool true) ∧ w = w' := by
  have c0 := h.cell (49 + 0)
  have c2 := h.cell (49 + 2)
  rw [hn.c0] at c0
  rw [hn.c2] at c2
  clear h hn
  go_enter Tryz.func43, Tryz.ntmps43
  go_wp2
  refine wp_loop_rounds 1 ?_
  rw [rounds_succ]
  go_wp2
  refine wp_loop_rounds 1 ?_
  rw [rounds_succ]
  go_wp2
  go_ret
  exact ⟨rfl, rfl⟩

set_option maxHeartbeats 2000000 in
theorem markSites_nil {w : World} {b : Nat} {f : Nat → Value} (h : Bk w b f) (hn : Nil9 f 58) :
    Calls Tryz.prog 108 #[.pointer (some ⟨b, 0, none⟩)] w fun e w' => e = .returned (.tuple #[]) ∧ w = w' := by
  have c2 := h.cell (58 + 2)
  have c3 := h.cell (58 + 3)
  have c5 := h.cell (58 + 5)
  have c6 := h.cell (58 + 6)
  rw [hn.c2] at c2
  rw [hn.c3] at c3
  rw [hn.c5] at c5
  rw [hn.c6] at c6
  clear h hn
  go_enter Tryz.func108, Tryz.ntmps108
  go_wp2
  go_returns
  exact ⟨rfl, rfl⟩

set_option maxHeartbeats 2000000 in
theorem growSites_nil {w : World} {b : Nat} {f : Nat → Value} (h : Bk w b f) (hn : Nil9 f 58) :
    Calls Tryz.prog 121 #[.pointer (some ⟨b, 0, none⟩)] w fun e w' => e = .returned (.tuple #[]) ∧ Bk w' b f ∧ Touch [b] w w' := by
  have c4 := h.cell (58 + 4)
  have c7 := h.cell (58 + 7)
  have f4 := h.frozen (58 + 4)
  have f7 := h.frozen (58 + 7)
  rw [hn.c4] at c4
  rw [hn.c7] at c7
  have h1 := h.set (58 + 4) (.slice none 0 0)
  rw [put_self f (58 + 4) _ hn.c4] at h1
  have h2 := h1.set (58 + 7) (.slice none 0 0)
  rw [put_self f (58 + 7) _ hn.c7] at h2
  have HK : Hid (Bk _ b f) := h2
  clear h h1 h2 hn
  go_enter Tryz.func121, Tryz.ntmps121
  go_wp2
  refine wp_loop_rounds 1 ?_
  rw [rounds_succ]
  go_wp2
  go_returns
  exact ⟨rfl, HK.out, (Touch.setCell _ _ _ (by simp)).trans (Touch.setCell _ _ _ (by simp))⟩

set_option maxHeartbeats 2000000 in
theorem holdSites_nil {w : World} {b : Nat} {f : Nat → Value} (h : Bk w b f) (hn : Nil9 f 58) :
    Calls Tryz.prog 44 #[.pointer (some ⟨b, 0, none⟩)] w fun e w' => e = .returned (.bool true) ∧ w = w' := by
  have c0 := h.cell (58 + 0)
  have c2 := h.cell (58 + 2)
  rw [hn.c0] at c0
  rw [hn.c2] at c2
  clear h hn
  go_enter Tryz.func44, Tryz.ntmps44
  go_wp2
  refine wp_loop_rounds 1 ?_
  rw [rounds_succ]
  go_wp2
  refine wp_loop_rounds 1 ?_
  rw [rounds_succ]
  go_wp2
  go_ret
  exact ⟨rfl, rfl⟩

set_option maxHeartbeats 2000000 in
theorem markGrowths_nil {w : World} {b : Nat} {f : Nat → Value} (h : Bk w b f) (hn : Nil9 f 67) :
    Calls Tryz.prog 109 #[.pointer (some ⟨b, 0, none⟩)] w fun e w' => e = .returned (.tuple #[]) ∧ w = w' := by
  have c2 := h.cell (67 + 2)
  have c3 := h.cell (67 + 3)
  have c5 := h.cell (67 + 5)
  have c6 := h.cell (67 + 6)
  rw [hn.c2] at c2
  rw [hn.c3] at c3
  rw [hn.c5] at c5
  rw [hn.c6] at c6
  clear h hn
  go_enter Tryz.func109, Tryz.ntmps109
  go_wp2
  go_returns
  exact ⟨rfl, rfl⟩

set_option maxHeartbeats 2000000 in
theorem growGrowths_nil {w : World} {b : Nat} {f : Nat → Value} (h : Bk w b f) (hn : Nil9 f 67) :
    Calls Tryz.prog 122 #[.pointer (some ⟨b, 0, none⟩)] w fun e w' => e = .returned (.tuple #[]) ∧ Bk w' b f ∧ Touch [b] w w' := by
  have c4 := h.cell (67 + 4)
  have c7 := h.cell (67 + 7)
  have f4 := h.frozen (67 + 4)
  have f7 := h.frozen (67 + 7)
  rw [hn.c4] at c4
  rw [hn.c7] at c7
  have h1 := h.set (67 + 4) (.slice none 0 0)
  rw [put_self f (67 + 4) _ hn.c4] at h1
  have h2 := h1.set (67 + 7) (.slice none 0 0)
  rw [put_self f (67 + 7) _ hn.c7] at h2
  have HK : Hid (Bk _ b f) := h2
  clear h h1 h2 hn
  go_enter Tryz.func122, Tryz.ntmps122
  go_wp2
  refine wp_loop_rounds 1 ?_
  rw [rounds_succ]
  go_wp2
  go_returns
  exact ⟨rfl, HK.out, (Touch.setCell _ _ _ (by simp)).trans (Touch.setCell _ _ _ (by simp))⟩

set_option maxHeartbeats 2000000 in
theorem holdGrowths_nil {w : World} {b : Nat} {f : Nat → Value} (h : Bk w b f) (hn : Nil9 f 67) :
    Calls Tryz.prog 45 #[.pointer (some ⟨b, 0, none⟩)] w fun e w' => e = .returned (.bool true) ∧ w = w' := by
  have c0 := h.cell (67 + 0)
  have c2 := h.cell (67 + 2)
  rw [hn.c0] at c0
  rw [hn.c2] at c2
  clear h hn
  go_enter Tryz.func45, Tryz.ntmps45
  go_wp2
  refine wp_loop_rounds 1 ?_
  rw [rounds_succ]
  go_wp2
  refine wp_loop_rounds 1 ?_
  rw [rounds_succ]
  go_wp2
  go_ret
  exact ⟨rfl, rfl⟩

set_option maxHeartbeats 2000000 in
theorem markOps_nil {w : World} {b : Nat} {f : Nat → Value} (h : Bk w b f) (hn : Nil9 f 76) :
    Calls Tryz.prog 110 #[.pointer (some ⟨b, 0, none⟩)] w fun e w' => e = .returned (.tuple #[]) ∧ w = w' := by
  have c2 := h.cell (76 + 2)
  have c3 := h.cell (76 + 3)
  have c5 := h.cell (76 + 5)
  have c6 := h.cell (76 + 6)
  rw [hn.c2] at c2
  rw [hn.c3] at c3
  rw [hn.c5] at c5
  rw [hn.c6] at c6
  clear h hn
  go_enter Tryz.func110, Tryz.ntmps110
  go_wp2
  go_returns
  exact ⟨rfl, rfl⟩

set_option maxHeartbeats 2000000 in
theorem growOps_nil {w : World} {b : Nat} {f : Nat → Value} (h : Bk w b f) (hn : Nil9 f 76) :
    Calls Tryz.prog 123 #[.pointer (some ⟨b, 0, none⟩)] w fun e w' => e = .returned (.tuple #[]) ∧ Bk w' b f ∧ Touch [b] w w' := by
  have c4 := h.cell (76 + 4)
  have c7 := h.cell (76 + 7)
  have f4 := h.frozen (76 + 4)
  have f7 := h.frozen (76 + 7)
  rw [hn.c4] at c4
  rw [hn.c7] at c7
  have h1 := h.set (76 + 4) (.slice none 0 0)
  rw [put_self f (76 + 4) _ hn.c4] at h1
  have h2 := h1.set (76 + 7) (.slice none 0 0)
  rw [put_self f (76 + 7) _ hn.c7] at h2
  have HK : Hid (Bk _ b f) := h2
  clear h h1 h2 hn
  go_enter Tryz.func123, Tryz.ntmps123
  go_wp2
  refine wp_loop_rounds 1 ?_
  rw [rounds_succ]
  go_wp2
  go_returns
  exact ⟨rfl, HK.out, (Touch.setCell _ _ _ (by simp)).trans (Touch.setCell _ _ _ (by simp))⟩

set_option maxHeartbeats 2000000 in
theorem holdOps_nil {w : World} {b : Nat} {f : Nat → Value} (h : Bk w b f) (hn : Nil9 f 76) :
    Calls Tryz.prog 46 #[.pointer (some ⟨b, 0, none⟩)] w fun e w' => e = .returned (.bool true) ∧ w = w' := by
  have c0 := h.cell (76 + 0)
  have c2 := h.cell (76 + 2)
  rw [hn.c0] at c0
  rw [hn.c2] at c2
  clear h hn
  go_enter Tryz.func46, Tryz.ntmps46
  go_wp2
  refine wp_loop_rounds 1 ?_
  rw [rounds_succ]
  go_wp2
  refine wp_loop_rounds 1 ?_
  rw [rounds_succ]
  go_wp2
  go_ret
  exact ⟨rfl, rfl⟩

set_option maxHeartbeats 2000000 in
theorem markIntLists_nil {w : World} {b : Nat} {f : Nat → Value} (h : Bk w b f) (hn : Nil9 f 85) :
    Calls Tryz.prog 111 #[.pointer (some ⟨b, 0, none⟩)] w fun e w' => e = .returned (.tuple #[]) ∧ w = w' := by
  have c2 := h.cell (85 + 2)
  have c3 := h.cell (85 + 3)
  have c5 := h.cell (85 + 5)
  have c6 := h.cell (85 + 6)
  rw [hn.c2] at c2
  rw [hn.c3] at c3
  rw [hn.c5] at c5
  rw [hn.c6] at c6
  clear h hn
  go_enter Tryz.func111, Tryz.ntmps111
  go_wp2
  go_returns
  exact ⟨rfl, rfl⟩

set_option maxHeartbeats 2000000 in
theorem growIntLists_nil {w : World} {b : Nat} {f : Nat → Value} (h : Bk w b f) (hn : Nil9 f 85) :
    Calls Tryz.prog 124 #[.pointer (some ⟨b, 0, none⟩)] w fun e w' => e = .returned (.tuple #[]) ∧ Bk w' b f ∧ Touch [b] w w' := by
  have c4 := h.cell (85 + 4)
  have c7 := h.cell (85 + 7)
  have f4 := h.frozen (85 + 4)
  have f7 := h.frozen (85 + 7)
  rw [hn.c4] at c4
  rw [hn.c7] at c7
  have h1 := h.set (85 + 4) (.slice none 0 0)
  rw [put_self f (85 + 4) _ hn.c4] at h1
  have h2 := h1.set (85 + 7) (.slice none 0 0)
  rw [put_self f (85 + 7) _ hn.c7] at h2
  have HK : Hid (Bk _ b f) := h2
  clear h h1 h2 hn
  go_enter Tryz.func124, Tryz.ntmps124
  go_wp2
  refine wp_loop_rounds 1 ?_
  rw [rounds_succ]
  go_wp2
  go_returns
  exact ⟨rfl, HK.out, (Touch.setCell _ _ _ (by simp)).trans (Touch.setCell _ _ _ (by simp))⟩

set_option maxHeartbeats 2000000 in
theorem holdIntLists_nil {w : World} {b : Nat} {f : Nat → Value} (h : Bk w b f) (hn : Nil9 f 85) :
    Calls Tryz.prog 47 #[.pointer (some ⟨b, 0, none⟩)] w fun e w' => e = .returned (.bool true) ∧ w = w' := by
  have c0 := h.cell (85 + 0)
  have c2 := h.cell (85 + 2)
  rw [hn.c0] at c0
  rw [hn.c2] at c2
  clear h hn
  go_enter Tryz.func47, Tryz.ntmps47
  go_wp2
  refine wp_loop_rounds 1 ?_
  rw [rounds_succ]
  go_wp2
  refine wp_loop_rounds 1 ?_
  rw [rounds_succ]
  go_wp2
  go_ret
  exact ⟨rfl, rfl⟩

set_option maxHeartbeats 2000000 in
theorem markWordLists_nil {w : World} {b : Nat} {f : Nat → Value} (h : Bk w b f) (hn : Nil9 f 94) :
    Calls Tryz.prog 112 #[.pointer (some ⟨b, 0, none⟩)] w fun e w' => e = .returned (.tuple #[]) ∧ w = w' := by
  have c2 := h.cell (94 + 2)
  have c3 := h.cell (94 + 3)
  have c5 := h.cell (94 + 5)
  have c6 := h.cell (94 + 6)
  rw [hn.c2] at c2
  rw [hn.c3] at c3
  rw [hn.c5] at c5
  rw [hn.c6] at c6
  clear h hn
  go_enter Tryz.func112, Tryz.ntmps112
  go_wp2
  go_returns
  exact ⟨rfl, rfl⟩

set_option maxHeartbeats 2000000 in
theorem growWordLists_nil {w : World} {b : Nat} {f : Nat → Value} (h : Bk w b f) (hn : Nil9 f 94) :
    Calls Tryz.prog 125 #[.pointer (some ⟨b, 0, none⟩)] w fun e w' => e = .returned (.tuple #[]) ∧ Bk w' b f ∧ Touch [b] w w' := by
  have c4 := h.cell (94 + 4)
  have c7 := h.cell (94 + 7)
  have f4 := h.frozen (94 + 4)
  have f7 := h.frozen (94 + 7)
  rw [hn.c4] at c4
  rw [hn.c7] at c7
  have h1 := h.set (94 + 4) (.slice none 0 0)
  rw [put_self f (94 + 4) _ hn.c4] at h1
  have h2 := h1.set (94 + 7) (.slice none 0 0)
  rw [put_self f (94 + 7) _ hn.c7] at h2
  have HK : Hid (Bk _ b f) := h2
  clear h h1 h2 hn
  go_enter Tryz.func125, Tryz.ntmps125
  go_wp2
  refine wp_loop_rounds 1 ?_
  rw [rounds_succ]
  go_wp2
  go_returns
  exact ⟨rfl, HK.out, (Touch.setCell _ _ _ (by simp)).trans (Touch.setCell _ _ _ (by simp))⟩

set_option maxHeartbeats 2000000 in
theorem holdWordLists_nil {w : World} {b : Nat} {f : Nat → Value} (h : Bk w b f) (hn : Nil9 f 94) :
    Calls Tryz.prog 48 #[.pointer (some ⟨b, 0, none⟩)] w fun e w' => e = .returned (.bool true) ∧ w = w' := by
  have c0 := h.cell (94 + 0)
  have c2 := h.cell (94 + 2)
  rw [hn.c0] at c0
  rw [hn.c2] at c2
  clear h hn
  go_enter Tryz.func48, Tryz.ntmps48
  go_wp2
  refine wp_loop_rounds 1 ?_
  rw [rounds_succ]
  go_wp2
  refine wp_loop_rounds 1 ?_
  rw [rounds_succ]
  go_wp2
  go_ret
  exact ⟨rfl, rfl⟩

set_option maxHeartbeats 2000000 in
theorem markFrames_nil {w : World} {b : Nat} {f : Nat → Value} (h : Bk w b f) (hn : Nil9 f 103) :
    Calls Tryz.prog 113 #[.pointer (some ⟨b, 0, none⟩)] w fun e w' => e = .returned (.tuple #[]) ∧ w = w' := by
  have c2 := h.cell (103 + 2)
  have c3 := h.cell (103 + 3)
  have c5 := h.cell (103 + 5)
  have c6 := h.cell (103 + 6)
  rw [hn.c2] at c2
  rw [hn.c3] at c3
  rw [hn.c5] at c5
  rw [hn.c6] at c6
  clear h hn
  go_enter Tryz.func113, Tryz.ntmps113
  go_wp2
  go_returns
  exact ⟨rfl, rfl⟩

set_option maxHeartbeats 2000000 in
theorem growFrames_nil {w : World} {b : Nat} {f : Nat → Value} (h : Bk w b f) (hn : Nil9 f 103) :
    Calls Tryz.prog 126 #[.pointer (some ⟨b, 0, none⟩)] w fun e w' => e = .returned (.tuple #[]) ∧ Bk w' b f ∧ Touch [b] w w' := by
  have c4 := h.cell (103 + 4)
  have c7 := h.cell (103 + 7)
  have f4 := h.frozen (103 + 4)
  have f7 := h.frozen (103 + 7)
  rw [hn.c4] at c4
  rw [hn.c7] at c7
  have h1 := h.set (103 + 4) (.slice none 0 0)
  rw [put_self f (103 + 4) _ hn.c4] at h1
  have h2 := h1.set (103 + 7) (.slice none 0 0)
  rw [put_self f (103 + 7) _ hn.c7] at h2
  have HK : Hid (Bk _ b f) := h2
  clear h h1 h2 hn
  go_enter Tryz.func126, Tryz.ntmps126
  go_wp2
  refine wp_loop_rounds 1 ?_
  rw [rounds_succ]
  go_wp2
  go_returns
  exact ⟨rfl, HK.out, (Touch.setCell _ _ _ (by simp)).trans (Touch.setCell _ _ _ (by simp))⟩

set_option maxHeartbeats 2000000 in
theorem holdFrames_nil {w : World} {b : Nat} {f : Nat → Value} (h : Bk w b f) (hn : Nil9 f 103) :
    Calls Tryz.prog 49 #[.pointer (some ⟨b, 0, none⟩)] w fun e w' => e = .returned (.bool true) ∧ w = w' := by
  have c0 := h.cell (103 + 0)
  have c2 := h.cell (103 + 2)
  rw [hn.c0] at c0
  rw [hn.c2] at c2
  clear h hn
  go_enter Tryz.func49, Tryz.ntmps49
  go_wp2
  refine wp_loop_rounds 1 ?_
  rw [rounds_succ]
  go_wp2
  refine wp_loop_rounds 1 ?_
  rw [rounds_succ]
  go_wp2
  go_ret
  exact ⟨rfl, rfl⟩

set_option maxHeartbeats 2000000 in
theorem markObjects_nil {w : World} {b : Nat} {f : Nat → Value} (h : Bk w b f) (hn : Nil9 f 112) :
    Calls Tryz.prog 114 #[.pointer (some ⟨b, 0, none⟩)] w fun e w' => e = .returned (.tuple #[]) ∧ w = w' := by
  have c2 := h.cell (112 + 2)
  have c3 := h.cell (112 + 3)
  have c5 := h.cell (112 + 5)
  have c6 := h.cell (112 + 6)
  rw [hn.c2] at c2
  rw [hn.c3] at c3
  rw [hn.c5] at c5
  rw [hn.c6] at c6
  clear h hn
  go_enter Tryz.func114, Tryz.ntmps114
  go_wp2
  go_returns
  exact ⟨rfl, rfl⟩

set_option maxHeartbeats 2000000 in
theorem growObjects_nil {w : World} {b : Nat} {f : Nat → Value} (h : Bk w b f) (hn : Nil9 f 112) :
    Calls Tryz.prog 127 #[.pointer (some ⟨b, 0, none⟩)] w fun e w' => e = .returned (.tuple #[]) ∧ Bk w' b f ∧ Touch [b] w w' := by
  have c4 := h.cell (112 + 4)
  have c7 := h.cell (112 + 7)
  have f4 := h.frozen (112 + 4)
  have f7 := h.frozen (112 + 7)
  rw [hn.c4] at c4
  rw [hn.c7] at c7
  have h1 := h.set (112 + 4) (.slice none 0 0)
  rw [put_self f (112 + 4) _ hn.c4] at h1
  have h2 := h1.set (112 + 7) (.slice none 0 0)
  rw [put_self f (112 + 7) _ hn.c7] at h2
  have HK : Hid (Bk _ b f) := h2
  clear h h1 h2 hn
  go_enter Tryz.func127, Tryz.ntmps127
  go_wp2
  refine wp_loop_rounds 1 ?_
  rw [rounds_succ]
  go_wp2
  go_returns
  exact ⟨rfl, HK.out, (Touch.setCell _ _ _ (by simp)).trans (Touch.setCell _ _ _ (by simp))⟩

set_option maxHeartbeats 2000000 in
theorem holdObjects_nil {w : World} {b : Nat} {f : Nat → Value} (h : Bk w b f) (hn : Nil9 f 112) :
    Calls Tryz.prog 50 #[.pointer (some ⟨b, 0, none⟩)] w fun e w' => e = .returned (.bool true) ∧ w = w' := by
  have c0 := h.cell (112 + 0)
  have c2 := h.cell (112 + 2)
  rw [hn.c0] at c0
  rw [hn.c2] at c2
  clear h hn
  go_enter Tryz.func50, Tryz.ntmps50
  go_wp2
  refine wp_loop_rounds 1 ?_
  rw [rounds_succ]
  go_wp2
  refine wp_loop_rounds 1 ?_
  rw [rounds_succ]
  go_wp2
  go_ret
  exact ⟨rfl, rfl⟩

end Go.Proofs.YtbgnagjhkfkekaaGreatDoor.Kg
