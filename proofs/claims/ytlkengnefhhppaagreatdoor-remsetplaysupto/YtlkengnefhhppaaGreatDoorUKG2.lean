import Derived.Test.YtlkengnefhhppaaGreatDoorPKa
set_option linter.unusedVariables false
set_option maxHeartbeats 8000000
set_option maxRecDepth 20000
namespace Go.Proofs.YtlkengnefhhppaaGreatDoor.Kg
open Go.RowKit
theorem markBytes_nil {w : World} {b : Nat} {f : Nat → Value} (h : Bk w b f) (hn : Nil9 f 4) :
  Calls Tryz.prog 171 #[.pointer (some ⟨b, 0, none⟩)] w fun e w' => e = .returned (.tuple #[]) ∧ w = w' := by
 have c2 := h.cell (4 + 2)
 have c3 := h.cell (4 + 3)
 have c5 := h.cell (4 + 5)
 have c6 := h.cell (4 + 6)
 rw [hn.c2] at c2
 rw [hn.c3] at c3
 rw [hn.c5] at c5
 rw [hn.c6] at c6
 clear h hn
 go_enter Tryz.func171, Tryz.ntmps171
 go_wp2
 go_returns
 exact ⟨rfl, rfl⟩
theorem growBytes_nil {w : World} {b : Nat} {f : Nat → Value} (h : Bk w b f) (hn : Nil9 f 4) :
  Calls Tryz.prog 184 #[.pointer (some ⟨b, 0, none⟩)] w fun e w' => e = .returned (.tuple #[]) ∧ Bk w' b f ∧ Touch [b] w w' := by
 have c4 := h.cell (4 + 4)
 have c7 := h.cell (4 + 7)
 have f4 := h.frozen (4 + 4)
 have f7 := h.frozen (4 + 7)
 rw [hn.c4] at c4
 rw [hn.c7] at c7
 have h1 := h.set (4 + 4) (.slice none 0 0)
 rw [put_self f (4 + 4) _ hn.c4] at h1
 have h2 := h1.set (4 + 7) (.slice none 0 0)
 rw [put_self f (4 + 7) _ hn.c7] at h2
 have HK : Hid (Bk _ b f) := h2
 clear h h1 h2 hn
 go_enter Tryz.func184, Tryz.ntmps184
 go_wp2
 refine wp_loop_rounds 1 ?_
 rw [rounds_succ]
 go_wp2
 go_returns
 exact ⟨rfl, HK.out, (Touch.setCell _ _ _ (by simp)).trans (Touch.setCell _ _ _ (by simp))⟩
theorem holdBytes_nil {w : World} {b : Nat} {f : Nat → Value} (h : Bk w b f) (hn : Nil9 f 4) :
  Calls Tryz.prog 84 #[.pointer (some ⟨b, 0, none⟩)] w fun e w' => e = .returned (.bool true) ∧ w = w' := by
 have c0 := h.cell (4 + 0)
 have c2 := h.cell (4 + 2)
 rw [hn.c0] at c0
 rw [hn.c2] at c2
 clear h hn
 go_enter Tryz.func84, Tryz.ntmps84
 go_wp2
 refine wp_loop_rounds 1 ?_
 rw [rounds_succ]
 go_wp2
 refine wp_loop_rounds 1 ?_
 rw [rounds_succ]
 go_wp2
 go_ret
 exact ⟨rfl, rfl⟩
theorem markBools_nil {w : World} {b : Nat} {f : Nat → Value} (h : Bk w b f) (hn : Nil9 f 22) :
  Calls Tryz.prog 173 #[.pointer (some ⟨b, 0, none⟩)] w fun e w' => e = .returned (.tuple #[]) ∧ w = w' := by
 have c2 := h.cell (22 + 2)
 have c3 := h.cell (22 + 3)
 have c5 := h.cell (22 + 5)
 have c6 := h.cell (22 + 6)
 rw [hn.c2] at c2
 rw [hn.c3] at c3
 rw [hn.c5] at c5
 rw [hn.c6] at c6
 clear h hn
 go_enter Tryz.func173, Tryz.ntmps173
 go_wp2
 go_returns
 exact ⟨rfl, rfl⟩
theorem growBools_nil {w : World} {b : Nat} {f : Nat → Value} (h : Bk w b f) (hn : Nil9 f 22) :
  Calls Tryz.prog 186 #[.pointer (some ⟨b, 0, none⟩)] w fun e w' => e = .returned (.tuple #[]) ∧ Bk w' b f ∧ Touch [b] w w' := by
 have c4 := h.cell (22 + 4)
 have c7 := h.cell (22 + 7)
 have f4 := h.frozen (22 + 4)
 have f7 := h.frozen (22 + 7)
 rw [hn.c4] at c4
 rw [hn.c7] at c7
 have h1 := h.set (22 + 4) (.slice none 0 0)
 rw [put_self f (22 + 4) _ hn.c4] at h1
 have h2 := h1.set (22 + 7) (.slice none 0 0)
 rw [put_self f (22 + 7) _ hn.c7] at h2
 have HK : Hid (Bk _ b f) := h2
 clear h h1 h2 hn
 go_enter Tryz.func186, Tryz.ntmps186
 go_wp2
 refine wp_loop_rounds 1 ?_
 rw [rounds_succ]
 go_wp2
 go_returns
 exact ⟨rfl, HK.out, (Touch.setCell _ _ _ (by simp)).trans (Touch.setCell _ _ _ (by simp))⟩
theorem holdBools_nil {w : World} {b : Nat} {f : Nat → Value} (h : Bk w b f) (hn : Nil9 f 22) :
  Calls Tryz.prog 86 #[.pointer (some ⟨b, 0, none⟩)] w fun e w' => e = .returned (.bool true) ∧ w = w' := by
 have c0 := h.cell (22 + 0)
 have c2 := h.cell (22 + 2)
 rw [hn.c0] at c0
 rw [hn.c2] at c2
 clear h hn
 go_enter Tryz.func86, Tryz.ntmps86
 go_wp2
 refine wp_loop_rounds 1 ?_
 rw [rounds_succ]
 go_wp2
 refine wp_loop_rounds 1 ?_
 rw [rounds_succ]
 go_wp2
 go_ret
 exact ⟨rfl, rfl⟩
theorem markWords_nil {w : World} {b : Nat} {f : Nat → Value} (h : Bk w b f) (hn : Nil9 f 31) :
  Calls Tryz.prog 174 #[.pointer (some ⟨b, 0, none⟩)] w fun e w' => e = .returned (.tuple #[]) ∧ w = w' := by
 have c2 := h.cell (31 + 2)
 have c3 := h.cell (31 + 3)
 have c5 := h.cell (31 + 5)
 have c6 := h.cell (31 + 6)
 rw [hn.c2] at c2
 rw [hn.c3] at c3
 rw [hn.c5] at c5
 rw [hn.c6] at c6
 clear h hn
 go_enter Tryz.func174, Tryz.ntmps174
 go_wp2
 go_returns
 exact ⟨rfl, rfl⟩
theorem growWords_nil {w : World} {b : Nat} {f : Nat → Value} (h : Bk w b f) (hn : Nil9 f 31) :
  Calls Tryz.prog 187 #[.pointer (some ⟨b, 0, none⟩)] w fun e w' => e = .returned (.tuple #[]) ∧ Bk w' b f ∧ Touch [b] w w' := by
 have c4 := h.cell (31 + 4)
 have c7 := h.cell (31 + 7)
 have f4 := h.frozen (31 + 4)
 have f7 := h.frozen (31 + 7)
 rw [hn.c4] at c4
 rw [hn.c7] at c7
 have h1 := h.set (31 + 4) (.slice none 0 0)
 rw [put_self f (31 + 4) _ hn.c4] at h1
 have h2 := h1.set (31 + 7) (.slice none 0 0)
 rw [put_self f (31 + 7) _ hn.c7] at h2
 have HK : Hid (Bk _ b f) := h2
 clear h h1 h2 hn
 go_enter Tryz.func187, Tryz.ntmps187
 go_wp2
 refine wp_loop_rounds 1 ?_
 rw [rounds_succ]
 go_wp2
 go_returns
 exact ⟨rfl, HK.out, (Touch.setCell _ _ _ (by simp)).trans (Touch.setCell _ _ _ (by simp))⟩
theorem holdWords_nil {w : World} {b : Nat} {f : Nat → Value} (h : Bk w b f) (hn : Nil9 f 31) :
  Calls Tryz.prog 87 #[.pointer (some ⟨b, 0, none⟩)] w fun e w' => e = .returned (.bool true) ∧ w = w' := by
 have c0 := h.cell (31 + 0)
 have c2 := h.cell (31 + 2)
 rw [hn.c0] at c0
 rw [hn.c2] at c2
 clear h hn
 go_enter Tryz.func87, Tryz.ntmps87
 go_wp2
 refine wp_loop_rounds 1 ?_
 rw [rounds_succ]
 go_wp2
 refine wp_loop_rounds 1 ?_
 rw [rounds_succ]
 go_wp2
 go_ret
 exact ⟨rfl, rfl⟩
theorem markTexts_nil {w : World} {b : Nat} {f : Nat → Value} (h : Bk w b f) (hn : Nil9 f 40) :
  Calls Tryz.prog 175 #[.pointer (some ⟨b, 0, none⟩)] w fun e w' => e = .returned (.tuple #[]) ∧ w = w' := by
 have c2 := h.cell (40 + 2)
 have c3 := h.cell (40 + 3)
 have c5 := h.cell (40 + 5)
 have c6 := h.cell (40 + 6)
 rw [hn.c2] at c2
 rw [hn.c3] at c3
 rw [hn.c5] at c5
 rw [hn.c6] at c6
 clear h hn
 go_enter Tryz.func175, Tryz.ntmps175
 go_wp2
 go_returns
 exact ⟨rfl, rfl⟩
theorem growTexts_nil {w : World} {b : Nat} {f : Nat → Value} (h : Bk w b f) (hn : Nil9 f 40) :
  Calls Tryz.prog 188 #[.pointer (some ⟨b, 0, none⟩)] w fun e w' => e = .returned (.tuple #[]) ∧ Bk w' b f ∧ Touch [b] w w' := by
 have c4 := h.cell (40 + 4)
 have c7 := h.cell (40 + 7)
 have f4 := h.frozen (40 + 4)
 have f7 := h.frozen (40 + 7)
 rw [hn.c4] at c4
 rw [hn.c7] at c7
 have h1 := h.set (40 + 4) (.slice none 0 0)
 rw [put_self f (40 + 4) _ hn.c4] at h1
 have h2 := h1.set (40 + 7) (.slice none 0 0)
 rw [put_self f (40 + 7) _ hn.c7] at h2
 have HK : Hid (Bk _ b f) := h2
 clear h h1 h2 hn
 go_enter Tryz.func188, Tryz.ntmps188
 go_wp2
 refine wp_loop_rounds 1 ?_
 rw [rounds_succ]
 go_wp2
 go_returns
 exact ⟨rfl, HK.out, (Touch.setCell _ _ _ (by simp)).trans (Touch.setCell _ _ _ (by simp))⟩
theorem holdTexts_nil {w : World} {b : Nat} {f : Nat → Value} (h : Bk w b f) (hn : Nil9 f 40) :
  Calls Tryz.prog 88 #[.pointer (some ⟨b, 0, none⟩)] w fun e w' => e = .returned (.bool true) ∧ w = w' := by
 have c0 := h.cell (40 + 0)
 have c2 := h.cell (40 + 2)
 rw [hn.c0] at c0
 rw [hn.c2] at c2
 clear h hn
 go_enter Tryz.func88, Tryz.ntmps88
 go_wp2
 refine wp_loop_rounds 1 ?_
 rw [rounds_succ]
 go_wp2
 refine wp_loop_rounds 1 ?_
 rw [rounds_succ]
 go_wp2
 go_ret
 exact ⟨rfl, rfl⟩
theorem markMoves_nil {w : World} {b : Nat} {f : Nat → Value} (h : Bk w b f) (hn : Nil9 f 49) :
  Calls Tryz.prog 176 #[.pointer (some ⟨b, 0, none⟩)] w fun e w' => e = .returned (.tuple #[]) ∧ w = w' := by
 have c2 := h.cell (49 + 2)
 have c3 := h.cell (49 + 3)
 have c5 := h.cell (49 + 5)
 have c6 := h.cell (49 + 6)
 rw [hn.c2] at c2
 rw [hn.c3] at c3
 rw [hn.c5] at c5
 rw [hn.c6] at c6
 clear h hn
 go_enter Tryz.func176, Tryz.ntmps176
 go_wp2
 go_returns
 exact ⟨rfl, rfl⟩
theorem growMoves_nil {w : World} {b : Nat} {f : Nat → Value} (h : Bk w b f) (hn : Nil9 f 49) :
  Calls Tryz.prog 189 #[.pointer (some ⟨b, 0, none⟩)] w fun e w' => e = .returned (.tuple #[]) ∧ Bk w' b f ∧ Touch [b] w w' := by
 have c4 := h.cell (49 + 4)
 have c7 := h.cell (49 + 7)
 have f4 := h.frozen (49 + 4)
 have f7 := h.frozen (49 + 7)
 rw [hn.c4] at c4
 rw [hn.c7] at c7
 have h1 := h.set (49 + 4) (.slice none 0 0)
 rw [put_self f (49 + 4) _ hn.c4] at h1
 have h2 := h1.set (49 + 7) (.slice none 0 0)
 rw [put_self f (49 + 7) _ hn.c7] at h2
 have HK : Hid (Bk _ b f) := h2
 clear h h1 h2 hn
 go_enter Tryz.func189, Tryz.ntmps189
 go_wp2
 refine wp_loop_rounds 1 ?_
 rw [rounds_succ]
 go_wp2
 go_returns
 exact ⟨rfl, HK.out, (Touch.setCell _ _ _ (by simp)).trans (Touch.setCell _ _ _ (by simp))⟩
theorem holdMoves_nil {w : World} {b : Nat} {f : Nat → Value} (h : Bk w b f) (hn : Nil9 f 49) :
  Calls Tryz.prog 89 #[.pointer (some ⟨b, 0, none⟩)] w fun e w' => e = .returned (.bool true) ∧ w = w' := by
 have c0 := h.cell (49 + 0)
 have c2 := h.cell (49 + 2)
 rw [hn.c0] at c0
 rw [hn.c2] at c2
 clear h hn
 go_enter Tryz.func89, Tryz.ntmps89
 go_wp2
 refine wp_loop_rounds 1 ?_
 rw [rounds_succ]
 go_wp2
 refine wp_loop_rounds 1 ?_
 rw [rounds_succ]
 go_wp2
 go_ret
 exact ⟨rfl, rfl⟩
theorem markSites_nil {w : World} {b : Nat} {f : Nat → Value} (h : Bk w b f) (hn : Nil9 f 58) :
  Calls Tryz.prog 177 #[.pointer (some ⟨b, 0, none⟩)] w fun e w' => e = .returned (.tuple #[]) ∧ w = w' := by
 have c2 := h.cell (58 + 2)
 have c3 := h.cell (58 + 3)
 have c5 := h.cell (58 + 5)
 have c6 := h.cell (58 + 6)
 rw [hn.c2] at c2
 rw [hn.c3] at c3
 rw [hn.c5] at c5
 rw [hn.c6] at c6
 clear h hn
 go_enter Tryz.func177, Tryz.ntmps177
 go_wp2
 go_returns
 exact ⟨rfl, rfl⟩
theorem growSites_nil {w : World} {b : Nat} {f : Nat → Value} (h : Bk w b f) (hn : Nil9 f 58) :
  Calls Tryz.prog 190 #[.pointer (some ⟨b, 0, none⟩)] w fun e w' => e = .returned (.tuple #[]) ∧ Bk w' b f ∧ Touch [b] w w' := by
 have c4 := h.cell (58 + 4)
 have c7 := h.cell (58 + 7)
 have f4 := h.frozen (58 + 4)
 have f7 := h.frozen (58 + 7)
 rw [hn.c4] at c4
 rw [hn.c7] at c7
 have h1 := h.set (58 + 4) (.slice none 0 0)
 rw [put_self f (58 + 4) _ hn.c4] at h1
 have h2 := h1.set (58 + 7) (.slice none 0 0)
 rw [put_self f (58 + 7) _ hn.c7] at h2
 have HK : Hid (Bk _ b f) := h2
 clear h h1 h2 hn
 go_enter Tryz.func190, Tryz.ntmps190
 go_wp2
 refine wp_loop_rounds 1 ?_
 rw [rounds_succ]
 go_wp2
 go_returns
 exact ⟨rfl, HK.out, (Touch.setCell _ _ _ (by simp)).trans (Touch.setCell _ _ _ (by simp))⟩
theorem holdSites_nil {w : World} {b : Nat} {f : Nat → Value} (h : Bk w b f) (hn : Nil9 f 58) :
  Calls Tryz.prog 90 #[.pointer (some ⟨b, 0, none⟩)] w fun e w' => e = .returned (.bool true) ∧ w = w' := by
 have c0 := h.cell (58 + 0)
 have c2 := h.cell (58 + 2)
 rw [hn.c0] at c0
 rw [hn.c2] at c2
 clear h hn
 go_enter Tryz.func90, Tryz.ntmps90
 go_wp2
 refine wp_loop_rounds 1 ?_
 rw [rounds_succ]
 go_wp2
 refine wp_loop_rounds 1 ?_
 rw [rounds_succ]
 go_wp2
 go_ret
 exact ⟨rfl, rfl⟩
theorem markGrowths_nil {w : World} {b : Nat} {f : Nat → Value} (h : Bk w b f) (hn : Nil9 f 67) :
  Calls Tryz.prog 178 #[.pointer (some ⟨b, 0, none⟩)] w fun e w' => e = .returned (.tuple #[]) ∧ w = w' := by
 have c2 := h.cell (67 + 2)
 have c3 := h.cell (67 + 3)
 have c5 := h.cell (67 + 5)
 have c6 := h.cell (67 + 6)
 rw [hn.c2] at c2
 rw [hn.c3] at c3
 rw [hn.c5] at c5
 rw [hn.c6] at c6
 clear h hn
 go_enter Tryz.func178, Tryz.ntmps178
 go_wp2
 go_returns
 exact ⟨rfl, rfl⟩
theorem growGrowths_nil {w : World} {b : Nat} {f : Nat → Value} (h : Bk w b f) (hn : Nil9 f 67) :
  Calls Tryz.prog 191 #[.pointer (some ⟨b, 0, none⟩)] w fun e w' => e = .returned (.tuple #[]) ∧ Bk w' b f ∧ Touch [b] w w' := by
 have c4 := h.cell (67 + 4)
 have c7 := h.cell (67 + 7)
 have f4 := h.frozen (67 + 4)
 have f7 := h.frozen (67 + 7)
 rw [hn.c4] at c4
 rw [hn.c7] at c7
 have h1 := h.set (67 + 4) (.slice none 0 0)
 rw [put_self f (67 + 4) _ hn.c4] at h1
 have h2 := h1.set (67 + 7) (.slice none 0 0)
 rw [put_self f (67 + 7) _ hn.c7] at h2
 have HK : Hid (Bk _ b f) := h2
 clear h h1 h2 hn
 go_enter Tryz.func191, Tryz.ntmps191
 go_wp2
 refine wp_loop_rounds 1 ?_
 rw [rounds_succ]
 go_wp2
 go_returns
 exact ⟨rfl, HK.out, (Touch.setCell _ _ _ (by simp)).trans (Touch.setCell _ _ _ (by simp))⟩
theorem holdGrowths_nil {w : World} {b : Nat} {f : Nat → Value} (h : Bk w b f) (hn : Nil9 f 67) :
  Calls Tryz.prog 91 #[.pointer (some ⟨b, 0, none⟩)] w fun e w' => e = .returned (.bool true) ∧ w = w' := by
 have c0 := h.cell (67 + 0)
 have c2 := h.cell (67 + 2)
 rw [hn.c0] at c0
 rw [hn.c2] at c2
 clear h hn
 go_enter Tryz.func91, Tryz.ntmps91
 go_wp2
 refine wp_loop_rounds 1 ?_
 rw [rounds_succ]
 go_wp2
 refine wp_loop_rounds 1 ?_
 rw [rounds_succ]
 go_wp2
 go_ret
 exact ⟨rfl, rfl⟩
theorem markOps_nil {w : World} {b : Nat} {f : Nat → Value} (h : Bk w b f) (hn : Nil9 f 76) :
  Calls Tryz.prog 179 #[.pointer (some ⟨b, 0, none⟩)] w fun e w' => e = .returned (.tuple #[]) ∧ w = w' := by
 have c2 := h.cell (76 + 2)
 have c3 := h.cell (76 + 3)
 have c5 := h.cell (76 + 5)
 have c6 := h.cell (76 + 6)
 rw [hn.c2] at c2
 rw [hn.c3] at c3
 rw [hn.c5] at c5
 rw [hn.c6] at c6
 clear h hn
 go_enter Tryz.func179, Tryz.ntmps179
 go_wp2
 go_returns
 exact ⟨rfl, rfl⟩
theorem growOps_nil {w : World} {b : Nat} {f : Nat → Value} (h : Bk w b f) (hn : Nil9 f 76) :
  Calls Tryz.prog 192 #[.pointer (some ⟨b, 0, none⟩)] w fun e w' => e = .returned (.tuple #[]) ∧ Bk w' b f ∧ Touch [b] w w' := by
 have c4 := h.cell (76 + 4)
 have c7 := h.cell (76 + 7)
 have f4 := h.frozen (76 + 4)
 have f7 := h.frozen (76 + 7)
 rw [hn.c4] at c4
 rw [hn.c7] at c7
 have h1 := h.set (76 + 4) (.slice none 0 0)
 rw [put_self f (76 + 4) _ hn.c4] at h1
 have h2 := h1.set (76 + 7) (.slice none 0 0)
 rw [put_self f (76 + 7) _ hn.c7] at h2
 have HK : Hid (Bk _ b f) := h2
 clear h h1 h2 hn
 go_enter Tryz.func192, Tryz.ntmps192
 go_wp2
 refine wp_loop_rounds 1 ?_
 rw [rounds_succ]
 go_wp2
 go_returns
 exact ⟨rfl, HK.out, (Touch.setCell _ _ _ (by simp)).trans (Touch.setCell _ _ _ (by simp))⟩
theorem holdOps_nil {w : World} {b : Nat} {f : Nat → Value} (h : Bk w b f) (hn : Nil9 f 76) :
  Calls Tryz.prog 92 #[.pointer (some ⟨b, 0, none⟩)] w fun e w' => e = .returned (.bool true) ∧ w = w' := by
 have c0 := h.cell (76 + 0)
 have c2 := h.cell (76 + 2)
 rw [hn.c0] at c0
 rw [hn.c2] at c2
 clear h hn
 go_enter Tryz.func92, Tryz.ntmps92
 go_wp2
 refine wp_loop_rounds 1 ?_
 rw [rounds_succ]
 go_wp2
 refine wp_loop_rounds 1 ?_
 rw [rounds_succ]
 go_wp2
 go_ret
 exact ⟨rfl, rfl⟩
theorem markIntLists_nil {w : World} {b : Nat} {f : Nat → Value} (h : Bk w b f) (hn : Nil9 f 85) :
  Calls Tryz.prog 180 #[.pointer (some ⟨b, 0, none⟩)] w fun e w' => e = .returned (.tuple #[]) ∧ w = w' := by
 have c2 := h.cell (85 + 2)
 have c3 := h.cell (85 + 3)
 have c5 := h.cell (85 + 5)
 have c6 := h.cell (85 + 6)
 rw [hn.c2] at c2
 rw [hn.c3] at c3
 rw [hn.c5] at c5
 rw [hn.c6] at c6
 clear h hn
 go_enter Tryz.func180, Tryz.ntmps180
 go_wp2
 go_returns
 exact ⟨rfl, rfl⟩
theorem growIntLists_nil {w : World} {b : Nat} {f : Nat → Value} (h : Bk w b f) (hn : Nil9 f 85) :
  Calls Tryz.prog 193 #[.pointer (some ⟨b, 0, none⟩)] w fun e w' => e = .returned (.tuple #[]) ∧ Bk w' b f ∧ Touch [b] w w' := by
 have c4 := h.cell (85 + 4)
 have c7 := h.cell (85 + 7)
 have f4 := h.frozen (85 + 4)
 have f7 := h.frozen (85 + 7)
 rw [hn.c4] at c4
 rw [hn.c7] at c7
 have h1 := h.set (85 + 4) (.slice none 0 0)
 rw [put_self f (85 + 4) _ hn.c4] at h1
 have h2 := h1.set (85 + 7) (.slice none 0 0)
 rw [put_self f (85 + 7) _ hn.c7] at h2
 have HK : Hid (Bk _ b f) := h2
 clear h h1 h2 hn
 go_enter Tryz.func193, Tryz.ntmps193
 go_wp2
 refine wp_loop_rounds 1 ?_
 rw [rounds_succ]
 go_wp2
 go_returns
 exact ⟨rfl, HK.out, (Touch.setCell _ _ _ (by simp)).trans (Touch.setCell _ _ _ (by simp))⟩
theorem holdIntLists_nil {w : World} {b : Nat} {f : Nat → Value} (h : Bk w b f) (hn : Nil9 f 85) :
  Calls Tryz.prog 93 #[.pointer (some ⟨b, 0, none⟩)] w fun e w' => e = .returned (.bool true) ∧ w = w' := by
 have c0 := h.cell (85 + 0)
 have c2 := h.cell (85 + 2)
 rw [hn.c0] at c0
 rw [hn.c2] at c2
 clear h hn
 go_enter Tryz.func93, Tryz.ntmps93
 go_wp2
 refine wp_loop_rounds 1 ?_
 rw [rounds_succ]
 go_wp2
 refine wp_loop_rounds 1 ?_
 rw [rounds_succ]
 go_wp2
 go_ret
 exact ⟨rfl, rfl⟩
theorem markWordLists_nil {w : World} {b : Nat} {f : Nat → Value} (h : Bk w b f) (hn : Nil9 f 94) :
  Calls Tryz.prog 181 #[.pointer (some ⟨b, 0, none⟩)] w fun e w' => e = .returned (.tuple #[]) ∧ w = w' := by
 have c2 := h.cell (94 + 2)
 have c3 := h.cell (94 + 3)
 have c5 := h.cell (94 + 5)
 have c6 := h.cell (94 + 6)
 rw [hn.c2] at c2
 rw [hn.c3] at c3
 rw [hn.c5] at c5
 rw [hn.c6] at c6
 clear h hn
 go_enter Tryz.func181, Tryz.ntmps181
 go_wp2
 go_returns
 exact ⟨rfl, rfl⟩
theorem growWordLists_nil {w : World} {b : Nat} {f : Nat → Value} (h : Bk w b f) (hn : Nil9 f 94) :
  Calls Tryz.prog 194 #[.pointer (some ⟨b, 0, none⟩)] w fun e w' => e = .returned (.tuple #[]) ∧ Bk w' b f ∧ Touch [b] w w' := by
 have c4 := h.cell (94 + 4)
 have c7 := h.cell (94 + 7)
 have f4 := h.frozen (94 + 4)
 have f7 := h.frozen (94 + 7)
 rw [hn.c4] at c4
 rw [hn.c7] at c7
 have h1 := h.set (94 + 4) (.slice none 0 0)
 rw [put_self f (94 + 4) _ hn.c4] at h1
 have h2 := h1.set (94 + 7) (.slice none 0 0)
 rw [put_self f (94 + 7) _ hn.c7] at h2
 have HK : Hid (Bk _ b f) := h2
 clear h h1 h2 hn
 go_enter Tryz.func194, Tryz.ntmps194
 go_wp2
 refine wp_loop_rounds 1 ?_
 rw [rounds_succ]
 go_wp2
 go_returns
 exact ⟨rfl, HK.out, (Touch.setCell _ _ _ (by simp)).trans (Touch.setCell _ _ _ (by simp))⟩
theorem holdWordLists_nil {w : World} {b : Nat} {f : Nat → Value} (h : Bk w b f) (hn : Nil9 f 94) :
  Calls Tryz.prog 94 #[.pointer (some ⟨b, 0, none⟩)] w fun e w' => e = .returned (.bool true) ∧ w = w' := by
 have c0 := h.cell (94 + 0)
 have c2 := h.cell (94 + 2)
 rw [hn.c0] at c0
 rw [hn.c2] at c2
 clear h hn
 go_enter Tryz.func94, Tryz.ntmps94
 go_wp2
 refine wp_loop_rounds 1 ?_
 rw [rounds_succ]
 go_wp2
 refine wp_loop_rounds 1 ?_
 rw [rounds_succ]
 go_wp2
 go_ret
 exact ⟨rfl, rfl⟩
theorem markFrames_nil {w : World} {b : Nat} {f : Nat → Value} (h : Bk w b f) (hn : Nil9 f 103) :
  Calls Tryz.prog 182 #[.pointer (some ⟨b, 0, none⟩)] w fun e w' => e = .returned (.tuple #[]) ∧ w = w' := by
 have c2 := h.cell (103 + 2)
 have c3 := h.cell (103 + 3)
 have c5 := h.cell (103 + 5)
 have c6 := h.cell (103 + 6)
 rw [hn.c2] at c2
 rw [hn.c3] at c3
 rw [hn.c5] at c5
 rw [hn.c6] at c6
 clear h hn
 go_enter Tryz.func182, Tryz.ntmps182
 go_wp2
 go_returns
 exact ⟨rfl, rfl⟩
theorem growFrames_nil {w : World} {b : Nat} {f : Nat → Value} (h : Bk w b f) (hn : Nil9 f 103) :
  Calls Tryz.prog 195 #[.pointer (some ⟨b, 0, none⟩)] w fun e w' => e = .returned (.tuple #[]) ∧ Bk w' b f ∧ Touch [b] w w' := by
 have c4 := h.cell (103 + 4)
 have c7 := h.cell (103 + 7)
 have f4 := h.frozen (103 + 4)
 have f7 := h.frozen (103 + 7)
 rw [hn.c4] at c4
 rw [hn.c7] at c7
 have h1 := h.set (103 + 4) (.slice none 0 0)
 rw [put_self f (103 + 4) _ hn.c4] at h1
 have h2 := h1.set (103 + 7) (.slice none 0 0)
 rw [put_self f (103 + 7) _ hn.c7] at h2
 have HK : Hid (Bk _ b f) := h2
 clear h h1 h2 hn
 go_enter Tryz.func195, Tryz.ntmps195
 go_wp2
 refine wp_loop_rounds 1 ?_
 rw [rounds_succ]
 go_wp2
 go_returns
 exact ⟨rfl, HK.out, (Touch.setCell _ _ _ (by simp)).trans (Touch.setCell _ _ _ (by simp))⟩
theorem holdFrames_nil {w : World} {b : Nat} {f : Nat → Value} (h : Bk w b f) (hn : Nil9 f 103) :
  Calls Tryz.prog 95 #[.pointer (some ⟨b, 0, none⟩)] w fun e w' => e = .returned (.bool true) ∧ w = w' := by
 have c0 := h.cell (103 + 0)
 have c2 := h.cell (103 + 2)
 rw [hn.c0] at c0
 rw [hn.c2] at c2
 clear h hn
 go_enter Tryz.func95, Tryz.ntmps95
 go_wp2
 refine wp_loop_rounds 1 ?_
 rw [rounds_succ]
 go_wp2
 refine wp_loop_rounds 1 ?_
 rw [rounds_succ]
 go_wp2
 go_ret
 exact ⟨rfl, rfl⟩
theorem markObjects_nil {w : World} {b : Nat} {f : Nat → Value} (h : Bk w b f) (hn : Nil9 f 112) :
  Calls Tryz.prog 183 #[.pointer (some ⟨b, 0, none⟩)] w fun e w' => e = .returned (.tuple #[]) ∧ w = w' := by
 have c2 := h.cell (112 + 2)
 have c3 := h.cell (112 + 3)
 have c5 := h.cell (112 + 5)
 have c6 := h.cell (112 + 6)
 rw [hn.c2] at c2
 rw [hn.c3] at c3
 rw [hn.c5] at c5
 rw [hn.c6] at c6
 clear h hn
 go_enter Tryz.func183, Tryz.ntmps183
 go_wp2
 go_returns
 exact ⟨rfl, rfl⟩
theorem growObjects_nil {w : World} {b : Nat} {f : Nat → Value} (h : Bk w b f) (hn : Nil9 f 112) :
  Calls Tryz.prog 196 #[.pointer (some ⟨b, 0, none⟩)] w fun e w' => e = .returned (.tuple #[]) ∧ Bk w' b f ∧ Touch [b] w w' := by
 have c4 := h.cell (112 + 4)
 have c7 := h.cell (112 + 7)
 have f4 := h.frozen (112 + 4)
 have f7 := h.frozen (112 + 7)
 rw [hn.c4] at c4
 rw [hn.c7] at c7
 have h1 := h.set (112 + 4) (.slice none 0 0)
 rw [put_self f (112 + 4) _ hn.c4] at h1
 have h2 := h1.set (112 + 7) (.slice none 0 0)
 rw [put_self f (112 + 7) _ hn.c7] at h2
 have HK : Hid (Bk _ b f) := h2
 clear h h1 h2 hn
 go_enter Tryz.func196, Tryz.ntmps196
 go_wp2
 refine wp_loop_rounds 1 ?_
 rw [rounds_succ]
 go_wp2
 go_returns
 exact ⟨rfl, HK.out, (Touch.setCell _ _ _ (by simp)).trans (Touch.setCell _ _ _ (by simp))⟩
theorem holdObjects_nil {w : World} {b : Nat} {f : Nat → Value} (h : Bk w b f) (hn : Nil9 f 112) :
  Calls Tryz.prog 96 #[.pointer (some ⟨b, 0, none⟩)] w fun e w' => e = .returned (.bool true) ∧ w = w' := by
 have c0 := h.cell (112 + 0)
 have c2 := h.cell (112 + 2)
 rw [hn.c0] at c0
 rw [hn.c2] at c2
 clear h hn
 go_enter Tryz.func96, Tryz.ntmps96
 go_wp2
 refine wp_loop_rounds 1 ?_
 rw [rounds_succ]
 go_wp2
 refine wp_loop_rounds 1 ?_
 rw [rounds_succ]
 go_wp2
 go_ret
 exact ⟨rfl, rfl⟩
end Go.Proofs.YtlkengnefhhppaaGreatDoor.Kg
