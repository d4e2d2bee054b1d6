import Derived.Test.YtblbiikfipcbcaaGreatDoorPRb
import Derived.Test.YtblbiikfipcbcaaGreatDoorRM7
/-
  Images, the reader: lists that grow.
-/
set_option linter.unusedVariables false
set_option maxRecDepth 20000
namespace Go.Proofs.YtblbiikfipcbcaaGreatDoor
open Go.RowKit Go.Shelf

theorem cell_blk {w w' : World} {k : Nat} (h : w'.heap[k]? = w.heap[k]?) (j : Nat) : w'.cell? ⟨k, j, none⟩ = w.cell? ⟨k, j, none⟩ := by simp only [World.cell?, h]

/-- A list has grown by one thing: its row is a now, and the cell holds it. -/
structure Grw (w w' : World) (b o t e sz lo : Nat) (cs : Array Value) (a : Value) (n : Nat) (xs z : List Value) (a' : Value) : Prop where
  h : w'.heap[b]? = some (.cells (cs.setIfInBounds o a') t (0, 0))
  r : w'.ownsRow lo e sz a' (n + 1) (xs ++ z)
  t : Kg.Touch (b :: a.ownBlock.toList) w w'
  q : a'.ownBlock = a.ownBlock ∨ ∃ F, a'.ownBlock = some F ∧ w.heap.size ≤ F

theorem infoI6 : (Tryz.prog.info? 3).map (fun i => (i.zero, i.size, i.bytes)) = some (some (.int .i64 0), 1, 8) := by kernel_rfl

set_option maxHeartbeats 8000000 in
theorem growI_any {w : World} {b o t lo n c2 : Nat} {cs : Array Value} {a : Value} {xs : List Value} (hcl : c2 < w.heap.size) (hc : w.cell? ⟨c2, 0, none⟩ = some (.pointer (some ⟨b, o, none⟩))) (hB : w.heap[b]? = some (.cells cs t (0, 0))) (hv : cs[o]? = some a) (hr : w.ownsRow lo 3 1 a n xs) (hnc : a.ownBlock ≠ some c2) (hte : t ≠ 3) (hlo : lo ≤ w.heap.size) (hn : n ≤ 1000000000000) :
    Calls Tryz.prog 71 #[.pointer (some ⟨c2, 0, none⟩)] w fun e w' => e = .returned (.tuple #[]) ∧ ∃ F cap, Grw w w' b o t 3 1 lo cs a n xs [.int .i64 0] (.slice (some ⟨F, 0, none⟩) (n + 1) cap) := by
  obtain ⟨i0, hi0, hj0, hj1, hj2⟩ := info_parts infoI6
  have HI : Hid (Tryz.prog.info? 3 = some i0 ∧ i0.zero = some (.int .i64 0) ∧ i0.size = 1 ∧ i0.bytes = 8) := ⟨hi0, hj0, hj1, hj2⟩
  have HB : Hid (w.heap[b]? = some (.cells cs t (0, 0))) := hB
  have hbl := Kg.heap_lt hB
  have hne : a.ownBlock ≠ some b := fun e => Kg.row_ne hB hr hte e.symm
  have Hr : Hid (w.ownsRow lo 3 1 a n xs) := hr
  have Hrd : Hid (w.drew.ownsRow lo 3 1 a n xs) := hr
  obtain ⟨aa, ca, rfl⟩ := own_slI hr
  have cv := (Kg.heap_cell hB o).trans hv
  have fz := Kg.heap_frozen hB o
  have cvd : w.drew.cell? ⟨b, o, none⟩ = some (.slice aa n ca) := cv
  have hcd : w.drew.cell? ⟨c2, 0, none⟩ = some (.pointer (some ⟨b, o, none⟩)) := hc
  have hba : Below w.heap.size w (w.alloc (.cells #[.int .i64 0] 3)) := Below.alloc (Below.refl _ _) (Nat.le_refl _) _
  have cva := (hba.cell (p := ⟨b, o, none⟩) hbl).trans cv
  have hca := (hba.cell (p := ⟨c2, 0, none⟩) hcl).trans hc
  have q2 : Hid (n + 1 ≤ maxLen) := by show _ ≤ _; simp only [maxLen]; omega
  have q3 : (n + 1) * 8 ≤ 140737488355328 := by omega
  clear hi0 hj0 hj1 hj2 hr hB hv
  go_enter Tryz.func71, Tryz.ntmps71
  go_upto_region 1 with fail
  go_region_law (refine step_append_own_at rfl (.tmp 5) (.tmp 7) 25 rfl lo 3 i0 (.int .i64 0) 1 8 Tryz.underlying25 HI.out.1 HI.out.2.1 HI.out.2.2.1 HI.out.2.2.2 rfl (by decide) (.slice aa n ca) n xs rfl (Hrd.out.alloc _) ⟨w.heap.size, 0, none⟩ 1 1 [.int .i64 0] rfl rfl (cell_one_new _ _ _) (by simp [Value.oneCell']) q2.out q3 (by simp; omega) ?_; intro v' w8 hown' hgrow hat; obtain ⟨F, cz, hZ⟩ := Kg.ownsRow_some hown' (by omega); subst hZ; have r8 := (hgrow.block b (by simp; omega) (fun e => hne e.symm)).trans ((Below.heap_alloc _ _ _ hbl).trans HB.out); have d8 := (Kg.heap_cell r8 o).trans ((Kg.heap_cell HB.out o).symm.trans cv); have f8 := Kg.heap_frozen r8 o; have g8 := (cell_blk ((hgrow.block c2 (by simp; omega) (fun e => hnc e.symm)).trans (Below.heap_alloc _ _ _ hcl)) 0).trans hc)
  all_goals
    have HG : Hid (Grw w (w8.setCell ⟨b, o, none⟩ (.slice (some ⟨F, 0, none⟩) (n + 1) cz)) b o t 3 1 lo cs (.slice aa n ca) n xs [.int .i64 0] (.slice (some ⟨F, 0, none⟩) (n + 1) cz)) := by
      have t8 : Kg.Touch (b :: (Value.slice aa n ca).ownBlock.toList) w w8 := ⟨hgrow.os, hgrow.tape, hgrow.output, by have := hgrow.size; simp at this; omega, fun k hk hm => (hgrow.block k (by simp; omega) (fun e => hm (List.mem_cons_of_mem _ (by rw [Option.mem_toList]; exact e.symm)))).trans (Below.heap_alloc _ _ _ hk)⟩
      refine ⟨Kg.heap_set r8 o _, Kg.ownsRow_setOther hown' (Kg.row_ne r8 hown' hte) _, t8.trans (Kg.Touch.setCell _ _ _ (by simp)), ?_⟩
      rcases hat with h1 | h1
      · exact .inl h1
      · exact .inr ⟨_, h1, by simp⟩
    go_wp2_with fail
    refine bodyPost_end (v := .tuple #[]) ?_ rfl ⟨rfl, F, cz, HG.out⟩
    simp [results, Tryz.results71, go_sem]

theorem infoU6 : (Tryz.prog.info? 26).map (fun i => (i.zero, i.size, i.bytes)) = some (some (.int .u64 0), 1, 8) := by kernel_rfl

set_option maxHeartbeats 8000000 in
theorem growU_any {w : World} {b o t lo n c2 : Nat} {cs : Array Value} {a : Value} {xs : List Value} (hcl : c2 < w.heap.size) (hc : w.cell? ⟨c2, 0, none⟩ = some (.pointer (some ⟨b, o, none⟩))) (hB : w.heap[b]? = some (.cells cs t (0, 0))) (hv : cs[o]? = some a) (hr : w.ownsRow lo 26 1 a n xs) (hnc : a.ownBlock ≠ some c2) (hte : t ≠ 26) (hlo : lo ≤ w.heap.size) (hn : n ≤ 1000000000000) :
    Calls Tryz.prog 78 #[.pointer (some ⟨c2, 0, none⟩)] w fun e w' => e = .returned (.tuple #[]) ∧ ∃ F cap, Grw w w' b o t 26 1 lo cs a n xs [.int .u64 0] (.slice (some ⟨F, 0, none⟩) (n + 1) cap) := by
  obtain ⟨i0, hi0, hj0, hj1, hj2⟩ := info_parts infoU6
  have HI : Hid (Tryz.prog.info? 26 = some i0 ∧ i0.zero = some (.int .u64 0) ∧ i0.size = 1 ∧ i0.bytes = 8) := ⟨hi0, hj0, hj1, hj2⟩
  have HB : Hid (w.heap[b]? = some (.cells cs t (0, 0))) := hB
  have hbl := Kg.heap_lt hB
  have hne : a.ownBlock ≠ some b := fun e => Kg.row_ne hB hr hte e.symm
  have Hr : Hid (w.ownsRow lo 26 1 a n xs) := hr
  have Hrd : Hid (w.drew.ownsRow lo 26 1 a n xs) := hr
  obtain ⟨aa, ca, rfl⟩ := own_slI hr
  have cv := (Kg.heap_cell hB o).trans hv
  have fz := Kg.heap_frozen hB o
  have cvd : w.drew.cell? ⟨b, o, none⟩ = some (.slice aa n ca) := cv
  have hcd : w.drew.cell? ⟨c2, 0, none⟩ = some (.pointer (some ⟨b, o, none⟩)) := hc
  have hba : Below w.heap.size w (w.alloc (.cells #[.int .u64 0] 26)) := Below.alloc (Below.refl _ _) (Nat.le_refl _) _
  have cva := (hba.cell (p := ⟨b, o, none⟩) hbl).trans cv
  have hca := (hba.cell (p := ⟨c2, 0, none⟩) hcl).trans hc
  have q2 : Hid (n + 1 ≤ maxLen) := by show _ ≤ _; simp only [maxLen]; omega
  have q3 : (n + 1) * 8 ≤ 140737488355328 := by omega
  clear hi0 hj0 hj1 hj2 hr hB hv
  go_enter Tryz.func78, Tryz.ntmps78
  go_upto_region 1 with fail
  go_region_law (refine step_append_own_at rfl (.tmp 5) (.tmp 7) 56 rfl lo 26 i0 (.int .u64 0) 1 8 Tryz.underlying56 HI.out.1 HI.out.2.1 HI.out.2.2.1 HI.out.2.2.2 rfl (by decide) (.slice aa n ca) n xs rfl (Hrd.out.alloc _) ⟨w.heap.size, 0, none⟩ 1 1 [.int .u64 0] rfl rfl (cell_one_new _ _ _) (by simp [Value.oneCell']) q2.out q3 (by simp; omega) ?_; intro v' w8 hown' hgrow hat; obtain ⟨F, cz, hZ⟩ := Kg.ownsRow_some hown' (by omega); subst hZ; have r8 := (hgrow.block b (by simp; omega) (fun e => hne e.symm)).trans ((Below.heap_alloc _ _ _ hbl).trans HB.out); have d8 := (Kg.heap_cell r8 o).trans ((Kg.heap_cell HB.out o).symm.trans cv); have f8 := Kg.heap_frozen r8 o; have g8 := (cell_blk ((hgrow.block c2 (by simp; omega) (fun e => hnc e.symm)).trans (Below.heap_alloc _ _ _ hcl)) 0).trans hc)
  all_goals
    have HG : Hid (Grw w (w8.setCell ⟨b, o, none⟩ (.slice (some ⟨F, 0, none⟩) (n + 1) cz)) b o t 26 1 lo cs (.slice aa n ca) n xs [.int .u64 0] (.slice (some ⟨F, 0, none⟩) (n + 1) cz)) := by
      have t8 : Kg.Touch (b :: (Value.slice aa n ca).ownBlock.toList) w w8 := ⟨hgrow.os, hgrow.tape, hgrow.output, by have := hgrow.size; simp at this; omega, fun k hk hm => (hgrow.block k (by simp; omega) (fun e => hm (List.mem_cons_of_mem _ (by rw [Option.mem_toList]; exact e.symm)))).trans (Below.heap_alloc _ _ _ hk)⟩
      refine ⟨Kg.heap_set r8 o _, Kg.ownsRow_setOther hown' (Kg.row_ne r8 hown' hte) _, t8.trans (Kg.Touch.setCell _ _ _ (by simp)), ?_⟩
      rcases hat with h1 | h1
      · exact .inl h1
      · exact .inr ⟨_, h1, by simp⟩
    go_wp2_with fail
    refine bodyPost_end (v := .tuple #[]) ?_ rfl ⟨rfl, F, cz, HG.out⟩
    simp [results, Tryz.results78, go_sem]

theorem infoS6 : (Tryz.prog.info? 25).map (fun i => (i.zero, i.size, i.bytes)) = some (some (.slice none 0 0), 1, 24) := by kernel_rfl

set_option maxHeartbeats 8000000 in
theorem growS_any {w : World} {b o t lo n c2 : Nat} {cs : Array Value} {a : Value} {xs : List Value} (hcl : c2 < w.heap.size) (hc : w.cell? ⟨c2, 0, none⟩ = some (.pointer (some ⟨b, o, none⟩))) (hB : w.heap[b]? = some (.cells cs t (0, 0))) (hv : cs[o]? = some a) (hr : w.ownsRow lo 25 1 a n xs) (hnc : a.ownBlock ≠ some c2) (hte : t ≠ 25) (hlo : lo ≤ w.heap.size) (hn : n ≤ 1000000000000) :
    Calls Tryz.prog 79 #[.pointer (some ⟨c2, 0, none⟩)] w fun e w' => e = .returned (.tuple #[]) ∧ ∃ F cap, Grw w w' b o t 25 1 lo cs a n xs [.slice none 0 0] (.slice (some ⟨F, 0, none⟩) (n + 1) cap) := by
  obtain ⟨i0, hi0, hj0, hj1, hj2⟩ := info_parts infoS6
  have HI : Hid (Tryz.prog.info? 25 = some i0 ∧ i0.zero = some (.slice none 0 0) ∧ i0.size = 1 ∧ i0.bytes = 24) := ⟨hi0, hj0, hj1, hj2⟩
  have HB : Hid (w.heap[b]? = some (.cells cs t (0, 0))) := hB
  have hbl := Kg.heap_lt hB
  have hne : a.ownBlock ≠ some b := fun e => Kg.row_ne hB hr hte e.symm
  have Hr : Hid (w.ownsRow lo 25 1 a n xs) := hr
  have Hrd : Hid (w.drew.ownsRow lo 25 1 a n xs) := hr
  obtain ⟨aa, ca, rfl⟩ := own_slI hr
  have cv := (Kg.heap_cell hB o).trans hv
  have fz := Kg.heap_frozen hB o
  have cvd : w.drew.cell? ⟨b, o, none⟩ = some (.slice aa n ca) := cv
  have hcd : w.drew.cell? ⟨c2, 0, none⟩ = some (.pointer (some ⟨b, o, none⟩)) := hc
  have hba : Below w.heap.size w (w.alloc (.cells #[.slice none 0 0] 25)) := Below.alloc (Below.refl _ _) (Nat.le_refl _) _
  have cva := (hba.cell (p := ⟨b, o, none⟩) hbl).trans cv
  have hca := (hba.cell (p := ⟨c2, 0, none⟩) hcl).trans hc
  have q2 : Hid (n + 1 ≤ maxLen) := by show _ ≤ _; simp only [maxLen]; omega
  have q3 : (n + 1) * 24 ≤ 140737488355328 := by omega
  clear hi0 hj0 hj1 hj2 hr hB hv
  go_enter Tryz.func79, Tryz.ntmps79
  go_upto_region 1 with fail
  go_region_law (refine step_append_own_at rfl (.tmp 5) (.tmp 7) 33 rfl lo 25 i0 (.slice none 0 0) 1 24 Tryz.underlying33 HI.out.1 HI.out.2.1 HI.out.2.2.1 HI.out.2.2.2 rfl (by decide) (.slice aa n ca) n xs rfl (Hrd.out.alloc _) ⟨w.heap.size, 0, none⟩ 1 1 [.slice none 0 0] rfl rfl (cell_one_new _ _ _) (by simp [Value.oneCell']) q2.out q3 (by simp; omega) ?_; intro v' w8 hown' hgrow hat; obtain ⟨F, cz, hZ⟩ := Kg.ownsRow_some hown' (by omega); subst hZ; have r8 := (hgrow.block b (by simp; omega) (fun e => hne e.symm)).trans ((Below.heap_alloc _ _ _ hbl).trans HB.out); have d8 := (Kg.heap_cell r8 o).trans ((Kg.heap_cell HB.out o).symm.trans cv); have f8 := Kg.heap_frozen r8 o; have g8 := (cell_blk ((hgrow.block c2 (by simp; omega) (fun e => hnc e.symm)).trans (Below.heap_alloc _ _ _ hcl)) 0).trans hc)
  all_goals
    have HG : Hid (Grw w (w8.setCell ⟨b, o, none⟩ (.slice (some ⟨F, 0, none⟩) (n + 1) cz)) b o t 25 1 lo cs (.slice aa n ca) n xs [.slice none 0 0] (.slice (some ⟨F, 0, none⟩) (n + 1) cz)) := by
      have t8 : Kg.Touch (b :: (Value.slice aa n ca).ownBlock.toList) w w8 := ⟨hgrow.os, hgrow.tape, hgrow.output, by have := hgrow.size; simp at this; omega, fun k hk hm => (hgrow.block k (by simp; omega) (fun e => hm (List.mem_cons_of_mem _ (by rw [Option.mem_toList]; exact e.symm)))).trans (Below.heap_alloc _ _ _ hk)⟩
      refine ⟨Kg.heap_set r8 o _, Kg.ownsRow_setOther hown' (Kg.row_ne r8 hown' hte) _, t8.trans (Kg.Touch.setCell _ _ _ (by simp)), ?_⟩
      rcases hat with h1 | h1
      · exact .inl h1
      · exact .inr ⟨_, h1, by simp⟩
    go_wp2_with fail
    refine bodyPost_end (v := .tuple #[]) ?_ rfl ⟨rfl, F, cz, HG.out⟩
    simp [results, Tryz.results79, go_sem]

theorem infoF6 : (Tryz.prog.info? 33).map (fun i => (i.zero, i.size, i.bytes)) = some (some (.slice none 0 0), 1, 24) := by kernel_rfl

set_option maxHeartbeats 8000000 in
theorem growF_any {w : World} {b o t lo n c2 : Nat} {cs : Array Value} {a : Value} {xs : List Value} (hcl : c2 < w.heap.size) (hc : w.cell? ⟨c2, 0, none⟩ = some (.pointer (some ⟨b, o, none⟩))) (hB : w.heap[b]? = some (.cells cs t (0, 0))) (hv : cs[o]? = some a) (hr : w.ownsRow lo 33 1 a n xs) (hnc : a.ownBlock ≠ some c2) (hte : t ≠ 33) (hlo : lo ≤ w.heap.size) (hn : n ≤ 1000000000000) :
    Calls Tryz.prog 68 #[.pointer (some ⟨c2, 0, none⟩)] w fun e w' => e = .returned (.tuple #[]) ∧ ∃ F cap, Grw w w' b o t 33 1 lo cs a n xs [.slice none 0 0] (.slice (some ⟨F, 0, none⟩) (n + 1) cap) := by
  obtain ⟨i0, hi0, hj0, hj1, hj2⟩ := info_parts infoF6
  have HI : Hid (Tryz.prog.info? 33 = some i0 ∧ i0.zero = some (.slice none 0 0) ∧ i0.size = 1 ∧ i0.bytes = 24) := ⟨hi0, hj0, hj1, hj2⟩
  have HB : Hid (w.heap[b]? = some (.cells cs t (0, 0))) := hB
  have hbl := Kg.heap_lt hB
  have hne : a.ownBlock ≠ some b := fun e => Kg.row_ne hB hr hte e.symm
  have Hr : Hid (w.ownsRow lo 33 1 a n xs) := hr
  have Hrd : Hid (w.drew.ownsRow lo 33 1 a n xs) := hr
  obtain ⟨aa, ca, rfl⟩ := own_slI hr
  have cv := (Kg.heap_cell hB o).trans hv
  have fz := Kg.heap_frozen hB o
  have cvd : w.drew.cell? ⟨b, o, none⟩ = some (.slice aa n ca) := cv
  have hcd : w.drew.cell? ⟨c2, 0, none⟩ = some (.pointer (some ⟨b, o, none⟩)) := hc
  have hba : Below w.heap.size w (w.alloc (.cells #[.slice none 0 0] 33)) := Below.alloc (Below.refl _ _) (Nat.le_refl _) _
  have cva := (hba.cell (p := ⟨b, o, none⟩) hbl).trans cv
  have hca := (hba.cell (p := ⟨c2, 0, none⟩) hcl).trans hc
  have q2 : Hid (n + 1 ≤ maxLen) := by show _ ≤ _; simp only [maxLen]; omega
  have q3 : (n + 1) * 24 ≤ 140737488355328 := by omega
  clear hi0 hj0 hj1 hj2 hr hB hv
  go_enter Tryz.func68, Tryz.ntmps68
  go_upto_region 1 with fail
  go_region_law (refine step_append_own_at rfl (.tmp 5) (.tmp 7) 24 rfl lo 33 i0 (.slice none 0 0) 1 24 Tryz.underlying24 HI.out.1 HI.out.2.1 HI.out.2.2.1 HI.out.2.2.2 rfl (by decide) (.slice aa n ca) n xs rfl (Hrd.out.alloc _) ⟨w.heap.size, 0, none⟩ 1 1 [.slice none 0 0] rfl rfl (cell_one_new _ _ _) (by simp [Value.oneCell']) q2.out q3 (by simp; omega) ?_; intro v' w8 hown' hgrow hat; obtain ⟨F, cz, hZ⟩ := Kg.ownsRow_some hown' (by omega); subst hZ; have r8 := (hgrow.block b (by simp; omega) (fun e => hne e.symm)).trans ((Below.heap_alloc _ _ _ hbl).trans HB.out); have d8 := (Kg.heap_cell r8 o).trans ((Kg.heap_cell HB.out o).symm.trans cv); have f8 := Kg.heap_frozen r8 o; have g8 := (cell_blk ((hgrow.block c2 (by simp; omega) (fun e => hnc e.symm)).trans (Below.heap_alloc _ _ _ hcl)) 0).trans hc)
  all_goals
    have HG : Hid (Grw w (w8.setCell ⟨b, o, none⟩ (.slice (some ⟨F, 0, none⟩) (n + 1) cz)) b o t 33 1 lo cs (.slice aa n ca) n xs [.slice none 0 0] (.slice (some ⟨F, 0, none⟩) (n + 1) cz)) := by
      have t8 : Kg.Touch (b :: (Value.slice aa n ca).ownBlock.toList) w w8 := ⟨hgrow.os, hgrow.tape, hgrow.output, by have := hgrow.size; simp at this; omega, fun k hk hm => (hgrow.block k (by simp; omega) (fun e => hm (List.mem_cons_of_mem _ (by rw [Option.mem_toList]; exact e.symm)))).trans (Below.heap_alloc _ _ _ hk)⟩
      refine ⟨Kg.heap_set r8 o _, Kg.ownsRow_setOther hown' (Kg.row_ne r8 hown' hte) _, t8.trans (Kg.Touch.setCell _ _ _ (by simp)), ?_⟩
      rcases hat with h1 | h1
      · exact .inl h1
      · exact .inr ⟨_, h1, by simp⟩
    go_wp2_with fail
    refine bodyPost_end (v := .tuple #[]) ?_ rfl ⟨rfl, F, cz, HG.out⟩
    simp [results, Tryz.results68, go_sem]

end Go.Proofs.YtblbiikfipcbcaaGreatDoor

/-
  Images, the reader: the list of objects grows.
-/
set_option linter.unusedVariables false
set_option maxRecDepth 20000
namespace Go.Proofs.YtblbiikfipcbcaaGreatDoor
open Go.RowKit Go.Shelf

abbrev zob : Array Value := #[.int .u64 0, .int .i64 0, .int .i64 0, .slice none 0 0, .slice none 0 0]
theorem infoO6 : (Tryz.prog.info? 58).map (fun i => (i.zero, i.size, i.bytes)) = some (some (.agg zob), 5, 72) := by kernel_rfl

theorem cells5_new (w : World) (t : TypeId) : ∀ j u, zob.toList[j]? = some u → (w.alloc (.cells zob t)).cell? ((⟨w.heap.size, 0, none⟩ : Addr).add j) = some u := by
  intro j u hu
  rw [Addr.add_lit, Nat.zero_add, Kg.heap_cell (heap_alloc_new w (.cells zob t (0, 0))) j]
  simpa using hu

theorem row_ne5 {w : World} {b base t n : Nat} {cs : Array Value} {v : Value} {xs : List Value} {e : Nat} (hh : w.heap[b]? = some (.cells cs t (0, 0))) (hr : w.ownsRow base e 5 v n xs) (hte : t ≠ e) : some b ≠ v.ownBlock := by
  intro h
  rcases hr.2 with ⟨rfl, _⟩ | ⟨g, cap, cur, rfl, _, hg, _⟩
  · simp [Value.ownBlock] at h
  · simp only [Value.ownBlock, Option.some.injEq] at h
    subst h
    rw [hh] at hg
    simp only [Option.some.injEq, Obj.cells.injEq] at hg
    exact hte hg.2.1

set_option maxHeartbeats 8000000 in
theorem growO_any {w : World} {b o t lo n c2 : Nat} {cs : Array Value} {a : Value} {xs : List Value} (hcl : c2 < w.heap.size) (hc : w.cell? ⟨c2, 0, none⟩ = some (.pointer (some ⟨b, o, none⟩))) (hB : w.heap[b]? = some (.cells cs t (0, 0))) (hv : cs[o]? = some a) (hr : w.ownsRow lo 58 5 a n xs) (hnc : a.ownBlock ≠ some c2) (hte : t ≠ 58) (hlo : lo ≤ w.heap.size) (hn : n ≤ 1000000000000) :
    Calls Tryz.prog 65 #[.pointer (some ⟨c2, 0, none⟩)] w fun e w' => e = .returned (.tuple #[]) ∧ ∃ F cap, Grw w w' b o t 58 5 lo cs a n xs zob.toList (.slice (some ⟨F, 0, none⟩) (n + 1) cap) := by
  obtain ⟨i0, hi0, hj0, hj1, hj2⟩ := info_parts infoO6
  have HI : Hid (Tryz.prog.info? 58 = some i0 ∧ i0.zero = some (.agg zob) ∧ i0.size = 5 ∧ i0.bytes = 72) := ⟨hi0, hj0, hj1, hj2⟩
  have hbl := Kg.heap_lt hB
  have hne : a.ownBlock ≠ some b := fun e => row_ne5 hB hr hte e.symm
  obtain ⟨aa, ca, rfl⟩ := own_slI hr
  have b1 : Below w.heap.size w (w.alloc (.cells zob 58)) := Below.alloc (Below.refl _ _) (Nat.le_refl _) _
  have hx := heap_alloc_new w (.cells zob 58 (0, 0))
  have hs1 : (w.alloc (.cells zob 58)).heap.size = w.heap.size + 1 := by simp
  have cv := (b1.cell (p := ⟨b, o, none⟩) hbl).trans ((Kg.heap_cell hB o).trans hv)
  have hc1 := (b1.cell (p := ⟨c2, 0, none⟩) hcl).trans hc
  have HB1 : Hid ((w.alloc (.cells zob 58)).heap[b]? = some (.cells cs t (0, 0))) := (b1.block b hbl).trans hB
  have Hr1 : Hid ((w.alloc (.cells zob 58)).ownsRow lo 58 5 (.slice aa n ca) n xs) := hr.alloc _
  have q2 : Hid (n + 1 ≤ maxLen) := by show _ ≤ _; simp only [maxLen]; omega
  have q3 : (n + 1) * 72 ≤ 140737488355328 := by omega
  clear hi0 hj0 hj1 hj2
  go_enter Tryz.func65, Tryz.ntmps65
  go_upto_region 1 with fail
  have Hb1 : Hid (Below w.heap.size w (w.alloc (.cells zob 58))) := b1
  generalize w.alloc (.cells zob 58) = W at *
  have x0 := (Kg.heap_cell hx 0).trans (show _ = some (.int .u64 0) from rfl)
  have x1 := (Kg.heap_cell hx 1).trans (show _ = some (.int .i64 0) from rfl)
  have x2 := (Kg.heap_cell hx 2).trans (show _ = some (.int .i64 0) from rfl)
  have x3 := (Kg.heap_cell hx 3).trans (show _ = some (.slice none 0 0) from rfl)
  have x4 := (Kg.heap_cell hx 4).trans (show _ = some (.slice none 0 0) from rfl)
  have hWl : b < W.heap.size := by omega
  have hcW : c2 < W.heap.size := by omega
  have Hrd : Hid (W.drew.ownsRow lo 58 5 (.slice aa n ca) n xs) := Hr1.out
  have hba : Below W.heap.size W (W.alloc (.cells zob 58)) := Below.alloc (Below.refl _ _) (Nat.le_refl _) _
  have cva := (hba.cell (p := ⟨b, o, none⟩) hWl).trans cv
  have hca := (hba.cell (p := ⟨c2, 0, none⟩) hcW).trans hc1
  have fz := Kg.heap_frozen HB1.out o
  have q1 : Hid (∀ u ∈ zob.toList, u.oneCell' = true) := by show ∀ u ∈ zob.toList, u.oneCell' = true; simp [Value.oneCell']
  have q4 : Hid (∀ j u, zob.toList[j]? = some u → (W.drew.alloc (.cells zob 58)).cell? ((⟨W.heap.size, 0, none⟩ : Addr).add j) = some u) := cells5_new W.drew 58
  have Hs1 : Hid (W.heap.size = w.heap.size + 1) := hs1
  have hlW : lo ≤ W.heap.size := by omega
  clear b1 hx hr hB hv hs1
  go_region_law (refine step_append_own_at rfl (.tmp 5) (.tmp 7) 23 rfl lo 58 i0 (.agg zob) 5 72 Tryz.underlying23 HI.out.1 HI.out.2.1 HI.out.2.2.1 HI.out.2.2.2 rfl (by decide) (.slice aa n ca) n xs rfl (Hrd.out.alloc _) ⟨W.heap.size, 0, none⟩ 1 1 zob.toList rfl rfl q4.out q1.out q2.out q3 (by simp; omega) ?_; intro v' w8 hown' hgrow hat; obtain ⟨F, cz, hZ⟩ := Kg.ownsRow_some hown' (by omega); subst hZ; have r8 := (hgrow.block b (by simp; omega) (fun e => hne e.symm)).trans ((Below.heap_alloc _ _ _ hWl).trans HB1.out); have d8 := (Kg.heap_cell r8 o).trans ((Kg.heap_cell HB1.out o).symm.trans cv); have f8 := Kg.heap_frozen r8 o; have g8 := (cell_blk ((hgrow.block c2 (by simp; omega) (fun e => hnc e.symm)).trans (Below.heap_alloc _ _ _ hcW)) 0).trans hc1)
  all_goals
    have HG : Hid (Grw w (w8.setCell ⟨b, o, none⟩ (.slice (some ⟨F, 0, none⟩) (n + 1) cz)) b o t 58 5 lo cs (.slice aa n ca) n xs zob.toList (.slice (some ⟨F, 0, none⟩) (n + 1) cz)) := by
      have t8 : Kg.Touch (b :: (Value.slice aa n ca).ownBlock.toList) W w8 := ⟨hgrow.os, hgrow.tape, hgrow.output, by have := hgrow.size; simp at this; omega, fun k hk hm => (hgrow.block k (by simp; omega) (fun e => hm (List.mem_cons_of_mem _ (by rw [Option.mem_toList]; exact e.symm)))).trans (Below.heap_alloc _ _ _ hk)⟩
      refine ⟨Kg.heap_set r8 o _, Kg.ownsRow_setOther hown' (row_ne5 r8 hown' hte) _, ((Kg.Touch.of_below Hb1.out _).trans t8).trans (Kg.Touch.setCell _ _ _ (by simp)), ?_⟩
      rcases hat with h1 | h1
      · exact .inl h1
      · exact .inr ⟨_, h1, by have := Hs1.out; simp; omega⟩
    go_wp2_with fail
    refine bodyPost_end (v := .tuple #[]) ?_ rfl ⟨rfl, F, cz, HG.out⟩
    simp [results, Tryz.results65, go_sem]

end Go.Proofs.YtblbiikfipcbcaaGreatDoor

