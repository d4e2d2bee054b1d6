/-
  PolicyRoom: fix.
-/
import Derived.Test.YtcijdbhabbepaaaPW2
set_option linter.unusedVariables false
set_option maxRecDepth 20000
namespace Go.Proofs.Ytcijdbhabbepaaa.Po
open Go.RowKit Go.Proofs.Ytcijdbhabbepaaa.Kg

/-- A number within its bounds. -/
def mm (x hi : Int) : Int := if x < 0 then (if hi < 0 then hi else 0) else if hi < x then hi else x
theorem mm_in {x hi : Int} (h : 0 ≤ hi) : 0 ≤ mm x hi ∧ mm x hi ≤ hi := by unfold mm; repeat' split <;> omega

/-- What may be of a memory. -/
def Mem12.fix (m : Mem12) : Wl := ⟨mm m.yl m.c.eden, mm m.yd (m.c.eden - mm m.yl m.c.eden), 0, 0, mm m.tl m.c.ten, mm m.td (m.c.ten - mm m.tl m.c.ten)⟩

set_option maxHeartbeats 16000000 in
theorem fix_any (m : Mem12) (hok : m.c.Ok) (w : World) : Calls Try.prog 17 #[memv m] w fun e w' => ∃ D, e = .returned (.pointer (some ⟨D, 0, none⟩)) ∧ w.heap.size ≤ D ∧ Wld w' D m.c m.fix ∧ Below w.heap.size w w' := by
  obtain ⟨w0, hw0⟩ : ∃ q9, q9 = w.alloc (.cells (mcells m) 47) := ⟨_, rfl⟩
  have hb0 : Below w.heap.size w w0 := by rw [hw0]; exact Below.alloc (Below.refl _ _) (Nat.le_refl _) _
  have hM : Mbx w0 w.heap.size m := by rw [hw0]; exact heap_alloc_new w _
  have HB : Hid (Below w.heap.size w w0) := hb0
  have HM : Hid (Mbx w0 w.heap.size m) := hM
  have b7 : 64 ≤ m.c.eden ∧ m.c.eden ≤ 65536 := ⟨hok.e0, hok.e1⟩
  have b8 : 64 ≤ m.c.ten ∧ m.c.ten ≤ 65536 := ⟨hok.t0, hok.t1⟩
  have k0 := mem_cell hM 0 (.int .i64 m.c.eden) rfl
  have k1 := mem_cell hM 1 (.int .i64 m.c.surv) rfl
  have k2 := mem_cell hM 2 (.int .i64 m.c.ten) rfl
  have k3 := mem_cell hM 3 (.int .i64 m.c.large) rfl
  have k4 := mem_cell hM 4 (.int .i64 m.c.floor) rfl
  have k5 := mem_cell hM 5 (.int .i64 m.c.num) rfl
  have k6 := mem_cell hM 6 (.int .i64 m.c.den) rfl
  have k7 := mem_cell hM 7 (.int .i64 m.c.target) rfl
  have k8 := mem_cell hM 8 (.int .i64 m.c.maxAge) rfl
  have k9 := mem_cell hM 9 (.int .i64 m.c.threads) rfl
  have k10 := mem_cell hM 10 (.int .i64 m.c.slots) rfl
  have k11 := mem_cell hM 11 (.int .i64 m.c.handles) rfl
  have k12 := mem_cell hM 12 (.int .i64 m.c.buffer) rfl
  have k13 := mem_cell hM 13 (.int .i64 m.c.workers) rfl
  clear hb0 hM hok
  go_enter Try.func17, Try.ntmps17
  go_upto_region 1 with fail
  rw [← hw0]
  clear hw0
  go_upto_region 2 with fail
  have hWl : Wld (w0.alloc (.cells (wcells m.c ⟨0, 0, 0, 0, 0, 0⟩) 51)) w0.heap.size m.c ⟨0, 0, 0, 0, 0, 0⟩ := heap_alloc_new w0 _
  have HB1 : Hid (Below w.heap.size w (w0.alloc (.cells (wcells m.c ⟨0, 0, 0, 0, 0, 0⟩) 51))) := Below.alloc HB.out HB.out.size _
  have HM1 : Hid (Mbx (w0.alloc (.cells (wcells m.c ⟨0, 0, 0, 0, 0, 0⟩) 51)) w.heap.size m) := (Below.heap_alloc _ _ _ (heap_lt HM.out)).trans HM.out
  have HD : Hid (w.heap.size ≤ w0.heap.size) := HB.out.size
  have HDn : Hid (w.heap.size ≠ w0.heap.size) := (by have := heap_lt HM.out; omega : w.heap.size ≠ w0.heap.size)
  have HW1 : Hid (Wld (w0.alloc (.cells (wcells m.c ⟨0, 0, 0, 0, 0, 0⟩) 51)) w0.heap.size m.c ⟨0, 0, 0, 0, 0, 0⟩) := hWl
  clear hWl HB HM k0 k1 k2 k3 k4 k5 k6 k7 k8 k9 k10 k11 k12 k13
  generalize (w0.alloc (.cells (wcells m.c ⟨0, 0, 0, 0, 0, 0⟩) 51)) = w1 at HW1 HB1 HM1 ⊢
  generalize w0.heap.size = D at HW1 HD HDn ⊢
  have k0 := mem_cell HM1.out 0 (.int .i64 m.c.eden) rfl
  go_cut [4] from 9 to 12 (fun v wc => v = .int .i64 m.c.eden ∧ w1 = wc)
  case first =>
    go_wp2
    go_meet
    exact ⟨rfl, rfl⟩
  case rest =>
  obtain ⟨rfl, rfl⟩ := hcut
  apply_assumption
  clear k0
  obtain ⟨EL, hEL⟩ : ∃ v, v = mm m.yl m.c.eden := ⟨_, rfl⟩
  obtain ⟨ED, hED⟩ : ∃ v, v = mm m.yd (m.c.eden - EL) := ⟨_, rfl⟩
  obtain ⟨OL, hOL⟩ : ∃ v, v = mm m.tl m.c.ten := ⟨_, rfl⟩
  obtain ⟨OD, hOD⟩ : ∃ v, v = mm m.td (m.c.ten - OL) := ⟨_, rfl⟩
  have bEL : 0 ≤ EL ∧ EL ≤ m.c.eden := by rw [hEL]; exact mm_in (by omega)
  have bOL : 0 ≤ OL ∧ OL ≤ m.c.ten := by rw [hOL]; exact mm_in (by omega)
  have HEL : Hid (EL = mm m.yl m.c.eden) := hEL
  have HED : Hid (ED = mm m.yd (m.c.eden - EL)) := hED
  have HOL : Hid (OL = mm m.tl m.c.ten) := hOL
  have HOD : Hid (OD = mm m.td (m.c.ten - OL)) := hOD
  clear hEL hED hOL hOD
  have s1 : wrap64 (m.c.eden - EL) = m.c.eden - EL := w64 _ (by omega) (by omega)
  have s2 : wrap64 (m.c.ten - OL) = m.c.ten - OL := w64 _ (by omega) (by omega)
  refine wp_seq_k ?_
  intro Kel hKel
  go_cut [4] from 12 to 20 (fun v wc => v = .int .i64 m.c.eden ∧ wc = (w1.setCell ⟨D, 14, none⟩ (.int .i64 EL)))
  case first =>
    have x1 := mem_cell HM1.out 14 (.int .i64 m.yl) rfl
    have x3 := HW1.out.cell 14 (.int .i64 0) rfl
    have x4 := HW1.out.frozen 14
    by_cases n1 : m.yl < 0
    · have n9 : 0 ≤ m.c.eden := by omega
      have e : Hid (EL = 0) := HEL.out.trans (by unfold mm; rw [if_pos n1, if_neg (by omega)])
      go_wp2
      all_goals (first | (go_meet; exact ⟨rfl, by first | (rw [e.out]; done) | (rw [e.out]; rfl)⟩) | (exfalso; omega))
    · by_cases n2 : m.c.eden < m.yl
      · have e : Hid (EL = m.c.eden) := HEL.out.trans (by unfold mm; rw [if_neg n1, if_pos n2])
        go_wp2
        all_goals (first | (go_meet; exact ⟨rfl, by first | (rw [e.out]; done) | (rw [e.out]; rfl)⟩) | (exfalso; omega))
      · have e : Hid (EL = m.yl) := HEL.out.trans (by unfold mm; rw [if_neg n1, if_neg n2])
        go_wp2
        all_goals (first | (go_meet; exact ⟨rfl, by first | (rw [e.out]; done) | (rw [e.out]; rfl)⟩) | (exfalso; omega))
  case rest =>
  obtain ⟨rfl, rfl⟩ := hcut
  apply_assumption
  have HWd2 := HW1
  have HBd2 := HB1
  have HMd2 := HM1
  have HW2 : Hid (Wld (w1.setCell ⟨D, 14, none⟩ (.int .i64 EL)) D m.c ⟨EL, 0, 0, 0, 0, 0⟩) := HWd2.out.set 14 (.int .i64 EL) rfl
  have HB2 : Hid (Below w.heap.size w (w1.setCell ⟨D, 14, none⟩ (.int .i64 EL))) := HBd2.out.trans ((Kg.Touch.setCell (F := [D]) w1 _ _ (by simp)).below HBd2.out.size (fun q hq => by simp at hq; subst hq; exact HD.out))
  have HM2 : Hid (Mbx (w1.setCell ⟨D, 14, none⟩ (.int .i64 EL)) w.heap.size m) := ((Kg.Touch.setCell (F := [D]) w1 ⟨D, 14, none⟩ _ (by simp)).block w.heap.size (heap_lt HMd2.out) (by simpa using HDn.out)).trans HMd2.out
  clear HWd2 HBd2 HMd2 HW1 HB1 HM1
  generalize (w1.setCell ⟨D, 14, none⟩ (.int .i64 EL)) = w2 at HW2 HB2 HM2 ⊢
  refine wp_seq_k ?_
  intro Ked hKed
  go_cut [4] from 20 to 33 (fun v wc => v = .int .i64 m.c.eden ∧ wc = (w2.drew.setCell ⟨D, 15, none⟩ (.int .i64 ED)))
  case first =>
    have x1 := mem_cell HM2.out 15 (.int .i64 m.yd) rfl
    have x3 := HW2.out.cell 15 (.int .i64 0) rfl
    have x4 := HW2.out.frozen 15
    have x5 := HW2.out.cell 14 (.int .i64 EL) rfl
    by_cases n1 : m.yd < 0
    · have n9 : 0 ≤ (m.c.eden - EL) := by omega
      have e : Hid (ED = 0) := HED.out.trans (by unfold mm; rw [if_pos n1, if_neg (by omega)])
      have y3 : w2.drew.cell? ⟨D, 15, none⟩ = some (.int .i64 0) := x3
      have y4 : w2.drew.frozen? ⟨D, 15, none⟩ = false := x4
      refine quiet_tail 11 mixed (by kernel_rfl) ?_
      simp only [List.take_succ_cons, List.take_zero, List.drop_succ_cons, List.drop_zero]
      repeat (go_big_quiet_step (fail))
      refine wpQuiet_nil ?_
      clear x1 x3 x4 x5
      go_wp2
      all_goals (first | (go_meet; exact ⟨rfl, by first | (rw [e.out]; done) | (rw [e.out]; rfl)⟩) | (exfalso; omega))
    · by_cases n2 : (m.c.eden - EL) < m.yd
      · have e : Hid (ED = (m.c.eden - EL)) := HED.out.trans (by unfold mm; rw [if_neg n1, if_pos n2])
        have y3 : w2.drew.cell? ⟨D, 15, none⟩ = some (.int .i64 0) := x3
        have y4 : w2.drew.frozen? ⟨D, 15, none⟩ = false := x4
        refine quiet_tail 11 mixed (by kernel_rfl) ?_
        simp only [List.take_succ_cons, List.take_zero, List.drop_succ_cons, List.drop_zero]
        repeat (go_big_quiet_step (fail))
        refine wpQuiet_nil ?_
        clear x1 x3 x4 x5
        go_wp2
        all_goals (first | (go_meet; exact ⟨rfl, by first | (rw [e.out]; done) | (rw [e.out]; rfl)⟩) | (exfalso; omega))
      · have e : Hid (ED = m.yd) := HED.out.trans (by unfold mm; rw [if_neg n1, if_neg n2])
        have y3 : w2.drew.cell? ⟨D, 15, none⟩ = some (.int .i64 0) := x3
        have y4 : w2.drew.frozen? ⟨D, 15, none⟩ = false := x4
        refine quiet_tail 11 mixed (by kernel_rfl) ?_
        simp only [List.take_succ_cons, List.take_zero, List.drop_succ_cons, List.drop_zero]
        repeat (go_big_quiet_step (fail))
        refine wpQuiet_nil ?_
        clear x1 x3 x4 x5
        go_wp2
        all_goals (first | (go_meet; exact ⟨rfl, by first | (rw [e.out]; done) | (rw [e.out]; rfl)⟩) | (exfalso; omega))
  case rest =>
  obtain ⟨rfl, rfl⟩ := hcut
  apply_assumption
  have HWd3 : Hid (Wld w2.drew D m.c ⟨EL, 0, 0, 0, 0, 0⟩) := HW2.out
  have HBd3 : Hid (Below w.heap.size w w2.drew) := HB2.out.trans ((Kg.Touch.drew [] w2).below HB2.out.size (fun k hk => by cases hk))
  have HMd3 : Hid (Mbx w2.drew w.heap.size m) := HM2.out
  have HW3 : Hid (Wld (w2.drew.setCell ⟨D, 15, none⟩ (.int .i64 ED)) D m.c ⟨EL, ED, 0, 0, 0, 0⟩) := HWd3.out.set 15 (.int .i64 ED) rfl
  have HB3 : Hid (Below w.heap.size w (w2.drew.setCell ⟨D, 15, none⟩ (.int .i64 ED))) := HBd3.out.trans ((Kg.Touch.setCell (F := [D]) w2.drew _ _ (by simp)).below HBd3.out.size (fun q hq => by simp at hq; subst hq; exact HD.out))
  have HM3 : Hid (Mbx (w2.drew.setCell ⟨D, 15, none⟩ (.int .i64 ED)) w.heap.size m) := ((Kg.Touch.setCell (F := [D]) w2.drew ⟨D, 15, none⟩ _ (by simp)).block w.heap.size (heap_lt HMd3.out) (by simpa using HDn.out)).trans HMd3.out
  clear HWd3 HBd3 HMd3 HW2 HB2 HM2
  generalize (w2.drew.setCell ⟨D, 15, none⟩ (.int .i64 ED)) = w3 at HW3 HB3 HM3 ⊢
  refine wp_seq_k ?_
  intro Kol hKol
  go_cut [4] from 33 to 43 (fun v wc => v = .int .i64 m.c.eden ∧ wc = (w3.setCell ⟨D, 18, none⟩ (.int .i64 OL)))
  case first =>
    have x1 := mem_cell HM3.out 16 (.int .i64 m.tl) rfl
    have x3 := HW3.out.cell 18 (.int .i64 0) rfl
    have x4 := HW3.out.frozen 18
    have x2 := mem_cell HM3.out 2 (.int .i64 m.c.ten) rfl
    by_cases n1 : m.tl < 0
    · have n9 : 0 ≤ m.c.ten := by omega
      have e : Hid (OL = 0) := HOL.out.trans (by unfold mm; rw [if_pos n1, if_neg (by omega)])
      go_wp2
      all_goals (first | (go_meet; exact ⟨rfl, by first | (rw [e.out]; done) | (rw [e.out]; rfl)⟩) | (exfalso; omega))
    · by_cases n2 : m.c.ten < m.tl
      · have e : Hid (OL = m.c.ten) := HOL.out.trans (by unfold mm; rw [if_neg n1, if_pos n2])
        go_wp2
        all_goals (first | (go_meet; exact ⟨rfl, by first | (rw [e.out]; done) | (rw [e.out]; rfl)⟩) | (exfalso; omega))
      · have e : Hid (OL = m.tl) := HOL.out.trans (by unfold mm; rw [if_neg n1, if_neg n2])
        go_wp2
        all_goals (first | (go_meet; exact ⟨rfl, by first | (rw [e.out]; done) | (rw [e.out]; rfl)⟩) | (exfalso; omega))
  case rest =>
  obtain ⟨rfl, rfl⟩ := hcut
  apply_assumption
  have HWd4 := HW3
  have HBd4 := HB3
  have HMd4 := HM3
  have HW4 : Hid (Wld (w3.setCell ⟨D, 18, none⟩ (.int .i64 OL)) D m.c ⟨EL, ED, 0, 0, OL, 0⟩) := HWd4.out.set 18 (.int .i64 OL) rfl
  have HB4 : Hid (Below w.heap.size w (w3.setCell ⟨D, 18, none⟩ (.int .i64 OL))) := HBd4.out.trans ((Kg.Touch.setCell (F := [D]) w3 _ _ (by simp)).below HBd4.out.size (fun q hq => by simp at hq; subst hq; exact HD.out))
  have HM4 : Hid (Mbx (w3.setCell ⟨D, 18, none⟩ (.int .i64 OL)) w.heap.size m) := ((Kg.Touch.setCell (F := [D]) w3 ⟨D, 18, none⟩ _ (by simp)).block w.heap.size (heap_lt HMd4.out) (by simpa using HDn.out)).trans HMd4.out
  clear HWd4 HBd4 HMd4 HW3 HB3 HM3
  generalize (w3.setCell ⟨D, 18, none⟩ (.int .i64 OL)) = w4 at HW4 HB4 HM4 ⊢
  refine wp_seq_k ?_
  intro Kod hKod
  go_cut [4] from 43 to 58 (fun v wc => v = .int .i64 m.c.eden ∧ wc = (w4.drew.setCell ⟨D, 19, none⟩ (.int .i64 OD)))
  case first =>
    have x1 := mem_cell HM4.out 17 (.int .i64 m.td) rfl
    have x3 := HW4.out.cell 19 (.int .i64 0) rfl
    have x4 := HW4.out.frozen 19
    have x2 := mem_cell HM4.out 2 (.int .i64 m.c.ten) rfl
    have x5 := HW4.out.cell 18 (.int .i64 OL) rfl
    by_cases n1 : m.td < 0
    · have n9 : 0 ≤ (m.c.ten - OL) := by omega
      have e : Hid (OD = 0) := HOD.out.trans (by unfold mm; rw [if_pos n1, if_neg (by omega)])
      have y3 : w4.drew.cell? ⟨D, 19, none⟩ = some (.int .i64 0) := x3
      have y4 : w4.drew.frozen? ⟨D, 19, none⟩ = false := x4
      refine quiet_tail 13 mixed (by kernel_rfl) ?_
      simp only [List.take_succ_cons, List.take_zero, List.drop_succ_cons, List.drop_zero]
      repeat (go_big_quiet_step (fail))
      refine wpQuiet_nil ?_
      clear x1 x3 x4 x2 x5
      go_wp2
      all_goals (first | (go_meet; exact ⟨rfl, by first | (rw [e.out]; done) | (rw [e.out]; rfl)⟩) | (exfalso; omega))
    · by_cases n2 : (m.c.ten - OL) < m.td
      · have e : Hid (OD = (m.c.ten - OL)) := HOD.out.trans (by unfold mm; rw [if_neg n1, if_pos n2])
        have y3 : w4.drew.cell? ⟨D, 19, none⟩ = some (.int .i64 0) := x3
        have y4 : w4.drew.frozen? ⟨D, 19, none⟩ = false := x4
        refine quiet_tail 13 mixed (by kernel_rfl) ?_
        simp only [List.take_succ_cons, List.take_zero, List.drop_succ_cons, List.drop_zero]
        repeat (go_big_quiet_step (fail))
        refine wpQuiet_nil ?_
        clear x1 x3 x4 x2 x5
        go_wp2
        all_goals (first | (go_meet; exact ⟨rfl, by first | (rw [e.out]; done) | (rw [e.out]; rfl)⟩) | (exfalso; omega))
      · have e : Hid (OD = m.td) := HOD.out.trans (by unfold mm; rw [if_neg n1, if_neg n2])
        have y3 : w4.drew.cell? ⟨D, 19, none⟩ = some (.int .i64 0) := x3
        have y4 : w4.drew.frozen? ⟨D, 19, none⟩ = false := x4
        refine quiet_tail 13 mixed (by kernel_rfl) ?_
        simp only [List.take_succ_cons, List.take_zero, List.drop_succ_cons, List.drop_zero]
        repeat (go_big_quiet_step (fail))
        refine wpQuiet_nil ?_
        clear x1 x3 x4 x2 x5
        go_wp2
        all_goals (first | (go_meet; exact ⟨rfl, by first | (rw [e.out]; done) | (rw [e.out]; rfl)⟩) | (exfalso; omega))
  case rest =>
  obtain ⟨rfl, rfl⟩ := hcut
  apply_assumption
  have HWd5 : Hid (Wld w4.drew D m.c ⟨EL, ED, 0, 0, OL, 0⟩) := HW4.out
  have HBd5 : Hid (Below w.heap.size w w4.drew) := HB4.out.trans ((Kg.Touch.drew [] w4).below HB4.out.size (fun k hk => by cases hk))
  have HMd5 : Hid (Mbx w4.drew w.heap.size m) := HM4.out
  have HW5 : Hid (Wld (w4.drew.setCell ⟨D, 19, none⟩ (.int .i64 OD)) D m.c ⟨EL, ED, 0, 0, OL, OD⟩) := HWd5.out.set 19 (.int .i64 OD) rfl
  have HB5 : Hid (Below w.heap.size w (w4.drew.setCell ⟨D, 19, none⟩ (.int .i64 OD))) := HBd5.out.trans ((Kg.Touch.setCell (F := [D]) w4.drew _ _ (by simp)).below HBd5.out.size (fun q hq => by simp at hq; subst hq; exact HD.out))
  have HM5 : Hid (Mbx (w4.drew.setCell ⟨D, 19, none⟩ (.int .i64 OD)) w.heap.size m) := ((Kg.Touch.setCell (F := [D]) w4.drew ⟨D, 19, none⟩ _ (by simp)).block w.heap.size (heap_lt HMd5.out) (by simpa using HDn.out)).trans HMd5.out
  clear HWd5 HBd5 HMd5 HW4 HB4 HM4
  generalize (w4.drew.setCell ⟨D, 19, none⟩ (.int .i64 OD)) = w5 at HW5 HB5 HM5 ⊢
  go_wp2
  go_ret
  refine ⟨D, rfl, HD.out, ?_, HB5.out⟩
  have h9 := HW5.out
  rw [HOD.out, HOL.out, HED.out, HEL.out] at h9
  exact h9

end Go.Proofs.Ytcijdbhabbepaaa.Po
