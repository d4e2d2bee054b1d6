/-
  PolicyRoom: minor.
-/
import Derived.Test.YtcijdbhabbepaaaPW1
set_option linter.unusedVariables false
set_option maxRecDepth 20000
namespace Go.Proofs.Ytcijdbhabbepaaa.Po
open Go.RowKit Go.Proofs.Ytcijdbhabbepaaa.Kg

/-- A Memory in a block. -/
def Mbx (w : World) (b : Nat) (m : Mem12) : Prop := w.heap[b]? = some (.cells (mcells m) 47 (0, 0))
theorem mem_cell {w : World} {b : Nat} {m : Mem12} (h : Mbx w b m) (j : Nat) (v : Value) (hv : (mcells m)[j]? = some v) : w.cell? ⟨b, j, none⟩ = some v := (heap_cell h j).trans hv
theorem Mbx.below {n0 : Nat} {w w' : World} {b : Nat} {m : Mem12} (h : Mbx w b m) (hb : Below n0 w w') (hl : b < n0) : Mbx w' b m := (hb.block b hl).trans h

theorem Wld.set {w : World} {D : Nat} {c : Cfg} {z z' : Wl} (h : Wld w D c z) (j : Nat) (v : Value) (hz : (wcells c z).setIfInBounds j v = wcells c z') : Wld (w.setCell ⟨D, j, none⟩ v) D c z' := by
  have h1 := heap_set h j v
  rw [hz] at h1
  exact h1

set_option maxHeartbeats 16000000 in
theorem minor_any {w : World} {D : Nat} {c : Cfg} {z : Wl} (h : Wld w D c z) (hs : Wsm c z) (all : Bool) (m : Mem12) :
    Calls Try.prog 19 #[.pointer (some ⟨D, 0, none⟩), .bool all, memv m] w fun e w' => e = .returned (.tuple #[]) ∧ Wld w' D c (z.minor c.surv all m.sv m.pr) ∧ Kg.Touch [D] w w' := by
  obtain ⟨Z, hZ⟩ : ∃ Z, Z = z.minor c.surv all m.sv m.pr := ⟨_, rfl⟩
  rw [← hZ]
  have HZ0 : Hid (Z = z.minor c.surv all m.sv m.pr) := hZ
  clear hZ
  obtain ⟨w0, hw0⟩ : ∃ q9, q9 = w.alloc (.cells (mcells m) 47) := ⟨_, rfl⟩
  have hb0 : Below w.heap.size w w0 := by rw [hw0]; exact Below.alloc (Below.refl _ _) (Nat.le_refl _) _
  have h0 : Wld w0 D c z := h.touch (Kg.Touch.of_below hb0 []) (by simp)
  have hM : Mbx w0 w.heap.size m := by rw [hw0]; exact heap_alloc_new w _
  have HT : Hid (Kg.Touch [D] w w0) := Kg.Touch.of_below hb0 _
  have HW : Hid (Wld w0 D c z) := h0
  have HM : Hid (Mbx w0 w.heap.size m) := hM
  have HS : Hid (Wsm c z) := hs
  have k14 := h0.cell 14 (.int .i64 z.el) rfl
  have k16 := h0.cell 16 (.int .i64 z.fl) rfl
  have b1 := hs.n1
  have b2 := hs.n2
  have b3 := hs.n3
  have b4 := hs.n4
  have b5 := hs.n5
  have b6 := hs.n6
  have b7 : 64 ≤ c.surv ∧ c.surv ≤ 65536 := ⟨hs.ok.s0, hs.ok.s1⟩
  have s1 : wrap64 (z.el + z.fl) = z.el + z.fl := w64 _ (by omega) (by omega)
  have s2 : wrap64 (z.ed + z.fd) = z.ed + z.fd := w64 _ (by omega) (by omega)
  clear h h0 hb0 hM hs
  go_enter Try.func19, Try.ntmps19
  go_upto_region 1 with fail
  rw [← hw0]
  clear hw0
  go_quiet (fail)
  have HW1 : Hid (Wld (w0.drewN nq) D c z) := HW.out
  have HM1 : Hid (Mbx (w0.drewN nq) w.heap.size m) := HM.out
  have HT1 : Hid (Kg.Touch [D] w (w0.drewN nq)) := HT.out.trans (Kg.Touch.drewN _ _ _)
  clear HW HM HT k14 k16
  generalize w0.drewN nq = w1 at HW1 HM1 HT1 ⊢
  have k15 := HW1.out.cell 15 (.int .i64 z.ed) rfl
  have k17 := HW1.out.cell 17 (.int .i64 z.fd) rfl
  have m20 := mem_cell HM1.out 20 (.int .i64 m.sv) rfl
  have q := part_any (z.ed + z.fd) m.sv (by omega) w1.drew
  go_upto_region 2 with fail
  refine quiet_call 11 mixed (by kernel_rfl) ?_
  simp only [List.take_succ_cons, List.take_zero, List.drop_succ_cons, List.drop_zero]
  repeat (go_big_quiet_step (fail))
  refine wpQuiet_nil ?_
  go_wp2_with fail
  refine q.mono ?_
  rintro e9 w9 ⟨rfl, rfl⟩
  clear q
  go_wp2_with fail
  refine thenQuiet_mk ?_
  repeat (go_big_quiet_step (fail))
  refine wpQuiet_nil ?_
  have HW2 : Hid (Wld w1.drew D c z) := HW1.out
  have HM2 : Hid (Mbx w1.drew w.heap.size m) := HM1.out
  have HT2 : Hid (Kg.Touch [D] w w1.drew) := HT1.out.trans (Kg.Touch.drew _ _)
  clear HW1 HM1 HT1 k15 k17 m20
  generalize w1.drew = w2 at HW2 HM2 HT2 ⊢
  have m21 := mem_cell HM2.out 21 (.int .i64 m.pr) rfl
  have q := part_any (z.el + z.fl) m.pr (by omega) w2
  go_wp2_with fail
  refine q.mono ?_
  rintro e9 w9 ⟨rfl, rfl⟩
  clear q m21
  have pd := part_in (show 0 ≤ z.ed + z.fd by omega) m.sv
  have pu := part_in (show 0 ≤ z.el + z.fl by omega) m.pr
  obtain ⟨L, hL⟩ : ∃ L, L = z.el + z.fl := ⟨_, rfl⟩
  obtain ⟨E, hE⟩ : ∃ E, E = part (z.ed + z.fd) m.sv := ⟨_, rfl⟩
  obtain ⟨U, hU⟩ : ∃ U, U = part L m.pr := ⟨_, rfl⟩
  have HZ : Hid (∀ up, up = (if all = true ∨ c.surv < L + E - U then L else U) → Z = if all = true ∨ c.surv < L - up + E then ⟨0, 0, L - up, 0, z.ol + up, z.od + E⟩ else ⟨0, 0, L - up, E, z.ol + up, z.od⟩) := fun up hup => by
    rw [HZ0.out, hup, hU, hE, hL]; rfl
  rw [← hL] at pu s1 ⊢
  rw [← hU] at pu ⊢
  rw [← hE] at pd ⊢
  have bL : 0 ≤ L ∧ L ≤ 2000000 := by omega
  have bE : 0 ≤ E ∧ E ≤ 2000000 := by omega
  have bU : 0 ≤ U ∧ U ≤ L := pu
  clear HZ0 hL hE hU pd pu b1 b2 b3 b4 s1 s2 HM2
  have t1 : wrap64 (L + E) = L + E := w64 _ (by omega) (by omega)
  have t2 : wrap64 (L + E - U) = L + E - U := w64 _ (by omega) (by omega)
  have t3 : wrap64 (L - U) = L - U := w64 _ (by omega) (by omega)
  have t4 : wrap64 (L - U + E) = L - U + E := w64 _ (by omega) (by omega)
  have t5 : wrap64 (z.od + E) = z.od + E := w64 _ (by omega) (by omega)
  have t6 : wrap64 (z.ol + U) = z.ol + U := w64 _ (by omega) (by omega)
  have t7 : wrap64 (z.ol + L) = z.ol + L := w64 _ (by omega) (by omega)
  have k1 := HW2.out.cell 1 (.int .i64 c.surv) rfl
  cases all with
  | true =>
    have HX : Hid (Z = ⟨0, 0, 0, 0, z.ol + L, z.od + E⟩) := by
      have h9 := HZ.out L (by rw [if_pos (.inl rfl)])
      rw [if_pos (.inl rfl), Int.sub_self] at h9
      exact h9
    have tt : wrap64 (L - L) = L - L := w64 _ (by omega) (by omega)
    have k19 := HW2.out.cell 19 (.int .i64 z.od) rfl
    have z19 := HW2.out.frozen 19
    go_upto_region 8 with fail
    have HW3 : Hid (Wld (w9.setCell ⟨D, 19, none⟩ (.int .i64 (z.od + E))) D c ⟨z.el, z.ed, z.fl, z.fd, z.ol, (z.od + E)⟩) := HW2.out.set 19 (.int .i64 (z.od + E)) rfl
    have HT3 : Hid (Kg.Touch [D] w (w9.setCell ⟨D, 19, none⟩ (.int .i64 (z.od + E)))) := HT2.out.trans (Kg.Touch.setCell _ _ _ (by simp))
    clear k19 z19 k1
    clear HW2 HT2
    generalize (w9.setCell ⟨D, 19, none⟩ (.int .i64 (z.od + E))) = v3 at HW3 HT3 ⊢
    have k18 := HW3.out.cell 18 (.int .i64 z.ol) rfl
    have z18 := HW3.out.frozen 18
    go_upto_region 10 with fail
    have HW4 : Hid (Wld (v3.setCell ⟨D, 18, none⟩ (.int .i64 (z.ol + L))) D c ⟨z.el, z.ed, z.fl, z.fd, (z.ol + L), (z.od + E)⟩) := HW3.out.set 18 (.int .i64 (z.ol + L)) rfl
    have HT4 : Hid (Kg.Touch [D] w (v3.setCell ⟨D, 18, none⟩ (.int .i64 (z.ol + L)))) := HT3.out.trans (Kg.Touch.setCell _ _ _ (by simp))
    clear k18 z18
    clear HW3 HT3
    generalize (v3.setCell ⟨D, 18, none⟩ (.int .i64 (z.ol + L))) = v4 at HW4 HT4 ⊢
    have k14 := HW4.out.cell 14 (.int .i64 z.el) rfl
    have z14 := HW4.out.frozen 14
    have k15 := HW4.out.cell 15 (.int .i64 z.ed) rfl
    have z15 := HW4.out.frozen 15
    go_upto_region 11 with fail
    have HW5 : Hid (Wld (v4.setCell ⟨D, 14, none⟩ (.int .i64 0)) D c ⟨0, z.ed, z.fl, z.fd, (z.ol + L), (z.od + E)⟩) := HW4.out.set 14 (.int .i64 0) rfl
    have HT5 : Hid (Kg.Touch [D] w (v4.setCell ⟨D, 14, none⟩ (.int .i64 0))) := HT4.out.trans (Kg.Touch.setCell _ _ _ (by simp))
    have HW6 : Hid (Wld ((v4.setCell ⟨D, 14, none⟩ (.int .i64 0)).setCell ⟨D, 15, none⟩ (.int .i64 0)) D c ⟨0, 0, z.fl, z.fd, (z.ol + L), (z.od + E)⟩) := HW5.out.set 15 (.int .i64 0) rfl
    have HT6 : Hid (Kg.Touch [D] w ((v4.setCell ⟨D, 14, none⟩ (.int .i64 0)).setCell ⟨D, 15, none⟩ (.int .i64 0))) := HT5.out.trans (Kg.Touch.setCell _ _ _ (by simp))
    clear k14 z14 k15 z15 HW4 HT4 HW5 HT5
    generalize ((v4.setCell ⟨D, 14, none⟩ (.int .i64 0)).setCell ⟨D, 15, none⟩ (.int .i64 0)) = v6 at HW6 HT6 ⊢
    have k16 := HW6.out.cell 16 (.int .i64 z.fl) rfl
    have z16 := HW6.out.frozen 16
    have k17 := HW6.out.cell 17 (.int .i64 z.fd) rfl
    have z17 := HW6.out.frozen 17
    have HW7 : Hid (Wld (v6.setCell ⟨D, 16, none⟩ (.int .i64 0)) D c ⟨0, 0, 0, z.fd, (z.ol + L), (z.od + E)⟩) := HW6.out.set 16 (.int .i64 0) rfl
    have HT7 : Hid (Kg.Touch [D] w (v6.setCell ⟨D, 16, none⟩ (.int .i64 0))) := HT6.out.trans (Kg.Touch.setCell _ _ _ (by simp))
    have HW8 : Hid (Wld ((v6.setCell ⟨D, 16, none⟩ (.int .i64 0)).setCell ⟨D, 17, none⟩ (.int .i64 0)) D c ⟨0, 0, 0, 0, (z.ol + L), (z.od + E)⟩) := HW7.out.set 17 (.int .i64 0) rfl
    have HT8 : Hid (Kg.Touch [D] w ((v6.setCell ⟨D, 16, none⟩ (.int .i64 0)).setCell ⟨D, 17, none⟩ (.int .i64 0))) := HT7.out.trans (Kg.Touch.setCell _ _ _ (by simp))
    clear HW6 HT6 HW7 HT7
    go_wp2
    go_end0
    exact ⟨rfl, by rw [HX.out]; exact HW8.out, HT8.out⟩
  | false =>
    by_cases c1 : c.surv < L + E - U
    · have tt : wrap64 (L - L) = L - L := w64 _ (by omega) (by omega)
      have tt2 : wrap64 (L - L + E) = L - L + E := w64 _ (by omega) (by omega)
      by_cases c2 : c.surv < L - L + E
      · have HX : Hid (Z = ⟨0, 0, 0, 0, z.ol + L, z.od + E⟩) := by
          have h9 := HZ.out L (by rw [if_pos (.inr c1)])
          rw [if_pos (.inr c2), Int.sub_self] at h9
          exact h9
        have k19 := HW2.out.cell 19 (.int .i64 z.od) rfl
        have z19 := HW2.out.frozen 19
        go_upto_region 8 with fail
        have HW3 : Hid (Wld (w9.setCell ⟨D, 19, none⟩ (.int .i64 (z.od + E))) D c ⟨z.el, z.ed, z.fl, z.fd, z.ol, (z.od + E)⟩) := HW2.out.set 19 (.int .i64 (z.od + E)) rfl
        have HT3 : Hid (Kg.Touch [D] w (w9.setCell ⟨D, 19, none⟩ (.int .i64 (z.od + E)))) := HT2.out.trans (Kg.Touch.setCell _ _ _ (by simp))
        clear k19 z19 k1
        clear HW2 HT2
        generalize (w9.setCell ⟨D, 19, none⟩ (.int .i64 (z.od + E))) = v3 at HW3 HT3 ⊢
        have k18 := HW3.out.cell 18 (.int .i64 z.ol) rfl
        have z18 := HW3.out.frozen 18
        go_upto_region 10 with fail
        have HW4 : Hid (Wld (v3.setCell ⟨D, 18, none⟩ (.int .i64 (z.ol + L))) D c ⟨z.el, z.ed, z.fl, z.fd, (z.ol + L), (z.od + E)⟩) := HW3.out.set 18 (.int .i64 (z.ol + L)) rfl
        have HT4 : Hid (Kg.Touch [D] w (v3.setCell ⟨D, 18, none⟩ (.int .i64 (z.ol + L)))) := HT3.out.trans (Kg.Touch.setCell _ _ _ (by simp))
        clear k18 z18
        clear HW3 HT3
        generalize (v3.setCell ⟨D, 18, none⟩ (.int .i64 (z.ol + L))) = v4 at HW4 HT4 ⊢
        have k14 := HW4.out.cell 14 (.int .i64 z.el) rfl
        have z14 := HW4.out.frozen 14
        have k15 := HW4.out.cell 15 (.int .i64 z.ed) rfl
        have z15 := HW4.out.frozen 15
        go_upto_region 11 with fail
        have HW5 : Hid (Wld (v4.setCell ⟨D, 14, none⟩ (.int .i64 0)) D c ⟨0, z.ed, z.fl, z.fd, (z.ol + L), (z.od + E)⟩) := HW4.out.set 14 (.int .i64 0) rfl
        have HT5 : Hid (Kg.Touch [D] w (v4.setCell ⟨D, 14, none⟩ (.int .i64 0))) := HT4.out.trans (Kg.Touch.setCell _ _ _ (by simp))
        have HW6 : Hid (Wld ((v4.setCell ⟨D, 14, none⟩ (.int .i64 0)).setCell ⟨D, 15, none⟩ (.int .i64 0)) D c ⟨0, 0, z.fl, z.fd, (z.ol + L), (z.od + E)⟩) := HW5.out.set 15 (.int .i64 0) rfl
        have HT6 : Hid (Kg.Touch [D] w ((v4.setCell ⟨D, 14, none⟩ (.int .i64 0)).setCell ⟨D, 15, none⟩ (.int .i64 0))) := HT5.out.trans (Kg.Touch.setCell _ _ _ (by simp))
        clear k14 z14 k15 z15 HW4 HT4 HW5 HT5
        generalize ((v4.setCell ⟨D, 14, none⟩ (.int .i64 0)).setCell ⟨D, 15, none⟩ (.int .i64 0)) = v6 at HW6 HT6 ⊢
        have k16 := HW6.out.cell 16 (.int .i64 z.fl) rfl
        have z16 := HW6.out.frozen 16
        have k17 := HW6.out.cell 17 (.int .i64 z.fd) rfl
        have z17 := HW6.out.frozen 17
        have HW7 : Hid (Wld (v6.setCell ⟨D, 16, none⟩ (.int .i64 0)) D c ⟨0, 0, 0, z.fd, (z.ol + L), (z.od + E)⟩) := HW6.out.set 16 (.int .i64 0) rfl
        have HT7 : Hid (Kg.Touch [D] w (v6.setCell ⟨D, 16, none⟩ (.int .i64 0))) := HT6.out.trans (Kg.Touch.setCell _ _ _ (by simp))
        have HW8 : Hid (Wld ((v6.setCell ⟨D, 16, none⟩ (.int .i64 0)).setCell ⟨D, 17, none⟩ (.int .i64 0)) D c ⟨0, 0, 0, 0, (z.ol + L), (z.od + E)⟩) := HW7.out.set 17 (.int .i64 0) rfl
        have HT8 : Hid (Kg.Touch [D] w ((v6.setCell ⟨D, 16, none⟩ (.int .i64 0)).setCell ⟨D, 17, none⟩ (.int .i64 0))) := HT7.out.trans (Kg.Touch.setCell _ _ _ (by simp))
        clear HW6 HT6 HW7 HT7
        go_wp2
        go_end0
        exact ⟨rfl, by rw [HX.out]; exact HW8.out, HT8.out⟩
      · have HX : Hid (Z = ⟨0, 0, 0, E, z.ol + L, z.od⟩) := by
          have h9 := HZ.out L (by rw [if_pos (.inr c1)])
          rw [if_neg (fun q => q.elim (fun e => by cases e) c2), Int.sub_self] at h9
          exact h9
        have c2' : decide (c.surv < L - L + E) = false := decide_eq_false c2
        have k18 := HW2.out.cell 18 (.int .i64 z.ol) rfl
        have z18 := HW2.out.frozen 18
        go_upto_region 10 with fail
        have HW3 : Hid (Wld (w9.setCell ⟨D, 18, none⟩ (.int .i64 (z.ol + L))) D c ⟨z.el, z.ed, z.fl, z.fd, (z.ol + L), z.od⟩) := HW2.out.set 18 (.int .i64 (z.ol + L)) rfl
        have HT3 : Hid (Kg.Touch [D] w (w9.setCell ⟨D, 18, none⟩ (.int .i64 (z.ol + L)))) := HT2.out.trans (Kg.Touch.setCell _ _ _ (by simp))
        clear k18 z18
        clear HW2 HT2
        generalize (w9.setCell ⟨D, 18, none⟩ (.int .i64 (z.ol + L))) = v3 at HW3 HT3 ⊢
        have k14 := HW3.out.cell 14 (.int .i64 z.el) rfl
        have z14 := HW3.out.frozen 14
        have k15 := HW3.out.cell 15 (.int .i64 z.ed) rfl
        have z15 := HW3.out.frozen 15
        go_upto_region 11 with fail
        have HW4 : Hid (Wld (v3.setCell ⟨D, 14, none⟩ (.int .i64 0)) D c ⟨0, z.ed, z.fl, z.fd, (z.ol + L), z.od⟩) := HW3.out.set 14 (.int .i64 0) rfl
        have HT4 : Hid (Kg.Touch [D] w (v3.setCell ⟨D, 14, none⟩ (.int .i64 0))) := HT3.out.trans (Kg.Touch.setCell _ _ _ (by simp))
        have HW5 : Hid (Wld ((v3.setCell ⟨D, 14, none⟩ (.int .i64 0)).setCell ⟨D, 15, none⟩ (.int .i64 0)) D c ⟨0, 0, z.fl, z.fd, (z.ol + L), z.od⟩) := HW4.out.set 15 (.int .i64 0) rfl
        have HT5 : Hid (Kg.Touch [D] w ((v3.setCell ⟨D, 14, none⟩ (.int .i64 0)).setCell ⟨D, 15, none⟩ (.int .i64 0))) := HT4.out.trans (Kg.Touch.setCell _ _ _ (by simp))
        clear k14 z14 k15 z15 HW3 HT3 HW4 HT4
        generalize ((v3.setCell ⟨D, 14, none⟩ (.int .i64 0)).setCell ⟨D, 15, none⟩ (.int .i64 0)) = v5 at HW5 HT5 ⊢
        have k16 := HW5.out.cell 16 (.int .i64 z.fl) rfl
        have z16 := HW5.out.frozen 16
        have k17 := HW5.out.cell 17 (.int .i64 z.fd) rfl
        have z17 := HW5.out.frozen 17
        have HW6 : Hid (Wld (v5.setCell ⟨D, 16, none⟩ (.int .i64 0)) D c ⟨0, 0, 0, z.fd, (z.ol + L), z.od⟩) := HW5.out.set 16 (.int .i64 0) rfl
        have HT6 : Hid (Kg.Touch [D] w (v5.setCell ⟨D, 16, none⟩ (.int .i64 0))) := HT5.out.trans (Kg.Touch.setCell _ _ _ (by simp))
        have HW7 : Hid (Wld ((v5.setCell ⟨D, 16, none⟩ (.int .i64 0)).setCell ⟨D, 17, none⟩ (.int .i64 E)) D c ⟨0, 0, 0, E, (z.ol + L), z.od⟩) := HW6.out.set 17 (.int .i64 E) rfl
        have HT7 : Hid (Kg.Touch [D] w ((v5.setCell ⟨D, 16, none⟩ (.int .i64 0)).setCell ⟨D, 17, none⟩ (.int .i64 E))) := HT6.out.trans (Kg.Touch.setCell _ _ _ (by simp))
        clear HW5 HT5 HW6 HT6
        go_wp2
        go_end0
        exact ⟨rfl, by rw [HX.out]; exact HW7.out, HT7.out⟩
    · have c1' : decide (c.surv < L + E - U) = false := decide_eq_false c1
      have c2 : ¬ c.surv < L - U + E := by omega
      have c2' : decide (c.surv < L - U + E) = false := decide_eq_false c2
      have HX : Hid (Z = ⟨0, 0, L - U, E, z.ol + U, z.od⟩) := by
        have h9 := HZ.out U (by rw [if_neg (fun q => q.elim (fun e => by cases e) c1)])
        rw [if_neg (fun q => q.elim (fun e => by cases e) c2)] at h9
        exact h9
      have k18 := HW2.out.cell 18 (.int .i64 z.ol) rfl
      have z18 := HW2.out.frozen 18
      go_upto_region 10 with fail
      have HW3 : Hid (Wld (w9.setCell ⟨D, 18, none⟩ (.int .i64 (z.ol + U))) D c ⟨z.el, z.ed, z.fl, z.fd, (z.ol + U), z.od⟩) := HW2.out.set 18 (.int .i64 (z.ol + U)) rfl
      have HT3 : Hid (Kg.Touch [D] w (w9.setCell ⟨D, 18, none⟩ (.int .i64 (z.ol + U)))) := HT2.out.trans (Kg.Touch.setCell _ _ _ (by simp))
      clear k18 z18
      clear HW2 HT2
      generalize (w9.setCell ⟨D, 18, none⟩ (.int .i64 (z.ol + U))) = v3 at HW3 HT3 ⊢
      have k14 := HW3.out.cell 14 (.int .i64 z.el) rfl
      have z14 := HW3.out.frozen 14
      have k15 := HW3.out.cell 15 (.int .i64 z.ed) rfl
      have z15 := HW3.out.frozen 15
      go_upto_region 11 with fail
      have HW4 : Hid (Wld (v3.setCell ⟨D, 14, none⟩ (.int .i64 0)) D c ⟨0, z.ed, z.fl, z.fd, (z.ol + U), z.od⟩) := HW3.out.set 14 (.int .i64 0) rfl
      have HT4 : Hid (Kg.Touch [D] w (v3.setCell ⟨D, 14, none⟩ (.int .i64 0))) := HT3.out.trans (Kg.Touch.setCell _ _ _ (by simp))
      have HW5 : Hid (Wld ((v3.setCell ⟨D, 14, none⟩ (.int .i64 0)).setCell ⟨D, 15, none⟩ (.int .i64 0)) D c ⟨0, 0, z.fl, z.fd, (z.ol + U), z.od⟩) := HW4.out.set 15 (.int .i64 0) rfl
      have HT5 : Hid (Kg.Touch [D] w ((v3.setCell ⟨D, 14, none⟩ (.int .i64 0)).setCell ⟨D, 15, none⟩ (.int .i64 0))) := HT4.out.trans (Kg.Touch.setCell _ _ _ (by simp))
      clear k14 z14 k15 z15 HW3 HT3 HW4 HT4
      generalize ((v3.setCell ⟨D, 14, none⟩ (.int .i64 0)).setCell ⟨D, 15, none⟩ (.int .i64 0)) = v5 at HW5 HT5 ⊢
      have k16 := HW5.out.cell 16 (.int .i64 z.fl) rfl
      have z16 := HW5.out.frozen 16
      have k17 := HW5.out.cell 17 (.int .i64 z.fd) rfl
      have z17 := HW5.out.frozen 17
      have HW6 : Hid (Wld (v5.setCell ⟨D, 16, none⟩ (.int .i64 (L - U))) D c ⟨0, 0, (L - U), z.fd, (z.ol + U), z.od⟩) := HW5.out.set 16 (.int .i64 (L - U)) rfl
      have HT6 : Hid (Kg.Touch [D] w (v5.setCell ⟨D, 16, none⟩ (.int .i64 (L - U)))) := HT5.out.trans (Kg.Touch.setCell _ _ _ (by simp))
      have HW7 : Hid (Wld ((v5.setCell ⟨D, 16, none⟩ (.int .i64 (L - U))).setCell ⟨D, 17, none⟩ (.int .i64 E)) D c ⟨0, 0, (L - U), E, (z.ol + U), z.od⟩) := HW6.out.set 17 (.int .i64 E) rfl
      have HT7 : Hid (Kg.Touch [D] w ((v5.setCell ⟨D, 16, none⟩ (.int .i64 (L - U))).setCell ⟨D, 17, none⟩ (.int .i64 E))) := HT6.out.trans (Kg.Touch.setCell _ _ _ (by simp))
      clear HW5 HT5 HW6 HT6
      go_wp2
      go_end0
      exact ⟨rfl, by rw [HX.out]; exact HW7.out, HT7.out⟩

end Go.Proofs.Ytcijdbhabbepaaa.Po
