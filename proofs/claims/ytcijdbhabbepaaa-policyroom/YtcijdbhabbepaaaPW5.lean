/-
  PolicyRoom: its walk. (mkPW5.py prints this text.)
-/
import Derived.Test.YtcijdbhabbepaaaPW4
set_option linter.unusedVariables false
set_option maxRecDepth 20000
namespace Go.Proofs.Ytcijdbhabbepaaa.Po
open Go.RowKit Go.Proofs.Ytcijdbhabbepaaa.Kg

set_option maxHeartbeats 16000000 in
theorem room_no (m : Mem12) (w : World) (hx : m.words < 9223372036854775808) (fx : flt m.c m.base 1 m.words ≠ 0) :
    Calls Try.prog 5 #[memv m] w fun e w' => e = .returned (.bool true) ∧ Below w.heap.size w w' := by
  obtain ⟨w0, hw0⟩ : ∃ q9, q9 = w.alloc (.cells (mcells m) 47) := ⟨_, rfl⟩
  have hX0 : Mbx w0 w.heap.size m := by rw [hw0]; exact heap_alloc_new w _
  have hW0 : Below w.heap.size w w0 := by rw [hw0]; exact Below.alloc (Below.refl _ _) (Nat.le_refl _) _
  have hs0 : w0.heap.size = w.heap.size + 1 := by rw [hw0]; simp
  have HW0 : Hid (Below w.heap.size w w0) := hW0
  have Hs0 : Hid (w0.heap.size = w.heap.size + 1) := hs0
  have Fx : Hid (flt m.c m.base 1 m.words ≠ 0) := fx
  have Hws : Hid (m.words < 9223372036854775808) := hx
  have HX0a : Hid (Mbx w0 w.heap.size m) := hX0
  have q := known_any w0
  clear hX0 hW0 hs0 hx fx
  go_enter Try.func5, Try.ntmps5
  go_upto_region 1 with fail
  rw [← hw0]
  clear hw0
  go_wp2_with fail
  refine q.mono ?_
  rintro e9 w1 ⟨rfl, r4⟩
  have HB1 : Hid (Below w0.heap.size w0 w1) := r4
  have HX1 : Hid (Mbx w1 w.heap.size m) := HX0a.out.below r4 (heap_lt HX0a.out)
  clear q r4
  have k0 := mem_cell HX1.out 0 (.int .i64 m.c.eden) rfl
  have k1 := mem_cell HX1.out 1 (.int .i64 m.c.surv) rfl
  have k2 := mem_cell HX1.out 2 (.int .i64 m.c.ten) rfl
  have k3 := mem_cell HX1.out 3 (.int .i64 m.c.large) rfl
  have k4 := mem_cell HX1.out 4 (.int .i64 m.c.floor) rfl
  have k5 := mem_cell HX1.out 5 (.int .i64 m.c.num) rfl
  have k6 := mem_cell HX1.out 6 (.int .i64 m.c.den) rfl
  have k7 := mem_cell HX1.out 7 (.int .i64 m.c.target) rfl
  have k8 := mem_cell HX1.out 8 (.int .i64 m.c.maxAge) rfl
  have k9 := mem_cell HX1.out 9 (.int .i64 m.c.threads) rfl
  have k10 := mem_cell HX1.out 10 (.int .i64 m.c.slots) rfl
  have k11 := mem_cell HX1.out 11 (.int .i64 m.c.handles) rfl
  have k12 := mem_cell HX1.out 12 (.int .i64 m.c.buffer) rfl
  have k13 := mem_cell HX1.out 13 (.int .i64 m.c.workers) rfl
  have k18 := mem_cell HX1.out 18 (.int .i64 m.base) rfl
  have k19 := mem_cell HX1.out 19 (.int .i64 m.words) rfl
  have q := pbegin_no Fx.out w1
  go_wp2_with fail
  refine q.mono ?_
  rintro e9 w2 ⟨rfl, r4⟩
  have HB2 : Hid (Below w0.heap.size w0 w2) := HB1.out.trans (r4.mono HB1.out.size)
  have HX2 : Hid (Mbx w2 w.heap.size m) := HX1.out.below r4 (heap_lt HX1.out)
  clear q k0 k1 k2 k3 k4 k5 k6 k7 k8 k9 k10 k11 k12 k13 k18 k19 r4 HX1
  have k0 := mem_cell HX2.out 0 (.int .i64 m.c.eden) rfl
  have k1 := mem_cell HX2.out 1 (.int .i64 m.c.surv) rfl
  have k2 := mem_cell HX2.out 2 (.int .i64 m.c.ten) rfl
  have k3 := mem_cell HX2.out 3 (.int .i64 m.c.large) rfl
  have k4 := mem_cell HX2.out 4 (.int .i64 m.c.floor) rfl
  have k5 := mem_cell HX2.out 5 (.int .i64 m.c.num) rfl
  have k6 := mem_cell HX2.out 6 (.int .i64 m.c.den) rfl
  have k7 := mem_cell HX2.out 7 (.int .i64 m.c.target) rfl
  have k8 := mem_cell HX2.out 8 (.int .i64 m.c.maxAge) rfl
  have k9 := mem_cell HX2.out 9 (.int .i64 m.c.threads) rfl
  have k10 := mem_cell HX2.out 10 (.int .i64 m.c.slots) rfl
  have k11 := mem_cell HX2.out 11 (.int .i64 m.c.handles) rfl
  have k12 := mem_cell HX2.out 12 (.int .i64 m.c.buffer) rfl
  have k13 := mem_cell HX2.out 13 (.int .i64 m.c.workers) rfl
  have k18 := mem_cell HX2.out 18 (.int .i64 m.base) rfl
  have k19 := mem_cell HX2.out 19 (.int .i64 m.words) rfl
  have q := rbegin_no Fx.out w2
  go_wp2_with fail
  refine q.mono ?_
  rintro e9 w3 ⟨rfl, r4⟩
  have HB3 : Hid (Below w0.heap.size w0 w3) := HB2.out.trans (r4.mono HB2.out.size)
  have HX3 : Hid (Mbx w3 w.heap.size m) := HX2.out.below r4 (heap_lt HX2.out)
  clear q k0 k1 k2 k3 k4 k5 k6 k7 k8 k9 k10 k11 k12 k13 k18 k19 r4 HX2
  have HBW : Hid (Below w.heap.size w w3) := HW0.out.trans (HB3.out.mono HW0.out.size)
  generalize flt m.c m.base 1 m.words = N at Fx ⊢
  have nx : (N == N) = true := by simp
  have nz : (N != 0) = true := by simpa using Fx.out
  go_wp2
  go_returns
  exact ⟨rfl, HBW.out⟩

set_option maxHeartbeats 16000000 in
theorem room_yes (m : Mem12) (w : World) (hx : m.words < 9223372036854775808) (fx : flt m.c m.base 1 m.words = 0) :
    Calls Try.prog 5 #[memv m] w fun e w' => e = .returned (.bool true) ∧ Below w.heap.size w w' := by
  obtain ⟨w0, hw0⟩ : ∃ q9, q9 = w.alloc (.cells (mcells m) 47) := ⟨_, rfl⟩
  have hX0 : Mbx w0 w.heap.size m := by rw [hw0]; exact heap_alloc_new w _
  have hW0 : Below w.heap.size w w0 := by rw [hw0]; exact Below.alloc (Below.refl _ _) (Nat.le_refl _) _
  have hs0 : w0.heap.size = w.heap.size + 1 := by rw [hw0]; simp
  have HW0 : Hid (Below w.heap.size w w0) := hW0
  have Hs0 : Hid (w0.heap.size = w.heap.size + 1) := hs0
  have Fx : Hid (flt m.c m.base 1 m.words = 0) := fx
  have Hws : Hid (m.words < 9223372036854775808) := hx
  have HX0a : Hid (Mbx w0 w.heap.size m) := hX0
  have q := known_any w0
  clear hX0 hW0 hs0 hx fx
  go_enter Try.func5, Try.ntmps5
  go_upto_region 1 with fail
  rw [← hw0]
  clear hw0
  go_wp2_with fail
  refine q.mono ?_
  rintro e9 w1 ⟨rfl, r4⟩
  have HB1 : Hid (Below w0.heap.size w0 w1) := r4
  have HX1 : Hid (Mbx w1 w.heap.size m) := HX0a.out.below r4 (heap_lt HX0a.out)
  clear q r4
  have k0 := mem_cell HX1.out 0 (.int .i64 m.c.eden) rfl
  have k1 := mem_cell HX1.out 1 (.int .i64 m.c.surv) rfl
  have k2 := mem_cell HX1.out 2 (.int .i64 m.c.ten) rfl
  have k3 := mem_cell HX1.out 3 (.int .i64 m.c.large) rfl
  have k4 := mem_cell HX1.out 4 (.int .i64 m.c.floor) rfl
  have k5 := mem_cell HX1.out 5 (.int .i64 m.c.num) rfl
  have k6 := mem_cell HX1.out 6 (.int .i64 m.c.den) rfl
  have k7 := mem_cell HX1.out 7 (.int .i64 m.c.target) rfl
  have k8 := mem_cell HX1.out 8 (.int .i64 m.c.maxAge) rfl
  have k9 := mem_cell HX1.out 9 (.int .i64 m.c.threads) rfl
  have k10 := mem_cell HX1.out 10 (.int .i64 m.c.slots) rfl
  have k11 := mem_cell HX1.out 11 (.int .i64 m.c.handles) rfl
  have k12 := mem_cell HX1.out 12 (.int .i64 m.c.buffer) rfl
  have k13 := mem_cell HX1.out 13 (.int .i64 m.c.workers) rfl
  have k18 := mem_cell HX1.out 18 (.int .i64 m.base) rfl
  have k19 := mem_cell HX1.out 19 (.int .i64 m.words) rfl
  have q := pbegin_yes Fx.out w1
  go_wp2_with fail
  refine q.mono ?_
  rintro e9 w2 ⟨b, g, rfl, r1, r2, r3, r4⟩
  have HB2 : Hid (Below w0.heap.size w0 w2) := HB1.out.trans (r4.mono HB1.out.size)
  have HX2 : Hid (Mbx w2 w.heap.size m) := HX1.out.below r4 (heap_lt HX1.out)
  have HP2 : Hid (Pt w2 w1.heap.size b (.slice none 0 0) g (mtk m) t00 ∧ w1.heap.size ≤ b ∧ w1.heap.size ≤ g) := ⟨r3, r1, r2⟩
  clear q k0 k1 k2 k3 k4 k5 k6 k7 k8 k9 k10 k11 k12 k13 k18 k19 r1 r2 r3 r4 HX1
  have k0 := mem_cell HX2.out 0 (.int .i64 m.c.eden) rfl
  have k1 := mem_cell HX2.out 1 (.int .i64 m.c.surv) rfl
  have k2 := mem_cell HX2.out 2 (.int .i64 m.c.ten) rfl
  have k3 := mem_cell HX2.out 3 (.int .i64 m.c.large) rfl
  have k4 := mem_cell HX2.out 4 (.int .i64 m.c.floor) rfl
  have k5 := mem_cell HX2.out 5 (.int .i64 m.c.num) rfl
  have k6 := mem_cell HX2.out 6 (.int .i64 m.c.den) rfl
  have k7 := mem_cell HX2.out 7 (.int .i64 m.c.target) rfl
  have k8 := mem_cell HX2.out 8 (.int .i64 m.c.maxAge) rfl
  have k9 := mem_cell HX2.out 9 (.int .i64 m.c.threads) rfl
  have k10 := mem_cell HX2.out 10 (.int .i64 m.c.slots) rfl
  have k11 := mem_cell HX2.out 11 (.int .i64 m.c.handles) rfl
  have k12 := mem_cell HX2.out 12 (.int .i64 m.c.buffer) rfl
  have k13 := mem_cell HX2.out 13 (.int .i64 m.c.workers) rfl
  have k18 := mem_cell HX2.out 18 (.int .i64 m.base) rfl
  have k19 := mem_cell HX2.out 19 (.int .i64 m.words) rfl
  have q := rbegin_yes Fx.out w2
  go_wp2_with fail
  refine q.mono ?_
  rintro e9 w3 ⟨bv, rfl, r1, r3, r4⟩
  have HB3 : Hid (Below w0.heap.size w0 w3) := HB2.out.trans (r4.mono HB2.out.size)
  have HX3 : Hid (Mbx w3 w.heap.size m) := HX2.out.below r4 (heap_lt HX2.out)
  have HP3 : Hid (Pt w3 w1.heap.size b (.slice none 0 0) g (mtk m) t00) := HP2.out.1.below r4
  clear q k0 k1 k2 k3 k4 k5 k6 k7 k8 k9 k10 k11 k12 k13 k18 k19 r1 r3 r4 HX2
  have HK : Hid (Tof (mtk m) ∧ m.c.Ok ∧ 2 ≤ m.words) := ⟨tof_mk Fx.out Hws.out, (flt_ok Fx.out).1, (flt_ok Fx.out).2.2.2 rfl⟩
  have HM3 : Hid (w3.heap[w.heap.size]? = some (.cells (mcells m) 47 (0, 0))) := HX3.out
  have q := fix_any m HK.out.2.1 w3
  go_wp2_with (first | (refine wpList_load_row rfl 47 _ rfl w.heap.size rfl _ _ _ _ HM3.out Try.underlying47 rfl (by kernel_rfl) ?_) | fail)
  refine q.mono ?_
  rintro e9 w4 ⟨D, rfl, r1, r2, r4⟩
  have HB4 : Hid (Below w0.heap.size w0 w4) := HB3.out.trans (r4.mono HB3.out.size)
  have HX4 : Hid (Mbx w4 w.heap.size m) := HX3.out.below r4 (heap_lt HX3.out)
  have HE4 : Hid (Rms w0.heap.size w4 m (mtk m) b g D 0 t00 m.fix) := by
    obtain ⟨p1, p2, p3⟩ := HP2.out
    have z0 := HP3.out.lt
    have z1 := HP3.out.gl
    have h1 := HB1.out.size
    have h3 := HB3.out.size
    have ok := HK.out.2.1
    have e0 := ok.e0
    have t0 := ok.t0
    have f1 := mm_in (x := m.yl) (show 0 ≤ m.c.eden by omega)
    have f2 := mm_in (x := m.yd) (show 0 ≤ m.c.eden - mm m.yl m.c.eden by omega)
    have f3 := mm_in (x := m.tl) (show 0 ≤ m.c.ten by omega)
    have f4 := mm_in (x := m.td) (show 0 ≤ m.c.ten - mm m.tl m.c.ten by omega)
    have h9 : Pt w4 w1.heap.size b (.slice none 0 0) g (mtk m) t00 := HP3.out.below r4
    refine ⟨⟨.slice none 0 0, ⟨h9.at_, row_base h9.row h1, h9.box, h9.gv, h9.gl, Nat.le_trans h1 h9.lo, h9.le⟩, ?_, ?_⟩, ⟨_, Jn.start (flt_ok Fx.out).2.1⟩, r2, Nat.le_trans h3 r1, ⟨f1.1, f2.1, by simp [Mem12.fix], by simp [Mem12.fix], f3.1, f4.1, ?_, ?_, fun _ => ?_, by simp, by simp⟩, by simp [Mem12.fix], rfl, ok⟩
    · simp only [Fq, Value.ownBlock, Option.toList, List.mem_cons, List.not_mem_nil, or_false]
      omega
    · intro q hq
      simp only [Fq, Value.ownBlock, Option.toList, List.mem_cons, List.not_mem_nil, or_false] at hq
      omega
    · show mm m.yl m.c.eden + mm m.yd (m.c.eden - mm m.yl m.c.eden) ≤ m.c.eden
      omega
    · show mm m.tl m.c.ten + mm m.td (m.c.ten - mm m.tl m.c.ten) ≤ m.c.ten
      omega
    · show m.fix.el + 0 + m.fix.ol = m.fix.el + m.fix.ol
      omega
  have HXA : Hid (∀ wr, Below w0.heap.size w0 wr → Mbx wr w.heap.size m) := fun wr h => HX0a.out.below h (by have := Hs0.out; omega)
  have HBW : Hid (∀ wr, Below w0.heap.size w0 wr → Below w.heap.size w wr) := fun wr h => HW0.out.trans (h.mono HW0.out.size)
  clear q r1 r2 r4 HM3 HP2 HP3 HB1 HB2 HB3 HX3 HX0a
  have c19 := mem_cell HX4.out 19 (.int .i64 m.words) rfl
  have c2 := mem_cell HX4.out 2 (.int .i64 m.c.ten) rfl
  have c14 := HE4.out.wl.cell 14 (.int .i64 m.fix.el) rfl
  have c18 := HE4.out.wl.cell 18 (.int .i64 m.fix.ol) rfl
  have sm := HE4.out.small (by omega)
  have b1 := sm.n1
  have b5 := sm.n5
  have bt : 64 ≤ m.c.ten ∧ m.c.ten ≤ 65536 := ⟨HK.out.2.1.t0, HK.out.2.1.t1⟩
  have s1 : wrap64 (m.c.ten - m.fix.el) = m.c.ten - m.fix.el := w64 _ (by omega) (by omega)
  have s2 : wrap64 (m.c.ten - m.fix.el - m.fix.ol) = m.c.ten - m.fix.el - m.fix.ol := w64 _ (by omega) (by omega)
  clear sm
  go_upto_region 8 with fail
  go_quiet (fail)
  have HB5 : Hid (Below w0.heap.size w0 (w4.drewN nq)) := below_drewN HB4.out nq
  have HE5 : Hid (Rms w0.heap.size (w4.drewN nq) m (mtk m) b g D 0 t00 m.fix) := HE4.out.below (below_drewN (Below.refl _ _) nq)
  clear c19 c2 c14 c18 b1 b5 bt s1 s2 HB4 HE4 HX4
  generalize w4.drewN nq = w5 at HB5 HE5 ⊢
  obtain ⟨F, hF⟩ : ∃ F, F = decide (m.words ≤ m.c.ten - m.fix.el - m.fix.ol) := ⟨_, rfl⟩
  rw [← hF]
  have HF : Hid (F = decide (m.words ≤ m.c.ten - m.fix.el - m.fix.ol)) := hF
  clear hF
  go_upto_region 10 with fail
  go_loopw [9] (fun i wr => ∃ (n : Nat) (t : Tst) (z : Wl), i = .int .i64 n ∧ n ≤ 5 ∧ Hid (Rms w0.heap.size wr m (mtk m) b g D n t z) ∧ Hid (Below w0.heap.size w0 wr)) (fun i _ => 9 - (intOf i).toNat)
  case atStart => exact ⟨0, t00, m.fix, rfl, by omega, HE5, HB5⟩
  case round =>
    obtain ⟨n, t, z, rfl, hn, HE, HBr⟩ := hrel
    clear HB5 HE5
    have hli : (n : Int) < 9 := by omega
    have q := view_any HE.out.wl (HE.out.small (by omega))
    go_wp2_with fail
    refine q.mono ?_
    rintro e9 wA ⟨rfl, rA⟩
    have HEA : Hid (Rms w0.heap.size wA m (mtk m) b g D n t z) := HE.out.below rA
    have HBA : Hid (Below w0.heap.size w0 wA) := HBr.out.trans (rA.mono HBr.out.size)
    clear q rA HE HBr
    obtain ⟨u, hu1, hu2, hu3⟩ := HEA.out.ex
    have HU : Hid (Pt wA w0.heap.size b u g (mtk m) t ∧ D ∉ Fq b u g ∧ ∀ q, q ∈ Fq b u g → w0.heap.size ≤ q) := ⟨hu1, hu2, hu3⟩
    clear hu1 hu2 hu3
    have hJ : Go12 (mtk m) t := by obtain ⟨h, J⟩ := HEA.out.j; exact ⟨n, h, J⟩
    have q := pnext_any HU.out.1 (by have := hJ.len; omega) HK.out.1 hJ.oc (z.view m.c.eden m.c.ten)
    obtain ⟨h9, J9⟩ := HEA.out.j
    have hs1 := (J9.next (z.view m.c.eden m.c.ten)).1.s1
    obtain ⟨sn, hsn⟩ : ∃ sn : Nat, ((mtk m).next t (z.view m.c.eden m.c.ten)).1 = sn := ⟨(((mtk m).next t (z.view m.c.eden m.c.ten)).1).toNat, by omega⟩
    rw [hsn] at q
    have Hsn : Hid (((mtk m).next t (z.view m.c.eden m.c.ten)).1 = sn) := hsn
    have HL3 : Hid (t.ran.length ≤ 3) := hJ.len
    clear hJ J9 hs1 hsn
    go_wp2_with fail
    refine q.mono ?_
    rintro e9 wB ⟨rfl, hG⟩
    obtain ⟨a1, a2, a3, a4, a5, a6, a7, a8, a9⟩ := HEA.out.next HU.out HK.out.2.2 hG sn Hsn.out HBA.out.size
    have HTR : Hid (sn = 7 → ((mtk m).next t (z.view m.c.eden m.c.ten)).2.ran = t.ran) := fun e7 => next_ran Hsn.out e7
    have HWB : Hid (Wld wB D m.c z) := a1
    have HBB : Hid (Below w0.heap.size w0 wB) := HBA.out.trans a2
    have HPB : Hid (∃ u', Pt wB w0.heap.size b u' g (mtk m) ((mtk m).next t (z.view m.c.eden m.c.ten)).2 ∧ D ∉ Fq b u' g ∧ ∀ q, q ∈ Fq b u' g → w0.heap.size ≤ q) := a3
    have H5 : Hid (5 ≤ n → sn = 7) := a5
    have H6 : Hid (sn = 6 → m.c.ten - (m.fix.el + m.fix.ol) < m.words) := a7
    have H7 : Hid (sn = 7 → z.ol + z.od ≤ clim m.c m.base ∨ (3 : Int) ∈ t.ran) := a8
    have HRm : Hid (Rom m.c.eden m.c.ten m.words (m.fix.el + m.fix.ol) ((mtk m).next t (z.view m.c.eden m.c.ten)).2 (z.step m.c.surv m.words m.sv m.pr sn)) := a6
    have HNx : Hid (∀ w2, Wld w2 D m.c (z.step m.c.surv m.words m.sv m.pr sn) → Kg.Touch [D] wB w2 → sn ≠ 7 → Rms w0.heap.size w2 m (mtk m) b g D (n + 1) ((mtk m).next t (z.view m.c.eden m.c.ten)).2 (z.step m.c.surv m.words m.sv m.pr sn)) := a9
    have HSm : Hid (Wsm m.c z) := HEA.out.small (by omega)
    have HRz : Hid (Rom m.c.eden m.c.ten m.words (m.fix.el + m.fix.ol) t z) := HEA.out.rm
    have HLo : Hid (w0.heap.size ≤ D) := HEA.out.lo
    generalize ((mtk m).next t (z.view m.c.eden m.c.ten)).2 = t' at HPB HRm HNx HTR
    clear q hG a1 a2 a3 a5 a6 a7 a8 a9 HEA HBA HU Hsn
    have hcase : sn = 1 ∨ sn = 2 ∨ sn = 3 ∨ sn = 4 ∨ sn = 5 ∨ sn = 6 ∨ sn = 7 := by omega
    clear a4
    rcases hcase with rfl | rfl | rfl | rfl | rfl | rfl | rfl
    · as_aux_lemma =>
        have hr := HRm.out
        rw [show ((1 : Nat) : Int) = 1 from rfl, st1] at hr
        have hb1 := HSm.out.n1
        have hb5 := HSm.out.n5
        have hok := HK.out.2.1
        have he1 := hok.e1
        have ht1 := hok.t1
        have hre := hr.e
        have hro := hr.o
        have hr2 := hr.n2
        have hr6 := hr.n6
        have hw2 := HK.out.2.2
        simp only at hre hro hr2 hr6
        have s1 : wrap64 (z.el + m.words) = z.el + m.words := w64 _ (by omega) (by omega)
        have hbw : 0 ≤ z.el + m.words ∧ z.el + m.words ≤ 200000 := by omega
        clear hr hre hro hr2 hr6 hok he1 ht1
        have x1 := HWB.out.cell 14 (.int .i64 z.el) rfl
        have x2 := HWB.out.frozen 14
        have x3 := mem_cell (HXA.out wB HBB.out) 19 (.int .i64 m.words) rfl
        go_upto_region 14 with fail
        refine quiet_tail 8 mixed (by kernel_rfl) ?_
        simp only [List.take_succ_cons, List.take_zero, List.drop_succ_cons, List.drop_zero]
        repeat (go_big_quiet_step (fail))
        refine wpQuiet_nil ?_
        have y1 : wB.drew.cell? ⟨D, 14, none⟩ = some (.int .i64 z.el) := x1
        have y2 : wB.drew.frozen? ⟨D, 14, none⟩ = false := x2
        have hwd : Wld wB.drew D m.c z := HWB.out
        have hT : Kg.Touch [D] wB (wB.drew.setCell ⟨D, 14, none⟩ (.int .i64 (z.el + m.words))) := (Kg.Touch.drew _ _).trans (Kg.Touch.setCell _ _ _ (by simp))
        have HEn : Hid (Rms w0.heap.size (wB.drew.setCell ⟨D, 14, none⟩ (.int .i64 (z.el + m.words))) m (mtk m) b g D (n + 1) t' (z.step m.c.surv m.words m.sv m.pr 1)) := HNx.out _ (by rw [show ((1 : Nat) : Int) = 1 from rfl, st1]; exact hwd.set 14 _ rfl) hT (by simp)
        have HBn : Hid (Below w0.heap.size w0 (wB.drew.setCell ⟨D, 14, none⟩ (.int .i64 (z.el + m.words)))) := HBB.out.trans (hT.below HBB.out.size (fun q hq => by simp at hq; subst hq; exact HLo.out))
        clear HNx HBB HWB hT
        clear x1 x2 x3 hwd
        go_wp2
        go_roundw
        case rel => exact ⟨n + 1, t', _, by go_num, by have := fun e => H5.out e; omega, HEn, HBn⟩
        case measure => simp [intOf]; omega
    · as_aux_lemma =>
        have hr := HRm.out
        rw [show ((2 : Nat) : Int) = 2 from rfl, st2] at hr
        have hb1 := HSm.out.n1
        have hb5 := HSm.out.n5
        have hok := HK.out.2.1
        have he1 := hok.e1
        have ht1 := hok.t1
        have hre := hr.e
        have hro := hr.o
        have hr2 := hr.n2
        have hr6 := hr.n6
        have hw2 := HK.out.2.2
        simp only at hre hro hr2 hr6
        have s1 : wrap64 (z.ol + m.words) = z.ol + m.words := w64 _ (by omega) (by omega)
        have hbw : 0 ≤ z.ol + m.words ∧ z.ol + m.words ≤ 200000 := by omega
        clear hr hre hro hr2 hr6 hok he1 ht1
        have x1 := HWB.out.cell 18 (.int .i64 z.ol) rfl
        have x2 := HWB.out.frozen 18
        have x3 := mem_cell (HXA.out wB HBB.out) 19 (.int .i64 m.words) rfl
        go_upto_region 16 with fail
        refine quiet_tail 8 mixed (by kernel_rfl) ?_
        simp only [List.take_succ_cons, List.take_zero, List.drop_succ_cons, List.drop_zero]
        repeat (go_big_quiet_step (fail))
        refine wpQuiet_nil ?_
        have y1 : wB.drew.cell? ⟨D, 18, none⟩ = some (.int .i64 z.ol) := x1
        have y2 : wB.drew.frozen? ⟨D, 18, none⟩ = false := x2
        have hwd : Wld wB.drew D m.c z := HWB.out
        have hT : Kg.Touch [D] wB (wB.drew.setCell ⟨D, 18, none⟩ (.int .i64 (z.ol + m.words))) := (Kg.Touch.drew _ _).trans (Kg.Touch.setCell _ _ _ (by simp))
        have HEn : Hid (Rms w0.heap.size (wB.drew.setCell ⟨D, 18, none⟩ (.int .i64 (z.ol + m.words))) m (mtk m) b g D (n + 1) t' (z.step m.c.surv m.words m.sv m.pr 2)) := HNx.out _ (by rw [show ((2 : Nat) : Int) = 2 from rfl, st2]; exact hwd.set 18 _ rfl) hT (by simp)
        have HBn : Hid (Below w0.heap.size w0 (wB.drew.setCell ⟨D, 18, none⟩ (.int .i64 (z.ol + m.words)))) := HBB.out.trans (hT.below HBB.out.size (fun q hq => by simp at hq; subst hq; exact HLo.out))
        clear HNx HBB HWB hT
        clear x1 x2 x3 hwd
        go_wp2
        go_roundw
        case rel => exact ⟨n + 1, t', _, by go_num, by have := fun e => H5.out e; omega, HEn, HBn⟩
        case measure => simp [intOf]; omega
    · as_aux_lemma =>
        have HMb : Hid (wB.heap[w.heap.size]? = some (.cells (mcells m) 47 (0, 0))) := HXA.out wB HBB.out
        have q := minor_any HWB.out HSm.out false m
        go_wp2_with (first | (refine wpList_load_row rfl 47 _ rfl w.heap.size rfl _ _ _ _ HMb.out Try.underlying47 rfl (by kernel_rfl) ?_) | fail)
        refine q.mono ?_
        rintro e9 wC ⟨rfl, r1, r2⟩
        clear q HMb
        have hT : Kg.Touch [D] wB wC := r2
        have HEn : Hid (Rms w0.heap.size wC m (mtk m) b g D (n + 1) t' (z.step m.c.surv m.words m.sv m.pr 3)) := HNx.out _ (by rw [show ((3 : Nat) : Int) = 3 from rfl, st3]; exact r1) hT (by simp)
        have HBn : Hid (Below w0.heap.size w0 wC) := HBB.out.trans (hT.below HBB.out.size (fun q hq => by simp at hq; subst hq; exact HLo.out))
        clear HNx HBB HWB hT
        clear r1 r2
        go_wp2
        go_roundw
        case rel => exact ⟨n + 1, t', _, by go_num, by have := fun e => H5.out e; omega, HEn, HBn⟩
        case measure => simp [intOf]; omega
    · as_aux_lemma =>
        have HMb : Hid (wB.heap[w.heap.size]? = some (.cells (mcells m) 47 (0, 0))) := HXA.out wB HBB.out
        have q := minor_any HWB.out HSm.out true m
        go_wp2_with (first | (refine wpList_load_row rfl 47 _ rfl w.heap.size rfl _ _ _ _ HMb.out Try.underlying47 rfl (by kernel_rfl) ?_) | fail)
        refine q.mono ?_
        rintro e9 wC ⟨rfl, r1, r2⟩
        clear q HMb
        have hT : Kg.Touch [D] wB wC := r2
        have HEn : Hid (Rms w0.heap.size wC m (mtk m) b g D (n + 1) t' (z.step m.c.surv m.words m.sv m.pr 4)) := HNx.out _ (by rw [show ((4 : Nat) : Int) = 4 from rfl, st4]; exact r1) hT (by simp)
        have HBn : Hid (Below w0.heap.size w0 wC) := HBB.out.trans (hT.below HBB.out.size (fun q hq => by simp at hq; subst hq; exact HLo.out))
        clear HNx HBB HWB hT
        clear r1 r2
        go_wp2
        go_roundw
        case rel => exact ⟨n + 1, t', _, by go_num, by have := fun e => H5.out e; omega, HEn, HBn⟩
        case measure => simp [intOf]; omega
    · as_aux_lemma =>
        have x1 := HWB.out.cell 15 (.int .i64 z.ed) rfl
        have x2 := HWB.out.frozen 15
        have x3 := HWB.out.cell 17 (.int .i64 z.fd) rfl
        have x4 := HWB.out.frozen 17
        have x5 := HWB.out.cell 19 (.int .i64 z.od) rfl
        have x6 := HWB.out.frozen 19
        have hwd : Wld (((wB.setCell ⟨D, 15, none⟩ (.int .i64 0)).setCell ⟨D, 17, none⟩ (.int .i64 0)).setCell ⟨D, 19, none⟩ (.int .i64 0)) D m.c { z with ed := 0, fd := 0, od := 0 } := ((HWB.out.set (z' := { z with ed := 0 }) 15 _ rfl).set (z' := { z with ed := 0, fd := 0 }) 17 _ rfl).set 19 _ rfl
        have hT : Kg.Touch [D] wB (((wB.setCell ⟨D, 15, none⟩ (.int .i64 0)).setCell ⟨D, 17, none⟩ (.int .i64 0)).setCell ⟨D, 19, none⟩ (.int .i64 0)) := ((Kg.Touch.setCell _ _ _ (by simp)).trans (Kg.Touch.setCell _ _ _ (by simp))).trans (Kg.Touch.setCell _ _ _ (by simp))
        have HEn : Hid (Rms w0.heap.size (((wB.setCell ⟨D, 15, none⟩ (.int .i64 0)).setCell ⟨D, 17, none⟩ (.int .i64 0)).setCell ⟨D, 19, none⟩ (.int .i64 0)) m (mtk m) b g D (n + 1) t' (z.step m.c.surv m.words m.sv m.pr 5)) := HNx.out _ (by rw [show ((5 : Nat) : Int) = 5 from rfl, st5]; exact hwd) hT (by simp)
        have HBn : Hid (Below w0.heap.size w0 (((wB.setCell ⟨D, 15, none⟩ (.int .i64 0)).setCell ⟨D, 17, none⟩ (.int .i64 0)).setCell ⟨D, 19, none⟩ (.int .i64 0))) := HBB.out.trans (hT.below HBB.out.size (fun q hq => by simp at hq; subst hq; exact HLo.out))
        clear HNx HBB HWB hT
        clear hwd
        go_wp2
        go_roundw
        case rel => exact ⟨n + 1, t', _, by go_num, by have := fun e => H5.out e; omega, HEn, HBn⟩
        case measure => simp [intOf]; omega
    · as_aux_lemma =>
        have hf : F = false := HF.out.trans (decide_eq_false (by have := H6.out (by simp); omega))
        subst hf
        have hT : Kg.Touch [D] wB wB := Kg.Touch.refl _ _
        have HEn : Hid (Rms w0.heap.size wB m (mtk m) b g D (n + 1) t' (z.step m.c.surv m.words m.sv m.pr 6)) := HNx.out _ (by rw [show ((6 : Nat) : Int) = 6 from rfl, st6]; exact HWB.out) hT (by simp)
        have HBn : Hid (Below w0.heap.size w0 wB) := HBB.out.trans (hT.below HBB.out.size (fun q hq => by simp at hq; subst hq; exact HLo.out))
        clear HNx HBB HWB hT
        go_wp2
        go_roundw
        case rel => exact ⟨n + 1, t', _, by go_num, by have := fun e => H5.out e; omega, HEn, HBn⟩
        case measure => simp [intOf]; omega
    · as_aux_lemma =>
        have q := view_any HWB.out HSm.out
        go_wp2_with fail
        refine q.mono ?_
        rintro e9 wC ⟨rfl, rC⟩
        obtain ⟨u', p1, p2, p3⟩ := HPB.out
        have HPC : Hid (Pt wC w0.heap.size b u' g (mtk m) t') := p1.below rC
        have HBC : Hid (Below w0.heap.size w0 wC) := HBB.out.trans (rC.mono HBB.out.size)
        clear q p1 p2 p3 rC HPB HBB HNx
        have hl9 : z.ol + z.od ≤ clim m.c (if 3 ∈ t'.ran then clp (z.ol + z.od) else m.base) := by
          have hz5 := HRz.out.n5
          have hz6 := HRz.out.n6
          have hzo := HRz.out.o
          have ht1 := HK.out.2.1.t1
          rw [HTR.out (by simp)]
          by_cases h3 : 3 ∈ t.ran
          · rw [if_pos h3, clp_of (by omega)]
            exact lim_ge HK.out.2.1.d0 HK.out.2.1.n0 (by omega) (by omega)
          · rw [if_neg h3]
            exact (H7.out (by simp)).resolve_right h3
        obtain ⟨bs, hbs⟩ : ∃ bs, bs = (if 3 ∈ t'.ran then clp (z.ol + z.od) else m.base) := ⟨_, rfl⟩
        rw [← hbs] at hl9
        obtain ⟨M, hM⟩ : ∃ M, M = clim m.c bs := ⟨_, rfl⟩
        rw [← hM] at hl9
        have hz0 : z.ed ≤ m.c.eden - z.el := by have := HRz.out.e; omega
        have hz1 : z.od ≤ m.c.ten - z.ol := by have := HRz.out.o; omega
        have HBs : Hid (∀ W, Pt W w0.heap.size b u' g (mtk m) t' → Calls Try.prog 20 #[.pointer (some ⟨b, 0, none⟩), vv (z.view m.c.eden m.c.ten)] W fun e w' => e = .returned (.int .i64 bs) ∧ Below W.heap.size W w') := fun W hW => by rw [hbs]; exact pbase_any hW (z.view m.c.eden m.c.ten)
        have HLm : Hid (∀ W : World, Calls Try.prog 7 #[cv m.c, .int .i64 bs] W fun e w' => e = .returned (.int .i64 M) ∧ Below W.heap.size W w') := fun W => by rw [hM]; exact plimit_yes HK.out.2.1 bs W
        clear hbs hM
        go_upto_region 28 with fail
        have HV : Hid ((wC.alloc (vbox (z.view m.c.eden m.c.ten))).heap[wC.heap.size]? = some (.cells #[.int .i64 (m.c.eden - z.el - z.ed), .int .i64 (z.el + z.ed + z.fl + z.fd), .int .i64 (z.ol + z.od), .int .i64 (m.c.ten - z.ol - z.od)] 40 (0, 0))) := heap_alloc_new wC _
        have HPD : Hid (Pt (wC.alloc (vbox (z.view m.c.eden m.c.ten))) w0.heap.size b u' g (mtk m) t') := HPC.out.below (Below.alloc (Below.refl _ _) (Nat.le_refl _) _)
        have HBD : Hid (Below w0.heap.size w0 (wC.alloc (vbox (z.view m.c.eden m.c.ten)))) := HBC.out.trans (Below.alloc (Below.refl _ _) (Nat.le_refl _) _ |>.mono HBC.out.size)
        clear HPC HBC
        have hxl : w.heap.size < (wC.alloc (vbox (z.view m.c.eden m.c.ten))).heap.size := by have := Hs0.out; have := HBD.out.size; omega
        have hMx := HXA.out _ HBD.out
        have hvl : wC.heap.size < (wC.alloc (vbox (z.view m.c.eden m.c.ten))).heap.size := heap_lt HV.out
        generalize (wC.alloc (vbox (z.view m.c.eden m.c.ten))) = wD at HV HPD HBD hxl hMx hvl ⊢
        generalize wC.heap.size = V at HV hvl ⊢
        haveI hinh : Inhabited (Kg.Bel wD) := ⟨⟨wD, Below.refl _ _⟩⟩
        have y0 : ∀ p : Kg.Bel wD, p.v.cell? ⟨V, 0, none⟩ = some (.int .i64 (m.c.eden - z.el - z.ed)) := fun p => (p.h.cell (p := ⟨V, 0, none⟩) hvl).trans (heap_cell HV.out 0)
        have y1 : ∀ p : Kg.Bel wD, p.v.cell? ⟨V, 1, none⟩ = some (.int .i64 (z.el + z.ed + z.fl + z.fd)) := fun p => (p.h.cell (p := ⟨V, 1, none⟩) hvl).trans (heap_cell HV.out 1)
        have y2 : ∀ p : Kg.Bel wD, p.v.cell? ⟨V, 2, none⟩ = some (.int .i64 (z.ol + z.od)) := fun p => (p.h.cell (p := ⟨V, 2, none⟩) hvl).trans (heap_cell HV.out 2)
        have y3 : ∀ p : Kg.Bel wD, p.v.cell? ⟨V, 3, none⟩ = some (.int .i64 (m.c.ten - z.ol - z.od)) := fun p => (p.h.cell (p := ⟨V, 3, none⟩) hvl).trans (heap_cell HV.out 3)
        have a0 : ∀ p : Kg.Bel wD, p.v.cell? ⟨w.heap.size, 0, none⟩ = some (.int .i64 m.c.eden) := fun p => (p.h.cell (p := ⟨w.heap.size, 0, none⟩) hxl).trans (mem_cell hMx 0 _ rfl)
        have a1 : ∀ p : Kg.Bel wD, p.v.cell? ⟨w.heap.size, 1, none⟩ = some (.int .i64 m.c.surv) := fun p => (p.h.cell (p := ⟨w.heap.size, 1, none⟩) hxl).trans (mem_cell hMx 1 _ rfl)
        have a2 : ∀ p : Kg.Bel wD, p.v.cell? ⟨w.heap.size, 2, none⟩ = some (.int .i64 m.c.ten) := fun p => (p.h.cell (p := ⟨w.heap.size, 2, none⟩) hxl).trans (mem_cell hMx 2 _ rfl)
        have a3 : ∀ p : Kg.Bel wD, p.v.cell? ⟨w.heap.size, 3, none⟩ = some (.int .i64 m.c.large) := fun p => (p.h.cell (p := ⟨w.heap.size, 3, none⟩) hxl).trans (mem_cell hMx 3 _ rfl)
        have a4 : ∀ p : Kg.Bel wD, p.v.cell? ⟨w.heap.size, 4, none⟩ = some (.int .i64 m.c.floor) := fun p => (p.h.cell (p := ⟨w.heap.size, 4, none⟩) hxl).trans (mem_cell hMx 4 _ rfl)
        have a5 : ∀ p : Kg.Bel wD, p.v.cell? ⟨w.heap.size, 5, none⟩ = some (.int .i64 m.c.num) := fun p => (p.h.cell (p := ⟨w.heap.size, 5, none⟩) hxl).trans (mem_cell hMx 5 _ rfl)
        have a6 : ∀ p : Kg.Bel wD, p.v.cell? ⟨w.heap.size, 6, none⟩ = some (.int .i64 m.c.den) := fun p => (p.h.cell (p := ⟨w.heap.size, 6, none⟩) hxl).trans (mem_cell hMx 6 _ rfl)
        have a7 : ∀ p : Kg.Bel wD, p.v.cell? ⟨w.heap.size, 7, none⟩ = some (.int .i64 m.c.target) := fun p => (p.h.cell (p := ⟨w.heap.size, 7, none⟩) hxl).trans (mem_cell hMx 7 _ rfl)
        have a8 : ∀ p : Kg.Bel wD, p.v.cell? ⟨w.heap.size, 8, none⟩ = some (.int .i64 m.c.maxAge) := fun p => (p.h.cell (p := ⟨w.heap.size, 8, none⟩) hxl).trans (mem_cell hMx 8 _ rfl)
        have a9 : ∀ p : Kg.Bel wD, p.v.cell? ⟨w.heap.size, 9, none⟩ = some (.int .i64 m.c.threads) := fun p => (p.h.cell (p := ⟨w.heap.size, 9, none⟩) hxl).trans (mem_cell hMx 9 _ rfl)
        have a10 : ∀ p : Kg.Bel wD, p.v.cell? ⟨w.heap.size, 10, none⟩ = some (.int .i64 m.c.slots) := fun p => (p.h.cell (p := ⟨w.heap.size, 10, none⟩) hxl).trans (mem_cell hMx 10 _ rfl)
        have a11 : ∀ p : Kg.Bel wD, p.v.cell? ⟨w.heap.size, 11, none⟩ = some (.int .i64 m.c.handles) := fun p => (p.h.cell (p := ⟨w.heap.size, 11, none⟩) hxl).trans (mem_cell hMx 11 _ rfl)
        have a12 : ∀ p : Kg.Bel wD, p.v.cell? ⟨w.heap.size, 12, none⟩ = some (.int .i64 m.c.buffer) := fun p => (p.h.cell (p := ⟨w.heap.size, 12, none⟩) hxl).trans (mem_cell hMx 12 _ rfl)
        have a13 : ∀ p : Kg.Bel wD, p.v.cell? ⟨w.heap.size, 13, none⟩ = some (.int .i64 m.c.workers) := fun p => (p.h.cell (p := ⟨w.heap.size, 13, none⟩) hxl).trans (mem_cell hMx 13 _ rfl)
        have HC1 : Hid (∀ p : Kg.Bel wD, Calls Try.prog 20 #[.pointer (some ⟨b, 0, none⟩), vv (z.view m.c.eden m.c.ten)] p.v fun e w' => e = .returned (.int .i64 bs) ∧ Below p.v.heap.size p.v w') := fun p => HBs.out p.v (HPD.out.below p.h)
        have HC2 : Hid (∀ p : Kg.Bel wD, Calls Try.prog 7 #[cv m.c, .int .i64 bs] p.v fun e w' => e = .returned (.int .i64 M) ∧ Below p.v.heap.size p.v w') := fun p => HLm.out p.v
        clear hxl hMx hvl HBs HLm
        refine region_below mixed (by kernel_rfl) ?_
        repeat (go_big_quiet_step (first | (go_at_call 20; exact calls_bel (HC1.out _)) | (go_at_call 7; exact calls_bel (HC2.out _))))
        refine wpQuiet_nil ?_
        rintro w8 ⟨⟨w8, b8⟩, rfl⟩
        have HBf : Hid (Below w.heap.size w w8) := HBW.out w8 (HBD.out.trans (b8.mono HBD.out.size))
        clear y0 y1 y2 y3 HC1 HC2 hinh a0 a1 a2 a3 a4 a5 a6 a7 a8 a9 a10 a11 a12 a13
        go_wp2
        go_returns
        exact ⟨rfl, HBf.out⟩

end Go.Proofs.Ytcijdbhabbepaaa.Po
