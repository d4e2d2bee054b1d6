/-
  RemsetHolds.
-/
import Derived.Test.YtfihjmoaibmllaaDoorPZb
import Derived.Test.YtfihjmoaibmllaaDoorYB
import Derived.Deep.CutRange
set_option linter.unusedVariables false
set_option maxRecDepth 20000
namespace Go.Proofs.YtfihjmoaibmllaaDoor
open Go.RowKit Go.Shelf

theorem Prd.mono {n0 n1 : Nat} {w : World} {v : Value} {P : List LT} (h : Prd n0 w v P) (hn : n0 ≤ n1) : Prd n1 w v P := by
  obtain ⟨a, cap, h1, h2⟩ := h
  refine ⟨a, cap, h1, fun i o ho => ?_⟩
  obtain ⟨q1, q2, q3, g, off, q4, q5, q6⟩ := h2 i o ho
  exact ⟨q1, q2.mono hn, q3.mono hn, g, off, q4, Nat.lt_of_lt_of_le q5 hn, q6⟩

set_option maxHeartbeats 8000000 in
theorem remsetHolds_any (cp : Cfg) (a0 : Option Addr) (cap0 : Nat) (P : List LT) (da : Option Addr) (dcap : Nat) (D : List DeedG) (n0 nD : Nat) (sp : Int) (hn0 : n0 = P.length) (hnD : nD = D.length) (w : World) (hL : Laid w) (hP : Prd w.heap.size w (.slice a0 P.length cap0) P) (hpi : ∀ o, o ∈ P → ∀ z, z ∈ o.ps → InI z) (hPl : P.length ≤ 1172812402961) (hpb : ∀ o, o ∈ P → o.ps.length ≤ 17592186044416) (hD : LDeeds w.heap.size w da D) (hDl : D.length ≤ 9223372036854775807) (hsp : InI sp) :
    Calls Tryd.prog 4 #[pv cp (.slice a0 n0 cap0), .slice da nD dcap, .int .i64 sp] w fun e w' => e = .returned (.bool true) ∧ Below w.heap.size w w' := by
  have HLa : Hid (Laid w) := hL
  have HPr : Hid (Prd w.heap.size w (.slice a0 P.length cap0) P ∧ (∀ o, o ∈ P → ∀ z, z ∈ o.ps → InI z) ∧ P.length ≤ 1172812402961 ∧ n0 = P.length ∧ (∀ o, o ∈ P → o.ps.length ≤ 17592186044416)) := ⟨hP, hpi, hPl, hn0, hpb⟩
  have HD : Hid (LDeeds w.heap.size w da D ∧ D.length ≤ 9223372036854775807 ∧ nD = D.length) := ⟨hD, hDl, hnD⟩
  have Hsp : Hid (InI sp) := hsp
  obtain ⟨i0, hi0, hz0, hz1, hz2⟩ := info_parts Tryd.infoInt
  have HI : Hid (Tryd.prog.info? 3 = some i0 ∧ i0.zero = some (.int .i64 0) ∧ i0.size = 1 ∧ i0.bytes = 8) := ⟨hi0, hz0, hz1, hz2⟩
  clear hL hP hpi hPl hD hDl hn0 hnD hpb hsp hi0 hz0 hz1 hz2
  go_enter Tryd.func4, Tryd.ntmps4
  go_upto_region 1 with fail
  have p0 := Pd.new w cp (.slice a0 n0 cap0)
  have b0 : Below w.heap.size w (w.alloc (.cells (pcells cp (.slice a0 n0 cap0)) 26)) := Below.alloc (Below.refl _ _) (Nat.le_refl _) _
  obtain ⟨v1, hv1⟩ : ∃ v1, v1 = w.alloc (.cells (pcells cp (.slice a0 n0 cap0)) 26) := ⟨_, rfl⟩
  obtain ⟨B, hB⟩ : ∃ B, B = w.heap.size := ⟨_, rfl⟩
  show Code.wp _ _ _ _ (w.alloc (.cells (pcells cp (.slice a0 n0 cap0)) 26))
  rw [← hv1] at p0 b0 ⊢
  rw [← hB] at p0 ⊢
  have HP1 : Hid (Pd v1 B cp (.slice a0 n0 cap0)) := p0
  have HB1 : Hid (Below w.heap.size w v1) := b0
  have hkn := known6_any v1 (HLa.out.keep b0)
  clear p0 b0 hv1 hB
  go_wp2_with fail
  refine hkn.mono ?_
  rintro e w2 ⟨rfl, l2⟩
  have HP2 : Hid (Pd w2 B cp (.slice a0 n0 cap0)) := HP1.out.below l2
  have HB2 : Hid (Below w.heap.size w w2) := HB1.out.trans (l2.mono HB1.out.size)
  clear hkn l2 HP1 HB1 v1
  have k0 : w2.cell? ⟨B, 0, none⟩ = some (.int .i64 cp.eden) := HP2.out.cell 0
  have k1 : w2.cell? ⟨B, 1, none⟩ = some (.int .i64 cp.surv) := HP2.out.cell 1
  have k2 : w2.cell? ⟨B, 2, none⟩ = some (.int .i64 cp.ten) := HP2.out.cell 2
  have k3 : w2.cell? ⟨B, 3, none⟩ = some (.int .i64 cp.large) := HP2.out.cell 3
  have k4 : w2.cell? ⟨B, 4, none⟩ = some (.int .i64 cp.floor) := HP2.out.cell 4
  have k5 : w2.cell? ⟨B, 5, none⟩ = some (.int .i64 cp.num) := HP2.out.cell 5
  have k6 : w2.cell? ⟨B, 6, none⟩ = some (.int .i64 cp.den) := HP2.out.cell 6
  have k7 : w2.cell? ⟨B, 7, none⟩ = some (.int .i64 cp.target) := HP2.out.cell 7
  have k8 : w2.cell? ⟨B, 8, none⟩ = some (.int .i64 cp.maxAge) := HP2.out.cell 8
  have k9 : w2.cell? ⟨B, 9, none⟩ = some (.int .i64 cp.threads) := HP2.out.cell 9
  have k10 : w2.cell? ⟨B, 10, none⟩ = some (.int .i64 cp.slots) := HP2.out.cell 10
  have k11 : w2.cell? ⟨B, 11, none⟩ = some (.int .i64 cp.handles) := HP2.out.cell 11
  have k12 : w2.cell? ⟨B, 12, none⟩ = some (.int .i64 cp.buffer) := HP2.out.cell 12
  have k13 : w2.cell? ⟨B, 13, none⟩ = some (.int .i64 cp.workers) := HP2.out.cell 13
  have k14 : w2.cell? ⟨B, 14, none⟩ = some (.slice a0 n0 cap0) := HP2.out.cell 14
  have hem := empty_any cp a0 cap0 P n0 HPr.out.2.2.2.1 w2 (HLa.out.keep HB2.out) ((HPr.out.1.below HB2.out).mono HB2.out.size) HPr.out.2.1 HPr.out.2.2.1 HPr.out.2.2.2.2
  clear HP2
  go_wp2_with fail
  refine hem.mono ?_
  rintro e w3 ⟨w4, mm, lb, b, mb, g, c, L, ws, th, rfl, hmm, hly, ok, hz, hR, sk, hfull, b4⟩
  have HB4 : Hid (Below w.heap.size w w4) := HB2.out.trans (b4.mono HB2.out.size)
  have m0 : w3.cell? ⟨mm, 0, none⟩ = some (.pointer (some ⟨lb, 0, none⟩)) := hmm.cell 0
  have hfd := fields6_any hly hR.bq.be.size ok.len (fun T hT => by
    obtain ⟨i, hi⟩ := List.getElem?_of_mem hT
    exact (ok.plc i T hi).few.1)
  have HM3 : Hid (Mm w3 mm lb b (mb + 1)) := hmm
  have HL3 : Hid (Ly w4.heap.size w3 lb c L) := hly
  have HO : Hid (LOk c L) := ok
  have HZ : Hid (∀ T, T ∈ L → T.h = false ∧ ∀ z, z ∈ T.ps → z = 0) := hz
  have HR3 : Hid (Rm w4 w4.heap.size w3 (mb + 1) b g mb (.slice none 0 0) c (tps c L) false ws th [] 0 (fun a => decide (a ∈ ([] : List Int)))) := hR
  have HSk : Hid (Sk L th ∧ ∀ T, T ∈ th → Full L T) := ⟨sk, hfull⟩
  clear hem k0 k1 k2 k3 k4 k5 k6 k7 k8 k9 k10 k11 k12 k13 k14 hmm hly ok hz hR sk hfull b4 HB2
  go_wp2_with fail
  refine hfd.mono ?_
  rintro e w5 ⟨fv, rfl, Fr, hF, hFr, l5⟩
  have hps := start_ps HSk.out.1 HO.out HZ.out HSk.out.2 hFr
  have HS5 : Hid (Hs w4 w4.heap.size w5 mm lb b (mb + 1) g mb c (tps c L) false L fv Fr Fr w3.heap.size w5.heap.size 0 (.slice none 0 0) 0 [] [] true) := ⟨.slice none 0 0, ws, th, [], ⟨HM3.out.below l5, HL3.out.mono HR3.out.bq.be.size l5, HR3.out.below l5, hF, HR3.out.bq.be.size, fun q hq => by simp [Value.ownBlock] at hq⟩, hps, fun _ => start_cov hps HR3.out.bq.ax (fun p hp z hz => by
    have hm : p.2 ∈ Fr.map (·.2) := List.mem_map.2 ⟨p, hp, rfl⟩
    rw [hFr] at hm
    obtain ⟨o, -, e⟩ := List.mem_map.1 hm
    rw [← e] at hz
    exact List.eq_of_mem_replicate hz), fun q hq => by simp [Value.ownBlock] at hq, World.ownsRow_nil _ _ _ _, rfl, fun p hp => (Array.getElem?_eq_some_iff.1 (hF.rows p hp).1).1, Nat.le_trans HR3.out.bq.be.size l5.size, Nat.le_refl _⟩
  obtain ⟨N, hN⟩ : ∃ n, n = L.length := ⟨_, rfl⟩
  have HN : Hid (N = L.length ∧ N ≤ 400) := ⟨hN, by rw [hN]; exact HO.out.len⟩
  obtain ⟨fa, fcap, hfv⟩ := own_sl hF.row
  have hFl : Fr.length = N := by rw [hN]; exact HS5.out.few.2.2.1
  rw [hFl] at hfv
  subst hfv
  obtain ⟨n2, hn2⟩ : ∃ n, n = w3.heap.size := ⟨_, rfl⟩
  obtain ⟨n3, hn3⟩ : ∃ n, n = w5.heap.size := ⟨_, rfl⟩
  rw [← hn2, ← hn3] at HS5
  have hNb : N ≤ 400 := HN.out.2
  clear hfd hF hFr l5 hps hN hFl hn2 hn3 m0 HM3 HL3 HR3 HSk HZ
  go_wp2_with fail
  go_loopw [9, 10] (fun v9 v10 wr => ∃ (i m n : Nat) (sw : Bool) (F : List (Nat × List Int)) (ls : List Int), i ≤ nD ∧ i ≤ 200 ∧ v10 = .int .i64 i ∧ n ≤ 20200 ∧ Hid ((sw = true → sp < i) ∧ n ≤ i + (if sw = true then 20000 else 0)) ∧ Hid (Hs w4 w4.heap.size wr mm lb b (mb + 1) g mb c (tps c L) sw L (.slice fa N fcap) F F n2 n3 n (v9) m ls ls true)) (fun _ v10 _ => 200 - (intOf v10).toNat)
  case atStart => exact ⟨0, 0, 0, false, Fr, [], Nat.zero_le _, by omega, rfl, by omega, ⟨fun h => by simp at h, by simp⟩, HS5⟩
  case round =>
    obtain ⟨i, m, n, sw, F, ls, hi, hi1, rfl, hn, Hsw, HS⟩ := hrel
    clear HS5
    have Hlf : Hid (ls.length ≤ 400) := by
      have h := HS.out.few.1
      have := HO.out.len
      show ls.length ≤ 400
      omega
    obtain ⟨a6, n6, c6, rfl⟩ := row_slice HS.out.row.1
    go_upto_region 9 with fail
    go_cut [34] from 27 to 33 (fun v34 wc => ∃ nb : Bool, v34 = .bool nb ∧ nb = decide (i < nD ∧ i < 200) ∧ wr = wc)
    case first =>
      by_cases h1 : i < nD
      · have h1I : (i : Int) < (nD : Int) := by omega
        by_cases h2 : i < 200
        · have h2I : (i : Int) < 200 := by omega
          go_wp2_with fail
          go_meet
          exact ⟨_, rfl, (decide_eq_true ⟨h1, h2⟩).symm, rfl⟩
        · have h2I : ¬ (i : Int) < 200 := by omega
          go_wp2_with fail
          go_meet
          exact ⟨_, rfl, (decide_eq_false (fun h => h2 h.2)).symm, rfl⟩
      · have h1I : ¬ (i : Int) < (nD : Int) := by omega
        go_wp2_with fail
        go_meet
        exact ⟨_, rfl, (decide_eq_false (fun h => h1 h.1)).symm, rfl⟩
    case rest =>
    obtain ⟨nb0, rfl, hnb0, rfl⟩ := hcut
    have Hnb0 : Hid (nb0 = decide (i < nD ∧ i < 200)) := hnb0
    clear hnb0
    apply_assumption
    by_cases hii : i < nD ∧ i < 200
    · obtain rfl : nb0 = true := by rw [Hnb0.out]; exact decide_eq_true hii
      obtain ⟨h1, h2⟩ := hii
      have h1I : (i : Int) < (nD : Int) := by omega
      have hbw : Below w.heap.size w wr := HB4.out.trans (HS.out.be.mono HB4.out.size)
      obtain ⟨o, ho⟩ : ∃ o, D[i]? = some o := ⟨_, List.getElem?_eq_getElem (by have := HD.out.2.2; omega)⟩
      obtain ⟨oi1, oi2, oi3, dq, doff, rfl, hdq, hdc⟩ := HD.out.1.below hbw i o ho
      obtain ⟨oa, of_, ot⟩ := o
      have d0 : wr.cell? ⟨dq, doff + i * 3, none⟩ = some (.int .i64 oa) := hdc 0 (by decide)
      have d1 : wr.cell? ⟨dq, doff + i * 3 + 1, none⟩ = some (.int .i64 of_) := hdc 1 (by decide)
      have d2 : wr.cell? ⟨dq, doff + i * 3 + 2, none⟩ = some (.int .i64 ot) := hdc 2 (by decide)
      have HOi : Hid (InI oa ∧ InI of_ ∧ InI ot) := ⟨oi1, oi2, oi3⟩
      clear hdc oi1 oi2 oi3 ho hdq hbw Hnb0
      go_upto_region 12 with fail
      have b5 : Below wr.heap.size wr (wr.alloc (.cells #[.int .i64 oa, .int .i64 of_, .int .i64 ot] 53)) := Below.alloc (Below.refl _ _) (Nat.le_refl _) _
      have hdd : (wr.alloc (.cells #[.int .i64 oa, .int .i64 of_, .int .i64 ot] 53)).heap[wr.heap.size]? = some (.cells #[.int .i64 oa, .int .i64 of_, .int .i64 ot] 53 (0, 0)) := heap_alloc_new wr _
      obtain ⟨v5, hv5⟩ : ∃ v, v = wr.alloc (.cells #[.int .i64 oa, .int .i64 of_, .int .i64 ot] 53) := ⟨_, rfl⟩
      obtain ⟨R, hR⟩ : ∃ R, R = wr.heap.size := ⟨_, rfl⟩
      show Code.wp _ _ _ _ (wr.alloc (.cells #[.int .i64 oa, .int .i64 of_, .int .i64 ot] 53))
      rw [← hv5] at b5 hdd ⊢
      rw [← hR] at hdd ⊢
      have Hb5 : Hid (Below wr.heap.size wr v5) := b5
      have Hdd : Hid (v5.heap[R]? = some (.cells #[.int .i64 oa, .int .i64 of_, .int .i64 ot] 53 (0, 0))) := hdd
      have HR : Hid (R = wr.heap.size) := hR
      have hRl : R < v5.heap.size := (Array.getElem?_eq_some_iff.1 hdd).1
      clear d0 d1 d2 b5 hdd hv5 hR
      have HS5 : Hid (Hs w4 w4.heap.size v5 mm lb b (mb + 1) g mb c (tps c L) sw L (.slice fa N fcap) F F n2 n3 n (.slice a6 n6 c6) m ls ls true) := HS.out.below Hb5.out
      haveI hinh : Inhabited (Bel v5) := ⟨⟨v5, Below.refl _ _⟩⟩
      have x2 : ∀ p : Bel v5, p.v.cell? ⟨R, 2, none⟩ = some (.int .i64 ot) := fun p => (p.h.cell (p := ⟨R, 2, none⟩) hRl).trans (cell_of_row _ _ 2 _ _ _ Hdd.out)
      have y0 : ∀ p : Bel v5, p.v.cell? ⟨mm, 0, none⟩ = some (.pointer (some ⟨lb, 0, none⟩)) := fun p => (HS5.out.below p.h).mm_.cell 0
      have Htt : Hid (∀ p : Bel v5, Calls Tryd.prog 11 #[.pointer (some ⟨lb, 0, none⟩), .int .i64 ot] p.v fun e w' => e = .returned (.bool (thr L ot)) ∧ Below p.v.heap.size p.v w') := fun p => there_any (HS5.out.below p.h).ly HO.out.len ot HOi.out.2.2
      go_cut [53] from 41 to 52 (fun v53 wq => ∃ bb : Bool, v53 = .bool bb ∧ Hid (bb = (!decide (ot = 0) && !thr L ot)) ∧ Hid (Below v5.heap.size v5 wq))
      case first =>
        by_cases ht0 : ot = 0
        · subst ht0
          refine region_below mixed (by kernel_rfl) ?_
          repeat (go_big_quiet_step (fail))
          refine wpQuiet_nil ?_
          rintro w8 ⟨⟨w8, b8⟩, rfl⟩
          go_wp2_with fail
          go_meet
          exact ⟨_, rfl, by show _ = _; simp, b8⟩
        · have ht0' : (ot == 0) = false := by simpa using ht0
          have ht0n : (ot != 0) = true := by simpa using ht0
          have Ht0 : Hid (¬ ot = 0) := ht0
          cases hB : thr L ot
          · rw [hB] at Htt
            have HBf : Hid (thr L ot = false) := hB
            have HTt : Hid (∀ p : Bel v5, Calls Tryd.prog 11 #[.pointer (some ⟨lb, 0, none⟩), .int .i64 ot] p.v fun e w' => e = .returned (.bool false) ∧ Below p.v.heap.size p.v w') := Htt
            clear Htt hB ht0
            refine region_below mixed (by kernel_rfl) ?_
            repeat (go_big_quiet_step (first | (go_at_call 11; exact calls_bel (HTt.out _))))
            refine wpQuiet_nil ?_
            rintro w8 ⟨⟨w8, b8⟩, rfl⟩
            go_wp2_with fail
            go_meet
            exact ⟨_, rfl, by show _ = _; rw [decide_eq_false Ht0.out, HBf.out]; rfl, b8⟩
          · rw [hB] at Htt
            have HBt : Hid (thr L ot = true) := hB
            have HTt : Hid (∀ p : Bel v5, Calls Tryd.prog 11 #[.pointer (some ⟨lb, 0, none⟩), .int .i64 ot] p.v fun e w' => e = .returned (.bool true) ∧ Below p.v.heap.size p.v w') := Htt
            clear Htt hB ht0
            refine region_below mixed (by kernel_rfl) ?_
            repeat (go_big_quiet_step (first | (go_at_call 11; exact calls_bel (HTt.out _))))
            refine wpQuiet_nil ?_
            rintro w8 ⟨⟨w8, b8⟩, rfl⟩
            go_wp2_with fail
            go_meet
            exact ⟨_, rfl, by show _ = _; rw [HBt.out]; simp, b8⟩
      case rest =>
      obtain ⟨bb, rfl, Hbb, HB6⟩ := hcut
      have HS6 : Hid (Hs w4 w4.heap.size wc mm lb b (mb + 1) g mb c (tps c L) sw L (.slice fa N fcap) F F n2 n3 n (.slice a6 n6 c6) m ls ls true) := HS5.out.below HB6.out
      have Hd6 : Hid (wc.heap[R]? = some (.cells #[.int .i64 oa, .int .i64 of_, .int .i64 ot] 53 (0, 0))) := (HB6.out.block R hRl).trans Hdd.out
      have Hb6 : Hid (Below wr.heap.size wr wc) := Hb5.out.trans (HB6.out.mono Hb5.out.size)
      clear x2 y0 Htt hinh hRl Hdd HS5 Hb5 HB6
      apply_assumption
      go_cut [53] from 54 to 54 (fun _ wq => ∃ ot' : Int, Hid ((ot' = 0 ∨ thr L ot' = true) ∧ InI ot') ∧ Hid (Hs w4 w4.heap.size wq mm lb b (mb + 1) g mb c (tps c L) sw L (.slice fa N fcap) F F n2 n3 n (.slice a6 n6 c6) m ls ls true) ∧ Hid (wq.heap[R]? = some (.cells #[.int .i64 oa, .int .i64 of_, .int .i64 ot'] 53 (0, 0))))
      case first =>
        cases bb
        · have Hot : Hid (ot = 0 ∨ thr L ot = true) := by
            have h := Hbb.out
            show _ ∨ _
            by_cases h0 : ot = 0
            · exact .inl h0
            · rw [decide_eq_false h0] at h
              right
              simpa using h.symm
          go_wp2_with fail
          go_meet
          exact ⟨ot, ⟨Hot.out, HOi.out.2.2⟩, HS6, Hd6⟩
        · have c2 : wc.cell? ⟨R, 2, none⟩ = some (.int .i64 ot) := cell_of_row _ _ 2 _ _ _ Hd6.out
          have f2 : wc.frozen? ⟨R, 2, none⟩ = false := by unfold World.frozen?; simp only [Hd6.out]; simp
          have hR9 := set7_at Hd6.out 2 (.int .i64 0)
          have Hb9 : Hid (Below wr.heap.size wr (wc.setCell ⟨R, 2, none⟩ (.int .i64 0))) := Below.setCell (p := ⟨R, 2, none⟩) Hb6.out (Nat.le_of_eq HR.out.symm) _
          have HR9 : Hid ((wc.setCell ⟨R, 2, none⟩ (.int .i64 0)).heap[R]? = some (.cells #[.int .i64 oa, .int .i64 of_, .int .i64 0] 53 (0, 0))) := hR9
          clear hR9
          go_wp2_with fail
          go_meet
          exact ⟨0, ⟨.inl rfl, by unfold InI; omega⟩, HS.out.below Hb9.out, HR9⟩
      case rest =>
      obtain ⟨ot', Hot, HSc, Hdc⟩ := hcut
      clear HS6 Hd6 Hb6 HS HR Hbb
      apply_assumption
      have hRl : R < wc.heap.size := (Array.getElem?_eq_some_iff.1 Hdc.out).1
      haveI hinh : Inhabited (Bel wc) := ⟨⟨wc, Below.refl _ _⟩⟩
      have x0 : ∀ p : Bel wc, p.v.cell? ⟨R, 0, none⟩ = some (.int .i64 oa) := fun p => (p.h.cell (p := ⟨R, 0, none⟩) hRl).trans (cell_of_row _ _ 0 _ _ _ Hdc.out)
      have x1 : ∀ p : Bel wc, p.v.cell? ⟨R, 1, none⟩ = some (.int .i64 of_) := fun p => (p.h.cell (p := ⟨R, 1, none⟩) hRl).trans (cell_of_row _ _ 1 _ _ _ Hdc.out)
      have x2 : ∀ p : Bel wc, p.v.cell? ⟨R, 2, none⟩ = some (.int .i64 ot') := fun p => (p.h.cell (p := ⟨R, 2, none⟩) hRl).trans (cell_of_row _ _ 2 _ _ _ Hdc.out)
      have y0 : ∀ p : Bel wc, p.v.cell? ⟨mm, 0, none⟩ = some (.pointer (some ⟨lb, 0, none⟩)) := fun p => (HSc.out.below p.h).mm_.cell 0
      have y2 : ∀ p : Bel wc, p.v.cell? ⟨mm, 2, none⟩ = some (.pointer (some ⟨mb + 1, 0, none⟩)) := fun p => (HSc.out.below p.h).mm_.cell 2
      have HTa : Hid (∀ p : Bel wc, Calls Tryd.prog 13 #[.pointer (some ⟨lb, 0, none⟩), .int .i64 oa] p.v fun e w' => e = .returned (.int .i64 (plc L oa)) ∧ Below p.v.heap.size p.v w') := fun p => place_any (HSc.out.below p.h).ly (HSc.out.below p.h).hn HO.out.len oa HOi.out.1
      have HTt : Hid (∀ p : Bel wc, Calls Tryd.prog 13 #[.pointer (some ⟨lb, 0, none⟩), .int .i64 ot'] p.v fun e w' => e = .returned (.int .i64 (plc L ot')) ∧ Below p.v.heap.size p.v w') := fun p => place_any (HSc.out.below p.h).ly (HSc.out.below p.h).hn HO.out.len ot' Hot.out.2
      have Hda : Hid (∀ W, Below wc.heap.size wc W → Calls Tryd.prog 11 #[.pointer (some ⟨lb, 0, none⟩), .int .i64 oa] W fun e w' => e = .returned (.bool (thr L oa)) ∧ Below W.heap.size W w') := fun W hW => there_any (HSc.out.below hW).ly HO.out.len oa HOi.out.1
      have HFl : Hid (F.length = N) := by show _ = _; rw [HN.out.1]; exact HSc.out.few.2.2.1
      by_cases hgood : thr L oa = true ∧ 0 ≤ of_ ∧ ∃ pr, F[(oa - 1).toNat]? = some pr ∧ of_ < pr.2.length
      · obtain ⟨hta, hf0, pr, hpr, hfl⟩ := hgood
        have h1a := (HSc.out.thing hta).1
        have h2a := (HSc.out.thing hta).2
        obtain ⟨jn, hjn⟩ : ∃ j : Nat, oa = (j : Int) + 1 := ⟨(oa - 1).toNat, by omega⟩
        obtain ⟨f, hof⟩ : ∃ f : Nat, of_ = f := ⟨of_.toNat, by omega⟩
        subst hjn hof
        rw [show ((jn : Int) + 1 - 1).toNat = jn from by omega] at hpr
        obtain ⟨nf, hnf⟩ : ∃ n, n = pr.2.length := ⟨_, rfl⟩
        have hfnf : f < nf := by omega
        have hnfb : nf ≤ 60 := by rw [hnf]; exact (HSc.out.few.2.2.2 pr (List.mem_of_getElem? hpr)).2
        have hjl : jn < N := by have := HN.out.1; omega
        have HG : Hid (thr L ((jn : Int) + 1) = true ∧ F[jn]? = some pr ∧ f < pr.2.length ∧ nf = pr.2.length) := ⟨hta, hpr, by omega, hnf⟩
        have HSt : Hid (∀ W, Below wc.heap.size wc W → Calls Tryd.prog 20 #[.pointer (some ⟨mb + 1, 0, none⟩), .int .i64 (plc L ((jn : Int) + 1)), .int .i64 f, .int .i64 (plc L ot')] W fun e w' => e = .returned (.int .i64 0) ∧ (∀ (q : Nat) (cs : Array Value), W.heap[q]? = some (.cells cs 53 (0, 0)) → w'.heap[q]? = W.heap[q]?) ∧ Hs w4 w4.heap.size w' mm lb b (mb + 1) g mb c (tps c L) sw L (.slice fa N fcap) F (F.set jn (pr.1, pr.2.set f ot')) n2 n3 (n + 1) (.slice a6 n6 c6) m ls (if (t4 L ((jn : Int) + 1) && (ynl L sw ot' && !decide ((jn : Int) + 1 ∈ ls))) = true then ls ++ [(jn : Int) + 1] else ls) true) := fun W hW => (HSc.out.below hW).store HO.out.len HG.out.1 HG.out.2.1 HG.out.2.2.1 Hot.out.1 Hot.out.2 (by omega)
        clear hta hf0 hpr hfl h1a h2a hnf
        go_upto_region 14 with fail
        refine below_call 20 mixed (by kernel_rfl) ?_
        simp only [List.take_succ_cons, List.take_zero, List.drop_succ_cons, List.drop_zero]
        iterate 10 (go_big_quiet_step (fail))
        go_big_quiet_step (first | (go_at_call 13; exact calls_bel (HTa.out _)))
        iterate 8 (go_big_quiet_step (fail))
        go_big_quiet_step (first | (go_at_call 13; exact calls_bel (HTt.out _)))
        refine wpQuiet_nil ?_
        rintro w8 ⟨⟨w8, b8⟩, rfl⟩
        have Hd8 : Hid (w8.heap[R]? = some (.cells #[.int .i64 ((jn : Int) + 1), .int .i64 f, .int .i64 ot'] 53 (0, 0))) := (b8.block R hRl).trans Hdc.out
        have hst := HSt.out w8 b8
        clear HSt
        go_wp2_with fail
        refine hst.mono ?_
        rintro e w9 ⟨rfl, hdk, hs9⟩
        have HS9 : Hid (Hs w4 w4.heap.size w9 mm lb b (mb + 1) g mb c (tps c L) sw L (.slice fa N fcap) F (F.set jn (pr.1, pr.2.set f ot')) n2 n3 (n + 1) (.slice a6 n6 c6) m ls (if (t4 L ((jn : Int) + 1) && (ynl L sw ot' && !decide ((jn : Int) + 1 ∈ ls))) = true then ls ++ [(jn : Int) + 1] else ls) true) := hs9
        have Hd9 : Hid (w9.heap[R]? = some (.cells #[.int .i64 ((jn : Int) + 1), .int .i64 f, .int .i64 ot'] 53 (0, 0))) := (hdk R _ Hd8.out).trans Hd8.out
        clear hst hdk hs9 Hd8 HSc Hdc HTa HTt Hda x0 x1 x2 y0 y2 hinh hRl b8
        go_wp2_with fail
        refine thenQuiet_mk ?_
        repeat (go_big_quiet_step (fail))
        refine wpQuiet_nil ?_
        have hRl : R < w9.heap.size := (Array.getElem?_eq_some_iff.1 Hd9.out).1
        haveI hinh : Inhabited (Bel w9) := ⟨⟨w9, Below.refl _ _⟩⟩
        have x0 : ∀ p : Bel w9, p.v.cell? ⟨R, 0, none⟩ = some (.int .i64 ((jn : Int) + 1)) := fun p => (p.h.cell (p := ⟨R, 0, none⟩) hRl).trans (cell_of_row _ _ 0 _ _ _ Hd9.out)
        have x1 : ∀ p : Bel w9, p.v.cell? ⟨R, 1, none⟩ = some (.int .i64 f) := fun p => (p.h.cell (p := ⟨R, 1, none⟩) hRl).trans (cell_of_row _ _ 1 _ _ _ Hd9.out)
        have y0 : ∀ p : Bel w9, p.v.cell? ⟨mm, 0, none⟩ = some (.pointer (some ⟨lb, 0, none⟩)) := fun p => (HS9.out.below p.h).mm_.cell 0
        have Hda : Hid (∀ p : Bel w9, Calls Tryd.prog 11 #[.pointer (some ⟨lb, 0, none⟩), .int .i64 ((jn : Int) + 1)] p.v fun e w' => e = .returned (.bool true) ∧ Below p.v.heap.size p.v w') := fun p => by
          have h := there_any (HS9.out.below p.h).ly HO.out.len ((jn : Int) + 1) HOi.out.1
          rw [HG.out.1] at h
          exact h
        obtain ⟨fq, fc, e1, hfq, xf⟩ := HS9.out.fd.at_ HG.out.2.1
        simp only [Value.slice.injEq] at e1
        obtain ⟨e1, -, -⟩ := e1
        subst e1
        have xf' : w9.cell? ⟨fq, jn, none⟩ = some (.slice (some ⟨pr.1, 0, none⟩) nf nf) := by rw [xf]; unfold fval; rw [HG.out.2.2.2]
        have mq : ∀ p : Bel w9, p.v.cell? ⟨fq, jn, none⟩ = some (.slice (some ⟨pr.1, 0, none⟩) nf nf) := fun p => (p.h.cell (p := ⟨fq, jn, none⟩) hfq).trans xf'
        have gf0 : decide ((f : Int) < 0) = false := decide_eq_false (by omega)
        have gfl : decide ((nf : Int) ≤ (f : Int)) = false := decide_eq_false (by omega)
        clear xf
        go_upto_region 15 with fail
        go_cut [100] from 76 to 99 (fun v100 wq => v100 = .bool false ∧ Hid (Below w9.heap.size w9 wq))
        case first =>
          refine region_below mixed (by kernel_rfl) ?_
          repeat (go_big_quiet_step (first | (go_at_call 11; exact calls_bel (Hda.out _))))
          refine wpQuiet_nil ?_
          rintro w8 ⟨⟨w8, b8⟩, rfl⟩
          go_wp2_with fail
          go_meet
          exact ⟨by simp; omega, b8⟩
        case rest =>
        obtain ⟨rfl, HB10⟩ := hcut
        apply_assumption
        obtain ⟨w10, hw10⟩ : ∃ v, v = wc := ⟨_, rfl⟩
        subst hw10
        have b10 := HB10.out
        have HS10 : Hid (Hs w4 w4.heap.size w10 mm lb b (mb + 1) g mb c (tps c L) sw L (.slice (some ⟨fq, 0, none⟩) N fcap) F (F.set jn (pr.1, pr.2.set f ot')) n2 n3 (n + 1) (.slice a6 n6 c6) m ls (if (t4 L ((jn : Int) + 1) && (ynl L sw ot' && !decide ((jn : Int) + 1 ∈ ls))) = true then ls ++ [(jn : Int) + 1] else ls) true) := HS9.out.below b10
        have Hd10 : Hid (w10.heap[R]? = some (.cells #[.int .i64 ((jn : Int) + 1), .int .i64 f, .int .i64 ot'] 53 (0, 0))) := (b10.block R hRl).trans Hd9.out
        have x8 : w10.drew.cell? ⟨fq, jn, none⟩ = some (.slice (some ⟨pr.1, 0, none⟩) nf nf) := mq ⟨w10, b10⟩
        clear x0 x1 y0 Hda mq hinh hRl HS9 Hd9 xf' hfq b10 gf0 gfl HB10
        have bd := below_drewN (Below.refl w10.heap.size w10) 1
        have HS11 : Hid (Hs w4 w4.heap.size w10.drew mm lb b (mb + 1) g mb c (tps c L) sw L (.slice (some ⟨fq, 0, none⟩) N fcap) F (F.set jn (pr.1, pr.2.set f ot')) n2 n3 (n + 1) (.slice a6 n6 c6) m ls (if (t4 L ((jn : Int) + 1) && (ynl L sw ot' && !decide ((jn : Int) + 1 ∈ ls))) = true then ls ++ [(jn : Int) + 1] else ls) true) := HS10.out.below bd
        have hpm := List.mem_of_getElem? HG.out.2.1
        have hpcell := (HS11.out.fd.rows pr hpm).1
        have x0 : w10.cell? ⟨R, 0, none⟩ = some (.int .i64 ((jn : Int) + 1)) := cell_of_row _ _ 0 _ _ _ Hd10.out
        have x1 : w10.cell? ⟨R, 1, none⟩ = some (.int .i64 f) := cell_of_row _ _ 1 _ _ _ Hd10.out
        have x2 : w10.cell? ⟨R, 2, none⟩ = some (.int .i64 ot') := cell_of_row _ _ 2 _ _ _ Hd10.out
        have xc : w10.drew.cell? ⟨pr.1, f, none⟩ = some (.int .i64 (pr.2[f]'HG.out.2.2.1)) := by
          rw [cell_of_row _ _ f _ _ _ hpcell]
          simp [ints, List.getElem?_eq_getElem HG.out.2.2.1]
        have xz : w10.drew.frozen? ⟨pr.1, f, none⟩ = false := by unfold World.frozen?; simp only [hpcell]; simp
        have hsr := setCell_eq_setRow w10.drew pr.1 f _ _ _ (.int .i64 ot') hpcell
        have hse : (ints pr.2).toArray.setIfInBounds f (.int .i64 ot') = (ints (pr.2.set f ot')).toArray := by simp [ints, List.map_set]
        rw [hse] at hsr
        have hrow : (w10.drew.setCell ⟨pr.1, f, none⟩ (.int .i64 ot')).heap[pr.1]? = some (.cells (ints (pr.2.set f ot')).toArray 3 (0, 0)) := by rw [hsr]; exact setRow_heap _ _ _ _ _ _ hpcell
        have HS12 : Hid (Hs w4 w4.heap.size (w10.drew.setCell ⟨pr.1, f, none⟩ (.int .i64 ot')) mm lb b (mb + 1) g mb c (tps c L) sw L (.slice (some ⟨fq, 0, none⟩) N fcap) (F.set jn (pr.1, pr.2.set f ot')) (F.set jn (pr.1, pr.2.set f ot')) n2 n3 (n + 1) (.slice a6 n6 c6) m ls (if (t4 L ((jn : Int) + 1) && (ynl L sw ot' && !decide ((jn : Int) + 1 ∈ ls))) = true then ls ++ [(jn : Int) + 1] else ls) true) := HS11.out.field HG.out.2.1 (pr.2.set f ot') (by rw [hsr]; exact ⟨rfl, rfl, rfl, by simp [World.setRow], fun q hq hne => setRow_other _ _ _ _ (by simpa using hne)⟩) hrow (by simp)
        have Hd12 : Hid ((w10.drew.setCell ⟨pr.1, f, none⟩ (.int .i64 ot')).heap[R]? = some (.cells #[.int .i64 ((jn : Int) + 1), .int .i64 f, .int .i64 ot'] 53 (0, 0))) := (Below.heap_setCell _ _ _ _ (heap_ty_ne Hd10.out (w := w10) (show w10.heap[pr.1]? = _ from hpcell) (by decide))).trans Hd10.out
        clear HS10 HS11 hse hrow hpm hpcell hsr bd Hd10
        go_upto_region 20 with fail
        refine quiet_tail 11 mixed (by kernel_rfl) ?_
        simp only [List.take_succ_cons, List.take_zero, List.drop_succ_cons, List.drop_zero]
        iterate 11 (go_big_quiet_step (fail))
        refine wpQuiet_nil ?_
        go_upto_region 21 with fail
        clear x0 x1 x2 xc xz x8
        obtain ⟨v12, hv12⟩ : ∃ v, v = w10.drew.setCell ⟨pr.1, f, none⟩ (.int .i64 ot') := ⟨_, rfl⟩
        show Code.wp _ _ _ _ (w10.drew.setCell ⟨pr.1, f, none⟩ (.int .i64 ot'))
        rw [← hv12] at HS12 Hd12 ⊢
        clear hv12
        have hRl : R < v12.heap.size := (Array.getElem?_eq_some_iff.1 Hd12.out).1
        haveI hinh : Inhabited (Bel v12) := ⟨⟨v12, Below.refl _ _⟩⟩
        have x0 : ∀ p : Bel v12, p.v.cell? ⟨R, 0, none⟩ = some (.int .i64 ((jn : Int) + 1)) := fun p => (p.h.cell (p := ⟨R, 0, none⟩) hRl).trans (cell_of_row _ _ 0 _ _ _ Hd12.out)
        have x2 : ∀ p : Bel v12, p.v.cell? ⟨R, 2, none⟩ = some (.int .i64 ot') := fun p => (p.h.cell (p := ⟨R, 2, none⟩) hRl).trans (cell_of_row _ _ 2 _ _ _ Hd12.out)
        have y0 : ∀ p : Bel v12, p.v.cell? ⟨mm, 0, none⟩ = some (.pointer (some ⟨lb, 0, none⟩)) := fun p => (HS12.out.below p.h).mm_.cell 0
        obtain ⟨oo, hoo⟩ := thr_iff.1 HG.out.1
        have hoj : L[jn]? = some oo := by
          have h := (ob_some.1 hoo).2.1
          rw [show ((jn : Int) + 1 - 1).toNat = jn from by omega] at h
          exact h
        obtain ⟨tv, h14, tb, tbcap, rfl, hthings⟩ := HS12.out.ly.things
        rw [← HN.out.1] at h14
        obtain ⟨-, -, -, tq, toff, rfl, htq, hcs⟩ := hthings jn oo hoj
        have z14 : ∀ p : Bel v12, p.v.cell? ⟨lb, 14, none⟩ = some (.slice (some ⟨tq, toff, none⟩) N tbcap) := fun p => (p.h.cell (p := ⟨lb, 14, none⟩) (World.block_lt_of_cell? _ _ h14)).trans h14
        have hc0 : v12.cell? ⟨tq, toff + jn * 11, none⟩ = some (.int .i64 oo.sp) := hcs 0 (by decide)
        have zs : ∀ p : Bel v12, p.v.cell? ⟨tq, toff + jn * 11, none⟩ = some (.int .i64 oo.sp) := fun p => (p.h.cell (p := ⟨tq, toff + jn * 11, none⟩) (World.block_lt_of_cell? _ _ hc0)).trans hc0
        have Ht4 : Hid (t4 L ((jn : Int) + 1) = decide (oo.sp = 4)) := t4_some hoo
        have Hyo : Hid (∀ p : Bel v12, Calls Tryd.prog 21 #[.pointer (some ⟨mm, 0, none⟩), .int .i64 ot'] p.v fun e w' => e = .returned (.bool (ynl L sw ot')) ∧ Below p.v.heap.size p.v w') := fun p => (HS12.out.below p.h).young HO.out ot' Hot.out.2
        have Ham : Hid (∀ p : Bel v12, Calls Tryd.prog 22 #[.slice a6 n6 c6, .int .i64 ((jn : Int) + 1)] p.v fun e w' => e = .returned (.bool (decide ((jn : Int) + 1 ∈ ls))) ∧ Below p.v.heap.size p.v w') := fun p => by
          have hr := (HS12.out.below p.h).row
          refine (among6_any (.slice a6 n6 c6) ls ((jn : Int) + 1) p.v.heap.size p.v (Lrd.own hr.1 hr.2) (by have := Hlf.out; omega)).mono ?_
          rintro e w' ⟨h1, rfl⟩
          exact ⟨h1, Below.refl _ _⟩
        have Hmr : Hid (m = ls.length) := HS12.out.row.2
        clear hthings hcs htq hoj hoo h14 hc0
        go_cut [142] from 116 to 141 (fun v142 wq => ∃ bb : Bool, v142 = .bool bb ∧ Hid (bb = (t4 L ((jn : Int) + 1) && (ynl L sw ot' && !decide ((jn : Int) + 1 ∈ ls)))) ∧ Hid (Below v12.heap.size v12 wq))
        case first =>
          by_cases h4 : oo.sp = 4
          · rw [h4] at zs
            have H4 : Hid (t4 L ((jn : Int) + 1) = true) := Ht4.out.trans (decide_eq_true h4)
            cases hy : ynl L sw ot'
            · rw [hy] at Hyo
              have HYo : Hid (∀ p : Bel v12, Calls Tryd.prog 21 #[.pointer (some ⟨mm, 0, none⟩), .int .i64 ot'] p.v fun e w' => e = .returned (.bool false) ∧ Below p.v.heap.size p.v w') := Hyo
              have Hy : Hid (ynl L sw ot' = false) := hy
              clear Hyo hy h4
              refine region_below mixed (by kernel_rfl) ?_
              repeat (go_big_quiet_step (first | (go_at_call 21; exact calls_bel (HYo.out _))))
              refine wpQuiet_nil ?_
              rintro w8 ⟨⟨w8, b8⟩, rfl⟩
              go_wp2_with fail
              go_meet
              exact ⟨_, rfl, by show _ = _; rw [Hy.out]; simp, b8⟩
            · rw [hy] at Hyo
              have Hy : Hid (ynl L sw ot' = true) := hy
              have HYo : Hid (∀ p : Bel v12, Calls Tryd.prog 21 #[.pointer (some ⟨mm, 0, none⟩), .int .i64 ot'] p.v fun e w' => e = .returned (.bool true) ∧ Below p.v.heap.size p.v w') := Hyo
              by_cases hmm : (jn : Int) + 1 ∈ ls
              · have HAm : Hid (∀ p : Bel v12, Calls Tryd.prog 22 #[.slice a6 n6 c6, .int .i64 ((jn : Int) + 1)] p.v fun e w' => e = .returned (.bool true) ∧ Below p.v.heap.size p.v w') := fun p => by
                  have h := Ham.out p
                  rw [decide_eq_true hmm] at h
                  exact h
                have Hmm : Hid ((jn : Int) + 1 ∈ ls) := hmm
                clear Hyo Ham hy h4 hmm
                refine region_below mixed (by kernel_rfl) ?_
                repeat (go_big_quiet_step (first | (go_at_call 21; exact calls_bel (HYo.out _)) | (go_at_call 22; exact calls_bel (HAm.out _))))
                refine wpQuiet_nil ?_
                rintro w8 ⟨⟨w8, b8⟩, rfl⟩
                go_wp2_with fail
                go_meet
                exact ⟨_, rfl, by show _ = _; simp [Hmm.out], b8⟩
              · have HAm : Hid (∀ p : Bel v12, Calls Tryd.prog 22 #[.slice a6 n6 c6, .int .i64 ((jn : Int) + 1)] p.v fun e w' => e = .returned (.bool false) ∧ Below p.v.heap.size p.v w') := fun p => by
                  have h := Ham.out p
                  rw [decide_eq_false hmm] at h
                  exact h
                have Hmm : Hid (¬ (jn : Int) + 1 ∈ ls) := hmm
                clear Hyo Ham hy h4 hmm
                refine region_below mixed (by kernel_rfl) ?_
                repeat (go_big_quiet_step (first | (go_at_call 21; exact calls_bel (HYo.out _)) | (go_at_call 22; exact calls_bel (HAm.out _))))
                refine wpQuiet_nil ?_
                rintro w8 ⟨⟨w8, b8⟩, rfl⟩
                go_wp2_with fail
                go_meet
                exact ⟨_, rfl, by show _ = _; rw [H4.out, Hy.out]; simp [Hmm.out], b8⟩
          · have h4' : (oo.sp == 4) = false := by simpa using h4
            have H4 : Hid (t4 L ((jn : Int) + 1) = false) := Ht4.out.trans (decide_eq_false h4)
            clear h4
            refine region_below mixed (by kernel_rfl) ?_
            repeat (go_big_quiet_step (fail))
            refine wpQuiet_nil ?_
            rintro w8 ⟨⟨w8, b8⟩, rfl⟩
            go_wp2_with fail
            go_meet
            exact ⟨_, rfl, by show _ = _; rw [H4.out]; rfl, b8⟩
        case rest =>
        obtain ⟨bb, rfl, Hbb, HB8⟩ := hcut
        have hlsb : (if (t4 L ((jn : Int) + 1) && (ynl L sw ot' && !decide ((jn : Int) + 1 ∈ ls))) = true then ls ++ [(jn : Int) + 1] else ls) = if bb = true then ls ++ [(jn : Int) + 1] else ls := by rw [Hbb.out]
        have HS8 : Hid (Hs w4 w4.heap.size wc mm lb b (mb + 1) g mb c (tps c L) sw L (.slice (some ⟨fq, 0, none⟩) N fcap) (F.set jn (pr.1, pr.2.set f ot')) (F.set jn (pr.1, pr.2.set f ot')) n2 n3 (n + 1) (.slice a6 n6 c6) m ls (if bb = true then ls ++ [(jn : Int) + 1] else ls) true) := by
          have h := HS12.out.below HB8.out
          rw [hlsb] at h
          exact h
        have r0 : wc.cell? ⟨R, 0, none⟩ = some (.int .i64 ((jn : Int) + 1)) := x0 ⟨wc, HB8.out⟩
        clear x0 x2 y0 z14 zs Hyo Ham hinh hRl HS12 Hd12 HB8 hlsb Hbb
        apply_assumption
        go_cut [9] from 143 to 147 (fun v9 wq => ∃ a7 n7 c7 m' ls9, v9 = .slice a7 n7 c7 ∧ Hid (Hs w4 w4.heap.size wq mm lb b (mb + 1) g mb c (tps c L) sw L (.slice (some ⟨fq, 0, none⟩) N fcap) (F.set jn (pr.1, pr.2.set f ot')) (F.set jn (pr.1, pr.2.set f ot')) n2 n3 (n + 1) (.slice a7 n7 c7) m' ls9 ls9 true))
        case first =>
          cases bb
          · have HS8' : Hid (Hs w4 w4.heap.size wc mm lb b (mb + 1) g mb c (tps c L) sw L (.slice (some ⟨fq, 0, none⟩) N fcap) (F.set jn (pr.1, pr.2.set f ot')) (F.set jn (pr.1, pr.2.set f ot')) n2 n3 (n + 1) (.slice a6 n6 c6) m ls ls true) := HS8
            clear HS8
            go_wp2_with fail
            go_meet
            exact ⟨a6, n6, c6, m, ls, rfl, HS8'⟩
          · have HS8' : Hid (Hs w4 w4.heap.size wc mm lb b (mb + 1) g mb c (tps c L) sw L (.slice (some ⟨fq, 0, none⟩) N fcap) (F.set jn (pr.1, pr.2.set f ot')) (F.set jn (pr.1, pr.2.set f ot')) n2 n3 (n + 1) (.slice a6 n6 c6) m ls (ls ++ [(jn : Int) + 1]) true) := HS8
            have hn3 : n3 ≤ wc.heap.size := by
              obtain ⟨_, _, _, _, _, _, _, _, _, _, _, _, h⟩ := HS8'.out
              exact h
            have hmb : m ≤ 400 := by have := Hmr.out; have := Hlf.out; omega
            clear HS8
            go_wp2_with (at_builtin; refine wpList_append_own_at _ rfl _ _ 42 rfl n3 3 i0 (.int .i64 0) 1 8 Tryd.underlying42 HI.out.1 HI.out.2.1 HI.out.2.2.1 HI.out.2.2.2 rfl (by decide) _ _ _ rfl (HS8'.out.row.1.alloc _) ⟨wc.heap.size, 0, none⟩ 1 1 [.int .i64 ((jn : Int) + 1)] rfl rfl (cell_one_new _ _ _) (by simp [Value.oneCell']) (by simp [maxLen]; omega) (by omega) (by simp; omega) ?_; intro v' w7 hown' hgrow _ hat; obtain ⟨a7, n7, c7, hv7⟩ := row_slice hown'; subst hv7)
            have HS7 : Hid (Hs w4 w4.heap.size w7 mm lb b (mb + 1) g mb c (tps c L) sw L (.slice (some ⟨fq, 0, none⟩) N fcap) (F.set jn (pr.1, pr.2.set f ot')) (F.set jn (pr.1, pr.2.set f ot')) n2 n3 (n + 1) (.slice a7 n7 c7) (m + 1) (ls ++ [(jn : Int) + 1]) (ls ++ [(jn : Int) + 1]) true) := by
              have ho : w7.ownsRow n3 3 1 (.slice a7 n7 c7) (m + 1) (ints (ls ++ [(jn : Int) + 1])) := by simpa [ints] using hown'
              exact HS8'.out.grow hgrow ho (by rw [List.length_append, ← Hmr.out]; rfl) hat
            clear hown' hgrow hat HS8'
            go_meet
            exact ⟨a7, n7, c7, m + 1, ls ++ [(jn : Int) + 1], rfl, HS7⟩
        case rest =>
        obtain ⟨a7, n7, c7, m7, ls9, rfl, HS13⟩ := hcut
        clear HS8 r0
        apply_assumption
        generalize (F.set jn (pr.1, pr.2.set f ot')) = F9 at HS13
        have m2 : wc.cell? ⟨mm, 2, none⟩ = some (.pointer (some ⟨mb + 1, 0, none⟩)) := HS13.out.mm_.cell 2
        have hmi := HS13.out.missing
        go_wp2_with fail
        refine hmi.mono ?_
        rintro e w14 ⟨r14, rfl, l14⟩
        have HS14 : Hid (Hs w4 w4.heap.size w14 mm lb b (mb + 1) g mb c (tps c L) sw L (.slice (some ⟨fq, 0, none⟩) N fcap) F9 F9 n2 n3 (n + 1) (.slice a7 n7 c7) m7 ls9 ls9 true) := HS13.out.below l14
        clear hmi l14 HS13 m2
        by_cases his : (i : Int) = sp
        · have his' : ((i : Int) == sp) = true := by simpa using his
          have hswf : sw = false := by
            cases hsw : sw
            · rfl
            · have := Hsw.out.1 hsw
              omega
          have hni : n ≤ i := by
            have := Hsw.out.2
            rw [hswf] at this
            simpa using this
          have Hhi : Hid (sp < i + 1) := by show sp < i + 1; omega
          have m1 : w14.cell? ⟨mm, 1, none⟩ = some (.pointer (some ⟨b, 0, none⟩)) := HS14.out.mm_.cell 1
          have hsw := HS14.out.swap
          clear his
          go_wp2_with fail
          refine hsw.mono ?_
          rintro e w15 ⟨rfl, hs15⟩
          have hpn := hs15.prunes HO.out (by omega)
          clear hsw HS14 m1 hs15
          go_wp2_with fail
          refine hpn.mono ?_
          rintro e w16 ⟨v16, m16, ls16, rfl, hs16⟩
          obtain ⟨a16, n16, c16, rfl⟩ := row_slice hs16.row.1
          have HS16 : Hid (Hs w4 w4.heap.size w16 mm lb b (mb + 1) g mb c (tps c L) (!sw) L (.slice (some ⟨fq, 0, none⟩) N fcap) F9 F9 n2 n3 (n + 1 + 20000) (.slice a16 n16 c16) m16 ls16 ls16 true) := hs16
          have hri := hs16.right HO.out
          clear hpn hs16
          go_wp2_with fail
          refine hri.mono ?_
          rintro e w17 ⟨rfl, l17⟩
          have HS17 : Hid (Hs w4 w4.heap.size w17 mm lb b (mb + 1) g mb c (tps c L) (!sw) L (.slice (some ⟨fq, 0, none⟩) N fcap) F9 F9 n2 n3 (n + 1 + 20000) (.slice a16 n16 c16) m16 ls16 ls16 true) := HS16.out.below l17
          clear hri l17 HS16
          go_wp2_with fail
          go_roundw
          case rel => exact ⟨i + 1, m16, n + 1 + 20000, !sw, F9, ls16, by omega, by omega, by go_num, by omega, ⟨fun _ => by have := Hhi.out; omega, by rw [hswf]; simp; omega⟩, HS17⟩
          case measure => simp [intOf]; omega
        · have his' : ((i : Int) == sp) = false := by simpa using his
          have hri := HS14.out.right HO.out
          clear his
          go_wp2_with fail
          refine hri.mono ?_
          rintro e w15 ⟨rfl, l15⟩
          have HS15 : Hid (Hs w4 w4.heap.size w15 mm lb b (mb + 1) g mb c (tps c L) sw L (.slice (some ⟨fq, 0, none⟩) N fcap) F9 F9 n2 n3 (n + 1) (.slice a7 n7 c7) m7 ls9 ls9 true) := HS14.out.below l15
          have hn1 : n + 1 ≤ 20200 := by
            have := Hsw.out.2
            cases sw
            · simp at this; omega
            · simp at this; omega
          clear hri l15 HS14
          go_wp2_with fail
          go_roundw
          case rel => exact ⟨i + 1, m7, n + 1, sw, F9, ls9, by omega, by omega, by go_num, hn1, ⟨fun h => by have := Hsw.out.1 h; omega, by have := Hsw.out.2; omega⟩, HS15⟩
          case measure => simp [intOf]; omega
      · have HSt : Hid (∀ W, Below wc.heap.size wc W → Calls Tryd.prog 20 #[.pointer (some ⟨mb + 1, 0, none⟩), .int .i64 (plc L oa), .int .i64 of_, .int .i64 (plc L ot')] W fun e w' => ∃ e0 : Int, e0 ≠ 0 ∧ e = .returned (.int .i64 e0) ∧ Below W.heap.size W w') := fun W hW => (HSc.out.below hW).err oa of_ (plc L ot') (by
          cases hta : thr L oa
          · exact .inl rfl
          · refine .inr ⟨rfl, ?_⟩
            have h1a := HSc.out.thing hta
            obtain ⟨p, hp⟩ : ∃ p, F[(oa - 1).toNat]? = some p := ⟨_, List.getElem?_eq_getElem (by have := HFl.out; have := HN.out.1; omega)⟩
            exact ⟨p, hp, fun h => hgood ⟨hta, h.1, p, hp, h.2⟩⟩)
        have Hgood : Hid (¬ (thr L oa = true ∧ 0 ≤ of_ ∧ ∃ pr, F[(oa - 1).toNat]? = some pr ∧ of_ < pr.2.length)) := hgood
        clear hgood
        go_upto_region 14 with fail
        refine below_call 20 mixed (by kernel_rfl) ?_
        simp only [List.take_succ_cons, List.take_zero, List.drop_succ_cons, List.drop_zero]
        iterate 10 (go_big_quiet_step (fail))
        go_big_quiet_step (first | (go_at_call 13; exact calls_bel (HTa.out _)))
        iterate 8 (go_big_quiet_step (fail))
        go_big_quiet_step (first | (go_at_call 13; exact calls_bel (HTt.out _)))
        refine wpQuiet_nil ?_
        rintro w8 ⟨⟨w8, b8⟩, rfl⟩
        have hst := HSt.out w8 b8
        clear HSt
        go_wp2_with fail
        refine hst.mono ?_
        rintro e w9 ⟨e0, he0, rfl, l9⟩
        have b9 := b8.trans (l9.mono b8.size)
        have HS9 : Hid (Hs w4 w4.heap.size w9 mm lb b (mb + 1) g mb c (tps c L) sw L (.slice fa N fcap) F F n2 n3 n (.slice a6 n6 c6) m ls ls true) := HSc.out.below b9
        have Hd9 : Hid (w9.heap[R]? = some (.cells #[.int .i64 oa, .int .i64 of_, .int .i64 ot'] 53 (0, 0))) := (b9.block R hRl).trans Hdc.out
        have he0' : (e0 == 0) = false := by simpa using he0
        clear hst l9 b9 HSc Hdc HTa HTt Hda x0 x1 x2 y0 y2 hinh hRl b8 he0
        go_wp2_with fail
        refine thenQuiet_mk ?_
        repeat (go_big_quiet_step (fail))
        refine wpQuiet_nil ?_
        have hRl : R < w9.heap.size := (Array.getElem?_eq_some_iff.1 Hd9.out).1
        haveI hinh : Inhabited (Bel w9) := ⟨⟨w9, Below.refl _ _⟩⟩
        have x0 : ∀ p : Bel w9, p.v.cell? ⟨R, 0, none⟩ = some (.int .i64 oa) := fun p => (p.h.cell (p := ⟨R, 0, none⟩) hRl).trans (cell_of_row _ _ 0 _ _ _ Hd9.out)
        have x1 : ∀ p : Bel w9, p.v.cell? ⟨R, 1, none⟩ = some (.int .i64 of_) := fun p => (p.h.cell (p := ⟨R, 1, none⟩) hRl).trans (cell_of_row _ _ 1 _ _ _ Hd9.out)
        have y0 : ∀ p : Bel w9, p.v.cell? ⟨mm, 0, none⟩ = some (.pointer (some ⟨lb, 0, none⟩)) := fun p => (HS9.out.below p.h).mm_.cell 0
        have Hda : Hid (∀ p : Bel w9, Calls Tryd.prog 11 #[.pointer (some ⟨lb, 0, none⟩), .int .i64 oa] p.v fun e w' => e = .returned (.bool (thr L oa)) ∧ Below p.v.heap.size p.v w') := fun p => there_any (HS9.out.below p.h).ly HO.out.len oa HOi.out.1
        go_upto_region 15 with fail
        go_cut [100] from 76 to 99 (fun v100 wq => v100 = .bool true ∧ Hid (Below w9.heap.size w9 wq))
        case first =>
          cases hta : thr L oa
          · rw [hta] at Hda
            have HTa : Hid (∀ p : Bel w9, Calls Tryd.prog 11 #[.pointer (some ⟨lb, 0, none⟩), .int .i64 oa] p.v fun e w' => e = .returned (.bool false) ∧ Below p.v.heap.size p.v w') := Hda
            clear Hda hta
            refine region_below mixed (by kernel_rfl) ?_
            repeat (go_big_quiet_step (first | (go_at_call 11; exact calls_bel (HTa.out _))))
            refine wpQuiet_nil ?_
            rintro w8 ⟨⟨w8, b8⟩, rfl⟩
            go_wp2_with fail
            go_meet
            exact ⟨rfl, b8⟩
          · rw [hta] at Hda
            have HTa : Hid (∀ p : Bel w9, Calls Tryd.prog 11 #[.pointer (some ⟨lb, 0, none⟩), .int .i64 oa] p.v fun e w' => e = .returned (.bool true) ∧ Below p.v.heap.size p.v w') := Hda
            have Hta : Hid (thr L oa = true) := hta
            clear Hda hta
            by_cases hf0 : of_ < 0
            · have gf0 : decide (of_ < 0) = true := decide_eq_true hf0
              refine region_below mixed (by kernel_rfl) ?_
              repeat (go_big_quiet_step (first | (go_at_call 11; exact calls_bel (HTa.out _))))
              refine wpQuiet_nil ?_
              rintro w8 ⟨⟨w8, b8⟩, rfl⟩
              go_wp2_with fail
              go_meet
              exact ⟨rfl, b8⟩
            · have gf0 : decide (of_ < 0) = false := decide_eq_false hf0
              have h1a := HS9.out.thing Hta.out
              obtain ⟨jn, hjn⟩ : ∃ j : Nat, oa = (j : Int) + 1 := ⟨(oa - 1).toNat, by omega⟩
              subst hjn
              obtain ⟨pr, hpr⟩ : ∃ p, F[jn]? = some p := ⟨_, List.getElem?_eq_getElem (by have := HFl.out; have := HN.out.1; omega)⟩
              obtain ⟨nf, hnf⟩ : ∃ n, n = pr.2.length := ⟨_, rfl⟩
              have hfl : (nf : Int) ≤ of_ := by
                refine Int.not_lt.1 (fun h => Hgood.out ⟨Hta.out, by omega, pr, by rw [show ((jn : Int) + 1 - 1).toNat = jn from by omega]; exact hpr, by omega⟩)
              have gfl : decide ((nf : Int) ≤ of_) = true := decide_eq_true hfl
              have hjl : jn < N := by have := HN.out.1; omega
              obtain ⟨fq, fc, e1, hfq, xf⟩ := HS9.out.fd.at_ hpr
              simp only [Value.slice.injEq] at e1
              obtain ⟨e1, -, -⟩ := e1
              subst e1
              have xf' : w9.cell? ⟨fq, jn, none⟩ = some (.slice (some ⟨pr.1, 0, none⟩) nf nf) := by rw [xf]; unfold fval; rw [hnf]
              have mq : ∀ p : Bel w9, p.v.cell? ⟨fq, jn, none⟩ = some (.slice (some ⟨pr.1, 0, none⟩) nf nf) := fun p => (p.h.cell (p := ⟨fq, jn, none⟩) hfq).trans xf'
              clear xf hpr hnf hfq xf' h1a
              refine region_below mixed (by kernel_rfl) ?_
              repeat (go_big_quiet_step (first | (go_at_call 11; exact calls_bel (HTa.out _))))
              refine wpQuiet_nil ?_
              rintro w8 ⟨⟨w8, b8⟩, rfl⟩
              go_wp2_with fail
              go_meet
              exact ⟨rfl, b8⟩
        case rest =>
        obtain ⟨rfl, HB10⟩ := hcut
        have HS10 : Hid (Hs w4 w4.heap.size wc mm lb b (mb + 1) g mb c (tps c L) sw L (.slice fa N fcap) F F n2 n3 n (.slice a6 n6 c6) m ls ls true) := HS9.out.below HB10.out
        clear x0 x1 y0 Hda hinh hRl HS9 Hd9 HB10
        apply_assumption
        go_wp2_with fail
        go_roundw
        case rel => exact ⟨i + 1, m, n, sw, F, ls, by omega, by omega, by go_num, hn, ⟨fun h => by have := Hsw.out.1 h; omega, by have := Hsw.out.2; omega⟩, HS10⟩
        case measure => simp [intOf]; omega
    · obtain rfl : nb0 = false := by rw [Hnb0.out]; exact decide_eq_false hii
      clear Hnb0 hii
      have hpr := HS.out.pruned HO.out
      clear HS
      go_wp2_with fail
      refine hpr.mono ?_
      rintro e w6 ⟨v6, m6, rfl, hs6⟩
      obtain ⟨a7, n7, c7, rfl⟩ := row_slice hs6.row.1
      have m2 : w6.cell? ⟨mm, 2, none⟩ = some (.pointer (some ⟨mb + 1, 0, none⟩)) := hs6.mm_.cell 2
      have hpu := hs6.prune HO.out.len (by omega)
      clear hpr hs6
      go_wp2_with fail
      refine hpu.mono ?_
      rintro e w7 ⟨rfl, hs7⟩
      have HS7 : Hid (Hs w4 w4.heap.size w7 mm lb b (mb + 1) g mb c (tps c L) sw L (.slice fa N fcap) F F n2 n3 (n + 20000) (.slice a7 n7 c7) m6 (ls.filter (hN L sw F)) (ls.filter (hN L sw F)) true) := hs7
      have hri := hs7.right HO.out
      clear hpu hs7 m2
      go_wp2_with fail
      refine hri.mono ?_
      rintro e w8 ⟨rfl, l8⟩
      have hs8 := HS7.out.below l8
      have m2 : w8.cell? ⟨mm, 2, none⟩ = some (.pointer (some ⟨mb + 1, 0, none⟩)) := hs8.mm_.cell 2
      have hpu := hs8.prune HO.out.len (by omega)
      have hff : (ls.filter (hN L sw F)).filter (hN L sw F) = ls.filter (hN L sw F) := by rw [List.filter_filter]; congr 1; funext z; simp
      rw [hff] at hpu
      clear hri hs8 HS7 l8 hff
      go_wp2_with fail
      refine hpu.mono ?_
      rintro e w9 ⟨rfl, hs9⟩
      have hri := hs9.right HO.out
      have HB9 : Hid (Below w.heap.size w w9) := HB4.out.trans (hs9.be.mono HB4.out.size)
      clear hpu hs9 m2
      go_wp2_with fail
      refine hri.mono ?_
      rintro e w10 ⟨rfl, l10⟩
      have HB10 : Hid (Below w.heap.size w w10) := HB9.out.trans (l10.mono HB9.out.size)
      clear hri l10
      go_wp2_with fail
      go_ret
      exact ⟨rfl, HB10.out⟩

end Go.Proofs.YtfihjmoaibmllaaDoor
