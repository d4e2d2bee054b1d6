/-
  Images, the document's reader: Read.
-/
import Derived.Test.YtblbiikfipcbcaaGreatDoorIQ9
import Derived.Test.YtblbiikfipcbcaaGreatDoorIQa
import Derived.Test.YtblbiikfipcbcaaGreatDoorPRo
import Derived.Test.YtblbiikfipcbcaaGreatDoorPIe
import Derived.Test.YtblbiikfipcbcaaGreatDoorPWe
import Derived.Test.YtblbiikfipcbcaaGreatDoorIRp
import Derived.Deep.CutBlock
set_option linter.unusedVariables false
set_option maxRecDepth 20000
namespace Go.Proofs.YtblbiikfipcbcaaGreatDoor
open Go.RowKit Go.Shelf

theorem rGr_eq {nx : Nat} {es : List OE} {ts : List (List (List Nat))} {hs qs : List Nat} (hs1 : Sers es) (ho : Im.rOver 0 (es.map (fun e : OE => e.ro)) = false) (hnx : nx ≤ 4611686018427387905) : rGr nx es ts hs qs (Im.fins (es.map (fun e => e.ol.o))) = Im.wNG (nx, es.map (fun e : OE => e.ro), ts, hs, qs) := by
  have e1 : es.map (fun e => e.ol.o) = Im.wObs 0 (es.map (fun e : OE => e.ro)) := by
    have h9 : es.map (fun e => e.ol.o) = Im.rObs 0 (es.map (fun e : OE => e.ro)) := hs1
    rw [h9, Im.rObs_eq _ _ ho]
  unfold rGr Im.wNG
  rw [e1, Nat.mod_eq_of_lt (by show nx < _; omega)]

set_option maxHeartbeats 16000000 in
theorem tRead_any {w : World} {v : Value} {bs : List Nat} (hl : Lrd w.heap.size w v .u8 (bs.map Int.ofNat)) (hn : bs.length ≤ 1000000000000) (hby : ∀ x, x ∈ bs → x < 256) :
    Calls Tryz.prog 4 #[v] w fun e w' => Below w.heap.size w w' ∧ Rres bs e w' := by
  have HBY : Hid (∀ x, x ∈ bs → x < 256) := hby
  obtain ⟨av, cv, rfl, hcv, hel⟩ := hl.byte
  have a0 := Below.alloc (Below.refl w.heap.size w) (Nat.le_refl _) (.cells (gcs nil3 nil3 nil3 nil3 nil3 0) 28)
  have g0 := heap_alloc_new w (.cells (gcs nil3 nil3 nil3 nil3 nil3 0) 28 (0, 0))
  have s0 : (w.alloc (.cells (gcs nil3 nil3 nil3 nil3 nil3 0) 28)).heap.size = w.heap.size + 1 := by simp
  have a1 := Below.alloc a0 a0.size (.cells #[.slice av bs.length cv, .int .i64 4, .int .i64 0, .int .i64 0] 52)
  have g1 := heap_alloc_new (w.alloc (.cells (gcs nil3 nil3 nil3 nil3 nil3 0) 28)) (.cells #[.slice av bs.length cv, .int .i64 4, .int .i64 0, .int .i64 0] 52 (0, 0))
  have f1 := (Below.heap_alloc (w.alloc (.cells (gcs nil3 nil3 nil3 nil3 nil3 0) 28)) (.cells #[.slice av bs.length cv, .int .i64 4, .int .i64 0, .int .i64 0] 52 (0, 0)) _ (Kg.heap_lt g0)).trans g0
  rw [s0] at g1
  clear a0 g0 s0 hel
  go_enter Tryz.func4, Tryz.ntmps4
  go_upto_if 24 with fail
  generalize (w.alloc (.cells (gcs nil3 nil3 nil3 nil3 nil3 0) 28)).alloc (.cells #[.slice av bs.length cv, .int .i64 4, .int .i64 0, .int .i64 0] 52) = W at *
  have HW : Hid (Below w.heap.size w W ∧ W.heap[w.heap.size]? = some (.cells (gcs nil3 nil3 nil3 nil3 nil3 0) 28 (0, 0)) ∧ W.heap[w.heap.size + 1]? = some (.cells #[.slice av bs.length cv, .int .i64 4, .int .i64 0, .int .i64 0] 52 (0, 0)) ∧ Lrd w.heap.size W (.slice av bs.length cv) .u8 (bs.map Int.ofNat)) := ⟨a1, f1, g1, hl.below a1⟩
  clear a1 f1 g1 hl
  go_cut [] from 19 to 225 (fun wq => Hid (Below w.heap.size w wq ∧ wq.heap[w.heap.size]? = some (.cells (gcs nil3 nil3 nil3 nil3 nil3 0) 28 (0, 0)) ∧ Txt wq w.heap.size (w.heap.size + 1) (.slice av bs.length cv) bs (st0 bs)))
  case first =>
    as_aux_lemma =>
      by_cases h4 : (bs.length : Int) < 4
      · have hC := tfault_raw HW.out.2.2.1 HW.out.2.2.2 (by omega) hn bs.length 160 (by omega) (Nat.le_refl _)
        go_wp2_with fail
        refine hC.mono ?_
        rintro e w1 ⟨rfl, t1, h1⟩
        go_wp2
        go_meet
        case rel =>
          refine ⟨HW.out.1.trans (t1.below HW.out.1.size (fun k hk => by simp at hk; omega)), (t1.block _ (Kg.heap_lt HW.out.2.1) (by simp)).trans HW.out.2.1, ?_⟩
          unfold st0
          rw [if_pos (by omega)]
          exact h1
      · have hcv4 : (4 : Int) ≤ (cv : Int) := by omega
        have hT := lrd_take HW.out.2.2.2 4 (by omega)
        have e4 : (bs.take 4).length = 4 := by rw [List.length_take]; omega
        have hcn := Lrd.conv (fun h9 => by rw [h9] at e4; cases e4) hT
        clear hT
        by_cases hm : bs.take 4 = Im.magic
        · rw [hm, ← magic_str] at hcn
          have Hm : Hid (bs.take 4 = Im.magic) := hm
          clear hm e4
          go_wp2
          go_meet
          case rel =>
            refine ⟨HW.out.1, HW.out.2.1, ?_⟩
            unfold st0
            rw [if_neg (by omega), if_neg (by simp [Hm.out])]
            exact ⟨HW.out.2.2.1, HW.out.2.2.2, by omega, by omega, hn⟩
        · have hne : ¬ strOfNums ((bs.take 4).map Int.ofNat) = (⟨#[77, 68, 73, 49]⟩ : ByteArray) := fun e => hm (str_inj (fun x hx => hby x (List.mem_of_mem_take hx)) (by simp [Im.magic]) (e.trans magic_str))
          have hne : ((strOfNums ((bs.take 4).map Int.ofNat)).toList == [77, 68, 73, 49]) = false := by
            have := (beq_no _ (⟨#[77, 68, 73, 49]⟩ : ByteArray)).2 hne
            rwa [ByteArray.toList_eq ⟨#[77, 68, 73, 49]⟩] at this
          generalize strOfNums ((bs.take 4).map Int.ofNat) = s at hcn hne
          have Hm : Hid (bs.take 4 ≠ Im.magic) := hm
          clear hm e4
          have hC := tfault_raw HW.out.2.2.1 HW.out.2.2.2 (by omega) hn 0 161 (by omega) (Nat.zero_le _)
          go_wp2_with fail
          refine hC.mono ?_
          rintro e w1 ⟨rfl, t1, h1⟩
          go_wp2
          go_meet
          case rel =>
            refine ⟨HW.out.1.trans (t1.below HW.out.1.size (fun k hk => by simp at hk; omega)), (t1.block _ (Kg.heap_lt HW.out.2.1) (by simp)).trans HW.out.2.1, ?_⟩
            unfold st0
            rw [if_neg (by omega), if_pos Hm.out]
            exact h1
  obtain ⟨w1, hw1⟩ : ∃ w1, w1 = wc := ⟨_, rfl⟩
  subst hw1
  clear HW
  have l2 := Below.alloc (Below.refl w1.heap.size w1) (Nat.le_refl _) (.cells (gcs nil3 nil3 nil3 nil3 nil3 0) 28)
  have g2 := heap_alloc_new w1 (.cells (gcs nil3 nil3 nil3 nil3 nil3 0) 28 (0, 0))
  have k2 := (Below.heap_alloc w1 (.cells (gcs nil3 nil3 nil3 nil3 nil3 0) 28 (0, 0)) _ (Kg.heap_lt hcut.out.2.1)).trans hcut.out.2.1
  have h2 := hcut.out.2.2.below l2
  have B2 : Hid (Below w.heap.size w (w1.alloc (.cells (gcs nil3 nil3 nil3 nil3 nil3 0) 28))) := hcut.out.1.trans (l2.mono hcut.out.1.size)
  have hT1 := hcut.out.2.2.lo
  clear l2 hcut
  go_wp2_with fail
  generalize w1.alloc (.cells (gcs nil3 nil3 nil3 nil3 nil3 0) 28) = W2 at *
  have hG2 : w.heap.size + 1 < w1.heap.size := hT1.2.1
  generalize w1.heap.size = G at *
  have S2 : Bs w W2 w.heap.size G (gcs nil3 nil3 nil3 nil3 nil3 0) := ⟨B2.out, k2, g2, by omega⟩
  have hC := tnumber_any h2 HBY.out
  clear B2 k2 g2 hT1 w1
  refine hC.mono ?_
  rintro e w2 ⟨nx, hnx, rfl, t2, h3, q3⟩
  have S3 := S2.touch t2 (fun k hk => by simp at hk; omega)
  clear hC S2 t2 h2 W2
  generalize hx : Im.stp (Im.number bs) (st0 bs) = x1 at *
  have X1 : Hid (Im.stp (Im.number bs) (st0 bs) = x1) := hx
  have Q1 : Hid (∀ z q, x1 = .ok (z, q) → nx = z) := q3
  clear hx q3
  have cc := (Kg.heap_cell S3.gb 5).trans (show _ = some (.int .u64 0) from rfl)
  have ff := Kg.heap_frozen S3.gb 5
  go_upto_region 8 with fail
  have S4 : Bs w (w2.setCell ⟨G, 5, none⟩ (.int .u64 (nx : Int))) w.heap.size G (gcs nil3 nil3 nil3 nil3 nil3 nx) := S3.set 5 (.int .u64 (nx : Int))
  have h4 := h3.touch (Kg.Touch.setCell (F := [G]) w2 ⟨G, 5, none⟩ (.int .u64 (nx : Int)) (by simp)) (fun k hk => by simp at hk; omega)
  generalize w2.setCell ⟨G, 5, none⟩ (.int .u64 (nx : Int)) = w4 at *
  have hC := tmany_any h4 HBY.out
  clear S3 h3 h4 cc ff w2
  go_wp2_with fail
  refine hC.mono ?_
  rintro e w5 ⟨N, hN, rfl, ⟨t5, h5, q5⟩, h0⟩
  have S5 : Hid (Bs w w5 w.heap.size G (gcs nil3 nil3 nil3 nil3 nil3 nx)) := S4.touch t5 (fun k hk => by simp at hk; omega)
  generalize hx : Im.stp (Im.many bs) (Im.pos x1) = xm at *
  have XM : Hid (Im.stp (Im.many bs) (Im.pos x1) = xm) := hx
  have QM : Hid ((∀ z q, xm = .ok (z, q) → N = z) ∧ ((∃ e, xm = .error e) → N = 0)) := ⟨q5, h0⟩
  have H5 : Hid (Txt w5 w.heap.size (w.heap.size + 1) (.slice av bs.length cv) bs (Im.pos xm)) := h5
  clear hC S4 t5 hx h5 q5 h0 w4
  go_upto_block 0 with fail
  go_cut [8] from 40 to 225 (fun v8 wq => ∃ es u, v8 = .bool (Im.rOver 0 (es.map (·.ro))) ∧ Hid (es.length ≤ bs.length ∧ Os w wq w.heap.size G (.slice av bs.length cv) bs nx (Im.stp (Im.listP bs (Im.roP bs)) (Im.pos x1)) es u))
  case first =>
    obtain ⟨i0, hi0, hj0, hj1, hj2⟩ := info_parts infoO6
    have HI : Hid (Tryz.prog.info? 58 = some i0 ∧ i0.zero = some (.agg zob) ∧ i0.size = 5 ∧ i0.bytes = 72) := ⟨hi0, hj0, hj1, hj2⟩
    clear hi0 hj0 hj1 hj2
    go_wp2
    go_loopw [8, 9, 10] (fun v8 v9 v10 wr => ∃ (i : Nat) (es : List OE) (u : Value), v10 = .int .i64 (i : Int) ∧ i ≤ N ∧ Hid (es.length = i) ∧ v8 = .bool (Im.rOver 0 (es.map (·.ro))) ∧ v9 = .int .u64 ((Im.rLast 0 (es.map (·.ro)) : Nat) : Int) ∧ Hid (Os w wr w.heap.size G (.slice av bs.length cv) bs nx (Im.stp (Im.rep (Im.roP bs) i) (Im.pos xm)) es u)) (fun _ _ v10 _ => N - (intOf v10).toNat)
    case atStart =>
      refine ⟨0, [], nil3, rfl, Nat.zero_le _, rfl, rfl, rfl, S5.out, World.ownsRow_nil _ _ _ _, fun y hy => (by cases hy), Sers.nil, ?_, ?_⟩
      · have h9 := H5.out
        revert h9
        cases Im.pos xm with
        | error e => exact fun h9 => h9
        | ok p => exact fun h9 => h9
      · cases Im.pos xm with
        | error e => exact fun z q hz => by cases hz
        | ok p => exact fun z q hz => by cases hz; rfl
    case round =>
      obtain ⟨i, es, u, rfl, hiN, hli, rfl, rfl, HS⟩ := hrel
      obtain ⟨au, cu, hvu⟩ := own_slI HS.out.r
      subst hvu
      obtain ⟨kf, c2, hkf⟩ := HS.out.t.cell
      by_cases hi : i < N
      · have hii : (i : Int) < (N : Int) := by omega
        rcases hkf with ⟨rfl, pk⟩ | ⟨hk1, hk2, pk⟩
        · have c2 : wr.cell? ⟨w.heap.size + 1, 2, none⟩ = some (.int .i64 0) := c2
          clear pk
          have hC := tobject_any HS.out.t HBY.out (Im.rLast 0 (es.map (·.ro))) (rLast_le _ _ (by decide))
          generalize hla : Im.rLast 0 (es.map (·.ro)) = la at *
          have Hla : Hid (Im.rLast 0 (es.map (·.ro)) = la) := hla
          clear hla
          go_wp2_with fail
          refine hC.mono ?_
          rintro e w6 ⟨a, k, t, ps, rs, vp, vr, rfl, hk, ht, hps, hrs, rp, rr, t6, h6, q6⟩
          obtain ⟨ap, cp, rfl⟩ := own_slI rp
          obtain ⟨ar, cr, rfl⟩ := own_slI rr
          have hty : ∀ k, k ∈ [w.heap.size + 1] → ∀ cs t', wr.heap[k]? = some (.cells cs t' (0, 0)) → t' = 52 := fun k hk cs t' hc => by simp at hk; subst hk; exact HS.out.t.ty cs t' hc
          have HS6 : Hid (Bs w w6 w.heap.size G (gcs (.slice au es.length cu) nil3 nil3 nil3 nil3 nx) ∧ w6.ownsRow w.heap.size 58 5 (.slice au es.length cu) es.length (flatE es) ∧ Ed w6 es ∧ Txt w6 w.heap.size (w.heap.size + 1) (.slice av bs.length cv) bs (Im.pos (Im.stp (Im.rep (Im.roP bs) (i + 1)) (Im.pos xm))) ∧ (∀ z q, Im.stp (Im.rep (Im.roP bs) (i + 1)) (Im.pos xm) = .ok (z, q) → es.map (·.ro) ++ [(a, k, t, ps, rs)] = z) ∧ Vi ps (.slice ap ps.length cp) w6 ∧ Vu rs (.slice ar rs.length cr) w6) := by
            refine ⟨HS.out.s.touch t6 (fun k hk => by simp at hk; omega), row_kty HS.out.r t6 (fun k hk cs t' hc => by rw [hty k hk cs t' hc]; decide), HS.out.d.st t6 (fun k hk cs t' hc => by rw [hty k hk cs t' hc]; decide), ?_, Im.val_snoc HS.out.q q6, ?_, Kg.row_base rr (Nat.zero_le _)⟩
            · rw [Im.pos_snoc]
              exact h6
            · have h9 : w6.ownsRow 0 3 1 (.slice ap ps.length cp) ps.length (lessV 0 ps) := Kg.row_base rp (Nat.zero_le _)
              rw [lessV_zero] at h9
              exact h9
          have He : Hid (Sers es) := HS.out.e
          clear hC c2 rp rr t6 h6 q6 hty HS
          generalize hov : Im.over la a = ov at *
          have Hov : Hid (Im.over la a = ov) := hov
          clear hov
          have Hsb : Hid (Im.rser la a ≤ 4611686018427387904) := Im.rser_le _ _
          generalize hser : Im.rser la a = sr at *
          have Hser : Hid (Im.rser la a = sr) := hser
          clear hser
          go_upto_region 15 with fail
          have b7 := Below.alloc (Below.refl w6.heap.size w6) (Nat.le_refl _) (.cells (obc (sr : Int) k t (.slice ap ps.length cp) (.slice ar rs.length cr)) 58)
          have hO := heap_alloc_new w6 (.cells (obc (sr : Int) k t (.slice ap ps.length cp) (.slice ar rs.length cr)) 58 (0, 0))
          change Code.wp _ _ _ _ (w6.alloc (.cells (obc (sr : Int) k t (.slice ap ps.length cp) (.slice ar rs.length cr)) 58))
          generalize w6.alloc (.cells (obc (sr : Int) k t (.slice ap ps.length cp) (.slice ar rs.length cr)) 58) = w7 at *
          have t7 : Kg.Touch [] w6 w7 := Kg.Touch.of_below b7 _
          have HS7 : Hid (Bs w w7 w.heap.size G (gcs (.slice au es.length cu) nil3 nil3 nil3 nil3 nx) ∧ w7.ownsRow w.heap.size 58 5 (.slice au es.length cu) es.length (flatE es) ∧ Ed w7 (es ++ [⟨sr, (a, k, t, ps, rs), .slice ap ps.length cp, .slice ar rs.length cr⟩]) ∧ Txt w7 w.heap.size (w.heap.size + 1) (.slice av bs.length cv) bs (Im.pos (Im.stp (Im.rep (Im.roP bs) (i + 1)) (Im.pos xm))) ∧ (∀ z q, Im.stp (Im.rep (Im.roP bs) (i + 1)) (Im.pos xm) = .ok (z, q) → es.map (·.ro) ++ [(a, k, t, ps, rs)] = z)) := by
            obtain ⟨y1, y2, y3, y4, y5, y6, y7⟩ := HS6.out
            refine ⟨y1.touch t7 (fun k hk => by cases hk), row_kty y2 t7 (fun k hk => by cases hk), (y3.st t7 (fun k hk => by cases hk)).snoc ⟨Vi.st _ _ _ _ _ y6 t7 (fun k hk => by cases hk), Vu.st _ _ _ _ _ y7 t7 (fun k hk => by cases hk), Hsb.out, hk, ht, by simp only; omega, by simp only; omega⟩, y4.below b7, y5⟩
          clear HS6 b7 t7
          go_cut [8] from 40 to 69 (fun v8 wq => v8 = .bool (Im.rOver 0 (es.map (·.ro)) || ov) ∧ wq = w7)
          case first =>
            cases hrv : Im.rOver 0 (es.map (·.ro)) with
            | true =>
              go_wp2
              go_meet
              case rel => exact ⟨by simp [hrv], rfl⟩
            | false =>
              go_wp2
              go_meet
              case rel => exact ⟨by simp [hrv], rfl⟩
          obtain ⟨rfl, hwc⟩ := hcut
          subst hwc
          obtain ⟨w8, hw8⟩ : ∃ w8, w8 = wc := ⟨_, rfl⟩
          subst hw8
          obtain ⟨o0, o1, o2, o3, o4⟩ : w8.cell? ⟨w6.heap.size, 0, none⟩ = some (.int .u64 (sr : Int)) ∧ w8.cell? ⟨w6.heap.size, 1, none⟩ = some (.int .i64 (k : Int)) ∧ w8.cell? ⟨w6.heap.size, 2, none⟩ = some (.int .i64 (t : Int)) ∧ w8.cell? ⟨w6.heap.size, 3, none⟩ = some (.slice ap ps.length cp) ∧ w8.cell? ⟨w6.heap.size, 4, none⟩ = some (.slice ar rs.length cr) := ⟨Kg.heap_cell hO 0, Kg.heap_cell hO 1, Kg.heap_cell hO 2, Kg.heap_cell hO 3, Kg.heap_cell hO 4⟩
          have gG := (Kg.heap_cell HS7.out.1.gb 0).trans (show _ = some (.slice au es.length cu) from rfl)
          generalize w6.heap.size = O at *
          clear hO
          have fG := Kg.heap_frozen HS7.out.1.gb 0
          have HR8 : Hid ((w8.alloc (.cells (obc (sr : Int) k t (.slice ap ps.length cp) (.slice ar rs.length cr)) 58)).ownsRow w.heap.size 58 5 (.slice au es.length cu) es.length (flatE es)) := HS7.out.2.1.alloc _
          have HSz : Hid (w.heap.size ≤ (w8.alloc (.cells (obc (sr : Int) k t (.slice ap ps.length cp) (.slice ar rs.length cr)) 58)).heap.size) := by show _ ≤ _; have := HS7.out.1.b.size; simp; omega
          go_upto_region 13 with (at_builtin; refine wpList_append_own_at _ rfl _ _ 23 rfl w.heap.size 58 i0 (.agg zob) 5 72 Tryz.underlying23 HI.out.1 HI.out.2.1 HI.out.2.2.1 HI.out.2.2.2 rfl (by decide) _ _ _ rfl HR8.out ⟨w8.heap.size, 0, none⟩ 1 1 ((obc (sr : Int) k t (.slice ap ps.length cp) (.slice ar rs.length cr)) : Array Value).toList rfl rfl (cells5_of _ _ _) (by simp [Value.oneCell']) (by have := hli.out; simp only [maxLen]; omega) (by have := hli.out; omega) HSz.out ?_; intro v9 w9 ho hg _ hat; obtain ⟨a9, c9, ev9⟩ := own_slI ho; subst ev9; have t9 := push_touch hg; have hG9 := (t9.block G (Kg.heap_lt HS7.out.1.gb) (fun hm => by rw [Option.mem_toList] at hm; have := row_type HS7.out.2.1 hm _ _ HS7.out.1.gb; cases this)).trans HS7.out.1.gb; have d9 := (Kg.heap_cell hG9 0).trans (show _ = some (.slice au es.length cu) from rfl); have e9 := Kg.heap_frozen hG9 0)
          have t9 : Kg.Touch (Value.slice au es.length cu).ownBlock.toList w8 w9 := t9
          have FIN : Hid (Os w (w9.setCell ⟨G, 0, none⟩ (.slice a9 (es.length + 1) c9)) w.heap.size G (.slice av bs.length cv) bs nx (Im.stp (Im.rep (Im.roP bs) (i + 1)) (Im.pos xm)) (es ++ [(⟨sr, (a, k, t, ps, rs), .slice ap ps.length cp, .slice ar rs.length cr⟩ : OE)]) (.slice a9 (es.length + 1) c9)) := by
            obtain ⟨y1, y2, y3, y4, y5⟩ := HS7.out
            have hty : ∀ k, k ∈ (Value.slice au es.length cu).ownBlock.toList → ∀ cs t', w8.heap[k]? = some (.cells cs t' (0, 0)) → t' = 58 := fun k hk cs t' hc => by rw [Option.mem_toList] at hk; exact row_type y2 hk cs t' hc
            have hlo : ∀ k, k ∈ (Value.slice au es.length cu).ownBlock.toList → w.heap.size ≤ k := fun k hk => by rw [Option.mem_toList] at hk; exact (y2.lt k hk).1
            have s9 := y1.touch t9 (fun k hk => y1.apart y2 (by decide) (Nat.le_refl _) hk)
            have tS : Kg.Touch [G] w9 (w9.setCell ⟨G, 0, none⟩ (.slice a9 (es.length + 1) c9)) := Kg.Touch.setCell _ _ _ (by simp)
            have htS : ∀ k, k ∈ [G] → ∀ cs t', w9.heap[k]? = some (.cells cs t' (0, 0)) → t' = 28 := fun k hk cs t' hc => by simp at hk; subst hk; exact s9.ty cs t' hc
            refine ⟨s9.set 0 (.slice a9 (es.length + 1) c9), ?_, (y3.st t9 (fun k hk cs t' hc => by rw [hty k hk cs t' hc]; decide)).st tS (fun k hk cs t' hc => by rw [htS k hk cs t' hc]; decide), He.out.snoc (by rw [Hla.out]; exact Hser.out.symm), ?_, ?_⟩
            · refine row_kty ?_ tS (fun k hk cs t' hc => by rw [htS k hk cs t' hc]; decide)
              rw [flatE_snoc, List.length_append]
              exact ho
            · exact (y4.touch t9 (fun k hk => ⟨hlo k hk, txt_apart y4 y2 (by decide) hk⟩)).touch tS (fun k hk => by simp at hk; omega)
            · rw [List.map_append]
              exact y5
          clear ho hg hat t9 hG9 d9 e9 HS7 HR8 HSz gG fG o0 o1 o2 o3 o4 He
          have HL : Hid ((es ++ [(⟨sr, (a, k, t, ps, rs), .slice ap ps.length cp, .slice ar rs.length cr⟩ : OE)]).length = i + 1) := by show _ = _; simp [hli.out]
          have HV : Hid ((Im.rOver 0 (es.map (·.ro)) || ov) = Im.rOver 0 ((es ++ [(⟨sr, (a, k, t, ps, rs), .slice ap ps.length cp, .slice ar rs.length cr⟩ : OE)]).map (·.ro)) ∧ sr = Im.rLast 0 ((es ++ [(⟨sr, (a, k, t, ps, rs), .slice ap ps.length cp, .slice ar rs.length cr⟩ : OE)]).map (·.ro))) := by
            refine ⟨?_, ?_⟩
            · rw [List.map_append, ← Hov.out, ← Hla.out]
              exact (Im.rOver_snoc (es.map (·.ro)) 0 (a, k, t, ps, rs)).symm
            · rw [List.map_append, ← Hser.out, ← Hla.out]
              exact (Im.rLast_snoc (es.map (·.ro)) 0 (a, k, t, ps, rs)).symm
          go_wp2
          go_roundw
          case rel => exact ⟨i + 1, es ++ [(⟨sr, (a, k, t, ps, rs), .slice ap ps.length cp, .slice ar rs.length cr⟩ : OE)], .slice a9 (es.length + 1) c9, by go_num, by omega, HL, congrArg Value.bool HV.out.1, congrArg (fun n : Nat => Value.int .u64 (n : Int)) HV.out.2, FIN⟩
          case measure => simp [intOf]; omega
        · have hkz : ¬ (kf : Int) = 0 := by omega
          have hkb : ((kf : Int) == 0) = false := by simpa using hkz
          have HD : Hid (i = N ∨ ∃ e, Im.pos (Im.stp (Im.rep (Im.roP bs) i) (Im.pos xm)) = .error e) := .inr (by obtain ⟨pl, hp⟩ := pk; exact ⟨_, hp⟩)
          clear pk
          go_wp2
          go_meet
          case rel => exact ⟨es, .slice au es.length cu, rfl, by have := hli.out; omega, os_done XM.out QM.out hiN HD.out HS.out⟩
      · have hii : ¬ (i : Int) < (N : Int) := by omega
        go_wp2
        go_meet
        case rel => exact ⟨es, .slice au es.length cu, rfl, by have := hli.out; omega, os_done XM.out QM.out hiN (.inl (by omega)) HS.out⟩
  obtain ⟨es, u, rfl, HO⟩ := hcut
  obtain ⟨w6, hw6⟩ : ∃ w6, w6 = wc := ⟨_, rfl⟩
  subst hw6
  clear S5 QM XM H5
  generalize hx : Im.stp (Im.listP bs (Im.roP bs)) (Im.pos x1) = x2 at *
  have X2 : Hid (Im.stp (Im.listP bs (Im.roP bs)) (Im.pos x1) = x2) := hx
  clear hx
  have hC := tmany_any HO.out.2.t HBY.out
  go_wp2_with fail
  refine hC.mono ?_
  rintro e w7 ⟨N2, hN2, rfl, ⟨t7, h7, q7⟩, h0⟩
  have HE : Hid (es.length ≤ bs.length ∧ Sers es ∧ ∀ z q, x2 = .ok (z, q) → es.map (·.ro) = z) := ⟨HO.out.1, HO.out.2.e, HO.out.2.q⟩
  have S7 : Hid (Sb w w7 w.heap.size G nx es u [] nil3 []) := Sb.touch ⟨HO.out.2.s, HO.out.2.r, HO.out.2.d, rfl, World.ownsRow_nil _ _ _ _, fun j x y hx => by cases hx⟩ t7 (fun k hk => by simp at hk; omega) (fun k hk cs t' hc => by simp at hk; subst hk; rw [HO.out.2.t.ty cs t' hc]; decide)
  have QM : Hid ((∀ z q, Im.stp (Im.many bs) (Im.pos x2) = .ok (z, q) → N2 = z) ∧ ((∃ e, Im.stp (Im.many bs) (Im.pos x2) = .error e) → N2 = 0)) := ⟨q7, h0⟩
  have H7 : Hid (Txt w7 w.heap.size (w.heap.size + 1) (.slice av bs.length cv) bs (Im.pos (Im.stp (Im.many bs) (Im.pos x2)))) := h7
  generalize hx : Im.stp (Im.many bs) (Im.pos x2) = xm at *
  have XM : Hid (Im.stp (Im.many bs) (Im.pos x2) = xm) := hx
  clear hC t7 h7 q7 h0 HO hx
  go_upto_block 2 with fail
  go_cut [] from 40 to 225 (fun wq => ∃ ts us vs, Hid (ts.length ≤ bs.length ∧ Sb w wq w.heap.size G nx es u ts us vs ∧ Txt wq w.heap.size (w.heap.size + 1) (.slice av bs.length cv) bs (Im.pos (Im.stp (Im.listP bs (Im.listP bs (Im.listP bs (Im.number bs)))) (Im.pos x2))) ∧ ∀ z q, Im.stp (Im.listP bs (Im.listP bs (Im.listP bs (Im.number bs)))) (Im.pos x2) = .ok (z, q) → ts = z))
  case first =>
    as_aux_lemma =>
      obtain ⟨i0, hi0, hj0, hj1, hj2⟩ := info_parts infoS6
      have HI : Hid (Tryz.prog.info? 25 = some i0 ∧ i0.zero = some nil3 ∧ i0.size = 1 ∧ i0.bytes = 24) := ⟨hi0, hj0, hj1, hj2⟩
      obtain ⟨i1, hi1, hk0, hk1, hk2⟩ := info_parts infoF6
      have HJ : Hid (Tryz.prog.info? 33 = some i1 ∧ i1.zero = some nil3 ∧ i1.size = 1 ∧ i1.bytes = 24) := ⟨hi1, hk0, hk1, hk2⟩
      clear hi0 hj0 hj1 hj2 hi1 hk0 hk1 hk2
      go_wp2
      go_loopw [13] (fun v13 wr => ∃ (i : Nat) (ts : List (List (List Nat))) (us : Value) (vs : List Value), v13 = .int .i64 (i : Int) ∧ i ≤ N2 ∧ Hid (ts.length = i) ∧ Hid (Sb w wr w.heap.size G nx es u ts us vs ∧ Txt wr w.heap.size (w.heap.size + 1) (.slice av bs.length cv) bs (Im.pos (Im.stp (Im.rep (Im.listP bs (Im.listP bs (Im.number bs))) i) (Im.pos xm))) ∧ ∀ z q, Im.stp (Im.rep (Im.listP bs (Im.listP bs (Im.number bs))) i) (Im.pos xm) = .ok (z, q) → ts = z)) (fun v13 _ => N2 - (intOf v13).toNat)
      case atStart =>
        refine ⟨0, [], nil3, [], rfl, Nat.zero_le _, rfl, S7.out, ?_, ?_⟩
        · have h9 := H7.out
          revert h9
          cases Im.pos xm with
          | error e => exact fun h9 => h9
          | ok p => exact fun h9 => h9
        · cases Im.pos xm with
          | error e => exact fun z q hz => by cases hz
          | ok p => exact fun z q hz => by cases hz; rfl
      case round =>
        obtain ⟨i, ts, us, vs, rfl, hiN, hli, HS⟩ := hrel
        obtain ⟨kf, c2, hkf⟩ := HS.out.2.1.cell
        by_cases hi : i < N2
        · have hii : (i : Int) < (N2 : Int) := by omega
          rcases hkf with ⟨rfl, pk⟩ | ⟨hk1, hk2, pk⟩
          · have c2 : wr.cell? ⟨w.heap.size + 1, 2, none⟩ = some (.int .i64 0) := c2
            clear pk
            have hC := tmany_any HS.out.2.1 HBY.out
            go_wp2_with fail
            refine hC.mono ?_
            rintro e w8 ⟨M, hM, rfl, ⟨t8, h8, q8⟩, h0⟩
            generalize hxi : Im.stp (Im.rep (Im.listP bs (Im.listP bs (Im.number bs))) i) (Im.pos xm) = xi at *
            have XI : Hid (Im.stp (Im.rep (Im.listP bs (Im.listP bs (Im.number bs))) i) (Im.pos xm) = xi) := hxi
            have QK : Hid ((∀ z q, Im.stp (Im.many bs) (Im.pos xi) = .ok (z, q) → M = z) ∧ ((∃ e, Im.stp (Im.many bs) (Im.pos xi) = .error e) → M = 0)) := ⟨q8, h0⟩
            generalize hxk : Im.stp (Im.many bs) (Im.pos xi) = xk at *
            have XK : Hid (Im.stp (Im.many bs) (Im.pos xi) = xk) := hxk
            have H8 : Hid (Txt w8 w.heap.size (w.heap.size + 1) (.slice av bs.length cv) bs (Im.pos xk)) := h8
            have S8 : Hid (Sb w w8 w.heap.size G nx es u ts us vs) := HS.out.1.touch t8 (fun k hk => by simp at hk; omega) (fun k hk cs t' hc => by simp at hk; subst hk; rw [HS.out.2.1.ty cs t' hc]; decide)
            have QI : Hid (∀ z q, xi = .ok (z, q) → ts = z) := HS.out.2.2
            clear hC t8 h8 q8 h0 c2 hxi hxk HS
            go_upto_block 4 with fail
            go_cut [14] from 72 to 108 (fun v14 wq => ∃ fs : List (List Nat), Hid (fs.length ≤ bs.length ∧ Kg.Touch [w.heap.size + 1] w8 wq ∧ Fb w8.heap.size fs v14 wq ∧ Txt wq w.heap.size (w.heap.size + 1) (.slice av bs.length cv) bs (Im.pos (Im.stp (Im.listP bs (Im.listP bs (Im.number bs))) (Im.pos xi))) ∧ ∀ z q, Im.stp (Im.listP bs (Im.listP bs (Im.number bs))) (Im.pos xi) = .ok (z, q) → fs = z))
            case first =>
              have hs8 := S8.out.s.b.size
              go_wp2
              go_loopw [14, 16] (fun v14 v16 wr => ∃ (k : Nat) (fs : List (List Nat)), v16 = .int .i64 (k : Int) ∧ k ≤ M ∧ Hid (fs.length = k) ∧ Hid (Kg.Touch [w.heap.size + 1] w8 wr ∧ Fb w8.heap.size fs v14 wr ∧ Txt wr w.heap.size (w.heap.size + 1) (.slice av bs.length cv) bs (Im.pos (Im.stp (Im.rep (Im.listP bs (Im.number bs)) k) (Im.pos xk))) ∧ ∀ z q, Im.stp (Im.rep (Im.listP bs (Im.number bs)) k) (Im.pos xk) = .ok (z, q) → fs = z)) (fun _ v16 _ => M - (intOf v16).toNat)
              case atStart =>
                refine ⟨0, [], rfl, Nat.zero_le _, rfl, Kg.Touch.refl _ _, ⟨[], rfl, World.ownsRow_nil _ _ _ _, fun j x y hx => by cases hx⟩, ?_, ?_⟩
                · have h9 := H8.out
                  revert h9
                  cases Im.pos xk with
                  | error e => exact fun h9 => h9
                  | ok p => exact fun h9 => h9
                · cases Im.pos xk with
                  | error e => exact fun z q hz => by cases hz
                  | ok p => exact fun z q hz => by cases hz; rfl
              case round =>
                obtain ⟨k, fs, rfl, hkM, hlk, HF⟩ := hrel
                obtain ⟨ay, cy, hvy⟩ := HF.out.2.1.sl
                subst hvy
                obtain ⟨kg, c2, hkg⟩ := HF.out.2.2.1.cell
                by_cases hk : k < M
                · have hki : (k : Int) < (M : Int) := by omega
                  rcases hkg with ⟨rfl, pk⟩ | ⟨hk1, hk2, pk⟩
                  · have c2 : wr.cell? ⟨w.heap.size + 1, 2, none⟩ = some (.int .i64 0) := c2
                    clear pk
                    have hC := tints_any HF.out.2.2.1 HBY.out 0 (by omega)
                    go_wp2_with fail
                    refine hC.mono ?_
                    rintro e w9 ⟨z, l, rfl, hll, rz, t9, h9, q9⟩
                    obtain ⟨az, cz, rfl⟩ := own_slI rz
                    have hty : ∀ k, k ∈ [w.heap.size + 1] → ∀ cs t', wr.heap[k]? = some (.cells cs t' (0, 0)) → t' = 52 := fun k hk cs t' hc => by simp at hk; subst hk; exact HF.out.2.2.1.ty cs t' hc
                    obtain ⟨ys, g1, g2, g3⟩ := HF.out.2.1.st t9 (fun k hk cs t' hc => by rw [hty k hk cs t' hc]; decide)
                    have Z9 : Hid (Vi l (.slice az l.length cz) w9) := by
                      have h8 : w9.ownsRow 0 3 1 (.slice az l.length cz) l.length (lessV 0 l) := Kg.row_base rz (Nat.zero_le _)
                      rw [lessV_zero] at h8
                      exact h8
                    have T9 : Hid (Kg.Touch [w.heap.size + 1] w8 w9) := HF.out.1.trans t9
                    have G1 : Hid (ys.length = fs.length ∧ ∀ (j : Nat) x z, fs[j]? = some x → ys[j]? = some z → Vi x z w9) := ⟨g1, g3⟩
                    have G2 : Hid (w9.ownsRow w8.heap.size 25 1 (.slice ay fs.length cy) fs.length ys) := g2
                    have H9 : Hid (Txt w9 w.heap.size (w.heap.size + 1) (.slice av bs.length cv) bs (Im.pos (Im.stp (Im.rep (Im.listP bs (Im.number bs)) (k + 1)) (Im.pos xk))) ∧ ∀ z q, Im.stp (Im.rep (Im.listP bs (Im.number bs)) (k + 1)) (Im.pos xk) = .ok (z, q) → fs ++ [l] = z) := ⟨by rw [Im.pos_snoc]; exact h9, Im.val_snoc HF.out.2.2.2 q9⟩
                    have G2a : Hid ((w9.alloc (.cells #[.slice az l.length cz] 25)).ownsRow w8.heap.size 25 1 (.slice ay fs.length cy) fs.length ys) := g2.alloc _
                    have hs9 := T9.out.size
                    clear hC c2 hty rz t9 h9 q9 g1 g2 g3 HF
                    go_upto_region 26 with (at_builtin; refine wpList_append_own_at _ rfl _ _ 33 rfl w8.heap.size 25 i0 nil3 1 24 Tryz.underlying33 HI.out.1 HI.out.2.1 HI.out.2.2.1 HI.out.2.2.2 rfl (by decide) _ _ _ rfl G2a.out ⟨w9.heap.size, 0, none⟩ 1 1 [.slice az l.length cz] rfl rfl (cell_one_new _ _ _) (by simp [Value.oneCell']) (by have := hlk.out; simp only [maxLen]; omega) (by have := hlk.out; omega) (by simp; omega) ?_; intro vA wA ho hg _ hat; obtain ⟨aA, cA, evA⟩ := own_slI ho; subst evA)
                    have tA : Kg.Touch (Value.slice ay fs.length cy).ownBlock.toList w9 wA := push_touch hg
                    have FIN : Hid (Kg.Touch [w.heap.size + 1] w8 wA ∧ Fb w8.heap.size (fs ++ [l]) (.slice aA (fs.length + 1) cA) wA ∧ Txt wA w.heap.size (w.heap.size + 1) (.slice av bs.length cv) bs (Im.pos (Im.stp (Im.rep (Im.listP bs (Im.number bs)) (k + 1)) (Im.pos xk))) ∧ ∀ z q, Im.stp (Im.rep (Im.listP bs (Im.number bs)) (k + 1)) (Im.pos xk) = .ok (z, q) → fs ++ [l] = z) := by
                      have hlw : ∀ k, k ∈ (Value.slice ay fs.length cy).ownBlock.toList → w8.heap.size ≤ k := fun k hk => by rw [Option.mem_toList] at hk; exact (G2.out.lt k hk).1
                      exact ⟨touch_new T9.out tA (fun k hk => .inr (hlw k hk)), Fb.push G1.out.1 G2.out G1.out.2 Z9.out tA ho, H9.out.1.touch tA (fun k hk => ⟨by have := hlw k hk; omega, txt_apart H9.out.1 G2.out (by decide) hk⟩), H9.out.2⟩
                    have HL : Hid ((fs ++ [l]).length = k + 1) := by show _ = _; simp [hlk.out]
                    clear ho hg hat tA G1 G2 G2a H9 Z9 T9
                    go_wp2
                    go_roundw
                    case rel => exact ⟨k + 1, fs ++ [l], by go_num, by omega, HL, FIN⟩
                    case measure => simp [intOf]; omega
                  · have hkz : ¬ (kg : Int) = 0 := by omega
                    have hkb : ((kg : Int) == 0) = false := by simpa using hkz
                    have HD : Hid (k = M ∨ ∃ e, Im.pos (Im.stp (Im.rep (Im.listP bs (Im.number bs)) k) (Im.pos xk)) = .error e) := .inr (by obtain ⟨pl, hp⟩ := pk; exact ⟨_, hp⟩)
                    clear pk
                    go_wp2
                    go_meet
                    case rel =>
                      have hq := QK.out
                      have hd := HD.out
                      have hs := HF.out
                      rw [← XK.out] at hq hd hs
                      obtain ⟨d1, d2⟩ := Im.stp_done hq.1 hq.2 hkM hd
                      exact ⟨fs, by have := hlk.out; omega, hs.1, hs.2.1, by rw [d1]; exact hs.2.2.1, fun z q hz => hs.2.2.2 z q (d2 z q hz)⟩
                · have hki : ¬ (k : Int) < (M : Int) := by omega
                  go_wp2
                  go_meet
                  case rel =>
                    have hq := QK.out
                    have hs := HF.out
                    rw [← XK.out] at hq hs
                    obtain ⟨d1, d2⟩ := Im.stp_done (f := Im.listP bs (Im.number bs)) hq.1 hq.2 hkM (.inl (by omega))
                    exact ⟨fs, by have := hlk.out; omega, hs.1, hs.2.1, by rw [d1]; exact hs.2.2.1, fun z q hz => hs.2.2.2 z q (d2 z q hz)⟩
            obtain ⟨fs, HF⟩ := hcut
            obtain ⟨wA, hwA⟩ : ∃ wA, wA = wc := ⟨_, rfl⟩
            subst hwA
            obtain ⟨ay, cy, hvy⟩ := HF.out.2.2.1.sl
            subst hvy
            have SA : Hid (Sb w wA w.heap.size G nx es u ts us vs) := S8.out.touch HF.out.2.1 (fun k hk => by simp at hk; omega) (fun k hk cs t' hc => by simp at hk; subst hk; rw [H8.out.ty cs t' hc]; decide)
            have HA : Hid (Vf fs (.slice ay fs.length cy) wA ∧ Txt wA w.heap.size (w.heap.size + 1) (.slice av bs.length cv) bs (Im.pos (Im.stp (Im.rep (Im.listP bs (Im.listP bs (Im.number bs))) (i + 1)) (Im.pos xm))) ∧ ∀ z q, Im.stp (Im.rep (Im.listP bs (Im.listP bs (Im.number bs))) (i + 1)) (Im.pos xm) = .ok (z, q) → ts ++ [fs] = z) := by
              refine ⟨HF.out.2.2.1.vf, ?_, Im.val_snoc (by rw [XI.out]; exact QI.out) (by rw [XI.out]; exact HF.out.2.2.2.2)⟩
              rw [Im.pos_snoc, XI.out]
              exact HF.out.2.2.2.1
            obtain ⟨au, cu, hvu⟩ := own_slI SA.out.y
            subst hvu
            have gG := (Kg.heap_cell SA.out.s.gb 1).trans (show _ = some (.slice au ts.length cu) from rfl)
            have fG := Kg.heap_frozen SA.out.s.gb 1
            have YA : Hid ((wA.alloc (.cells #[.slice ay fs.length cy] 33)).ownsRow w.heap.size 33 1 (.slice au ts.length cu) ts.length vs) := SA.out.y.alloc _
            have HSz : Hid (w.heap.size ≤ (wA.alloc (.cells #[.slice ay fs.length cy] 33)).heap.size) := by show _ ≤ _; have := SA.out.s.b.size; simp; omega
            clear HF S8 H8 XI QI XK QK
            go_upto_region 21 with (at_builtin; refine wpList_append_own_at _ rfl _ _ 24 rfl w.heap.size 33 i1 nil3 1 24 Tryz.underlying24 HJ.out.1 HJ.out.2.1 HJ.out.2.2.1 HJ.out.2.2.2 rfl (by decide) _ _ _ rfl YA.out ⟨wA.heap.size, 0, none⟩ 1 1 [.slice ay fs.length cy] rfl rfl (cell_one_new _ _ _) (by simp [Value.oneCell']) (by have := hli.out; simp only [maxLen]; omega) (by have := hli.out; omega) HSz.out ?_; intro vB wB ho hg _ hat; obtain ⟨aB, cB, evB⟩ := own_slI ho; subst evB; have tB := push_touch hg; have hGB := (tB.block G (Kg.heap_lt SA.out.s.gb) (fun hm => by rw [Option.mem_toList] at hm; have := row_type SA.out.y hm _ _ SA.out.s.gb; cases this)).trans SA.out.s.gb; have dB := (Kg.heap_cell hGB 1).trans (show _ = some (.slice au ts.length cu) from rfl); have eB := Kg.heap_frozen hGB 1)
            have tB : Kg.Touch (Value.slice au ts.length cu).ownBlock.toList wA wB := tB
            have FIN : Hid (Sb w (wB.setCell ⟨G, 1, none⟩ (.slice aB (ts.length + 1) cB)) w.heap.size G nx es u (ts ++ [fs]) (.slice aB (ts.length + 1) cB) (vs ++ [.slice ay fs.length cy]) ∧ Txt (wB.setCell ⟨G, 1, none⟩ (.slice aB (ts.length + 1) cB)) w.heap.size (w.heap.size + 1) (.slice av bs.length cv) bs (Im.pos (Im.stp (Im.rep (Im.listP bs (Im.listP bs (Im.number bs))) (i + 1)) (Im.pos xm))) ∧ ∀ z q, Im.stp (Im.rep (Im.listP bs (Im.listP bs (Im.number bs))) (i + 1)) (Im.pos xm) = .ok (z, q) → ts ++ [fs] = z) := by
              have tS : Kg.Touch [G] wB (wB.setCell ⟨G, 1, none⟩ (.slice aB (ts.length + 1) cB)) := Kg.Touch.setCell _ _ _ (by simp)
              exact ⟨SA.out.push HA.out.1 tB ho, (HA.out.2.1.touch tB (fun k hk => ⟨(SA.out.s.apart SA.out.y (by decide) (Nat.le_refl _) hk).1, txt_apart HA.out.2.1 SA.out.y (by decide) hk⟩)).touch tS (fun k hk => by simp at hk; omega), HA.out.2.2⟩
            have HL : Hid ((ts ++ [fs]).length = i + 1) := by show _ = _; simp [hli.out]
            clear ho hg hat tB hGB dB eB YA HSz gG fG SA HA
            go_wp2
            go_roundw
            case rel => exact ⟨i + 1, ts ++ [fs], _, _, by go_num, by omega, HL, FIN⟩
            case measure => simp [intOf]; omega
          · have hkz : ¬ (kf : Int) = 0 := by omega
            have hkb : ((kf : Int) == 0) = false := by simpa using hkz
            have HD : Hid (i = N2 ∨ ∃ e, Im.pos (Im.stp (Im.rep (Im.listP bs (Im.listP bs (Im.number bs))) i) (Im.pos xm)) = .error e) := .inr (by obtain ⟨pl, hp⟩ := pk; exact ⟨_, hp⟩)
            clear pk
            go_wp2
            go_meet
            case rel =>
              have hq := QM.out
              have hd := HD.out
              have hs := HS.out
              rw [← XM.out] at hq hd hs
              obtain ⟨d1, d2⟩ := Im.stp_done hq.1 hq.2 hiN hd
              exact ⟨ts, us, vs, by have := hli.out; omega, hs.1, by rw [d1]; exact hs.2.1, fun z q hz => hs.2.2 z q (d2 z q hz)⟩
        · have hii : ¬ (i : Int) < (N2 : Int) := by omega
          go_wp2
          go_meet
          case rel =>
            have hq := QM.out
            have hs := HS.out
            rw [← XM.out] at hq hs
            obtain ⟨d1, d2⟩ := Im.stp_done (f := Im.listP bs (Im.listP bs (Im.number bs))) hq.1 hq.2 hiN (.inl (by omega))
            exact ⟨ts, us, vs, by have := hli.out; omega, hs.1, by rw [d1]; exact hs.2.1, fun z q hz => hs.2.2 z q (d2 z q hz)⟩
  obtain ⟨ts, us, vs, HT⟩ := hcut
  obtain ⟨w8, hw8⟩ : ∃ w8, w8 = wc := ⟨_, rfl⟩
  subst hw8
  have S8 : Hid (Sf w w8 w.heap.size G nx es u ts us [] nil3 [] nil3 [] nil3) := HT.out.2.1.sf
  have H8 : Hid (Txt w8 w.heap.size (w.heap.size + 1) (.slice av bs.length cv) bs (Im.pos (Im.stp (Im.listP bs (Im.listP bs (Im.listP bs (Im.number bs)))) (Im.pos x2)))) := HT.out.2.2.1
  have Q3 : Hid (ts.length ≤ bs.length ∧ ∀ z q, Im.stp (Im.listP bs (Im.listP bs (Im.listP bs (Im.number bs)))) (Im.pos x2) = .ok (z, q) → ts = z) := ⟨HT.out.1, HT.out.2.2.2⟩
  generalize hx : Im.stp (Im.listP bs (Im.listP bs (Im.listP bs (Im.number bs)))) (Im.pos x2) = x3 at *
  have X3 : Hid (Im.stp (Im.listP bs (Im.listP bs (Im.listP bs (Im.number bs)))) (Im.pos x2) = x3) := hx
  clear HT hx S7 QM H7 XM
  have hC := tints_any H8.out HBY.out 1 (by omega)
  go_wp2_with fail
  refine hC.mono ?_
  rintro e w9 ⟨vh, hs, rfl, hhs, rz, t9, h9, q9⟩
  obtain ⟨ah, ch, rfl⟩ := own_slI rz
  have S9 : Hid (Sf w w9 w.heap.size G nx es u ts us [] nil3 [] nil3 [] nil3) := S8.out.txt H8.out hG2 t9
  generalize hx : Im.stp (Im.listP bs (Im.number bs)) (Im.pos x3) = x4 at *
  have X4 : Hid (Im.stp (Im.listP bs (Im.number bs)) (Im.pos x3) = x4) := hx
  have Q4 : Hid (hs.length ≤ bs.length ∧ ∀ z q, x4 = .ok (z, q) → hs = z) := ⟨hhs, q9⟩
  have cc := (Kg.heap_cell S9.out.s.gb 2).trans (show _ = some nil3 from rfl)
  have ff := Kg.heap_frozen S9.out.s.gb 2
  have R9 : Hid (w9.ownsRow w8.heap.size 3 1 (.slice ah hs.length ch) hs.length (lessV 1 hs)) := rz
  have H9 : Hid (Txt w9 w.heap.size (w.heap.size + 1) (.slice av bs.length cv) bs (Im.pos x4)) := h9
  clear hC rz t9 h9 q9 hhs hx S8 H8
  go_upto_region 30 with fail
  have SA : Hid (Sf w (w9.setCell ⟨G, 2, none⟩ (.slice ah hs.length ch)) w.heap.size G nx es u ts us hs (.slice ah hs.length ch) [] nil3 [] nil3) := by
    obtain ⟨m1, m2, m3, m4, m5, m6, m7⟩ := S9.out.put 2 (.slice ah hs.length ch)
    exact ⟨S9.out.s.set 2 (.slice ah hs.length ch), m1, m2, m3, Kg.row_base (m7 _ _ _ _ _ _ (by decide) R9.out) (Nat.zero_le _), m5, m6⟩
  have HA : Hid (Txt (w9.setCell ⟨G, 2, none⟩ (.slice ah hs.length ch)) w.heap.size (w.heap.size + 1) (.slice av bs.length cv) bs (Im.pos x4)) := H9.out.touch (Kg.Touch.setCell (F := [G]) _ _ _ (by simp)) (fun k hk => by simp at hk; omega)
  generalize w9.setCell ⟨G, 2, none⟩ (.slice ah hs.length ch) = wA at *
  clear S9 H9 R9 cc ff
  have hC := tints_any HA.out HBY.out 0 (by omega)
  go_wp2_with fail
  refine hC.mono ?_
  rintro e wB ⟨vq, qs, rfl, hqs, rz, t9, h9, q9⟩
  obtain ⟨aq, cq, rfl⟩ := own_slI rz
  have SB : Hid (Sf w wB w.heap.size G nx es u ts us hs (.slice ah hs.length ch) [] nil3 [] nil3) := SA.out.txt HA.out hG2 t9
  generalize hx : Im.stp (Im.listP bs (Im.number bs)) (Im.pos x4) = x5 at *
  have X5 : Hid (Im.stp (Im.listP bs (Im.number bs)) (Im.pos x4) = x5) := hx
  have Q5 : Hid (qs.length ≤ bs.length ∧ ∀ z q, x5 = .ok (z, q) → qs = z) := ⟨hqs, q9⟩
  have cc := (Kg.heap_cell SB.out.s.gb 4).trans (show _ = some nil3 from rfl)
  have ff := Kg.heap_frozen SB.out.s.gb 4
  have RB : Hid (wB.ownsRow 0 3 1 (.slice aq qs.length cq) qs.length (qs.map fun n : Nat => Value.int .i64 (n : Int))) := by
    have h8 : wB.ownsRow 0 3 1 (.slice aq qs.length cq) qs.length (lessV 0 qs) := Kg.row_base rz (Nat.zero_le _)
    rw [lessV_zero] at h8
    exact h8
  have HB : Hid (Txt wB w.heap.size (w.heap.size + 1) (.slice av bs.length cv) bs (Im.pos x5)) := h9
  clear hC rz t9 h9 q9 hqs hx SA HA
  go_upto_region 31 with fail
  have SC : Hid (Sf w (wB.setCell ⟨G, 4, none⟩ (.slice aq qs.length cq)) w.heap.size G nx es u ts us hs (.slice ah hs.length ch) qs (.slice aq qs.length cq) [] nil3) := by
    obtain ⟨m1, m2, m3, m4, m5, m6, m7⟩ := SB.out.put 4 (.slice aq qs.length cq)
    exact ⟨SB.out.s.set 4 (.slice aq qs.length cq), m1, m2, m3, m4, m7 _ _ _ _ _ _ (by decide) RB.out, m6⟩
  have HC : Hid (Txt (wB.setCell ⟨G, 4, none⟩ (.slice aq qs.length cq)) w.heap.size (w.heap.size + 1) (.slice av bs.length cv) bs (Im.pos x5)) := HB.out.touch (Kg.Touch.setCell (F := [G]) _ _ _ (by simp)) (fun k hk => by simp at hk; omega)
  generalize wB.setCell ⟨G, 4, none⟩ (.slice aq qs.length cq) = wC at *
  clear SB HB RB cc ff
  obtain ⟨ls, hGr, -⟩ := SC.out.grd hnx
  have hC := rFinals_any wC.heap.size wC _ _ _ _ _ (es.map OE.ol) ls _ hGr (Nat.le_refl _) (by have := HE.out.1; rw [List.length_map]; omega)
  obtain ⟨ao, co, ho⟩ := own_slI SC.out.r
  obtain ⟨at', ct, ht, -⟩ := hGr.sl
  subst ho ht
  have y0 := (Kg.heap_cell SC.out.s.gb 0).trans (show _ = some (.slice ao es.length co) from rfl)
  have y1 := (Kg.heap_cell SC.out.s.gb 1).trans (show _ = some (.slice at' ls.length ct) from rfl)
  have y2 := (Kg.heap_cell SC.out.s.gb 2).trans (show _ = some (.slice ah hs.length ch) from rfl)
  have y3 := (Kg.heap_cell SC.out.s.gb 3).trans (show _ = some nil3 from rfl)
  have y4 := (Kg.heap_cell SC.out.s.gb 4).trans (show _ = some (.slice aq qs.length cq) from rfl)
  have y5 := (Kg.heap_cell SC.out.s.gb 5).trans (show _ = some (.int .u64 (nx : Int)) from rfl)
  have fG := Kg.heap_frozen SC.out.s.gb 3
  clear hGr
  change Calls _ _ #[.agg (gcs (.slice ao es.length co) (.slice at' ls.length ct) (.slice ah hs.length ch) nil3 (.slice aq qs.length cq) (nx : Int))] _ _ at hC
  generalize ls.length = lt at *
  rw [show (rGr nx es ts hs qs []).obs = es.map (fun e => e.ol.o) from rfl] at hC
  go_wp2_with fail
  refine hC.mono ?_
  rintro e wD ⟨vr, rfl, bD, hvr⟩
  obtain ⟨ar, cr, rfl⟩ := own_slI hvr
  have SD : Hid (Sf w wD w.heap.size G nx es (.slice ao es.length co) ts (.slice at' lt ct) hs (.slice ah hs.length ch) qs (.slice aq qs.length cq) [] nil3) := SC.out.touch (Kg.Touch.of_below bD []) (fun k hk => by cases hk) (fun k hk => by cases hk)
  have HD : Hid (Txt wD w.heap.size (w.heap.size + 1) (.slice av bs.length cv) bs (Im.pos x5)) := HC.out.below bD
  have RD : Hid (wD.ownsRow wC.heap.size 3 1 (.slice ar (Im.fins (es.map (fun e => e.ol.o))).length cr) (Im.fins (es.map (fun e => e.ol.o))).length (Kg.ints (Im.fins (es.map (fun e => e.ol.o))))) := hvr
  have d3 := (Kg.heap_cell SD.out.s.gb 3).trans (show _ = some nil3 from rfl)
  have e3 := Kg.heap_frozen SD.out.s.gb 3
  generalize hrg : Im.fins (es.map (fun e => e.ol.o)) = rg at *
  have Hrg : Hid (Im.fins (es.map (fun e => e.ol.o)) = rg) := hrg
  clear hC bD hvr SC HC y0 y1 y2 y3 y4 y5 fG hrg
  go_upto_region 32 with fail
  have SE : Hid (Sf w (wD.setCell ⟨G, 3, none⟩ (.slice ar rg.length cr)) w.heap.size G nx es (.slice ao es.length co) ts (.slice at' lt ct) hs (.slice ah hs.length ch) qs (.slice aq qs.length cq) rg (.slice ar rg.length cr)) := by
    obtain ⟨m1, m2, m3, m4, m5, m6, m7⟩ := SD.out.put 3 (.slice ar rg.length cr)
    exact ⟨SD.out.s.set 3 (.slice ar rg.length cr), m1, m2, m3, m4, m5, Kg.row_base (m7 _ _ _ _ _ _ (by decide) RD.out) (Nat.zero_le _)⟩
  have HE2 : Hid (Txt (wD.setCell ⟨G, 3, none⟩ (.slice ar rg.length cr)) w.heap.size (w.heap.size + 1) (.slice av bs.length cv) bs (Im.pos x5)) := HD.out.touch (Kg.Touch.setCell (F := [G]) _ _ _ (by simp)) (fun k hk => by simp at hk; omega)
  generalize wD.setCell ⟨G, 3, none⟩ (.slice ar rg.length cr) = wE at *
  clear SD HD RD d3 e3 wC
  generalize hst : Im.pos x5 = st at *
  have Hst : Hid (Im.pos x5 = st) := hst
  clear hst
  go_cut [132] from 118 to 132 (fun v132 wq => v132 = .bool (shA bs st) ∧ wq = wE)
  case first =>
    as_aux_lemma =>
      rcases st with ⟨pl, k⟩ | p
      · have h1 : TErr wE w.heap.size (w.heap.size + 1) (.slice av bs.length cv) bs pl k := HE2.out
        obtain ⟨a, hb1⟩ := h1.b
        have c2 := (Kg.heap_cell hb1 2).trans (show _ = some (.int .i64 (k : Int)) from rfl)
        have hk := h1.k0
        have hkz : ¬ (k : Int) = 0 := by omega
        have hkb : ((k : Int) == 0) = false := by simpa using hkz
        clear h1 hb1
        go_wp2
        go_meet
        case rel => exact ⟨rfl, rfl⟩
      · have h1 : TOk wE w.heap.size (w.heap.size + 1) (.slice av bs.length cv) bs p := HE2.out
        have c1 := (Kg.heap_cell h1.b 1).trans (show _ = some (.int .i64 (p : Int)) from rfl)
        have c2 := (Kg.heap_cell h1.b 2).trans (show _ = some (.int .i64 0) from rfl)
        have hle := h1.le
        clear h1
        go_wp2
        go_meet
        case rel => exact ⟨by simp only [shA]; congr 1; rw [decide_eq_decide]; omega, rfl⟩
  obtain ⟨rfl, hwc⟩ := hcut
  subst hwc
  obtain ⟨wF, hwF⟩ : ∃ wF, wF = wc := ⟨_, rfl⟩
  subst hwF
  go_upto_if 132 with fail
  go_cut [] from 118 to 136 (fun wq => Hid (Sf w wq w.heap.size G nx es (.slice ao es.length co) ts (.slice at' lt ct) hs (.slice ah hs.length ch) qs (.slice aq qs.length cq) rg (.slice ar rg.length cr) ∧ Txt wq w.heap.size (w.heap.size + 1) (.slice av bs.length cv) bs (stA bs st)))
  case first =>
    as_aux_lemma =>
      rcases st with ⟨pl, k⟩ | p
      · have hsh : shA bs (.error (pl, k)) = false := rfl
        rw [hsh]
        go_wp2
        go_meet
        case rel => exact ⟨SE.out, HE2.out⟩
      · by_cases hs4 : bs.length < p + 4
        · have hsh : shA bs (.ok p) = true := by simp [shA, hs4]
          rw [hsh]
          have h1 : TOk wF w.heap.size (w.heap.size + 1) (.slice av bs.length cv) bs p := HE2.out
          have hC := tfault_any h1 bs.length 160 (by omega) (Nat.le_refl _)
          clear h1
          go_wp2_with fail
          refine hC.mono ?_
          rintro e w1 ⟨rfl, t1, h1⟩
          go_wp2
          go_meet
          case rel =>
            refine ⟨SE.out.txt HE2.out hG2 t1, ?_⟩
            simp only [stA, if_pos hs4]
            exact h1
        · have hsh : shA bs (.ok p) = false := by simp [shA, hs4]
          rw [hsh]
          go_wp2
          go_meet
          case rel =>
            refine ⟨SE.out, ?_⟩
            simp only [stA, if_neg hs4]
            exact HE2.out
  obtain ⟨wG, hwG⟩ : ∃ wG, wG = wc := ⟨_, rfl⟩
  subst hwG
  have SG : Hid (Sf w wG w.heap.size G nx es (.slice ao es.length co) ts (.slice at' lt ct) hs (.slice ah hs.length ch) qs (.slice aq qs.length cq) rg (.slice ar rg.length cr)) := hcut.out.1
  have HG : Hid (Txt wG w.heap.size (w.heap.size + 1) (.slice av bs.length cv) bs (stA bs st)) := hcut.out.2
  clear hcut SE HE2
  generalize hsa : stA bs st = sa at *
  have Hsa : Hid (stA bs st = sa) := hsa
  have HL4 : Hid (∀ p, sa = .ok p → p + 4 ≤ bs.length) := fun p hp => by
    rw [← hsa] at hp
    rcases st with e | q
    · cases hp
    · simp only [stA] at hp
      split at hp
      · cases hp
      · cases hp
        omega
  clear hsa
  go_upto_region 34 with fail
  go_cut [141] from 137 to 141 (fun v141 wq => v141 = .bool (isOk sa) ∧ wq = wG)
  case first =>
    as_aux_lemma =>
      rcases sa with ⟨pl, k⟩ | p
      · have h1 : TErr wG w.heap.size (w.heap.size + 1) (.slice av bs.length cv) bs pl k := HG.out
        obtain ⟨a, hb1⟩ := h1.b
        have c2 := (Kg.heap_cell hb1 2).trans (show _ = some (.int .i64 (k : Int)) from rfl)
        have hk := h1.k0
        have hkz : ¬ (k : Int) = 0 := by omega
        have hkb : ((k : Int) == 0) = false := by simpa using hkz
        clear h1 hb1
        go_wp2
        go_meet
        case rel => exact ⟨by simp [isOk], rfl⟩
      · have h1 : TOk wG w.heap.size (w.heap.size + 1) (.slice av bs.length cv) bs p := HG.out
        have c2 := (Kg.heap_cell h1.b 2).trans (show _ = some (.int .i64 0) from rfl)
        clear h1
        go_wp2
        go_meet
        case rel => exact ⟨rfl, rfl⟩
  obtain ⟨rfl, hwc⟩ := hcut
  subst hwc
  obtain ⟨wH, hwH⟩ : ∃ wH, wH = wc := ⟨_, rfl⟩
  subst hwH
  go_upto_if 141 with fail
  go_cut [] from 137 to 173 (fun wq => Hid (Sf w wq w.heap.size G nx es (.slice ao es.length co) ts (.slice at' lt ct) hs (.slice ah hs.length ch) qs (.slice aq qs.length cq) rg (.slice ar rg.length cr) ∧ Txt wq w.heap.size (w.heap.size + 1) (.slice av bs.length cv) bs (stB bs sa)))
  case first =>
    as_aux_lemma =>
      rcases sa with ⟨pl, k⟩ | p
      · have hsh : isOk (.error (pl, k)) = false := rfl
        rw [hsh]
        go_wp2
        go_meet
        case rel => exact ⟨SG.out, HG.out⟩
      · have hsh : isOk (.ok p) = true := rfl
        rw [hsh]
        have h1 : TOk wH w.heap.size (w.heap.size + 1) (.slice av bs.length cv) bs p := HG.out
        have H1 : Hid (TOk wH w.heap.size (w.heap.size + 1) (.slice av bs.length cv) bs p) := h1
        have hp4 := HL4.out p rfl
        obtain ⟨b0, b1, b2, b3, k0, k1, k2, k3, k4⟩ := four_at hp4
        have hb0 := HBY.out b0 (List.mem_of_getElem? k0)
        have hb1 := HBY.out b1 (List.mem_of_getElem? k1)
        have hb2 := HBY.out b2 (List.mem_of_getElem? k2)
        have hb3 := HBY.out b3 (List.mem_of_getElem? k3)
        obtain ⟨a', cap', ee, -, hel⟩ := h1.l.byte
        cases ee
        obtain ⟨q, off, ea, -, d0⟩ := hel p b0 k0
        subst ea
        obtain ⟨q', off', ea, -, d1⟩ := hel (p + 1) b1 k1
        cases ea
        obtain ⟨q', off', ea, -, d2⟩ := hel (p + 2) b2 k2
        cases ea
        obtain ⟨q', off', ea, -, d3⟩ := hel (p + 3) b3 k3
        cases ea
        have c1 := (Kg.heap_cell h1.b 1).trans (show _ = some (.int .i64 (p : Int)) from rfl)
        have K4 : Hid ((bs.drop p).take 4 = [b0, b1, b2, b3]) := k4
        have hC := rSum_any w.heap.size wH _ (bs.take p) (lrd_take h1.l p (by omega)) (fun x hx => HBY.out x (List.mem_of_mem_take hx)) (by rw [List.length_take]; omega)
        have hfn := Im.fnv_lt (bs.take p)
        clear h1 hel k0 k1 k2 k3 k4
        have i3 : (p : Int) + 3 < (bs.length : Int) := by omega
        have i2 : (p : Int) + 2 < (bs.length : Int) := by omega
        have i1 : (p : Int) + 1 < (bs.length : Int) := by omega
        have i0' : (p : Int) < (bs.length : Int) := by omega
        have j3 : ((p : Int) + 3).toNat = p + 3 := by omega
        have j2 : ((p : Int) + 2).toNat = p + 2 := by omega
        have j1 : ((p : Int) + 1).toNat = p + 1 := by omega
        have m3 : (0 : Int) ≤ (p : Int) + 3 := by omega
        have m2 : (0 : Int) ≤ (p : Int) + 2 := by omega
        have m1 : (0 : Int) ≤ (p : Int) + 1 := by omega
        go_wp2
        go_loopw [17, 18] (fun v17 v18 wr => wr = wH ∧ ((v17 = .int .u32 0 ∧ v18 = .int .i64 3) ∨ (v17 = .int .u32 (b3 : Int) ∧ v18 = .int .i64 2) ∨ (v17 = .int .u32 (256 * (b3 : Int) + b2) ∧ v18 = .int .i64 1) ∨ (v17 = .int .u32 (256 * (256 * (b3 : Int) + b2) + b1) ∧ v18 = .int .i64 0) ∨ (v17 = .int .u32 (256 * (256 * (256 * (b3 : Int) + b2) + b1) + b0) ∧ v18 = .int .i64 (-1)))) (fun _ v18 _ => (intOf v18 + 1).toNat)
        case atStart => exact ⟨rfl, .inl ⟨rfl, rfl⟩⟩
        case round =>
          obtain ⟨rfl, hv⟩ := hrel
          rcases hv with hv | hv | hv | hv | hv
          · obtain ⟨rfl, rfl⟩ := hv
            go_wp2
            go_roundw
            case rel => first | exact ⟨rfl, .inr (.inl ⟨by simp, rfl⟩)⟩ | exact ⟨trivial, .inr (.inl ⟨by simp, rfl⟩)⟩ | simp
            case measure => simp [intOf]
          · obtain ⟨rfl, rfl⟩ := hv
            go_wp2
            go_roundw
            case rel => first | exact ⟨rfl, .inr (.inr (.inl ⟨rfl, rfl⟩))⟩ | exact ⟨trivial, .inr (.inr (.inl ⟨rfl, rfl⟩))⟩ | simp
            case measure => simp [intOf]
          · obtain ⟨rfl, rfl⟩ := hv
            go_wp2
            go_roundw
            case rel => first | exact ⟨rfl, .inr (.inr (.inr (.inl ⟨rfl, rfl⟩)))⟩ | exact ⟨trivial, .inr (.inr (.inr (.inl ⟨rfl, rfl⟩)))⟩ | simp
            case measure => simp [intOf]
          · obtain ⟨rfl, rfl⟩ := hv
            go_wp2
            go_roundw
            case rel => first | exact ⟨rfl, .inr (.inr (.inr (.inr ⟨rfl, rfl⟩)))⟩ | exact ⟨trivial, .inr (.inr (.inr (.inr ⟨rfl, rfl⟩)))⟩ | simp
            case measure => simp [intOf]
          · obtain ⟨rfl, rfl⟩ := hv
            have hle := le4_eq hb0 hb1 hb2 hb3 hfn
            have hpc : (p : Int) ≤ (cv : Int) := by omega
            have hpl : p ≤ bs.length := by omega
            have Hle : Hid ([b0, b1, b2, b3] = Im.le4 (Im.fnv (bs.take p)) ↔ b0 + 256 * b1 + 65536 * b2 + 16777216 * b3 = Im.fnv (bs.take p)) := hle
            clear hle
            generalize hfv : Im.fnv (bs.take p) = fv at *
            have Hfv : Hid (Im.fnv (bs.take p) = fv) := hfv
            clear hfv
            by_cases hsm : 256 * (256 * (256 * (b3 : Int) + b2) + b1) + b0 = (fv : Int)
            · have hsb : (256 * (256 * (256 * (b3 : Int) + b2) + b1) + b0 != (fv : Int)) = false := by simp [hsm]
              go_wp2_with fail
              refine hC.mono ?_
              rintro e w1 ⟨rfl, rfl⟩
              go_wp2
              go_meet
              case rel =>
                refine ⟨SG.out, ?_⟩
                simp only [stB]
                rw [if_neg (by rw [K4.out, Hfv.out]; exact fun h9 => h9 (Hle.out.2 (by omega)))]
                exact HG.out
            · have hsb : (256 * (256 * (256 * (b3 : Int) + b2) + b1) + b0 != (fv : Int)) = true := by simpa using hsm
              have hD := tfault_any H1.out p 163 (by omega) hpl
              go_wp2_with fail
              refine hC.mono ?_
              rintro e w1 ⟨rfl, rfl⟩
              go_wp2_with fail
              refine hD.mono ?_
              rintro e w2 ⟨rfl, t2, h2⟩
              go_wp2
              go_meet
              case rel =>
                refine ⟨SG.out.txt HG.out hG2 t2, ?_⟩
                simp only [stB]
                rw [if_pos (by rw [K4.out, Hfv.out]; exact fun h9 => hsm (by have := Hle.out.1 h9; omega))]
                exact h2
  obtain ⟨wI, hwI⟩ : ∃ wI, wI = wc := ⟨_, rfl⟩
  subst hwI
  have SI : Hid (Sf w wI w.heap.size G nx es (.slice ao es.length co) ts (.slice at' lt ct) hs (.slice ah hs.length ch) qs (.slice aq qs.length cq) rg (.slice ar rg.length cr)) := hcut.out.1
  have HI2 : Hid (Txt wI w.heap.size (w.heap.size + 1) (.slice av bs.length cv) bs (stB bs sa)) := hcut.out.2
  clear hcut SG HG HL4
  generalize hsb : stB bs sa = sb at *
  have Hsb : Hid (stB bs sa = sb) := hsb
  clear hsb
  go_upto_region 42 with fail
  go_cut [188] from 174 to 188 (fun v188 wq => v188 = .bool (shC bs sb) ∧ wq = wI)
  case first =>
    as_aux_lemma =>
      rcases sb with ⟨pl, k⟩ | p
      · have h1 : TErr wI w.heap.size (w.heap.size + 1) (.slice av bs.length cv) bs pl k := HI2.out
        obtain ⟨a, hb1⟩ := h1.b
        have c2 := (Kg.heap_cell hb1 2).trans (show _ = some (.int .i64 (k : Int)) from rfl)
        have hk := h1.k0
        have hkz : ¬ (k : Int) = 0 := by omega
        have hkb : ((k : Int) == 0) = false := by simpa using hkz
        clear h1 hb1
        go_wp2
        go_meet
        case rel => exact ⟨rfl, rfl⟩
      · have h1 : TOk wI w.heap.size (w.heap.size + 1) (.slice av bs.length cv) bs p := HI2.out
        have c1 := (Kg.heap_cell h1.b 1).trans (show _ = some (.int .i64 (p : Int)) from rfl)
        have c2 := (Kg.heap_cell h1.b 2).trans (show _ = some (.int .i64 0) from rfl)
        have hle := h1.le
        clear h1
        go_wp2
        go_meet
        case rel => exact ⟨by simp only [shC]; congr 1; rw [decide_eq_decide]; omega, rfl⟩
  obtain ⟨rfl, hwc⟩ := hcut
  subst hwc
  obtain ⟨wJ, hwJ⟩ : ∃ wJ, wJ = wc := ⟨_, rfl⟩
  subst hwJ
  go_upto_if 188 with fail
  go_cut [] from 174 to 195 (fun wq => Hid (Sf w wq w.heap.size G nx es (.slice ao es.length co) ts (.slice at' lt ct) hs (.slice ah hs.length ch) qs (.slice aq qs.length cq) rg (.slice ar rg.length cr) ∧ Txt wq w.heap.size (w.heap.size + 1) (.slice av bs.length cv) bs (stC bs sb)))
  case first =>
    as_aux_lemma =>
      rcases sb with ⟨pl, k⟩ | p
      · have hsh : shC bs (.error (pl, k)) = false := rfl
        rw [hsh]
        go_wp2
        go_meet
        case rel => exact ⟨SI.out, HI2.out⟩
      · by_cases hs4 : p + 4 < bs.length
        · have hsh : shC bs (.ok p) = true := by simp [shC, hs4]
          rw [hsh]
          have h1 : TOk wJ w.heap.size (w.heap.size + 1) (.slice av bs.length cv) bs p := HI2.out
          have c1 := (Kg.heap_cell h1.b 1).trans (show _ = some (.int .i64 (p : Int)) from rfl)
          have hC := tfault_any h1 (p + 4) 162 (by omega) (by omega)
          rw [show (((p + 4 : Nat)) : Int) = (p : Int) + 4 by omega] at hC
          clear h1
          go_wp2_with fail
          refine hC.mono ?_
          rintro e w1 ⟨rfl, t1, h1⟩
          go_wp2
          go_meet
          case rel =>
            refine ⟨SI.out.txt HI2.out hG2 t1, ?_⟩
            simp only [stC, if_pos hs4]
            exact h1
        · have hsh : shC bs (.ok p) = false := by simp [shC, hs4]
          rw [hsh]
          go_wp2
          go_meet
          case rel =>
            refine ⟨SI.out, ?_⟩
            simp only [stC, if_neg hs4]
            exact HI2.out
  obtain ⟨wK, hwK⟩ : ∃ wK, wK = wc := ⟨_, rfl⟩
  subst hwK
  have SK : Hid (Sf w wK w.heap.size G nx es (.slice ao es.length co) ts (.slice at' lt ct) hs (.slice ah hs.length ch) qs (.slice aq qs.length cq) rg (.slice ar rg.length cr)) := hcut.out.1
  have HK : Hid (Txt wK w.heap.size (w.heap.size + 1) (.slice av bs.length cv) bs (stC bs sb)) := hcut.out.2
  clear hcut SI HI2
  generalize hsc : stC bs sb = sc at *
  have Hsc : Hid (stC bs sb = sc) := hsc
  clear hsc
  have HSC : Hid (stC bs (stB bs (stA bs (Im.pos (Im.stp (Im.ngP bs) (st0 bs))))) = sc) := by
    show _ = _
    rw [(ng_pos X1.out X2.out X3.out X4.out X5.out).1, Hst.out, Hsa.out, Hsb.out, Hsc.out]
  have HVL : Hid (∀ z q, Im.stp (Im.ngP bs) (st0 bs) = .ok (z, q) → (nx, es.map (·.ro), ts, hs, qs) = z) := (ng_pos X1.out X2.out X3.out X4.out X5.out).2 nx (es.map (fun e : OE => e.ro)) ts hs qs Q1.out HE.out.2.2 Q3.out.2 Q4.out.2 Q5.out.2
  have HSE : Hid (Sers es) := HE.out.2.1
  clear Hsc Hsb Hsa Hst X1 X2 X3 X4 X5 Q1 Q3 Q4 Q5 HE
  go_upto_region 44 with fail
  generalize hovr : Im.rOver 0 (es.map (fun x : OE => x.ro)) = ovr
  have Hovr : Hid (Im.rOver 0 (es.map (fun x : OE => x.ro)) = ovr) := hovr
  clear hovr
  go_cut [208] from 196 to 208 (fun v208 wq => ∃ b : Bool, v208 = .bool b ∧ Hid (Sf w wq w.heap.size G nx es (.slice ao es.length co) ts (.slice at' lt ct) hs (.slice ah hs.length ch) qs (.slice aq qs.length cq) rg (.slice ar rg.length cr) ∧ Txt wq w.heap.size (w.heap.size + 1) (.slice av bs.length cv) bs (sc) ∧ (∀ e, sc = .error e → b = false) ∧ ∀ p, sc = .ok p → ∃ z, Im.dec bs = .ok z ∧ ((b = false ∧ MB (Im.wNG z) ∧ rGr nx es ts hs qs rg = Im.wNG z) ∨ (b = true ∧ ¬ MB (Im.wNG z)))))
  case first =>
    as_aux_lemma =>
      rcases sc with ⟨pl, k⟩ | p
      · have h1 : TErr wK w.heap.size (w.heap.size + 1) (.slice av bs.length cv) bs pl k := HK.out
        obtain ⟨a, hb1⟩ := h1.b
        have c2 := (Kg.heap_cell hb1 2).trans (show _ = some (.int .i64 (k : Int)) from rfl)
        have hk := h1.k0
        have hkz : ¬ (k : Int) = 0 := by omega
        have hkb : ((k : Int) == 0) = false := by simpa using hkz
        clear h1 hb1
        go_wp2
        go_meet
        case rel => exact ⟨false, rfl, SK.out, HK.out, fun _ _ => rfl, fun p hp => by cases hp⟩
      · have h1 : TOk wK w.heap.size (w.heap.size + 1) (.slice av bs.length cv) bs p := HK.out
        have c2 := (Kg.heap_cell h1.b 2).trans (show _ = some (.int .i64 0) from rfl)
        clear h1
        obtain ⟨z, hz1, hz2⟩ := dec_st.2 p HSC.out
        have hzv := HVL.out z p hz1
        obtain ⟨hzo, hze⟩ := Im.enc_dec HBY.out hz2
        have HZ : Hid (Im.dec bs = .ok z ∧ (nx, es.map (fun e : OE => e.ro), ts, hs, qs) = z ∧ Im.ngOk z ∧ bs = Im.enc z) := ⟨hz2, hzv, hzo, hze⟩
        clear hz1 hz2 hzv hzo hze
        cases ovr with
        | true =>
          go_wp2
          go_meet
          case rel => exact ⟨true, rfl, SK.out, HK.out, (fun e he => by cases he), fun p' hp' => ⟨z, HZ.out.1, .inr ⟨rfl, over_bad HZ.out.2.2.1 (by rw [← HZ.out.2.1]; exact Hovr.out)⟩⟩⟩
        | false =>
          have hov : Im.rOver 0 (es.map (fun e : OE => e.ro)) = false := Hovr.out
          have hreq : rGr nx es ts hs qs rg = Im.wNG z := by rw [← HZ.out.2.1, ← Hrg.out]; exact rGr_eq HSE.out hov hnx
          have Hov : Hid (Im.rOver 0 (es.map (fun e : OE => e.ro)) = false ∧ rGr nx es ts hs qs rg = Im.wNG z) := ⟨hov, hreq⟩
          obtain ⟨ls2, hGr, hls⟩ := SK.out.grd hnx
          have hgl : Gln (es.map OE.ol) ls2 (rGr nx es ts hs qs rg) := by
            refine gln_le ?_ hGr.eo hGr.es
            rw [hreq]
            refine Nat.le_trans (gsz_le (y := z) ?_ ?_) (show (Im.ngE z).length ≤ _ by have h9 := congrArg List.length HZ.out.2.2.2; rw [Im.enc_len] at h9; omega)
            · have h9 := hGr.eo
              rw [hreq] at h9
              exact h9.symm
            · rw [hls, ← HZ.out.2.1]
          have hC := rCheck_any wK.heap.size wK _ _ _ _ _ (es.map OE.ol) ls2 _ hGr (Nat.le_refl _) hgl
          have y0 := (Kg.heap_cell SK.out.s.gb 0).trans (show _ = some (.slice ao es.length co) from rfl)
          have y1 := (Kg.heap_cell SK.out.s.gb 1).trans (show _ = some (.slice at' lt ct) from rfl)
          have y2 := (Kg.heap_cell SK.out.s.gb 2).trans (show _ = some (.slice ah hs.length ch) from rfl)
          have y3 := (Kg.heap_cell SK.out.s.gb 3).trans (show _ = some (.slice ar rg.length cr) from rfl)
          have y4 := (Kg.heap_cell SK.out.s.gb 4).trans (show _ = some (.slice aq qs.length cq) from rfl)
          have y5 := (Kg.heap_cell SK.out.s.gb 5).trans (show _ = some (.int .u64 (nx : Int)) from rfl)
          clear hGr hls hgl hreq hov
          change Calls _ _ #[.agg (gcs (.slice ao es.length co) (.slice at' lt ct) (.slice ah hs.length ch) (.slice ar rg.length cr) (.slice aq qs.length cq) (nx : Int))] _ _ at hC
          go_wp2_with fail
          refine hC.mono ?_
          rintro e w1 ⟨r, rfl, b1, h1⟩
          have S1 : Hid (Sf w w1 w.heap.size G nx es (.slice ao es.length co) ts (.slice at' lt ct) hs (.slice ah hs.length ch) qs (.slice aq qs.length cq) rg (.slice ar rg.length cr)) := SK.out.touch (Kg.Touch.of_below b1 []) (fun k hk => by cases hk) (fun k hk => by cases hk)
          have H1 : Hid (Txt w1 w.heap.size (w.heap.size + 1) (.slice av bs.length cv) bs (.ok p)) := HK.out.below b1
          rcases h1 with ⟨rfl, hmb⟩ | ⟨rfl, hmb⟩
          · have Hmb : Hid (MB (Im.wNG z)) := by have h9 := hmb; rw [Hov.out.2] at h9; exact h9
            clear hmb b1 hC
            go_wp2
            go_meet
            case rel => exact ⟨false, rfl, S1.out, H1.out, (fun e he => by cases he), fun p' hp' => ⟨z, HZ.out.1, .inl ⟨rfl, Hmb.out, Hov.out.2⟩⟩⟩
          · have Hmb : Hid (¬ MB (Im.wNG z)) := by have h9 := hmb; rw [Hov.out.2] at h9; exact h9
            clear hmb b1 hC
            go_wp2
            go_meet
            case rel => exact ⟨true, rfl, S1.out, H1.out, (fun e he => by cases he), fun p' hp' => ⟨z, HZ.out.1, .inr ⟨rfl, Hmb.out⟩⟩⟩
  obtain ⟨b, rfl, hcut⟩ := hcut
  obtain ⟨wL, hwL⟩ : ∃ wL, wL = wc := ⟨_, rfl⟩
  subst hwL
  have SL : Hid (Sf w wL w.heap.size G nx es (.slice ao es.length co) ts (.slice at' lt ct) hs (.slice ah hs.length ch) qs (.slice aq qs.length cq) rg (.slice ar rg.length cr)) := hcut.out.1
  have HLt : Hid (Txt wL w.heap.size (w.heap.size + 1) (.slice av bs.length cv) bs (sc)) := hcut.out.2.1
  have HSP : Hid ((∀ e, sc = .error e → b = false) ∧ ∀ p, sc = .ok p → ∃ z, Im.dec bs = .ok z ∧ ((b = false ∧ MB (Im.wNG z) ∧ rGr nx es ts hs qs rg = Im.wNG z) ∨ (b = true ∧ ¬ MB (Im.wNG z)))) := hcut.out.2.2
  clear hcut SK HK HVL HSE
  go_upto_if 208 with fail
  go_cut [] from 196 to 210 (fun wq => Hid (Sf w wq w.heap.size G nx es (.slice ao es.length co) ts (.slice at' lt ct) hs (.slice ah hs.length ch) qs (.slice aq qs.length cq) rg (.slice ar rg.length cr) ∧ Txt wq w.heap.size (w.heap.size + 1) (.slice av bs.length cv) bs (stD b sc)))
  case first =>
    as_aux_lemma =>
      rcases sc with ⟨pl, k⟩ | p
      · have hbf := HSP.out.1 _ rfl
        subst hbf
        go_wp2
        go_meet
        case rel => exact ⟨SL.out, HLt.out⟩
      · cases b with
        | true =>
          have h1 : TOk wL w.heap.size (w.heap.size + 1) (.slice av bs.length cv) bs p := HLt.out
          have hC := tfault_any h1 0 164 (by omega) (Nat.zero_le _)
          clear h1
          go_wp2_with fail
          refine hC.mono ?_
          rintro e w1 ⟨rfl, t1, h1⟩
          go_wp2
          go_meet
          case rel => exact ⟨SL.out.txt HLt.out hG2 t1, h1⟩
        | false =>
          go_wp2
          go_meet
          case rel => exact ⟨SL.out, HLt.out⟩
  obtain ⟨wM, hwM⟩ : ∃ wM, wM = wc := ⟨_, rfl⟩
  subst hwM
  have SM' : Hid (Sf w wM w.heap.size G nx es (.slice ao es.length co) ts (.slice at' lt ct) hs (.slice ah hs.length ch) qs (.slice aq qs.length cq) rg (.slice ar rg.length cr)) := hcut.out.1
  have HMt : Hid (Txt wM w.heap.size (w.heap.size + 1) (.slice av bs.length cv) bs (stD b sc)) := hcut.out.2
  clear hcut SL HLt
  have FIN : Hid ((∀ pl k, stD b sc = .error (pl, k) → ∀ w', Rres bs (.returned (.tuple #[.agg (gcs nil3 nil3 nil3 nil3 nil3 0), .int .i64 (pl : Int), .int .i64 (k : Int)])) w') ∧ (∀ p, stD b sc = .ok p → ∃ z, Im.dec bs = .ok z ∧ MB (Im.wNG z) ∧ rGr nx es ts hs qs rg = Im.wNG z)) := by
    rcases sc with ⟨pl, k⟩ | p
    · refine ⟨fun pl' k' h9 w' => ?_, fun p h9 => by cases h9⟩
      cases h9
      have h8 := dec_st.1 _ HSC.out
      unfold Rres
      rw [h8]
    · obtain ⟨z, z1, z2⟩ := HSP.out.2 p rfl
      rcases z2 with ⟨rfl, z3, z4⟩ | ⟨rfl, z3⟩
      · exact ⟨fun pl' k' h9 => (by cases h9), fun p' h9 => ⟨z, z1, z3, z4⟩⟩
      · refine ⟨fun pl' k' h9 w' => ?_, fun p h9 => by cases h9⟩
        cases h9
        unfold Rres
        rw [z1]
        exact .inl ⟨z3, rfl⟩
  generalize stD b sc = sd at *
  clear HSP HSC
  go_upto_region 46 with fail
  rcases sd with ⟨pl, k⟩ | p
  · have h1 : TErr wM w.heap.size (w.heap.size + 1) (.slice av bs.length cv) bs pl k := HMt.out
    obtain ⟨a, hb1⟩ := h1.b
    have c2 := (Kg.heap_cell hb1 2).trans (show _ = some (.int .i64 (k : Int)) from rfl)
    have c3 := (Kg.heap_cell hb1 3).trans (show _ = some (.int .i64 (pl : Int)) from rfl)
    have hk := h1.k0
    have hkz : ¬ (k : Int) = 0 := by omega
    have hkb : ((k : Int) != 0) = true := by simpa using hkz
    clear h1
    go_wp2_with fail
    have hra := SM'.out.s.ra
    refine wp_region_held_drew (S := (fun w' => w'.cell? ⟨w.heap.size + 1, 2, none⟩ = some (.int .i64 (k : Int)) ∧ w'.cell? ⟨w.heap.size + 1, 3, none⟩ = some (.int .i64 (pl : Int)))) Kg.mixed ⟨c2, c3⟩ (fun hHeld => ?_)
    refine wpAnyH_take (i := 0) (v := (.agg (gcs nil3 nil3 nil3 nil3 nil3 0))) rfl (by kernel_rfl) (by kernel_rfl) (by kernel_rfl) (fun _ _ _ h => h) (Or.inl ⟨by rfl, fun wx hSw => ?_⟩) (by assumption) ?_
    · first | go_simp | kernel_rfl
    change wpAnyH _ _ _ _ _ _ _ (Act.put _ (some 216) (.agg (gcs nil3 nil3 nil3 nil3 nil3 0))) _
    simp only [Act.put, List.setIfInBounds_toArray, List.set_cons_zero, List.set_cons_succ]
    refine wpAnyH_take (i := 1) (v := (.pointer (some ⟨w.heap.size + 1, 0, none⟩))) rfl (by kernel_rfl) (by kernel_rfl) (by kernel_rfl) (fun _ _ _ h => h) (Or.inl ⟨by rfl, fun wx hSw => ?_⟩) (by assumption) ?_
    · go_simp
    change wpAnyH _ _ _ _ _ _ _ (Act.put _ (some 217) (.pointer (some ⟨w.heap.size + 1, 0, none⟩))) _
    simp only [Act.put, List.setIfInBounds_toArray, List.set_cons_zero, List.set_cons_succ]
    refine wpAnyH_take (i := 2) (v := (.pointer (some ⟨w.heap.size + 1, 0, none⟩))) rfl (by kernel_rfl) (by kernel_rfl) (by kernel_rfl) (fun _ _ _ h => h) (Or.inl ⟨by rfl, fun wx hSw => ?_⟩) (by assumption) ?_
    · go_simp
    change wpAnyH _ _ _ _ _ _ _ (Act.put _ (some 218) (.pointer (some ⟨w.heap.size + 1, 0, none⟩))) _
    simp only [Act.put, List.setIfInBounds_toArray, List.set_cons_zero, List.set_cons_succ]
    refine wpAnyH_take (i := 3) (v := (.pointer (some ⟨w.heap.size + 1, 3, none⟩))) rfl (by kernel_rfl) (by kernel_rfl) (by kernel_rfl) (fun _ _ _ h => h) (Or.inl ⟨by rfl, fun wx hSw => ?_⟩) (by assumption) ?_
    · go_simp
    change wpAnyH _ _ _ _ _ _ _ (Act.put _ (some 219) (.pointer (some ⟨w.heap.size + 1, 3, none⟩))) _
    simp only [Act.put, List.setIfInBounds_toArray, List.set_cons_zero, List.set_cons_succ]
    refine wpAnyH_take (i := 4) (v := (.int .i64 (pl : Int))) rfl (by kernel_rfl) (by kernel_rfl) (by kernel_rfl) (fun _ _ _ h => h) (Or.inl ⟨by rfl, fun wx hSw => ?_⟩) (by assumption) ?_
    · obtain ⟨s0, s1⟩ := hSw; go_simp
    change wpAnyH _ _ _ _ _ _ _ (Act.put _ (some 220) (.int .i64 (pl : Int))) _
    simp only [Act.put, List.setIfInBounds_toArray, List.set_cons_zero, List.set_cons_succ]
    refine wpAnyH_take (i := 5) (v := (.pointer (some ⟨w.heap.size + 1, 0, none⟩))) rfl (by kernel_rfl) (by kernel_rfl) (by kernel_rfl) (fun _ _ _ h => h) (Or.inl ⟨by rfl, fun wx hSw => ?_⟩) (by assumption) ?_
    · go_simp
    change wpAnyH _ _ _ _ _ _ _ (Act.put _ (some 221) (.pointer (some ⟨w.heap.size + 1, 0, none⟩))) _
    simp only [Act.put, List.setIfInBounds_toArray, List.set_cons_zero, List.set_cons_succ]
    refine wpAnyH_take (i := 6) (v := (.pointer (some ⟨w.heap.size + 1, 0, none⟩))) rfl (by kernel_rfl) (by kernel_rfl) (by kernel_rfl) (fun _ _ _ h => h) (Or.inl ⟨by rfl, fun wx hSw => ?_⟩) (by assumption) ?_
    · go_simp
    change wpAnyH _ _ _ _ _ _ _ (Act.put _ (some 222) (.pointer (some ⟨w.heap.size + 1, 0, none⟩))) _
    simp only [Act.put, List.setIfInBounds_toArray, List.set_cons_zero, List.set_cons_succ]
    refine wpAnyH_take (i := 7) (v := (.pointer (some ⟨w.heap.size + 1, 2, none⟩))) rfl (by kernel_rfl) (by kernel_rfl) (by kernel_rfl) (fun _ _ _ h => h) (Or.inl ⟨by rfl, fun wx hSw => ?_⟩) (by assumption) ?_
    · go_simp
    change wpAnyH _ _ _ _ _ _ _ (Act.put _ (some 223) (.pointer (some ⟨w.heap.size + 1, 2, none⟩))) _
    simp only [Act.put, List.setIfInBounds_toArray, List.set_cons_zero, List.set_cons_succ]
    refine wpAnyH_take (i := 8) (v := (.int .i64 (k : Int))) rfl (by kernel_rfl) (by kernel_rfl) (by kernel_rfl) (fun _ _ _ h => h) (Or.inl ⟨by rfl, fun wx hSw => ?_⟩) (by assumption) ?_
    · obtain ⟨s0, s1⟩ := hSw; go_simp
    change wpAnyH _ _ _ _ _ _ _ (Act.put _ (some 224) (.int .i64 (k : Int))) _
    simp only [Act.put, List.setIfInBounds_toArray, List.set_cons_zero, List.set_cons_succ]
    have hwM : w.heap.size + 1 < wM.heap.size := Kg.heap_lt hb1
    have t6 : Kg.Touch [w.heap.size] wM (wM.drew.setRow w.heap.size (gcs nil3 nil3 nil3 nil3 nil3 0)) := ⟨rfl, rfl, rfl, by simp, fun k _ hk => setRow_other wM.drew _ k _ (fun e => hk (by simp [e]))⟩
    have hS6 : ∀ j, (wM.drew.setRow w.heap.size (gcs nil3 nil3 nil3 nil3 nil3 0)).cell? ⟨w.heap.size + 1, j, none⟩ = wM.cell? ⟨w.heap.size + 1, j, none⟩ := fun j => World.cell?_of_block (w := wM) (t6.block _ hwM (by simp))
    refine wpAnyH_ready (rs := [9]) (by kernel_rfl) (by simp) (AllReadyH.cons rfl (fun K hK => ?_) AllReadyH.nil)
    rw [if_pos (by rfl)]
    refine wp_store_row 28 (.tmp 2) (.tmp 216) rfl w.heap.size (gcs nil3 nil3 nil3 nil3 nil3 0) rfl rfl 28 _ hra (by kernel_rfl) rfl (by simp [Value.oneCell']) ?_
    refine hK.out _ _ ⟨by rw [hS6]; exact c2, by rw [hS6]; exact c3⟩ (fun hHeld6 => ?_)
    clear hK K hHeld
    change wpAnyH _ _ _ _ _ _ _ (Act.put _ none undef) _
    simp only [Act.put]
    refine wpAnyH_take (i := 10) (v := (.int .i64 (pl : Int))) rfl (by kernel_rfl) (by kernel_rfl) (by kernel_rfl) (fun _ _ _ h => h) (Or.inl ⟨by rfl, fun wx hSw => ?_⟩) (by assumption) ?_
    · go_simp
    change wpAnyH _ _ _ _ _ _ _ (Act.put _ (some 3) (.int .i64 (pl : Int))) _
    simp only [Act.put, List.setIfInBounds_toArray, List.set_cons_zero, List.set_cons_succ]
    refine wpAnyH_take (i := 11) (v := (.int .i64 (k : Int))) rfl (by kernel_rfl) (by kernel_rfl) (by kernel_rfl) (fun _ _ _ h => h) (Or.inl ⟨by rfl, fun wx hSw => ?_⟩) (by assumption) ?_
    · go_simp
    change wpAnyH _ _ _ _ _ _ _ (Act.put _ (some 4) (.int .i64 (k : Int))) _
    simp only [Act.put, List.setIfInBounds_toArray, List.set_cons_zero, List.set_cons_succ]
    refine wpAnyH_done (by kernel_rfl) ?_ _
    have hA6 : (wM.drew.setRow w.heap.size (gcs nil3 nil3 nil3 nil3 nil3 0)).heap[w.heap.size]? = some (.cells (gcs nil3 nil3 nil3 nil3 nil3 0) 28 (0, 0)) := setRow_heap _ _ _ _ _ _ hra
    have B6 : Below w.heap.size w (wM.drew.setRow w.heap.size (gcs nil3 nil3 nil3 nil3 nil3 0)) := SM'.out.s.b.trans (t6.below (Nat.le_of_lt (Kg.heap_lt hra)) (fun x hx => by simp at hx; omega))
    clear hS6 t6 hHeld6
    generalize wM.drew.setRow w.heap.size (gcs nil3 nil3 nil3 nil3 nil3 0) = w6 at *
    go_wp2
    exact ⟨rfl, _, tleaf rfl rfl rfl hA6, B6, FIN.out.1 pl k rfl _⟩
  · have h1 : TOk wM w.heap.size (w.heap.size + 1) (.slice av bs.length cv) bs p := HMt.out
    have c2 := (Kg.heap_cell h1.b 2).trans (show _ = some (.int .i64 0) from rfl)
    clear h1
    obtain ⟨z, z1, z2, z3⟩ := FIN.out.2 p rfl
    have HZ : Hid (Im.dec bs = .ok z ∧ MB (Im.wNG z) ∧ rGr nx es ts hs qs rg = Im.wNG z) := ⟨z1, z2, z3⟩
    clear z1 z2 z3 FIN
    have y0 := (Kg.heap_cell SM'.out.s.gb 0).trans (show _ = some (.slice ao es.length co) from rfl)
    have y1 := (Kg.heap_cell SM'.out.s.gb 1).trans (show _ = some (.slice at' lt ct) from rfl)
    have y2 := (Kg.heap_cell SM'.out.s.gb 2).trans (show _ = some (.slice ah hs.length ch) from rfl)
    have y3 := (Kg.heap_cell SM'.out.s.gb 3).trans (show _ = some (.slice ar rg.length cr) from rfl)
    have y4 := (Kg.heap_cell SM'.out.s.gb 4).trans (show _ = some (.slice aq qs.length cq) from rfl)
    have y5 := (Kg.heap_cell SM'.out.s.gb 5).trans (show _ = some (.int .u64 (nx : Int)) from rfl)
    have q0 := (Kg.heap_cell SM'.out.s.ra 0).trans (show _ = some nil3 from rfl)
    have q1 := (Kg.heap_cell SM'.out.s.ra 1).trans (show _ = some nil3 from rfl)
    have q2 := (Kg.heap_cell SM'.out.s.ra 2).trans (show _ = some nil3 from rfl)
    have q3 := (Kg.heap_cell SM'.out.s.ra 3).trans (show _ = some nil3 from rfl)
    have q4 := (Kg.heap_cell SM'.out.s.ra 4).trans (show _ = some nil3 from rfl)
    have q5 := (Kg.heap_cell SM'.out.s.ra 5).trans (show _ = some (.int .u64 0) from rfl)
    have f0 := Kg.heap_frozen SM'.out.s.ra 0
    have f1 := Kg.heap_frozen SM'.out.s.ra 1
    have f2 := Kg.heap_frozen SM'.out.s.ra 2
    have f3 := Kg.heap_frozen SM'.out.s.ra 3
    have f4 := Kg.heap_frozen SM'.out.s.ra 4
    have f5 := Kg.heap_frozen SM'.out.s.ra 5
    go_wp2
    clear c2 y0 y1 y2 y3 y4 y5 q0 q1 q2 q3 q4 q5 f0 f1 f2 f3 f4 f5
    obtain ⟨B9, hA9, ls9, G9, G8⟩ := sf_fin SM'.out rfl hnx
    generalize ((((((wM.setCell ⟨w.heap.size, 0, none⟩ (.slice ao es.length co)).setCell ⟨w.heap.size, 1, none⟩ (.slice at' lt ct)).setCell ⟨w.heap.size, 2, none⟩ (.slice ah hs.length ch)).setCell ⟨w.heap.size, 3, none⟩ (.slice ar rg.length cr)).setCell ⟨w.heap.size, 4, none⟩ (.slice aq qs.length cq)).setCell ⟨w.heap.size, 5, none⟩ (.int .u64 nx)) = w6 at *
    exact ⟨rfl, _, tleaf rfl rfl rfl hA9, B9, rres_ok HZ.out HBY.out G9 rfl⟩

end Go.Proofs.YtblbiikfipcbcaaGreatDoor
