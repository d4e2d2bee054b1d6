import Derived.Test.YtkekaifiahjljaaGreatDoorW15
import Derived.Test.YtkekaifiahjljaaGreatDoorW28
import Derived.Test.YtkekaifiahjljaaGreatDoorW42
import Derived.Test.YtkekaifiahjljaaGreatDoorW43
set_option linter.unusedVariables false
set_option maxHeartbeats 8000000
set_option maxRecDepth 20000
namespace Go.Proofs.YtkekaifiahjljaaGreatDoor
open Go.RowKit Go.Shelf Go.Proofs.YtkekaifiahjljaaGreatDoor.Lt Go.Proofs.YtkekaifiahjljaaGreatDoor.Lp
set_option maxHeartbeats 16000000 in
theorem way17_any (w : World) (hL : Laid w) (vo vs vh vr vq : Value) (os : List OL) (ts : List (Value × List (Value × List Int))) (g : Im.Gr) (hg : Grd w.heap.size w vo vs vh vr vq os ts g) (hz : gsz os ts g ≤ 1048576) (t : Int) (ht : InI t) :
    Calls Tryz.prog 3 #[.agg (gcs vo vs vh vr vq g.next), .int .i64 t] w fun e w' => e = .returned (.bool true) ∧ Below w.heap.size w w' := by
  have HBG : Hid (Big19 os ts g) := big19_of hz hg.eo hg.es
  have HOL : Hid (g.obs.length = os.length) := by show _ = _; rw [hg.eo, List.length_map]
  have HL : Hid (∀ w', Below w.heap.size w w' → Laid w') := fun w' b' => hL.keep b'
  have l1 : Below w.heap.size w (w.alloc (.cells (gcs vo vs vh vr vq g.next) 27)) := Below.alloc (Below.refl _ _) (Nat.le_refl _) _
  have hx := heap_alloc_new w (.cells (gcs vo vs vh vr vq g.next) 27 (0, 0))
  obtain ⟨oa, oc, eo, -⟩ := id hg.ob
  subst eo
  generalize hW : w.alloc (.cells (gcs (.slice oa os.length oc) vs vh vr vq g.next) 27) = W at *
  obtain ⟨A, hA⟩ : ∃ A, A = w.heap.size := ⟨_, rfl⟩
  have HX : Hid (∀ w', Below W.heap.size W w' → Below w.heap.size w w' ∧ A ≤ w'.heap.size ∧ Grd A w' (.slice oa os.length oc) vs vh vr vq os ts g ∧ ∀ j v, (gcs (.slice oa os.length oc) vs vh vr vq g.next)[j]? = some v → w'.cell? ⟨A, j, none⟩ = some v) := fun w' b' => by
    rw [hA]
    have b3 := l1.trans (b'.mono l1.size)
    exact ⟨b3, b3.size, hg.below b3, fun j v h => (Kg.heap_cell ((b'.block _ (Kg.heap_lt hx)).trans hx) j).trans h⟩
  have HG0 : Hid (Grd A w (.slice oa os.length oc) vs vh vr vq os ts g) := by show Grd _ _ _ _ _ _ _ _ _ _; rw [hA]; exact hg
  have q := known17_any W (hL.keep l1)
  clear hg hz hL l1 hx
  go_enter Tryz.func3, Tryz.ntmps3
  go_upto_region 1 with fail
  rw [← hA]
  clear hA hW
  go_wp2_with fail
  refine q.mono ?_
  rintro e w1 ⟨rfl, b1⟩
  have HB1 : Hid (Below W.heap.size W w1) := b1
  clear q b1
  obtain ⟨bw, hn, hg, hc⟩ := HX.out w1 HB1.out
  have y0 := hc 0 _ rfl
  have y1 := hc 1 _ rfl
  have y2 := hc 2 _ rfl
  have y3 := hc 3 _ rfl
  have y4 := hc 4 _ rfl
  have y5 := hc 5 _ rfl
  have q := lPath_any A w1 _ _ _ _ _ os ts g hg hn (HL.out _ bw) HBG.out.big17 t ht
  clear bw hn hg hc
  go_wp2_with fail
  refine q.mono ?_
  rintro e w2 ⟨v2, lp, e2, rfl, o2, c2, p2⟩
  have HP2 : Hid (Pr17 g t lp e2) := p2
  have HB2 : Hid (Below W.heap.size W w2) := HB1.out.trans (c2.mono HB1.out.size)
  obtain ⟨ap, cp, ev2⟩ := own_sl17 o2
  rw [List.length_map] at ev2
  subst ev2
  have HO2' : Hid (Lrd w2.heap.size w2 (.slice ap lp.length cp) .i64 (lp.map Int.ofNat)) := o2.lrd
  clear q o2 c2 p2 y0 y1 y2 y3 y4 y5
  obtain ⟨bw, hn, hg, hc⟩ := HX.out w2 HB2.out
  have y0 := hc 0 _ rfl
  have y1 := hc 1 _ rfl
  have y2 := hc 2 _ rfl
  have y3 := hc 3 _ rfl
  have y4 := hc 4 _ rfl
  have y5 := hc 5 _ rfl
  have q := lDominators_any A w2 _ _ _ _ _ os ts g hg hn (HL.out _ bw) HBG.out
  clear bw hn hg hc
  go_wp2_with fail
  refine q.mono ?_
  rintro e w3 ⟨v3, l3, e3, rfl, o3, c3, p3⟩
  have HP3 : Hid (Pd17 g l3 e3) := p3
  have HB3 : Hid (Below W.heap.size W w3) := HB2.out.trans (c3.mono HB2.out.size)
  have HO2 : Hid (Lrd w3.heap.size w3 (.slice ap lp.length cp) .i64 (lp.map Int.ofNat)) := (HO2'.out.below c3).mono c3.size
  have HO3 : Hid (Lrd w3.heap.size w3 v3 .i64 l3) := o3
  clear q o3 c3 p3 y0 y1 y2 y3 y4 y5 HO2' HB2 HB1
  obtain ⟨bw, hn, hg, hc⟩ := HX.out w3 HB3.out
  have y0 := hc 0 _ rfl
  have y1 := hc 1 _ rfl
  have y2 := hc 2 _ rfl
  have y3 := hc 3 _ rfl
  have y4 := hc 4 _ rfl
  have y5 := hc 5 _ rfl
  have q := refused17_any A w3 _ _ _ _ _ os ts g hg hn HBG.out.l
  clear bw hn hg hc
  rcases HP3.out with ⟨hm, -, rfl⟩ | ⟨hm, rfl, hd⟩
  · have he2 : lp = [] ∧ e2 = 171 := by
      rcases HP2.out with ⟨-, h, h'⟩ | ⟨h, -⟩ | ⟨h, -⟩
      · exact ⟨h, h'⟩
      · exact absurd h hm
      · exact absurd h hm
    obtain ⟨rfl, rfl⟩ := he2
    have HM : Hid (¬ MB g) := hm
    clear hm
    go_wp2_with fail
    refine q.mono ?_
    rintro e w4 ⟨r, rfl, b4, hr⟩
    have hr1 := hr.2 HM.out
    subst hr1
    have HE : Hid (Below w.heap.size w w4) := (HX.out w4 (HB3.out.trans (b4.mono HB3.out.size))).1
    clear q b4 hr y0 y1 y2 y3 y4 y5
    go_wp2
    go_ret
    exact ⟨rfl, HE.out⟩
  · have HM : Hid (MB g) := hm
    have HD : Hid (Dm17 g l3) := hd
    have HM3 : Hid (l3.length = os.length) := by show _ = _; rw [hd.1]; exact HOL.out
    obtain ⟨a3, c3, ev3, -, -⟩ := id HO3.out
    rw [HM3.out] at ev3
    subst ev3
    have HE3 : Hid (Below w.heap.size w w3) := (HX.out w3 HB3.out).1
    have hsT := HOL.out
    clear hd HP3
    by_cases ht1 : t < 1
    · have he2 : lp = [] ∧ e2 = 170 := by
        rcases HP2.out with ⟨h, -⟩ | ⟨-, -, h, h'⟩ | ⟨-, h, -⟩
        · exact absurd hm h
        · exact ⟨h, h'⟩
        · omega
      obtain ⟨rfl, rfl⟩ := he2
      clear hm HP2 q
      go_wp2
      go_ret
      exact ⟨rfl, HE3.out⟩
    · by_cases ht2 : (os.length : Int) < t
      · have he2 : lp = [] ∧ e2 = 170 := by
          rcases HP2.out with ⟨h, -⟩ | ⟨-, -, h, h'⟩ | ⟨-, -, h, -⟩
          · exact absurd hm h
          · exact ⟨h, h'⟩
          · rw [hsT] at h; omega
        obtain ⟨rfl, rfl⟩ := he2
        clear hm HP2 q
        go_wp2
        go_ret
        exact ⟨rfl, HE3.out⟩
      · obtain ⟨tn, rfl⟩ : ∃ n : Nat, t = ((n + 1 : Nat) : Int) := ⟨t.toNat - 1, by omega⟩
        have hpr : e2 = 0 ∧ Row17 (wy17 g) (tn + 1) lp := by
          rcases HP2.out with ⟨h, -⟩ | ⟨-, h, -⟩ | ⟨-, -, -, h, h'⟩
          · exact absurd hm h
          · exact absurd ⟨by omega, by rw [hsT]; omega⟩ h
          · exact ⟨h, by simpa using h'⟩
        obtain ⟨rfl, hrow⟩ := hpr
        have HRow : Hid (Row17 (wy17 g) (tn + 1) lp) := hrow
        have HK : Hid (Ok17 g) := ok_of_mb HM.out
        clear hm HP2 hrow
        go_wp2_with fail
        refine q.mono ?_
        rintro e w4 ⟨r, rfl, b4, hr⟩
        have hr1 : r = false := by
          cases r with
          | false => rfl
          | true => exact absurd HM.out (hr.1 rfl)
        subst hr1
        have HB4 : Hid (Below W.heap.size W w4) := HB3.out.trans (b4.mono HB3.out.size)
        have HO2b : Hid (Lrd w4.heap.size w4 (.slice ap lp.length cp) .i64 (lp.map Int.ofNat)) := (HO2.out.below b4).mono b4.size
        have HO3b : Hid (Lrd w4.heap.size w4 (.slice a3 os.length c3) .i64 l3) := (HO3.out.below b4).mono b4.size
        clear q b4 hr y0 y1 y2 y3 y4 y5 HO2 HO3 HB3 HE3
        have htl : tn < os.length := by omega
        have hoI := HBG.out.o
        have htB : tn ≤ 1048576 := by omega
        have htlI : (tn : Int) < (os.length : Int) := by omega
        have htI : ((tn + 1 : Nat) : Int) - 1 = (tn : Int) := by omega
        obtain ⟨z, hz⟩ : ∃ z, l3[tn]? = some z := ⟨_, List.getElem?_eq_getElem (by have := HM3.out; omega)⟩
        have HCd : Hid (∀ w', Below w4.heap.size w4 w' → ∀ (x : Nat) z, l3[x]? = some z → ∃ qd qo, a3 = some ⟨qd, qo, none⟩ ∧ w'.cell? ⟨qd, qo + x, none⟩ = some (.int .i64 z)) := fun w' b' x z hz => by
          obtain ⟨pa2, pc2, ep2, -, hp2⟩ := (HO3b.out.below b')
          simp only [Value.slice.injEq] at ep2
          obtain ⟨rfl, -, rfl⟩ := ep2
          obtain ⟨qd', qo', e9, -, cd⟩ := hp2 x z hz
          exact ⟨qd', qo', e9, cd⟩
        obtain ⟨qd, qo, rfl, cd⟩ := HCd.out w4 (Below.refl _ _) tn z hz
        have hzd := HD.out.2 tn z hz
        by_cases hlp : lp = []
        · subst hlp
          have hz1 : z = -1 := by
            rcases hzd with ⟨h1, -⟩ | ⟨-, h1⟩
            · rcases HRow.out with ⟨-, h2⟩ | ⟨h2, -⟩
              · exact absurd h1 (row_none h2)
              · exact absurd rfl h2
            · exact h1
          subst hz1
          have HE : Hid (Below w.heap.size w w4) := (HX.out w4 HB4.out).1
          clear hz hzd
          go_wp2
          go_ret
          exact ⟨rfl, HE.out⟩
        · have HGd : Hid (Gd (wy17 g) (tn + 1) 0 lp) := by
            rcases HRow.out with ⟨h2, -⟩ | ⟨-, h2⟩
            · exact absurd h2 hlp
            · exact h2
          have HNl : Hid (lp ≠ []) := hlp
          have hpl : 0 < lp.length := List.length_pos_iff.2 hlp
          have hplI : ¬ (lp.length : Int) = 0 := by omega
          have hplI2 : ((lp.length : Int) == 0) = false := beq_eq_false_iff_ne.2 hplI
          obtain ⟨b0, rfl, hids⟩ : ∃ b : Nat, z = b ∧ Ids (wy17 g) b (tn + 1) := by
            rcases hzd with ⟨-, b, h1, h2⟩ | ⟨h1, -⟩
            · exact ⟨b, h1, h2⟩
            · exact absurd (way_end HGd.out hlp) h1
          have HIds : Hid (Ids (wy17 g) b0 (tn + 1)) := hids
          have HZ : Hid (l3[tn]? = some ((b0 : Nat) : Int)) := hz
          clear hzd hids hz hlp HRow cd
          obtain ⟨bw, hn, hg, hc⟩ := HX.out w4 HB4.out
          have y0 := hc 0 _ rfl
          have y1 := hc 1 _ rfl
          have y2 := hc 2 _ rfl
          have y3 := hc 3 _ rfl
          have y4 := hc 4 _ rfl
          have y5 := hc 5 _ rfl
          have q := holders17_any A w4 _ _ _ _ _ os ts g hg hn HBG.out.s (by have := HBG.out.e; omega)
          clear bw hn hg hc
          go_wp2_with fail
          refine q.mono ?_
          rintro e w5 ⟨vh5, rfl, hi5, b5⟩
          have HB5 : Hid (Below W.heap.size W w5) := HB4.out.trans (b5.mono HB4.out.size)
          have HO2 : Hid (Lrd w5.heap.size w5 (.slice ap lp.length cp) .i64 (lp.map Int.ofNat)) := (HO2b.out.below b5).mono b5.size
          have HO3 : Hid (Lrd w5.heap.size w5 (.slice (some ⟨qd, qo, none⟩) os.length c3) .i64 l3) := (HO3b.out.below b5).mono b5.size
          have hHle : (slotsF g.slots ++ (g.hs ++ g.qu)).length ≤ 3145728 := by have := HBG.out.e; simp only [List.length_append]; omega
          have hrt : ∀ (i y : Nat), lp[i]? = some y → ((y : Int) ∈ slotsF g.slots ++ (g.hs ++ g.qu) ↔ i = 0) := fun i y hy => way_root HGd.out hy
          generalize slotsF g.slots ++ (g.hs ++ g.qu) = Hs at *
          have HRt : Hid (∀ (i y : Nat), lp[i]? = some y → ((y : Int) ∈ Hs ↔ i = 0)) := hrt
          have HHl : Hid (Hs.length ≤ 3145728) := hHle
          clear hrt hHle
          have HH : Hid (Lrd w5.heap.size w5 vh5 .i64 Hs) := hi5.lrd
          obtain ⟨ah, ch, evh⟩ := own_sl17 hi5
          subst evh
          clear q hi5 b5 y0 y1 y2 y3 y4 y5 HO2b HO3b HB4 HCd
          have HCd : Hid (∀ w', Below w5.heap.size w5 w' → ∀ (x : Nat) z, l3[x]? = some z → w'.cell? ⟨qd, qo + x, none⟩ = some (.int .i64 z)) := fun w' b' x z hz => by
            obtain ⟨pa2, pc2, ep2, -, hp2⟩ := (HO3.out.below b')
            simp only [Value.slice.injEq] at ep2
            obtain ⟨rfl, -, rfl⟩ := ep2
            obtain ⟨qd', qo', e9, -, cd⟩ := hp2 x z hz
            cases e9
            exact cd
          obtain ⟨pa2, pc2, ep2, hcp, hp2⟩ := id HO2.out
          simp only [Value.slice.injEq, List.length_map] at ep2
          obtain ⟨rfl, -, rfl⟩ := ep2
          obtain ⟨qp, po, rfl, -, -⟩ := hp2 0 (lp[0]'hpl : Nat) (by rw [List.getElem?_map, List.getElem?_eq_getElem hpl]; rfl)
          have HCp : Hid (∀ w', Below w5.heap.size w5 w' → ∀ (x y : Nat), lp[x]? = some y → w'.cell? ⟨qp, po + x, none⟩ = some (.int .i64 (y : Nat))) := fun w' b' x y hy => by
            obtain ⟨pa2, pc2, ep2, -, hp2⟩ := (HO2.out.below b')
            simp only [Value.slice.injEq] at ep2
            obtain ⟨rfl, -, rfl⟩ := ep2
            obtain ⟨qd', qo', e9, -, cd⟩ := hp2 x (y : Nat) (by rw [List.getElem?_map, hy]; rfl)
            cases e9
            exact cd
          have HIn : Hid (∀ (x y : Nat), lp[x]? = some y → 1 ≤ y ∧ y ≤ os.length) := fun x y hy => by
            have h1 := rv_in HK.out (way_rv HGd.out hy)
            rw [hsT] at h1
            exact h1
          have hlast := gd_last HGd.out HNl.out
          have cd := HCd.out w5 (Below.refl _ _) tn _ HZ.out
          have cp9 := HCp.out w5 (Below.refl _ _) _ _ hlast
          have hplB : lp.length ≤ 1048576 := by
            have h1 := List.Nodup.length_le_of_subset (l₁ := lp) (l₂ := List.range' 1 os.length) (List.pairwise_iff_getElem.2 (fun i j hi hj hij he => by
              have h2 : lp[j]? = some lp[j] := List.getElem?_eq_getElem hj
              have h3 : lp[i]? = some lp[j] := by rw [List.getElem?_eq_getElem hi, he]
              have := gd_inj HGd.out h3 h2
              omega)) (fun y hy => by
              obtain ⟨x, hx⟩ := List.getElem?_of_mem hy
              have := HIn.out x y hx
              exact List.mem_range'_1.2 ⟨this.1, by omega⟩)
            rw [List.length_range'] at h1
            omega
          have hlI : (lp.length : Int) - 1 = ((lp.length - 1 : Nat) : Int) := by omega
          have hlI2 : ((lp.length - 1 : Nat) : Int) < (lp.length : Int) := by omega
          clear hp2 hcp hlast
          go_upto_region 17 with fail
          go_loopw [10, 11] (fun v10 _ wq => ∃ i : Nat, v10 = .int .i64 (i : Nat) ∧ i ≤ lp.length ∧ Hid (Below w5.heap.size w5 wq)) (fun v10 _ _ => lp.length - (intOf v10).toNat)
          case atStart => exact ⟨0, rfl, Nat.zero_le _, Below.refl _ _⟩
          case round =>
            obtain ⟨i, rfl, hi, Hb⟩ := hrel
            clear cd cp9
            by_cases hil : i < lp.length
            · have hiI : (i : Int) < (lp.length : Int) := by omega
              have hiN : (i : Int) ≤ (lp.length : Int) := by omega
              obtain ⟨y, hy⟩ : ∃ y, lp[i]? = some y := ⟨_, List.getElem?_eq_getElem hil⟩
              have HY : Hid (lp[i]? = some y) := hy
              have cpi := HCp.out wr Hb.out i y hy
              obtain ⟨hy1, hy2⟩ := HIn.out i y hy
              obtain ⟨-, -, -, hc⟩ := HX.out wr (HB5.out.trans (Hb.out.mono HB5.out.size))
              have y0 := hc 0 _ rfl
              obtain ⟨pa2, pc2, ep2, hcp, hp2⟩ := id (HO2.out.below Hb.out)
              simp only [Value.slice.injEq] at ep2
              obtain ⟨rfl, -, rfl⟩ := ep2
              have q1 := fun (nn : Nat) => is17_any w5.heap.size (.slice (some ⟨qp, po, none⟩) i cp) ((lp.map Int.ofNat).take i) (wr.drewN nn) (y : Nat) ⟨some ⟨qp, po, none⟩, cp, by rw [List.length_take, List.length_map, Nat.min_eq_left hi], by rw [List.length_take]; rw [List.length_map] at hcp; omega, fun f z hz => by
                rw [List.getElem?_take] at hz
                split at hz
                · exact hp2 f z hz
                · cases hz⟩ (by rw [List.length_take, List.length_map]; omega)
              have q2 := fun (nn : Nat) => is17_any w5.heap.size _ Hs (wr.drewN nn) (y : Nat) ((HH.out.below Hb.out).below ⟨rfl, rfl, rfl, Nat.le_refl _, fun _ _ => rfl⟩) (by have := HHl.out; omega)
              rw [decide_eq_false (way_take HGd.out hy)] at q1
              have hr := HRt.out i y hy
              have hcpi : (cp : Int) ≤ (cp : Int) := Int.le_refl _
              have hpcp : (i : Int) ≤ (cp : Int) := by rw [List.length_map] at hcp; omega
              clear hp2 hc hy
              go_upto_region 19 with fail
              go_cut [142] from 107 to 142 (fun v wq => v = .bool false ∧ ∃ nq, wq = wr.drewN nq)
              case first =>
                have hd1 : decide ((y : Int) < 1) = false := decide_eq_false (by omega)
                have hd2 : decide ((os.length : Int) < (y : Int)) = false := decide_eq_false (by omega)
                have hd4 : decide (os.length < y) = false := decide_eq_false (by omega)
                have hn1 : ¬ ((y : Int) < 1) := by omega
                have hn2 : ¬ (os.length < y) := by omega
                clear hy1 hy2
                by_cases hi0 : i = 0
                · rw [decide_eq_true (hr.2 hi0)] at q2
                  have hd3 : ((i : Int) == 0) = true := beq_iff_eq.2 (by omega)
                  clear hr hi0
                  go_quiet (first | (go_at_call 12; with_reducible exact Calls.quiet_of (q1 _)) | (go_at_call 12; with_reducible exact Calls.quiet_of (q2 _)))
                  go_wp2_with fail
                  go_meet
                  exact ⟨rfl, _, rfl⟩
                · rw [decide_eq_false (fun h => hi0 (hr.1 h))] at q2
                  have hd3 : ((i : Int) == 0) = false := beq_eq_false_iff_ne.2 (by omega)
                  clear hr
                  go_quiet (first | (go_at_call 12; with_reducible exact Calls.quiet_of (q1 _)) | (go_at_call 12; with_reducible exact Calls.quiet_of (q2 _)))
                  go_wp2_with fail
                  go_meet
                  exact ⟨rfl, _, rfl⟩
              case rest =>
                obtain ⟨rfl, nq, rfl⟩ := hcut
                apply_assumption
                have Hb1 : Hid (Below w5.heap.size w5 (wr.drewN nq)) := below_drewN Hb.out nq
                obtain ⟨yy, rfl⟩ : ∃ yy, y = yy + 1 := ⟨y - 1, by omega⟩
                have hyo : yy < os.length := by omega
                clear q1 q2 hr Hb cpi y0
                generalize wr.drewN nq = w7 at *
                go_upto_region 22 with fail
                generalize decide ((i : Int) < (lp.length : Int)) = d104
                go_loopw [11] (fun v11 wq => ∃ k : Nat, v11 = .int .i64 (k : Nat) ∧ i < k ∧ k ≤ lp.length ∧ Hid (Below w5.heap.size w5 wq)) (fun v11 _ => lp.length - (intOf v11).toNat)
                case atStart => exact ⟨i + 1, rfl, by omega, by omega, Hb1⟩
                case round =>
                  obtain ⟨k, rfl, hik, hk, Hb⟩ := hrel
                  clear Hb1
                  by_cases hkl : k < lp.length
                  · have hkI : (k : Int) < (lp.length : Int) := by omega
                    obtain ⟨z, hz⟩ : ∃ z, lp[k]? = some z := ⟨_, List.getElem?_eq_getElem hkl⟩
                    obtain ⟨e, he⟩ : ∃ e, os[yy]? = some e := ⟨_, List.getElem?_eq_getElem hyo⟩
                    obtain ⟨-, -, hg, -⟩ := HX.out wr (HB5.out.trans (Hb.out.mono HB5.out.size))
                    obtain ⟨qb, ob, pa, pc, ra, rc, eoa, ep, er, lq, hobs, -⟩ := hg.obj he
                    have HVV : Hid (∀ w', Below wr.heap.size wr w' → Below w5.heap.size w5 w' ∧ w'.cell? ⟨A, 0, none⟩ = some (.slice (some ⟨qb, ob, none⟩) os.length oc) ∧ w'.cell? ⟨qb, ob + yy * 5, none⟩ = some (.int .u64 (e.o.ser : Int)) ∧ w'.cell? ⟨qb, ob + yy * 5 + 1, none⟩ = some (.int .i64 e.o.kind) ∧ w'.cell? ⟨qb, ob + yy * 5 + 2, none⟩ = some (.int .i64 e.o.site) ∧ w'.cell? ⟨qb, ob + yy * 5 + 3, none⟩ = some (.slice pa e.o.ps.length pc) ∧ w'.cell? ⟨qb, ob + yy * 5 + 4, none⟩ = some (.slice ra e.o.rs.length rc) ∧ w'.cell? ⟨qp, po + i, none⟩ = some (.int .i64 ((yy + 1 : Nat) : Int)) ∧ w'.cell? ⟨qp, po + k, none⟩ = some (.int .i64 (z : Nat))) := fun w' b' => by
                      have b9 := Hb.out.trans (b'.mono Hb.out.size)
                      obtain ⟨-, -, hg, hc⟩ := HX.out w' (HB5.out.trans (b9.mono HB5.out.size))
                      obtain ⟨qb', ob', pa', pc', ra', rc', eoa', ep', er', lp', hobs', d0, d1, d2, d3, d4⟩ := hg.obj he
                      rw [eoa] at eoa'
                      simp only [Option.some.injEq, Addr.mk.injEq, and_true] at eoa'
                      obtain ⟨rfl, rfl⟩ := eoa'
                      rw [ep] at ep'
                      rw [er] at er'
                      simp only [Value.slice.injEq, true_and] at ep' er'
                      obtain ⟨rfl, rfl⟩ := ep'
                      obtain ⟨rfl, rfl⟩ := er'
                      refine ⟨b9, ?_, d0, d1, d2, d3, d4, HCp.out w' b9 i _ HY.out, HCp.out w' b9 k z hz⟩
                      rw [← eoa]
                      exact hc 0 _ rfl
                    have HQ : Hid (∀ w', Below wr.heap.size wr w' → Calls Tryz.prog 13 #[.agg (ocs e.o.ser e.o.kind e.o.site (.slice pa e.o.ps.length pc) (.slice ra e.o.rs.length rc))] w' fun e' w'' => ∃ v, e' = .returned v ∧ Il w'' w'.heap.size v (stg e.o) ∧ Below w'.heap.size w' w'') := fun w' b' => by
                      obtain ⟨-, hn, hg, -⟩ := HX.out wr (HB5.out.trans (Hb.out.mono HB5.out.size))
                      have b9 : Below A wr w' := b'.mono hn
                      have q := strong17_any A w' (Nat.le_trans hn b'.size) e (lq.below b9) (by have := HBG.out.r e (List.mem_of_getElem? he); omega)
                      have ec : e.cells = ocs e.o.ser e.o.kind e.o.site (.slice pa e.o.ps.length pc) (.slice ra e.o.rs.length rc) := by
                        show ocs _ _ _ e.vp e.vr = _
                        rw [ep, er]
                      rw [ec] at q
                      exact q
                    have hst : (stg e.o).length ≤ 4611686018427387904 := by
                      have h8 := List.length_filter_le (fun z => decide (0 < z)) (e.o.ps.drop (fst17 e.o.kind))
                      have := HBG.out.r e (List.mem_of_getElem? he)
                      unfold stg
                      rw [List.length_drop] at h8
                      omega
                    have hwh := way_held HGd.out HY.out hz hik hobs
                    obtain ⟨bk, hbk1, hbk2⟩ : ∃ bk : Bool, ((k : Int) == (i : Int) + 1) = bk ∧ decide ((z : Int) ∈ stg e.o) = bk := by
                      by_cases h : k = i + 1
                      · exact ⟨true, beq_iff_eq.2 (by omega), decide_eq_true (hwh.2 h)⟩
                      · exact ⟨false, beq_eq_false_iff_ne.2 (by omega), decide_eq_false (fun h' => h (hwh.1 h'))⟩
                    have HDk : Hid (decide ((z : Int) ∈ stg e.o) = bk) := hbk2
                    clear hg ep er lq hobs he hwh hbk2 hz
                    subst eoa
                    have key0 : Below wr.heap.size wr wr.drew := below_drewN (Below.refl _ _) 1
                    obtain ⟨kb, s0, t0, t1, t2, t3, t4, u1, u2⟩ := HVV.out _ key0
                    have hqd := HQ.out _ key0
                    have hwr1 : IntKind.i64.wrap (yy : Int) = (yy : Int) := by rw [IntKind.wrap_i64]; omega
                    have hwr2 : IntKind.i64.wrap ((i : Int) + 1) = (i : Int) + 1 := by rw [IntKind.wrap_i64]; omega
                    have hyoI : (yy : Int) < (os.length : Int) := by omega
                    go_upto_region 24 with fail
                    try generalize decide ((k : Int) < (lp.length : Int)) = d148
                    try generalize decide (k < lp.length) = d148
                    go_cut [170] from 151 to 170 (fun v wq => v = .bool false ∧ Hid (Below w5.heap.size w5 wq))
                    case first =>
                      refine wp_region_held_drew (S := fun w' => w'.cell? ⟨A, 0, none⟩ = some (.slice (some ⟨qb, ob, none⟩) os.length oc) ∧ w'.cell? ⟨qb, ob + yy * 5, none⟩ = some (.int .u64 (e.o.ser : Int)) ∧ w'.cell? ⟨qb, ob + yy * 5 + 1, none⟩ = some (.int .i64 e.o.kind) ∧ w'.cell? ⟨qb, ob + yy * 5 + 2, none⟩ = some (.int .i64 e.o.site) ∧ w'.cell? ⟨qb, ob + yy * 5 + 3, none⟩ = some (.slice pa e.o.ps.length pc) ∧ w'.cell? ⟨qb, ob + yy * 5 + 4, none⟩ = some (.slice ra e.o.rs.length rc) ∧ w'.cell? ⟨qp, po + i, none⟩ = some (.int .i64 ((yy + 1 : Nat) : Int)) ∧ w'.cell? ⟨qp, po + k, none⟩ = some (.int .i64 (z : Nat))) Kg.mixed ⟨s0, t0, t1, t2, t3, t4, u1, u2⟩ (fun hHeld => ?_)
                      clear s0 t0 t1 t2 t3 t4 u1 u2
                      refine wpAnyH_take (i := 0) (v := (.pointer (some ⟨A, 0, none⟩))) rfl (by kernel_rfl) (by kernel_rfl) (by kernel_rfl) (fun _ _ _ h => h) (Or.inl ⟨by rfl, fun wx hSw => ?_⟩) (by assumption) ?_
                      · obtain ⟨s0, t0, t1, t2, t3, t4, u1, u2⟩ := hSw
                        go_simp
                      change wpAnyH _ _ _ _ _ _ _ (Act.put _ (some 151) (.pointer (some ⟨A, 0, none⟩))) _
                      simp only [Act.put, List.setIfInBounds_toArray, List.set_cons_zero, List.set_cons_succ]
                      refine wpAnyH_take (i := 1) (v := (.slice (some ⟨qb, ob, none⟩) os.length oc)) rfl (by kernel_rfl) (by kernel_rfl) (by kernel_rfl) (fun _ _ _ h => h) (Or.inl ⟨by rfl, fun wx hSw => ?_⟩) (by assumption) ?_
                      · obtain ⟨s0, t0, t1, t2, t3, t4, u1, u2⟩ := hSw
                        go_simp
                      change wpAnyH _ _ _ _ _ _ _ (Act.put _ (some 152) (.slice (some ⟨qb, ob, none⟩) os.length oc)) _
                      simp only [Act.put, List.setIfInBounds_toArray, List.set_cons_zero, List.set_cons_succ]
                      refine wpAnyH_take (i := 2) (v := (.slice (some ⟨qp, po, none⟩) lp.length cp)) rfl (by kernel_rfl) (by kernel_rfl) (by kernel_rfl) (fun _ _ _ h => h) (Or.inl ⟨by rfl, fun wx hSw => ?_⟩) (by assumption) ?_
                      · obtain ⟨s0, t0, t1, t2, t3, t4, u1, u2⟩ := hSw
                        go_simp
                      change wpAnyH _ _ _ _ _ _ _ (Act.put _ (some 153) (.slice (some ⟨qp, po, none⟩) lp.length cp)) _
                      simp only [Act.put, List.setIfInBounds_toArray, List.set_cons_zero, List.set_cons_succ]
                      refine wpAnyH_take (i := 3) (v := (.int .i64 (i : Nat))) rfl (by kernel_rfl) (by kernel_rfl) (by kernel_rfl) (fun _ _ _ h => h) (Or.inl ⟨by rfl, fun wx hSw => ?_⟩) (by assumption) ?_
                      · obtain ⟨s0, t0, t1, t2, t3, t4, u1, u2⟩ := hSw
                        go_simp
                      change wpAnyH _ _ _ _ _ _ _ (Act.put _ (some 154) (.int .i64 (i : Nat))) _
                      simp only [Act.put, List.setIfInBounds_toArray, List.set_cons_zero, List.set_cons_succ]
                      refine wpAnyH_take (i := 4) (v := (.pointer (some ⟨qp, po + i, none⟩))) rfl (by kernel_rfl) (by kernel_rfl) (by kernel_rfl) (fun _ _ _ h => h) (Or.inl ⟨by rfl, fun wx hSw => ?_⟩) (by assumption) ?_
                      · obtain ⟨s0, t0, t1, t2, t3, t4, u1, u2⟩ := hSw
                        go_simp
                      change wpAnyH _ _ _ _ _ _ _ (Act.put _ (some 155) (.pointer (some ⟨qp, po + i, none⟩))) _
                      simp only [Act.put, List.setIfInBounds_toArray, List.set_cons_zero, List.set_cons_succ]
                      refine wpAnyH_take (i := 5) (v := (.int .i64 ((yy + 1 : Nat) : Int))) rfl (by kernel_rfl) (by kernel_rfl) (by kernel_rfl) (fun _ _ _ h => h) (Or.inl ⟨by rfl, fun wx hSw => ?_⟩) (by assumption) ?_
                      · obtain ⟨s0, t0, t1, t2, t3, t4, u1, u2⟩ := hSw
                        go_simp
                      change wpAnyH _ _ _ _ _ _ _ (Act.put _ (some 156) (.int .i64 ((yy + 1 : Nat) : Int))) _
                      simp only [Act.put, List.setIfInBounds_toArray, List.set_cons_zero, List.set_cons_succ]
                      refine wpAnyH_take (i := 6) (v := (.int .i64 (yy : Nat))) rfl (by kernel_rfl) (by kernel_rfl) (by kernel_rfl) (fun _ _ _ h => h) (Or.inl ⟨by rfl, fun wx hSw => ?_⟩) (by assumption) ?_
                      · obtain ⟨s0, t0, t1, t2, t3, t4, u1, u2⟩ := hSw
                        go_simp
                      change wpAnyH _ _ _ _ _ _ _ (Act.put _ (some 157) (.int .i64 (yy : Nat))) _
                      simp only [Act.put, List.setIfInBounds_toArray, List.set_cons_zero, List.set_cons_succ]
                      refine wpAnyH_take (i := 7) (v := (.pointer (some ⟨qb, ob + yy * 5, none⟩))) rfl (by kernel_rfl) (by kernel_rfl) (by kernel_rfl) (fun _ _ _ h => h) (Or.inl ⟨by rfl, fun wx hSw => ?_⟩) (by assumption) ?_
                      · obtain ⟨s0, t0, t1, t2, t3, t4, u1, u2⟩ := hSw
                        go_simp
                      change wpAnyH _ _ _ _ _ _ _ (Act.put _ (some 158) (.pointer (some ⟨qb, ob + yy * 5, none⟩))) _
                      simp only [Act.put, List.setIfInBounds_toArray, List.set_cons_zero, List.set_cons_succ]
                      refine wpAnyH_take (i := 8) (v := (.agg (ocs e.o.ser e.o.kind e.o.site (.slice pa e.o.ps.length pc) (.slice ra e.o.rs.length rc)))) rfl (by kernel_rfl) (by kernel_rfl) (by kernel_rfl) (fun _ _ _ h => h) (Or.inl ⟨by rfl, fun wx hSw => ?_⟩) (by assumption) ?_
                      · obtain ⟨s0, t0, t1, t2, t3, t4, u1, u2⟩ := hSw
                        go_simp
                      change wpAnyH _ _ _ _ _ _ _ (Act.put _ (some 159) (.agg (ocs e.o.ser e.o.kind e.o.site (.slice pa e.o.ps.length pc) (.slice ra e.o.rs.length rc)))) _
                      simp only [Act.put, List.setIfInBounds_toArray, List.set_cons_zero, List.set_cons_succ]
                      refine wpAnyH_take (i := 10) (v := (.slice (some ⟨qp, po, none⟩) lp.length cp)) rfl (by kernel_rfl) (by kernel_rfl) (by kernel_rfl) (fun _ _ _ h => h) (Or.inl ⟨by rfl, fun wx hSw => ?_⟩) (by assumption) ?_
                      · obtain ⟨s0, t0, t1, t2, t3, t4, u1, u2⟩ := hSw
                        go_simp
                      change wpAnyH _ _ _ _ _ _ _ (Act.put _ (some 161) (.slice (some ⟨qp, po, none⟩) lp.length cp)) _
                      simp only [Act.put, List.setIfInBounds_toArray, List.set_cons_zero, List.set_cons_succ]
                      refine wpAnyH_take (i := 11) (v := (.int .i64 (k : Nat))) rfl (by kernel_rfl) (by kernel_rfl) (by kernel_rfl) (fun _ _ _ h => h) (Or.inl ⟨by rfl, fun wx hSw => ?_⟩) (by assumption) ?_
                      · obtain ⟨s0, t0, t1, t2, t3, t4, u1, u2⟩ := hSw
                        go_simp
                      change wpAnyH _ _ _ _ _ _ _ (Act.put _ (some 162) (.int .i64 (k : Nat))) _
                      simp only [Act.put, List.setIfInBounds_toArray, List.set_cons_zero, List.set_cons_succ]
                      refine wpAnyH_take (i := 12) (v := (.pointer (some ⟨qp, po + k, none⟩))) rfl (by kernel_rfl) (by kernel_rfl) (by kernel_rfl) (fun _ _ _ h => h) (Or.inl ⟨by rfl, fun wx hSw => ?_⟩) (by assumption) ?_
                      · obtain ⟨s0, t0, t1, t2, t3, t4, u1, u2⟩ := hSw
                        go_simp
                      change wpAnyH _ _ _ _ _ _ _ (Act.put _ (some 163) (.pointer (some ⟨qp, po + k, none⟩))) _
                      simp only [Act.put, List.setIfInBounds_toArray, List.set_cons_zero, List.set_cons_succ]
                      refine wpAnyH_take (i := 13) (v := (.int .i64 (z : Nat))) rfl (by kernel_rfl) (by kernel_rfl) (by kernel_rfl) (fun _ _ _ h => h) (Or.inl ⟨by rfl, fun wx hSw => ?_⟩) (by assumption) ?_
                      · obtain ⟨s0, t0, t1, t2, t3, t4, u1, u2⟩ := hSw
                        go_simp
                      change wpAnyH _ _ _ _ _ _ _ (Act.put _ (some 164) (.int .i64 (z : Nat))) _
                      simp only [Act.put, List.setIfInBounds_toArray, List.set_cons_zero, List.set_cons_succ]
                      refine wpAnyH_take (i := 15) (v := (.int .i64 (k : Nat))) rfl (by kernel_rfl) (by kernel_rfl) (by kernel_rfl) (fun _ _ _ h => h) (Or.inl ⟨by rfl, fun wx hSw => ?_⟩) (by assumption) ?_
                      · obtain ⟨s0, t0, t1, t2, t3, t4, u1, u2⟩ := hSw
                        go_simp
                      change wpAnyH _ _ _ _ _ _ _ (Act.put _ (some 166) (.int .i64 (k : Nat))) _
                      simp only [Act.put, List.setIfInBounds_toArray, List.set_cons_zero, List.set_cons_succ]
                      refine wpAnyH_take (i := 16) (v := (.int .i64 (i : Nat))) rfl (by kernel_rfl) (by kernel_rfl) (by kernel_rfl) (fun _ _ _ h => h) (Or.inl ⟨by rfl, fun wx hSw => ?_⟩) (by assumption) ?_
                      · obtain ⟨s0, t0, t1, t2, t3, t4, u1, u2⟩ := hSw
                        go_simp
                      change wpAnyH _ _ _ _ _ _ _ (Act.put _ (some 167) (.int .i64 (i : Nat))) _
                      simp only [Act.put, List.setIfInBounds_toArray, List.set_cons_zero, List.set_cons_succ]
                      refine wpAnyH_take (i := 17) (v := (.int .i64 ((i : Int) + 1))) rfl (by kernel_rfl) (by kernel_rfl) (by kernel_rfl) (fun _ _ _ h => h) (Or.inl ⟨by rfl, fun wx hSw => ?_⟩) (by assumption) ?_
                      · obtain ⟨s0, t0, t1, t2, t3, t4, u1, u2⟩ := hSw
                        go_simp
                      change wpAnyH _ _ _ _ _ _ _ (Act.put _ (some 168) (.int .i64 ((i : Int) + 1))) _
                      simp only [Act.put, List.setIfInBounds_toArray, List.set_cons_zero, List.set_cons_succ]
                      refine wpAnyH_take (i := 18) (v := (.bool bk)) rfl (by kernel_rfl) (by kernel_rfl) (by kernel_rfl) (fun _ _ _ h => h) (Or.inl ⟨by rfl, fun wx hSw => ?_⟩) (by assumption) ?_
                      · obtain ⟨s0, t0, t1, t2, t3, t4, u1, u2⟩ := hSw
                        go_simp
                      change wpAnyH _ _ _ _ _ _ _ (Act.put _ (some 169) (.bool bk)) _
                      simp only [Act.put, List.setIfInBounds_toArray, List.set_cons_zero, List.set_cons_succ]
                      refine wpAnyH_ready (rs := [9]) (by kernel_rfl) (by simp) (AllReadyH.cons rfl (fun K hK => ?_) AllReadyH.nil)
                      go_simp
                      refine hqd.mono ?_
                      rintro e9 w8 ⟨v8, rfl, i8, b8⟩
                      have key8 := key0.trans (b8.mono key0.size)
                      obtain ⟨kb8, s0, t0, t1, t2, t3, t4, u1, u2⟩ := HVV.out _ key8
                      have q9 := is17_any w8.heap.size v8 (stg e.o) w8 (z : Nat) i8.lrd hst
                      rw [HDk.out] at q9
                      obtain ⟨a8, c8, rfl⟩ := own_sl17 i8
                      refine hK.out _ _ ⟨s0, t0, t1, t2, t3, t4, u1, u2⟩ (fun hHeld2 => ?_)
                      clear hK K s0 t0 t1 t2 t3 t4 u1 u2 hHeld
                      refine wpAnyH_ready (rs := [14]) (by kernel_rfl) (by simp) (AllReadyH.cons rfl (fun K hK => ?_) AllReadyH.nil)
                      go_simp
                      refine q9.mono ?_
                      rintro e10 w9 ⟨rfl, nq9, rfl⟩
                      have key9 := below_drewN key8 nq9
                      obtain ⟨kb9, s0, t0, t1, t2, t3, t4, u1, u2⟩ := HVV.out _ key9
                      refine hK.out _ _ ⟨s0, t0, t1, t2, t3, t4, u1, u2⟩ (fun hHeld3 => ?_)
                      clear hK K s0 t0 t1 t2 t3 t4 u1 u2 hHeld2
                      refine wpAnyH_take (i := 19) (v := (.bool false)) rfl (by kernel_rfl) (by kernel_rfl) (by kernel_rfl) (fun _ _ _ h => h) (Or.inl ⟨by rfl, fun wx hSw => ?_⟩) (by assumption) ?_
                      · obtain ⟨s0, t0, t1, t2, t3, t4, u1, u2⟩ := hSw
                        go_simp
                      change wpAnyH _ _ _ _ _ _ _ (Act.put _ (some 170) (.bool false)) _
                      simp only [Act.put, List.setIfInBounds_toArray, List.set_cons_zero, List.set_cons_succ]
                      refine wpAnyH_done (by kernel_rfl) ?_ _
                      have N1 : Hid (Below w5.heap.size w5 (w8.drewN nq9)) := kb9
                      clear hHeld3
                      go_wp2_with fail
                      go_meet
                      exact ⟨rfl, N1⟩
                    case rest =>
                      obtain ⟨rfl, N1⟩ := hcut
                      apply_assumption
                      clear HVV HQ kb s0 t0 t1 t2 t3 t4 u1 u2 hqd hwr1 hwr2 Hb
                      go_wp2
                      go_roundw
                      case rel => exact ⟨k + 1, by go_num, by omega, by omega, N1⟩
                      case measure => simp [intOf]; omega
                  · have hkI : ¬ (k : Int) < (lp.length : Int) := by omega
                    go_wp2
                    go_roundw
                    case rel => exact ⟨i + 1, by go_num, by omega, Hb⟩
                    case measure => simp [intOf]; omega
            · have hiI : ¬ (i : Int) < (lp.length : Int) := by omega
              have cd := HCd.out wr Hb.out tn _ HZ.out
              have HC0 : Hid (Cn (wy17 g) os.length (tn + 1) b0 [tn + 1]) := (Cn.start ⟨by omega, by omega⟩).step (by omega) HIds.out (fun x hx => by have := rv_in HK.out hx; rw [hsT] at this; exact this)
              go_upto_region 28 with fail
              clear cd
              go_loopw [12, 13] (fun v12 v13 wq => ∃ (b : Nat) (ps : List Nat) (k : Nat), v12 = .int .i64 (b : Nat) ∧ v13 = .int .i64 (k : Nat) ∧ ps.length = k + 1 ∧ Hid (Cn (wy17 g) os.length (tn + 1) b ps) ∧ Hid (Below w5.heap.size w5 wq)) (fun _ v13 _ => os.length - (intOf v13).toNat)
              case atStart => exact ⟨b0, [tn + 1], 0, rfl, rfl, rfl, HC0, Hb⟩
              case round =>
                clear Hb HC0
                obtain ⟨b, ps, k, rfl, rfl, hpk, C1, Hb⟩ := hrel
                by_cases hb0 : b = 0
                · subst hb0
                  have HE : Hid (Below w.heap.size w wr) := (HX.out wr (HB5.out.trans (Hb.out.mono HB5.out.size))).1
                  go_wp2
                  go_ret
                  exact ⟨rfl, HE.out⟩
                · have hbp : (0 : Int) < (b : Int) := by omega
                  obtain ⟨⟨hb1, hb2⟩, hdb⟩ := C1.out.at_.resolve_left hb0
                  have hrb := dmb_rv hdb (way_end HGd.out HNl.out)
                  have hlen := C1.out.len
                  have q := is17_any w5.heap.size _ (lp.map Int.ofNat) wr (b : Nat) (HO2.out.below Hb.out) (by rw [List.length_map]; omega)
                  rw [decide_eq_true (way_up HGd.out HNl.out C1.out hb0)] at q
                  go_wp2_with fail
                  refine q.mono ?_
                  rintro e w7 ⟨rfl, nq, rfl⟩
                  have Hb1 : Hid (Below w5.heap.size w5 (wr.drewN nq)) := below_drewN Hb.out nq
                  generalize wr.drewN nq = w7 at *
                  obtain ⟨b', rfl⟩ : ∃ b', b = b' + 1 := ⟨b - 1, by omega⟩
                  obtain ⟨z', hz'⟩ : ∃ z, l3[b']? = some z := ⟨_, List.getElem?_eq_getElem (by have := HM3.out; omega)⟩
                  obtain ⟨c, rfl, hids⟩ : ∃ c : Nat, z' = c ∧ Ids (wy17 g) c (b' + 1) := by
                    rcases HD.out.2 b' z' hz' with ⟨-, c, h1, h2⟩ | ⟨h1, -⟩
                    · exact ⟨c, h1, h2⟩
                    · exact absurd hrb h1
                  have cd := HCd.out w7 Hb1.out b' _ hz'
                  have HCn : Hid (Cn (wy17 g) os.length (tn + 1) c (ps ++ [b' + 1])) := C1.out.step (by omega) hids (fun x hx => by have := rv_in HK.out hx; rw [hsT] at this; exact this)
                  have hlen2 := HCn.out.len
                  rw [List.length_append, List.length_singleton] at hlen2
                  have HL2 : Hid ((ps ++ [b' + 1]).length = (k + 1) + 1) := by show _ = _; rw [List.length_append, List.length_singleton, hpk]
                  have hbI : ((b' + 1 : Nat) : Int) - 1 = (b' : Int) := by omega
                  have hboI : (b' : Int) < (os.length : Int) := by omega
                  have h1I : ¬ ((k : Int) > (os.length : Int)) := by omega
                  have h3I : ¬ (((b' + 1 : Nat) : Int) > (os.length : Int)) := by omega
                  clear q hids hz' hdb hrb C1 Hb
                  go_wp2
                  go_roundw
                  case rel => exact ⟨c, _, k + 1, rfl, by go_num, HL2.out, HCn, Hb1⟩
                  case measure => simp [intOf]; omega
end Go.Proofs.YtkekaifiahjljaaGreatDoor
