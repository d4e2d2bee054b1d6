/-
  Dominators by the document, of a graph that may be.
-/
import Derived.Test.YtckgcpoheodbcaaDoorPDr
set_option linter.unusedVariables false
set_option maxRecDepth 20000
namespace Go.Proofs.YtckgcpoheodbcaaDoor
open Go.RowKit Go.Shelf Go.Proofs.YtckgcpoheodbcaaDoor.Lt

set_option maxHeartbeats 16000000 in
theorem r17Dominators_yes (n0 : Nat) (w : World) (vo vs vh vr vq : Value) (os : List OL) (ts : List (Value × List (Value × List Int))) (g : Im.Gr) (hg : Grd n0 w vo vs vh vr vq os ts g) (hn : n0 ≤ w.heap.size) (hl : Gln os ts g) (hm : MB g) (hol : os.length ≤ 2000000) (hs : Sln ts)
    (hel : (slotsF g.slots).length + g.hs.length + g.qu.length + g.rg.length ≤ 1000000000) (hT : ((List.range' 1 os.length).map (fun x => (wy17 g x).length)).sum ≤ 1000000000) :
    Calls Tryd.prog 6 #[.agg (gcs vo vs vh vr vq g.next)] w fun e w' => ∃ (v : Value), e = .returned (.tuple #[v, .int .i64 0]) ∧ Below w.heap.size w w' ∧ ∃ l : List Int, Il w' w.heap.size v l ∧ Dm17 g l := by
  have hol2 : g.obs.length = os.length := by rw [hg.eo, List.length_map]
  have l1 : Below w.heap.size w (w.alloc (.cells (gcs vo vs vh vr vq g.next) 27)) := Below.alloc (Below.refl _ _) (Nat.le_refl _) _
  have hx := heap_alloc_new w (.cells (gcs vo vs vh vr vq g.next) 27 (0, 0))
  obtain ⟨oa, oc, eo, -⟩ := id hg.ob
  subst eo
  generalize hW : w.alloc (.cells (gcs (.slice oa os.length oc) vs vh vr vq g.next) 27) = W at *
  have y0 : W.cell? ⟨w.heap.size, 0, none⟩ = some (.slice oa os.length oc) := Kg.heap_cell hx 0
  have y1 : W.cell? ⟨w.heap.size, 1, none⟩ = some vs := Kg.heap_cell hx 1
  have y2 : W.cell? ⟨w.heap.size, 2, none⟩ = some vh := Kg.heap_cell hx 2
  have y3 : W.cell? ⟨w.heap.size, 3, none⟩ = some vr := Kg.heap_cell hx 3
  have y4 : W.cell? ⟨w.heap.size, 4, none⟩ = some vq := Kg.heap_cell hx 4
  have y5 : W.cell? ⟨w.heap.size, 5, none⟩ = some (.int .u64 (g.next : Int)) := Kg.heap_cell hx 5
  have q := rCheck_any n0 W _ vs vh vr vq os ts g (hg.below (l1.mono hn)) (Nat.le_trans hn l1.size) hl
  have HL1 : Hid (Below w.heap.size w W) := l1
  have HM : Hid (MB g) := hm
  have HOL : Hid (g.obs.length = os.length) := hol2
  have HXB : Hid (∀ w', Below W.heap.size W w' → w'.heap[w.heap.size]? = some (.cells (gcs (.slice oa os.length oc) vs vh vr vq g.next) 27 (0, 0)) ∧ Below w.heap.size w w' ∧ Grd n0 w' (.slice oa os.length oc) vs vh vr vq os ts g) := fun w' b' => ⟨(b'.block _ (Kg.heap_lt hx)).trans hx, l1.trans (b'.mono l1.size), hg.below ((l1.trans (b'.mono l1.size)).mono hn)⟩
  have HWY : Hid (∀ (d : Nat) w', Below W.heap.size W w' → Calls Tryd.prog 18 #[.agg (gcs (.slice oa os.length oc) vs vh vr vq g.next), .int .i64 (d : Nat)] w' fun e w2 => ∃ (bb : Nat), e = .returned (.slice (some ⟨bb, 0, none⟩) (os.length + 1) (os.length + 1)) ∧ w'.heap.size ≤ bb ∧ Below w'.heap.size w' w2 ∧ Fb w2 bb (os.length + 1) (rvb (wy17 g) d)) := fun d w' b' => by
    have gr := (HXB.out w' b').2.2
    refine (ways17_any d n0 w' _ vs vh vr vq os ts g gr (Nat.le_trans (Nat.le_trans hn l1.size) b'.size) hm hs hol hel hT).mono ?_
    rintro e w2 ⟨bb, rfl, h1, h2, ins, h3, h4⟩
    exact ⟨bb, rfl, h1, h2, by rw [← rvb_eq h4]; exact h3⟩
  clear hg hl hx l1 hm hol2 hT hs hel
  go_enter Tryd.func6, Tryd.ntmps6
  go_wp2_with fail
  refine q.mono ?_
  rintro e w1 ⟨r, rfl, b1, hr⟩
  have HB1 : Hid (Below W.heap.size W w1) := b1
  obtain rfl : r = 0 := by
    rcases hr with ⟨h, -⟩ | ⟨-, h⟩
    · exact h
    · exact absurd HM.out h
  clear q b1 hr y0 y1 y2 y3 y4 y5
  have hgb := (HXB.out w1 HB1.out).1
  have y0 : w1.cell? ⟨w.heap.size, 0, none⟩ = some (.slice oa os.length oc) := Kg.heap_cell hgb 0
  have y1 : w1.cell? ⟨w.heap.size, 1, none⟩ = some vs := Kg.heap_cell hgb 1
  have y2 : w1.cell? ⟨w.heap.size, 2, none⟩ = some vh := Kg.heap_cell hgb 2
  have y3 : w1.cell? ⟨w.heap.size, 3, none⟩ = some vr := Kg.heap_cell hgb 3
  have y4 : w1.cell? ⟨w.heap.size, 4, none⟩ = some vq := Kg.heap_cell hgb 4
  have y5 : w1.cell? ⟨w.heap.size, 5, none⟩ = some (.int .u64 (g.next : Int)) := Kg.heap_cell hgb 5
  have q := HWY.out 0 w1 HB1.out
  obtain ⟨m, hmm⟩ : ∃ m, m = os.length + 1 := ⟨_, rfl⟩
  have hmI : (os.length : Int) + 1 = (m : Int) := by omega
  have Hmm : Hid (m = os.length + 1) := hmm
  rw [← hmm] at HWY q
  have hmk := make_bools17 m (by omega)
  have hmi := make_ints17 m (by omega)
  have hmb := make_bools m (by omega)
  rw [show ((0 : Nat) : Int) = 0 from rfl] at q
  clear hmm hgb
  go_wp2_with fail
  refine q.mono ?_
  rintro e w2 ⟨bb, rfl, hbb, b2, f2⟩
  have HB2 : Hid (Below W.heap.size W w2) := HB1.out.trans (b2.mono HB1.out.size)
  have HBb : Hid (W.heap.size ≤ bb) := Nat.le_trans HB1.out.size hbb
  have HF2 : Hid (Fb w2 bb m (rvb (wy17 g) 0)) := f2
  clear q hbb b2 f2 y0 y1 y2 y3 y4 y5 HB1
  have HD3 : Hid (Dq (wy17 g) m W.heap.size ((w2.alloc (.cells (madeCells #[.slice none 0 0] m) 57)).alloc (.cells (madeCells #[.int .i64 0] m) 3)) bb w2.heap.size (w2.heap.size + 1) 1 (fun _ => 0)) := by
    have hs2 : (w2.alloc (.cells (madeCells #[.slice none 0 0] m) 57)).heap.size = w2.heap.size + 1 := by simp
    have ho := Ovs.new w2 m (fun _ => 0) (ovW (wy17 g))
    have hc := Fw.new (w2.alloc (.cells (madeCells #[.slice none 0 0] m) 57)) m
    rw [hs2] at hc
    have hlt := HF2.out.lt
    have hbs := HBb.out
    have hws := HB2.out.size
    refine ⟨(HF2.out.touch (Kg.Touch.alloc [] _ _) (by simp)).touch (Kg.Touch.alloc [] _ _) (by simp), ho.touch (Kg.Touch.alloc [] _ _) (by simp) (fun _ _ _ => by simp), hc.congrF (fun x _ => mny_one _ _), ⟨by omega, by omega, by omega⟩, fun i i1 i2 => by omega, hbs, hws, by omega⟩
  have HB3 : Hid (Below W.heap.size W ((w2.alloc (.cells (madeCells #[.slice none 0 0] m) 57)).alloc (.cells (madeCells #[.int .i64 0] m) 3))) := by
    have hs2 : (w2.alloc (.cells (madeCells #[.slice none 0 0] m) 57)).heap.size = w2.heap.size + 1 := by simp
    exact HB2.out.trans (((Below.alloc (Below.refl w2.heap.size w2) (Nat.le_refl _) _).trans ((Below.alloc (Below.refl _ _) (Nat.le_refl _) _).mono (by rw [hs2]; omega))).mono HB2.out.size)
  go_upto_region 8 with fail
  change Code.wp _ _ _ _ ((w2.alloc (.cells (madeCells #[.slice none 0 0] m) 57)).alloc (.cells (madeCells #[.int .i64 0] m) 3))
  obtain ⟨ob, hob⟩ : ∃ ob, ob = w2.heap.size := ⟨_, rfl⟩
  obtain ⟨mb, hmb2⟩ : ∃ mb, mb = w2.heap.size + 1 := ⟨_, rfl⟩
  rw [← hmb2, ← hob] at HD3 ⊢
  clear hmk hmi hob hmb2 HF2 HB2 HBb
  generalize (w2.alloc (.cells (madeCells #[.slice none 0 0] m) 57)).alloc (.cells (madeCells #[.int .i64 0] m) 3) = w3 at *
  go_wp2
  go_loopw [9, 10, 11] (fun v9 _ _ wr => ∃ (k : Nat) (rb : Nat → Nat), v9 = .int .i64 (k : Nat) ∧ 1 ≤ k ∧ k ≤ m ∧ Hid (Dq (wy17 g) m W.heap.size wr bb ob mb k rb) ∧ Hid (Below W.heap.size W wr)) (fun v9 _ _ _ => m - (intOf v9).toNat)
  case atStart => exact ⟨1, _, rfl, Nat.le_refl _, by omega, HD3, HB3⟩
  case round =>
    obtain ⟨k, rb, rfl, hk1, hkm, R1, R2⟩ := hrel
    clear HD3 HB3
    by_cases hkn : k ≤ os.length
    · have hki : (k : Int) ≤ (os.length : Int) := by omega
      have hkl : k < m := by have := Hmm.out; omega
      have hkI : (k : Int) < (m : Int) := by omega
      have hgb := (HXB.out wr R2.out).1
      have y0 : wr.cell? ⟨w.heap.size, 0, none⟩ = some (.slice oa os.length oc) := Kg.heap_cell hgb 0
      have y1 : wr.cell? ⟨w.heap.size, 1, none⟩ = some vs := Kg.heap_cell hgb 1
      have y2 : wr.cell? ⟨w.heap.size, 2, none⟩ = some vh := Kg.heap_cell hgb 2
      have y3 : wr.cell? ⟨w.heap.size, 3, none⟩ = some vr := Kg.heap_cell hgb 3
      have y4 : wr.cell? ⟨w.heap.size, 4, none⟩ = some vq := Kg.heap_cell hgb 4
      have y5 : wr.cell? ⟨w.heap.size, 5, none⟩ = some (.int .u64 (g.next : Int)) := Kg.heap_cell hgb 5
      have q := HWY.out k wr R2.out
      clear hgb
      go_wp2_with fail
      refine q.mono ?_
      rintro e w4 ⟨lb, rfl, hlb, b4, f4⟩
      have HB4 : Hid (Below W.heap.size W w4) := R2.out.trans (b4.mono R2.out.size)
      have H1 : Hid (Dr (wy17 g) m W.heap.size ((w4.alloc (.cells (madeCells #[.bool false] m) 4)).setCell ⟨ob, k, none⟩ (.slice (some ⟨w4.heap.size, 0, none⟩) m m)) bb ob mb k rb w4.heap.size lb 1) := Dr.start R1.out hk1 hkl f4 b4 hlb R2.out.size
      have t5 : Kg.Touch [] wr (w4.alloc (.cells (madeCells #[.bool false] m) 4)) := (Kg.Touch.of_below b4 []).trans (Kg.Touch.alloc _ _ _)
      have hO5 := R1.out.o.touch t5 (by simp) (fun _ _ _ => by simp)
      have co := hO5.cell hkl
      rw [if_neg (by omega)] at co
      have zo := hO5.frozen k
      have HB5 : Hid (Below W.heap.size W ((w4.alloc (.cells (madeCells #[.bool false] m) 4)).setCell ⟨ob, k, none⟩ (.slice (some ⟨w4.heap.size, 0, none⟩) m m))) := by
        have h9 := HB4.out.trans ((Below.alloc (Below.refl w4.heap.size w4) (Nat.le_refl _) (.cells (madeCells #[.bool false] m) 4)).mono HB4.out.size)
        exact h9.trans ((Kg.Touch.setCell (F := [ob]) (w4.alloc (.cells (madeCells #[.bool false] m) 4)) ⟨ob, k, none⟩ _ (by simp)).below h9.size (fun x hx => by rw [List.mem_singleton.1 hx]; exact R1.out.lo.2.1))
      clear q hlb b4 f4 y0 y1 y2 y3 y4 y5 t5 hO5 R1 R2
      go_upto_region 13 with fail
      change Code.wp _ _ _ _ ((w4.alloc (.cells (madeCells #[.bool false] m) 4)).setCell ⟨ob, k, none⟩ (.slice (some ⟨w4.heap.size, 0, none⟩) m m))
      obtain ⟨nb, hnb⟩ : ∃ nb, nb = w4.heap.size := ⟨_, rfl⟩
      rw [← hnb] at H1 HB5 ⊢
      clear co zo hnb HB4
      generalize (w4.alloc (.cells (madeCells #[.bool false] m) 4)).setCell ⟨ob, k, none⟩ (.slice (some ⟨nb, 0, none⟩) m m) = w5 at *
      go_wp2
      go_loopw [11] (fun v11 wr => ∃ x : Nat, v11 = .int .i64 (x : Nat) ∧ 1 ≤ x ∧ x ≤ m ∧ Hid (Dr (wy17 g) m W.heap.size wr bb ob mb k rb nb lb x) ∧ Hid (Below W.heap.size W wr)) (fun v11 _ => m - (intOf v11).toNat)
      case atStart => exact ⟨1, rfl, Nat.le_refl _, by omega, H1, HB5⟩
      case round =>
        obtain ⟨x, rfl, hx1, hxm, Q1, Q2⟩ := hrel
        clear H1 HB5
        by_cases hxn : x ≤ os.length
        · have hxi : (x : Int) ≤ (os.length : Int) := by omega
          have hxl : x < m := by have := Hmm.out; omega
          have hxI : (x : Int) < (m : Int) := by omega
          have ca := Q1.out.a.cell hxl
          have cd := Q1.out.a.cell hkl
          have cl := Q1.out.l.cell hxl
          obtain ⟨ox, hox⟩ : ∃ ox, ox = ovW (wy17 g) k x := ⟨_, rfl⟩
          have HOX : Hid (ox = ovW (wy17 g) k x) := hox
          have HOE : Hid (ox = (! decide (x = k) && rvb (wy17 g) 0 x && rvb (wy17 g) 0 k && ! rvb (wy17 g) k x)) := hox
          clear hox
          generalize rvb (wy17 g) 0 x = b1 at *
          generalize rvb (wy17 g) 0 k = b2 at *
          generalize rvb (wy17 g) k x = b3 at *
          go_upto_region 16 with fail
          go_cut [71] from 50 to 71 (fun v71 wq => v71 = .bool ox ∧ wr = wq)
          case first =>
            clear HOX
            by_cases exk : x = k
            · have g1 : ((x : Int) != (k : Int)) = false := by rw [exk]; simp
              have HV : Hid (ox = false) := by show _ = _; rw [HOE.out, decide_eq_true exk]; simp
              clear exk HOE
              go_wp2
              go_meet
              exact ⟨by rw [HV.out], rfl⟩
            · have g1 : ((x : Int) != (k : Int)) = true := bne_iff_ne.2 (by omega)
              have HE : Hid (ox = (b1 && b2 && ! b3)) := by show _ = _; rw [HOE.out, decide_eq_false exk]; simp
              clear exk HOE
              cases b1 with
              | false =>
                have HV : Hid (ox = false) := HE.out
                go_wp2
                go_meet
                exact ⟨by rw [HV.out], rfl⟩
              | true =>
                cases b2 with
                | false =>
                  have HV : Hid (ox = false) := HE.out
                  go_wp2
                  go_meet
                  exact ⟨by rw [HV.out], rfl⟩
                | true =>
                  cases b3 with
                  | false =>
                    have HV : Hid (ox = true) := HE.out
                    go_wp2
                    go_meet
                    exact ⟨by rw [HV.out], rfl⟩
                  | true =>
                    have HV : Hid (ox = false) := HE.out
                    go_wp2
                    go_meet
                    exact ⟨by rw [HV.out], rfl⟩
          case rest =>
            obtain ⟨rfl, rfl⟩ := hcut
            apply_assumption
            clear ca cd cl HOE
            cases ox with
            | false =>
              have HN : Hid (Dr (wy17 g) m W.heap.size wr bb ob mb k rb nb lb (x + 1)) := Q1.out.no hk1 HOX.out.symm
              clear Q1
              go_wp2
              go_roundw
              case rel => exact ⟨x + 1, by go_num, by omega, by omega, HN, Q2⟩
              case measure => simp [intOf]; omega
            | true =>
              have HN : Hid (Dr (wy17 g) m W.heap.size ((wr.setCell ⟨nb, x, none⟩ (.bool true)).setCell ⟨mb, x, none⟩ (.int .i64 (mny (ovW (wy17 g)) k x + 1 : Nat))) bb ob mb k rb nb lb (x + 1)) := Q1.out.yes hk1 hxl HOX.out.symm
              obtain ⟨cs, hcs, -, hc3⟩ := Q1.out.h
              have co := (Kg.heap_cell hcs k).trans (hc3 k hkl)
              rw [if_pos ⟨hk1, by omega⟩, if_pos rfl] at co
              have cn := Q1.out.nw.cell hxl
              have zn := Q1.out.nw.frozen x
              have t1 : Kg.Touch [nb] wr (wr.setCell ⟨nb, x, none⟩ (.bool true)) := Kg.Touch.setCell _ _ _ (by simp)
              have hc6 := Q1.out.c.touchF t1 (by simpa using Q1.out.nn.2.2.1.symm)
              have cm := hc6.cell hxl
              have zm := hc6.frozen x
              rw [if_neg (Nat.lt_irrefl x)] at cm
              have HBN : Hid (Below W.heap.size W ((wr.setCell ⟨nb, x, none⟩ (.bool true)).setCell ⟨mb, x, none⟩ (.int .i64 (mny (ovW (wy17 g)) k x + 1 : Nat)))) := by
                have b6 := Q2.out.trans (t1.below Q2.out.size (fun y hy => by rw [List.mem_singleton.1 hy]; exact Q1.out.lo.2.2.2))
                exact b6.trans ((Kg.Touch.setCell (F := [mb]) (wr.setCell ⟨nb, x, none⟩ (.bool true)) ⟨mb, x, none⟩ _ (by simp)).below b6.size (fun y hy => by rw [List.mem_singleton.1 hy]; exact Q1.out.lo.2.2.1))
              have hmn := mny_le (ovW (wy17 g)) k x
              have emn : ((mny (ovW (wy17 g)) k x + 1 : Nat) : Int) = (mny (ovW (wy17 g)) k x : Int) + 1 := by omega
              rw [emn] at HN HBN
              clear hcs hc3 t1 hc6 Q1 Q2 emn HOX
              generalize mny (ovW (wy17 g)) k x = mn at *
              go_upto_region 18 with fail
              generalize wr.setCell ⟨nb, x, none⟩ (.bool true) = w6 at *
              clear co cn zn
              have hmn2 : mn ≤ 2000000 := by omega
              go_upto_region 15 with fail
              clear cm zm
              generalize w6.setCell ⟨mb, x, none⟩ (.int .i64 ((mn : Int) + 1)) = w7 at *
              go_wp2
              go_roundw
              case rel => exact ⟨x + 1, by go_num, by omega, by omega, HN, HBN⟩
              case measure => simp [intOf]; omega
        · have hxi : ¬ (x : Int) ≤ (os.length : Int) := by omega
          have e9 : x = m := by have := Hmm.out; omega
          have HD : Hid (Dq (wy17 g) m W.heap.size wr bb ob mb (k + 1) (fun i => if i = k then nb else rb i)) := by
            have h9 := Q1.out
            rw [e9] at h9
            exact h9.done hk1
          clear e9 Q1
          go_wp2
          go_roundw
          case rel => exact ⟨k + 1, _, by go_num, by omega, by omega, HD, Q2⟩
          case measure => simp [intOf]; omega
    · have hki : ¬ (k : Int) ≤ (os.length : Int) := by omega
      have e9 : k = m := by have := Hmm.out; omega
      subst e9
      obtain ⟨wE, hwE⟩ : ∃ wE, wE = wr := ⟨_, rfl⟩
      obtain ⟨B3, hB3⟩ : ∃ B3, B3 = wr.heap.size := ⟨_, rfl⟩
      have HQ : Hid (∀ w', Below B3 wE w' → Dq (wy17 g) k W.heap.size w' bb ob mb k rb ∧ Below W.heap.size W w') := fun w' b' => by
        rw [hwE, hB3] at b'
        exact ⟨R1.out.keep (Kg.Touch.of_below b' []), R2.out.trans (b'.mono R2.out.size)⟩
      have HBB : Hid (Below B3 wE wr ∧ B3 ≤ wr.heap.size) := ⟨by rw [hwE]; exact Below.refl _ _, by omega⟩
      have HBW : Hid (w.heap.size ≤ B3 ∧ W.heap.size ≤ B3) := ⟨by have h1 := HL1.out.size; have h2 := R2.out.size; omega, by have h2 := R2.out.size; omega⟩
      clear hwE hB3 R1 R2 hki
      obtain ⟨i0, hi0, hj0, hj1, hj2⟩ := info_p17 infoI17
      have HI : Hid (Tryd.prog.info? 3 = some i0 ∧ i0.zero = some (.int .i64 0) ∧ i0.size = 1 ∧ i0.bytes = 8) := ⟨hi0, hj0, hj1, hj2⟩
      clear hi0 hj0 hj1 hj2
      have hki : ¬ (k : Int) ≤ (os.length : Int) := by omega
      go_wp2
      go_loopw [12, 13, 14, 15] (fun v12 v13 _ _ wr => ∃ (x : Nat) (l : List Int), v13 = .int .i64 (x : Nat) ∧ x = l.length + 1 ∧ x ≤ k ∧ Hid (Il wr B3 v12 l) ∧ Hid (∀ (i : Nat) z, l[i]? = some z → (Rv (wy17 g) 0 (i + 1) ∧ ∃ b : Nat, z = b ∧ Ids (wy17 g) b (i + 1)) ∨ (¬ Rv (wy17 g) 0 (i + 1) ∧ z = -1)) ∧ Hid (Below B3 wE wr ∧ B3 ≤ wr.heap.size)) (fun _ v13 _ _ _ => k - (intOf v13).toNat)
      case atStart => exact ⟨1, [], rfl, rfl, hk1, World.ownsRow_nil _ _ _ _, fun i z h => by simp at h, HBB⟩
      case round =>
        obtain ⟨x, l, rfl, hxl, hxk, R1, R2, R3⟩ := hrel
        obtain ⟨a12, c12, e12⟩ := own_sl17 R1.out
        subst e12
        by_cases hxn : x ≤ os.length
        · have hxi : (x : Int) ≤ (os.length : Int) := by omega
          have hxm : x < k := by have := Hmm.out; omega
          have hxI : (x : Int) < (k : Int) := by omega
          have hx1 : 1 ≤ x := by omega
          have hlx : l.length ≤ 2000000 := by omega
          have HXL : Hid (x = l.length + 1) := hxl
          clear hxl
          generalize wr = wo at *
          go_wp2
          go_loopw [14, 15] (fun v14 v15 wq => ∃ (d b : Nat), v14 = .int .i64 (b : Nat) ∧ v15 = .int .i64 (d : Nat) ∧ 1 ≤ d ∧ d ≤ k ∧ b < k ∧ Hid (Bst (ovW (wy17 g)) (mny (ovW (wy17 g)) k) x d b) ∧ Hid (Kg.Touch [] wo wq)) (fun _ v15 _ => k - (intOf v15).toNat)
          case atStart => exact ⟨1, 0, rfl, rfl, Nat.le_refl _, by omega, by omega, Bst.start, Kg.Touch.refl _ _⟩
          case round =>
            obtain ⟨d, b, rfl, rfl, hd1, hdk, hbk, Q1, Q2⟩ := hrel
            by_cases hdn : d ≤ os.length
            · have hdi : (d : Int) ≤ (os.length : Int) := by omega
              have hdm : d < k := by have := Hmm.out; omega
              have hdI : (d : Int) < (k : Int) := by omega
              have hbI : (b : Int) < (k : Int) := by omega
              have hDq := (HQ.out _ R3.out.1).1.keep Q2.out
              have co := hDq.o.cell hdm
              rw [if_pos ⟨hd1, hdm⟩] at co
              have cr := (hDq.o.r d hd1 hdm).cell hxm
              have cd := hDq.c.cell hdm
              have cb := hDq.c.cell hbk
              clear hDq
              obtain ⟨ox, hox⟩ : ∃ ox, ox = ovW (wy17 g) d x := ⟨_, rfl⟩
              rw [← hox] at cr
              have HOX : Hid (ox = ovW (wy17 g) d x) := hox
              clear hox
              cases ox with
              | false =>
                have HN : Hid (Bst (ovW (wy17 g)) (mny (ovW (wy17 g)) k) x (d + 1) b) := Q1.out.skip HOX.out.symm
                clear Q1 HOX
                go_upto_region 27 with fail
                go_quiet (fail)
                have Q3 : Hid (Kg.Touch [] wo (wr.drewN nq)) := Q2.out.trans (Kg.Touch.drewN _ _ _)
                clear Q2 co cr cd cb
                generalize wr.drewN nq = w8 at *
                go_wp2
                go_roundw
                case rel => exact ⟨d + 1, b, by go_num, by go_num, by omega, by omega, by omega, HN, Q3⟩
                case measure => simp [intOf]; omega
              | true =>
                by_cases hb0 : b = 0
                · have g1 : ((b : Int) == 0) = true := beq_iff_eq.2 (by omega)
                  have HN : Hid (Bst (ovW (wy17 g)) (mny (ovW (wy17 g)) k) x (d + 1) d) := Q1.out.more hd1 HOX.out.symm (.inl hb0)
                  clear hb0
                  clear Q1 HOX
                  go_upto_region 27 with fail
                  go_quiet (fail)
                  have Q3 : Hid (Kg.Touch [] wo (wr.drewN nq)) := Q2.out.trans (Kg.Touch.drewN _ _ _)
                  clear Q2 co cr cd cb
                  generalize wr.drewN nq = w8 at *
                  go_wp2
                  go_roundw
                  case rel => exact ⟨d + 1, d, by go_num, by go_num, by omega, by omega, by omega, HN, Q3⟩
                  case measure => simp [intOf]; omega
                · have g1 : ((b : Int) == 0) = false := beq_eq_false_iff_ne.2 (by omega)
                  by_cases hlt : mny (ovW (wy17 g)) k b < mny (ovW (wy17 g)) k d
                  · have g2 : decide ((mny (ovW (wy17 g)) k b : Int) < (mny (ovW (wy17 g)) k d : Int)) = true := decide_eq_true (by omega)
                    have HN : Hid (Bst (ovW (wy17 g)) (mny (ovW (wy17 g)) k) x (d + 1) d) := Q1.out.more hd1 HOX.out.symm (.inr hlt)
                    clear hb0
                    clear Q1 HOX
                    go_upto_region 27 with fail
                    go_quiet (fail)
                    have Q3 : Hid (Kg.Touch [] wo (wr.drewN nq)) := Q2.out.trans (Kg.Touch.drewN _ _ _)
                    clear Q2 co cr cd cb
                    generalize wr.drewN nq = w8 at *
                    go_wp2
                    go_roundw
                    case rel => exact ⟨d + 1, d, by go_num, by go_num, by omega, by omega, by omega, HN, Q3⟩
                    case measure => simp [intOf]; omega
                  · have g2 : decide ((mny (ovW (wy17 g)) k b : Int) < (mny (ovW (wy17 g)) k d : Int)) = false := decide_eq_false (by omega)
                    have HN : Hid (Bst (ovW (wy17 g)) (mny (ovW (wy17 g)) k) x (d + 1) b) := Q1.out.less hb0 (Nat.le_of_not_lt hlt)
                    clear hb0
                    clear Q1 HOX
                    go_upto_region 27 with fail
                    go_quiet (fail)
                    have Q3 : Hid (Kg.Touch [] wo (wr.drewN nq)) := Q2.out.trans (Kg.Touch.drewN _ _ _)
                    clear Q2 co cr cd cb
                    generalize wr.drewN nq = w8 at *
                    go_wp2
                    go_roundw
                    case rel => exact ⟨d + 1, b, by go_num, by go_num, by omega, by omega, by omega, HN, Q3⟩
                    case measure => simp [intOf]; omega
            · have hdi : ¬ (d : Int) ≤ (os.length : Int) := by omega
              have e9 : d = k := by have := Hmm.out; omega
              subst e9
              have hDq := (HQ.out _ R3.out.1).1.keep Q2.out
              have ca := hDq.a.cell hxm
              clear hDq
              have HIds : Hid (Rv (wy17 g) 0 x → Ids (wy17 g) b x) := fun _ => Bst.ids (n := os.length) (all := rvb (wy17 g) 0) (left := rvb (wy17 g)) (fun y => rvb_iff) (fun d y _ _ => rvb_iff) (fun y hy => by
                  cases hy with
                  | root h1 h2 => have := wy_in HM.out _ _ h1; have := HOL.out; omega
                  | step _ h1 h2 => have := wy_in HM.out _ _ h1; have := HOL.out; omega) ⟨hx1, hxn⟩ (by have h9 := Q1.out; rw [Hmm.out] at h9; exact h9)
              have HRow0 : Hid (Il wr B3 (.slice a12 l.length c12) l) := Kg.row_keep2 R1.out Q2.out (fun k _ => by simp)
              have HB9 : Hid (Below B3 wE wr ∧ B3 ≤ wr.heap.size) := ⟨R3.out.1.trans (Q2.out.below R3.out.2 (fun y hy => by simp at hy)), Nat.le_trans R3.out.2 Q2.out.size⟩
              obtain ⟨ra, hra⟩ : ∃ ra, ra = rvb (wy17 g) 0 x := ⟨_, rfl⟩
              rw [← hra] at ca
              have HRA : Hid (ra = true ↔ Rv (wy17 g) 0 x) := by show _ ↔ _; rw [hra, rvb_iff]
              clear hra Q1 Q2 R1 R3 
              cases ra with
              | false =>
                have HSz : Hid (B3 ≤ wr.heap.size) := HB9.out.2
                have HRow : Hid ((wr.alloc (.cells #[.int .i64 (-1)] 3)).ownsRow B3 3 1 (.slice a12 l.length c12) l.length (Kg.ints l)) := Il.below HRow0.out (Below.alloc (Below.refl _ _) (Nat.le_refl _) _)
                have HNew : Hid (∀ (i : Nat) (z : Int), (l ++ [(-1 : Int)])[i]? = some z → (Rv (wy17 g) 0 (i + 1) ∧ ∃ b : Nat, z = b ∧ Ids (wy17 g) b (i + 1)) ∨ (¬ Rv (wy17 g) 0 (i + 1) ∧ z = -1)) := fun i z hz => by
                  rcases Nat.lt_or_ge i l.length with h1 | h1
                  · rw [List.getElem?_append_left h1] at hz
                    exact R2.out i z hz
                  · rw [List.getElem?_append_right h1] at hz
                    have h2 := (List.getElem?_eq_some_iff.1 hz).1
                    simp at h2
                    have h3 : i = l.length := by omega
                    rw [h3] at hz ⊢
                    simp at hz
                    rw [← HXL.out, ← hz]
                    exact .inr ⟨fun h => (by have := HRA.out.2 h; cases this), rfl⟩
                go_wp2_with (at_builtin; refine wpList_append_own_at _ rfl _ _ 24 rfl B3 3 i0 (.int .i64 0) 1 8 Tryd.underlying24 HI.out.1 HI.out.2.1 HI.out.2.2.1 HI.out.2.2.2 rfl (by decide) _ _ _ rfl HRow.out ⟨wr.heap.size, 0, none⟩ 1 1 [.int .i64 (-1)] rfl rfl (cell_one17 _ _ _) (by simp [Value.oneCell']) (by simp only [maxLen]; omega) (by omega) (by have := HSz.out; simp; omega) ?_; intro v8 w8 h8 g8 _ _)
                go_roundw
                case rel =>
                  obtain ⟨y1, y2, y3⟩ := Il.snoc HRow0.out h8 g8 HSz.out
                  exact ⟨x + 1, l ++ [(-1 : Int)], by go_num, by rw [List.length_append, List.length_cons, List.length_nil, ← HXL.out], by omega, y1, HNew.out, HB9.out.1.trans y3, Nat.le_trans HSz.out (by have h9 := y3.size; have h8 := HSz.out; omega)⟩
                case measure => simp [intOf]; omega
              | true =>
                have HSz : Hid (B3 ≤ wr.heap.size) := HB9.out.2
                have HRow : Hid ((wr.alloc (.cells #[.int .i64 (b : Nat)] 3)).ownsRow B3 3 1 (.slice a12 l.length c12) l.length (Kg.ints l)) := Il.below HRow0.out (Below.alloc (Below.refl _ _) (Nat.le_refl _) _)
                have HNew : Hid (∀ (i : Nat) (z : Int), (l ++ [((b : Nat) : Int)])[i]? = some z → (Rv (wy17 g) 0 (i + 1) ∧ ∃ b : Nat, z = b ∧ Ids (wy17 g) b (i + 1)) ∨ (¬ Rv (wy17 g) 0 (i + 1) ∧ z = -1)) := fun i z hz => by
                  rcases Nat.lt_or_ge i l.length with h1 | h1
                  · rw [List.getElem?_append_left h1] at hz
                    exact R2.out i z hz
                  · rw [List.getElem?_append_right h1] at hz
                    have h2 := (List.getElem?_eq_some_iff.1 hz).1
                    simp at h2
                    have h3 : i = l.length := by omega
                    rw [h3] at hz ⊢
                    simp at hz
                    rw [← HXL.out, ← hz]
                    exact .inl ⟨HRA.out.1 rfl, b, rfl, HIds.out (HRA.out.1 rfl)⟩
                go_wp2_with (at_builtin; refine wpList_append_own_at _ rfl _ _ 24 rfl B3 3 i0 (.int .i64 0) 1 8 Tryd.underlying24 HI.out.1 HI.out.2.1 HI.out.2.2.1 HI.out.2.2.2 rfl (by decide) _ _ _ rfl HRow.out ⟨wr.heap.size, 0, none⟩ 1 1 [.int .i64 (b : Nat)] rfl rfl (cell_one17 _ _ _) (by simp [Value.oneCell']) (by simp only [maxLen]; omega) (by omega) (by have := HSz.out; simp; omega) ?_; intro v8 w8 h8 g8 _ _)
                go_roundw
                case rel =>
                  obtain ⟨y1, y2, y3⟩ := Il.snoc HRow0.out h8 g8 HSz.out
                  exact ⟨x + 1, l ++ [((b : Nat) : Int)], by go_num, by rw [List.length_append, List.length_cons, List.length_nil, ← HXL.out], by omega, y1, HNew.out, HB9.out.1.trans y3, Nat.le_trans HSz.out (by have h9 := y3.size; have h8 := HSz.out; omega)⟩
                case measure => simp [intOf]; omega
        · have hxi : ¬ (x : Int) ≤ (os.length : Int) := by omega
          have HE : Hid (Below w.heap.size w wr ∧ Il wr w.heap.size (.slice a12 l.length c12) l ∧ Dm17 g l) := by
            have h1 := HQ.out _ R3.out.1
            refine ⟨(HXB.out wr h1.2).2.1, Kg.row_base R1.out HBW.out.1, ?_, R2.out⟩
            have h2 := HOL.out
            omega
          clear R1 R2 R3
          go_wp2
          go_ret2
          exact ⟨_, rfl, HE.out.1, l, HE.out.2.1, HE.out.2.2⟩

end Go.Proofs.YtckgcpoheodbcaaDoor
