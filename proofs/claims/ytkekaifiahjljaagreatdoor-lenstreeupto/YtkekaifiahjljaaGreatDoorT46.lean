import Derived.Test.YtkekaifiahjljaaGreatDoorT15
import Derived.Test.YtkekaifiahjljaaGreatDoorT28
import Derived.Test.YtkekaifiahjljaaGreatDoorT43
import Derived.Test.YtkekaifiahjljaaGreatDoorT45
set_option linter.unusedVariables false
set_option maxHeartbeats 8000000
set_option maxRecDepth 20000
namespace Go.Proofs.YtkekaifiahjljaaGreatDoor
open Go.RowKit Go.Shelf Go.Proofs.YtkekaifiahjljaaGreatDoor.Lt
set_option maxHeartbeats 16000000 in
theorem tree17_any (w : World) (hL : Laid w) (vo vs vh vr vq : Value) (os : List OL) (ts : List (Value × List (Value × List Int))) (g : Im.Gr) (hg : Grd w.heap.size w vo vs vh vr vq os ts g) (hz : gsz os ts g ≤ 1048576) :
    Calls Tryz.prog 4 #[.agg (gcs vo vs vh vr vq g.next)] w fun e w' => e = .returned (.bool true) ∧ Below w.heap.size w w' := by
  have HBG : Hid (Big19 os ts g) := big19_of hz hg.eo hg.es
  have HOL : Hid (g.obs.length = os.length) := by show _ = _; rw [hg.eo, List.length_map]
  have HL : Hid (∀ w', Below w.heap.size w w' → Laid w') := fun w' b' => hL.keep b'
  have l1 : Below w.heap.size w (w.alloc (.cells (gcs vo vs vh vr vq g.next) 27)) := Below.alloc (Below.refl _ _) (Nat.le_refl _) _
  have hx := heap_alloc_new w (.cells (gcs vo vs vh vr vq g.next) 27 (0, 0))
  obtain ⟨oa, oc, eo, -⟩ := id hg.ob
  subst eo
  generalize hW : w.alloc (.cells (gcs (.slice oa os.length oc) vs vh vr vq g.next) 27) = W at *
  obtain ⟨A, hA⟩ : ∃ A, A = w.heap.size := ⟨_, rfl⟩
  have HX : Hid (∀ w', Below W.heap.size W w' → Below w.heap.size w w' ∧ A ≤ w'.heap.size ∧ Grd A w' (.slice oa os.length oc) vs vh vr vq os ts g ∧ ∀ j v, (gcs (.slice oa os.length oc) vs vh vr vq g.next)[j]? = some v → w'.cell? ⟨A, j, none⟩ = some v) := fun w' b' => by
    rw [hA]
    have b3 := l1.trans (b'.mono l1.size)
    exact ⟨b3, b3.size, hg.below b3, fun j v h => (Kg.heap_cell ((b'.block _ (Kg.heap_lt hx)).trans hx) j).trans h⟩
  have HG0 : Hid (Grd A w (.slice oa os.length oc) vs vh vr vq os ts g) := by show Grd _ _ _ _ _ _ _ _ _ _; rw [hA]; exact hg
  have q := known17_any W (hL.keep l1)
  clear hg hz hL l1 hx
  go_enter Tryz.func4, Tryz.ntmps4
  go_upto_region 1 with fail
  rw [← hA]
  clear hA hW
  go_wp2_with fail
  refine q.mono ?_
  rintro e w1 ⟨rfl, b1⟩
  have HB1 : Hid (Below W.heap.size W w1) := b1
  clear q b1
  obtain ⟨bw, hn, hg, hc⟩ := HX.out w1 HB1.out
  have y0 := hc 0 _ rfl
  have y1 := hc 1 _ rfl
  have y2 := hc 2 _ rfl
  have y3 := hc 3 _ rfl
  have y4 := hc 4 _ rfl
  have y5 := hc 5 _ rfl
  have q := lDominators_any A w1 _ _ _ _ _ os ts g hg hn (HL.out _ bw) HBG.out
  clear bw hn hg hc
  go_wp2_with fail
  refine q.mono ?_
  rintro e w2 ⟨v2, l2, e2, rfl, o2, c2, p2⟩
  have HP2 : Hid (Pd17 g l2 e2) := p2
  have HB2 : Hid (Below W.heap.size W w2) := HB1.out.trans (c2.mono HB1.out.size)
  have HO2' : Hid (Lrd w2.heap.size w2 v2 .i64 l2) := o2
  clear q o2 c2 p2 y0 y1 y2 y3 y4 y5
  obtain ⟨bw, hn, hg, hc⟩ := HX.out w2 HB2.out
  have y0 := hc 0 _ rfl
  have y1 := hc 1 _ rfl
  have y2 := hc 2 _ rfl
  have y3 := hc 3 _ rfl
  have y4 := hc 4 _ rfl
  have y5 := hc 5 _ rfl
  have q := lRetained_any A w2 _ _ _ _ _ os ts g hg hn (HL.out _ bw) HBG.out
  clear bw hn hg hc
  go_wp2_with fail
  refine q.mono ?_
  rintro e w3 ⟨v3, l3, e3, rfl, o3, c3, p3⟩
  have HP3 : Hid (Pr18 g l3 e3) := p3
  have HB3 : Hid (Below W.heap.size W w3) := HB2.out.trans (c3.mono HB2.out.size)
  have HO2 : Hid (Lrd w3.heap.size w3 v2 .i64 l2) := (HO2'.out.below c3).mono c3.size
  have HO3 : Hid (Lrd w3.heap.size w3 v3 .i64 l3) := o3
  clear q o3 c3 p3 y0 y1 y2 y3 y4 y5 HO2' HB2 HB1
  obtain ⟨bw, hn, hg, hc⟩ := HX.out w3 HB3.out
  have y0 := hc 0 _ rfl
  have y1 := hc 1 _ rfl
  have y2 := hc 2 _ rfl
  have y3 := hc 3 _ rfl
  have y4 := hc 4 _ rfl
  have y5 := hc 5 _ rfl
  have q := refused17_any A w3 _ _ _ _ _ os ts g hg hn HBG.out.l
  clear bw hn hg hc
  rcases HP2.out with ⟨hm, -, rfl⟩ | ⟨hm, rfl, hd⟩
  · have he3 : e3 = 171 := by
      rcases HP3.out with ⟨-, -, h⟩ | ⟨h, -, -⟩
      · exact h
      · exact absurd h hm
    subst he3
    have HM : Hid (¬ MB g) := hm
    clear hm
    go_wp2_with fail
    refine q.mono ?_
    rintro e w4 ⟨r, rfl, b4, hr⟩
    have hr1 := hr.2 HM.out
    subst hr1
    have HE : Hid (Below w.heap.size w w4) := (HX.out w4 (HB3.out.trans (b4.mono HB3.out.size))).1
    clear q b4 hr y0 y1 y2 y3 y4 y5
    go_wp2
    go_ret
    exact ⟨rfl, HE.out⟩
  · have HM : Hid (MB g) := hm
    have HD : Hid (Dm17 g l2) := hd
    have hr3 : e3 = 0 ∧ Dr17 g l3 := by
      rcases HP3.out with ⟨h, -, -⟩ | ⟨-, h, h'⟩
      · exact absurd hm h
      · exact ⟨h, h'⟩
    obtain ⟨rfl, hdr⟩ := hr3
    have HR : Hid (Dr17 g l3) := hdr
    have HM2 : Hid (l2.length = os.length) := by show _ = _; rw [hd.1]; exact HOL.out
    have HM3 : Hid (l3.length = os.length) := by show _ = _; rw [hdr.1]; exact HOL.out
    obtain ⟨a2, c2, ev2, -, -⟩ := id HO2.out
    obtain ⟨a3, c3, ev3, -, -⟩ := id HO3.out
    rw [HM2.out] at ev2
    rw [HM3.out] at ev3
    subst ev2 ev3
    clear hm hd hdr HP2 HP3
    go_wp2_with fail
    refine q.mono ?_
    rintro e w4 ⟨r, rfl, b4, hr⟩
    have hr1 : r = false := by
      cases r with
      | false => rfl
      | true => exact absurd HM.out (hr.1 rfl)
    subst hr1
    have HB4 : Hid (Below W.heap.size W w4) := HB3.out.trans (b4.mono HB3.out.size)
    have HO2b : Hid (Lrd w4.heap.size w4 (.slice a2 os.length c2) .i64 l2) := (HO2.out.below b4).mono b4.size
    have HO3b : Hid (Lrd w4.heap.size w4 (.slice a3 os.length c3) .i64 l3) := (HO3.out.below b4).mono b4.size
    have HK : Hid (Ok17 g) := ok_of_mb HM.out
    clear q b4 hr y0 y1 y2 y3 y4 y5 HO2 HO3 HB3
    obtain ⟨bw, hn, hg, hc⟩ := HX.out w4 HB4.out
    have y0 := hc 0 _ rfl
    have y1 := hc 1 _ rfl
    have y2 := hc 2 _ rfl
    have y3 := hc 3 _ rfl
    have y4 := hc 4 _ rfl
    have y5 := hc 5 _ rfl
    have q := reach17L_any A w4 _ _ _ _ _ os ts g hg hn HBG.out.s (by have := HBG.out.e; omega) HK.out HBG.out.o (fun x hx => by have := HBG.out.r x hx; omega)
    clear bw hn hg hc
    go_wp2_with fail
    refine q.mono ?_
    rintro e w5 ⟨ib, ins, rfl, hib, hf, hre, b5⟩
    have HB5 : Hid (Below W.heap.size W w5) := HB4.out.trans (b5.mono HB4.out.size)
    have HO2 : Hid (Lrd w5.heap.size w5 (.slice a2 os.length c2) .i64 l2) := (HO2b.out.below b5).mono b5.size
    have HO3 : Hid (Lrd w5.heap.size w5 (.slice a3 os.length c3) .i64 l3) := (HO3b.out.below b5).mono b5.size
    have HRe : Hid (∀ x, ins x = true ↔ Re (wy17 g) (pe17 g) 0 x) := hre
    obtain ⟨m, hm⟩ : ∃ m, m = os.length + 1 := ⟨_, rfl⟩
    rw [← hm] at hf ⊢
    have HF : Hid (Fb w5 ib m ins) := hf
    have HMM : Hid (m = os.length + 1) := hm
    have hoI := HBG.out.o
    have hm1 : m ≤ 1048577 := by omega
    clear q b5 hf hre hm hib y0 y1 y2 y3 y4 y5 HO2b HO3b HB4
    go_upto_region 11 with fail
    go_wp2
    go_loopw [8] (fun v8 wr => ∃ k : Nat, v8 = .int .i64 (k : Nat) ∧ 1 ≤ k ∧ k ≤ m ∧ wr = w5 ∧ Hid (∀ (j : Nat) e, j + 1 < k → g.obs[j]? = some e → ins (j + 1) = true → e.kind ≠ 3)) (fun v8 _ => m - (intOf v8).toNat)
    case atStart => exact ⟨1, rfl, Nat.le_refl _, by have := HMM.out; omega, rfl, fun j e h => by omega⟩
    case round =>
      obtain ⟨k, rfl, hk1, hkm, hw5, HN⟩ := hrel
      obtain rfl : w5 = wr := hw5.symm
      obtain ⟨bw, hn, hg, hc⟩ := HX.out w5 HB5.out
      by_cases hkl : k < m
      · have hki : (k : Int) < (m : Int) := by omega
        obtain ⟨kk, rfl⟩ : ∃ kk, k = kk + 1 := ⟨k - 1, by omega⟩
        have hkI : ((kk + 1 : Nat) : Int) - 1 = (kk : Int) := by omega
        have hko : kk < os.length := by have := HMM.out; omega
        have hkoI : (kk : Int) < (os.length : Int) := by omega
        obtain ⟨e, he⟩ : ∃ e, os[kk]? = some e := ⟨_, List.getElem?_eq_getElem hko⟩
        obtain ⟨qo, off, pa, pc, ra, rc, rfl, ep, er, lp, hobs, d0, d1, d2, d3, d4⟩ := hg.obj he
        have HE : Hid (g.obs[kk]? = some e.o) := hobs
        have cb := HF.out.cell hkl
        have y0 := hc 0 _ rfl
        obtain ⟨bi, hbi⟩ : ∃ bi, bi = ins (kk + 1) := ⟨_, rfl⟩
        rw [← hbi] at cb
        have HBI : Hid (bi = ins (kk + 1)) := hbi
        clear hbi bw hn hg hc ep er lp hobs he d0 d2 d3 d4
        cases bi with
        | false =>
          have HN2 : Hid (∀ (j : Nat) e, j + 1 < kk + 1 + 1 → g.obs[j]? = some e → ins (j + 1) = true → e.kind ≠ 3) := fun j e' h1 h2 h3 => by
            by_cases e9 : j = kk
            · rw [e9, ← HBI.out] at h3; cases h3
            · exact HN.out j e' (by omega) h2 h3
          go_wp2
          go_roundw
          case rel => exact ⟨kk + 1 + 1, by go_num, by omega, by omega, trivial, HN2⟩
          case measure => simp [intOf]; omega
        | true =>
          by_cases e3 : e.o.kind = 3
          · have g3 : (e.o.kind == 3) = true := beq_iff_eq.2 e3
            have HEE : Hid (Below w.heap.size w w5) := (HX.out w5 HB5.out).1
            clear e3
            go_wp2
            go_ret
            exact ⟨rfl, HEE.out⟩
          · have g3 : (e.o.kind == 3) = false := beq_eq_false_iff_ne.2 e3
            have HN2 : Hid (∀ (j : Nat) e, j + 1 < kk + 1 + 1 → g.obs[j]? = some e → ins (j + 1) = true → e.kind ≠ 3) := fun j e' h1 h2 h3 => by
              by_cases e9 : j = kk
              · rw [e9, HE.out] at h2; cases h2; exact e3
              · exact HN.out j e' (by omega) h2 h3
            clear e3
            go_wp2
            go_roundw
            case rel => exact ⟨kk + 1 + 1, by go_num, by omega, by omega, trivial, HN2⟩
            case measure => simp [intOf]; omega
      · have hki : ¬ (k : Int) < (m : Int) := by omega
        obtain rfl : m = k := by omega
        have HNE : Hid (∀ i κ v, (i, κ, v) ∈ pe17 g → ¬ Re (wy17 g) (pe17 g) 0 i) := fun i κ v hp hr => by
          obtain ⟨j, o, h1, h2⟩ := pe_mem.1 hp
          have h3 := (oe_iff (fun z hz => (HK.out.p o (List.mem_of_getElem? h1) z hz).1)).1 h2
          have h4 := (List.getElem?_eq_some_iff.1 h1).1
          have h5 : i = j + 1 := h3.2.1
          rw [h5] at hr
          exact HN.out j o (by have := HMM.out; have := HOL.out; omega) h1 ((HRe.out _).2 hr) h3.1
        clear bw hn hg hc HN
        have mkT := make_ints17 m (by omega)
        go_upto_region 17 with fail
        have HB6 : Hid (Below w5.heap.size w5 (w5.alloc (.cells (madeCells #[.int .i64 0] m) 3))) := Below.alloc (Below.refl _ _) (Nat.le_refl _) _
        have HF6 : Hid (Fy (w5.alloc (.cells (madeCells #[.int .i64 0] m) 3)) w5.heap.size m (fun _ => ((0 : Nat) : Int))) := by
          obtain ⟨cs, f1, f2, f3⟩ := (Fw.new w5 m).ex
          exact ⟨cs, f1, by omega, f3⟩
        change Code.wp _ _ _ _ (w5.alloc (.cells (madeCells #[.int .i64 0] m) 3))
        generalize w5.alloc (.cells (madeCells #[.int .i64 0] m) 3) = w6 at *
        obtain ⟨wb, hwb⟩ : ∃ wb, wb = w5.heap.size := ⟨_, rfl⟩
        have HWB : Hid (wb = w5.heap.size) := hwb
        rw [← hwb] at HF6 ⊢
        clear hwb mkT
        have HC : Hid (∀ x, wd17 g x ≤ 1048578) := fun x => by
          unfold wd17
          split
          · omega
          · split
            · rename_i o ho
              have h1 := List.mem_of_getElem? ho
              rw [(HG0.out).eo] at h1
              obtain ⟨y, hy, rfl⟩ := List.mem_map.1 h1
              have := HBG.out.r y hy
              omega
            · omega
        have HRV : Hid (∀ x, ins x = true ↔ Rv (wy17 g) 0 x) := fun x => (HRe.out x).trans (re_rv (wy_nz g) (pe_nz HK.out) HNE.out 0 x)
        go_loopw [10, 11, 12] (fun v10 _ _ wq => ∃ i : Nat, v10 = .int .i64 ((i + 1 : Nat) : Int) ∧ i + 1 ≤ m ∧ Hid (Below w5.heap.size w5 wq) ∧ Hid (Fy wq wb m (fun x => ((wt (wd17 g) (wy17 g) i x : Nat) : Int)))) (fun v10 _ _ _ => m - (intOf v10).toNat)
        case atStart => exact ⟨0, rfl, by have := HMM.out; omega, HB6, HF6.out.congr (fun x _ => by rw [wt_zero])⟩
        case round =>
          obtain ⟨i, rfl, him, Hb, Hf⟩ := hrel
          by_cases hil : i + 1 < m
          · have hii : ((i + 1 : Nat) : Int) < (m : Int) := by omega
            have hiI : ((i + 1 : Nat) : Int) - 1 = (i : Int) := by omega
            have hio : i < os.length := by have := HMM.out; omega
            have hioI : (i : Int) < (os.length : Int) := by omega
            have cb := (HF.out.below Hb.out).cell hil
            obtain ⟨z, hz⟩ : ∃ z, l2[i]? = some z := ⟨_, List.getElem?_eq_getElem (by have := HM2.out; omega)⟩
            obtain ⟨pa2, pc2, ep2, -, hp2⟩ := (HO2.out.below Hb.out)
            simp only [Value.slice.injEq] at ep2
            obtain ⟨rfl, -, rfl⟩ := ep2
            obtain ⟨qd, qo, rfl, -, cd⟩ := hp2 i z hz
            have HCd : Hid (∀ w', Below w5.heap.size w5 w' → ∀ (x : Nat) z, l2[x]? = some z → w'.cell? ⟨qd, qo + x, none⟩ = some (.int .i64 z)) := fun w' b' x z hz => by
              obtain ⟨pa2, pc2, ep2, -, hp2⟩ := (HO2.out.below b')
              simp only [Value.slice.injEq] at ep2
              obtain ⟨rfl, -, rfl⟩ := ep2
              obtain ⟨qd', qo', e9, -, cd⟩ := hp2 x z hz
              cases e9
              exact cd
            have hzd := HD.out.2 i z hz
            have HZ : Hid (l2[i]? = some z) := hz
            have hrv := HRV.out (i + 1)
            have HIZ : Hid ((ins (i + 1) = true ∧ ∃ b : Nat, z = b) ∨ (ins (i + 1) = false ∧ z = -1)) := by
              rcases hzd with ⟨h1, b, h2, -⟩ | ⟨h1, h2⟩
              · exact .inl ⟨hrv.2 h1, b, h2⟩
              · refine .inr ⟨?_, h2⟩
                cases h9 : ins (i + 1) with
                | false => rfl
                | true => exact absurd (hrv.1 h9) h1
            obtain ⟨bi, hbi⟩ : ∃ bi, bi = ins (i + 1) := ⟨_, rfl⟩
            rw [← hbi] at cb HIZ
            have HBI : Hid (bi = ins (i + 1)) := hbi
            clear hbi hp2 hz hzd hrv
            go_upto_region 19 with fail
            go_cut [100] from 90 to 100 (fun v wq => v = .bool false ∧ ∃ nq, wq = wr.drewN nq)
            case first =>
              rcases HIZ.out with ⟨h1, b, h2⟩ | ⟨h1, h2⟩
              · have h9 : decide ((0 : Int) ≤ (b : Int)) = true := decide_eq_true (by omega)
                rw [h1] at cb
                rw [h2] at cd
                clear h1 h2 HIZ
                go_quiet (fail)
                go_wp2_with fail
                go_meet
                exact ⟨rfl, _, rfl⟩
              · rw [h1] at cb
                rw [h2] at cd
                clear h1 h2 HIZ
                go_quiet (fail)
                go_wp2_with fail
                go_meet
                exact ⟨rfl, _, rfl⟩
            case rest =>
            obtain ⟨rfl, nq, rfl⟩ := hcut
            apply_assumption
            have Hb1 : Hid (Below w5.heap.size w5 (wr.drewN nq)) := below_drewN Hb.out nq
            have Hf1 : Hid (Fy (wr.drewN nq) wb m (fun x => ((wt (wd17 g) (wy17 g) i x : Nat) : Int))) := Hf.out.touch (Kg.Touch.of_below (below_drewN (Below.refl wr.heap.size wr) nq) []) (by simp)
            clear Hb Hf cb cd
            generalize wr.drewN nq = w7 at *
            go_upto_region 21 with fail
            go_wp2
            have hMs : os.length + 1 = m := HMM.out.symm
            generalize decide ((i : Int) + 1 < (m : Int)) = d87
            go_loopw [11, 12] (fun v11 v12 wq => ∃ (a : Nat) (ps : List Nat), v11 = .int .i64 (a : Nat) ∧ v12 = .int .i64 (ps.length : Nat) ∧ Hid (Cn (wy17 g) os.length (i + 1) a ps) ∧ Hid (bi = false → ps = []) ∧ Hid (Below w5.heap.size w5 wq) ∧ Hid (Fy wq wb m (fun x => ((tw g i ps x : Nat) : Int)))) (fun _ v12 _ => os.length - (intOf v12).toNat)
            case atStart => exact ⟨i + 1, [], rfl, rfl, Cn.start ⟨by omega, by omega⟩, fun _ => rfl, Hb1, Hf1.out.congr (fun x _ => by rw [tw_nil])⟩
            case round =>
              obtain ⟨a, ps, rfl, rfl, C1, C2, C3, C4⟩ := hrel
              have cb := (HF.out.below C3.out).cell hil
              rw [← HBI.out] at cb
              clear Hb1 Hf1
              cases bi with
              | false =>
                have HN : Hid (Fy wr wb m (fun x => ((wt (wd17 g) (wy17 g) (i + 1) x : Nat) : Int))) := C4.out.congr (fun x _ => by
                  rw [C2.out rfl, tw_nil, wt_skip]
                  intro h
                  have := (HRV.out _).2 h
                  rw [← HBI.out] at this
                  cases this)
                clear C4
                go_wp2
                go_roundw
                case rel => exact ⟨i + 1, by go_num, by omega, C3, HN⟩
                case measure => simp [intOf]; omega
              | true =>
                have hrv : Rv (wy17 g) 0 (i + 1) := (HRV.out _).1 HBI.out.symm
                by_cases ha0 : a = 0
                · subst ha0
                  have HN : Hid (Fy wr wb m (fun x => ((wt (wd17 g) (wy17 g) (i + 1) x : Nat) : Int))) := C4.out.congr (fun x _ => by rw [tw_end C1.out hrv])
                  clear C4 hrv
                  go_wp2
                  go_roundw
                  case rel => exact ⟨i + 1, by go_num, by omega, C3, HN⟩
                  case measure => simp [intOf]; omega
                · have hap : (0 : Int) < (a : Int) := by omega
                  obtain ⟨⟨ha1, ha2⟩, hda⟩ := C1.out.at_.resolve_left ha0
                  have ham : a < m := by omega
                  have hamI : (a : Int) < (m : Int) := by omega
                  obtain ⟨e, he⟩ : ∃ e, os[i]? = some e := ⟨_, List.getElem?_eq_getElem hio⟩
                  obtain ⟨-, -, hg, -⟩ := HX.out wr (HB5.out.trans (C3.out.mono HB5.out.size))
                  obtain ⟨qb, ob, pa, pc, ra, rc, eoa, ep, er, lp, hobs, -⟩ := hg.obj he
                  obtain ⟨lq, lr⟩ : Lrd A wr e.vp .i64 e.o.ps ∧ Lrd A wr e.vr .u64 (e.o.rs.map Int.ofNat) := by
                    obtain ⟨_, _, _, h9⟩ := hg.ob
                    exact ⟨(h9 i e he).1, (h9 i e he).2.1⟩
                  have HWD : Hid (wd17 g (i + 1) = 2 + e.o.ps.length + e.o.rs.length) := by
                    show _ = _
                    unfold wd17
                    rw [if_neg (by omega), Nat.add_sub_cancel, hobs]
                  have hwv := HC.out (i + 1)
                  rw [HWD.out] at hwv
                  have HVV : Hid (∀ w', Below wr.heap.size wr w' → (Below w5.heap.size w5 w' ∧ Fy w' wb m (fun x => ((tw g i ps x : Nat) : Int))) ∧ w'.cell? ⟨A, 0, none⟩ = some (.slice (some ⟨qb, ob, none⟩) os.length oc) ∧ w'.cell? ⟨qb, ob + i * 5, none⟩ = some (.int .u64 (e.o.ser : Int)) ∧ w'.cell? ⟨qb, ob + i * 5 + 1, none⟩ = some (.int .i64 e.o.kind) ∧ w'.cell? ⟨qb, ob + i * 5 + 2, none⟩ = some (.int .i64 e.o.site) ∧ w'.cell? ⟨qb, ob + i * 5 + 3, none⟩ = some (.slice pa e.o.ps.length pc) ∧ w'.cell? ⟨qb, ob + i * 5 + 4, none⟩ = some (.slice ra e.o.rs.length rc)) := fun w' b' => by
                    have b9 := C3.out.trans (b'.mono C3.out.size)
                    obtain ⟨-, -, hg, hc⟩ := HX.out w' (HB5.out.trans (b9.mono HB5.out.size))
                    obtain ⟨qb', ob', pa', pc', ra', rc', eoa', ep', er', lp', hobs', d0, d1, d2, d3, d4⟩ := hg.obj he
                    rw [eoa] at eoa'
                    simp only [Option.some.injEq, Addr.mk.injEq, and_true] at eoa'
                    obtain ⟨rfl, rfl⟩ := eoa'
                    rw [ep] at ep'
                    rw [er] at er'
                    simp only [Value.slice.injEq, true_and] at ep' er'
                    obtain ⟨rfl, rfl⟩ := ep'
                    obtain ⟨rfl, rfl⟩ := er'
                    refine ⟨⟨b9, C4.out.touch (Kg.Touch.of_below b' []) (by simp)⟩, ?_, d0, d1, d2, d3, d4⟩
                    rw [← eoa]
                    exact hc 0 _ rfl
                  have HQ : Hid (∀ w', Below wr.heap.size wr w' → Calls Tryz.prog 16 #[.agg (ocs e.o.ser e.o.kind e.o.site (.slice pa e.o.ps.length pc) (.slice ra e.o.rs.length rc))] w' fun e' w'' => e' = .returned (.int .i64 (2 + e.o.ps.length + e.o.rs.length : Nat)) ∧ Below w'.heap.size w' w'') := fun w' b' => by
                    obtain ⟨-, hn, hg, -⟩ := HX.out wr (HB5.out.trans (C3.out.mono HB5.out.size))
                    have b9 : Below A wr w' := b'.mono hn
                    have q := words17_any A w' e (lq.below b9) (lr.below b9) (by omega)
                    have ec : e.cells = ocs e.o.ser e.o.kind e.o.site (.slice pa e.o.ps.length pc) (.slice ra e.o.rs.length rc) := by
                      show ocs _ _ _ e.vp e.vr = _
                      rw [ep, er]
                    rw [ec] at q
                    exact q
                  have htb := tw_le (g := g) (k := i) (ps := ps) HC.out a
                  have htb2 : tw g i ps a ≤ 3000000000000 := by
                    have : (i + 1) * 1048578 ≤ 1048577 * 1048578 := Nat.mul_le_mul_right _ (by omega)
                    omega
                  have HTW : Hid (∀ x, tw g i (ps ++ [a]) x = if x = a then tw g i ps a + wd17 g (i + 1) else tw g i ps x) := fun x => tw_step C1.out ha0 x
                  clear hg ep er lp hobs lq lr he htb
                  subst eoa
                  generalize hwvv : 2 + e.o.ps.length + e.o.rs.length = wv at *
                  clear hwvv
                  generalize htv : tw g i ps a = tv at *
                  have HTV : Hid (tw g i ps a = tv) := htv
                  clear htv
                  have key0 : Below wr.heap.size wr wr.drew := below_drewN (Below.refl _ _) 1
                  obtain ⟨⟨kb, kf⟩, s0, t0, t1, t2, t3, t4⟩ := HVV.out _ key0
                  have cw := kf.cell ham
                  rw [HTV.out] at cw
                  have fw := kf.frozen a
                  have hqd := HQ.out _ key0
                  have hwr1 : IntKind.i64.wrap (i : Int) = (i : Int) := by rw [IntKind.wrap_i64]; omega
                  have hwr2 : IntKind.i64.wrap ((tv : Int) + (wv : Int)) = (tv : Int) + (wv : Int) := by rw [IntKind.wrap_i64]; omega
                  have hi00 : (0 : Int) ≤ (i : Int) := by omega
                  go_upto_region 23 with fail
                  obtain ⟨nI, hnI⟩ : ∃ nI : Int, nI = ((i + 1 : Nat) : Int) := ⟨_, rfl⟩
                  have HNI : Hid (nI = ((i + 1 : Nat) : Int)) := hnI
                  rw [← hnI]
                  rw [← hnI] at hiI hii
                  clear hnI
                  generalize decide (0 < a) = d108
                  go_cut [124] from 110 to 124 (fun _ wq => Hid (Below w5.heap.size w5 wq) ∧ Hid (Fy wq wb m (fun x => ((tw g i (ps ++ [a]) x : Nat) : Int))))
                  case first =>
                    refine Kg.wp_region_E (S := fun w' => w'.cell? ⟨A, 0, none⟩ = some (.slice (some ⟨qb, ob, none⟩) os.length oc) ∧ w'.cell? ⟨qb, ob + i * 5, none⟩ = some (.int .u64 (e.o.ser : Int)) ∧ w'.cell? ⟨qb, ob + i * 5 + 1, none⟩ = some (.int .i64 e.o.kind) ∧ w'.cell? ⟨qb, ob + i * 5 + 2, none⟩ = some (.int .i64 e.o.site) ∧ w'.cell? ⟨qb, ob + i * 5 + 3, none⟩ = some (.slice pa e.o.ps.length pc) ∧ w'.cell? ⟨qb, ob + i * 5 + 4, none⟩ = some (.slice ra e.o.rs.length rc) ∧ w'.cell? ⟨wb, a, none⟩ = some (.int .i64 (tv : Nat))) 15 Kg.mixed ⟨s0, t0, t1, t2, t3, t4, cw⟩ (fun hHeld => ?_)
                    clear s0 t0 t1 t2 t3 t4 cw
                    refine Kg.wpAnyE_take (i := 0) (v := (.slice (some ⟨wb, 0, none⟩) m m)) (by kernel_rfl) (by decide) rfl (by kernel_rfl) (by kernel_rfl) (by kernel_rfl) (fun _ _ _ h => h) (Or.inl ⟨by rfl, fun w hSw => ?_⟩) (by assumption) ?_
                    · obtain ⟨s0, t0, t1, t2, t3, t4, cw⟩ := hSw
                      go_simp
                    change Kg.wpAnyE _ _ _ _ _ _ _ _ (Act.put _ (some 110) (.slice (some ⟨wb, 0, none⟩) m m)) _
                    simp only [Act.put, List.setIfInBounds_toArray, List.set_cons_zero, List.set_cons_succ]
                    refine Kg.wpAnyE_take (i := 1) (v := (.int .i64 (a : Nat))) (by kernel_rfl) (by decide) rfl (by kernel_rfl) (by kernel_rfl) (by kernel_rfl) (fun _ _ _ h => h) (Or.inl ⟨by rfl, fun w hSw => ?_⟩) (by assumption) ?_
                    · obtain ⟨s0, t0, t1, t2, t3, t4, cw⟩ := hSw
                      go_simp
                    change Kg.wpAnyE _ _ _ _ _ _ _ _ (Act.put _ (some 111) (.int .i64 (a : Nat))) _
                    simp only [Act.put, List.setIfInBounds_toArray, List.set_cons_zero, List.set_cons_succ]
                    refine Kg.wpAnyE_take (i := 2) (v := (.slice (some ⟨wb, 0, none⟩) m m)) (by kernel_rfl) (by decide) rfl (by kernel_rfl) (by kernel_rfl) (by kernel_rfl) (fun _ _ _ h => h) (Or.inl ⟨by rfl, fun w hSw => ?_⟩) (by assumption) ?_
                    · obtain ⟨s0, t0, t1, t2, t3, t4, cw⟩ := hSw
                      go_simp
                    change Kg.wpAnyE _ _ _ _ _ _ _ _ (Act.put _ (some 112) (.slice (some ⟨wb, 0, none⟩) m m)) _
                    simp only [Act.put, List.setIfInBounds_toArray, List.set_cons_zero, List.set_cons_succ]
                    refine Kg.wpAnyE_take (i := 3) (v := (.int .i64 (a : Nat))) (by kernel_rfl) (by decide) rfl (by kernel_rfl) (by kernel_rfl) (by kernel_rfl) (fun _ _ _ h => h) (Or.inl ⟨by rfl, fun w hSw => ?_⟩) (by assumption) ?_
                    · obtain ⟨s0, t0, t1, t2, t3, t4, cw⟩ := hSw
                      go_simp
                    change Kg.wpAnyE _ _ _ _ _ _ _ _ (Act.put _ (some 113) (.int .i64 (a : Nat))) _
                    simp only [Act.put, List.setIfInBounds_toArray, List.set_cons_zero, List.set_cons_succ]
                    refine Kg.wpAnyE_take (i := 4) (v := (.pointer (some ⟨wb, a, none⟩))) (by kernel_rfl) (by decide) rfl (by kernel_rfl) (by kernel_rfl) (by kernel_rfl) (fun _ _ _ h => h) (Or.inl ⟨by rfl, fun w hSw => ?_⟩) (by assumption) ?_
                    · obtain ⟨s0, t0, t1, t2, t3, t4, cw⟩ := hSw
                      go_simp
                    change Kg.wpAnyE _ _ _ _ _ _ _ _ (Act.put _ (some 114) (.pointer (some ⟨wb, a, none⟩))) _
                    simp only [Act.put, List.setIfInBounds_toArray, List.set_cons_zero, List.set_cons_succ]
                    refine Kg.wpAnyE_take (i := 5) (v := (.int .i64 (tv : Nat))) (by kernel_rfl) (by decide) rfl (by kernel_rfl) (by kernel_rfl) (by kernel_rfl) (fun _ _ _ h => h) (Or.inl ⟨by rfl, fun w hSw => ?_⟩) (by assumption) ?_
                    · obtain ⟨s0, t0, t1, t2, t3, t4, cw⟩ := hSw
                      go_simp
                    change Kg.wpAnyE _ _ _ _ _ _ _ _ (Act.put _ (some 115) (.int .i64 (tv : Nat))) _
                    simp only [Act.put, List.setIfInBounds_toArray, List.set_cons_zero, List.set_cons_succ]
                    refine Kg.wpAnyE_take (i := 6) (v := (.pointer (some ⟨A, 0, none⟩))) (by kernel_rfl) (by decide) rfl (by kernel_rfl) (by kernel_rfl) (by kernel_rfl) (fun _ _ _ h => h) (Or.inl ⟨by rfl, fun w hSw => ?_⟩) (by assumption) ?_
                    · obtain ⟨s0, t0, t1, t2, t3, t4, cw⟩ := hSw
                      go_simp
                    change Kg.wpAnyE _ _ _ _ _ _ _ _ (Act.put _ (some 116) (.pointer (some ⟨A, 0, none⟩))) _
                    simp only [Act.put, List.setIfInBounds_toArray, List.set_cons_zero, List.set_cons_succ]
                    refine Kg.wpAnyE_take (i := 7) (v := (.slice (some ⟨qb, ob, none⟩) os.length oc)) (by kernel_rfl) (by decide) rfl (by kernel_rfl) (by kernel_rfl) (by kernel_rfl) (fun _ _ _ h => h) (Or.inl ⟨by rfl, fun w hSw => ?_⟩) (by assumption) ?_
                    · obtain ⟨s0, t0, t1, t2, t3, t4, cw⟩ := hSw
                      go_simp
                    change Kg.wpAnyE _ _ _ _ _ _ _ _ (Act.put _ (some 117) (.slice (some ⟨qb, ob, none⟩) os.length oc)) _
                    simp only [Act.put, List.setIfInBounds_toArray, List.set_cons_zero, List.set_cons_succ]
                    refine Kg.wpAnyE_take (i := 8) (v := (.int .i64 nI)) (by kernel_rfl) (by decide) rfl (by kernel_rfl) (by kernel_rfl) (by kernel_rfl) (fun _ _ _ h => h) (Or.inl ⟨by rfl, fun w hSw => ?_⟩) (by assumption) ?_
                    · obtain ⟨s0, t0, t1, t2, t3, t4, cw⟩ := hSw
                      go_simp
                    change Kg.wpAnyE _ _ _ _ _ _ _ _ (Act.put _ (some 118) (.int .i64 nI)) _
                    simp only [Act.put, List.setIfInBounds_toArray, List.set_cons_zero, List.set_cons_succ]
                    refine Kg.wpAnyE_take (i := 9) (v := (.int .i64 (i : Nat))) (by kernel_rfl) (by decide) rfl (by kernel_rfl) (by kernel_rfl) (by kernel_rfl) (fun _ _ _ h => h) (Or.inl ⟨by rfl, fun w hSw => ?_⟩) (by assumption) ?_
                    · obtain ⟨s0, t0, t1, t2, t3, t4, cw⟩ := hSw
                      go_simp
                    change Kg.wpAnyE _ _ _ _ _ _ _ _ (Act.put _ (some 119) (.int .i64 (i : Nat))) _
                    simp only [Act.put, List.setIfInBounds_toArray, List.set_cons_zero, List.set_cons_succ]
                    refine Kg.wpAnyE_take (i := 10) (v := (.pointer (some ⟨qb, ob + i * 5, none⟩))) (by kernel_rfl) (by decide) rfl (by kernel_rfl) (by kernel_rfl) (by kernel_rfl) (fun _ _ _ h => h) (Or.inl ⟨by rfl, fun w hSw => ?_⟩) (by assumption) ?_
                    · obtain ⟨s0, t0, t1, t2, t3, t4, cw⟩ := hSw
                      go_simp
                    change Kg.wpAnyE _ _ _ _ _ _ _ _ (Act.put _ (some 120) (.pointer (some ⟨qb, ob + i * 5, none⟩))) _
                    simp only [Act.put, List.setIfInBounds_toArray, List.set_cons_zero, List.set_cons_succ]
                    refine Kg.wpAnyE_take (i := 11) (v := (.agg (ocs e.o.ser e.o.kind e.o.site (.slice pa e.o.ps.length pc) (.slice ra e.o.rs.length rc)))) (by kernel_rfl) (by decide) rfl (by kernel_rfl) (by kernel_rfl) (by kernel_rfl) (fun _ _ _ h => h) (Or.inl ⟨by rfl, fun w hSw => ?_⟩) (by assumption) ?_
                    · obtain ⟨s0, t0, t1, t2, t3, t4, cw⟩ := hSw
                      go_simp
                    change Kg.wpAnyE _ _ _ _ _ _ _ _ (Act.put _ (some 121) (.agg (ocs e.o.ser e.o.kind e.o.site (.slice pa e.o.ps.length pc) (.slice ra e.o.rs.length rc)))) _
                    simp only [Act.put, List.setIfInBounds_toArray, List.set_cons_zero, List.set_cons_succ]
                    refine Kg.wpAnyE_one (i := 12) (by kernel_rfl) rfl (fun K hK => ?_)
                    go_simp
                    refine hqd.mono ?_
                    rintro e9 w8 ⟨rfl, b8⟩
                    obtain ⟨⟨kb8, kf8⟩, s0, t0, t1, t2, t3, t4⟩ := HVV.out _ (key0.trans (b8.mono key0.size))
                    have cw := kf8.cell ham
                    rw [HTV.out] at cw
                    have HK8 : Hid (Below w5.heap.size w5 w8 ∧ Fy w8 wb m (fun x => ((tw g i ps x : Nat) : Int))) := ⟨kb8, kf8⟩
                    refine hK.out _ _ ⟨s0, t0, t1, t2, t3, t4, cw⟩ (fun hHeld2 => ?_)
                    clear hK K s0 t0 t1 t2 t3 t4 cw kb8 kf8 hHeld
                    refine Kg.wpAnyE_take (i := 13) (v := (.int .i64 ((tv + wv : Nat) : Int))) (by kernel_rfl) (by decide) rfl (by kernel_rfl) (by kernel_rfl) (by kernel_rfl) (fun _ _ _ h => h) (Or.inl ⟨by rfl, fun w hSw => ?_⟩) (by assumption) ?_
                    · obtain ⟨s0, t0, t1, t2, t3, t4, cw⟩ := hSw
                      go_simp
                    change Kg.wpAnyE _ _ _ _ _ _ _ _ (Act.put _ (some 123) (.int .i64 ((tv + wv : Nat) : Int))) _
                    simp only [Act.put, List.setIfInBounds_toArray, List.set_cons_zero, List.set_cons_succ]
                    refine Kg.wpAnyE_take (i := 14) (v := (.pointer (some ⟨wb, a, none⟩))) (by kernel_rfl) (by decide) rfl (by kernel_rfl) (by kernel_rfl) (by kernel_rfl) (fun _ _ _ h => h) (Or.inl ⟨by rfl, fun w hSw => ?_⟩) (by assumption) ?_
                    · obtain ⟨s0, t0, t1, t2, t3, t4, cw⟩ := hSw
                      go_simp
                    change Kg.wpAnyE _ _ _ _ _ _ _ _ (Act.put _ (some 124) (.pointer (some ⟨wb, a, none⟩))) _
                    simp only [Act.put, List.setIfInBounds_toArray, List.set_cons_zero, List.set_cons_succ]
                    refine Kg.wpAnyE_last (by kernel_rfl) (by kernel_rfl) rfl (fun K hK => ?_)
                    have cw := hHeld2.2.2.2.2.2.2
                    have fw8 := HK8.out.2.frozen a
                    clear hHeld2
                    go_simp
                    refine hK.out _ _ ?_
                    clear hK K
                    have N1 : Hid (Below w5.heap.size w5 (w8.setCell ⟨wb, a, none⟩ (.int .i64 ((tv : Int) + (wv : Int))))) := HK8.out.1.setCell (by rw [HWB.out]; exact Nat.le_refl _) _
                    have N2 : Hid (Fy (w8.setCell ⟨wb, a, none⟩ (.int .i64 ((tv : Int) + (wv : Int)))) wb m (fun x => ((tw g i (ps ++ [a]) x : Nat) : Int))) := (HK8.out.2.set ham ((tv : Int) + (wv : Int))).congr (fun x _ => by
                      rw [HTW.out x]
                      by_cases e : x = a
                      · rw [if_pos e, if_pos e, HWD.out]; omega
                      · rw [if_neg e, if_neg e])
                    go_wp2_with fail
                    go_meet
                    exact ⟨N1, N2⟩
                  case rest =>
                    obtain ⟨N1, N2⟩ := hcut
                    apply_assumption
                    have hnI := HNI.out
                    subst hnI
                    clear HVV HQ HTW C4 kb kf s0 t0 t1 t2 t3 t4 cw fw hqd hwr1 hwr2 cb
                    obtain ⟨a', rfl⟩ : ∃ a', a = a' + 1 := ⟨a - 1, by omega⟩
                    obtain ⟨z', hz'⟩ : ∃ z, l2[a']? = some z := ⟨_, List.getElem?_eq_getElem (by have := HM2.out; omega)⟩
                    have hra : Rv (wy17 g) 0 (a' + 1) := by
                      rcases hda with h | h
                      · rw [← h]; exact hrv
                      · exact h.2.2.2.2.1
                    obtain ⟨b, rfl, hids⟩ : ∃ b : Nat, z' = b ∧ Ids (wy17 g) b (a' + 1) := by
                      rcases HD.out.2 a' z' hz' with ⟨-, b, h1, h2⟩ | ⟨h1, -⟩
                      · exact ⟨b, h1, h2⟩
                      · exact absurd hra h1
                    have cd := HCd.out wc N1.out a' _ hz'
                    have HCn : Hid (Cn (wy17 g) os.length (i + 1) b (ps ++ [a' + 1])) := C1.out.step (by omega) hids (fun x hx => by have := rv_in HK.out hx; have := HOL.out; omega)
                    have hlen := HCn.out.len
                    rw [List.length_append, List.length_singleton] at hlen
                    have hbM : b ≤ os.length := by
                      rcases HCn.out.at_ with h | h
                      · omega
                      · exact h.1.2
                    have haI : ((a' + 1 : Nat) : Int) - 1 = (a' : Int) := by omega
                    have haoI : (a' : Int) < (os.length : Int) := by omega
                    have C2' : Hid (true = false → ps ++ [a' + 1] = []) := fun h => by cases h
                    have h1I : ¬ ((ps.length : Int) + 1 > (os.length : Int)) := by omega
                    have h2I : ¬ ((b : Int) < 0) := by omega
                    have h3I : ¬ ((b : Int) > (os.length : Int)) := by omega
                    clear hra hids hz' hda hrv C1 C2 C3
                    go_wp2
                    go_roundw
                    case rel => exact ⟨b, ps ++ [a' + 1], rfl, by rw [List.length_append]; rfl, HCn, C2', N1, N2⟩
                    case measure => simp [intOf]; omega
          · have hii : ¬ ((i + 1 : Nat) : Int) < (m : Int) := by omega
            have e9 : i = os.length := by have := HMM.out; omega
            have HW : Hid (Fy wr wb m (fun x => ((wt (wd17 g) (wy17 g) os.length x : Nat) : Int))) := by rw [← e9]; exact Hf
            have HW3 : Hid (∀ k, k < os.length → l3[k]? = some ((wt (wd17 g) (wy17 g) os.length (k + 1) : Nat) : Int)) := fun k hk => by
              have h1 := dr_wt HK.out HR.out HNE.out (i := k) (by rw [HOL.out]; exact hk)
              rw [HOL.out] at h1
              exact h1
            clear Hf e9
            go_wp2
            go_loopw [13] (fun v13 wq => ∃ k : Nat, v13 = .int .i64 (k : Nat) ∧ k ≤ os.length ∧ Hid (Below w5.heap.size w5 wq) ∧ Hid (Fy wq wb m (fun x => ((wt (wd17 g) (wy17 g) os.length x : Nat) : Int)))) (fun v13 _ => os.length - (intOf v13).toNat)
            case atStart => exact ⟨0, rfl, Nat.zero_le _, Hb, HW⟩
            case round =>
              clear Hb HW
              obtain ⟨k, rfl, hk, Hb, Hf⟩ := hrel
              by_cases hkl : k < os.length
              · have hkI : (k : Int) < (os.length : Int) := by omega
                have hkm : k + 1 < m := by have := HMM.out; omega
                have hkmI : (k : Int) + 1 < (m : Int) := by omega
                have cw := Hf.out.cell hkm
                obtain ⟨z, hz⟩ : ∃ z, l2[k]? = some z := ⟨_, List.getElem?_eq_getElem (by have := HM2.out; omega)⟩
                obtain ⟨pa2, pc2, ep2, -, hp2⟩ := (HO2.out.below Hb.out)
                simp only [Value.slice.injEq] at ep2
                obtain ⟨rfl, -, rfl⟩ := ep2
                obtain ⟨qd, qo, rfl, -, cd⟩ := hp2 k z hz
                obtain ⟨pa3, pc3, ep3, -, hp3⟩ := (HO3.out.below Hb.out)
                simp only [Value.slice.injEq] at ep3
                obtain ⟨rfl, -, rfl⟩ := ep3
                obtain ⟨q3, o3, rfl, -, cl⟩ := hp3 k _ (HW3.out k hkl)
                have hzd := HD.out.2 k z hz
                generalize htx : wt (wd17 g) (wy17 g) os.length (k + 1) = tx at *
                have HTX : Hid (wt (wd17 g) (wy17 g) os.length (k + 1) = tx) := htx
                clear htx hz
                go_upto_region 31 with fail
                go_cut [183] from 152 to 183 (fun v wq => v = .bool false ∧ ∃ nq, wq = wr.drewN nq)
                case first =>
                  rcases hzd with ⟨h1, b, rfl, h2⟩ | ⟨h1, rfl⟩
                  · by_cases hb0 : b = 0
                    · subst hb0
                      have hd0 : decide ((0 : Int) < ((0 : Nat) : Int)) = false := rfl
                      clear h1 h2 hp2 hp3
                      go_quiet (fail)
                      go_wp2_with fail
                      go_meet
                      exact ⟨rfl, _, rfl⟩
                    · have h3 := wt_more HK.out h2 hb0
                      rw [HOL.out, HTX.out] at h3
                      obtain ⟨b', rfl⟩ : ∃ b', b = b' + 1 := ⟨b - 1, by omega⟩
                      obtain ⟨q3', o3', e3, -, cl2⟩ := hp3 b' _ (HW3.out b' (by omega))
                      cases e3
                      generalize wt (wd17 g) (wy17 g) os.length (b' + 1) = ty at *
                      have hbI : ((b' + 1 : Nat) : Int) - 1 = (b' : Int) := by omega
                      have hbo : (b' : Int) < (os.length : Int) := by omega
                      have hd0 : decide ((0 : Int) < ((b' + 1 : Nat) : Int)) = true := decide_eq_true (by omega)
                      have hd1 : decide ((ty : Int) ≤ (tx : Int)) = false := decide_eq_false (by omega)
                      have hd2 : ¬ ((ty : Int) ≤ (tx : Int)) := by omega
                      clear h1 h2 h3 hp2 hp3 hb0
                      go_quiet (fail)
                      go_wp2_with fail
                      go_meet
                      exact ⟨rfl, _, rfl⟩
                  · clear h1 hp2 hp3
                    go_quiet (fail)
                    go_wp2_with fail
                    go_meet
                    exact ⟨rfl, _, rfl⟩
                case rest =>
                obtain ⟨rfl, nq, rfl⟩ := hcut
                apply_assumption
                have Hb1 : Hid (Below w5.heap.size w5 (wr.drewN nq)) := below_drewN Hb.out nq
                have Hf1 : Hid (Fy (wr.drewN nq) wb m (fun x => ((wt (wd17 g) (wy17 g) os.length x : Nat) : Int))) := Hf.out.touch (Kg.Touch.of_below (below_drewN (Below.refl wr.heap.size wr) nq) []) (by simp)
                clear Hb Hf cw cd cl hp2 hp3 hzd
                generalize wr.drewN nq = w7 at *
                go_wp2
                go_roundw
                case rel => exact ⟨k + 1, by go_num, by omega, Hb1, Hf1⟩
                case measure => simp [intOf]; omega
              · have hkI : ¬ (k : Int) < (os.length : Int) := by omega
                have HE : Hid (Below w.heap.size w wr) := (HX.out wr (HB5.out.trans (Hb.out.mono HB5.out.size))).1
                go_wp2
                go_ret
                exact ⟨rfl, HE.out⟩
end Go.Proofs.YtkekaifiahjljaaGreatDoor
