import Derived.Test.YtkekaifiahjljaaGreatDoorC15
import Derived.Test.YtkekaifiahjljaaGreatDoorC28
import Derived.Test.YtkekaifiahjljaaGreatDoorC42
import Derived.Test.YtkekaifiahjljaaGreatDoorC45
set_option linter.unusedVariables false
set_option maxHeartbeats 8000000
set_option maxRecDepth 20000
namespace Go.Proofs.YtkekaifiahjljaaGreatDoor
open Go.RowKit Go.Shelf Go.Proofs.YtkekaifiahjljaaGreatDoor.Lt
set_option maxHeartbeats 16000000 in
theorem cut17L_any (w : World) (hL : Laid w) (vo vs vh vr vq : Value) (os : List OL) (ts : List (Value × List (Value × List Int))) (g : Im.Gr) (hg : Grd w.heap.size w vo vs vh vr vq os ts g) (hz : gsz os ts g ≤ 1048576) (n : Int) (hni : InI n) :
    Calls Tryz.prog 5 #[.agg (gcs vo vs vh vr vq g.next), .int .i64 n] w fun e w' => e = .returned (.bool true) ∧ Below w.heap.size w w' := by
  have HBG : Hid (Big19 os ts g) := big19_of hz hg.eo hg.es
  have HZ : Hid (gsz os ts g ≤ 1048576) := hz
  have HOL : Hid (g.obs.length = os.length) := by show _ = _; rw [hg.eo, List.length_map]
  have HL : Hid (∀ w', Below w.heap.size w w' → Laid w') := fun w' b' => hL.keep b'
  have l1 : Below w.heap.size w (w.alloc (.cells (gcs vo vs vh vr vq g.next) 27)) := Below.alloc (Below.refl _ _) (Nat.le_refl _) _
  have hx := heap_alloc_new w (.cells (gcs vo vs vh vr vq g.next) 27 (0, 0))
  obtain ⟨oa, oc, eo, -⟩ := id hg.ob
  subst eo
  generalize hW : w.alloc (.cells (gcs (.slice oa os.length oc) vs vh vr vq g.next) 27) = W at *
  obtain ⟨A, hA⟩ : ∃ A, A = w.heap.size := ⟨_, rfl⟩
  have HX : Hid (∀ w', Below W.heap.size W w' → Below w.heap.size w w' ∧ A ≤ w'.heap.size ∧ Grd A w' (.slice oa os.length oc) vs vh vr vq os ts g ∧ ∀ j v, (gcs (.slice oa os.length oc) vs vh vr vq g.next)[j]? = some v → w'.cell? ⟨A, j, none⟩ = some v) := fun w' b' => by
    rw [hA]
    have b3 := l1.trans (b'.mono l1.size)
    exact ⟨b3, b3.size, hg.below b3, fun j v h => (Kg.heap_cell ((b'.block _ (Kg.heap_lt hx)).trans hx) j).trans h⟩
  have HG0 : Hid (Grd A w (.slice oa os.length oc) vs vh vr vq os ts g) := by show Grd _ _ _ _ _ _ _ _ _ _; rw [hA]; exact hg
  have q := known17_any W (hL.keep l1)
  clear hg hz hL l1 hx
  go_enter Tryz.func5, Tryz.ntmps5
  go_upto_region 1 with fail
  rw [← hA]
  clear hA hW
  go_wp2_with fail
  refine q.mono ?_
  rintro e w1 ⟨rfl, b1⟩
  have HB1 : Hid (Below W.heap.size W w1) := b1
  clear q b1
  obtain ⟨bw, hn, hg, hc⟩ := HX.out w1 HB1.out
  have y0 := hc 0 _ rfl
  have y1 := hc 1 _ rfl
  have y2 := hc 2 _ rfl
  have y3 := hc 3 _ rfl
  have y4 := hc 4 _ rfl
  have y5 := hc 5 _ rfl
  have q := lRetained_any A w1 _ _ _ _ _ os ts g hg hn (HL.out _ bw) HBG.out
  clear bw hn hg hc
  go_wp2_with fail
  refine q.mono ?_
  rintro e w3 ⟨v3, l3, e3, rfl, o3, c3, p3⟩
  have HP3 : Hid (Pr18 g l3 e3) := p3
  have HB3 : Hid (Below W.heap.size W w3) := HB1.out.trans (c3.mono HB1.out.size)
  have HO3 : Hid (Lrd w3.heap.size w3 v3 .i64 l3) := o3
  clear q o3 c3 p3 y0 y1 y2 y3 y4 y5 HB1
  obtain ⟨bw, hn, hg, hc⟩ := HX.out w3 HB3.out
  have y0 := hc 0 _ rfl
  have y1 := hc 1 _ rfl
  have y2 := hc 2 _ rfl
  have y3 := hc 3 _ rfl
  have y4 := hc 4 _ rfl
  have y5 := hc 5 _ rfl
  have q := refused17_any A w3 _ _ _ _ _ os ts g hg hn HBG.out.l
  clear bw hn hg hc
  rcases HP3.out with ⟨hm, rfl, rfl⟩ | ⟨hm, rfl, hd⟩
  · have HM : Hid (¬ MB g) := hm
    obtain ⟨a3, c3, ev3, -, -⟩ := id HO3.out
    subst ev3
    clear hm
    go_wp2_with fail
    refine q.mono ?_
    rintro e w4 ⟨r, rfl, b4, hr⟩
    have hr1 := hr.2 HM.out
    subst hr1
    have HE : Hid (Below w.heap.size w w4) := (HX.out w4 (HB3.out.trans (b4.mono HB3.out.size))).1
    clear q b4 hr y0 y1 y2 y3 y4 y5
    go_wp2
    go_ret
    exact ⟨rfl, HE.out⟩
  · have HM : Hid (MB g) := hm
    have HD : Hid (Dr17 g l3) := hd
    have HM3 : Hid (l3.length = os.length) := by show _ = _; rw [hd.1]; exact HOL.out
    obtain ⟨a3, c3, ev3, -, -⟩ := id HO3.out
    rw [HM3.out] at ev3
    subst ev3
    have HK : Hid (Ok17 g) := ok_of_mb HM.out
    clear hm hd HP3
    go_wp2_with fail
    refine q.mono ?_
    rintro e w4 ⟨r, rfl, b4, hr⟩
    have hr1 : r = false := by
      cases r with
      | false => rfl
      | true => exact absurd HM.out (hr.1 rfl)
    subst hr1
    have HB4 : Hid (Below W.heap.size W w4) := HB3.out.trans (b4.mono HB3.out.size)
    have HO4 : Hid (Lrd w4.heap.size w4 (.slice a3 os.length c3) .i64 l3) := (HO3.out.below b4).mono b4.size
    have hoI := HBG.out.o
    clear q b4 hr y0 y1 y2 y3 y4 y5 HO3 HB3
    have HE4 : Hid (Below w.heap.size w w4) := (HX.out w4 HB4.out).1
    by_cases hM0 : os.length = 0
    · have hM0I : (os.length : Int) = 0 := by omega
      go_wp2
      go_ret
      exact ⟨rfl, HE4.out⟩
    · have hMp : 0 < os.length := by omega
      have hMi : ((os.length : Int) == 0) = false := beq_eq_false_iff_ne.2 (by omega)
      have hM0I : ¬ (os.length : Int) = 0 := by omega
      clear HE4
      obtain ⟨hn1, hn2⟩ := hni
      go_upto_if 43 with fail
      obtain ⟨dn, hdn⟩ : ∃ d, d = decide (n < 0) := ⟨_, rfl⟩
      rw [← hdn]
      have HDn : Hid (dn = decide (n < 0)) := hdn
      clear hdn
      go_cut [1] from 44 to 46 (fun v wq => ∃ c : Nat, v = .int .i64 (c : Nat) ∧ c < 9223372036854775808 ∧ w4 = wq)
      case first =>
        cases dn with
        | true =>
          have hneg : n < 0 := of_decide_eq_true HDn.out.symm
          go_wp2
          go_meet
          exact ⟨(-(n + 1)).toNat, by rw [Int.toNat_of_nonneg (by omega)], by omega, rfl⟩
        | false =>
          have hneg : ¬ n < 0 := of_decide_eq_false HDn.out.symm
          go_wp2
          go_meet
          exact ⟨n.toNat, by rw [Int.toNat_of_nonneg (by omega)], by omega, rfl⟩
      case rest =>
      obtain ⟨c, rfl, hc, rfl⟩ := hcut
      apply_assumption
      have hcI : (c : Int) < 9223372036854775808 := by omega
      obtain ⟨k, hk⟩ : ∃ k, k = c % os.length := ⟨_, rfl⟩
      have hkl : k < os.length := by rw [hk]; exact Nat.mod_lt _ hMp
      have hrem : (c : Int) % (os.length : Int) = (k : Int) := by rw [hk]; exact (Int.natCast_emod c os.length).symm
      have h1k : 1 + (k : Int) = ((k + 1 : Nat) : Int) := by omega
      clear hk
      go_upto_region 13 with fail
      obtain ⟨bw, hn, hg, hc9⟩ := HX.out w4 HB4.out
      have y0 := hc9 0 _ rfl
      have y1 := hc9 1 _ rfl
      have y2 := hc9 2 _ rfl
      have y3 := hc9 3 _ rfl
      have y4 := hc9 4 _ rfl
      have y5 := hc9 5 _ rfl
      have q := reach17L_any A w4 _ _ _ _ _ os ts g hg hn HBG.out.s (by have := HBG.out.e; omega) HK.out HBG.out.o (fun x hx => by have := HBG.out.r x hx; omega)
      clear bw hn hg hc9 hc hrem hcI
      go_wp2_with fail
      refine q.mono ?_
      rintro e w5 ⟨ib, ins, rfl, hib, hf, hre, b5⟩
      have HB5 : Hid (Below W.heap.size W w5) := HB4.out.trans (b5.mono HB4.out.size)
      have HO5 : Hid (Lrd w5.heap.size w5 (.slice a3 os.length c3) .i64 l3) := (HO4.out.below b5).mono b5.size
      have HRe : Hid (∀ x, ins x = true ↔ Re (wy17 g) (pe17 g) 0 x) := hre
      obtain ⟨m, hm⟩ : ∃ m, m = os.length + 1 := ⟨_, rfl⟩
      have HF0 : Hid (Fb w5 ib (os.length + 1) ins) := hf
      rw [← hm] at hf ⊢
      have HF : Hid (Fb w5 ib m ins) := hf
      have HMM : Hid (m = os.length + 1) := hm
      have hm1 : m ≤ 1048577 := by omega
      clear q b5 hf hre hm hib y0 y1 y2 y3 y4 y5 HO4 HB4
      have hkm : k + 1 < m := by have := HMM.out; omega
      have hkmI : (k : Int) + 1 < (m : Int) := by omega
      have hkmI2 : ((k + 1 : Nat) : Int) < (m : Int) := by omega
      have cb := HF.out.cell hkm
      obtain ⟨bi, hbi⟩ : ∃ bi, bi = ins (k + 1) := ⟨_, rfl⟩
      rw [← hbi] at cb
      have HBI : Hid (bi = ins (k + 1)) := hbi
      clear hbi
      obtain ⟨z, hz⟩ : ∃ z, l3[k]? = some z := ⟨_, List.getElem?_eq_getElem (by have := HM3.out; omega)⟩
      obtain ⟨pa3, pc3, ep3, -, hp3⟩ := id HO5.out
      simp only [Value.slice.injEq] at ep3
      obtain ⟨rfl, -, rfl⟩ := ep3
      obtain ⟨q3, o3, rfl, -, cl⟩ := hp3 k z hz
      have HCl : Hid (∀ w', Below w5.heap.size w5 w' → w'.cell? ⟨q3, o3 + k, none⟩ = some (.int .i64 z)) := fun w' b' => by
        obtain ⟨_, _, ep3', -, hp3'⟩ := HO5.out.below b'
        simp only [Value.slice.injEq] at ep3'
        obtain ⟨rfl, -, rfl⟩ := ep3'
        obtain ⟨_, _, e9, -, cl'⟩ := hp3' k z hz
        cases e9
        exact cl'
      have hzd := HD.out.2 k z hz
      rw [HOL.out] at hzd
      have hkI : (k : Int) < (os.length : Int) := by omega
      have hk1I : ((k + 1 : Nat) : Int) - 1 = (k : Int) := by omega
      clear hp3 hz
      cases bi with
      | false =>
        have hz0 : z = 0 := by
          rcases hzd with ⟨h1, -⟩ | ⟨-, h⟩
          · have := (HRe.out _).2 h1
            rw [← HBI.out] at this
            cases this
          · exact h
        subst hz0
        have HE : Hid (Below w.heap.size w w5) := (HX.out w5 HB5.out).1
        clear hzd
        go_wp2
        go_ret
        exact ⟨rfl, HE.out⟩
      | true =>
        obtain ⟨hre, hzz⟩ : Re (wy17 g) (pe17 g) 0 (k + 1) ∧ z = (rs (wd17 g) (wy17 g) (pe17 g) os.length 0 : Int) - (rs (wd17 g) (wy17 g) (pe17 g) os.length (k + 1) : Int) := by
          rcases hzd with h | ⟨h1, -⟩
          · exact h
          · exact absurd ((HRe.out _).1 HBI.out.symm) h1
        have HC : Hid (∀ x, wd17 g x ≤ 1048578) := fun x => by
          unfold wd17
          split
          · omega
          · split
            · rename_i o ho
              have h1 := List.mem_of_getElem? ho
              rw [(HG0.out).eo] at h1
              obtain ⟨y, hy, rfl⟩ := List.mem_map.1 h1
              have := HBG.out.r y hy
              omega
            · omega
        obtain ⟨bw, hn, hg, hc9⟩ := HX.out w5 HB5.out
        have y0 := hc9 0 _ rfl
        have y1 := hc9 1 _ rfl
        have y2 := hc9 2 _ rfl
        have y3 := hc9 3 _ rfl
        have y4 := hc9 4 _ rfl
        have y5 := hc9 5 _ rfl
        have q := sum17L_any A w5 _ _ _ _ _ os ts g hg hn (fun x => Nat.le_trans (HC.out x) (by decide)) (by omega) ib ins HF0.out
        rw [← HMM.out] at q
        have hwh : smb (wd17 g) ins os.length = rs (wd17 g) (wy17 g) (pe17 g) os.length 0 := by
          unfold rs
          exact smb_sm (fun x => HRe.out x) _
        rw [hwh] at q
        have hbet := rs_between (w := wd17 g) (M := os.length) (wy_nz g) (pe_nz HK.out) hre ⟨by omega, by omega⟩
        have hwB : rs (wd17 g) (wy17 g) (pe17 g) os.length 0 ≤ 3000000000000 := by
          rw [← hwh]
          have h1 := smb_le (ins := ins) HC.out os.length
          have : os.length * 1048578 ≤ 1048576 * 1048578 := Nat.mul_le_mul_right _ hoI
          omega
        obtain ⟨wh, hwhe⟩ : ∃ wh, wh = rs (wd17 g) (wy17 g) (pe17 g) os.length 0 := ⟨_, rfl⟩
        obtain ⟨sn, hsne⟩ : ∃ sn, sn = rs (wd17 g) (wy17 g) (pe17 g) os.length (k + 1) := ⟨_, rfl⟩
        have HSn : Hid (sn = rs (wd17 g) (wy17 g) (pe17 g) os.length (k + 1)) := hsne
        rw [← hwhe, ← hsne] at hzz
        rw [← hwhe] at q hbet hwB
        rw [← hsne] at hbet
        subst hzz
        clear bw hg hn hc9 hwh hwhe hsne hre hzd
        go_wp2_with fail
        refine q.mono ?_
        rintro e w7 ⟨rfl, b7⟩
        have HB7 : Hid (Below W.heap.size W w7) := HB5.out.trans (b7.mono HB5.out.size)
        have HB57 : Hid (Below w5.heap.size w5 w7) := b7
        clear q b7 y0 y1 y2 y3 y4 y5 cb cl
        obtain ⟨e, he⟩ : ∃ e, os[k]? = some e := ⟨_, List.getElem?_eq_getElem hkl⟩
        obtain ⟨-, hn7, hg, -⟩ := HX.out w7 HB7.out
        obtain ⟨qb, ob, pa, pc, ra, rc, eoa, ep, er, lp, hobs, -⟩ := hg.obj he
        obtain ⟨lq, lr⟩ : Lrd A w7 e.vp .i64 e.o.ps ∧ Lrd A w7 e.vr .u64 (e.o.rs.map Int.ofNat) := by
          obtain ⟨_, _, _, h9⟩ := hg.ob
          exact ⟨(h9 k e he).1, (h9 k e he).2.1⟩
        have HWD : Hid (wd17 g (k + 1) = 2 + e.o.ps.length + e.o.rs.length) := by
          show _ = _
          unfold wd17
          rw [if_neg (by omega), Nat.add_sub_cancel, hobs]
        have hwv := HC.out (k + 1)
        rw [HWD.out] at hwv hbet
        subst eoa
        have HVV : Hid (∀ w', Below w7.heap.size w7 w' → Below W.heap.size W w' ∧ w'.cell? ⟨A, 0, none⟩ = some (.slice (some ⟨qb, ob, none⟩) os.length oc) ∧ w'.cell? ⟨A, 1, none⟩ = some vs ∧ w'.cell? ⟨A, 2, none⟩ = some vh ∧ w'.cell? ⟨A, 3, none⟩ = some vr ∧ w'.cell? ⟨A, 4, none⟩ = some vq ∧ w'.cell? ⟨A, 5, none⟩ = some (.int .u64 (g.next : Int)) ∧ w'.cell? ⟨q3, o3 + k, none⟩ = some (.int .i64 ((wh : Int) - (sn : Int))) ∧ w'.cell? ⟨qb, ob + k * 5, none⟩ = some (.int .u64 (e.o.ser : Int)) ∧ w'.cell? ⟨qb, ob + k * 5 + 1, none⟩ = some (.int .i64 e.o.kind) ∧ w'.cell? ⟨qb, ob + k * 5 + 2, none⟩ = some (.int .i64 e.o.site) ∧ w'.cell? ⟨qb, ob + k * 5 + 3, none⟩ = some (.slice pa e.o.ps.length pc) ∧ w'.cell? ⟨qb, ob + k * 5 + 4, none⟩ = some (.slice ra e.o.rs.length rc)) := fun w' b' => by
          have b9 := HB7.out.trans (b'.mono HB7.out.size)
          obtain ⟨-, -, hg, hc⟩ := HX.out w' b9
          obtain ⟨qb', ob', pa', pc', ra', rc', eoa', ep', er', lp', hobs', d0, d1, d2, d3, d4⟩ := hg.obj he
          simp only [Option.some.injEq, Addr.mk.injEq, and_true] at eoa'
          obtain ⟨rfl, rfl⟩ := eoa'
          rw [ep] at ep'
          rw [er] at er'
          simp only [Value.slice.injEq, true_and] at ep' er'
          obtain ⟨rfl, rfl⟩ := ep'
          obtain ⟨rfl, rfl⟩ := er'
          exact ⟨b9, hc 0 _ rfl, hc 1 _ rfl, hc 2 _ rfl, hc 3 _ rfl, hc 4 _ rfl, hc 5 _ rfl, HCl.out w' (HB57.out.trans (b'.mono HB57.out.size)), d0, d1, d2, d3, d4⟩
        have HQ1 : Hid (∀ w', Below w7.heap.size w7 w' → Calls Tryz.prog 18 #[.agg (gcs (.slice (some ⟨qb, ob, none⟩) os.length oc) vs vh vr vq g.next), .int .i64 ((k : Int) + 1)] w' fun e w'' => ∃ (vo' vs' vh' vr' vq' : Value) (os' : List OL) (ts' : List (Value × List (Value × List Int))), e = .returned (.agg (gcs vo' vs' vh' vr' vq' (cutG ((k + 1 : Nat) : Int) g).next)) ∧ Grd w''.heap.size w'' vo' vs' vh' vr' vq' os' ts' (cutG ((k + 1 : Nat) : Int) g) ∧ os'.length = os.length ∧ Sln ts' ∧ (∀ y, y ∈ os' → y.o.ps.length ≤ 1048576) ∧ Below w'.heap.size w' w'') := fun w' b' => by
          obtain ⟨-, hn', hg', -⟩ := HX.out w' (HVV.out w' b').1
          exact without17_any A w' _ _ _ _ _ os ts g hg' hn' HBG.out HZ.out ((k + 1 : Nat) : Int)
        have HQ2 : Hid (∀ w', Below w7.heap.size w7 w' → ∀ ib ins, Fb w' ib (os.length + 1) ins → Calls Tryz.prog 17 #[.agg (gcs (.slice (some ⟨qb, ob, none⟩) os.length oc) vs vh vr vq g.next), .slice (some ⟨ib, 0, none⟩) (os.length + 1) (os.length + 1)] w' fun e w'' => e = .returned (.int .i64 (smb (wd17 g) ins os.length : Nat)) ∧ Below w'.heap.size w' w'') := fun w' b' ib ins hf => by
          obtain ⟨-, hn', hg', -⟩ := HX.out w' (HVV.out w' b').1
          exact sum17L_any A w' _ _ _ _ _ os ts g hg' hn' (fun x => Nat.le_trans (HC.out x) (by decide)) (Nat.le_trans HBG.out.o (by decide)) ib ins hf
        have HQ3 : Hid (∀ w', Below w7.heap.size w7 w' → Calls Tryz.prog 16 #[.agg (ocs e.o.ser e.o.kind e.o.site (.slice pa e.o.ps.length pc) (.slice ra e.o.rs.length rc))] w' fun e' w'' => e' = .returned (.int .i64 (2 + e.o.ps.length + e.o.rs.length : Nat)) ∧ Below w'.heap.size w' w'') := fun w' b' => by
          have b9 : Below A w7 w' := b'.mono hn7
          have q := words17_any A w' e (lq.below b9) (lr.below b9) (by omega)
          have ec : e.cells = ocs e.o.ser e.o.kind e.o.site (.slice pa e.o.ps.length pc) (.slice ra e.o.rs.length rc) := by
            show ocs _ _ _ e.vp e.vr = _
            rw [ep, er]
          rw [ec] at q
          exact q
        have HEl : Hid ((slotsF (cutG ((k + 1 : Nat) : Int) g).slots).length + (cutG ((k + 1 : Nat) : Int) g).hs.length + (cutG ((k + 1 : Nat) : Int) g).qu.length + (cutG ((k + 1 : Nat) : Int) g).rg.length ≤ 3145728) := by
          have h1 := HBG.out.e
          show (slotsF (g.slots.map _)).length + (cutZ _ g.hs).length + (cutZ _ g.qu).length + 0 ≤ _
          rw [cut_slots, cutZ_len, cutZ_len, cutZ_len]
          omega
        clear hg ep er lp hobs lq lr he hn7
        generalize hwvv : 2 + e.o.ps.length + e.o.rs.length = wv at *
        clear hwvv
        have key0 : Below w7.heap.size w7 w7.drew := below_drewN (Below.refl _ _) 1
        have hwr1 : IntKind.i64.wrap (k : Int) = (k : Int) := by rw [IntKind.wrap_i64]; omega
        have hwr2 : IntKind.i64.wrap ((wh : Int) - (sn : Int)) = (wh : Int) - (sn : Int) := by rw [IntKind.wrap_i64]; omega
        have hge : (wv : Int) ≤ (wh : Int) - (sn : Int) := by omega
        have hle : (wh : Int) - (sn : Int) ≤ (wh : Int) := by omega
        have hk00 : (0 : Int) ≤ (k : Int) := by omega
        go_upto_region 17 with fail
        refine wp_region_held_drew (S := fun w' => w'.cell? ⟨A, 0, none⟩ = some (.slice (some ⟨qb, ob, none⟩) os.length oc) ∧ w'.cell? ⟨A, 1, none⟩ = some vs ∧ w'.cell? ⟨A, 2, none⟩ = some vh ∧ w'.cell? ⟨A, 3, none⟩ = some vr ∧ w'.cell? ⟨A, 4, none⟩ = some vq ∧ w'.cell? ⟨A, 5, none⟩ = some (.int .u64 (g.next : Int)) ∧ w'.cell? ⟨q3, o3 + k, none⟩ = some (.int .i64 ((wh : Int) - (sn : Int))) ∧ w'.cell? ⟨qb, ob + k * 5, none⟩ = some (.int .u64 (e.o.ser : Int)) ∧ w'.cell? ⟨qb, ob + k * 5 + 1, none⟩ = some (.int .i64 e.o.kind) ∧ w'.cell? ⟨qb, ob + k * 5 + 2, none⟩ = some (.int .i64 e.o.site) ∧ w'.cell? ⟨qb, ob + k * 5 + 3, none⟩ = some (.slice pa e.o.ps.length pc) ∧ w'.cell? ⟨qb, ob + k * 5 + 4, none⟩ = some (.slice ra e.o.rs.length rc)) Kg.mixed (HVV.out _ key0).2 (fun hHeld => ?_)
        refine wpAnyH_take (i := 0) (v := (.slice (some ⟨q3, o3, none⟩) os.length c3)) rfl (by kernel_rfl) (by kernel_rfl) (by kernel_rfl) (fun _ _ _ h => h) (Or.inl ⟨by rfl, fun wx hSw => ?_⟩) (by assumption) ?_
        · obtain ⟨s0, s1, s2, s3, s4, s5, cl, t0, t1, t2, t3, t4⟩ := hSw
          go_simp
        change wpAnyH _ _ _ _ _ _ _ (Act.put _ (some 68) (.slice (some ⟨q3, o3, none⟩) os.length c3)) _
        simp only [Act.put, List.setIfInBounds_toArray, List.set_cons_zero, List.set_cons_succ]
        refine wpAnyH_take (i := 1) (v := (.int .i64 ((k : Int) + 1))) rfl (by kernel_rfl) (by kernel_rfl) (by kernel_rfl) (fun _ _ _ h => h) (Or.inl ⟨by rfl, fun wx hSw => ?_⟩) (by assumption) ?_
        · obtain ⟨s0, s1, s2, s3, s4, s5, cl, t0, t1, t2, t3, t4⟩ := hSw
          go_simp
        change wpAnyH _ _ _ _ _ _ _ (Act.put _ (some 69) (.int .i64 ((k : Int) + 1))) _
        simp only [Act.put, List.setIfInBounds_toArray, List.set_cons_zero, List.set_cons_succ]
        refine wpAnyH_take (i := 2) (v := (.int .i64 (k : Nat))) rfl (by kernel_rfl) (by kernel_rfl) (by kernel_rfl) (fun _ _ _ h => h) (Or.inl ⟨by rfl, fun wx hSw => ?_⟩) (by assumption) ?_
        · obtain ⟨s0, s1, s2, s3, s4, s5, cl, t0, t1, t2, t3, t4⟩ := hSw
          go_simp
        change wpAnyH _ _ _ _ _ _ _ (Act.put _ (some 70) (.int .i64 (k : Nat))) _
        simp only [Act.put, List.setIfInBounds_toArray, List.set_cons_zero, List.set_cons_succ]
        refine wpAnyH_take (i := 3) (v := (.pointer (some ⟨q3, o3 + k, none⟩))) rfl (by kernel_rfl) (by kernel_rfl) (by kernel_rfl) (fun _ _ _ h => h) (Or.inl ⟨by rfl, fun wx hSw => ?_⟩) (by assumption) ?_
        · obtain ⟨s0, s1, s2, s3, s4, s5, cl, t0, t1, t2, t3, t4⟩ := hSw
          go_simp
        change wpAnyH _ _ _ _ _ _ _ (Act.put _ (some 71) (.pointer (some ⟨q3, o3 + k, none⟩))) _
        simp only [Act.put, List.setIfInBounds_toArray, List.set_cons_zero, List.set_cons_succ]
        refine wpAnyH_take (i := 4) (v := (.int .i64 ((wh : Int) - (sn : Int)))) rfl (by kernel_rfl) (by kernel_rfl) (by kernel_rfl) (fun _ _ _ h => h) (Or.inl ⟨by rfl, fun wx hSw => ?_⟩) (by assumption) ?_
        · obtain ⟨s0, s1, s2, s3, s4, s5, cl, t0, t1, t2, t3, t4⟩ := hSw
          go_simp
        change wpAnyH _ _ _ _ _ _ _ (Act.put _ (some 72) (.int .i64 ((wh : Int) - (sn : Int)))) _
        simp only [Act.put, List.setIfInBounds_toArray, List.set_cons_zero, List.set_cons_succ]
        refine wpAnyH_take (i := 5) (v := (.int .i64 (wh : Nat))) rfl (by kernel_rfl) (by kernel_rfl) (by kernel_rfl) (fun _ _ _ h => h) (Or.inl ⟨by rfl, fun wx hSw => ?_⟩) (by assumption) ?_
        · obtain ⟨s0, s1, s2, s3, s4, s5, cl, t0, t1, t2, t3, t4⟩ := hSw
          go_simp
        change wpAnyH _ _ _ _ _ _ _ (Act.put _ (some 73) (.int .i64 (wh : Nat))) _
        simp only [Act.put, List.setIfInBounds_toArray, List.set_cons_zero, List.set_cons_succ]
        refine wpAnyH_take (i := 6) (v := (.agg (gcs (.slice (some ⟨qb, ob, none⟩) os.length oc) vs vh vr vq g.next))) rfl (by kernel_rfl) (by kernel_rfl) (by kernel_rfl) (fun _ _ _ h => h) (Or.inl ⟨by rfl, fun wx hSw => ?_⟩) (by assumption) ?_
        · obtain ⟨s0, s1, s2, s3, s4, s5, cl, t0, t1, t2, t3, t4⟩ := hSw
          go_simp
        change wpAnyH _ _ _ _ _ _ _ (Act.put _ (some 74) (.agg (gcs (.slice (some ⟨qb, ob, none⟩) os.length oc) vs vh vr vq g.next))) _
        simp only [Act.put, List.setIfInBounds_toArray, List.set_cons_zero, List.set_cons_succ]
        refine wpAnyH_take (i := 7) (v := (.agg (gcs (.slice (some ⟨qb, ob, none⟩) os.length oc) vs vh vr vq g.next))) rfl (by kernel_rfl) (by kernel_rfl) (by kernel_rfl) (fun _ _ _ h => h) (Or.inl ⟨by rfl, fun wx hSw => ?_⟩) (by assumption) ?_
        · obtain ⟨s0, s1, s2, s3, s4, s5, cl, t0, t1, t2, t3, t4⟩ := hSw
          go_simp
        change wpAnyH _ _ _ _ _ _ _ (Act.put _ (some 75) (.agg (gcs (.slice (some ⟨qb, ob, none⟩) os.length oc) vs vh vr vq g.next))) _
        simp only [Act.put, List.setIfInBounds_toArray, List.set_cons_zero, List.set_cons_succ]
        refine wpAnyH_take (i := 8) (v := (.int .i64 ((k : Int) + 1))) rfl (by kernel_rfl) (by kernel_rfl) (by kernel_rfl) (fun _ _ _ h => h) (Or.inl ⟨by rfl, fun wx hSw => ?_⟩) (by assumption) ?_
        · obtain ⟨s0, s1, s2, s3, s4, s5, cl, t0, t1, t2, t3, t4⟩ := hSw
          go_simp
        change wpAnyH _ _ _ _ _ _ _ (Act.put _ (some 76) (.int .i64 ((k : Int) + 1))) _
        simp only [Act.put, List.setIfInBounds_toArray, List.set_cons_zero, List.set_cons_succ]
        refine wpAnyH_ready (rs := [9]) (by kernel_rfl) (by simp) (AllReadyH.cons rfl (fun K hK => ?_) AllReadyH.nil)
        go_simp
        refine (HQ1.out _ key0).mono ?_
        rintro e9 w8 ⟨vo8, vs8, vh8, vr8, vq8, os8, ts8, rfl, hg8, hl8, hs8, hp8, b8⟩
        have key8 := key0.trans (b8.mono key0.size)
        have q8 := reach17L_any w8.heap.size w8 _ _ _ _ _ os8 ts8 _ hg8 (Nat.le_refl _) hs8 HEl.out (cut_ok HK.out) (by rw [hl8]; exact HBG.out.o) hp8
        refine hK.out _ _ (HVV.out _ key8).2 (fun hHeld2 => ?_)
        clear hK K hHeld
        refine wpAnyH_ready (rs := [10]) (by kernel_rfl) (by simp) (AllReadyH.cons rfl (fun K hK => ?_) AllReadyH.nil)
        go_simp
        refine q8.mono ?_
        rintro e9 w9 ⟨ib9, ins9, rfl, -, hf9, hr9, b9⟩
        have key9 := key8.trans (b9.mono key8.size)
        rw [hl8] at hf9
        have q9 := HQ2.out w9 key9 ib9 ins9 hf9
        rw [← HMM.out] at q9
        have hsn : smb (wd17 g) ins9 os.length = sn := by
          rw [HSn.out]
          unfold rs
          exact smb_sm (fun x => (hr9 x).trans (re_cut HK.out x)) _
        rw [hsn] at q9
        rw [hl8, ← HMM.out]
        refine hK.out _ _ (HVV.out _ key9).2 (fun hHeld3 => ?_)
        clear hK K hHeld2 q8
        refine wpAnyH_ready (rs := [11]) (by kernel_rfl) (by simp) (AllReadyH.cons rfl (fun K hK => ?_) AllReadyH.nil)
        go_simp
        refine q9.mono ?_
        rintro e9 wa ⟨rfl, ba⟩
        have keya := key9.trans (ba.mono key9.size)
        refine hK.out _ _ (HVV.out _ keya).2 (fun hHeld4 => ?_)
        clear hK K hHeld3 q9
        refine wpAnyH_take (i := 12) (v := (.int .i64 ((wh : Int) - (sn : Int)))) rfl (by kernel_rfl) (by kernel_rfl) (by kernel_rfl) (fun _ _ _ h => h) (Or.inl ⟨by rfl, fun wx hSw => ?_⟩) (by assumption) ?_
        · obtain ⟨s0, s1, s2, s3, s4, s5, cl, t0, t1, t2, t3, t4⟩ := hSw
          go_simp
        change wpAnyH _ _ _ _ _ _ _ (Act.put _ (some 80) (.int .i64 ((wh : Int) - (sn : Int)))) _
        simp only [Act.put, List.setIfInBounds_toArray, List.set_cons_zero, List.set_cons_succ]
        refine wpAnyH_take (i := 13) (v := (.bool true)) rfl (by kernel_rfl) (by kernel_rfl) (by kernel_rfl) (fun _ _ _ h => h) (Or.inl ⟨by rfl, fun wx hSw => ?_⟩) (by assumption) ?_
        · obtain ⟨s0, s1, s2, s3, s4, s5, cl, t0, t1, t2, t3, t4⟩ := hSw
          go_simp
        change wpAnyH _ _ _ _ _ _ _ (Act.put _ (some 81) (.bool true)) _
        simp only [Act.put, List.setIfInBounds_toArray, List.set_cons_zero, List.set_cons_succ]
        refine wpAnyH_take (i := 14) (v := (.bool true)) rfl (by kernel_rfl) (by kernel_rfl) (by kernel_rfl) (fun _ _ _ h => h) (Or.inl ⟨by rfl, fun wx hSw => ?_⟩) (by assumption) ?_
        · obtain ⟨s0, s1, s2, s3, s4, s5, cl, t0, t1, t2, t3, t4⟩ := hSw
          go_simp
        change wpAnyH _ _ _ _ _ _ _ (Act.put _ (some 82) (.bool true)) _
        simp only [Act.put, List.setIfInBounds_toArray, List.set_cons_zero, List.set_cons_succ]
        refine wpAnyH_take (i := 15) (v := (.slice (some ⟨q3, o3, none⟩) os.length c3)) rfl (by kernel_rfl) (by kernel_rfl) (by kernel_rfl) (fun _ _ _ h => h) (Or.inl ⟨by rfl, fun wx hSw => ?_⟩) (by assumption) ?_
        · obtain ⟨s0, s1, s2, s3, s4, s5, cl, t0, t1, t2, t3, t4⟩ := hSw
          go_simp
        change wpAnyH _ _ _ _ _ _ _ (Act.put _ (some 83) (.slice (some ⟨q3, o3, none⟩) os.length c3)) _
        simp only [Act.put, List.setIfInBounds_toArray, List.set_cons_zero, List.set_cons_succ]
        refine wpAnyH_take (i := 16) (v := (.int .i64 ((k : Int) + 1))) rfl (by kernel_rfl) (by kernel_rfl) (by kernel_rfl) (fun _ _ _ h => h) (Or.inl ⟨by rfl, fun wx hSw => ?_⟩) (by assumption) ?_
        · obtain ⟨s0, s1, s2, s3, s4, s5, cl, t0, t1, t2, t3, t4⟩ := hSw
          go_simp
        change wpAnyH _ _ _ _ _ _ _ (Act.put _ (some 84) (.int .i64 ((k : Int) + 1))) _
        simp only [Act.put, List.setIfInBounds_toArray, List.set_cons_zero, List.set_cons_succ]
        refine wpAnyH_take (i := 17) (v := (.int .i64 (k : Nat))) rfl (by kernel_rfl) (by kernel_rfl) (by kernel_rfl) (fun _ _ _ h => h) (Or.inl ⟨by rfl, fun wx hSw => ?_⟩) (by assumption) ?_
        · obtain ⟨s0, s1, s2, s3, s4, s5, cl, t0, t1, t2, t3, t4⟩ := hSw
          go_simp
        change wpAnyH _ _ _ _ _ _ _ (Act.put _ (some 85) (.int .i64 (k : Nat))) _
        simp only [Act.put, List.setIfInBounds_toArray, List.set_cons_zero, List.set_cons_succ]
        refine wpAnyH_take (i := 18) (v := (.pointer (some ⟨q3, o3 + k, none⟩))) rfl (by kernel_rfl) (by kernel_rfl) (by kernel_rfl) (fun _ _ _ h => h) (Or.inl ⟨by rfl, fun wx hSw => ?_⟩) (by assumption) ?_
        · obtain ⟨s0, s1, s2, s3, s4, s5, cl, t0, t1, t2, t3, t4⟩ := hSw
          go_simp
        change wpAnyH _ _ _ _ _ _ _ (Act.put _ (some 86) (.pointer (some ⟨q3, o3 + k, none⟩))) _
        simp only [Act.put, List.setIfInBounds_toArray, List.set_cons_zero, List.set_cons_succ]
        refine wpAnyH_take (i := 19) (v := (.int .i64 ((wh : Int) - (sn : Int)))) rfl (by kernel_rfl) (by kernel_rfl) (by kernel_rfl) (fun _ _ _ h => h) (Or.inl ⟨by rfl, fun wx hSw => ?_⟩) (by assumption) ?_
        · obtain ⟨s0, s1, s2, s3, s4, s5, cl, t0, t1, t2, t3, t4⟩ := hSw
          go_simp
        change wpAnyH _ _ _ _ _ _ _ (Act.put _ (some 87) (.int .i64 ((wh : Int) - (sn : Int)))) _
        simp only [Act.put, List.setIfInBounds_toArray, List.set_cons_zero, List.set_cons_succ]
        refine wpAnyH_take (i := 20) (v := (.pointer (some ⟨A, 0, none⟩))) rfl (by kernel_rfl) (by kernel_rfl) (by kernel_rfl) (fun _ _ _ h => h) (Or.inl ⟨by rfl, fun wx hSw => ?_⟩) (by assumption) ?_
        · obtain ⟨s0, s1, s2, s3, s4, s5, cl, t0, t1, t2, t3, t4⟩ := hSw
          go_simp
        change wpAnyH _ _ _ _ _ _ _ (Act.put _ (some 88) (.pointer (some ⟨A, 0, none⟩))) _
        simp only [Act.put, List.setIfInBounds_toArray, List.set_cons_zero, List.set_cons_succ]
        refine wpAnyH_take (i := 21) (v := (.slice (some ⟨qb, ob, none⟩) os.length oc)) rfl (by kernel_rfl) (by kernel_rfl) (by kernel_rfl) (fun _ _ _ h => h) (Or.inl ⟨by rfl, fun wx hSw => ?_⟩) (by assumption) ?_
        · obtain ⟨s0, s1, s2, s3, s4, s5, cl, t0, t1, t2, t3, t4⟩ := hSw
          go_simp
        change wpAnyH _ _ _ _ _ _ _ (Act.put _ (some 89) (.slice (some ⟨qb, ob, none⟩) os.length oc)) _
        simp only [Act.put, List.setIfInBounds_toArray, List.set_cons_zero, List.set_cons_succ]
        refine wpAnyH_take (i := 22) (v := (.int .i64 ((k : Int) + 1))) rfl (by kernel_rfl) (by kernel_rfl) (by kernel_rfl) (fun _ _ _ h => h) (Or.inl ⟨by rfl, fun wx hSw => ?_⟩) (by assumption) ?_
        · obtain ⟨s0, s1, s2, s3, s4, s5, cl, t0, t1, t2, t3, t4⟩ := hSw
          go_simp
        change wpAnyH _ _ _ _ _ _ _ (Act.put _ (some 90) (.int .i64 ((k : Int) + 1))) _
        simp only [Act.put, List.setIfInBounds_toArray, List.set_cons_zero, List.set_cons_succ]
        refine wpAnyH_take (i := 23) (v := (.int .i64 (k : Nat))) rfl (by kernel_rfl) (by kernel_rfl) (by kernel_rfl) (fun _ _ _ h => h) (Or.inl ⟨by rfl, fun wx hSw => ?_⟩) (by assumption) ?_
        · obtain ⟨s0, s1, s2, s3, s4, s5, cl, t0, t1, t2, t3, t4⟩ := hSw
          go_simp
        change wpAnyH _ _ _ _ _ _ _ (Act.put _ (some 91) (.int .i64 (k : Nat))) _
        simp only [Act.put, List.setIfInBounds_toArray, List.set_cons_zero, List.set_cons_succ]
        refine wpAnyH_take (i := 24) (v := (.pointer (some ⟨qb, ob + k * 5, none⟩))) rfl (by kernel_rfl) (by kernel_rfl) (by kernel_rfl) (fun _ _ _ h => h) (Or.inl ⟨by rfl, fun wx hSw => ?_⟩) (by assumption) ?_
        · obtain ⟨s0, s1, s2, s3, s4, s5, cl, t0, t1, t2, t3, t4⟩ := hSw
          go_simp
        change wpAnyH _ _ _ _ _ _ _ (Act.put _ (some 92) (.pointer (some ⟨qb, ob + k * 5, none⟩))) _
        simp only [Act.put, List.setIfInBounds_toArray, List.set_cons_zero, List.set_cons_succ]
        refine wpAnyH_take (i := 25) (v := (.agg (ocs e.o.ser e.o.kind e.o.site (.slice pa e.o.ps.length pc) (.slice ra e.o.rs.length rc)))) rfl (by kernel_rfl) (by kernel_rfl) (by kernel_rfl) (fun _ _ _ h => h) (Or.inl ⟨by rfl, fun wx hSw => ?_⟩) (by assumption) ?_
        · obtain ⟨s0, s1, s2, s3, s4, s5, cl, t0, t1, t2, t3, t4⟩ := hSw
          go_simp
        change wpAnyH _ _ _ _ _ _ _ (Act.put _ (some 93) (.agg (ocs e.o.ser e.o.kind e.o.site (.slice pa e.o.ps.length pc) (.slice ra e.o.rs.length rc)))) _
        simp only [Act.put, List.setIfInBounds_toArray, List.set_cons_zero, List.set_cons_succ]
        refine wpAnyH_ready (rs := [26]) (by kernel_rfl) (by simp) (AllReadyH.cons rfl (fun K hK => ?_) AllReadyH.nil)
        go_simp
        refine (HQ3.out _ keya).mono ?_
        rintro e9 wb ⟨rfl, bb⟩
        have keyb := keya.trans (bb.mono keya.size)
        refine hK.out _ _ (HVV.out _ keyb).2 (fun hHeld5 => ?_)
        clear hK K hHeld4
        refine wpAnyH_take (i := 27) (v := (.bool true)) rfl (by kernel_rfl) (by kernel_rfl) (by kernel_rfl) (fun _ _ _ h => h) (Or.inl ⟨by rfl, fun wx hSw => ?_⟩) (by assumption) ?_
        · obtain ⟨s0, s1, s2, s3, s4, s5, cl, t0, t1, t2, t3, t4⟩ := hSw
          go_simp
        change wpAnyH _ _ _ _ _ _ _ (Act.put _ (some 95) (.bool true)) _
        simp only [Act.put, List.setIfInBounds_toArray, List.set_cons_zero, List.set_cons_succ]
        refine wpAnyH_take (i := 28) (v := (.bool true)) rfl (by kernel_rfl) (by kernel_rfl) (by kernel_rfl) (fun _ _ _ h => h) (Or.inl ⟨by rfl, fun wx hSw => ?_⟩) (by assumption) ?_
        · obtain ⟨s0, s1, s2, s3, s4, s5, cl, t0, t1, t2, t3, t4⟩ := hSw
          go_simp
        change wpAnyH _ _ _ _ _ _ _ (Act.put _ (some 96) (.bool true)) _
        simp only [Act.put, List.setIfInBounds_toArray, List.set_cons_zero, List.set_cons_succ]
        refine wpAnyH_take (i := 29) (v := (.bool true)) rfl (by kernel_rfl) (by kernel_rfl) (by kernel_rfl) (fun _ _ _ h => h) (Or.inl ⟨by rfl, fun wx hSw => ?_⟩) (by assumption) ?_
        · obtain ⟨s0, s1, s2, s3, s4, s5, cl, t0, t1, t2, t3, t4⟩ := hSw
          go_simp
        change wpAnyH _ _ _ _ _ _ _ (Act.put _ (some 97) (.bool true)) _
        simp only [Act.put, List.setIfInBounds_toArray, List.set_cons_zero, List.set_cons_succ]
        refine wpAnyH_take (i := 30) (v := (.slice (some ⟨q3, o3, none⟩) os.length c3)) rfl (by kernel_rfl) (by kernel_rfl) (by kernel_rfl) (fun _ _ _ h => h) (Or.inl ⟨by rfl, fun wx hSw => ?_⟩) (by assumption) ?_
        · obtain ⟨s0, s1, s2, s3, s4, s5, cl, t0, t1, t2, t3, t4⟩ := hSw
          go_simp
        change wpAnyH _ _ _ _ _ _ _ (Act.put _ (some 98) (.slice (some ⟨q3, o3, none⟩) os.length c3)) _
        simp only [Act.put, List.setIfInBounds_toArray, List.set_cons_zero, List.set_cons_succ]
        refine wpAnyH_take (i := 31) (v := (.int .i64 ((k : Int) + 1))) rfl (by kernel_rfl) (by kernel_rfl) (by kernel_rfl) (fun _ _ _ h => h) (Or.inl ⟨by rfl, fun wx hSw => ?_⟩) (by assumption) ?_
        · obtain ⟨s0, s1, s2, s3, s4, s5, cl, t0, t1, t2, t3, t4⟩ := hSw
          go_simp
        change wpAnyH _ _ _ _ _ _ _ (Act.put _ (some 99) (.int .i64 ((k : Int) + 1))) _
        simp only [Act.put, List.setIfInBounds_toArray, List.set_cons_zero, List.set_cons_succ]
        refine wpAnyH_take (i := 32) (v := (.int .i64 (k : Nat))) rfl (by kernel_rfl) (by kernel_rfl) (by kernel_rfl) (fun _ _ _ h => h) (Or.inl ⟨by rfl, fun wx hSw => ?_⟩) (by assumption) ?_
        · obtain ⟨s0, s1, s2, s3, s4, s5, cl, t0, t1, t2, t3, t4⟩ := hSw
          go_simp
        change wpAnyH _ _ _ _ _ _ _ (Act.put _ (some 100) (.int .i64 (k : Nat))) _
        simp only [Act.put, List.setIfInBounds_toArray, List.set_cons_zero, List.set_cons_succ]
        refine wpAnyH_take (i := 33) (v := (.pointer (some ⟨q3, o3 + k, none⟩))) rfl (by kernel_rfl) (by kernel_rfl) (by kernel_rfl) (fun _ _ _ h => h) (Or.inl ⟨by rfl, fun wx hSw => ?_⟩) (by assumption) ?_
        · obtain ⟨s0, s1, s2, s3, s4, s5, cl, t0, t1, t2, t3, t4⟩ := hSw
          go_simp
        change wpAnyH _ _ _ _ _ _ _ (Act.put _ (some 101) (.pointer (some ⟨q3, o3 + k, none⟩))) _
        simp only [Act.put, List.setIfInBounds_toArray, List.set_cons_zero, List.set_cons_succ]
        refine wpAnyH_take (i := 34) (v := (.int .i64 ((wh : Int) - (sn : Int)))) rfl (by kernel_rfl) (by kernel_rfl) (by kernel_rfl) (fun _ _ _ h => h) (Or.inl ⟨by rfl, fun wx hSw => ?_⟩) (by assumption) ?_
        · obtain ⟨s0, s1, s2, s3, s4, s5, cl, t0, t1, t2, t3, t4⟩ := hSw
          go_simp
        change wpAnyH _ _ _ _ _ _ _ (Act.put _ (some 102) (.int .i64 ((wh : Int) - (sn : Int)))) _
        simp only [Act.put, List.setIfInBounds_toArray, List.set_cons_zero, List.set_cons_succ]
        refine wpAnyH_take (i := 35) (v := (.int .i64 (wh : Nat))) rfl (by kernel_rfl) (by kernel_rfl) (by kernel_rfl) (fun _ _ _ h => h) (Or.inl ⟨by rfl, fun wx hSw => ?_⟩) (by assumption) ?_
        · obtain ⟨s0, s1, s2, s3, s4, s5, cl, t0, t1, t2, t3, t4⟩ := hSw
          go_simp
        change wpAnyH _ _ _ _ _ _ _ (Act.put _ (some 103) (.int .i64 (wh : Nat))) _
        simp only [Act.put, List.setIfInBounds_toArray, List.set_cons_zero, List.set_cons_succ]
        refine wpAnyH_take (i := 36) (v := (.bool true)) rfl (by kernel_rfl) (by kernel_rfl) (by kernel_rfl) (fun _ _ _ h => h) (Or.inl ⟨by rfl, fun wx hSw => ?_⟩) (by assumption) ?_
        · obtain ⟨s0, s1, s2, s3, s4, s5, cl, t0, t1, t2, t3, t4⟩ := hSw
          go_simp
        change wpAnyH _ _ _ _ _ _ _ (Act.put _ (some 104) (.bool true)) _
        simp only [Act.put, List.setIfInBounds_toArray, List.set_cons_zero, List.set_cons_succ]
        refine wpAnyH_take (i := 37) (v := (.bool true)) rfl (by kernel_rfl) (by kernel_rfl) (by kernel_rfl) (fun _ _ _ h => h) (Or.inl ⟨by rfl, fun wx hSw => ?_⟩) (by assumption) ?_
        · obtain ⟨s0, s1, s2, s3, s4, s5, cl, t0, t1, t2, t3, t4⟩ := hSw
          go_simp
        change wpAnyH _ _ _ _ _ _ _ (Act.put _ (some 105) (.bool true)) _
        simp only [Act.put, List.setIfInBounds_toArray, List.set_cons_zero, List.set_cons_succ]
        refine wpAnyH_take (i := 38) (v := (.bool true)) rfl (by kernel_rfl) (by kernel_rfl) (by kernel_rfl) (fun _ _ _ h => h) (Or.inl ⟨by rfl, fun wx hSw => ?_⟩) (by assumption) ?_
        · obtain ⟨s0, s1, s2, s3, s4, s5, cl, t0, t1, t2, t3, t4⟩ := hSw
          go_simp
        change wpAnyH _ _ _ _ _ _ _ (Act.put _ (some 4) (.bool true)) _
        simp only [Act.put, List.setIfInBounds_toArray, List.set_cons_zero, List.set_cons_succ]
        refine wpAnyH_done (by kernel_rfl) ?_ _
        have HE : Hid (Below w.heap.size w wb) := (HX.out wb (HVV.out _ keyb).1).1
        clear hHeld5
        go_wp2
        go_ret
        exact ⟨rfl, HE.out⟩
end Go.Proofs.YtkekaifiahjljaaGreatDoor
