/-
  WeakRegisters: the law's walk.
-/
import Derived.Test.YtbgnagjhkfkekaaGreatDoorWX2
import Derived.Test.YtbgnagjhkfkekaaGreatDoorPWc
import Derived.Test.YtbgnagjhkfkekaaGreatDoorWS2
import Derived.Deep.CutRange
import Derived.Deep.CutBlock
set_option linter.unusedVariables false
set_option maxRecDepth 20000
namespace Go.Proofs.YtbgnagjhkfkekaaGreatDoor
open Go.RowKit Go.Shelf

theorem Prd.mono {n0 n1 : Nat} {w : World} {v : Value} {P : List LT} (h : Prd n0 w v P) (hn : n0 ≤ n1) : Prd n1 w v P := by
  obtain ⟨a, cap, h1, h2⟩ := h
  refine ⟨a, cap, h1, fun i o ho => ?_⟩
  obtain ⟨q1, q2, q3, g, off, q4, q5, q6⟩ := h2 i o ho
  exact ⟨q1, q2.mono hn, q3.mono hn, g, off, q4, Nat.lt_of_lt_of_le q5 hn, q6⟩

set_option maxHeartbeats 8000000 in
theorem weak_any (cp : Cfg) (a0 : Option Addr) (cap0 : Nat) (P : List LT) (n0 : Nat) (hn0 : n0 = P.length) (da : Option Addr) (dcap nD : Nat) (D : List Int) (hnD : nD = D.length) (stop k : Int) (w : World) (hL : Laid w) (hP : Prd w.heap.size w (.slice a0 P.length cap0) P) (hpi : ∀ o, o ∈ P → ∀ z, z ∈ o.ps → InI z)
    (hD : Lrd w.heap.size w (.slice da D.length dcap) .i64 D) (hDi : ∀ z, z ∈ D → InI z) (hst : InI stop) :
    Calls Tryz.prog 3 #[pv cp (.slice a0 n0 cap0), .slice da nD dcap, .int .i64 stop, .int .i64 k] w fun e w' => e = .returned (.bool true) ∧ Below w.heap.size w w' := by
  have HLa : Hid (Laid w) := hL
  have HPr : Hid (Prd w.heap.size w (.slice a0 P.length cap0) P ∧ (∀ o, o ∈ P → ∀ z, z ∈ o.ps → InI z) ∧ n0 = P.length) := ⟨hP, hpi, hn0⟩
  have HD : Hid (Lrd w.heap.size w (.slice da D.length dcap) .i64 D ∧ (∀ z, z ∈ D → InI z) ∧ nD = D.length) := ⟨hD, hDi, hnD⟩
  obtain ⟨i0, hi0, hz0, hz1, hz2⟩ := info_parts Tryz.infoInt
  have HI : Hid (Tryz.prog.info? 3 = some i0 ∧ i0.zero = some (.int .i64 0) ∧ i0.size = 1 ∧ i0.bytes = 8) := ⟨hi0, hz0, hz1, hz2⟩
  clear hL hP hpi hn0 hnD hD hDi hi0 hz0 hz1 hz2
  go_enter Tryz.func3, Tryz.ntmps3
  go_upto_region 1 with fail
  have p0 := Pd.new w cp (.slice a0 n0 cap0)
  have b0 : Below w.heap.size w (w.alloc (.cells (pcells cp (.slice a0 n0 cap0)) 26)) := Below.alloc (Below.refl _ _) (Nat.le_refl _) _
  obtain ⟨v1, hv1⟩ : ∃ v1, v1 = w.alloc (.cells (pcells cp (.slice a0 n0 cap0)) 26) := ⟨_, rfl⟩
  obtain ⟨B, hB⟩ : ∃ B, B = w.heap.size := ⟨_, rfl⟩
  show Code.wp _ _ _ _ (w.alloc (.cells (pcells cp (.slice a0 n0 cap0)) 26))
  rw [← hv1] at p0 b0 ⊢
  rw [← hB] at p0 ⊢
  have HP2 : Hid (Pd v1 B cp (.slice a0 n0 cap0)) := p0
  have HB2 : Hid (Below w.heap.size w v1) := b0
  clear p0 b0 hv1 hB
  have k0 : v1.cell? ⟨B, 0, none⟩ = some (.int .i64 cp.eden) := HP2.out.cell 0
  have k1 : v1.cell? ⟨B, 1, none⟩ = some (.int .i64 cp.surv) := HP2.out.cell 1
  have k2 : v1.cell? ⟨B, 2, none⟩ = some (.int .i64 cp.ten) := HP2.out.cell 2
  have k3 : v1.cell? ⟨B, 3, none⟩ = some (.int .i64 cp.large) := HP2.out.cell 3
  have k4 : v1.cell? ⟨B, 4, none⟩ = some (.int .i64 cp.floor) := HP2.out.cell 4
  have k5 : v1.cell? ⟨B, 5, none⟩ = some (.int .i64 cp.num) := HP2.out.cell 5
  have k6 : v1.cell? ⟨B, 6, none⟩ = some (.int .i64 cp.den) := HP2.out.cell 6
  have k7 : v1.cell? ⟨B, 7, none⟩ = some (.int .i64 cp.target) := HP2.out.cell 7
  have k8 : v1.cell? ⟨B, 8, none⟩ = some (.int .i64 cp.maxAge) := HP2.out.cell 8
  have k9 : v1.cell? ⟨B, 9, none⟩ = some (.int .i64 cp.threads) := HP2.out.cell 9
  have k10 : v1.cell? ⟨B, 10, none⟩ = some (.int .i64 cp.slots) := HP2.out.cell 10
  have k11 : v1.cell? ⟨B, 11, none⟩ = some (.int .i64 cp.handles) := HP2.out.cell 11
  have k12 : v1.cell? ⟨B, 12, none⟩ = some (.int .i64 cp.buffer) := HP2.out.cell 12
  have k13 : v1.cell? ⟨B, 13, none⟩ = some (.int .i64 cp.workers) := HP2.out.cell 13
  have k14 : v1.cell? ⟨B, 14, none⟩ = some (.slice a0 n0 cap0) := HP2.out.cell 14
  have hfx := fix_core cp a0 cap0 P v1.heap.size n0 HPr.out.2.2 v1 (Nat.le_refl _) ((HPr.out.1.below HB2.out).mono HB2.out.size) HPr.out.2.1
  clear HP2
  go_wp2_with fail
  refine hfx.mono ?_
  rintro e wF ⟨lb, c, L, rfl, hly, ok, -, -, -, bF, hlt⟩
  have HF : Hid (Below w.heap.size w wF) := HB2.out.trans (bF.mono HB2.out.size)
  have hbd := build_ex hly (Nat.le_refl _) ok (HLa.out.keep HF.out) (Nat.lt_of_lt_of_le HLa.out.lt0 HF.out.size) (Nat.lt_of_lt_of_le HLa.out.lt1 HF.out.size)
  have HLy : Hid (Ly wF.heap.size wF lb c L ∧ LOk c L ∧ Lt wF lb c (tps c L)) := ⟨hly, ok, hlt⟩
  clear hfx hly ok bF hlt k0 k1 k2 k3 k4 k5 k6 k7 k8 k9 k10 k11 k12 k13 k14 HB2
  go_wp2_with fail
  refine hbd.mono ?_
  rintro e w3 ⟨b, rfl, g, th, hBq, hSk, hFu⟩
  have HBq : Hid (Bq wF wF.heap.size w3 b g c (tps c L) false (wlay L) th) := hBq
  have HSk : Hid (Sk L th ∧ ∀ T, T ∈ th → Full L T) := ⟨hSk, hFu⟩
  obtain ⟨N, hN⟩ : ∃ N : Nat, c.words = N := ⟨c.words.toNat, by have := hBq.ax.ar.words; omega⟩
  have hNb : N ≤ 1048576 := by have := hBq.ax.ar.words; omega
  have HN : Hid (c.words = N ∧ N ≤ 1048576) := ⟨hN, hNb⟩
  have hnw := wNew_any hBq.ax.ar N hN hNb
  clear hbd hBq hSk hFu hN hNb
  go_wp2_with fail
  refine hnw.mono ?_
  rintro e w4 ⟨rb, mb, mg, rfl, hR, b4⟩
  have hal := wAll_any rb w4
  have HR : Hid (Rg w4 w3.heap.size rb b (.slice none 0 0) [] mb mg N (fun _ => false) ∧ Below w3.heap.size w3 w4) := ⟨hR, b4⟩
  clear hnw hR b4
  go_wp2_with fail
  refine hal.mono ?_
  rintro e w5 ⟨bx, rfl, hbx, hx0, b5⟩
  have HX : Hid (Boxed w5 bx 33 (.pointer (some ⟨rb, 0, none⟩)) ∧ w4.heap.size ≤ bx ∧ Below w4.heap.size w4 w5) := ⟨hbx, hx0, b5⟩
  clear hal hbx hx0 b5
  go_upto_region 10 with (first | refine Kg.wpList_build0 rfl 53 _ rfl Kg.build_bk0 ?_)
  have HPw : Hid (Pw wF (w5.alloc (.cells (Kg.bkc Kg.bk0) 53)) wF.heap.size b g rb mb mg bx N w5.heap.size 0 c L th (.slice none 0 0) (.slice none 0 0) [] [] [none]) := Pw.start (Nat.le_refl _) HBq.out HR.out.1 HR.out.2 HX.out.1 HX.out.2.1 HX.out.2.2
  generalize w5.alloc (.cells (Kg.bkc Kg.bk0) 53) = w6 at *
  generalize w5.heap.size = bb at *
  clear HBq HR HX
  go_wp2
  go_loopw [11, 15, 16] (fun v11 v15 v16 wr => ∃ i : Nat, i ≤ nD ∧ i ≤ 200 ∧ v16 = .int .i64 i ∧ v11 = .bool true ∧ ∃ wa wk lv l, v15 = .slice wa l.length wk ∧ l.length ≤ i ∧ Hid (Pw wF wr wF.heap.size b g rb mb mg bx N bb (3 * i) c L th lv (.slice wa l.length wk) l l [none])) (fun _ _ v16 _ => 200 - (intOf v16).toNat)
  case atStart => exact ⟨0, by omega, by omega, rfl, rfl, none, 0, .slice none 0 0, [], rfl, by simp, HPw⟩
  case round =>
    obtain ⟨i, hi1, hi2, rfl, rfl, wa, wk, lv, l, rfl, hll, HPr1⟩ := hrel
    clear HPw
    go_upto_region 12 with fail
    go_cut [51] from 44 to 171 (fun v51 wq => v51 = .bool (decide (i < nD ∧ i < 200)) ∧ wr = wq)
    case first =>
      by_cases hiD : i < nD
      · have hiI : (i : Int) < (nD : Int) := by omega
        by_cases hi200 : i < 200
        · have hiJ : (i : Int) < 200 := by omega
          go_wp2
          go_meet
          exact ⟨by rw [decide_eq_true ⟨hiD, hi200⟩], rfl⟩
        · have hiJ : ¬ (i : Int) < 200 := by omega
          go_wp2
          go_meet
          exact ⟨by rw [decide_eq_false (fun h => hi200 h.2)], rfl⟩
      · have hiI : ¬ (i : Int) < (nD : Int) := by omega
        go_wp2
        go_meet
        exact ⟨by rw [decide_eq_false (fun h => hiD h.1)], rfl⟩
    case rest =>
    obtain ⟨rfl, rfl⟩ := hcut
    apply_assumption
    by_cases hcond : i < nD ∧ i < 200
    · rw [decide_eq_true hcond]
      obtain ⟨hiD, hi200⟩ := hcond
      · skip
        have hDi : i < D.length := by have := HD.out.2.2; omega
        have hz : D[i]? = some (D[i]'hDi) := List.getElem?_eq_getElem hDi
        generalize D[i]'hDi = z at hz
        obtain ⟨q, off, rfl, hcz⟩ : ∃ q off, da = some ⟨q, off, none⟩ ∧ ∀ w', Below w.heap.size w w' → w'.cell? ⟨q, off + i, none⟩ = some (.int .i64 z) := by
          obtain ⟨a, cap, h1, -, h2⟩ := HD.out.1
          obtain ⟨q, o, h3, h4, h5⟩ := h2 i z hz
          simp at h1
          exact ⟨q, o, h1.1.trans h3, fun w' hb => (hb.cell (p := ⟨q, o + i, none⟩) h4).trans h5⟩
        have Hbr : Hid (Below w.heap.size w wr) := HF.out.trans (HPr1.out.be.mono HF.out.size)
        have cz := hcz wr Hbr.out
        have Hz : Hid (InI z) := HD.out.2.1 z (List.mem_of_getElem? hz)
        have hly := HLy.out.1.below HPr1.out.be
        obtain ⟨la, lcap, la', lcap', l14, l15⟩ := hly.lens
        have l31 : wr.cell? ⟨lb, 31, none⟩ = some (.int .i64 N) := by
          have := ((HLy.out.2.2.below HLy.out.1.lt HPr1.out.be).wds)
          rw [HN.out.1] at this
          exact this
        have hlen := HLy.out.2.1.len
        clear hz hcz
        go_upto_region 16 with fail
        go_cut [68] from 44 to 171 (fun v68 wq => v68 = .bool (decide (1 ≤ z ∧ z ≤ L.length)) ∧ wr = wq)
        case first =>
          by_cases h1 : 1 ≤ z
          · by_cases h2 : z ≤ L.length
            · go_wp2
              go_meet
              exact ⟨by simp [h1, h2], rfl⟩
            · go_wp2
              go_meet
              exact ⟨by simp [h1, h2], rfl⟩
          · go_wp2
            go_meet
            exact ⟨by rw [decide_eq_false (by omega)], rfl⟩
        case rest =>
        obtain ⟨rfl, rfl⟩ := hcut
        apply_assumption
        go_cut [18] from 44 to 171 (fun v18 wq => v18 = .int .i64 (if 1 ≤ z ∧ z ≤ L.length then adr L N z else 0) ∧ wr = wq)
        case first =>
          by_cases h1 : 1 ≤ z ∧ z ≤ L.length
          · have hlt : (z - 1).toNat < L.length := by omega
            have ho : L[(z - 1).toNat]? = some (L[(z - 1).toNat]'hlt) := List.getElem?_eq_getElem hlt
            generalize L[(z - 1).toNat]'hlt = o at ho
            obtain ⟨q1, off1, cap1, q2, off2, cap2, m14, m15, cs, ka, -, -, hcp⟩ := hly.thing ho
            have ea : adr L N z = o.at_ := by
              unfold adr
              rw [if_pos h1, ho]
              rfl
            have hd : decide (1 ≤ z ∧ z ≤ (L.length : Int)) = true := decide_eq_true h1
            have Hrel : Hid ((if 1 ≤ z ∧ z ≤ (L.length : Int) then adr L N z else 0) = o.at_) := (by rw [if_pos h1, ea] : _ = _)
            rw [hd]
            obtain ⟨zn, rfl⟩ : ∃ zn : Nat, z = (zn : Int) + 1 := ⟨(z - 1).toNat, by omega⟩
            have hzn : ((zn : Int) + 1 - 1).toNat = zn := by omega
            rw [hzn] at ka
            have hz2 : (zn : Int) < (L.length : Int) := by omega
            clear cs l14 l15 ea ho hd hly
            go_wp2
            go_meet
            exact ⟨by rw [Hrel.out], rfl⟩
          · have hd : decide (1 ≤ z ∧ z ≤ (L.length : Int)) = false := decide_eq_false h1
            have Hrel : Hid ((if 1 ≤ z ∧ z ≤ (L.length : Int) then adr L N z else 0) = 0) := if_neg h1
            rw [hd]
            go_wp2
            go_meet
            exact ⟨by rw [Hrel.out], rfl⟩
        case rest =>
        obtain ⟨rfl, rfl⟩ := hcut
        apply_assumption
        obtain ⟨x1, hx1⟩ : ∃ x1, x1 = (if 1 ≤ z ∧ z ≤ (L.length : Int) then adr L N z else 0) := ⟨_, rfl⟩
        rw [← hx1]
        have Hx1 : Hid (x1 = (if 1 ≤ z ∧ z ≤ (L.length : Int) then adr L N z else 0)) := hx1
        clear hx1
        refine wp_seq_k ?_
        intro K hK
        go_cut [18] from 44 to 171 (fun v18 wq => v18 = .int .i64 (if (L.length : Int) < z then N + z % 5 else x1) ∧ wr = wq)
        case first =>
          by_cases h1 : (L.length : Int) < z
          · have Hrel : Hid ((if (L.length : Int) < z then (N : Int) + z % 5 else x1) = N + z % 5) := if_pos h1
            have hNb := HN.out.2
            have hNb2 : (N : Int) ≤ 1048576 := by omega
            have hz0 : 0 ≤ z := by omega
            have hm1 : 0 ≤ z % 5 := by omega
            have hm2 : z % 5 < 5 := by omega
            go_wp2
            go_meet
            exact ⟨by rw [Hrel.out], rfl⟩
          · have Hrel : Hid ((if (L.length : Int) < z then (N : Int) + z % 5 else x1) = x1) := if_neg h1
            go_wp2
            go_meet
            exact ⟨by rw [Hrel.out], rfl⟩
        case rest =>
        obtain ⟨rfl, rfl⟩ := hcut
        apply_assumption
        obtain ⟨x2, hx2⟩ : ∃ x2, x2 = (if (L.length : Int) < z then (N : Int) + z % 5 else x1) := ⟨_, rfl⟩
        rw [← hx2]
        have Hx2 : Hid (x2 = (if (L.length : Int) < z then (N : Int) + z % 5 else x1)) := hx2
        clear hx2
        refine wp_seq_k ?_
        intro K hK
        go_cut [18] from 44 to 171 (fun v18 wq => v18 = .int .i64 (adr L N z) ∧ wr = wq)
        case first =>
          by_cases h1 : z < 0
          · have Hrel : Hid (adr L N z = z) := by
              show adr L N z = z
              unfold adr
              rw [if_neg (by omega), if_neg (by omega), if_pos h1]
            go_wp2
            go_meet
            exact ⟨by rw [Hrel.out], rfl⟩
          · have Hrel : Hid (adr L N z = x2) := by
              show adr L N z = x2
              rw [Hx2.out, Hx1.out]
              by_cases h2 : 1 ≤ z ∧ z ≤ (L.length : Int)
              · rw [if_pos h2, if_neg (by omega)]
              · by_cases h3 : (L.length : Int) < z
                · rw [if_pos h3]
                  unfold adr
                  rw [if_neg h2, if_pos h3]
                · rw [if_neg h3, if_neg h2]
                  unfold adr
                  rw [if_neg h2, if_neg h3, if_neg h1]
            go_wp2
            go_meet
            exact ⟨by rw [Hrel.out], rfl⟩
        case rest =>
        obtain ⟨rfl, rfl⟩ := hcut
        apply_assumption
        clear Hx1 Hx2 x1 x2
        have hth := there_any hly hlen z Hz.out
        refine wp_seq_k ?_
        intro K hK
        go_cut [19] from 44 to 171 (fun v19 wq => v19 = .bool (fin L z) ∧ Below wr.heap.size wr wq)
        case first =>
          cases hob : ob L z with
          | none =>
            have Hrel : Hid (fin L z = false) := (by unfold fin; rw [hob] : fin L z = false)
            have ht0 : thr L z = false := by unfold thr; rw [hob]; rfl
            rw [ht0] at hth
            clear hob ht0
            go_wp2_with fail
            refine hth.mono ?_
            rintro e w9 ⟨rfl, l9⟩
            go_wp2
            go_meet
            exact ⟨by rw [Hrel.out], l9⟩
          | some o =>
            have Hrel : Hid (fin L z = decide (o.k = 4)) := (by unfold fin; rw [hob] : fin L z = decide (o.k = 4))
            have ht0 : thr L z = true := by unfold thr; rw [hob]; rfl
            rw [ht0] at hth
            obtain ⟨h1, h2, h3, h4⟩ := ob_some.1 hob
            obtain ⟨q1, off1, cap1, q2, off2, cap2, m14, m15, cs, ka, hq1, -, hcp⟩ := hly.thing h2
            have c2 : wr.cell? ⟨q1, off1 + (z - 1).toNat * 11 + 2, none⟩ = some (.int .i64 o.k) := cs 2 (by decide)
            have hlt := (List.getElem?_eq_some_iff.1 h2).1
            obtain ⟨zn, rfl⟩ : ∃ zn : Nat, z = (zn : Int) + 1 := ⟨(z - 1).toNat, by omega⟩
            have hzn : ((zn : Int) + 1 - 1).toNat = zn := by omega
            rw [hzn] at c2 hlt
            have hz2 : (zn : Int) < (L.length : Int) := by omega
            have hsz := HPr1.out.be.size
            have hlb := HLy.out.1.lt
            clear hob ht0 cs ka h2 l14 l15
            go_wp2_with fail
            refine hth.mono ?_
            rintro e w9 ⟨rfl, l9⟩
            have m14' := (l9.cell (p := ⟨lb, 14, none⟩) (Nat.lt_of_lt_of_le hlb hsz)).trans m14
            have c2' := (l9.cell (p := ⟨q1, off1 + zn * 11 + 2, none⟩) (Nat.lt_of_lt_of_le hq1 hsz)).trans c2
            clear m14 c2
            go_wp2
            go_meet
            exact ⟨by rw [Hrel.out]; by_cases h : o.k = 4 <;> simp [h], l9⟩
        case rest =>
        obtain ⟨rfl, l9⟩ := hcut
        apply_assumption
        have HPr2 : Hid (Pw wF wc wF.heap.size b g rb mb mg bx N bb (3 * i) c L th lv (.slice wa l.length wk) l l [none]) := HPr1.out.below l9
        clear hth hly l14 l15 l31 cz HPr1 l9 Hbr
        obtain ⟨wo, hwo⟩ : ∃ v, v = wr := ⟨_, rfl⟩
        subst hwo
        obtain ⟨x, hx⟩ : ∃ x, x = adr L N z := ⟨_, rfl⟩
        rw [← hx]
        have Hx : Hid (x = adr L N z) := hx
        clear hx
        obtain ⟨fb, hfb⟩ : ∃ fb, fb = fin L z := ⟨_, rfl⟩
        rw [← hfb]
        have Hfb : Hid (fb = fin L z) := hfb
        clear hfb
        go_wp2
        go_loopw [20, 21] (fun v20 v21 wq => ∃ (j : Nat) (bt : Bool), j ≤ l.length ∧ v21 = .int .i64 j ∧ v20 = .bool bt ∧ Hid (bt = true ↔ x ∈ l.take j) ∧ wc = wq) (fun _ v21 _ => l.length - (intOf v21).toNat)
        case atStart => exact ⟨0, false, by omega, rfl, rfl, (by simp : false = true ↔ x ∈ l.take 0), rfl⟩
        case round =>
          obtain ⟨j, bt, hj, rfl, rfl, Hbt, rfl⟩ := hrel
          by_cases hjl : j < l.length
          · have hzj : l[j]? = some (l[j]'hjl) := List.getElem?_eq_getElem hjl
            generalize l[j]'hjl = y at hzj
            obtain ⟨aa, cp9, h1, -, h3⟩ := row_at (size := 1) (Kg.row_base HPr2.out.p.wn (Nat.zero_le _)) (by decide)
            obtain ⟨q9, e1, -, e3⟩ := h3 j (.int .i64 y) (by simp [hzj])
            simp at h1
            obtain rfl : wa = some ⟨q9, 0, none⟩ := h1.1.trans e1
            have Htk : Hid (l.take (j + 1) = l.take j ++ [y]) := by
              show l.take (j + 1) = l.take j ++ [y]
              rw [List.take_add_one, hzj]; rfl
            have hjI : (j : Int) < (l.length : Int) := by omega
            clear h1 h3 e1 hzj
            cases bt with
            | true =>
              go_wp2
              go_roundw
              case rel => exact ⟨j + 1, true, by omega, by go_num, rfl, (by rw [Htk.out]; simp [Hbt.out.1 rfl] : true = true ↔ x ∈ l.take (j + 1)), trivial⟩
              case measure => simp [intOf]; omega
            | false =>
              by_cases hy : y = x
              · have hyb : (y == x) = true := by simp [hy]
                go_wp2
                go_roundw
                case rel => exact ⟨j + 1, true, by omega, by go_num, by simp, (by rw [Htk.out]; simp [hy] : true = true ↔ x ∈ l.take (j + 1)), trivial⟩
                case measure => simp [intOf]; omega
              · have hyb : (y == x) = false := by simp [hy]
                go_wp2
                go_roundw
                case rel => exact ⟨j + 1, false, by omega, by go_num, by simp, (by rw [Htk.out]; simp only [List.mem_append, List.mem_singleton, ← Hbt.out]; simp; exact fun h => hy h.symm : false = true ↔ x ∈ l.take (j + 1)), trivial⟩
                case measure => simp [intOf]; omega
          · have hje : j = l.length := by omega
            have hjI : ¬ (j : Int) < (l.length : Int) := by omega
            have Hbt2 : Hid (bt = true ↔ x ∈ l) := by
              show bt = true ↔ x ∈ l
              rw [Hbt.out, hje, List.take_length]
            clear Hbt
            have hadd := HPr2.out.add HLy.out.2.1 HSk.out.1 HN.out.1 (by omega) z
            rw [HN.out.1, ← Hx.out, ← Hfb.out] at hadd
            go_wp2_with fail
            refine hadd.mono ?_
            rintro e w10 ⟨lv', rfl, hP10⟩
            obtain ⟨rv, hrv⟩ : ∃ rv, rv = (if fb = true then if x ∈ l then (101 : Int) else 0 else 100) := ⟨_, rfl⟩
            rw [← hrv]
            have Hrv : Hid (rv = (if fb = true then if x ∈ l then (101 : Int) else 0 else 100)) := hrv
            have HP10 : Hid (Pw wF w10 wF.heap.size b g rb mb mg bx N bb (3 * i) c L th lv' (.slice wa l.length wk) (if fb = true ∧ x ∉ l then l ++ [x] else l) l [none]) := hP10
            clear hadd hP10 hrv HPr2 hjI hje hj hjl
            go_upto_block 4 with fail
            go_cut [11, 15] from 44 to 171 (fun v11 v15 wq => v11 = .bool true ∧ ∃ wa' wk' l', v15 = .slice wa' l'.length wk' ∧ l'.length ≤ i + 1 ∧ Hid (Pw wF wq wF.heap.size b g rb mb mg bx N bb (3 * i) c L th lv' (.slice wa' l'.length wk') l' l' [none]))
            case first =>
              as_aux_lemma =>
                cases fb with
                | false =>
                  obtain rfl : rv = 100 := by rw [Hrv.out]; simp
                  have HP11 : Hid (Pw wF w10 wF.heap.size b g rb mb mg bx N bb (3 * i) c L th lv' (.slice wa l.length wk) l l [none]) := by
                    have h9 := HP10.out
                    rw [if_neg (by simp)] at h9
                    exact h9
                  clear HP10 Hrv
                  go_wp2
                  go_meet
                  exact ⟨rfl, wa, wk, l, rfl, by omega, HP11⟩
                | true =>
                  cases bt with
                  | true =>
                    have hxl : x ∈ l := Hbt2.out.1 rfl
                    obtain rfl : rv = 101 := by rw [Hrv.out]; simp [hxl]
                    have HP11 : Hid (Pw wF w10 wF.heap.size b g rb mb mg bx N bb (3 * i) c L th lv' (.slice wa l.length wk) l l [none]) := by
                      have h9 := HP10.out
                      rw [if_neg (by simp [hxl])] at h9
                      exact h9
                    clear HP10 Hrv hxl
                    go_wp2
                    go_meet
                    exact ⟨rfl, wa, wk, l, rfl, by omega, HP11⟩
                  | false =>
                    have hxl : x ∉ l := fun h => by simpa using Hbt2.out.2 h
                    obtain rfl : rv = 0 := by rw [Hrv.out]; simp [hxl]
                    have HP11 : Hid (Pw wF w10 wF.heap.size b g rb mb mg bx N bb (3 * i) c L th lv' (.slice wa l.length wk) (l ++ [x]) l [none]) := by
                      have h9 := HP10.out
                      rw [if_pos ⟨rfl, hxl⟩] at h9
                      exact h9
                    have hbs : wF.heap.size ≤ w10.heap.size := HP11.out.hb
                    clear HP10 Hrv hxl
                    go_wp2_with (first | (go_at_call 10; go_in) | (at_builtin; refine wpList_append_own_at _ rfl _ _ 27 rfl wF.heap.size 3 i0 (.int .i64 0) 1 8 Tryz.underlying27 HI.out.1 HI.out.2.1 HI.out.2.2.1 HI.out.2.2.2 rfl (by decide) _ _ _ rfl (HP11.out.p.wn.alloc _) ⟨w10.heap.size, 0, none⟩ 1 1 [.int .i64 x] rfl rfl (cell_one_new _ _ _) (by simp [Value.oneCell']) (by simp [maxLen]; omega) (by omega) (by simp; omega) ?_))
                    intro v' w11 hown' hgrow _ hat
                    have HP12 : Hid (Pw wF w11 wF.heap.size b g rb mb mg bx N bb (3 * i) c L th lv' v' (l ++ [x]) (l ++ [x]) [none]) := HP11.out.app hown' hgrow (hat.imp id (fun h => h.trans (by simp)))
                    obtain ⟨a3, c3, rfl⟩ := own_sl hown'
                    clear hown' hgrow hat HP11
                    go_wp2
                    go_meet
                    exact ⟨rfl, a3, c3, l ++ [x], by simp, by simp; omega, (by simpa using HP12.out : Pw wF w11 wF.heap.size b g rb mb mg bx N bb (3 * i) c L th lv' (.slice a3 (l ++ [x]).length c3) (l ++ [x]) (l ++ [x]) [none])⟩
            case rest =>
            obtain ⟨rfl, wa', wk', l', rfl, hl', HP13⟩ := hcut
            apply_assumption
            clear HP10 Hrv Hbt2 Hx Hfb hll
            go_wp2
            go_loopw [23] (fun v23 wq => ∃ r : Nat, r ≤ 3 ∧ v23 = .int .i64 r ∧ Hid (Pw wF wq wF.heap.size b g rb mb mg bx N bb (3 * i + r) c L th lv' (.slice wa' l'.length wk') l' l' [none])) (fun v23 _ => 3 - (intOf v23).toNat)
            case atStart => exact ⟨0, by omega, rfl, HP13⟩
            case round =>
              as_aux_lemma =>
                obtain ⟨r, hr, rfl, HP14⟩ := hrel
                clear HP13
                by_cases hr3 : r < 3
                · have hrI : (r : Int) < 3 := by omega
                  have hls := HP14.out.list (by omega) 0
                  go_wp2_with fail
                  refine hls.mono ?_
                  rintro e w14 ⟨v, rfl, hP15⟩
                  have HP15 : Hid (Pw wF w14 wF.heap.size b g rb mb mg bx N bb (3 * i + r) c L th lv' (.slice wa' l'.length wk') l' l' [some (v, l')]) := hP15
                  have hsm := hP15.same (by omega) (i := 0) rfl
                  obtain ⟨va, vc, rfl⟩ := own_sl (hP15.row (i := 0) rfl)
                  clear hls hP15 HP14
                  go_wp2_with fail
                  refine hsm.mono ?_
                  rintro e w15 ⟨rfl, hP16⟩
                  have hin := hP16.ints (by omega) (i := 0) rfl (by omega) (1000 * (i : Int) + 300 * (r : Int) + 1) (by omega) (by omega)
                  clear hsm HP15 hP16
                  go_wp2_with fail
                  refine hin.mono ?_
                  rintro e w16 ⟨rfl, hP17⟩
                  have hho := hP17.hold (by omega)
                  clear hin hP17
                  go_wp2_with fail
                  refine hho.mono ?_
                  rintro e w17 ⟨rfl, hP18⟩
                  have HP18 : Hid (Pw wF w17 wF.heap.size b g rb mb mg bx N bb (3 * i + (r + 1)) c L th lv' (.slice wa' l'.length wk') l' l' [none]) := hP18
                  clear hho hP18
                  go_wp2
                  go_roundw
                  case rel => exact ⟨r + 1, by omega, by go_num, HP18⟩
                  case measure => simp [intOf]; omega
                · have hrI : ¬ (r : Int) < 3 := by omega
                  have hre : r = 3 := by omega
                  have HP20 : Hid (Pw wF wr wF.heap.size b g rb mb mg bx N bb (3 * (i + 1)) c L th lv' (.slice wa' l'.length wk') l' l' [none]) := by
                    have h9 := HP14.out
                    rw [hre, show 3 * i + 3 = 3 * (i + 1) by omega] at h9
                    exact h9
                  clear HP14
                  go_wp2
                  go_roundw
                  case rel => exact ⟨i + 1, by omega, by omega, by go_num, rfl, wa', wk', lv', l', rfl, hl', HP20⟩
                  case measure => simp [intOf]; omega
    · as_aux_lemma =>
        rw [decide_eq_false hcond]
        have hp := HPr1.out.p
        have hl2 : l.length ≤ 200 := by omega
        have Hp : Hid (Wg wF wF.heap.size b g rb mb mg bx N c L th lv (.slice wa l.length wk) l l wr) := hp
        have hal := wAll_any rb wr
        clear hp HPr1 hcond
        go_wp2_with fail
        refine hal.mono ?_
        rintro e v5 ⟨bx2, rfl, hbx2, hx2, b5⟩
        have Hp5 : Hid (Wg wF wF.heap.size b g rb mb mg bx N c L th lv (.slice wa l.length wk) l l v5) := Hp.out.below b5
        obtain ⟨M5, hR5⟩ := Hp5.out.rg
        have hli := list10_yes hR5 (by omega) hbx2 wF.heap.size (.slice wa l.length wk) Hp5.out.wn stop hst
        clear hal hbx2 hx2 b5 Hp hR5
        go_wp2_with fail
        refine hli.mono ?_
        rintro e v6 ⟨rfl, b6⟩
        have Hp6 : Hid (Wg wF wF.heap.size b g rb mb mg bx N c L th lv (.slice wa l.length wk) l l v6) := Hp5.out.below b6
        obtain ⟨M6, hR6⟩ := Hp6.out.rg
        have hlj := list10_yes hR6 (by omega) Hp6.out.bx_ wF.heap.size (.slice wa l.length wk) Hp6.out.wn 0 ⟨by decide, by decide⟩
        clear hli b6 Hp5 hR6
        go_wp2_with fail
        refine hlj.mono ?_
        rintro e v7 ⟨rfl, b7⟩
        have Hp7 : Hid (Wg wF wF.heap.size b g rb mb mg bx N c L th lv (.slice wa l.length wk) l l v7) := Hp6.out.below b7
        clear hlj b7 Hp6
        go_upto_region 47 with fail
        have b8 : Below v7.heap.size v7 (v7.alloc (.cells #[.int .i64 k, .slice none 0 0] 74)) := Below.alloc (Below.refl _ _) (Nat.le_refl _) _
        have hT8 : (v7.alloc (.cells #[.int .i64 k, .slice none 0 0] 74)).heap[v7.heap.size]? = some (.cells #[.int .i64 k, .slice none 0 0] 74 (0, 0)) := heap_alloc_new v7 _
        have Hp8 : Hid (Wg wF wF.heap.size b g rb mb mg bx N c L th lv (.slice wa l.length wk) l l (v7.alloc (.cells #[.int .i64 k, .slice none 0 0] 74))) := Hp7.out.below b8
        have Htb : Hid (∀ q, q ∈ Wf b g rb mb mg bx lv (.slice wa l.length wk) → q < v7.heap.size) := Hp7.out.lt
        have hsz7 : wF.heap.size ≤ v7.heap.size := Hp7.out.bq.be.size
        generalize v7.alloc (.cells #[.int .i64 k, .slice none 0 0] 74) = v8 at *
        generalize v7.heap.size = tb at *
        obtain ⟨M8, hR8⟩ := Hp8.out.rg
        have hup := wUpdate_any hR8 (by omega) hT8
        have hmf : ∀ (fn : Fn) (first cap : Array Value) (w : World), (Instr.makeFunc fn first cap).run Tryz.prog w = .ok (.func fn first cap) w := fun _ _ _ _ => rfl
        clear b8 Hp7
        go_wp2_with fail
        refine hup.mono ?_
        rintro e v9 ⟨rfl, sv, lv9, M9, hT9, hR9, t9, hq9, hs9⟩
        have hsw : sv.ownBlock = none ∨ ∃ q, sv.ownBlock = some q ∧ v8.heap.size ≤ q := by
          cases e : sv.ownBlock with
          | none => exact .inl rfl
          | some q => exact .inr ⟨q, rfl, (own_cells hT9.row q e).elim (fun _ h => h.2)⟩
        have Hp9 : Hid (Wg wF wF.heap.size b g rb mb mg bx N c L th lv9 (.slice wa l.length wk) (l.map (fun a => wrap64 (a + k))) l v9) := Hp8.out.next t9 (fun q hq => by
          have hw9 : ∀ {y : Nat}, y ∈ Wf b g rb mb mg bx lv (.slice wa l.length wk) → y < tb := fun {y} hy => Htb.out y hy
          simp only [List.mem_cons, List.not_mem_nil, or_false] at hq
          rcases hq with rfl | rfl | rfl
          · refine ⟨hsz7, fun e => ?_, fun e => ?_, fun e => ?_, fun e => ?_⟩
            · have := hw9 (y := b) (mem_wf.2 (by simp)); omega
            · have := hw9 (y := g) (mem_wf.2 (by simp)); omega
            · have := hw9 (y := bx) (mem_wf.2 (by simp)); omega
            · have := hw9 (y := q) (mem_wf.2 (by simp [e])); omega
          · refine ⟨hR8.lr, fun e => ?_, fun e => ?_, fun e => ?_, fun e => ?_⟩
            · obtain ⟨⟨gs, hgs⟩, bs, hbs⟩ := Hp8.out.bq.ax.ar.rowTy
              rw [← e, hR8.own] at hbs; simp at hbs
            · obtain ⟨⟨gs, hgs⟩, bs, hbs⟩ := Hp8.out.bq.ax.ar.rowTy
              rw [← e, hR8.own] at hgs; simp at hgs
            · have h4 : v8.heap[bx]? = _ := Hp8.out.bx_
              rw [← e, hR8.own] at h4; simp at h4
            · obtain ⟨cs, hc, -⟩ := own_cells Hp8.out.wn _ e
              exact (Hp8.out.cellsNe hc).2.2.1 rfl
          · obtain ⟨c2, h2, -, -⟩ := hR8.mp.row
            refine ⟨hR8.lg, fun e => ?_, fun e => Hp8.out.gg e, fun e => ?_, fun e => ?_⟩
            · obtain ⟨⟨gs, hgs⟩, bs, hbs⟩ := Hp8.out.bq.ax.ar.rowTy
              rw [← e, h2] at hbs; simp at hbs
            · have h4 : v8.heap[bx]? = _ := Hp8.out.bx_
              rw [← e, h2] at h4; simp at h4
            · obtain ⟨cs, hc, -⟩ := own_cells Hp8.out.wn _ e
              exact (Hp8.out.cellsNe hc).2.2.2.2.1 rfl) ⟨M9, hR9⟩ (fun q hq e => by
          have h1 := hq9 q e
          have h2 := row_lt Hp8.out.wn q hq
          omega)
        have k1 : v9.cell? ⟨tb, 1, none⟩ = some sv := hT9.cell 1
        have hsa := same10_yes sv (.slice wa l.length wk) l hT9.row Hp9.out.wn (by omega)
        obtain ⟨sa, sc, rfl⟩ := own_sl hT9.row
        clear hup hR8 hR9 hT9 hT8 t9 hq9 hs9 hsw Hp8 Htb
        go_wp2_with fail
        refine hsa.mono ?_
        rintro e v10 ⟨rfl, b10⟩
        have Hp10 : Hid (Wg wF wF.heap.size b g rb mb mg bx N c L th lv9 (.slice wa l.length wk) (l.map (fun a => wrap64 (a + k))) l v10) := Hp9.out.below b10
        clear hsa Hp9 b10 k1
        obtain ⟨m0, hm0⟩ : ∃ m0, m0 = l.map (fun a => wrap64 (a + k)) := ⟨_, rfl⟩
        rw [← hm0] at Hp10
        have Hm0 : Hid (m0 = l.map (fun a => wrap64 (a + k))) := hm0
        clear hm0
        obtain ⟨wo, hwo⟩ : ∃ v, v = wr := ⟨_, rfl⟩
        subst hwo
        go_wp2
        go_loopw [26] (fun v26 wq => ∃ (j : Nat) (m : List Int), j ≤ l.length ∧ v26 = .int .i64 j ∧ Hid (m.length = l.length ∧ m = (m0.take j ++ l.drop j)) ∧ Hid (Wg wF wF.heap.size b g rb mb mg bx N c L th lv9 (.slice wa l.length wk) m0 m wq)) (fun v26 _ => l.length - (intOf v26).toNat)
        case atStart => exact ⟨0, l, by omega, rfl, (⟨rfl, by simp⟩ : l.length = l.length ∧ l = m0.take 0 ++ l.drop 0), Hp10⟩
        case round =>
          obtain ⟨j, m, hj, rfl, Hm, Hpj⟩ := hrel
          clear Hp10
          by_cases hjl : j < l.length
          · have hzj : l[j]? = some (l[j]'hjl) := List.getElem?_eq_getElem hjl
            generalize l[j]'hjl = y at hzj
            have hmj : m[j]? = some y := by
              rw [Hm.out.2, List.getElem?_append_right (by simp; omega), List.getElem?_drop]
              rw [List.length_take, Hm0.out, List.length_map, Nat.min_eq_left (by omega)]
              simpa using hzj
            obtain ⟨aa, cp9, h1, -, h3⟩ := row_at (size := 1) (Kg.row_base Hpj.out.wn (Nat.zero_le _)) (by decide)
            obtain ⟨q9, e1, -, e3⟩ := h3 j (.int .i64 y) (by simp [hmj])
            simp at h1
            obtain rfl : wa = some ⟨q9, 0, none⟩ := h1.1.trans e1
            have hfz : wr.frozen? ⟨q9, j, none⟩ = false := by
              obtain ⟨cs, hc, -⟩ := own_cells Hpj.out.wn q9 rfl
              unfold World.frozen?
              simp only [hc]
              simp
            have hjI : (j : Int) < (l.length : Int) := by omega
            have Hnx : Hid ((m.set j (wrap64 (y + k))).length = l.length ∧ m.set j (wrap64 (y + k)) = m0.take (j + 1) ++ l.drop (j + 1)) := by
              refine ⟨by rw [List.length_set]; exact Hm.out.1, ?_⟩
              have h0 : m0[j]? = some (wrap64 (y + k)) := by rw [Hm0.out, List.getElem?_map, hzj]; rfl
              have h0l : (m0.take j).length = j := by rw [List.length_take, Hm0.out, List.length_map]; omega
              rw [Hm.out.2, List.set_append_right _ _ (by omega), h0l, Nat.sub_self, List.take_add_one, h0]
              have hdr : l.drop j = y :: l.drop (j + 1) := by
                rw [List.drop_eq_getElem_cons hjl]
                congr 1
                rw [List.getElem?_eq_getElem hjl] at hzj
                simpa using hzj
              rw [hdr]
              simp
            have Hpn : Hid (Wg wF wF.heap.size b g rb mb mg bx N c L th lv9 (.slice (some ⟨q9, 0, none⟩) l.length wk) m0 (m.set j (wrap64 (y + k))) (wr.setCell ⟨q9, j, none⟩ (.int .i64 (wrap64 (y + k))))) := by
              have h9 := Hpj.out
              rw [← Hm.out.1] at h9 ⊢
              exact h9.setw j _
            clear h1 h3 e1 hzj hmj
            go_wp2
            go_roundw
            case rel => exact ⟨j + 1, m.set j (wrap64 (y + k)), by omega, by go_num, Hnx, Hpn⟩
            case measure => simp [intOf]; omega
          · have hjI : ¬ (j : Int) < (l.length : Int) := by omega
            have Hpz : Hid (Wg wF wF.heap.size b g rb mb mg bx N c L th lv9 (.slice wa l.length wk) m0 m0 wr) := by
              have h9 := Hpj.out
              have e9 : m = m0 := by
                rw [Hm.out.2, List.drop_eq_nil_of_le (by omega), List.append_nil, List.take_of_length_le (by rw [Hm0.out, List.length_map]; omega)]
              rw [e9] at h9
              exact h9
            have Hm0l : Hid (m0.length = l.length) := (by rw [Hm0.out, List.length_map] : m0.length = l.length)
            have hm0b : m0.length ≤ 200 := by have := Hm0l.out; omega
            clear Hpj Hm
            obtain ⟨M11, hR11⟩ := Hpz.out.rg
            have hls := wList_any hR11 (by omega)
            go_wp2_with fail
            refine hls.mono ?_
            rintro e v11 ⟨xv, rfl, hxr, b11⟩
            have Hp11 : Hid (Wg wF wF.heap.size b g rb mb mg bx N c L th lv9 (.slice wa l.length wk) m0 m0 v11) := Hpz.out.below b11
            have hsm := same10_yes xv (.slice wa l.length wk) m0 hxr Hp11.out.wn (by omega)
            obtain ⟨xa, xc, rfl⟩ := own_sl hxr
            clear hls hR11 Hpz hxr b11
            go_wp2_with fail
            refine hsm.mono ?_
            rintro e v12 ⟨rfl, b12⟩
            have Hp12 : Hid (Wg wF wF.heap.size b g rb mb mg bx N c L th lv9 (.slice wa l.length wk) m0 m0 v12) := Hp11.out.below b12
            obtain ⟨M12, hR12⟩ := Hp12.out.rg
            have hli := list10_yes hR12 (by omega) Hp12.out.bx_ wF.heap.size (.slice wa l.length wk) Hp12.out.wn 0 ⟨by decide, by decide⟩
            clear hsm b12 Hp11 hR12
            go_wp2_with fail
            refine hli.mono ?_
            rintro e v13 ⟨rfl, b13⟩
            have Hp13 : Hid (Wg wF wF.heap.size b g rb mb mg bx N c L th lv9 (.slice wa l.length wk) m0 m0 v13) := Hp12.out.below b13
            have hbe := Hp13.out.bq.be
            have hsa := ySame_yes (HLy.out.1.below hbe) (HLy.out.2.2.below HLy.out.1.lt hbe) hbe.size HLy.out.2.1 Hp13.out.bq.ax HSk.out.1 HSk.out.2
            clear hli b13 Hp12
            go_wp2_with fail
            refine hsa.mono ?_
            rintro e v14 ⟨rfl, b14⟩
            have Hfin : Hid (Below w.heap.size w v14) := HF.out.trans ((hbe.trans (b14.mono hbe.size)).mono HF.out.size)
            clear hsa b14 Hp13 hbe
            go_wp2
            go_ret
            exact ⟨rfl, Hfin.out⟩

end Go.Proofs.YtbgnagjhkfkekaaGreatDoor
