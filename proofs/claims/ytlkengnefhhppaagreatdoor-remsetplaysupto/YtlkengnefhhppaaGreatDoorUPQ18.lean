import Derived.Test.YtlkengnefhhppaaGreatDoorUPQ17
import Derived.Test.YtlkengnefhhppaaGreatDoorPOa
set_option linter.unusedVariables false
set_option maxHeartbeats 8000000
set_option maxRecDepth 20000
namespace Go.Proofs.YtlkengnefhhppaaGreatDoor
open Go.RowKit Go.Shelf
theorem Op6.Ok.mono {n1 n2 : Nat} {w : World} {o : Op6} (h : o.Ok n1 w) (l : n1 ≤ n2) : o.Ok n2 w := ⟨h.a, h.b, h.c, h.mo.mono l, h.mi, h.ml⟩
theorem Ps.be {w1 w : World} {n1 pb lb sb b g mb vb rb bb m n : Nat} {rg : Nat → Nat} {c : Cfg} {L : List LT} (S : Ps w1 n1 w pb lb sb b g mb vb rb rg bb c L m n) : Below n1 w1 w := by
 obtain ⟨lv, rl, x, sw, ws, th, l, P⟩ := S
 exact P.be
theorem remsetPlays_any (cp : Cfg) (a0 : Option Addr) (cap0 : Nat) (P : List LT) (n0 : Nat) (hn0 : n0 = P.length) (oa : Option Addr) (ocap : Nat) (O : List Op6) (nO : Nat) (hnO : nO = O.length) (hOl : nO ≤ 1048576) (w : World) (hL : Laid w) (hP : Prd w.heap.size w (.slice a0 P.length cap0) P) (hpi : ∀ o, o ∈ P → ∀ z, z ∈ o.ps → InI z) (hPl : P.length ≤ 1172812402961) (hO : Ord6 w.heap.size w oa O) :
  Calls Tryz.prog 3 #[pv cp (.slice a0 n0 cap0), .slice oa nO ocap] w fun e w' => e = .returned (.bool true) ∧ Below w.heap.size w w' := by
 have HLa : Hid (Laid w) := hL
 have HPr : Hid (Prd w.heap.size w (.slice a0 P.length cap0) P ∧ (∀ o, o ∈ P → ∀ z, z ∈ o.ps → InI z) ∧ P.length ≤ 1172812402961 ∧ n0 = P.length) := ⟨hP, hpi, hPl, hn0⟩
 have HO : Hid (Ord6 w.heap.size w oa O ∧ nO = O.length) := ⟨hO, hnO⟩
 clear hL hP hpi hPl hn0 hO hnO
 go_enter Tryz.func3, Tryz.ntmps3
 go_upto_region 1 with fail
 have p0 := Pd.new w cp (.slice a0 n0 cap0)
 have b0 : Below w.heap.size w (w.alloc (.cells (pcells cp (.slice a0 n0 cap0)) 26)) := Below.alloc (Below.refl _ _) (Nat.le_refl _) _
 obtain ⟨v1, hv1⟩ : ∃ v1, v1 = w.alloc (.cells (pcells cp (.slice a0 n0 cap0)) 26) := ⟨_, rfl⟩
 obtain ⟨B, hB⟩ : ∃ B, B = w.heap.size := ⟨_, rfl⟩
 show Code.wp _ _ _ _ (w.alloc (.cells (pcells cp (.slice a0 n0 cap0)) 26))
 rw [← hv1] at p0 b0 ⊢
 rw [← hB] at p0 ⊢
 have HP1 : Hid (Pd v1 B cp (.slice a0 n0 cap0)) := p0
 have HB1 : Hid (Below w.heap.size w v1) := b0
 have hkn := known6_any v1 (HLa.out.keep b0)
 clear p0 b0 hv1 hB
 go_wp2_with fail
 refine hkn.mono ?_
 rintro e w2 ⟨rfl, l2⟩
 have HP2 : Hid (Pd w2 B cp (.slice a0 n0 cap0)) := HP1.out.below l2
 have HB2 : Hid (Below w.heap.size w w2) := HB1.out.trans (l2.mono HB1.out.size)
 clear hkn l2 HP1 HB1 v1
 have k0 : w2.cell? ⟨B, 0, none⟩ = some (.int .i64 cp.eden) := HP2.out.cell 0
 have k1 : w2.cell? ⟨B, 1, none⟩ = some (.int .i64 cp.surv) := HP2.out.cell 1
 have k2 : w2.cell? ⟨B, 2, none⟩ = some (.int .i64 cp.ten) := HP2.out.cell 2
 have k3 : w2.cell? ⟨B, 3, none⟩ = some (.int .i64 cp.large) := HP2.out.cell 3
 have k4 : w2.cell? ⟨B, 4, none⟩ = some (.int .i64 cp.floor) := HP2.out.cell 4
 have k5 : w2.cell? ⟨B, 5, none⟩ = some (.int .i64 cp.num) := HP2.out.cell 5
 have k6 : w2.cell? ⟨B, 6, none⟩ = some (.int .i64 cp.den) := HP2.out.cell 6
 have k7 : w2.cell? ⟨B, 7, none⟩ = some (.int .i64 cp.target) := HP2.out.cell 7
 have k8 : w2.cell? ⟨B, 8, none⟩ = some (.int .i64 cp.maxAge) := HP2.out.cell 8
 have k9 : w2.cell? ⟨B, 9, none⟩ = some (.int .i64 cp.threads) := HP2.out.cell 9
 have k10 : w2.cell? ⟨B, 10, none⟩ = some (.int .i64 cp.slots) := HP2.out.cell 10
 have k11 : w2.cell? ⟨B, 11, none⟩ = some (.int .i64 cp.handles) := HP2.out.cell 11
 have k12 : w2.cell? ⟨B, 12, none⟩ = some (.int .i64 cp.buffer) := HP2.out.cell 12
 have k13 : w2.cell? ⟨B, 13, none⟩ = some (.int .i64 cp.workers) := HP2.out.cell 13
 have k14 : w2.cell? ⟨B, 14, none⟩ = some (.slice a0 n0 cap0) := HP2.out.cell 14
 have hbg := begin6_any cp a0 cap0 P n0 HPr.out.2.2.2 w2 (HLa.out.keep HB2.out) ((HPr.out.1.below HB2.out).mono HB2.out.size) HPr.out.2.1 HPr.out.2.2.1
 clear HP2
 go_wp2_with fail
 refine hbg.mono ?_
 rintro e w3 ⟨w4, pb, lb, sb, b, g, mb, vb, rb, rg, bb, c, L, rfl, hS, b4⟩
 have HB4 : Hid (Below w.heap.size w w4) := HB2.out.trans (b4.mono HB2.out.size)
 have HS3 : Hid (Ps w4 w4.heap.size w3 pb lb sb b g mb vb rb rg bb c L 0 0) := hS
 obtain ⟨n1, hn1⟩ : ∃ n1, n1 = w4.heap.size := ⟨_, rfl⟩
 rw [← hn1] at HS3
 have Hn1 : Hid (n1 = w4.heap.size) := hn1
 clear hbg k0 k1 k2 k3 k4 k5 k6 k7 k8 k9 k10 k11 k12 k13 k14 hS b4 HB2 hn1
 go_wp2_with fail
 go_loopw [6] (fun v6 wr => ∃ k m : Nat, k ≤ nO ∧ v6 = .int .i64 k ∧ m ≤ 3 * k ∧ Hid (Ps w4 n1 wr pb lb sb b g mb vb rb rg bb c L m (4194304 * k))) (fun v6 _ => nO - (intOf v6).toNat)
 case atStart => exact ⟨0, 0, Nat.zero_le _, rfl, by omega, HS3⟩
 case round =>
  obtain ⟨k, m, hk, rfl, hm, HS⟩ := hrel
  clear HS3
  by_cases hkl : k < nO
  ·have hkI : (k : Int) < (nO : Int) := by omega
   have hbw : Below w.heap.size w wr := HB4.out.trans ((HS.out.be).mono (by have := HB4.out.size; have := Hn1.out; omega))
   obtain ⟨o, ho⟩ : ∃ o, O[k]? = some o := ⟨_, List.getElem?_eq_getElem (by have := HO.out.2; omega)⟩
   obtain ⟨hok0, dq, doff, rfl, hdq, hdc⟩ := HO.out.1.below hbw k o ho
   have hok : o.Ok n1 wr := hok0.mono (by have := HB4.out.size; have := Hn1.out; omega)
   have hst := step6_any HS.out (by omega) (by omega) o hok
   obtain ⟨oK, oA, oB, oC, oM, oL⟩ := o
   have d0 : wr.cell? ⟨dq, doff + k * 5, none⟩ = some (.int .i64 oK) := hdc 0 (by decide)
   have d1 : wr.cell? ⟨dq, doff + k * 5 + 1, none⟩ = some (.int .i64 oA) := hdc 1 (by decide)
   have d2 : wr.cell? ⟨dq, doff + k * 5 + 2, none⟩ = some (.int .i64 oB) := hdc 2 (by decide)
   have d3 : wr.cell? ⟨dq, doff + k * 5 + 3, none⟩ = some (.int .i64 oC) := hdc 3 (by decide)
   have d4 : wr.cell? ⟨dq, doff + k * 5 + 4, none⟩ = some oM := hdc 4 (by decide)
   dsimp only at hst
   obtain ⟨⟨ca, cm⟩, rfl⟩ : ∃ z : Option Addr × Nat, oM = .slice z.1 oL.length z.2 := by obtain ⟨a, cap, h, -⟩ := hok.mo; exact ⟨⟨a, cap⟩, h⟩
   obtain ⟨nl, hnl⟩ : ∃ nl, nl = oL.length := ⟨_, rfl⟩
   rw [← hnl] at hst d4
   clear hdc ho hdq hbw hok hok0 hnl
   go_wp2_with fail
   refine hst.mono ?_
   rintro e w5 ⟨rfl, m', hm', hS'⟩
   have HS' : Hid (Ps w4 n1 w5 pb lb sb b g mb vb rb rg bb c L m' (4194304 * (k + 1))) := hS'.mono (by omega)
   clear hst hS' HS d0 d1 d2 d3 d4
   go_wp2_with fail
   go_roundw
   case rel => exact ⟨k + 1, m', by omega, by go_num, by omega, HS'⟩
   case measure => simp [intOf]; omega
  ·have hkI : ¬ (k : Int) < (nO : Int) := by omega
   have hls := list6_any HS.out (by omega)
   go_wp2_with fail
   refine hls.mono ?_
   rintro e w5 ⟨rfl, hS5⟩
   have HS5 : Hid (Ps w4 n1 w5 pb lb sb b g mb vb rb rg bb c L (m + 3) (4194304 * k)) := hS5
   have hst := step6_any hS5 (by omega) (by omega) ⟨6, 0, 0, 0, .slice none 0 0, []⟩ ⟨by unfold InI; decide, by unfold InI; decide, by unfold InI; decide, ⟨none, 0, rfl, Nat.le_refl _, fun i x h => by simp at h⟩, fun z h => by simp at h, by simp⟩
   dsimp only at hst
   clear hls hS5 HS
   go_wp2_with fail
   refine hst.mono ?_
   rintro e w6 ⟨rfl, m', hm', hS6⟩
   have hwd := words6_full hS6
   clear hst hS6 HS5
   go_wp2_with fail
   refine hwd.mono ?_
   rintro e w7 ⟨rfl, hS7⟩
   have HE : Hid (Below w.heap.size w w7) := HB4.out.trans (hS7.be.mono (by have := HB4.out.size; have := Hn1.out; omega))
   clear hwd hS7
   go_wp2_with fail
   go_ret
   exact ⟨rfl, HE.out⟩
end Go.Proofs.YtlkengnefhhppaaGreatDoor
