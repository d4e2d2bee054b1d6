import Derived.Test.YtlkengnefhhppaaGreatDoorPQi
import Derived.Test.YtlkengnefhhppaaGreatDoorUY36
import Derived.Test.YtlkengnefhhppaaGreatDoorUZ8
set_option linter.unusedVariables false
set_option maxHeartbeats 8000000
set_option maxRecDepth 20000
namespace Go.Proofs.YtlkengnefhhppaaGreatDoor
open Go.RowKit Go.Shelf
theorem begin6_any (cp : Cfg) (a0 : Option Addr) (cap0 : Nat) (P : List LT) (n0 : Nat) (hn0 : n0 = P.length) (w : World) (hL : Laid w) (hP : Prd w.heap.size w (.slice a0 P.length cap0) P) (hpi : ∀ o, o ∈ P → ∀ z, z ∈ o.ps → InI z) (hPl : P.length ≤ 1172812402961) :
  Calls Tryz.prog 5 #[pv cp (.slice a0 n0 cap0)] w fun e w' => ∃ (w4 : World) (pb lb sb b g mb vb rb : Nat) (rg : Nat → Nat) (bb : Nat) (c : Cfg) (L : List LT), e = .returned (.pointer (some ⟨pb, 0, none⟩)) ∧ Ps w4 w4.heap.size w' pb lb sb b g mb vb rb rg bb c L 0 0 ∧ Below w.heap.size w w4 := by
 have HLa : Hid (Laid w) := hL
 have HPr : Hid (Prd w.heap.size w (.slice a0 P.length cap0) P ∧ (∀ o, o ∈ P → ∀ z, z ∈ o.ps → InI z) ∧ P.length ≤ 1172812402961 ∧ n0 = P.length) := ⟨hP, hpi, hPl, hn0⟩
 have hn0b : n0 ≤ 1172812402961 := by omega
 clear hL hP hpi hPl hn0
 go_enter Tryz.func5, Tryz.ntmps5
 go_upto_region 1 with fail
 have p0 := Pd.new w cp (.slice a0 n0 cap0)
 have b0 : Below w.heap.size w (w.alloc (.cells (pcells cp (.slice a0 n0 cap0)) 26)) := Below.alloc (Below.refl _ _) (Nat.le_refl _) _
 obtain ⟨v1, hv1⟩ : ∃ v1, v1 = w.alloc (.cells (pcells cp (.slice a0 n0 cap0)) 26) := ⟨_, rfl⟩
 obtain ⟨B, hB⟩ : ∃ B, B = w.heap.size := ⟨_, rfl⟩
 show Code.wp _ _ _ _ (w.alloc (.cells (pcells cp (.slice a0 n0 cap0)) 26))
 rw [← hv1] at p0 b0 ⊢
 rw [← hB] at p0 ⊢
 have HP1 : Hid (Pd v1 B cp (.slice a0 n0 cap0)) := p0
 have HB1 : Hid (Below w.heap.size w v1) := b0
 have k0 : v1.cell? ⟨B, 0, none⟩ = some (.int .i64 cp.eden) := HP1.out.cell 0
 have k1 : v1.cell? ⟨B, 1, none⟩ = some (.int .i64 cp.surv) := HP1.out.cell 1
 have k2 : v1.cell? ⟨B, 2, none⟩ = some (.int .i64 cp.ten) := HP1.out.cell 2
 have k3 : v1.cell? ⟨B, 3, none⟩ = some (.int .i64 cp.large) := HP1.out.cell 3
 have k4 : v1.cell? ⟨B, 4, none⟩ = some (.int .i64 cp.floor) := HP1.out.cell 4
 have k5 : v1.cell? ⟨B, 5, none⟩ = some (.int .i64 cp.num) := HP1.out.cell 5
 have k6 : v1.cell? ⟨B, 6, none⟩ = some (.int .i64 cp.den) := HP1.out.cell 6
 have k7 : v1.cell? ⟨B, 7, none⟩ = some (.int .i64 cp.target) := HP1.out.cell 7
 have k8 : v1.cell? ⟨B, 8, none⟩ = some (.int .i64 cp.maxAge) := HP1.out.cell 8
 have k9 : v1.cell? ⟨B, 9, none⟩ = some (.int .i64 cp.threads) := HP1.out.cell 9
 have k10 : v1.cell? ⟨B, 10, none⟩ = some (.int .i64 cp.slots) := HP1.out.cell 10
 have k11 : v1.cell? ⟨B, 11, none⟩ = some (.int .i64 cp.handles) := HP1.out.cell 11
 have k12 : v1.cell? ⟨B, 12, none⟩ = some (.int .i64 cp.buffer) := HP1.out.cell 12
 have k13 : v1.cell? ⟨B, 13, none⟩ = some (.int .i64 cp.workers) := HP1.out.cell 13
 have k14 : v1.cell? ⟨B, 14, none⟩ = some (.slice a0 n0 cap0) := HP1.out.cell 14
 have hun : Calls Tryz.prog 16 #[pv cp (.slice a0 n0 cap0)] v1 fun e w' => ∃ a m, e = .returned (pv cp (.slice a n0 m)) ∧ w'.ownsRow 0 41 11 (.slice a P.length m) P.length (lflat (P.map unh)) ∧ Below v1.heap.size v1 w' ∧ ∀ y, (Value.slice a P.length m).ownBlock = some y → v1.heap.size ≤ y := by
  have h := unheld_full cp (.slice a0 P.length cap0) P w.heap.size v1 HB1.out.size (HPr.out.1.below HB1.out) HPr.out.2.2.1
  rw [HPr.out.2.2.2]
  exact h
 clear HP1 p0 b0 hv1 hB
 go_wp2_with fail
 refine hun.mono ?_
 rintro e w3 ⟨ua, um, rfl, hrow, l3, hfr⟩
 have HB3 : Hid (Below w.heap.size w w3) := HB1.out.trans (l3.mono HB1.out.size)
 have hprd : Prd w3.heap.size w3 (.slice ua (P.map unh).length um) (P.map unh) := by
  have hr : w3.ownsRow 0 41 11 (.slice ua (P.map unh).length um) (P.map unh).length (lflat (P.map unh)) := by rw [List.length_map]; exact hrow
  refine Prd.of_row hr (fun T hT => ?_)
  obtain ⟨o, ho, rfl⟩ := List.mem_map.1 hT
  obtain ⟨i, hi⟩ := List.getElem?_of_mem ho
  obtain ⟨a9, c9, -, hh⟩ := HPr.out.1
  obtain ⟨h1, h2, h3, -⟩ := hh i o hi
  exact ⟨⟨h1.sp, h1.k, h1.a, h1.t, h1.fill, h1.s, h1.rs⟩, (h2.below HB3.out).mono HB3.out.size, (h3.below HB3.out).mono HB3.out.size⟩
 have hfx := fix_core cp ua um (P.map unh) w3.heap.size n0 (by rw [List.length_map]; exact HPr.out.2.2.2) w3 (Nat.le_refl _) hprd (fun T hT z hz => by
  obtain ⟨o, ho, rfl⟩ := List.mem_map.1 hT
  exact HPr.out.2.1 o ho z hz)
 clear hun k0 k1 k2 k3 k4 k5 k6 k7 k8 k9 k10 k11 k12 k13 k14 hrow l3 hfr HB1 hprd
 go_wp2_with fail
 refine hfx.mono ?_
 rintro e w4 ⟨lb, c, L, rfl, hly, ok, -, -, -, b4⟩
 have HB4 : Hid (Below w.heap.size w w4) := HB3.out.trans (b4.mono HB3.out.size)
 have hla : Laid w4 := HLa.out.keep HB4.out
 have Hla : Hid (1 < w4.heap.size ∧ 0 < w4.heap.size) := ⟨hla.lt0, hla.lt1⟩
 have hbu := build_ex hly (Nat.le_refl _) ok hla hla.lt0 hla.lt1
 have HLy : Hid (Ly w4.heap.size w4 lb c L) := hly
 have HOk : Hid (LOk c L) := ok
 clear hfx hly ok b4 hla HB3
 go_wp2_with fail
 refine hbu.mono ?_
 rintro e w5 ⟨b, rfl, g, th, hbq, sk, -⟩
 have HBq : Hid (Bq w4 w4.heap.size w5 b g c (tps c L) false (wlay L) th) := hbq
 have HSk : Hid (Sk L th) := sk
 have hnw := sNew_any b w5
 clear hbu hbq sk
 go_wp2_with fail
 refine hnw.mono ?_
 rintro e w6 ⟨rfl, hrs, l6⟩
 have hR := Rm.start HBq.out (Nat.le_refl _) hrs l6
 obtain ⟨mb, hmb⟩ : ∃ m, m = w5.heap.size := ⟨_, rfl⟩
 rw [← hmb] at hR ⊢
 have HR : Hid (Rm w4 w4.heap.size w6 (mb + 1) b g mb (.slice none 0 0) c (tps c L) false (wlay L) th [] 0 (fun a => decide (a ∈ ([] : List Int)))) := hR
 have HLy6 : Hid (Ly w4.heap.size w6 lb c L) := HLy.out.below hR.bq.be
 have s46 : w4.heap.size ≤ w6.heap.size := hR.bq.be.size
 have htw := twin_any (HLy6.out.wide s46) (Nat.le_refl _) HOk.out (Nat.lt_of_lt_of_le Hla.out.1 s46) (Nat.lt_of_lt_of_le Hla.out.2 s46)
 clear hnw hrs l6 hR HBq hmb s46
 go_wp2_with fail
 refine htw.mono ?_
 rintro e w7 ⟨rb, rfl, rg, th', hQ, -, -⟩
 have HQ : Hid (Rq w6 w6.heap.size w7 rb rg c (tps c L) (wlay L) th') := hQ
 have hrn := r6New_any (w := w7) (b := rb) (g := rg) (c := c) (x := tps c L) (sw := false) (ws := wlay L) (th := th) ⟨hQ.ra, HR.out.bq.ax.hp⟩
 clear htw hQ
 go_wp2_with fail
 refine hrn.mono ?_
 rintro e w8 ⟨vb, rfl, hvb, l8, hD⟩
 have HE := Ps.start HR.out HQ.out hvb l8 hD HLy6.out HOk.out HSk.out
 clear hrn hvb l8 hD HR HQ HLy6 HOk HSk HLy
 have HE : Hid _ := HE
 go_wp2_with (first | refine Kg.wpList_build0 rfl 75 _ rfl Kg.build_bk0 ?_)
 go_ret
 exact ⟨w4, _, lb, _, b, g, mb, vb, rb, rg, _, c, L, rfl, HE.out, HB4.out⟩
end Go.Proofs.YtlkengnefhhppaaGreatDoor
