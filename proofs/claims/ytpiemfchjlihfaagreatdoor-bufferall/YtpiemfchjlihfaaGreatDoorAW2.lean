/-
  Both alike: one object. 
-/
import Derived.Test.YtpiemfchjlihfaaGreatDoorPB3
import Derived.Test.YtpiemfchjlihfaaGreatDoorAW1
import Derived.Test.YtpiemfchjlihfaaGreatDoorPBc
set_option linter.unusedVariables false
set_option maxRecDepth 20000
namespace Go.Proofs.YtpiemfchjlihfaaGreatDoor
open Go.RowKit Go.Shelf

set_option maxHeartbeats 2000000 in
theorem head_core (d : Bool) (b : Nat) (a s K P R A T : Int) (H : Bool) (ad : Option Addr) (n cap : Nat) (w : World)
    (ho : ∀ w1, Below w.heap.size w w1 → Calls Tryz.prog 97 #[.pointer (some ⟨b, 0, none⟩), .int .i64 a] w1 fun e w' => e = .returned (.tuple #[ov s K P R A T H (.slice ad n cap), .bool d]) ∧ Below w1.heap.size w1 w') :
    Calls Tryz.prog 79 #[.pointer (some ⟨b, 0, none⟩), .int .i64 a] w fun e w' => e = .returned (.tuple #[hv s K P R A T H, .bool d]) ∧ Below w.heap.size w w' := by
  have hX := Box.new w 46 (.int .u64 0) (.int .i64 0) (.int .i64 0) (.int .i64 0) (.int .i64 0) (.int .i64 0) (.bool false)
  have hb := Below.alloc (Below.refl w.heap.size w) (Nat.le_refl _) (.cells (hcells 0 0 0 0 0 0 false) 46)
  have h1 := ho _ hb
  have hxlt := hX.lt
  clear ho
  go_enter Tryz.func79, Tryz.ntmps79
  go_upto_region 1 with fail
  generalize (w.alloc (.cells (hcells 0 0 0 0 0 0 false) 46)) = w0 at *
  go_wp2_with fail
  refine h1.mono ?_
  rintro e w1 ⟨rfl, l1⟩
  have b1 := hb.trans (l1.mono hb.size)
  have hX1 := hX.keep l1 hxlt
  have hx1 := hX1.lt
  clear h1 hb hX l1 hxlt
  go_upto_region 2 with fail
  have hX2 := hX1.keep (Below.alloc (Below.refl _ _) (Nat.le_refl _) (.cells (ocells s K P R A T H (.slice ad n cap)) 146)) hx1
  have b2 := Below.alloc b1 b1.size (.cells (ocells s K P R A T H (.slice ad n cap)) 146)
  have hy : ∀ j, (w1.alloc (.cells (ocells s K P R A T H (.slice ad n cap)) 146)).cell? ⟨w1.heap.size, j, none⟩ = (ocells s K P R A T H (.slice ad n cap))[j]? := fun j => cell_of_row _ _ j _ _ _ (heap_alloc_new w1 (.cells (ocells s K P R A T H (.slice ad n cap)) 146 (0, 0)))
  have hne : w.heap.size ≠ w1.heap.size := by omega
  generalize (w1.alloc (.cells (ocells s K P R A T H (.slice ad n cap)) 146)) = w2 at *
  have y0 : w2.cell? ⟨w1.heap.size, 0, none⟩ = some (.int .u64 s) := hy 0
  have y1 : w2.cell? ⟨w1.heap.size, 1, none⟩ = some (.int .i64 K) := hy 1
  have y2 : w2.cell? ⟨w1.heap.size, 2, none⟩ = some (.int .i64 P) := hy 2
  have y3 : w2.cell? ⟨w1.heap.size, 3, none⟩ = some (.int .i64 R) := hy 3
  have y4 : w2.cell? ⟨w1.heap.size, 4, none⟩ = some (.int .i64 A) := hy 4
  have y5 : w2.cell? ⟨w1.heap.size, 5, none⟩ = some (.int .i64 T) := hy 5
  have y6 : w2.cell? ⟨w1.heap.size, 6, none⟩ = some (.bool H) := hy 6
  clear hX1 b1 hx1 hy
  generalize w1.heap.size = B7 at *
  have hne' : B7 ≠ w.heap.size := fun e => hne e.symm
  obtain ⟨x0, x1, x2, x3, x4, x5, x6, f0, f1, f2, f3, f4, f5, f6⟩ := hX2
  go_wp2
  refine bodyPost_ret (by simp [results, Tryz.results79, go_sem, x0, x1, x2, x3, x4, x5, x6]; try rfl) rfl ?_
  refine ⟨rfl, ?_⟩
  go_grown


theorem Ob.Is.parts {T : Ob} {ws : Nat → Int} {L : List Sg} (h : T.Is ws L) : kdOf T.m = T.k ∧ ptOf T.m = T.p ∧ rwOf T.m = T.r ∧ agOf T.m = T.a ∧ stOf T.m = T.y ∧ hdOf T.m = T.h := by
  obtain ⟨h1, h2, h3, h4, h5, h6, -⟩ := parts_wrd (h := T.h) (May.of h.f)
  exact ⟨h1, h2, h3, h4, h5, h6⟩

section
variable {n0 : Nat} {w w' : World} {b ab ag vb ga gr N rb : Nat} {g : Nat → Nat} {c : Cfg} {top : Nat} {ws : Nat → Int} {B : Bfs} {at_ rs : Nat → Int} {L : List Sg} {Th : List Ob}

theorem Pc.wds (S : Pc n0 w b ab ag vb ga gr N rb g c top ws B at_ rs L Th) : ∀ j, Wd (wat c ws j) := fun j => by
  unfold wat
  split
  · exact S.bw.ar.wd _
  · exact ⟨Int.le_refl 0, by decide⟩

/-- An object's words. -/
theorem Pc.words (S : Pc n0 w b ab ag vb ga gr N rb g c top ws B at_ rs L Th) {T : Ob} (hT : T ∈ Th) : wat c ws (T.at_ + 1) = T.s ∧ (∀ j : Nat, j < T.p → wat c ws ((T.at_ : Int) + 2 + j) = 0) ∧ (∀ j : Nat, j < T.r → wat c ws ((T.at_ : Int) + 2 + T.p + j) = T.raws j) := by
  have hI := S.wo.th T hT
  have hin := hI.at_.in
  have htop := S.wo.ch.top
  have hl := S.topl
  have hTn : T.n = 2 + T.p + T.r := rfl
  simp only at hin
  have hs := S.wo.ch.is hI.at_
  have s0 := S.bw.ar.ok.s0
  have t0 := S.bw.ar.ok.t0
  have hwat : ∀ j : Nat, j < top → wat c ws j = ws j := fun j hj => by
    unfold wat
    rw [if_pos ⟨by omega, by unfold Cfg.words; omega⟩]
    simp
  refine ⟨?_, fun j hj => ?_, fun j hj => ?_⟩
  · have := hwat (T.at_ + 1) (by omega)
    rw [show (T.at_ : Int) + 1 = ((T.at_ + 1 : Nat) : Int) by omega, this]
    exact hs.2.2.2
  · rw [show (T.at_ : Int) + 2 + j = ((T.at_ + 2 + j : Nat) : Int) by omega, hwat _ (by omega)]
    exact hI.ptr j hj
  · rw [show (T.at_ : Int) + 2 + T.p + j = ((T.at_ + 2 + T.p + j : Nat) : Int) by omega, hwat _ (by omega)]
    exact hI.raw j hj

theorem Pc.at13 (S : Pc n0 w b ab ag vb ga gr N rb g c top ws B at_ rs L Th) {T : Ob} (hT : T ∈ Th) : At c (xt c top) ws T.at_ := by
  obtain ⟨h1, h2, h3, h4, h5, h6, h7⟩ := S.stands hT
  exact ⟨by rw [h1]; decide, by rw [h1]; exact h2, by rw [h1]; exact h3⟩

theorem Pc.headA (S : Pc n0 w b ab ag vb ga gr N rb g c top ws B at_ rs L Th) {T : Ob} (hT : T ∈ Th) :
    Calls Tryz.prog 79 #[.pointer (some ⟨ab, 0, none⟩), .int .i64 T.at_] w fun e w' => e = .returned (.tuple #[hv T.s T.k T.p T.r T.a T.y T.h, .bool true]) ∧ Below w.heap.size w w' := by
  obtain ⟨h1, h2, h3, h4, -, -, -⟩ := S.stands hT
  obtain ⟨h5, -, -⟩ := S.words hT
  obtain ⟨p1, p2, p3, p4, p5, p6⟩ := (S.wo.th T hT).parts
  have := head_core true ab T.at_ _ _ _ _ _ _ _ _ _ _ w (fun w1 l => object_yes ab ag c (xt c top) false ws T.at_ 1 h1 (by decide) h2 h3 w1 (S.bw.ar.below l) (S.bw.ld.keep l))
  rw [h4, h5, p1, p2, p3, p4, p5, p6] at this
  exact this

theorem Pc.headB (S : Pc n0 w b ab ag vb ga gr N rb g c top ws B at_ rs L Th) {T : Ob} (hT : T ∈ Th) :
    Calls Tryz.prog 69 #[.pointer (some ⟨rb, 0, none⟩), .int .i64 T.at_] w fun e w' => e = .returned (.tuple #[hv T.s T.k T.p T.r T.a T.y T.h, .bool true]) ∧ Below w.heap.size w w' := by
  obtain ⟨h1, h2, h3, h4, -, -, -⟩ := S.stands hT
  obtain ⟨h5, -, -⟩ := S.words hT
  obtain ⟨p1, p2, p3, p4, p5, p6⟩ := (S.wo.th T hT).parts
  have := rhead_at rb g c (xt c top) false ws T.at_ (S.at13 hT) (S.wds _) w S.rz.ar
  unfold hdv at this
  rw [h4, h5, p1, p2, p3, p4, p5, p6] at this
  exact this

theorem Pc.ptrA (S : Pc n0 w b ab ag vb ga gr N rb g c top ws B at_ rs L Th) {T : Ob} (hT : T ∈ Th) {i : Nat} (hi : i < T.p) :
    Calls Tryz.prog 80 #[.pointer (some ⟨ab, 0, none⟩), .int .i64 T.at_, .int .i64 i] w fun e w' => e = .returned (.tuple #[.int .i64 0, .bool true]) ∧ Below w.heap.size w w' := by
  obtain ⟨h1, h2, h3, h4, -, h6, -⟩ := S.stands hT
  have e := (S.words hT).2.1 i hi
  have := ptr_yes ab ag c (xt c top) false ws T.at_ 1 i h1 (by decide) h2 h3 (by rw [h4, h6]; omega) (by rw [e]; have := S.bw.ar.words; omega) w S.bw.ar S.bw.ld
  rw [e] at this
  exact this

theorem Pc.ptrB (S : Pc n0 w b ab ag vb ga gr N rb g c top ws B at_ rs L Th) {T : Ob} (hT : T ∈ Th) {i : Nat} (hi : i < T.p) :
    Calls Tryz.prog 81 #[.pointer (some ⟨rb, 0, none⟩), .int .i64 T.at_, .int .i64 i] w fun e w' => e = .returned (.tuple #[.int .i64 0, .bool true]) ∧ Below w.heap.size w w' := by
  obtain ⟨h1, h2, h3, h4, -, h6, -⟩ := S.stands hT
  have e := (S.words hT).2.1 i hi
  have := rptr_yes rb g c (xt c top) false ws T.at_ i (S.at13 hT) (by omega) (by rw [h4, h6]; omega) (by rw [e]; have := S.bw.ar.words; omega) S.wds w S.rz.ar
  rw [e] at this
  exact this

theorem Pc.rawA (S : Pc n0 w b ab ag vb ga gr N rb g c top ws B at_ rs L Th) {T : Ob} (hT : T ∈ Th) {i : Nat} (hi : i < T.r) :
    Calls Tryz.prog 82 #[.pointer (some ⟨ab, 0, none⟩), .int .i64 T.at_, .int .i64 i] w fun e w' => e = .returned (.tuple #[.int .u64 (T.raws i), .bool true]) ∧ Below w.heap.size w w' := by
  obtain ⟨h1, h2, h3, h4, -, h6, h7⟩ := S.stands hT
  have e := (S.words hT).2.2 i hi
  have := raw_yes ab ag c (xt c top) false ws T.at_ 1 i h1 (by decide) h2 h3 (by rw [h4, h7]; omega) w S.bw.ar S.bw.ld
  rw [h4, h6, e] at this
  exact this

theorem Pc.rawB (S : Pc n0 w b ab ag vb ga gr N rb g c top ws B at_ rs L Th) {T : Ob} (hT : T ∈ Th) {i : Nat} (hi : i < T.r) :
    Calls Tryz.prog 83 #[.pointer (some ⟨rb, 0, none⟩), .int .i64 T.at_, .int .i64 i] w fun e w' => e = .returned (.tuple #[.int .u64 (T.raws i), .bool true]) ∧ Below w.heap.size w w' := by
  obtain ⟨h1, h2, h3, h4, -, h6, h7⟩ := S.stands hT
  have e := (S.words hT).2.2 i hi
  have := rraw_yes rb g c (xt c top) false ws T.at_ i (S.at13 hT) (by omega) (by rw [h4, h7]; omega) S.wds w S.rz.ar
  rw [h4, h6, e] at this
  exact this

end

set_option maxHeartbeats 8000000 in
theorem thing_any {n0 : Nat} {w : World} {b ab ag vb ga gr N rb : Nat} {g : Nat → Nat} {c : Cfg} {top : Nat} {ws : Nat → Int} {B : Bfs} {at_ rs : Nat → Int} {L : List Sg} {Th : List Ob} (S : Pc n0 w b ab ag vb ga gr N rb g c top ws B at_ rs L Th) {T : Ob} (hT : T ∈ Th) :
    Calls Tryz.prog 38 #[.pointer (some ⟨ab, 0, none⟩), .pointer (some ⟨rb, 0, none⟩), .int .i64 T.at_] w fun e w' => e = .returned (.bool true) ∧ Below w.heap.size w w' := by
  have HS : Hid (Pc n0 w b ab ag vb ga gr N rb g c top ws B at_ rs L Th) := S
  have HT : Hid (T ∈ Th) := hT
  have hTb : T.p ≤ 70000 ∧ T.r ≤ 70000 := by
    have h1 := (S.stands hT).2.2.2.2.1
    have h2 := S.topl.1
    have h3 : T.n = 2 + T.p + T.r := rfl
    omega
  have q := S.headA hT
  clear S hT
  go_enter Tryz.func38, Tryz.ntmps38
  go_wp2_with fail
  refine q.mono ?_
  rintro e w1 ⟨rfl, b1⟩
  go_upto_region 2 with fail
  have B2 : Below w.heap.size w (w1.alloc (.cells (hcells T.s T.k T.p T.r T.a T.y T.h) 46)) := Below.alloc b1 b1.size _
  have X2 := heap_alloc_new w1 (.cells (hcells T.s T.k T.p T.r T.a T.y T.h) 46)
  generalize w1.alloc (.cells (hcells T.s T.k T.p T.r T.a T.y T.h) 46) = w2 at *
  generalize w1.heap.size = X at *
  have HX2 : Hid (w2.heap[X]? = some (.cells (hcells T.s T.k T.p T.r T.a T.y T.h) 46 (0, 0))) := X2
  have HB2 : Hid (Below w.heap.size w w2) := B2
  have q2 := (HS.out.below B2).headB HT.out
  clear q b1 B2 X2
  go_wp2_with fail
  refine q2.mono ?_
  rintro e w3 ⟨rfl, b3⟩
  go_upto_region 3 with fail
  have B4 : Below w2.heap.size w2 (w3.alloc (.cells (hcells T.s T.k T.p T.r T.a T.y T.h) 46)) := Below.alloc b3 b3.size _
  have X4 := heap_alloc_new w3 (.cells (hcells T.s T.k T.p T.r T.a T.y T.h) 46)
  have hXl : X < w2.heap.size := (Array.getElem?_eq_some_iff.1 HX2.out).1
  generalize w3.alloc (.cells (hcells T.s T.k T.p T.r T.a T.y T.h) 46) = w4 at *
  generalize w3.heap.size = Y at *
  have HX4 : Hid (w4.heap[X]? = some (.cells (hcells T.s T.k T.p T.r T.a T.y T.h) 46 (0, 0))) := (B4.block X hXl).trans HX2.out
  have HY4 : Hid (w4.heap[Y]? = some (.cells (hcells T.s T.k T.p T.r T.a T.y T.h) 46 (0, 0))) := X4
  have HB4 : Hid (Below w.heap.size w w4) := HB2.out.trans (B4.mono HB2.out.size)
  clear q2 b3 B4 X4 HX2 HB2 hXl
  have x0 : w4.cell? ⟨X, 0, none⟩ = some (.int .u64 T.s) := cell_of_row _ _ 0 _ _ _ HX4.out
  have x1 : w4.cell? ⟨X, 1, none⟩ = some (.int .i64 T.k) := cell_of_row _ _ 1 _ _ _ HX4.out
  have x2 : w4.cell? ⟨X, 2, none⟩ = some (.int .i64 T.p) := cell_of_row _ _ 2 _ _ _ HX4.out
  have x3 : w4.cell? ⟨X, 3, none⟩ = some (.int .i64 T.r) := cell_of_row _ _ 3 _ _ _ HX4.out
  have x4 : w4.cell? ⟨X, 4, none⟩ = some (.int .i64 T.a) := cell_of_row _ _ 4 _ _ _ HX4.out
  have x5 : w4.cell? ⟨X, 5, none⟩ = some (.int .i64 T.y) := cell_of_row _ _ 5 _ _ _ HX4.out
  have x6 : w4.cell? ⟨X, 6, none⟩ = some (.bool T.h) := cell_of_row _ _ 6 _ _ _ HX4.out
  have y0 : w4.cell? ⟨Y, 0, none⟩ = some (.int .u64 T.s) := cell_of_row _ _ 0 _ _ _ HY4.out
  have y1 : w4.cell? ⟨Y, 1, none⟩ = some (.int .i64 T.k) := cell_of_row _ _ 1 _ _ _ HY4.out
  have y2 : w4.cell? ⟨Y, 2, none⟩ = some (.int .i64 T.p) := cell_of_row _ _ 2 _ _ _ HY4.out
  have y3 : w4.cell? ⟨Y, 3, none⟩ = some (.int .i64 T.r) := cell_of_row _ _ 3 _ _ _ HY4.out
  have y4 : w4.cell? ⟨Y, 4, none⟩ = some (.int .i64 T.a) := cell_of_row _ _ 4 _ _ _ HY4.out
  have y5 : w4.cell? ⟨Y, 5, none⟩ = some (.int .i64 T.y) := cell_of_row _ _ 5 _ _ _ HY4.out
  have y6 : w4.cell? ⟨Y, 6, none⟩ = some (.bool T.h) := cell_of_row _ _ 6 _ _ _ HY4.out
  go_upto_region 6 with fail
  clear x0 x1 x2 x3 x4 x5 x6 y0 y1 y2 y3 y4 y5 y6
  go_loopw [11] (fun iv wr => ∃ k : Nat, iv = .int .i64 k ∧ k ≤ T.p ∧ Hid (Below w4.heap.size w4 wr)) (fun iv _ => T.p - (intOf iv).toNat)
  case atStart => exact ⟨0, rfl, by omega, Below.refl _ _⟩
  case round =>
    obtain ⟨k, rfl, hk, HBk⟩ := hrel
    have HBw : Hid (Below w.heap.size w wr) := HB4.out.trans (HBk.out.mono HB4.out.size)
    have hYk := (HBk.out.block Y (Array.getElem?_eq_some_iff.1 HY4.out).1).trans HY4.out
    have y2 : wr.cell? ⟨Y, 2, none⟩ = some (.int .i64 T.p) := cell_of_row _ _ 2 _ _ _ hYk
    clear hYk
    by_cases hkl : k < T.p
    · have hki : (k : Int) < (T.p : Int) := by omega
      have q := (HS.out.below HBw.out).ptrA HT.out hkl
      go_wp2_with fail
      refine q.mono ?_
      rintro e w5 ⟨rfl, b5⟩
      have HB5 : Hid (Below w.heap.size w w5) := HBw.out.trans (b5.mono HBw.out.size)
      have HB5k : Hid (Below w4.heap.size w4 w5) := HBk.out.trans (b5.mono HBk.out.size)
      have q2 := (HS.out.below HB5.out).ptrB HT.out hkl
      clear q b5 y2
      go_wp2_with fail
      refine q2.mono ?_
      rintro e w6 ⟨rfl, b6⟩
      have HB6 : Hid (Below w4.heap.size w4 w6) := HB5k.out.trans (b6.mono HB5k.out.size)
      clear q2 b6
      go_wp2
      go_roundw
      case rel => exact ⟨k + 1, by go_num, by omega, HB6⟩
      case measure => simp [intOf]; omega
    · have hki : ¬ (k : Int) < (T.p : Int) := by omega
      obtain ⟨w7, hw7⟩ : ∃ v, v = wr := ⟨_, rfl⟩
      subst hw7
      have HY7 : Hid (w7.heap[Y]? = some (.cells (hcells T.s T.k T.p T.r T.a T.y T.h) 46 (0, 0))) := (HBk.out.block Y (Array.getElem?_eq_some_iff.1 HY4.out).1).trans HY4.out
      go_wp2
      clear y2 hki hkl hk
      go_loopw [16] (fun iv wr => ∃ k : Nat, iv = .int .i64 k ∧ k ≤ T.r ∧ Hid (Below w7.heap.size w7 wr)) (fun iv _ => T.r - (intOf iv).toNat)
      case atStart => exact ⟨0, rfl, by omega, Below.refl _ _⟩
      case round =>
        obtain ⟨m, rfl, hm, HBm⟩ := hrel
        have HBz : Hid (Below w.heap.size w wr) := HBw.out.trans (HBm.out.mono HBw.out.size)
        have hYm := (HBm.out.block Y (Array.getElem?_eq_some_iff.1 HY7.out).1).trans HY7.out
        have y3 : wr.cell? ⟨Y, 3, none⟩ = some (.int .i64 T.r) := cell_of_row _ _ 3 _ _ _ hYm
        clear hYm
        by_cases hml : m < T.r
        · have hmi : (m : Int) < (T.r : Int) := by omega
          have q := (HS.out.below HBz.out).rawA HT.out hml
          go_wp2_with fail
          refine q.mono ?_
          rintro e w5 ⟨rfl, b5⟩
          have HB5 : Hid (Below w.heap.size w w5) := HBz.out.trans (b5.mono HBz.out.size)
          have HB5k : Hid (Below w7.heap.size w7 w5) := HBm.out.trans (b5.mono HBm.out.size)
          have q2 := (HS.out.below HB5.out).rawB HT.out hml
          clear q b5 y3
          go_wp2_with fail
          refine q2.mono ?_
          rintro e w6 ⟨rfl, b6⟩
          have HB6 : Hid (Below w7.heap.size w7 w6) := HB5k.out.trans (b6.mono HB5k.out.size)
          clear q2 b6
          go_wp2
          go_roundw
          case rel => exact ⟨m + 1, by go_num, by omega, HB6⟩
          case measure => simp [intOf]; omega
        · have hmi : ¬ (m : Int) < (T.r : Int) := by omega
          go_wp2
          go_ret
          exact ⟨rfl, HBz.out⟩

end Go.Proofs.YtpiemfchjlihfaaGreatDoor
