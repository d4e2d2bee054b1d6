/-
  Both alike: Alike.
-/
import Derived.Test.YtpiemfchjlihfaaGreatDoorAW2
set_option linter.unusedVariables false
set_option maxRecDepth 20000
namespace Go.Proofs.YtpiemfchjlihfaaGreatDoor
open Go.RowKit Go.Shelf

/-- A space's objects: eden's alone. -/
def spl (L : List Sg) (s : Nat) : List Int := if s = 1 then (obs 1 L).map (fun x => (x.1 : Int)) else []

section
variable {n0 : Nat} {w w' : World} {b ab ag vb ga gr N rb : Nat} {g : Nat → Nat} {c : Cfg} {top : Nat} {ws : Nat → Int} {B : Bfs} {at_ rs : Nat → Int} {L : List Sg} {Th : List Ob}

theorem Pc.goes (S : Pc n0 w b ab ag vb ga gr N rb g c top ws B at_ rs L Th) (s : Nat) (h1 : 1 ≤ s) (h4 : s ≤ 4) : ∃ p, Past c ws ((xt c top).top s) (fst c s) p ∧ Walk c ws ((xt c top).top s) p (spl L s) ((xt c top).top s) := by
  have ht : (top : Int) ≤ 1 + c.eden := S.topl.2.1
  have s0 := S.bw.ar.ok.s0
  have t0 := S.bw.ar.ok.t0
  obtain rfl | rfl | rfl | rfl : s = 1 ∨ s = 2 ∨ s = 3 ∨ s = 4 := by omega
  · obtain ⟨p, h1, h2⟩ := chn_walk (c := c) (by unfold Cfg.words; omega) S.wo.ch
    exact ⟨p, h1, h2⟩
  · exact ⟨_, .done (.inl (Int.le_refl _)), .done (Int.le_refl _)⟩
  · exact ⟨_, .done (.inl (Int.le_refl _)), .done (Int.le_refl _)⟩
  · exact ⟨_, .done (.inl (Int.le_refl _)), .done (Int.le_refl _)⟩

theorem Pc.lens (S : Pc n0 w b ab ag vb ga gr N rb g c top ws B at_ rs L Th) (s : Nat) : (spl L s).length ≤ 40000 := by
  unfold spl
  split
  · have h1 := obs_length S.wo.ch
    have h2 := S.wo.ch.top
    have h3 := S.topl.1
    rw [List.length_map]
    omega
  · simp

/-- Each is one that was put. -/
theorem Pc.which (S : Pc n0 w b ab ag vb ga gr N rb g c top ws B at_ rs L Th) {s i : Nat} {z : Int} (h : (spl L s)[i]? = some z) : ∃ T, T ∈ Th ∧ z = T.at_ := by
  unfold spl at h
  split at h
  · have hm := List.mem_of_getElem? h
    obtain ⟨y, hy, rfl⟩ := List.mem_map.1 hm
    have h2 := S.wo.ob.mem_iff.1 hy
    obtain ⟨T, hT, e⟩ := List.mem_map.1 h2
    exact ⟨T, hT, by rw [← e]⟩
  · simp at h

theorem own_cellz {B : Nat} {w : World} {a : Option Addr} {n cap : Nat} {l : List Int} (hn : n = l.length) (h : w.ownsRow B 3 1 (.slice a n cap) n (ints l)) {k : Nat} {z : Int} (hk : l[k]? = some z) : ∃ q, a = some ⟨q, 0, none⟩ ∧ q < w.heap.size ∧ w.cell? ⟨q, k, none⟩ = some (.int .i64 z) := by
  have hi := (List.getElem?_eq_some_iff.1 hk).1
  rcases h.2 with ⟨h1, h2⟩ | ⟨q, cap', cur, h1, _, hg, hn', _, hs, ht⟩
  · omega
  · simp only [Value.slice.injEq] at h1
    refine ⟨q, h1.1, (Array.getElem?_eq_some_iff.1 hg).1, ?_⟩
    have h3 : (ints l)[k]? = some (.int .i64 z) := by simp [ints, hk]
    rw [cell_of_row _ _ k _ _ _ hg, ← h3, ← ht, List.getElem?_take, if_pos (by omega), Array.getElem?_toList]

end

set_option maxHeartbeats 8000000 in
theorem alike_any {n0 : Nat} {w : World} {b ab ag vb ga gr N rb : Nat} {g : Nat → Nat} {c : Cfg} {top : Nat} {ws : Nat → Int} {B : Bfs} {at_ rs : Nat → Int} {L : List Sg} {Th : List Ob} (S : Pc n0 w b ab ag vb ga gr N rb g c top ws B at_ rs L Th) :
    Calls Tryz.prog 10 #[.pointer (some ⟨ab, 0, none⟩), .pointer (some ⟨rb, 0, none⟩)] w fun e w' => e = .returned (.bool true) ∧ Below w.heap.size w w' := by
  have HS : Hid (Pc n0 w b ab ag vb ga gr N rb g c top ws B at_ rs L Th) := S
  have q1 : Calls Tryz.prog 30 #[.pointer (some ⟨ab, 0, none⟩)] w fun e w' => e = .returned (.int .i64 2) ∧ w = w' := from_any ab ag c (xt c top) false ws w S.bw.ar
  have q2 : Calls Tryz.prog 31 #[.pointer (some ⟨rb, 0, none⟩)] w fun e w' => e = .returned (.int .i64 2) ∧ w = w' := rfrom_any rb g c (xt c top) false ws w S.rz.ar
  have q3 : Calls Tryz.prog 32 #[.pointer (some ⟨ab, 0, none⟩)] w fun e w' => e = .returned (.int .i64 3) ∧ w = w' := to_any ab ag c (xt c top) false ws w S.bw.ar
  have q4 : Calls Tryz.prog 33 #[.pointer (some ⟨rb, 0, none⟩)] w fun e w' => e = .returned (.int .i64 3) ∧ w = w' := rto_any rb g c (xt c top) false ws w S.rz.ar
  clear S
  go_enter Tryz.func10, Tryz.ntmps10
  go_wp2_with fail
  refine q1.mono ?_
  rintro e w1 ⟨rfl, rfl⟩
  go_wp2_with fail
  refine q2.mono ?_
  rintro e w1 ⟨rfl, rfl⟩
  go_wp2_with fail
  refine q3.mono ?_
  rintro e w1 ⟨rfl, rfl⟩
  go_wp2_with fail
  refine q4.mono ?_
  rintro e w1 ⟨rfl, rfl⟩
  clear q1 q2 q3 q4
  go_wp2
  go_loopw [5] (fun iv wr => ∃ s : Nat, iv = .int .i64 s ∧ 1 ≤ s ∧ s ≤ 5 ∧ Hid (Below w.heap.size w wr)) (fun iv _ => 5 - (intOf iv).toNat)
  case atStart => exact ⟨1, rfl, by omega, by omega, Below.refl _ _⟩
  case round =>
    obtain ⟨s, rfl, hs1, hs5, HB⟩ := hrel
    by_cases hs4 : s < 5
    · have hsi : (s : Int) < 5 := by omega
      obtain ⟨p, hp1, hp2⟩ := HS.out.goes s hs1 (by omega)
      have hlen := HS.out.lens s
      obtain ⟨l, hl⟩ : ∃ l, l = spl L s := ⟨_, rfl⟩
      rw [← hl] at hp2 hlen
      have Hl : Hid (l = spl L s) := hl
      obtain ⟨tp, htp⟩ : ∃ tp, tp = (xt c top).top s := ⟨_, rfl⟩
      have HPW : Hid (Past c ws ((xt c top).top s) (fst c s) p ∧ Walk c ws ((xt c top).top s) p l ((xt c top).top s)) := ⟨hp1, hp2⟩
      have Htp : Hid (tp = (xt c top).top s) := htp
      have S1 := HS.out.below HB.out
      have q := walked_s (s : Int) l p hp1 hp2 hlen S1.bw.ar S1.bw.ld
      clear hp1 hp2 hl htp S1
      go_wp2_with fail
      refine q.mono ?_
      rintro e w2 ⟨v1, rfl, r1, b2⟩
      have HB2 : Hid (Below w.heap.size w w2) := HB.out.trans (b2.mono HB.out.size)
      have HR1 : Hid (w2.ownsRow wr.heap.size 3 1 v1 l.length (ints l)) := r1
      have q : Calls Tryz.prog 35 #[.pointer (some ⟨rb, 0, none⟩), .int .i64 s] w2 fun r w' => ∃ v, r = .returned (.tuple #[v, .int .i64 0]) ∧ w'.ownsRow w2.heap.size 3 1 v l.length (ints l) ∧ Below w2.heap.size w2 w' := by
        have := rwalk_any rb g c (xt c top) false ws s hs1 (by omega) l p _ HPW.out.1 HPW.out.2 (by omega) (HS.out.below HB2.out).wds w2 (HS.out.below HB2.out).rz.ar
        rw [if_neg (Int.lt_irrefl _)] at this
        exact this
      obtain ⟨a1, cap1, hv1⟩ : ∃ a cap, v1 = .slice a l.length cap := by
        rcases r1.2 with ⟨h1, h2⟩ | ⟨q, cap, cur, h1, _⟩
        · exact ⟨none, 0, by rw [h1, h2]⟩
        · exact ⟨_, _, h1⟩
      subst hv1
      clear r1 b2
      go_wp2_with fail
      refine q.mono ?_
      rintro e w3 ⟨v2, rfl, r2, b3⟩
      have HB3 : Hid (Below w.heap.size w w3) := HB2.out.trans (b3.mono HB2.out.size)
      have HR13 : Hid (w3.ownsRow wr.heap.size 3 1 (.slice a1 l.length cap1) l.length (ints l)) := row_keep HR1.out (fun q hq => b3.block q (row_lt HR1.out q hq))
      have HR2 : Hid (w3.ownsRow w2.heap.size 3 1 v2 l.length (ints l)) := r2
      obtain ⟨a2, cap2, hv2⟩ : ∃ a cap, v2 = .slice a l.length cap := by
        rcases r2.2 with ⟨h1, h2⟩ | ⟨q, cap, cur, h1, _⟩
        · exact ⟨none, 0, by rw [h1, h2]⟩
        · exact ⟨_, _, h1⟩
      subst hv2
      have q : Calls Tryz.prog 36 #[.pointer (some ⟨ab, 0, none⟩), .int .i64 s] w3 fun e w' => e = .returned (.int .i64 tp) ∧ Below w3.heap.size w3 w' := by
        rw [Htp.out]
        exact top_any ab ag c (xt c top) false ws s w3 (HS.out.below HB3.out).bw.ar
      clear r2 b3 HR1
      go_wp2_with fail
      refine q.mono ?_
      rintro e w4 ⟨rfl, b4⟩
      have HB4 : Hid (Below w.heap.size w w4) := HB3.out.trans (b4.mono HB3.out.size)
      have q : Calls Tryz.prog 37 #[.pointer (some ⟨rb, 0, none⟩), .int .i64 s] w4 fun e w' => e = .returned (.int .i64 tp) ∧ Below w4.heap.size w4 w' := by
        rw [Htp.out]
        exact rtop_any rb g c (xt c top) false ws s w4 (HS.out.below HB4.out).rz.ar
      have HB34 : Hid (Below w3.heap.size w3 w4) := b4
      clear b4
      go_wp2_with fail
      refine q.mono ?_
      rintro e w5 ⟨rfl, b5⟩
      have HB35 : Hid (Below w3.heap.size w3 w5) := HB34.out.trans (b5.mono HB34.out.size)
      have HB5 : Hid (Below w.heap.size w w5) := HB4.out.trans (b5.mono HB4.out.size)
      have HRa : Hid (w5.ownsRow wr.heap.size 3 1 (.slice a1 l.length cap1) l.length (ints l)) := row_keep HR13.out (fun q hq => HB35.out.block q (row_lt HR13.out q hq))
      have HRb : Hid (w5.ownsRow w2.heap.size 3 1 (.slice a2 l.length cap2) l.length (ints l)) := row_keep HR2.out (fun q hq => HB35.out.block q (row_lt HR2.out q hq))
      clear q b5 HB34 HB35 HR13 HR2 HB3 HB4 HB2
      go_wp2
      obtain ⟨wo, hwo⟩ : ∃ v, v = wr := ⟨_, rfl⟩
      subst hwo
      go_loopw [10] (fun iv wr => ∃ k : Nat, iv = .int .i64 k ∧ k ≤ l.length ∧ Hid (Below w5.heap.size w5 wr)) (fun iv _ => l.length - (intOf iv).toNat)
      case atStart => exact ⟨0, rfl, by omega, Below.refl _ _⟩
      case round =>
        obtain ⟨k, rfl, hk, HBk⟩ := hrel
        obtain ⟨v, hv⟩ : ∃ v, v = wr := ⟨_, rfl⟩
        subst hv
        have HBv : Hid (Below w.heap.size w v) := HB5.out.trans (HBk.out.mono HB5.out.size)
        by_cases hkl : k < l.length
        · have hki : (k : Int) < (l.length : Int) := by omega
          obtain ⟨z, hz⟩ : ∃ z, l[k]? = some z := ⟨_, List.getElem?_eq_getElem hkl⟩
          obtain ⟨g1, hg1, hgl1, hc1⟩ := own_cellz rfl (row_keep HRa.out (fun q hq => HBk.out.block q (row_lt HRa.out q hq))) hz
          obtain ⟨g2, hg2, hgl2, hc2⟩ := own_cellz rfl (row_keep HRb.out (fun q hq => HBk.out.block q (row_lt HRb.out q hq))) hz
          obtain ⟨T, hT, hzT⟩ := HS.out.which (s := s) (i := k) (z := z) (by rw [← Hl.out]; exact hz)
          haveI hinh : Inhabited (Kg.Bel v) := ⟨⟨v, Below.refl _ _⟩⟩
          have z1 : ∀ q : Kg.Bel v, q.v.cell? ⟨g1, k, none⟩ = some (.int .i64 z) := fun q => (q.h.cell (p := ⟨g1, k, none⟩) hgl1).trans hc1
          have z2 : ∀ q : Kg.Bel v, q.v.cell? ⟨g2, k, none⟩ = some (.int .i64 z) := fun q => (q.h.cell (p := ⟨g2, k, none⟩) hgl2).trans hc2
          have HTh : Hid (∀ q : Kg.Bel v, Calls Tryz.prog 38 #[.pointer (some ⟨ab, 0, none⟩), .pointer (some ⟨rb, 0, none⟩), .int .i64 z] q.v fun e w' => e = .returned (.bool true) ∧ Below q.v.heap.size q.v w') := fun q => by
            rw [hzT]
            exact thing_any ((HS.out.below HBv.out).below q.h) hT
          clear hc1 hc2 hz hT hzT
          subst hg1 hg2
          go_upto_region 13 with fail
          refine Kg.region_below Kg.mixed (by kernel_rfl) ?_
          repeat (go_big_quiet_step (first | (go_at_call 38; exact Kg.calls_bel (HTh.out _))))
          refine wpQuiet_nil ?_
          rintro w6 ⟨⟨w6, b6⟩, rfl⟩
          have HB6 : Hid (Below w5.heap.size w5 w6) := HBk.out.trans (b6.mono HBk.out.size)
          clear z1 z2 HTh hinh b6 hgl1 hgl2
          go_wp2
          go_roundw
          case rel => exact ⟨k + 1, by go_num, by omega, HB6⟩
          case measure => simp [intOf]; omega
        · have hki : ¬ (k : Int) < (l.length : Int) := by omega
          go_wp2
          go_roundw
          case rel => exact ⟨s + 1, by go_num, by omega, by omega, HBv⟩
          case measure => simp [intOf]; omega
    · have hsi : ¬ (s : Int) < 5 := by omega
      have S9 := HS.out.below HB.out
      have q := check_ok ab ag c (xt c top) false ws (comes_all S9.bw.ar.ok S9.wo.ch S9.bw.ar.t11) wr S9.bw.ar S9.bw.ld
      clear S9
      go_wp2_with fail
      refine q.mono ?_
      rintro e w2 ⟨rfl, b2⟩
      have HB2 : Hid (Below w.heap.size w w2) := HB.out.trans (b2.mono HB.out.size)
      have q := rcheck_yes rb g c (xt c top) false ws (spl L) (fun s => (xt c top).top s) (fun s h1 h4 => ⟨HS.out.goes s h1 h4, by have := HS.out.lens s; omega⟩) (fun s _ _ => Int.le_refl _) HS.out.wds w2 (HS.out.below HB2.out).rz.ar
      clear b2
      go_wp2_with fail
      refine q.mono ?_
      rintro e w3 ⟨rfl, b3⟩
      have HB3 : Hid (Below w.heap.size w w3) := HB2.out.trans (b3.mono HB2.out.size)
      clear q b3
      go_wp2
      go_ret
      exact ⟨rfl, HB3.out⟩

end Go.Proofs.YtpiemfchjlihfaaGreatDoor
