/-
  The document's own tenure: Turn.
-/
import Derived.Test.YtdcmpilgfkaamaaDoorU1
set_option linter.unusedVariables false
set_option maxRecDepth 20000
namespace Go.Proofs.YtdcmpilgfkaamaaDoor
open Go.RowKit

set_option maxHeartbeats 2000000 in
theorem rturn_bad (a : Option Addr) (w : World) (ws : Nat → Int) (hw : ¬ Wk ws) :
    Calls Tryd.prog 15 #[.pointer a, .agg (av ws)] w fun e w' => e = .returned (.tuple #[.int .i64 0, .int .i64 71]) ∧ Below w.heap.size w w' := by
  have hA : (w.alloc (.cells (av ws) 53)).heap[w.heap.size]? = _ := heap_alloc_new w (.cells (av ws) 53)
  have hb := Below.alloc (Below.refl w.heap.size w) (Nat.le_refl _) (.cells (av ws) 53)
  go_enter Tryd.func15, Tryd.ntmps15
  go_upto_region 1 with fail
  generalize (w.alloc (.cells (av ws) 53)) = w1 at hA hb ⊢
  have HA : Hid (_ = _) := hA
  have HW : Hid (¬ Wk ws) := hw
  clear hA hw
  go_wp2
  go_loopw [6] (fun i wr => ∃ k : Nat, k ≤ 16 ∧ i = .int .i64 k ∧ (∀ j, j < k → 0 ≤ ws j ∧ ws j ≤ 65536) ∧ wr = w1) (fun i _ => 16 - (intOf i).toNat)
  case atStart => exact ⟨0, by omega, rfl, fun j h => by omega, rfl⟩
  case round =>
    obtain ⟨k, hk, rfl, hbl, rfl⟩ := hrel
    have HB : Hid (∀ j, j < k → 0 ≤ ws j ∧ ws j ≤ 65536) := hbl
    clear hbl
    by_cases hlt : k < 16
    · have ck := (heap_cell HA.out k).trans (av_get ws k (by omega))
      have hki : (k : Int) < 16 := by omega
      obtain ⟨X, hX⟩ : ∃ X, X = ws k := ⟨_, rfl⟩
      rw [← hX] at ck
      have HX : Hid (X = ws k) := hX
      clear hX
      by_cases h0 : 0 ≤ X
      · by_cases h1 : X ≤ 65536
        · go_wp2
          go_roundw
          case rel =>
            refine ⟨k + 1, by omega, by go_num, ?_, trivial⟩
            intro j hj
            by_cases h3 : j = k
            · subst h3; rw [← HX.out]; exact ⟨h0, h1⟩
            · exact HB.out j (by omega)
          case measure => simp [intOf]; omega
        · go_wp2
          go_ret2
          exact ⟨rfl, hb⟩
      · go_wp2
        go_ret2
        exact ⟨rfl, hb⟩
    · exact absurd (fun j hj => HB.out j (by omega)) HW.out

set_option maxHeartbeats 4000000 in
theorem rturn_ok {w : World} {base b : Nat} {wa : Int} {mo : Nat} {L : List Int} {F : List Nat} (H : Tr w base b wa mo L F) (hbase : base ≤ w.heap.size) (hlen : L.length < 1000000) (ws : Nat → Int) (hw : Wk ws) (r : Nat) (hr : IsNext wa mo ws r) :
    Calls Tryd.prog 15 #[.pointer (some ⟨b, 0, none⟩), .agg (av ws)] w fun e w' => e = .returned (.tuple #[.int .i64 (r : Int), .int .i64 0]) ∧ ∃ F', Tr w' base b wa mo (L ++ [(r : Int)]) F' ∧ Touch F w w' ∧ Newer w.heap.size F F' := by
  have hA : (w.alloc (.cells (av ws) 53)).heap[w.heap.size]? = _ := heap_alloc_new w (.cells (av ws) 53)
  have hb := Below.alloc (Below.refl w.heap.size w) (Nat.le_refl _) (.cells (av ws) 53)
  have H1 := H.nil hb
  have hsz : (w.alloc (.cells (av ws) 53)).heap.size = w.heap.size + 1 := by simp
  obtain ⟨i0, hi, hz0, hz1, hz2⟩ := info_parts Tryd.infoInt
  have HI0 : Hid (Tryd.prog.info? 3 = some i0 ∧ i0.zero = some (.int .i64 0) ∧ i0.size = 1 ∧ i0.bytes = 8) := ⟨hi, hz0, hz1, hz2⟩
  clear hi hz0 hz1 hz2
  go_enter Tryd.func15, Tryd.ntmps15
  go_upto_region 1 with fail
  generalize (w.alloc (.cells (av ws) 53)) = w1 at hA hb H1 hsz ⊢
  have HA : Hid (_ = _) := hA
  have HW : Hid (Wk ws) := hw
  have HH : Hid (Tr w base b wa mo L F) := H
  have HB : Hid (Below w.heap.size w w1) := hb
  have HR : Hid (IsNext wa mo ws r) := hr
  have HZ : Hid (w1.heap.size = w.heap.size + 1) := hsz
  obtain ⟨v, hh, hbb, hrow, hF⟩ := H1.row
  have HF : Hid (F = b :: v.ownBlock.toList) := hF
  have HN : Hid (L ≠ [] ∧ base ≤ b) := ⟨H.l0, hbb⟩
  have Hh : Hid (w1.heap[b]? = some (.cells #[.int .i64 wa, .int .i64 mo, v] 67 (0, 0))) := hh
  have Hrow : Hid (w1.ownsRow base 3 1 v L.length (ints L)) := hrow
  have hw0 := H.w0
  have hw1 := H.w1
  have hm0 := H.m0
  have hm1 := H.m1
  have c0 := heap_cell hh 0
  have c1 := heap_cell hh 1
  have c2 := heap_cell hh 2
  have f2 := heap_frozen hh 2
  simp only [List.getElem?_toArray, List.getElem?_cons_zero, List.getElem?_cons_succ] at c0 c1 c2
  clear hA hw H hb hr hh hF hbb H1 hrow hsz
  go_wp2
  go_loopw [6] (fun i wr => ∃ k : Nat, k ≤ 16 ∧ i = .int .i64 k ∧ wr = w1) (fun i _ => 16 - (intOf i).toNat)
  case atStart => exact ⟨0, by omega, rfl, rfl⟩
  case round =>
    obtain ⟨k, hk, rfl, rfl⟩ := hrel
    by_cases hlt : k < 16
    · have ck := (heap_cell HA.out k).trans (av_get ws k (by omega))
      have hki : (k : Int) < 16 := by omega
      obtain ⟨h0, h1⟩ := HW.out k hlt
      generalize ws k = X at ck h0 h1
      go_wp2
      go_roundw
      case rel => exact ⟨k + 1, by omega, by go_num, trivial⟩
      case measure => simp [intOf]; omega
    · obtain rfl : k = 16 := by omega
      go_wp2
      go_loopw [7, 8, 9] (fun n l i wr2 => ∃ k : Nat, 1 ≤ k ∧ k ≤ mo ∧ i = .int .i64 k ∧ l = .int .i64 (wa - psum ws (k - 1)) ∧ n = .int .i64 ((min k r - 1 : Nat) : Int) ∧ wr2 = wr) (fun _ _ i _ => mo - (intOf i).toNat)
      case atStart => exact ⟨1, Nat.le_refl _, hm0, rfl, by simp [psum], by have := HR.out.lo; rw [Nat.min_eq_left this]; rfl, rfl⟩
      case round =>
        obtain ⟨k, hk1, hk2, rfl, rfl, rfl, rfl⟩ := hrel
        by_cases hlt : k < mo
        · have ck := (heap_cell HA.out k).trans (av_get ws k (by omega))
          have hki : (k : Int) < mo := by omega
          have hs := psum_bd HW.out (k - 1) (by omega)
          have hx := HW.out k (by omega)
          have hps : psum ws k = psum ws (k - 1) + ws k := by
            obtain ⟨j, rfl⟩ : ∃ j, k = j + 1 := ⟨k - 1, by omega⟩
            rfl
          have hk16 : k < 16 := by omega
          have hcase : (k < r → psum ws k ≤ wa) ∧ (r ≤ k → wa < psum ws k) := by
            refine ⟨fun h => HR.out.below k hk1 h, fun h => ?_⟩
            have h2 : wa < psum ws r := HR.out.own.resolve_left (by omega)
            have h3 := psum_mono HW.out r (k - r) (by omega)
            rw [show r + (k - r) = k by omega] at h3
            omega
          rw [hps] at hcase
          have hm : min k r - 1 ≤ 16 := by omega
          have hkr1 : k < r → min (k + 1) r - 1 = min k r - 1 + 1 := by omega
          have hkr2 : r ≤ k → min (k + 1) r - 1 = min k r - 1 := by omega
          have Hk1 : Hid (k < r → min (k + 1) r - 1 = min k r - 1 + 1) := hkr1
          have Hk2 : Hid (r ≤ k → min (k + 1) r - 1 = min k r - 1) := hkr2
          have Hps : Hid (psum ws k = psum ws (k - 1) + ws k) := hps
          clear hps hkr1 hkr2
          generalize psum ws (k - 1) = P at hs hcase Hps ⊢
          generalize ws k = X at hx hcase ck Hps ⊢
          generalize min k r - 1 = M at hm Hk1 Hk2 ⊢
          by_cases hg : k < r
          · have hge : 0 ≤ wa - P - X := by have := hcase.1 hg; omega
            clear hcase
            go_wp2
            go_roundw
            case rel =>
              refine ⟨k + 1, by omega, by omega, by go_num, ?_, ?_, trivial⟩
              · rw [Nat.add_sub_cancel, Hps.out]; congr 1; omega
              · rw [Hk1.out hg]; go_num
            case measure => simp [intOf]; omega
          · have hge : ¬ 0 ≤ wa - P - X := by have := hcase.2 (by omega); omega
            clear hcase
            go_wp2
            go_roundw
            case rel =>
              refine ⟨k + 1, by omega, by omega, by go_num, ?_, ?_, trivial⟩
              · rw [Nat.add_sub_cancel, Hps.out]; congr 1; omega
              · rw [Hk2.out (by omega)]
            case measure => simp [intOf]; omega
        · obtain rfl : k = mo := by omega
          have hr1 := HR.out.lo
          have hr2 := HR.out.hi
          rw [Nat.min_eq_right hr2]
          obtain ⟨q, rfl⟩ : ∃ q, r = q + 1 := ⟨r - 1, by omega⟩
          rw [Nat.add_sub_cancel]
          have hq : q < 16 := by omega
          obtain ⟨va, vc, rfl⟩ : ∃ a cap, v = .slice a L.length cap := by
            rcases Hrow.out.2 with ⟨rfl, h0⟩ | ⟨g, cap, cur, rfl, _⟩
            · exact ⟨_, _, by rw [h0]⟩
            · exact ⟨_, _, rfl⟩
          go_wp2_with (at_builtin; refine wpList_append_own_at _ rfl _ _ 29 rfl base 3 i0 (.int .i64 0) 1 8 Tryd.underlying29 HI0.out.1 HI0.out.2.1 HI0.out.2.2.1 HI0.out.2.2.2 rfl (by decide) _ _ _ rfl (Hrow.out.alloc _) ⟨wr.heap.size, 0, none⟩ 1 1 [.int .i64 ((q : Int) + 1)] rfl rfl (cell_one_new _ _ _) (by simp [Value.oneCell']) (by simp [maxLen]; omega) (by omega) (by have := HZ.out; simp; omega) ?_)
          intro v' w2 hown' hgrow _ hat
          have hne : some b ≠ (Value.slice va L.length vc).ownBlock := row_ne Hh.out Hrow.out
          have hla := heap_lt Hh.out
          have hT1 : Touch F wr w2 := (Touch.alloc F wr _).trans (Touch.grown hgrow (fun j hj => by rw [HF.out]; simp [hj]))
          have hh2 : w2.heap[b]? = some (.cells #[.int .i64 wa, .int .i64 k, .slice va L.length vc] 67 (0, 0)) := by
            rw [hgrow.block b (by simp; omega) hne, Below.heap_alloc _ _ _ hla]; exact Hh.out
          have c2 := heap_cell hh2 2
          have f2 := heap_frozen hh2 2
          simp only [List.getElem?_toArray, List.getElem?_cons_zero, List.getElem?_cons_succ] at c2
          have Hh2 : Hid (_ = _) := hh2
          have HT1 : Hid (Touch F wr w2) := hT1
          have Hown : Hid (w2.ownsRow base 3 1 v' (L.length + 1) (ints L ++ [.int .i64 ((q : Int) + 1)])) := hown'
          have Hat : Hid (v'.ownBlock = (Value.slice va L.length vc).ownBlock ∨ v'.ownBlock = some (wr.heap.size + 1)) := hat
          obtain ⟨g', cap', rfl⟩ := ownsRow_succ hown'
          clear hh2 hT1 hown' hgrow hat hne
          go_wp2
          go_ret2
          refine ⟨by simp, b :: (Value.slice (some ⟨g', 0, none⟩) (L.length + 1) cap').ownBlock.toList, ⟨⟨_, ?_, HN.out.2, ?_, rfl⟩, hw0, hw1, hm0, hm1, by simp⟩, ?_, ?_⟩
          · rw [heap_set Hh2.out]; rfl
          · have h5 := ownsRow_setOther Hown.out (a := ⟨b, 2, none⟩) (row_ne Hh2.out Hown.out) (.slice (some ⟨g', 0, none⟩) (L.length + 1) cap')
            simpa [ints] using h5
          · exact (Touch.of_below HB.out F).trans (HT1.out.trans (Touch.setCell _ _ _ (by rw [HF.out]; simp)))
          · intro j hj
            rcases List.mem_cons.1 hj with rfl | hj
            · exact .inl (by rw [HF.out]; simp)
            · have hj2 : (Value.slice (some ⟨g', 0, none⟩) (L.length + 1) cap').ownBlock = some j := by simpa using hj
              rcases Hat.out with h6 | h6
              · exact .inl (by rw [HF.out, ← h6, hj2]; simp)
              · refine .inr ?_
                rw [hj2] at h6
                have := HZ.out
                simp at h6
                omega

end Go.Proofs.YtdcmpilgfkaamaaDoor
