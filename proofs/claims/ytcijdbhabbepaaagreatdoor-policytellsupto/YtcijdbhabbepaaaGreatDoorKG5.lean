/-
  holdInts.
-/
import Derived.Test.YtcijdbhabbepaaaGreatDoorKG4
import Derived.Test.YtcijdbhabbepaaaGreatDoorKGC
set_option linter.unusedVariables false
set_option maxRecDepth 20000
namespace Go.Proofs.YtcijdbhabbepaaaGreatDoor.Kg
open Go.RowKit

theorem below_drew {n : Nat} {w w' : World} (h : Below n w w') : Below n w w'.drew := h.trans ⟨rfl, rfl, rfl, Nat.le_refl _, fun _ _ => rfl⟩

set_option maxHeartbeats 8000000 in
theorem holdInts_any {w : World} {base b : Nat} {f : Nat → Value} {xs : Nat → List Value} {K : List Nat} (h : Iv w base b f xs K) (h1 : Prs w K (xs 13) (xs 14)) (h2 : Prs w K (xs 15) (xs 16)) (n1 : (xs 13).length < 4000000000) (n2 : (xs 15).length < 4000000000) :
    Calls Tryz.prog 20 #[.pointer (some ⟨b, 0, none⟩)] w fun e w' => e = .returned (.bool true) ∧ Below w.heap.size w w' := by
  have HV : Hid (Iv w base b f xs K) := h
  have HP1 : Hid (Prs w K (xs 13) (xs 14)) := h1
  have HP2 : Hid (Prs w K (xs 15) (xs 16)) := h2
  obtain ⟨a13, p13, e13⟩ := row_sl (h.own 13 (by decide) (by decide))
  obtain ⟨a14, p14, e14⟩ := row_sl (h.own 14 (by decide) (by decide))
  obtain ⟨a15, p15, e15⟩ := row_sl (h.own 15 (by decide) (by decide))
  obtain ⟨a16, p16, e16⟩ := row_sl (h.own 16 (by decide) (by decide))
  have E13 : Hid (f 13 = .slice a13 (xs 13).length p13) := e13
  have E14 : Hid (f 14 = .slice a14 (xs 14).length p14) := e14
  have E15 : Hid (f 15 = .slice a15 (xs 15).length p15) := e15
  have E16 : Hid (f 16 = .slice a16 (xs 16).length p16) := e16
  clear h h1 h2 e13 e14 e15 e16
  go_enter Tryz.func20, Tryz.ntmps20
  go_wp2
  go_loopw [3] (fun i wr => ∃ k : Nat, k ≤ (xs 13).length ∧ i = .int .i64 k ∧ Below w.heap.size w wr) (fun i _ => (xs 13).length - (intOf i).toNat)
  case atStart => exact ⟨0, Nat.zero_le _, rfl, Below.refl _ _⟩
  case round =>
    obtain ⟨k, hk, rfl, hbel⟩ := hrel
    have HB : Hid (Below w.heap.size w wr) := hbel
    have hV := HV.out.nil hbel
    have c13 := hV.bk.cell 13
    have c14 := hV.bk.cell 14
    rw [E13.out] at c13
    rw [E14.out] at c14
    by_cases hlt : k < (xs 13).length
    · obtain ⟨v, hv⟩ : ∃ v, (xs 13)[k]? = some v := ⟨_, List.getElem?_eq_getElem hlt⟩
      obtain ⟨u, l, hu, q1, q2, q3⟩ := HP1.out.at_ k v hv
      obtain ⟨g, cap, e1, c1⟩ := row_val (hV.own 13 (by decide) (by decide)) k v hv
      obtain ⟨g2, cap2, e2, c2⟩ := row_val (hV.own 14 (by decide) (by decide)) k u hu
      rw [E13.out] at e1
      rw [E14.out] at e2
      simp only [Value.slice.injEq, true_and] at e1 e2
      obtain ⟨rfl, rfl⟩ := e1
      obtain ⟨rfl, rfl⟩ := e2
      have hlen : k < (xs 14).length := by have := HP1.out.len; omega
      have hki : (k : Int) < (xs 13).length := by omega
      have hki2 : (k : Int) < (xs 14).length := by omega
      have hsm := ksame_any K v u l wr.drew (by omega) (q1.off (Touch.of_below (below_drew hbel) []) (fun k hk => by cases hk)) (q2.off (Touch.of_below (below_drew hbel) []) (fun k hk => by cases hk))
      clear hV q1 q2 q3 hu hv hbel
      go_upto_region 4 with fail
      refine quiet_call 14 mixed (by kernel_rfl) ?_
      simp only [List.take_succ_cons, List.take_zero, List.drop_succ_cons, List.drop_zero]
      repeat (go_big_quiet_step (fail))
      refine wpQuiet_nil ?_
      go_wp2_with fail
      refine hsm.mono ?_
      rintro e w1 ⟨rfl, rfl⟩
      clear hsm c13 c14 c1 c2
      go_wp2_with fail
      refine thenQuiet_mk ?_
      repeat (go_big_quiet_step (fail))
      refine wpQuiet_nil ?_
      go_wp2
      go_roundw
      case rel => exact ⟨k + 1, hlt, by go_num, below_drew HB.out⟩
      case measure => simp [intOf]; omega
    · obtain rfl : k = (xs 13).length := by omega
      clear hV hbel hlt
      go_wp2
      clear c13 c14
      go_loopw [4] (fun i wr2 => ∃ k : Nat, k ≤ (xs 15).length ∧ i = .int .i64 k ∧ Below w.heap.size w wr2) (fun i _ => (xs 15).length - (intOf i).toNat)
      case atStart => exact ⟨0, Nat.zero_le _, rfl, HB.out⟩
      case round =>
        obtain ⟨k, hk, rfl, hbel⟩ := hrel
        clear HB
        have HB : Hid (Below w.heap.size w wr) := hbel
        have hV := HV.out.nil hbel
        have c13 := hV.bk.cell 15
        have c14 := hV.bk.cell 16
        rw [E15.out] at c13
        rw [E16.out] at c14
        by_cases hlt : k < (xs 15).length
        · obtain ⟨v, hv⟩ : ∃ v, (xs 15)[k]? = some v := ⟨_, List.getElem?_eq_getElem hlt⟩
          obtain ⟨u, l, hu, q1, q2, q3⟩ := HP2.out.at_ k v hv
          obtain ⟨g, cap, e1, c1⟩ := row_val (hV.own 15 (by decide) (by decide)) k v hv
          obtain ⟨g2, cap2, e2, c2⟩ := row_val (hV.own 16 (by decide) (by decide)) k u hu
          rw [E15.out] at e1
          rw [E16.out] at e2
          simp only [Value.slice.injEq, true_and] at e1 e2
          obtain ⟨rfl, rfl⟩ := e1
          obtain ⟨rfl, rfl⟩ := e2
          have hlen : k < (xs 16).length := by have := HP2.out.len; omega
          have hki : (k : Int) < (xs 15).length := by omega
          have hki2 : (k : Int) < (xs 16).length := by omega
          have hsm := ksame_any K v u l wr.drew (by omega) (q1.off (Touch.of_below (below_drew hbel) []) (fun k hk => by cases hk)) (q2.off (Touch.of_below (below_drew hbel) []) (fun k hk => by cases hk))
          clear hV q1 q2 q3 hu hv hbel
          go_upto_region 9 with fail
          refine quiet_call 14 mixed (by kernel_rfl) ?_
          simp only [List.take_succ_cons, List.take_zero, List.drop_succ_cons, List.drop_zero]
          repeat (go_big_quiet_step (fail))
          refine wpQuiet_nil ?_
          go_wp2_with fail
          refine hsm.mono ?_
          rintro e w1 ⟨rfl, rfl⟩
          clear hsm c13 c14 c1 c2
          go_wp2_with fail
          refine thenQuiet_mk ?_
          repeat (go_big_quiet_step (fail))
          refine wpQuiet_nil ?_
          go_wp2
          go_roundw
          case rel => exact ⟨k + 1, hlt, by go_num, below_drew HB.out⟩
          case measure => simp [intOf]; omega
        · obtain rfl : k = (xs 15).length := by omega
          clear hV hbel hlt
          go_wp2
          go_ret
          exact ⟨rfl, HB.out⟩

end Go.Proofs.YtcijdbhabbepaaaGreatDoor.Kg
