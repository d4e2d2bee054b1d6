/-
  RootsMakes, walked.
-/
import Derived.Test.YtemdmpfifcihfaaR30
set_option linter.unusedVariables false
namespace Go.Proofs.Ytemdmpfifcihfaa
open Go.RowKit

theorem sta0_all (T m H : Nat) : (sta0 T m H).all = [] := by
  have h1 : ∀ i, preT (sta0 T m H) i = [] := by
    intro i
    induction i with
    | zero => rfl
    | succ i ih => rw [preT, ih]; rfl
  have h2 : hnz (sta0 T m H).hs = [] := by
    show nz ((List.replicate H none).map fun o => o.getD 0) = []
    simp [nz]
  unfold Sta.all
  rw [h1, h2]
  rfl

theorem sta0_handle (T m H : Nat) : (sta0 T m H).handleE 0 = 55 := by
  unfold Sta.handleE
  rw [if_neg]
  rintro ⟨-, h⟩
  unfold hop at h
  have e : (sta0 T m H).hs[(0 : Int).toNat]? = (List.replicate H (none : Option Int))[0]? := rfl
  rw [e] at h
  by_cases h0 : 0 < H
  · rw [List.getElem?_replicate, if_pos h0] at h; cases h
  · rw [List.getElem?_replicate, if_neg h0] at h; cases h

theorem sta0_pop {T m H : Nat} (hT : 1 ≤ T) : (sta0 T m H).popE ((T : Int) - 1) = 54 := by
  unfold Sta.popE
  rw [if_pos (by show _ ∧ (T : Int) - 1 < (T : Int); omega), if_pos (show (sta0 T m H).rw (((T : Int) - 1).toNat * 2) = [] from rfl)]

theorem sta0_popS {T m H : Nat} (hT : 1 ≤ T) : (sta0 T m H).popS ((T : Int) - 1) = sta0 T m H := by
  unfold Sta.popS
  rw [sta0_pop hT]
  rfl

theorem sta0_push {T m H : Nat} (hT : 1 ≤ T) (hm : 1 ≤ m) : (sta0 T m H).pushE 0 m = 0 := by
  unfold Sta.pushE
  rw [if_pos (by show _ ∧ (0 : Int) < (T : Int); omega), if_neg (by omega), if_neg]
  show ¬ ((m : Int) - (([] : List Int).length : Int) < m)
  simp

theorem sta0_push2 {T m H : Nat} (hT : 1 ≤ T) (hm : 1 ≤ m) : ((sta0 T m H).pushS 0 m).pushE 0 1 = 53 := by
  have e : (sta0 T m H).pushS 0 m = (sta0 T m H).push 0 m := by unfold Sta.pushS; rw [if_pos (sta0_push hT hm)]; rfl
  rw [e]
  unfold Sta.pushE
  rw [if_pos (by show _ ∧ (0 : Int) < (T : Int); omega), if_neg (by omega), if_pos]
  have e2 : ((sta0 T m H).push 0 m).rw ((0 : Int).toNat * 2 + 1) = List.replicate m 0 := by simp [Sta.push, upd, sta0]
  rw [e2]
  show (m : Int) - _ < 1
  simp

set_option maxRecDepth 40000 in
set_option maxHeartbeats 4000000 in
theorem makes_any (a b c : Int) (w : World) :
    Calls Try.prog 3 #[.int .i64 a, .int .i64 b, .int .i64 c] w fun e w' => e = .returned (.bool true) ∧ Below w.heap.size w w' := by
  by_cases h : Mays a b c
  · obtain ⟨h1, h2, h3, h4, h5, h6⟩ := h
    obtain ⟨T, rfl⟩ := Int.eq_ofNat_of_zero_le (show 0 ≤ a by omega)
    obtain ⟨m, rfl⟩ := Int.eq_ofNat_of_zero_le (show 0 ≤ b by omega)
    obtain ⟨H, rfl⟩ := Int.eq_ofNat_of_zero_le h5
    have hn := new_in T m H (by omega) (by omega) (by omega) (by omega) (by omega) w
    have Hb : Hid (1 ≤ T ∧ T ≤ 8 ∧ 1 ≤ m ∧ m ≤ 4096 ∧ H ≤ 1024) := ⟨by omega, by omega, by omega, by omega, by omega⟩
    have ok : Hid (sta0 T m H).Ok := sta0_ok (by omega) (by omega) (by omega) (by omega) (by omega)
    have bT : (T : Int) - 1 < 9223372036854775808 := by omega
    have bT2 : -9223372036854775808 ≤ (T : Int) - 1 := by omega
    clear h1 h2 h3 h4 h5 h6
    go_enter Try.func3, Try.ntmps3
    go_wp2_with fail
    refine hn.mono ?_
    rintro e w1 ⟨r, F, rfl, R1, t1⟩
    have B1 : Hid (Below w.heap.size w w1) := t1.below (Nat.le_refl _) (fun k h => by cases h)
    have H1 : Hid (Rts w1 w.heap.size r 0 (sta0 T m H) F) := R1
    have hr := r5new_in T m H Hb.out.1 Hb.out.2.1 Hb.out.2.2.1 Hb.out.2.2.2.1 Hb.out.2.2.2.2 w1
    clear hn R1 t1
    go_wp2_with fail
    refine hr.mono ?_
    rintro e w2 ⟨r2, F2, rfl, -, b2⟩
    have B2 : Hid (Below w.heap.size w w2) := B1.out.trans (b2.mono B1.out.size)
    have H2 : Hid (Rts w2 w.heap.size r 0 (sta0 T m H) F) := H1.out.nil (Touch.of_below b2 _)
    have hh := hhandle_any w.heap.size r 0 0 _ F w2 H2.out ok.out
    rw [sta0_handle] at hh
    generalize (sta0 T m H).handleV 0 = hv at *
    clear hr b2 H1 B1
    go_wp2_with fail
    refine hh.mono ?_
    rintro e w' ⟨rfl, rfl⟩
    clear hh
    have ha := all_any w.heap.size r 0 _ F w2 H2.out ok.out (by decide)
    rw [sta0_all] at ha
    go_wp2_with fail
    refine ha.mono ?_
    rintro e w3 ⟨v3, rfl, o3, R3, t3⟩
    have B3 : Hid (Below w.heap.size w w3) := B2.out.trans (t3.below B2.out.size (fun k hk => (H2.out.mem k hk).1))
    have H3 : Hid (Rts w3 w.heap.size r 0 (sta0 T m H) F) := R3
    obtain ⟨a3, c3, rfl⟩ := own_slice o3
    have hq := queue_any w.heap.size r 0 _ F w3 R3 (by decide)
    rw [show (sta0 T m H).qs.length = 0 from rfl] at hq
    clear ha o3 R3 t3 H2 B2
    go_wp2_with fail
    refine hq.mono ?_
    rintro e w4 ⟨v4, rfl, o4, b4⟩
    have B4 : Hid (Below w.heap.size w w4) := B3.out.trans (b4.mono B3.out.size)
    have H4 : Hid (Rts w4 w.heap.size r 0 (sta0 T m H) F) := H3.out.nil (Touch.of_below b4 _)
    obtain ⟨a4, c4, rfl⟩ := own_slice o4
    have hd := handles_any w.heap.size r 0 _ F w4 H4.out ok.out
    rw [show (sta0 T m H).hs.length = H by simp [sta0]] at hd
    clear hq o4 b4 H3 B3
    go_wp2_with fail
    refine hd.mono ?_
    rintro e w5 ⟨v5, rfl, o5, b5⟩
    have B5 : Hid (Below w.heap.size w w5) := B4.out.trans (b5.mono B4.out.size)
    have H5 : Hid (Rts w5 w.heap.size r 0 (sta0 T m H) F) := H4.out.nil (Touch.of_below b5 _)
    obtain ⟨a5, c5, rfl⟩ := own_slice o5
    have hp := pop_any w.heap.size r 0 ((T : Int) - 1) _ F w5 H5.out ok.out
    rw [sta0_pop Hb.out.1, sta0_popS Hb.out.1] at hp
    clear hd o5 b5 H4 B4
    go_wp2_with fail
    refine hp.mono ?_
    rintro e w6 ⟨rfl, F6, R6, t6, -⟩
    have B6 : Hid (Below w.heap.size w w6) := B5.out.trans (t6.below B5.out.size (fun k hk => (H5.out.mem k hk).1))
    have H6 : Hid (Rts w6 w.heap.size r 0 (sta0 T m H) F6) := R6
    have hp := push_any w.heap.size r 0 0 m _ F6 w6 R6 ok.out B6.out.size
    rw [sta0_push Hb.out.1 Hb.out.2.2.1] at hp
    clear R6 t6 H5 B5
    go_wp2_with fail
    refine hp.mono ?_
    rintro e w7 ⟨rfl, F7, R7, t7, -⟩
    have B7 : Hid (Below w.heap.size w w7) := B6.out.trans (t7.below B6.out.size (fun k hk => (H6.out.mem k hk).1))
    have H7 : Hid (Rts w7 w.heap.size r 0 ((sta0 T m H).pushS 0 m) F7) := R7
    have hp := push_any w.heap.size r 0 0 1 _ F7 w7 R7 (ok.out.pushS 0 m) B7.out.size
    rw [sta0_push2 Hb.out.1 Hb.out.2.2.1] at hp
    clear R7 t7 H6 B6
    go_wp2_with fail
    refine hp.mono ?_
    rintro e w8 ⟨rfl, F8, R8, t8, -⟩
    have B8 : Hid (Below w.heap.size w w8) := B7.out.trans (t8.below B7.out.size (fun k hk => (H7.out.mem k hk).1))
    clear hp R8 t8 H7 B7
    go_wp2
    go_ret
    exact ⟨rfl, B8.out⟩
  · have h1 := new_out a b c h w
    have h2 := r5new_out a b c h w
    clear h
    go_enter Try.func3, Try.ntmps3
    go_wp2_with fail
    refine h1.mono ?_
    rintro e w1 ⟨rfl, rfl⟩
    go_wp2_with fail
    refine h2.mono ?_
    rintro e w1 ⟨rfl, rfl⟩
    clear h1 h2
    go_wp2
    go_ret
    exact ⟨rfl, Below.refl _ _⟩

end Go.Proofs.Ytemdmpfifcihfaa
