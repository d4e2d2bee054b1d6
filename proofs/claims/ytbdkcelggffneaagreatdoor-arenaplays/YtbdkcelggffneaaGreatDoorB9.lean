/-
  The document's arena: words taken.
-/
import Derived.Test.YtbdkcelggffneaaGreatDoorB8
set_option linter.unusedVariables false
set_option maxRecDepth 20000
namespace Go.Proofs.YtbdkcelggffneaaGreatDoor
open Go.RowKit Go.Shelf

theorem zer_step (ws : Nat → Int) (p i : Nat) : upd (zer ws p i) (p + i) 0 = zer ws p (i + 1) := by
  funext j
  unfold upd zer
  by_cases e : j = p + i
  · rw [if_pos e, if_pos (by omega)]
  · rw [if_neg e]
    by_cases h : p ≤ j ∧ j < p + i
    · rw [if_pos h, if_pos (by omega)]
    · rw [if_neg h, if_neg (by omega)]

theorem zer_zero (ws : Nat → Int) (p : Nat) : zer ws p 0 = ws := by
  funext j
  unfold zer
  rw [if_neg (by omega)]

section
variable (b : Nat) (g : Nat → Nat) (c : Cfg) (x : Tps) (sw : Bool) (ws : Nat → Int)

set_option maxHeartbeats 2000000 in
theorem rtake_no (s n : Int) (hn : ¬ (1 ≤ n ∧ n ≤ bhd c s - x.top s)) (w : World) (h : Ra w b g c x sw ws) :
    Calls Tryz.prog 56 #[.pointer (some ⟨b, 0, none⟩), .int .i64 s, .int .i64 n] w fun e w' => e = .returned (.tuple #[.int .i64 0, .bool false]) ∧ Below w.heap.size w w' := by
  have hf := rfree_any b g c x sw ws s w h
  have hsp := rspace_any s w
  clear h
  by_cases hs : 1 ≤ s ∧ s ≤ 4
  · rw [decide_eq_true hs] at hsp
    clear hs
    generalize bhd c s - x.top s = f at *
    go_enter Tryz.func56, Tryz.ntmps56
    go_wp2_with fail
    refine hsp.mono ?_
    rintro e w1 ⟨rfl, rfl⟩
    clear hsp
    by_cases h1 : n < 1
    · clear hn hf
      go_wp2
      go_ret2
      exact ⟨rfl, Below.refl _ _⟩
    · have h2 : f < n := by omega
      have h1' : decide (n < 1) = false := decide_eq_false h1
      clear hn
      go_wp2_with fail
      refine hf.mono ?_
      rintro e w2 ⟨rfl, l2⟩
      clear hf
      go_wp2
      go_ret2
      exact ⟨rfl, l2⟩
  · rw [decide_eq_false hs] at hsp
    clear hs hf hn
    go_enter Tryz.func56, Tryz.ntmps56
    go_wp2_with fail
    refine hsp.mono ?_
    rintro e w1 ⟨rfl, rfl⟩
    clear hsp
    go_wp2
    go_ret2
    exact ⟨rfl, Below.refl _ _⟩

set_option maxHeartbeats 4000000 in
theorem rtake_yes (s p n : Nat) (s1 : 1 ≤ s) (s4 : s ≤ 4) (hp : x.top s = p) (h0 : 0 < n) (h1 : (p : Int) + n ≤ bhd c s) (w : World) (h : Ra w b g c x sw ws) :
    Calls Tryz.prog 56 #[.pointer (some ⟨b, 0, none⟩), .int .i64 s, .int .i64 n] w fun e w' => e = .returned (.tuple #[.int .i64 p, .bool true]) ∧ Ra w' b g c (x.put s (p + n)) sw (zer ws p n) ∧ Touch (rft b g) w w' := by
  have hf := rfree_any b g c x sw ws s w h
  have hsp := rspace_any (s : Int) w
  rw [decide_eq_true (show 1 ≤ (s : Int) ∧ (s : Int) ≤ 4 by omega)] at hsp
  have HT : Hid (∀ w1, Below w.heap.size w w1 → Calls Tryz.prog 76 #[.pointer (some ⟨b, 0, none⟩), .int .i64 s] w1 fun e w' => e = .returned (.int .i64 p) ∧ Below w1.heap.size w1 w') := fun w1 l => by
    have := rtop_any b g c x sw ws s w1 (h.below l)
    rw [hp] at this
    exact this
  have hsb := spn_bhd h.ok s s1 s4
  have hfi := fst_in h.ok (s : Int)
  have hft : fst c s ≤ p := by
    rw [← hp]
    obtain ⟨a1, a2, a3, a4, a5, a6, a7, a8⟩ := h.tk
    obtain rfl | rfl | rfl | rfl : s = 1 ∨ s = 2 ∨ s = 3 ∨ s = 4 := by omega
    all_goals
      simp only [fst, Tps.top]
      simp
      omega
  have hnf : (n : Int) ≤ bhd c s - x.top s := by omega
  obtain ⟨u, hu⟩ : ∃ u : Nat, x.top s - fst c s = u := ⟨(x.top s - fst c s).toNat, by omega⟩
  have HU : Hid (x.top s - fst c s = u) := hu
  have HP : Hid ((fst c s).toNat + u = p ∧ u + n ≤ spn c s ∧ (u : Int) + n = p + n - fst c s) := ⟨by omega, by omega, by omega⟩
  have HV : Hid (fst c s ≤ (p : Int) + n ∧ (p : Int) + n ≤ bhd c s) := ⟨by omega, h1⟩
  have hub : u < 65537 := by have := hsb.2.1; omega
  have hnb : n < 65537 := by have := hsb.2.1; omega
  have hsn := hsb.2.1
  have HR : Hid (Ra w b g c x sw ws) := h
  clear h hsb hfi hft hu h1 hp
  generalize bhd c s - x.top s = f at *
  have hs5 : (s : Int) < 5 := by omega
  go_enter Tryz.func56, Tryz.ntmps56
  go_wp2_with fail
  refine hsp.mono ?_
  rintro e w1 ⟨rfl, rfl⟩
  clear hsp
  go_wp2_with fail
  refine hf.mono ?_
  rintro e w1 ⟨rfl, l1⟩
  clear hf
  go_wp2_with fail
  refine (HT.out w1 l1).mono ?_
  rintro e w2 ⟨rfl, l2⟩
  have l3 := l1.trans (l2.mono l1.size)
  have hR2 : Hid (Ra w2 b g c x sw ws) := HR.out.below l3
  have T2 : Hid (Touch (rft b g) w w2) := Touch.of_below l3 _
  clear l1 l2 l3 HT HR hnf
  go_wp2
  go_loopw [9] (fun v wr => ∃ i : Nat, i ≤ n ∧ v = .int .i64 i ∧ Hid (Ra wr b g c x sw (zer ws p i) ∧ Touch (rft b g) w wr)) (fun v _ => n - (intOf v).toNat)
  case atStart => exact ⟨0, by omega, rfl, by rw [zer_zero]; exact ⟨hR2.out, T2.out⟩⟩
  case round =>
    obtain ⟨i, hi, rfl, HI⟩ := hrel
    clear hR2 T2
    by_cases hin : i < n
    · have hii : (i : Int) < n := by omega
      obtain ⟨d, hd⟩ : ∃ d : Nat, (u : Int) + i = d := ⟨u + i, by omega⟩
      have hdl : d < spn c s := by have := HP.out.2.1; omega
      have k1 := HI.out.1.wrd s s1 s4
      have k2 := HI.out.1.usd s s1 s4
      rw [HU.out] at k2
      have k3 := HI.out.1.wcell s d s1 s4 hdl
      have kz := (HI.out.1.row s s1 s4).frozen d
      have HX : Hid (Ra (wr.setCell ⟨g s, d, none⟩ (.int .u64 0)) b g c x sw (zer ws p (i + 1)) ∧ Touch (rft b g) w (wr.setCell ⟨g s, d, none⟩ (.int .u64 0))) := by
        refine ⟨?_, HI.out.2.trans (Touch.setCell _ _ _ (rft_g b g s s1 s4))⟩
        have := HI.out.1.set s d 0 s1 s4 hdl
        rw [show (fst c s).toNat + d = p + i by have := HP.out.1; omega, zer_step] at this
        exact this
      clear HI
      generalize zer ws p i ((fst c s).toNat + d) = m at *
      generalize spn c s = N at *
      have hdi : (d : Int) < N := by omega
      go_upto_region 7 with fail
      refine quiet_tail 15 mixed (by kernel_rfl) ?_
      simp only [List.take_succ_cons, List.take_zero, List.drop_succ_cons, List.drop_zero]
      repeat (go_big_quiet_step (fail))
      refine wpQuiet_nil ?_
      go_wp2
      go_roundw
      case rel => exact ⟨i + 1, by omega, by go_num, HX.out.1.keep (fun _ _ => rfl), ⟨HX.out.2.os, HX.out.2.tape, HX.out.2.output, HX.out.2.size, HX.out.2.block⟩⟩
      case measure => simp [intOf]; omega
    · obtain rfl : i = n := by omega
      have k2 := HI.out.1.usd s s1 s4
      rw [HU.out] at k2
      have kz := HI.out.1.own.frozen (19 + s)
      have HX : Hid (Ra (wr.setCell ⟨b, 19 + s, none⟩ (.int .i64 ((u : Int) + i))) b g c (x.put s (p + i)) sw (zer ws p i) ∧ Touch (rft b g) w (wr.setCell ⟨b, 19 + s, none⟩ (.int .i64 ((u : Int) + i)))) := by
        refine ⟨?_, HI.out.2.trans (Touch.setCell _ _ _ (by simp [rft]))⟩
        rw [HP.out.2.2]
        exact HI.out.1.put s _ s1 s4 HV.out.1 HV.out.2
      clear HI
      go_upto_region 8 with fail
      refine quiet_tail 13 mixed (by kernel_rfl) ?_
      simp only [List.take_succ_cons, List.take_zero, List.drop_succ_cons, List.drop_zero]
      repeat (go_big_quiet_step (fail))
      refine wpQuiet_nil ?_
      go_wp2
      go_ret2
      exact ⟨rfl, HX.out.1.keep (fun _ _ => rfl), ⟨HX.out.2.os, HX.out.2.tape, HX.out.2.output, HX.out.2.size, HX.out.2.block⟩⟩
end

end Go.Proofs.YtbdkcelggffneaaGreatDoor
