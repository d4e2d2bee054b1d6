/-
  The document's arena: what lies where; the walk and the check of an empty one.
-/
import Derived.Test.YtbdkcelggffneaaGreatDoorB3
set_option linter.unusedVariables false
set_option maxRecDepth 20000
namespace Go.Proofs.YtbdkcelggffneaaGreatDoor
open Go.RowKit

theorem spc_is {c : Cfg} (ok : c.Ok) (i : Int) (s : Int) (h1 : 1 ≤ s) (h4 : s ≤ 4) (a : fst c s ≤ i) (b : i < bhd c s) : spc c i = s := by
  have := ok.e0; have := ok.s0; have := ok.t0
  obtain rfl | rfl | rfl | rfl : s = 1 ∨ s = 2 ∨ s = 3 ∨ s = 4 := by omega
  all_goals
    simp [fst] at a
    simp [bhd] at b
    unfold spc
    repeat' split
    all_goals omega

theorem spc_none {c : Cfg} (ok : c.Ok) (i : Int) (h : ∀ s : Int, 1 ≤ s → s < 5 → ¬ (fst c s ≤ i ∧ i < bhd c s)) : spc c i = 0 := by
  have := ok.e0; have := ok.s0; have := ok.t0
  have h1 := h 1 (by decide) (by decide)
  have h2 := h 2 (by decide) (by decide)
  have h3 := h 3 (by decide) (by decide)
  have h4 := h 4 (by decide) (by decide)
  simp [fst, bhd] at h1 h2 h3 h4
  unfold spc
  repeat' split
  all_goals omega

set_option maxHeartbeats 2000000 in
theorem rspaceof_any (b : Nat) (g : Nat → Nat) (c : Cfg) (x : Tps) (sw : Bool) (ws : Nat → Int) (i : Int) (w : World) (h : Ra w b g c x sw ws) :
    Calls Tryz.prog 27 #[.pointer (some ⟨b, 0, none⟩), .int .i64 i] w fun e w' => e = .returned (.int .i64 (spc c i)) ∧ Below w.heap.size w w' := by
  have HB : Hid (∀ s w1, Below w.heap.size w w1 → Calls Tryz.prog 73 #[.pointer (some ⟨b, 0, none⟩), .int .i64 s] w1 fun e w' => e = .returned (.tuple #[.int .i64 (fst c s), .int .i64 (bhd c s)]) ∧ Below w1.heap.size w1 w') := fun s w1 l => rbounds_any b g c x sw ws s w1 (h.below l)
  have HO : Hid c.Ok := h.ok
  clear h
  go_enter Tryz.func27, Tryz.ntmps27
  go_wp2
  go_loopw [5] (fun v wr => ∃ s : Int, 1 ≤ s ∧ s ≤ 5 ∧ v = .int .i64 s ∧ Hid (∀ q : Int, 1 ≤ q → q < s → ¬ (fst c q ≤ i ∧ i < bhd c q)) ∧ Below w.heap.size w wr) (fun v _ => 5 - (intOf v).toNat)
  case atStart => exact ⟨1, by decide, by decide, rfl, fun q h1 h2 => by omega, Below.refl _ _⟩
  case round =>
    obtain ⟨s, h1, h5, rfl, HQ, bl⟩ := hrel
    by_cases h4 : s ≤ 4
    · go_wp2_with fail
      refine (HB.out s _ bl).mono ?_
      rintro e w1 ⟨rfl, l1⟩
      have b1 : Hid (Below w.heap.size w w1) := bl.trans (l1.mono bl.size)
      clear bl l1
      have HI : Hid (fst c s ≤ i → i < bhd c s → spc c i = s) := spc_is HO.out i s h1 h4
      have HN : Hid (¬ (fst c s ≤ i ∧ i < bhd c s) → ∀ q : Int, 1 ≤ q → q < s + 1 → ¬ (fst c q ≤ i ∧ i < bhd c q)) := fun hn q q1 q2 => by
        by_cases e : q = s
        · subst e; exact hn
        · exact HQ.out q q1 (by omega)
      clear HQ
      generalize fst c s = F at *
      generalize bhd c s = H at *
      by_cases hF : F ≤ i
      · by_cases hH : i < H
        · go_wp2
          go_ret
          exact ⟨by rw [HI.out hF hH]; rfl, b1.out⟩
        · have hH' : decide (i < H) = false := decide_eq_false hH
          have HX : Hid (∀ q : Int, 1 ≤ q → q < s + 1 → ¬ (fst c q ≤ i ∧ i < bhd c q)) := HN.out (fun hh => hH hh.2)
          go_wp2
          go_roundw
          case rel => exact ⟨s + 1, by omega, by omega, rfl, HX.out, b1.out⟩
          case measure => simp [intOf]; omega
      · have hF' : decide (F ≤ i) = false := decide_eq_false hF
        have HX : Hid (∀ q : Int, 1 ≤ q → q < s + 1 → ¬ (fst c q ≤ i ∧ i < bhd c q)) := HN.out (fun hh => hF hh.1)
        go_wp2
        go_roundw
        case rel => exact ⟨s + 1, by omega, by omega, rfl, HX.out, b1.out⟩
        case measure => simp [intOf]; omega
    · obtain rfl : s = 5 := by omega
      have e0 := spc_none HO.out i HQ.out
      have E0 : Hid (spc c i = 0) := e0
      clear e0 HQ
      go_wp2
      go_ret
      exact ⟨by rw [E0.out]; rfl, bl⟩

theorem Ra.wcell {w : World} {b : Nat} {g : Nat → Nat} {c : Cfg} {x : Tps} {sw : Bool} {ws : Nat → Int} (h : Ra w b g c x sw ws) (s d : Nat) (h1 : 1 ≤ s) (h4 : s ≤ 4) (hd : d < spn c s) : w.cell? ⟨g s, d, none⟩ = some (.int .u64 (ws ((fst c s).toNat + d))) := (h.row s h1 h4).cell hd

theorem spc_in {c : Cfg} (ok : c.Ok) (i : Int) : 0 ≤ spc c i ∧ spc c i ≤ 4 ∧ (spc c i ≠ 0 → fst c (spc c i) ≤ i ∧ i < bhd c (spc c i)) ∧ (spc c i = 0 → i ≤ 0 ∨ c.words ≤ i) := by
  have := ok.e0; have := ok.s0; have := ok.t0
  unfold spc Cfg.words
  repeat' split
  all_goals
    simp [fst, bhd]
    try omega

set_option maxHeartbeats 2000000 in
theorem rword_any (b : Nat) (g : Nat → Nat) (c : Cfg) (x : Tps) (sw : Bool) (ws : Nat → Int) (i : Int) (w : World) (h : Ra w b g c x sw ws) :
    Calls Tryz.prog 19 #[.pointer (some ⟨b, 0, none⟩), .int .i64 i] w fun e w' => e = .returned (.int .u64 (wat c ws i)) ∧ Below w.heap.size w w' := by
  have hsp := rspaceof_any b g c x sw ws i w h
  obtain ⟨q0, q4, q1, q2⟩ := spc_in h.ok i
  by_cases hz : spc c i = 0
  · have e0 : wat c ws i = 0 := by
      unfold wat
      split
      · next hi =>
        have := q2 hz
        rw [show i.toNat = 0 by omega]
        exact h.z0
      · rfl
    rw [e0]
    rw [hz] at hsp
    clear h q0 q4 q1 q2 e0 hz
    go_enter Tryz.func19, Tryz.ntmps19
    go_wp2_with fail
    refine hsp.mono ?_
    rintro e w1 ⟨rfl, l1⟩
    clear hsp
    go_wp2
    go_ret
    exact ⟨rfl, l1⟩
  · obtain ⟨n, hn⟩ : ∃ n : Nat, spc c i = n := ⟨(spc c i).toNat, by omega⟩
    rw [hn] at hsp q0 q4 q1 hz
    have hn1 : 1 ≤ n := by omega
    have hn4 : n ≤ 4 := by omega
    have hq := q1 hz
    have hs := spn_bhd h.ok n hn1 hn4
    have hf := fst_in h.ok (n : Int)
    obtain ⟨d, hd⟩ : ∃ d : Nat, i - fst c n = d := ⟨(i - fst c n).toNat, by omega⟩
    have hdl : d < spn c n := by omega
    have hwv : wat c ws i = ws ((fst c n).toNat + d) := by
      have hbw : bhd c n ≤ c.words := by
        have := h.ok.e0; have := h.ok.s0; have := h.ok.t0
        obtain rfl | rfl | rfl | rfl : n = 1 ∨ n = 2 ∨ n = 3 ∨ n = 4 := by omega
        all_goals
          simp [bhd, Cfg.words]
          try omega
      unfold wat
      rw [if_pos ⟨by omega, by omega⟩]
      congr 1
      omega
    obtain ⟨m, hm⟩ : ∃ m, m = ws ((fst c n).toNat + d) := ⟨_, rfl⟩
    rw [hwv, ← hm]
    have HM : Hid (m = ws ((fst c n).toNat + d)) := hm
    clear hm
    have HR : Hid (Ra w b g c x sw ws) := h
    have HBd : Hid (∀ w1, Below w.heap.size w w1 → Calls Tryz.prog 73 #[.pointer (some ⟨b, 0, none⟩), .int .i64 n] w1 fun e w' => e = .returned (.tuple #[.int .i64 (fst c n), .int .i64 (bhd c n)]) ∧ Below w1.heap.size w1 w') := fun w1 l => rbounds_any b g c x sw ws n w1 (h.below l)
    have hib : i < 400000 := by have := hs.1; have := hs.2.1; omega
    have hi0 : 0 ≤ i := by omega
    have hnz : ¬ (n : Int) = 0 := by omega
    have hn5 : (n : Int) < 5 := by omega
    have hsn := hs.2.1
    clear h hn hz q0 q4 q1 q2 hq hs hwv
    go_enter Tryz.func19, Tryz.ntmps19
    go_wp2_with fail
    refine hsp.mono ?_
    rintro e w1 ⟨rfl, l1⟩
    clear hsp
    go_wp2_with fail
    refine (HBd.out w1 l1).mono ?_
    rintro e w2 ⟨rfl, l2⟩
    have l3 := l1.trans (l2.mono l1.size)
    have k1 := (HR.out.below l3).wrd n hn1 hn4
    have k2 := (HR.out.below l3).wcell n d hn1 hn4 hdl
    have L3 : Hid (Below w.heap.size w w2) := l3
    clear l1 l2 l3 HBd
    rw [← HM.out] at k2
    clear HM
    generalize fst c (n : Int) = F at *
    generalize bhd c (n : Int) = H at *
    generalize spn c n = N at *
    have hdi : (d : Int) < N := by omega
    go_wp2
    go_ret
    exact ⟨rfl, L3.out⟩

set_option maxHeartbeats 2000000 in
theorem rwalk0_any (b : Nat) (g : Nat → Nat) (c : Cfg) (x : Tps) (sw : Bool) (ws : Nat → Int) (s : Int) (hx : x.top s = fst c s) (w : World) (h : Ra w b g c x sw ws) :
    Calls Tryz.prog 83 #[.pointer (some ⟨b, 0, none⟩), .int .i64 s] w fun e w' => e = .returned (.tuple #[.slice none 0 0, .int .i64 0]) ∧ Below w.heap.size w w' := by
  have hsp := rspace_any s w
  by_cases hs : 1 ≤ s ∧ s ≤ 4
  · rw [decide_eq_true hs] at hsp
    have hb := rbounds_any b g c x sw ws s w h
    have HT : Hid (∀ w1, Below w.heap.size w w1 → Calls Tryz.prog 76 #[.pointer (some ⟨b, 0, none⟩), .int .i64 s] w1 fun e w' => e = .returned (.int .i64 (fst c s)) ∧ Below w1.heap.size w1 w') := fun w1 l => by
      have := rtop_any b g c x sw ws s w1 (h.below l)
      rw [hx] at this
      exact this
    clear h hx
    generalize fst c s = F at *
    generalize bhd c s = H at *
    go_enter Tryz.func83, Tryz.ntmps83
    go_wp2_with fail
    refine hsp.mono ?_
    rintro e w1 ⟨rfl, rfl⟩
    clear hsp
    go_wp2_with fail
    refine hb.mono ?_
    rintro e w1 ⟨rfl, l1⟩
    clear hb
    go_wp2
    go_loopw [6, 7] (fun a v wr => a = .slice none 0 0 ∧ v = .int .i64 F ∧ Below w.heap.size w wr) (fun _ _ _ => 0)
    case atStart => exact ⟨rfl, rfl, l1⟩
    case round =>
      obtain ⟨rfl, rfl, bl⟩ := hrel
      clear l1
      go_wp2_with fail
      refine (HT.out _ bl).mono ?_
      rintro e w2 ⟨rfl, l2⟩
      have b2 := bl.trans (l2.mono bl.size)
      clear bl l2
      go_wp2
      go_ret2
      exact ⟨rfl, b2⟩
  · rw [decide_eq_false hs] at hsp
    clear h hs hx
    go_enter Tryz.func83, Tryz.ntmps83
    go_wp2_with fail
    refine hsp.mono ?_
    rintro e w1 ⟨rfl, rfl⟩
    clear hsp
    go_wp2
    go_ret2
    exact ⟨rfl, Below.refl _ _⟩

set_option maxHeartbeats 2000000 in
theorem rcheck0_any (b : Nat) (g : Nat → Nat) (c : Cfg) (x : Tps) (sw : Bool) (ws : Nat → Int) (hx : ∀ s, x.top s = fst c s) (w : World) (h : Ra w b g c x sw ws) :
    Calls Tryz.prog 38 #[.pointer (some ⟨b, 0, none⟩)] w fun e w' => e = .returned (.tuple #[.int .i64 0, .int .i64 0]) ∧ Below w.heap.size w w' := by
  have HW : Hid (∀ s w1, Below w.heap.size w w1 → Calls Tryz.prog 83 #[.pointer (some ⟨b, 0, none⟩), .int .i64 s] w1 fun e w' => e = .returned (.tuple #[.slice none 0 0, .int .i64 0]) ∧ Below w1.heap.size w1 w') := fun s w1 l => rwalk0_any b g c x sw ws s (hx s) w1 (h.below l)
  clear h hx
  go_enter Tryz.func38, Tryz.ntmps38
  go_wp2
  go_loopw [4] (fun v wr => ∃ s : Int, 1 ≤ s ∧ s ≤ 5 ∧ v = .int .i64 s ∧ Below w.heap.size w wr) (fun v _ => 5 - (intOf v).toNat)
  case atStart => exact ⟨1, by decide, by decide, rfl, Below.refl _ _⟩
  case round =>
    obtain ⟨s, h1, h5, rfl, bl⟩ := hrel
    by_cases h4 : s ≤ 4
    · go_wp2_with fail
      refine (HW.out s _ bl).mono ?_
      rintro e w1 ⟨rfl, l1⟩
      have b1 := bl.trans (l1.mono bl.size)
      clear bl l1
      go_wp2
      go_roundw
      case rel => exact ⟨s + 1, by omega, by omega, rfl, b1⟩
      case measure => simp [intOf]; omega
    · obtain rfl : s = 5 := by omega
      go_wp2
      go_ret2
      exact ⟨rfl, bl⟩

end Go.Proofs.YtbdkcelggffneaaGreatDoor
