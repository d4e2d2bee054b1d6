/-
  To, Total, sort.Search, Back.
-/
import Derived.Test.YtlnfhnahnmblmabDoorM11
set_option linter.unusedVariables false
namespace Go.Proofs.YtlnfhnahnmblmabDoor
open Go.RowKit Go.Shelf

theorem Sl.c {w : World} {s kb kg q base e : Nat} {N : Nat → Bool} (h : Sl w s kb kg q base e N) : w.cell? ⟨s, 0, none⟩ = some (.int .i64 base) ∧ w.cell? ⟨s, 1, none⟩ = some (.int .i64 (rk N e : Nat)) ∧ w.cell? ⟨s, 2, none⟩ = some (.pointer (some ⟨kb, 0, none⟩)) ∧ w.cell? ⟨s, 3, none⟩ = some (.slice (some ⟨q, 0, none⟩) (wds e) (wds e)) :=
  ⟨h.own.cell (i := 0) (by decide), h.own.cell (i := 1) (by decide), h.own.cell (i := 2) (by decide), h.own.cell (i := 3) (by decide)⟩

theorem total_any (s kb kg q base e : Nat) (N : Nat → Bool) (w : World) (hS : Sl w s kb kg q base e N) :
    Calls Tryd.prog 38 #[.pointer (some ⟨s, 0, none⟩)] w fun r w' => r = .returned (.int .i64 (rk N e : Nat)) ∧ w = w' := by
  have c1 := hS.c.2.1
  clear hS
  go_enter Tryd.func38, Tryd.ntmps38
  go_wp2
  go_ret
  exact ⟨rfl, rfl⟩

theorem below_of_drew {w w' : World} (h : ∃ n, w' = w.drewN n) : Below w.heap.size w w' := by
  obtain ⟨n, rfl⟩ := h; exact below_drewN (Below.refl _ _) n

set_option maxRecDepth 20000 in
set_option maxHeartbeats 1000000 in
theorem to_out (s kb kg q base e : Nat) (N : Nat → Bool) (a : Int) (h : hasB N a = false) (w : World) (hS : Sl w s kb kg q base e N) :
    Calls Tryd.prog 34 #[.pointer (some ⟨s, 0, none⟩), .int .i64 a] w fun r w' => r = .returned (.tuple #[.int .i64 0, .bool false]) ∧ w = w' := by
  have hh := has_any kb kg e N a w hS.kept
  rw [h] at hh
  have c2 := hS.c.2.2.1
  clear hS h
  go_enter Tryd.func34, Tryd.ntmps34
  go_wp2_with fail
  refine hh.mono ?_
  rintro r w1 ⟨rfl, rfl⟩
  clear hh
  go_wp2
  go_ret2
  exact ⟨rfl, rfl⟩

set_option maxRecDepth 100000 in
set_option maxHeartbeats 4000000 in
theorem to_in (s kb kg q base e a : Nat) (N : Nat → Bool) (h : N a = true) (w : World) (hS : Sl w s kb kg q base e N) (hL : Laid w) :
    Calls Tryd.prog 34 #[.pointer (some ⟨s, 0, none⟩), .int .i64 a] w fun r w' => r = .returned (.tuple #[.int .i64 (base + rk N a : Nat), .bool true]) ∧ Below w.heap.size w w' := by
  have hae : a < e := by
    rcases Nat.lt_or_ge a e with h1 | h1
    · exact h1
    · rw [hS.kept.out a h1] at h; cases h
  have hh := has_any kb kg e N a w hS.kept
  rw [show hasB N (a : Int) = true by simp [hasB, h]] at hh
  have c2 := hS.c.2.2.1
  have hn := hS.kept.le
  have hbs := hS.base
  have hi : a / 64 < wds e := by unfold wds; omega
  have hrl := rk_le N (64 * (a / 64))
  have hpp := pop_piece N (a / 64) 0 (a % 64) (by omega) (by omega)
  rw [Nat.add_zero, show 64 * (a / 64) + a % 64 = a by omega] at hpp
  have hpl := pop_le (wd N (a / 64) &&& mk 0 (a % 64))
  have HP : Hid (base + rk N (64 * (a / 64)) + pop (wd N (a / 64) &&& mk 0 (a % 64)) = base + rk N a) := by show _ = _; omega
  have d0 : ∀ p : Bel w, p.v.cell? ⟨s, 0, none⟩ = some (.int .i64 base) := fun p => (hS.below p.h).c.1
  have d2 : ∀ p : Bel w, p.v.cell? ⟨s, 2, none⟩ = some (.pointer (some ⟨kb, 0, none⟩)) := fun p => (hS.below p.h).c.2.2.1
  have d3 : ∀ p : Bel w, p.v.cell? ⟨s, 3, none⟩ = some (.slice (some ⟨q, 0, none⟩) (wds e) (wds e)) := fun p => (hS.below p.h).c.2.2.2
  have d4 : ∀ p : Bel w, p.v.cell? ⟨kb, 1, none⟩ = some (.slice (some ⟨kg, 0, none⟩) (wds e) (wds e)) := fun p => (hS.below p.h).kept.c1
  have d5 : ∀ p : Bel w, p.v.cell? ⟨kg, a / 64, none⟩ = some (.int .u64 (wd N (a / 64) : Nat)) := fun p => (hS.below p.h).kept.at hi
  have d6 : ∀ p : Bel w, p.v.cell? ⟨q, a / 64, none⟩ = some (.int .i64 (rk N (64 * (a / 64)) : Nat)) := fun p => (hS.below p.h).row.cell hi
  have hwl := wd_lt N (a / 64)
  have hml : mk 0 (a % 64) < 18446744073709551616 := mk_lt (by omega)
  have hve := u64_and_nat (wd N (a / 64)) (mk 0 (a % 64)) hwl hml
  have hvl : wd N (a / 64) &&& mk 0 (a % 64) < 18446744073709551616 := Nat.lt_of_le_of_lt Nat.and_le_left hwl
  have Hmk : Hid (∀ p : Bel w, Calls Tryd.prog 41 #[.int .i64 0, .int .i64 ((a : Int) % 64)] p.v fun r w' => r = .returned (.int .u64 (mk 0 (a % 64) : Nat)) ∧ Below p.v.heap.size p.v w') := fun p => by
    have := mask_any 0 (a % 64) (by omega) (by omega) (by omega) p.v
    exact this.mono (fun _ _ h => ⟨h.1, below_of_drew h.2⟩)
  have Hon : Hid (∀ p : Bel w, Calls Tryd.prog 28 #[.int .u64 (wd N (a / 64) &&& mk 0 (a % 64) : Nat)] p.v fun r w' => r = .returned (.int .i64 (pop (wd N (a / 64) &&& mk 0 (a % 64)) : Nat)) ∧ Below p.v.heap.size p.v w') := fun p => by
    have := ones_any _ hvl p.v (hL.below p.h)
    exact this.mono (fun _ _ h => ⟨h.1, by rw [← h.2]; exact Below.refl _ _⟩)
  haveI hinh : Inhabited (Bel w) := ⟨⟨w, Below.refl _ _⟩⟩
  clear hS hL h hpp
  generalize pop (wd N (a / 64) &&& mk 0 (a % 64)) = pp at *
  generalize wd N (a / 64) &&& mk 0 (a % 64) = vv at *
  generalize wd N (a / 64) = ww at *
  generalize mk 0 (a % 64) = mm at *
  generalize rk N (64 * (a / 64)) = rr at *
  generalize base + rk N a = res at *
  go_enter Tryd.func34, Tryd.ntmps34
  go_wp2_with fail
  refine hh.mono ?_
  rintro r w1 ⟨rfl, rfl⟩
  clear hh c2
  go_upto_region 4 with fail
  refine region_below mixed (by kernel_rfl) ?_
  repeat (go_big_quiet_step (first | (go_at_call 41; exact calls_bel (Hmk.out _)) | (go_at_call 28; exact calls_bel (Hon.out _))))
  refine wpQuiet_nil ?_
  rintro w6 ⟨⟨w6, b8⟩, rfl⟩
  clear d0 d2 d3 d4 d5 d6
  go_wp2
  go_ret2
  refine ⟨?_, b8⟩
  rw [← HP.out, show ((base + rr + pp : Nat) : Int) = (base : Int) + rr + pp by omega]
  rfl

set_option maxRecDepth 20000 in
set_option maxHeartbeats 2000000 in
theorem search_any (g : Nat) (cb : Array Value) (n : Nat) (p : Nat → Bool) (w : World) (eg : ∀ args w, (callFunc g args).run Tryd.prog w = .ok (.enter g args) w) (hn : n ≤ 1000000)
    (hf : ∀ (i : Nat) (W : World), i < n → Below w.heap.size w W → Calls Tryd.prog g (#[.int .i64 i] ++ cb) W fun e w' => e = .returned (.bool (p i)) ∧ Below W.heap.size W w')
    (hmono : ∀ a b, a ≤ b → b < n → p a = true → p b = true) :
    Calls Tryd.prog 44 #[.int .i64 n, .func (.func g) #[] cb] w fun r w' => (∃ k : Nat, k ≤ n ∧ (∀ t, t < k → p t = false) ∧ (∀ t, k ≤ t → t < n → p t = true) ∧ r = .returned (.int .i64 k)) ∧ Below w.heap.size w w' := by
  have HF : Hid _ := hf
  have HM : Hid _ := hmono
  clear hf hmono
  go_enter Tryd.func44, Tryd.ntmps44
  go_wp2
  go_loopw [5, 6] (fun x y wr => ∃ lo hi : Nat, x = .int .i64 lo ∧ y = .int .i64 hi ∧ lo ≤ hi ∧ hi ≤ n ∧ Hid ((∀ t, t < lo → p t = false) ∧ (∀ t, hi ≤ t → t < n → p t = true)) ∧ Below w.heap.size w wr) (fun x y _ => (intOf y - intOf x).toNat)
  case atStart => exact ⟨0, n, rfl, rfl, Nat.zero_le _, Nat.le_refl _, ⟨fun t ht => absurd ht (Nat.not_lt_zero _), fun t h1 h2 => by omega⟩, Below.refl _ _⟩
  case round =>
    obtain ⟨lo, hi, rfl, rfl, hlh, hin, hI, hB⟩ := hrel
    by_cases hlt : lo < hi
    · have hc := HF.out ((lo + hi) / 2) wr (by omega) hB
      rw [show (((lo + hi) / 2 : Nat) : Int) = ((lo : Int) + (hi : Int)) / 2 by omega] at hc
      obtain ⟨i1, i2⟩ := hI.out
      cases hp : p ((lo + hi) / 2)
      · rw [hp] at hc
        have HN : Hid ((∀ t, t < (lo + hi) / 2 + 1 → p t = false) ∧ (∀ t, hi ≤ t → t < n → p t = true)) := by
          refine ⟨fun t ht => ?_, i2⟩
          cases ht2 : p t
          · rfl
          · have := HM.out t ((lo + hi) / 2) (by omega) (by omega) ht2
            rw [hp] at this; cases this
        clear hp i1 i2 hI
        go_wp2_with (go_at_fn g; refine hc.mono ?_; rintro e w' ⟨rfl, b1⟩)
        go_roundw
        case rel => exact ⟨(lo + hi) / 2 + 1, hi, by simp, rfl, by omega, hin, HN, hB.trans (b1.mono hB.size)⟩
        case measure => simp [intOf]; omega
      · rw [hp] at hc
        have HN : Hid ((∀ t, t < lo → p t = false) ∧ (∀ t, (lo + hi) / 2 ≤ t → t < n → p t = true)) :=
          ⟨i1, fun t h1 h2 => HM.out _ t h1 h2 hp⟩
        clear hp i1 i2 hI
        go_wp2_with (go_at_fn g; refine hc.mono ?_; rintro e w' ⟨rfl, b1⟩)
        go_roundw
        case rel => exact ⟨lo, (lo + hi) / 2, rfl, by simp, by omega, by omega, HN, hB.trans (b1.mono hB.size)⟩
        case measure => simp [intOf]; omega
    · have : lo = hi := by omega
      subst this
      go_wp2
      go_ret
      exact ⟨⟨lo, hin, hI.out.1, hI.out.2, rfl⟩, hB⟩

set_option maxRecDepth 20000 in
set_option maxHeartbeats 1000000 in
theorem back1_any (s kb kg q base e cs ct i t : Nat) (N : Nat → Bool) (hi : i < wds e) (w : World) (hS : Sl w s kb kg q base e N) (h1 : w.cell? ⟨cs, 0, none⟩ = some (.pointer (some ⟨s, 0, none⟩))) (h2 : w.cell? ⟨ct, 0, none⟩ = some (.int .i64 t)) :
    Calls Tryd.prog 45 #[.int .i64 i, .pointer (some ⟨cs, 0, none⟩), .pointer (some ⟨ct, 0, none⟩)] w fun r w' => r = .returned (.bool (decide (t < rk N (64 * i)))) ∧ Below w.heap.size w w' := by
  have c3 := hS.c.2.2.2
  have c4 := hS.row.cell hi
  have hn := hS.kept.le
  have hrl := rk_le N (64 * i)
  clear hS
  generalize rk N (64 * i) = rr at *
  go_enter Tryd.func45, Tryd.ntmps45
  go_wp2
  go_quiet (fail)
  go_wp2
  go_ret
  exact ⟨rfl, below_drewN (Below.refl _ _) _⟩
end Go.Proofs.YtlnfhnahnmblmabDoor
