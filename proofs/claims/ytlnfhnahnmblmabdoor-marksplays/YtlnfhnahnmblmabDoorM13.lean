/-
  Back.
-/
import Derived.Test.YtlnfhnahnmblmabDoorM12
set_option linter.unusedVariables false
namespace Go.Proofs.YtlnfhnahnmblmabDoor
open Go.RowKit Go.Shelf

set_option maxRecDepth 100000 in
set_option maxHeartbeats 4000000 in
theorem back_out (s kb kg q base e : Nat) (N : Nat → Bool) (a : Int) (h : a < base ∨ (base : Int) + (rk N e : Nat) ≤ a) (w : World) (hS : Sl w s kb kg q base e N) :
    Calls Tryd.prog 36 #[.pointer (some ⟨s, 0, none⟩), .int .i64 a] w fun r w' => r = .returned (.tuple #[.int .i64 0, .bool false]) ∧ Below w.heap.size w w' := by
  have hS1 := hS.below (Below.alloc (Below.refl _ _) (Nat.le_refl _) (.cells #[.pointer (some ⟨s, 0, none⟩)] 71))
  have b1 : Below w.heap.size w (w.alloc (.cells #[.pointer (some ⟨s, 0, none⟩)] 71)) := Below.alloc (Below.refl _ _) (Nat.le_refl _) _
  have c0 := hS1.c.1
  have c1 := hS1.c.2.1
  have k0 : (w.alloc (.cells #[.pointer (some ⟨s, 0, none⟩)] 71)).cell? ⟨w.heap.size, 0, none⟩ = some (.pointer (some ⟨s, 0, none⟩)) := (Boxed.new w 71 (.pointer (some ⟨s, 0, none⟩))).cell
  have hn := hS.kept.le
  have hbs := hS.base
  have hrl := rk_le N e
  clear hS hS1
  generalize rk N e = rr at *
  by_cases h1 : a < base
  · clear h
    go_enter Tryd.func36, Tryd.ntmps36
    go_upto_region 1 with fail
    generalize (w.alloc (.cells #[.pointer (some ⟨s, 0, none⟩)] 71)) = W at *
    go_quiet (fail)
    go_wp2
    go_ret2
    exact ⟨rfl, below_drewN b1 _⟩
  · have h2 : (base : Int) + (rr : Nat) ≤ a := by omega
    clear h
    go_enter Tryd.func36, Tryd.ntmps36
    go_upto_region 1 with fail
    generalize (w.alloc (.cells #[.pointer (some ⟨s, 0, none⟩)] 71)) = W at *
    go_quiet (fail)
    go_wp2
    go_ret2
    exact ⟨rfl, below_drewN b1 _⟩

theorem back1_enters : ∀ args w, (callFunc 45 args).run Tryd.prog w = .ok (.enter 45 args) w := enters_of Tryd.func45 (by kernel_rfl) rfl

set_option maxRecDepth 100000 in
set_option maxHeartbeats 4000000 in
theorem back_in (s kb kg q base e a : Nat) (N : Nat → Bool) (h : N a = true) (w : World) (hS : Sl w s kb kg q base e N) (hL : Laid w) :
    Calls Tryd.prog 36 #[.pointer (some ⟨s, 0, none⟩), .int .i64 (base + rk N a : Nat)] w fun r w' => r = .returned (.tuple #[.int .i64 a, .bool true]) ∧ Below w.heap.size w w' := by
  have hae : a < e := by
    rcases Nat.lt_or_ge a e with h1 | h1
    · exact h1
    · rw [hS.kept.out a h1] at h; cases h
  have hn := hS.kept.le
  have hbs := hS.base
  have hrl := rk_le N a
  have hre := rk_le N e
  have hlt := rk_lt h hae
  obtain ⟨t, ht⟩ : ∃ t, t = rk N a := ⟨_, rfl⟩
  rw [← ht] at hlt hrl ⊢
  obtain ⟨x, hx⟩ : ∃ x, x = base + t := ⟨_, rfl⟩
  rw [← hx]
  -- the last word of bits whose count isn't above t
  have key : ∀ k, k ≤ wds e → (∀ j, j < k → decide (t < rk N (64 * j)) = false) → (∀ j, k ≤ j → j < wds e → decide (t < rk N (64 * j)) = true) → k = a / 64 + 1 := by
    intro k hk h1 h2
    have ha : a / 64 < wds e := by unfold wds; omega
    have h3 : ¬ k ≤ a / 64 := by
      intro hle
      have := h2 (a / 64) hle ha
      have hm := rk_mono N (show 64 * (a / 64) ≤ a by omega)
      simp only [decide_eq_true_eq] at this
      omega
    have h4 : ¬ a / 64 + 1 < k := by
      intro hle
      have := h1 (a / 64 + 1) hle
      have hm := rk_mono N (show a + 1 ≤ 64 * (a / 64 + 1) by omega)
      simp only [rk, h, Bool.toNat_true] at hm
      simp only [decide_eq_false_iff_not] at this
      omega
    omega
  have hwl := wd_lt N (a / 64)
  have hbit : (wd N (a / 64)).testBit (a % 64) = true := by
    rw [wd_bit, decide_eq_true (show a % 64 < 64 by omega), Bool.true_and, show 64 * (a / 64) + a % 64 = a by omega, h]
  have hrk : rk (wd N (a / 64)).testBit (a % 64) = t - rk N (64 * (a / 64)) := by
    have e1 := rk_add N (64 * (a / 64)) (a % 64)
    rw [show 64 * (a / 64) + a % 64 = a by omega, ← ht] at e1
    have e2 : rk (wd N (a / 64)).testBit (a % 64) = rk (fun j => N (64 * (a / 64) + j)) (a % 64) := rk_congr _ (fun j hj => by
      rw [wd_bit, decide_eq_true (show j < 64 by omega), Bool.true_and])
    omega
  have hm0 := rk_mono N (show 64 * (a / 64) ≤ a by omega)
  rw [← ht] at hm0
  have hia : a / 64 < wds e := by unfold wds; omega
  have hwe : wds e ≤ 20000 := by unfold wds; omega
  have b1 : Below w.heap.size w (w.alloc (.cells #[.pointer (some ⟨s, 0, none⟩)] 71)) := Below.alloc (Below.refl _ _) (Nat.le_refl _) _
  have hS1 := hS.below b1
  have c0 := hS1.c.1
  have c1 := hS1.c.2.1
  have kB := Boxed.new w 71 (.pointer (some ⟨s, 0, none⟩))
  have k0 := kB.cell
  have HS : Hid (Sl (w.alloc (.cells #[.pointer (some ⟨s, 0, none⟩)] 71)) s kb kg q base e N) := hS1
  have HL : Hid (Laid (w.alloc (.cells #[.pointer (some ⟨s, 0, none⟩)] 71))) := hL.below b1
  have HK : Hid (∀ k, k ≤ wds e → (∀ j, j < k → decide (t < rk N (64 * j)) = false) → (∀ j, k ≤ j → j < wds e → decide (t < rk N (64 * j)) = true) → k = a / 64 + 1) := key
  have HR : Hid ((wd N (a / 64)).testBit (a % 64) = true ∧ rk (wd N (a / 64)).testBit (a % 64) = t - rk N (64 * (a / 64))) := ⟨hbit, hrk⟩
  clear hS hS1 hL key hbit hrk ht h
  generalize hre2 : rk N e = re at *
  go_enter Tryd.func36, Tryd.ntmps36
  go_upto_region 1 with fail
  obtain ⟨W, hW⟩ : ∃ W, W = (w.alloc (.cells #[.pointer (some ⟨s, 0, none⟩)] 71)) := ⟨_, rfl⟩
  obtain ⟨B, hBB⟩ : ∃ B, B = w.heap.size := ⟨_, rfl⟩
  have hBl : B < W.heap.size := by rw [hW, hBB]; simp
  rw [← hW] at c0 c1 kB k0 HS HL b1 ⊢
  rw [← hBB] at kB k0 ⊢
  clear hW hBB
  have g1 : ¬ x < base := by omega
  have g2 : ¬ ((base : Int) + re ≤ x) := by omega
  have Hx : Hid (x = base + t) := hx
  clear hx
  go_quiet (fail)
  have kB' : Boxed (W.drewN nq) B 71 (.pointer (some ⟨s, 0, none⟩)) := kB
  have HS' : Hid (Sl (W.drewN nq) s kb kg q base e N) := HS.out.below (below_drewN (Below.refl _ _) _)
  have HL' : Hid (Laid (W.drewN nq)) := HL.out.below (below_drewN (Below.refl _ _) _)
  have b1' := below_drewN b1 nq
  have hBl' : B < (W.drewN nq).heap.size := hBl
  clear c0 c1 kB k0 HS HL b1 hBl g1 g2
  generalize W.drewN nq = W2 at *
  have c0 := HS'.out.c.1
  have k0 := kB'.cell
  go_upto_region 4 with fail
  have e1 : (x : Int) - base = (t : Int) := by have := Hx.out; omega
  have e2 : wrap64 (t : Int) = t := by unfold wrap64; omega
  rw [e1, e2]
  have b3 := Below.alloc b1' b1'.size (.cells #[.int .i64 t] 3)
  have b23 : Below W2.heap.size W2 (W2.alloc (.cells #[.int .i64 t] 3)) := Below.alloc (Below.refl _ _) (Nat.le_refl _) _
  have kt := Boxed.new W2 3 (.int .i64 t)
  have kB3 := kB'.alloc (.cells #[.int .i64 t] 3)
  have hS3 := HS'.out.below b23
  have hL3 := HL'.out.below b23
  clear c0 k0 e1 e2 b23 HS' HL' kB' b1' hBl'
  generalize (W2.alloc (.cells #[.int .i64 t] 3)) = W3 at *
  generalize W2.heap.size = ct at *
  have hse := search_any 45 #[.pointer (some ⟨B, 0, none⟩), .pointer (some ⟨ct, 0, none⟩)] (wds e) (fun j => decide (t < rk N (64 * j))) W3 back1_enters (by omega) (fun j W' hj hb => back1_any s kb kg q base e B ct j t N hj W' (hS3.below hb) ((hb.cell (World.block_lt_of_cell? _ _ kB3.cell)).trans kB3.cell) ((hb.cell (World.block_lt_of_cell? _ _ kt.cell)).trans kt.cell))
    (fun x y h1 h2 h3 => by
      simp only [decide_eq_true_eq] at h3 ⊢
      have := rk_mono N (show 64 * x ≤ 64 * y by omega)
      omega)
  have HS3 : Hid (Sl W3 s kb kg q base e N ∧ Laid W3) := ⟨hS3, hL3⟩
  have c3 := hS3.c.2.2.2
  have k0 := kB3.cell
  clear hS3 hL3
  go_wp2_with fail
  refine hse.mono ?_
  rintro r w4 ⟨⟨k, hk, h1, h2, rfl⟩, b4⟩
  have hk2 := HK.out k hk h1 h2
  have hS4 := HS3.out.1.below b4
  have hL4 := HS3.out.2.below b4
  have d0 : ∀ p : Bel w4, p.v.cell? ⟨B, 0, none⟩ = some (.pointer (some ⟨s, 0, none⟩)) := fun p => by
    have := (b4.cell (World.block_lt_of_cell? _ _ kB3.cell)).trans kB3.cell
    exact (p.h.cell (World.block_lt_of_cell? _ _ this)).trans this
  have d1 : ∀ p : Bel w4, p.v.cell? ⟨ct, 0, none⟩ = some (.int .i64 t) := fun p => by
    have := (b4.cell (World.block_lt_of_cell? _ _ kt.cell)).trans kt.cell
    exact (p.h.cell (World.block_lt_of_cell? _ _ this)).trans this
  have d2 : ∀ p : Bel w4, p.v.cell? ⟨s, 2, none⟩ = some (.pointer (some ⟨kb, 0, none⟩)) := fun p => (hS4.below p.h).c.2.2.1
  have d3 : ∀ p : Bel w4, p.v.cell? ⟨s, 3, none⟩ = some (.slice (some ⟨q, 0, none⟩) (wds e) (wds e)) := fun p => (hS4.below p.h).c.2.2.2
  have d4 : ∀ p : Bel w4, p.v.cell? ⟨kb, 1, none⟩ = some (.slice (some ⟨kg, 0, none⟩) (wds e) (wds e)) := fun p => (hS4.below p.h).kept.c1
  have d5 : ∀ p : Bel w4, p.v.cell? ⟨kg, a / 64, none⟩ = some (.int .u64 (wd N (a / 64) : Nat)) := fun p => (hS4.below p.h).kept.at hia
  have d6 : ∀ p : Bel w4, p.v.cell? ⟨q, a / 64, none⟩ = some (.int .i64 (rk N (64 * (a / 64)) : Nat)) := fun p => (hS4.below p.h).row.cell hia
  have Hpl : Hid (∀ p : Bel w4, Calls Tryd.prog 46 #[.int .u64 (wd N (a / 64) : Nat), .int .i64 ((t : Int) - (rk N (64 * (a / 64)) : Nat))] p.v fun r w' => r = .returned (.int .i64 (a % 64 : Nat)) ∧ Below p.v.heap.size p.v w') := fun p => by
    have := place_any (wd N (a / 64)) (a % 64) (t - rk N (64 * (a / 64))) hwl HR.out.1 HR.out.2 p.v (hL4.below p.h)
    rw [show ((t - rk N (64 * (a / 64)) : Nat) : Int) = (t : Int) - (rk N (64 * (a / 64)) : Nat) by omega] at this
    exact this.mono (fun _ _ h => ⟨h.1, by rw [← h.2]; exact Below.refl _ _⟩)
  have b5 := b3.trans (b4.mono b3.size)
  have ek : (k : Int) - 1 = ((a / 64 : Nat) : Int) := by omega
  haveI hinh : Inhabited (Bel w4) := ⟨⟨w4, Below.refl _ _⟩⟩
  obtain ⟨i, hi⟩ : ∃ i, i = a / 64 := ⟨_, rfl⟩
  obtain ⟨p, hp⟩ : ∃ p, p = a % 64 := ⟨_, rfl⟩
  have Hfin : Hid ((i : Int) * 64 + p = a) := by show _ = _; omega
  rw [← hi] at d5 d6 Hpl ek hia hwl hm0
  rw [← hp] at Hpl
  have hpl : p < 64 := by omega
  clear hse h1 h2 c3 k0 hS4 hL4 kB3 kt HR HK b4 b3 HS3 hk2 hi hp hlt hre2
  generalize rk N (64 * i) = rr at *
  generalize wd N i = ww at *
  have hk0 : k ≤ 20000 := by omega
  have Hek : Hid ((k : Int) - 1 = (i : Int)) := ek
  clear ek
  go_upto_region 5 with fail
  rw [Hek.out]
  refine region_below mixed (by kernel_rfl) ?_
  repeat (go_big_quiet_step (first | (go_at_call 46; exact calls_bel (Hpl.out _))))
  refine wpQuiet_nil ?_
  rintro w6 ⟨⟨w6, b8⟩, rfl⟩
  clear d0 d1 d2 d3 d4 d5 d6
  go_wp2
  go_ret2
  refine ⟨?_, b5.trans (b8.mono b5.size)⟩
  rw [← Hfin.out]
  rfl
end Go.Proofs.YtlnfhnahnmblmabDoor
