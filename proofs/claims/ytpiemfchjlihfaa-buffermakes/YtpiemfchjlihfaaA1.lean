/-
  The small calls of an arena.
-/
import Derived.Test.YtpiemfchjlihfaaAMem
import Derived.Handy
set_option linter.unusedVariables false
namespace Go.Proofs.Ytpiemfchjlihfaa
open Go.RowKit

set_option maxHeartbeats 400000 in
theorem isSpace_any (s : Int) (w : World) :
    Calls Try.prog 15 #[.int .i64 s] w fun e w' => e = .returned (.bool (decide (1 ≤ s ∧ s ≤ 4))) ∧ w = w' := by
  by_cases h1 : 1 ≤ s
  · go_enter Try.func15, Try.ntmps15
    go_wp2
    go_ret
    simp [h1]
  · go_enter Try.func15, Try.ntmps15
    go_wp2
    go_ret
    simp
    omega

abbrev ev (a b t : Int) : Value := .agg #[.int .i64 a, .int .i64 b, .int .i64 t]
abbrev ecells (a b t : Int) : Array Value := #[.int .i64 a, .int .i64 b, .int .i64 t]

set_option maxHeartbeats 1000000 in
theorem extent_any (b g : Nat) (c : Cfg) (x : Tps) (sw : Bool) (ws : Nat → Int) (s : Int) (w : World) (h : Ar w b g c x sw ws) :
    Calls Try.prog 14 #[.pointer (some ⟨b, 0, none⟩), .int .i64 s] w fun e w' => e = .returned (ev (fst c s) (bhd c s) (x.top s)) ∧ Below w.heap.size w w' := by
  by_cases hs : 1 ≤ s ∧ s ≤ 4
  · have hd : decide (1 ≤ s ∧ s ≤ 4) = true := decide_eq_true hs
    have k : ∀ j, j < 28 → (w.alloc (.cells (ecells 0 0 0) 43)).cell? ⟨b, j, none⟩ = some (af c g c.words.toNat x sw j) := fun j hj => (h.own.alloc _).cell hj
    have hbl := h.own.lt
    clear h
    obtain rfl | rfl | rfl | rfl : s = 1 ∨ s = 2 ∨ s = 3 ∨ s = 4 := by omega
    · have k0 := k 15 (by decide)
      have k1 := k 16 (by decide)
      have k2 := k 17 (by decide)
      simp only [af] at k0 k1 k2
      clear k hs
      go_enter Try.func14, Try.ntmps14
      go_wp2_with fail
      refine (isSpace_any _ _).mono ?_
      rintro e w' ⟨rfl, rfl⟩
      rw [hd]
      go_wp2
      go_returns
      refine ⟨rfl, ?_⟩
      go_grown
    · have k0 := k 18 (by decide)
      have k1 := k 19 (by decide)
      have k2 := k 20 (by decide)
      simp only [af] at k0 k1 k2
      clear k hs
      go_enter Try.func14, Try.ntmps14
      go_wp2_with fail
      refine (isSpace_any _ _).mono ?_
      rintro e w' ⟨rfl, rfl⟩
      rw [hd]
      go_wp2
      go_returns
      refine ⟨rfl, ?_⟩
      go_grown
    · have k0 := k 21 (by decide)
      have k1 := k 22 (by decide)
      have k2 := k 23 (by decide)
      simp only [af] at k0 k1 k2
      clear k hs
      go_enter Try.func14, Try.ntmps14
      go_wp2_with fail
      refine (isSpace_any _ _).mono ?_
      rintro e w' ⟨rfl, rfl⟩
      rw [hd]
      go_wp2
      go_returns
      refine ⟨rfl, ?_⟩
      go_grown
    · have k0 := k 24 (by decide)
      have k1 := k 25 (by decide)
      have k2 := k 26 (by decide)
      simp only [af] at k0 k1 k2
      clear k hs
      go_enter Try.func14, Try.ntmps14
      go_wp2_with fail
      refine (isSpace_any _ _).mono ?_
      rintro e w' ⟨rfl, rfl⟩
      rw [hd]
      go_wp2
      go_returns
      refine ⟨rfl, ?_⟩
      go_grown
  · have hd : decide (1 ≤ s ∧ s ≤ 4) = false := decide_eq_false hs
    have e1 : fst c s = 0 := by unfold fst; rw [if_neg (by omega), if_neg (by omega), if_neg (by omega), if_neg (by omega)]
    have e2 : bhd c s = 0 := by unfold bhd; rw [if_neg (by omega), if_neg (by omega), if_neg (by omega), if_neg (by omega)]
    have e3 : x.top s = 0 := by unfold Tps.top; rw [if_neg (by omega), if_neg (by omega), if_neg (by omega), if_neg (by omega)]
    rw [e1, e2, e3]
    clear e1 e2 e3 h hs
    go_enter Try.func14, Try.ntmps14
    go_wp2_with fail
    refine (isSpace_any _ _).mono ?_
    rintro e w' ⟨rfl, rfl⟩
    rw [hd]
    go_wp2
    go_returns
    refine ⟨rfl, ?_⟩
    go_grown

theorem ext_top (p q r : Int) (w : World) : (Instr.field 43 (ev p q r) 2).run Try.prog w = .ok (.int .i64 r) w := by kernel_rfl

theorem Ar.sub_in {w : World} {b g : Nat} {c : Cfg} {x : Tps} {sw : Bool} {ws : Nat → Int} (h : Ar w b g c x sw ws) (s : Int) : 0 ≤ fst c s ∧ fst c s ≤ x.top s ∧ x.top s ≤ bhd c s ∧ bhd c s ≤ c.words := by
  obtain ⟨-, -, ok, -, a, b, d, e, f, g', i, j⟩ := h
  have := ok.e0; have := ok.e1; have := ok.s0; have := ok.s1; have := ok.t0; have := ok.t1
  unfold fst bhd Tps.top Cfg.words
  repeat' split
  all_goals omega

set_option maxHeartbeats 400000 in
theorem free_any (b g : Nat) (c : Cfg) (x : Tps) (sw : Bool) (ws : Nat → Int) (s : Int) (w : World) (h : Ar w b g c x sw ws) :
    Calls Try.prog 12 #[.pointer (some ⟨b, 0, none⟩), .int .i64 s] w fun e w' => e = .returned (.int .i64 (bhd c s - x.top s)) ∧ Below w.heap.size w w' := by
  have hx := extent_any b g c x sw ws s w h
  obtain ⟨p0, p1, p2, p3⟩ := h.sub_in s
  have q := h.words
  generalize fst c s = p, bhd c s = q, x.top s = r at hx p0 p1 p2 p3 ⊢
  clear h
  go_enter Try.func12, Try.ntmps12
  go_wp2_with fail
  refine hx.mono ?_
  rintro e w1 ⟨rfl, b1⟩
  go_wp2
  go_ret
  refine ⟨rfl, ?_⟩
  go_grown
  exact b1.size

theorem af_top (c : Cfg) (g n : Nat) (x : Tps) (sw : Bool) (s v : Int) (hs : 1 ≤ s ∧ s ≤ 4) (j : Nat) : (if j = (14 + 3 * s).toNat then Value.int .i64 v else af c g n x sw j) = af c g n (x.put s v) sw j := by
  obtain rfl | rfl | rfl | rfl : s = 1 ∨ s = 2 ∨ s = 3 ∨ s = 4 := by omega
  all_goals
    match j with
    | 0 | 1 | 2 | 3 | 4 | 5 | 6 | 7 | 8 | 9 | 10 | 11 | 12 | 13 | 14 | 15 | 16 | 17 | 18 | 19 | 20 | 21 | 22 | 23 | 24 | 25 | 26 => simp [af, Tps.put]
    | j + 27 => simp [af]; try omega

theorem Ar.cellW {w : World} {b g : Nat} {c : Cfg} {x : Tps} {sw : Bool} {ws : Nat → Int} (h : Ar w b g c x sw ws) (i : Int) (h0 : 0 ≤ i) (h1 : i < c.words) (n : Nat) (hn : (n : Int) = i) : w.cell? ⟨g, n, none⟩ = some (.int .u64 (wat c ws i)) := by
  rw [h.row.cell (i := n) (by omega), wat, if_pos ⟨h0, h1⟩, ← hn, Int.toNat_natCast]

end Go.Proofs.Ytpiemfchjlihfaa
