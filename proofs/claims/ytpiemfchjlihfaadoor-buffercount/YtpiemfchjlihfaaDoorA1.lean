/-
  The small calls of an arena.
-/
import Derived.Test.YtpiemfchjlihfaaDoorAMem
import Derived.Handy
set_option linter.unusedVariables false
namespace Go.Proofs.YtpiemfchjlihfaaDoor
open Go.RowKit

set_option maxHeartbeats 400000 in
theorem isSpace_any (s : Int) (w : World) :
    Calls Tryd.prog 52 #[.int .i64 s] w fun e w' => e = .returned (.bool (decide (1 ≤ s ∧ s ≤ 4))) ∧ w = w' := by
  by_cases h1 : 1 ≤ s
  · go_enter Tryd.func52, Tryd.ntmps52
    go_wp2
    go_ret
    simp [h1]
  · go_enter Tryd.func52, Tryd.ntmps52
    go_wp2
    go_ret
    simp
    omega

set_option maxHeartbeats 400000 in
theorem has_any (a : Option Addr) (n cap : Nat) (i : Int) (w : World) :
    Calls Tryd.prog 61 #[.slice a n cap, .int .i64 i] w fun e w' => e = .returned (.bool (decide (0 ≤ i ∧ i < (n : Int)))) ∧ w = w' := by
  by_cases h1 : 0 ≤ i
  · go_enter Tryd.func61, Tryd.ntmps61
    go_wp2
    go_ret
    simp [h1]
  · go_enter Tryd.func61, Tryd.ntmps61
    go_wp2
    go_ret
    simp
    omega

abbrev ev (a b t : Int) : Value := .agg #[.int .i64 a, .int .i64 b, .int .i64 t]
abbrev ecells (a b t : Int) : Array Value := #[.int .i64 a, .int .i64 b, .int .i64 t]

set_option maxHeartbeats 1000000 in
theorem extent_any (b g : Nat) (c : Cfg) (x : Tps) (sw : Bool) (ws : Nat → Int) (s : Int) (w : World) (h : Ar w b g c x sw ws) :
    Calls Tryd.prog 31 #[.pointer (some ⟨b, 0, none⟩), .int .i64 s] w fun e w' => e = .returned (ev (fst c s) (bhd c s) (x.top s)) ∧ Below w.heap.size w w' := by
  by_cases hs : 1 ≤ s ∧ s ≤ 4
  · have hd : decide (1 ≤ s ∧ s ≤ 4) = true := decide_eq_true hs
    have k : ∀ j, j < 28 → (w.alloc (.cells (ecells 0 0 0) 61)).cell? ⟨b, j, none⟩ = some (af c g c.words.toNat x sw j) := fun j hj => (h.own.alloc _).cell hj
    have hbl := h.own.lt
    clear h
    obtain rfl | rfl | rfl | rfl : s = 1 ∨ s = 2 ∨ s = 3 ∨ s = 4 := by omega
    · have k0 := k 15 (by decide)
      have k1 := k 16 (by decide)
      have k2 := k 17 (by decide)
      simp only [af] at k0 k1 k2
      clear k hs
      go_enter Tryd.func31, Tryd.ntmps31
      go_wp2_with fail
      refine (isSpace_any _ _).mono ?_
      rintro e w' ⟨rfl, rfl⟩
      rw [hd]
      go_wp2
      go_returns
      refine ⟨rfl, ?_⟩
      go_grown
    · have k0 := k 18 (by decide)
      have k1 := k 19 (by decide)
      have k2 := k 20 (by decide)
      simp only [af] at k0 k1 k2
      clear k hs
      go_enter Tryd.func31, Tryd.ntmps31
      go_wp2_with fail
      refine (isSpace_any _ _).mono ?_
      rintro e w' ⟨rfl, rfl⟩
      rw [hd]
      go_wp2
      go_returns
      refine ⟨rfl, ?_⟩
      go_grown
    · have k0 := k 21 (by decide)
      have k1 := k 22 (by decide)
      have k2 := k 23 (by decide)
      simp only [af] at k0 k1 k2
      clear k hs
      go_enter Tryd.func31, Tryd.ntmps31
      go_wp2_with fail
      refine (isSpace_any _ _).mono ?_
      rintro e w' ⟨rfl, rfl⟩
      rw [hd]
      go_wp2
      go_returns
      refine ⟨rfl, ?_⟩
      go_grown
    · have k0 := k 24 (by decide)
      have k1 := k 25 (by decide)
      have k2 := k 26 (by decide)
      simp only [af] at k0 k1 k2
      clear k hs
      go_enter Tryd.func31, Tryd.ntmps31
      go_wp2_with fail
      refine (isSpace_any _ _).mono ?_
      rintro e w' ⟨rfl, rfl⟩
      rw [hd]
      go_wp2
      go_returns
      refine ⟨rfl, ?_⟩
      go_grown
  · have hd : decide (1 ≤ s ∧ s ≤ 4) = false := decide_eq_false hs
    have e1 : fst c s = 0 := by unfold fst; rw [if_neg (by omega), if_neg (by omega), if_neg (by omega), if_neg (by omega)]
    have e2 : bhd c s = 0 := by unfold bhd; rw [if_neg (by omega), if_neg (by omega), if_neg (by omega), if_neg (by omega)]
    have e3 : x.top s = 0 := by unfold Tps.top; rw [if_neg (by omega), if_neg (by omega), if_neg (by omega), if_neg (by omega)]
    rw [e1, e2, e3]
    clear e1 e2 e3 h hs
    go_enter Tryd.func31, Tryd.ntmps31
    go_wp2_with fail
    refine (isSpace_any _ _).mono ?_
    rintro e w' ⟨rfl, rfl⟩
    rw [hd]
    go_wp2
    go_returns
    refine ⟨rfl, ?_⟩
    go_grown

theorem ext_top (p q r : Int) (w : World) : (Instr.field 61 (ev p q r) 2).run Tryd.prog w = .ok (.int .i64 r) w := by kernel_rfl

set_option maxHeartbeats 400000 in
theorem top_any (b g : Nat) (c : Cfg) (x : Tps) (sw : Bool) (ws : Nat → Int) (s : Int) (w : World) (h : Ar w b g c x sw ws) :
    Calls Tryd.prog 13 #[.pointer (some ⟨b, 0, none⟩), .int .i64 s] w fun e w' => e = .returned (.int .i64 (x.top s)) ∧ Below w.heap.size w w' := by
  have hx := extent_any b g c x sw ws s w h
  generalize fst c s = p, bhd c s = q, x.top s = r at hx ⊢
  clear h
  have hf := ext_top p q r
  go_enter Tryd.func13, Tryd.ntmps13
  go_wp2_with fail
  refine hx.mono ?_
  rintro e w1 ⟨rfl, b1⟩
  go_wp2
  go_ret
  exact ⟨rfl, b1⟩

set_option maxHeartbeats 400000 in
theorem bounds_any (b g : Nat) (c : Cfg) (x : Tps) (sw : Bool) (ws : Nat → Int) (s : Int) (w : World) (h : Ar w b g c x sw ws) :
    Calls Tryd.prog 82 #[.pointer (some ⟨b, 0, none⟩), .int .i64 s] w fun e w' => e = .returned (.tuple #[.int .i64 (fst c s), .int .i64 (bhd c s)]) ∧ Below w.heap.size w w' := by
  have hx := extent_any b g c x sw ws s w h
  generalize fst c s = p, bhd c s = q, x.top s = r at hx ⊢
  clear h
  go_enter Tryd.func82, Tryd.ntmps82
  go_wp2_with fail
  refine hx.mono ?_
  rintro e w1 ⟨rfl, b1⟩
  go_wp2
  go_quiet (fail)
  go_wp2
  go_ret2
  exact ⟨rfl, below_drewN (Below.alloc b1 b1.size _) _⟩

theorem Ar.sub_in {w : World} {b g : Nat} {c : Cfg} {x : Tps} {sw : Bool} {ws : Nat → Int} (h : Ar w b g c x sw ws) (s : Int) : 0 ≤ fst c s ∧ fst c s ≤ x.top s ∧ x.top s ≤ bhd c s ∧ bhd c s ≤ c.words := by
  obtain ⟨-, -, ok, -, a, b, d, e, f, g', i, j⟩ := h
  have := ok.e0; have := ok.e1; have := ok.s0; have := ok.s1; have := ok.t0; have := ok.t1
  unfold fst bhd Tps.top Cfg.words
  repeat' split
  all_goals omega

set_option maxHeartbeats 400000 in
theorem free_any (b g : Nat) (c : Cfg) (x : Tps) (sw : Bool) (ws : Nat → Int) (s : Int) (w : World) (h : Ar w b g c x sw ws) :
    Calls Tryd.prog 26 #[.pointer (some ⟨b, 0, none⟩), .int .i64 s] w fun e w' => e = .returned (.int .i64 (bhd c s - x.top s)) ∧ Below w.heap.size w w' := by
  have hx := extent_any b g c x sw ws s w h
  obtain ⟨p0, p1, p2, p3⟩ := h.sub_in s
  have q := h.words
  generalize fst c s = p, bhd c s = q, x.top s = r at hx p0 p1 p2 p3 ⊢
  clear h
  go_enter Tryd.func26, Tryd.ntmps26
  go_wp2_with fail
  refine hx.mono ?_
  rintro e w1 ⟨rfl, b1⟩
  go_wp2
  go_ret
  refine ⟨rfl, ?_⟩
  go_grown
  exact b1.size

set_option maxHeartbeats 1000000 in
theorem setTop_cell (b : Nat) (s v : Int) (hs : 1 ≤ s ∧ s ≤ 4) (w : World) (f : Nat → Value) (h : w.rowIs b 66 28 f) :
    Calls Tryd.prog 71 #[.pointer (some ⟨b, 0, none⟩), .int .i64 s, .int .i64 v] w fun e w' => e = .returned (.tuple #[]) ∧ w' = w.setCell ⟨b, (14 + 3 * s).toNat, none⟩ (.int .i64 v) := by
  have k : ∀ j, j < 28 → w.cell? ⟨b, j, none⟩ = some (f j) := fun j hj => h.cell hj
  have z : ∀ j, w.frozen? ⟨b, j, none⟩ = false := fun j => h.frozen j
  clear h
  obtain rfl | rfl | rfl | rfl : s = 1 ∨ s = 2 ∨ s = 3 ∨ s = 4 := by omega
  · have k2 := k 17 (by decide)
    have z2 := z 17
    clear k hs z
    go_enter Tryd.func71, Tryd.ntmps71
    go_wp2
    go_returns
    exact ⟨rfl, rfl⟩
  · have k2 := k 20 (by decide)
    have z2 := z 20
    clear k hs z
    go_enter Tryd.func71, Tryd.ntmps71
    go_wp2
    go_returns
    exact ⟨rfl, rfl⟩
  · have k2 := k 23 (by decide)
    have z2 := z 23
    clear k hs z
    go_enter Tryd.func71, Tryd.ntmps71
    go_wp2
    go_returns
    exact ⟨rfl, rfl⟩
  · have k2 := k 26 (by decide)
    have z2 := z 26
    clear k hs z
    go_enter Tryd.func71, Tryd.ntmps71
    go_wp2
    go_returns
    exact ⟨rfl, rfl⟩

theorem af_top (c : Cfg) (g n : Nat) (x : Tps) (sw : Bool) (s v : Int) (hs : 1 ≤ s ∧ s ≤ 4) (j : Nat) : (if j = (14 + 3 * s).toNat then Value.int .i64 v else af c g n x sw j) = af c g n (x.put s v) sw j := by
  obtain rfl | rfl | rfl | rfl : s = 1 ∨ s = 2 ∨ s = 3 ∨ s = 4 := by omega
  all_goals
    match j with
    | 0 | 1 | 2 | 3 | 4 | 5 | 6 | 7 | 8 | 9 | 10 | 11 | 12 | 13 | 14 | 15 | 16 | 17 | 18 | 19 | 20 | 21 | 22 | 23 | 24 | 25 | 26 => simp [af, Tps.put]
    | j + 27 => simp [af]; try omega

theorem setTop_any (b g : Nat) (c : Cfg) (x : Tps) (sw : Bool) (ws : Nat → Int) (s v : Int) (hs : 1 ≤ s ∧ s ≤ 4) (h0 : fst c s ≤ v) (h1 : v ≤ bhd c s) (w : World) (h : Ar w b g c x sw ws) :
    Calls Tryd.prog 71 #[.pointer (some ⟨b, 0, none⟩), .int .i64 s, .int .i64 v] w fun e w' => e = .returned (.tuple #[]) ∧ Ar w' b g c (x.put s v) sw ws ∧ Touch [b] w w' ∧ w'.heap.size = w.heap.size := by
  refine (setTop_cell b s v hs w _ h.own).mono ?_
  rintro e w' ⟨rfl, rfl⟩
  have hn := h.ne
  refine ⟨rfl, ?_, Touch.setCell _ _ _ (by simp), by simp [World.setCell]⟩
  obtain ⟨o, r, ok, wd, a, b', d, e, f, g', i, j⟩ := h
  refine ⟨(o.set _ _).congr (fun j _ => af_top c g _ x sw s v hs j), r.setOther (fun e => hn e.symm) _, ok, wd, ?_, ?_, ?_, ?_, ?_, ?_, ?_, ?_⟩
  all_goals
    obtain rfl | rfl | rfl | rfl : s = 1 ∨ s = 2 ∨ s = 3 ∨ s = 4 := by omega
    all_goals
      simp [fst] at h0
      simp [bhd] at h1
      simp only [Tps.put]
      simp
      omega

theorem Ar.cellW {w : World} {b g : Nat} {c : Cfg} {x : Tps} {sw : Bool} {ws : Nat → Int} (h : Ar w b g c x sw ws) (i : Int) (h0 : 0 ≤ i) (h1 : i < c.words) (n : Nat) (hn : (n : Int) = i) : w.cell? ⟨g, n, none⟩ = some (.int .u64 (wat c ws i)) := by
  rw [h.row.cell (i := n) (by omega), wat, if_pos ⟨h0, h1⟩, ← hn, Int.toNat_natCast]

end Go.Proofs.YtpiemfchjlihfaaDoor
