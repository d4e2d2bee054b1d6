/-
  Policy: Limit and Big, the landed and the document's.
-/
import Derived.Test.YtcijdbhabbepaaaGreatDoorPL8
set_option linter.unusedVariables false
set_option maxRecDepth 20000
namespace Go.Proofs.YtcijdbhabbepaaaGreatDoor.Po
open Go.RowKit Go.Proofs.YtcijdbhabbepaaaGreatDoor.Kg

theorem w64 (n : Int) (h1 : -9223372036854775808 ≤ n) (h2 : n ≤ 9223372036854775807) : wrap64 n = n := by unfold wrap64; omega

/-- The base within its bounds. -/
def bcl (base : Int) : Int := if base < 0 then 0 else if 65536 < base then 65536 else base
theorem bcl_in (base : Int) : 0 ≤ bcl base ∧ bcl base ≤ 65536 := by unfold bcl; split; omega; split <;> omega

def clim (c : Cfg) (base : Int) : Int := lim c.floor c.num c.den base
theorem lim_bcl (c : Cfg) (base : Int) : clim c base = if bcl base * c.num / c.den < c.floor then c.floor else bcl base * c.num / c.den := rfl

theorem quo_in {c : Cfg} (h : c.Ok) {B : Int} (hB : 0 ≤ B ∧ B ≤ 65536) : 0 ≤ B * c.num ∧ B * c.num ≤ 4294967296 ∧ 0 ≤ B * c.num / c.den ∧ B * c.num / c.den ≤ 4294967296 := by
  have h1 : 0 ≤ B * c.num := Int.mul_nonneg hB.1 (by have := h.d0; have := h.n0; omega)
  have h2 : B * c.num ≤ 65536 * 65536 := Int.mul_le_mul hB.2 h.n1 (by have := h.d0; have := h.n0; omega) (by omega)
  have h3 : B * c.num / c.den ≤ B * c.num := Int.ediv_le_self _ h1
  exact ⟨h1, by omega, Int.ediv_nonneg h1 (by have := h.d0; omega), by omega⟩

theorem lim_in {c : Cfg} (h : c.Ok) (base : Int) : 0 ≤ clim c base ∧ clim c base ≤ 4294967296 := by
  have := quo_in h (bcl_in base)
  have := h.f0
  have := h.f1
  rw [lim_bcl]
  split <;> omega

theorem cfd_cells {w : World} {b : Nat} {c : Cfg} (h : Cfd w b c) (j : Nat) (v : Value) (hv : (ccells c)[j]? = some v) : w.cell? ⟨b, j, none⟩ = some v := (h.cell j).trans hv

set_option maxHeartbeats 8000000 in
theorem plimit_yes {c : Cfg} (hok : c.Ok) (base : Int) (w : World) : Calls Tryz.prog 10 #[cv c, .int .i64 base] w fun e w' => e = .returned (.int .i64 (clim c base)) ∧ Below w.heap.size w w' := by
  obtain ⟨w0, hw0⟩ : ∃ x9, x9 = w.alloc (.cells (ccells c) 23) := ⟨_, rfl⟩
  have hb0 : Below w.heap.size w w0 := by rw [hw0]; exact Below.alloc (Below.refl _ _) (Nat.le_refl _) _
  have hC : Cfd w0 w.heap.size c := by rw [hw0]; exact Cfd.new w c
  have HB : Hid (Below w.heap.size w w0) := hb0
  have HC : Hid (Cfd w0 w.heap.size c) := hC
  have Hok : Hid c.Ok := hok
  obtain ⟨L, hL⟩ : ∃ L, L = clim c base := ⟨_, rfl⟩
  rw [← hL]
  have HL : Hid (L = if bcl base * c.num / c.den < c.floor then c.floor else bcl base * c.num / c.den) := hL.trans (lim_bcl c base)
  clear hL
  have q := valid_any c true (by simp [hok]) w0
  have k0 := cfd_cells hC 0 (.int .i64 c.eden) rfl
  have k1 := cfd_cells hC 1 (.int .i64 c.surv) rfl
  have k2 := cfd_cells hC 2 (.int .i64 c.ten) rfl
  have k3 := cfd_cells hC 3 (.int .i64 c.large) rfl
  have k4 := cfd_cells hC 4 (.int .i64 c.floor) rfl
  have k5 := cfd_cells hC 5 (.int .i64 c.num) rfl
  have k6 := cfd_cells hC 6 (.int .i64 c.den) rfl
  have k7 := cfd_cells hC 7 (.int .i64 c.target) rfl
  have k8 := cfd_cells hC 8 (.int .i64 c.maxAge) rfl
  have k9 := cfd_cells hC 9 (.int .i64 c.threads) rfl
  have k10 := cfd_cells hC 10 (.int .i64 c.slots) rfl
  have k11 := cfd_cells hC 11 (.int .i64 c.handles) rfl
  have k12 := cfd_cells hC 12 (.int .i64 c.buffer) rfl
  have k13 := cfd_cells hC 13 (.int .i64 c.workers) rfl
  clear hb0 hC hok
  go_enter Tryz.func10, Tryz.ntmps10
  go_upto_region 1 with fail
  rw [← hw0]
  clear hw0
  go_wp2_with fail
  refine q.mono ?_
  rintro e9 w1 ⟨rfl, b1⟩
  have HB1 : Hid (Below w.heap.size w w1) := HB.out.trans (b1.mono HB.out.size)
  have HC1 : Hid (Cfd w1 w.heap.size c) := HC.out.below b1
  clear q k0 k1 k2 k3 k4 k5 k6 k7 k8 k9 k10 k11 k12 k13 b1 HB HC
  go_upto_region 3 with fail
  go_cut [1] from 8 to 11 (fun v wc => v = .int .i64 (bcl base) ∧ w1 = wc)
  case first =>
    by_cases n1 : base < 0
    · have e : Hid (bcl base = 0) := (by unfold bcl; rw [if_pos n1] : bcl base = 0)
      go_wp2
      go_meet
      exact ⟨by rw [e.out], rfl⟩
    · by_cases n2 : 65536 < base
      · have e : Hid (bcl base = 65536) := (by unfold bcl; rw [if_neg n1, if_pos n2] : bcl base = 65536)
        go_wp2
        go_meet
        exact ⟨by rw [e.out], rfl⟩
      · have e : Hid (bcl base = base) := (by unfold bcl; rw [if_neg n1, if_neg n2] : bcl base = base)
        go_wp2
        go_meet
        exact ⟨by rw [e.out], rfl⟩
  case rest =>
    obtain ⟨rfl, rfl⟩ := hcut
    apply_assumption
    have k4 := cfd_cells HC1.out 4 (.int .i64 c.floor) rfl
    have k5 := cfd_cells HC1.out 5 (.int .i64 c.num) rfl
    have k6 := cfd_cells HC1.out 6 (.int .i64 c.den) rfl
    have hq := quo_in Hok.out (bcl_in base)
    have hd : ¬ c.den = 0 := by have := Hok.out.d0; omega
    have hd1 : 1 ≤ c.den := Hok.out.d0
    have hw1 : wrap64 (bcl base * c.num) = bcl base * c.num := w64 _ (by omega) (by omega)
    have hw2 : wrap64 ((bcl base * c.num).tdiv c.den) = bcl base * c.num / c.den := by rw [Int.tdiv_eq_ediv_of_nonneg hq.1]; exact w64 _ (by omega) (by omega)
    go_upto_region 4 with fail
    refine quiet_tail 9 mixed (by kernel_rfl) ?_
    simp only [List.take_succ_cons, List.take_zero, List.drop_succ_cons, List.drop_zero]
    repeat (go_big_quiet_step (fail))
    refine wpQuiet_nil ?_
    try simp only [hw1, hw2]
    generalize bcl base * c.num / c.den = Q at HL hq ⊢
    have HB2 : Hid (Below w.heap.size w w1.drew) := HB1.out.trans ((Kg.Touch.drew [] w1).below HB1.out.size (fun k hk => by cases hk))
    by_cases hlt : Q < c.floor
    · have e : Hid (L = c.floor) := by have h := HL.out; rw [if_pos hlt] at h; exact h
      go_wp2
      go_ret
      exact ⟨by rw [e.out]; rfl, HB2.out⟩
    · have e : Hid (L = Q) := by have h := HL.out; rw [if_neg hlt] at h; exact h
      go_wp2
      all_goals
        go_ret
        exact ⟨by rw [e.out]; first | rfl | (have h9 : c.floor = Q := (by omega); subst h9; rfl), HB2.out⟩

set_option maxHeartbeats 8000000 in
theorem plimit_no {c : Cfg} (hok : ¬ c.Ok) (base : Int) (w : World) : Calls Tryz.prog 10 #[cv c, .int .i64 base] w fun e w' => e = .returned (.int .i64 0) ∧ Below w.heap.size w w' := by
  obtain ⟨w0, hw0⟩ : ∃ x9, x9 = w.alloc (.cells (ccells c) 23) := ⟨_, rfl⟩
  have hb0 : Below w.heap.size w w0 := by rw [hw0]; exact Below.alloc (Below.refl _ _) (Nat.le_refl _) _
  have hC : Cfd w0 w.heap.size c := by rw [hw0]; exact Cfd.new w c
  have HB : Hid (Below w.heap.size w w0) := hb0
  have HC : Hid (Cfd w0 w.heap.size c) := hC
  have q := valid_any c false (by simp [hok]) w0
  have k0 := cfd_cells hC 0 (.int .i64 c.eden) rfl
  have k1 := cfd_cells hC 1 (.int .i64 c.surv) rfl
  have k2 := cfd_cells hC 2 (.int .i64 c.ten) rfl
  have k3 := cfd_cells hC 3 (.int .i64 c.large) rfl
  have k4 := cfd_cells hC 4 (.int .i64 c.floor) rfl
  have k5 := cfd_cells hC 5 (.int .i64 c.num) rfl
  have k6 := cfd_cells hC 6 (.int .i64 c.den) rfl
  have k7 := cfd_cells hC 7 (.int .i64 c.target) rfl
  have k8 := cfd_cells hC 8 (.int .i64 c.maxAge) rfl
  have k9 := cfd_cells hC 9 (.int .i64 c.threads) rfl
  have k10 := cfd_cells hC 10 (.int .i64 c.slots) rfl
  have k11 := cfd_cells hC 11 (.int .i64 c.handles) rfl
  have k12 := cfd_cells hC 12 (.int .i64 c.buffer) rfl
  have k13 := cfd_cells hC 13 (.int .i64 c.workers) rfl
  clear hb0 hC hok
  go_enter Tryz.func10, Tryz.ntmps10
  go_upto_region 1 with fail
  rw [← hw0]
  clear hw0
  go_wp2_with fail
  refine q.mono ?_
  rintro e9 w1 ⟨rfl, b1⟩
  have HB1 : Hid (Below w.heap.size w w1) := HB.out.trans (b1.mono HB.out.size)
  clear q k0 k1 k2 k3 k4 k5 k6 k7 k8 k9 k10 k11 k12 k13 b1 HB HC
  go_wp2
  go_returns
  exact ⟨rfl, HB1.out⟩

set_option maxHeartbeats 8000000 in
theorem rlimit_no {c : Cfg} (hok : ¬ c.Ok) (base : Int) (w : World) : Calls Tryz.prog 40 #[cv c, .int .i64 base] w fun e w' => e = .returned (.int .i64 0) ∧ Below w.heap.size w w' := by
  obtain ⟨w0, hw0⟩ : ∃ x9, x9 = w.alloc (.cells (ccells c) 23) := ⟨_, rfl⟩
  have hb0 : Below w.heap.size w w0 := by rw [hw0]; exact Below.alloc (Below.refl _ _) (Nat.le_refl _) _
  have hC : Cfd w0 w.heap.size c := by rw [hw0]; exact Cfd.new w c
  have HB : Hid (Below w.heap.size w w0) := hb0
  have HC : Hid (Cfd w0 w.heap.size c) := hC
  have q := rvalid_any c w0
  rw [decide_eq_false (fun h => hok ((Cfg.okd c).1 h))] at q
  have k0 := cfd_cells hC 0 (.int .i64 c.eden) rfl
  have k1 := cfd_cells hC 1 (.int .i64 c.surv) rfl
  have k2 := cfd_cells hC 2 (.int .i64 c.ten) rfl
  have k3 := cfd_cells hC 3 (.int .i64 c.large) rfl
  have k4 := cfd_cells hC 4 (.int .i64 c.floor) rfl
  have k5 := cfd_cells hC 5 (.int .i64 c.num) rfl
  have k6 := cfd_cells hC 6 (.int .i64 c.den) rfl
  have k7 := cfd_cells hC 7 (.int .i64 c.target) rfl
  have k8 := cfd_cells hC 8 (.int .i64 c.maxAge) rfl
  have k9 := cfd_cells hC 9 (.int .i64 c.threads) rfl
  have k10 := cfd_cells hC 10 (.int .i64 c.slots) rfl
  have k11 := cfd_cells hC 11 (.int .i64 c.handles) rfl
  have k12 := cfd_cells hC 12 (.int .i64 c.buffer) rfl
  have k13 := cfd_cells hC 13 (.int .i64 c.workers) rfl
  clear hb0 hC hok
  go_enter Tryz.func40, Tryz.ntmps40
  go_upto_region 1 with fail
  rw [← hw0]
  clear hw0
  go_wp2_with fail
  refine q.mono ?_
  rintro e9 w1 ⟨rfl, b1⟩
  have HB1 : Hid (Below w.heap.size w w1) := HB.out.trans (b1.mono HB.out.size)
  clear q k0 k1 k2 k3 k4 k5 k6 k7 k8 k9 k10 k11 k12 k13 b1 HB HC
  go_wp2
  go_returns
  exact ⟨rfl, HB1.out⟩

set_option maxHeartbeats 8000000 in
theorem rlimit_yes {c : Cfg} (hok : c.Ok) (base : Int) (w : World) : Calls Tryz.prog 40 #[cv c, .int .i64 base] w fun e w' => e = .returned (.int .i64 (clim c base)) ∧ Below w.heap.size w w' := by
  obtain ⟨w0, hw0⟩ : ∃ x9, x9 = w.alloc (.cells (ccells c) 23) := ⟨_, rfl⟩
  have hb0 : Below w.heap.size w w0 := by rw [hw0]; exact Below.alloc (Below.refl _ _) (Nat.le_refl _) _
  have hC : Cfd w0 w.heap.size c := by rw [hw0]; exact Cfd.new w c
  have HB : Hid (Below w.heap.size w w0) := hb0
  have HC : Hid (Cfd w0 w.heap.size c) := hC
  have Hok : Hid c.Ok := hok
  obtain ⟨L, hL⟩ : ∃ L, L = clim c base := ⟨_, rfl⟩
  rw [← hL]
  have HL : Hid (L = if bcl base * c.num / c.den < c.floor then c.floor else bcl base * c.num / c.den) := hL.trans (lim_bcl c base)
  clear hL
  have q := rvalid_any c w0
  rw [decide_eq_true ((Cfg.okd c).2 hok)] at q
  have k0 := cfd_cells hC 0 (.int .i64 c.eden) rfl
  have k1 := cfd_cells hC 1 (.int .i64 c.surv) rfl
  have k2 := cfd_cells hC 2 (.int .i64 c.ten) rfl
  have k3 := cfd_cells hC 3 (.int .i64 c.large) rfl
  have k4 := cfd_cells hC 4 (.int .i64 c.floor) rfl
  have k5 := cfd_cells hC 5 (.int .i64 c.num) rfl
  have k6 := cfd_cells hC 6 (.int .i64 c.den) rfl
  have k7 := cfd_cells hC 7 (.int .i64 c.target) rfl
  have k8 := cfd_cells hC 8 (.int .i64 c.maxAge) rfl
  have k9 := cfd_cells hC 9 (.int .i64 c.threads) rfl
  have k10 := cfd_cells hC 10 (.int .i64 c.slots) rfl
  have k11 := cfd_cells hC 11 (.int .i64 c.handles) rfl
  have k12 := cfd_cells hC 12 (.int .i64 c.buffer) rfl
  have k13 := cfd_cells hC 13 (.int .i64 c.workers) rfl
  clear hb0 hC hok
  go_enter Tryz.func40, Tryz.ntmps40
  go_upto_region 1 with fail
  rw [← hw0]
  clear hw0
  go_wp2_with fail
  refine q.mono ?_
  rintro e9 w1 ⟨rfl, b1⟩
  have HB1 : Hid (Below w.heap.size w w1) := HB.out.trans (b1.mono HB.out.size)
  have HC1 : Hid (Cfd w1 w.heap.size c) := HC.out.below b1
  clear q k0 k1 k2 k3 k4 k5 k6 k7 k8 k9 k10 k11 k12 k13 b1 HB HC
  go_upto_region 3 with fail
  have k4 := cfd_cells HC1.out 4 (.int .i64 c.floor) rfl
  have k5 := cfd_cells HC1.out 5 (.int .i64 c.num) rfl
  have k6 := cfd_cells HC1.out 6 (.int .i64 c.den) rfl
  have hd : ¬ c.den = 0 := by have := Hok.out.d0; omega
  have key : ∀ B : Int, 0 ≤ B → B ≤ 65536 → wrap64 (B * c.num) = B * c.num ∧ wrap64 ((B * c.num).tdiv c.den) = B * c.num / c.den := fun B h0 h1 => by
    have hq := quo_in Hok.out ⟨h0, h1⟩
    exact ⟨w64 _ (by omega) (by omega), by rw [Int.tdiv_eq_ediv_of_nonneg hq.1]; exact w64 _ (by omega) (by omega)⟩
  by_cases n1 : base < 0
  · have e : Hid (bcl base = 0) := (by unfold bcl; rw [if_pos n1] : bcl base = 0)
    have hf : Hid (L = c.floor) := by
      have h := HL.out; rw [e.out] at h
      have := Hok.out.f0
      simp at h
      rw [h]; show (if 0 < c.floor then c.floor else 0) = c.floor
      split <;> omega
    have f0 := Hok.out.f0
    clear key
    by_cases fz : 0 < c.floor
    · go_wp2
      go_returns
      exact ⟨by rw [hf.out]; rfl, HB1.out⟩
    · have hz : Hid (c.floor = 0) := (by omega : c.floor = 0)
      go_wp2
      go_ret
      exact ⟨by rw [hf.out, hz.out]; rfl, HB1.out⟩
  · by_cases n2 : 65536 < base
    · have e : Hid (bcl base = 65536) := (by unfold bcl; rw [if_neg n1, if_pos n2] : bcl base = 65536)
      obtain ⟨hw1, hw2⟩ := key 65536 (by omega) (by omega)
      clear key
      by_cases hlt : 65536 * c.num / c.den < c.floor
      · have hf : Hid (L = c.floor) := by have h := HL.out; rw [e.out, if_pos hlt] at h; exact h
        go_wp2
        go_returns
        exact ⟨by rw [hf.out]; rfl, HB1.out⟩
      · have hf : Hid (L = 65536 * c.num / c.den) := by have h := HL.out; rw [e.out, if_neg hlt] at h; exact h
        go_wp2
        go_ret
        exact ⟨by rw [hf.out]; rfl, HB1.out⟩
    · have e : Hid (bcl base = base) := (by unfold bcl; rw [if_neg n1, if_neg n2] : bcl base = base)
      obtain ⟨hw1, hw2⟩ := key base (by omega) (by omega)
      clear key
      by_cases hlt : base * c.num / c.den < c.floor
      · have hf : Hid (L = c.floor) := by have h := HL.out; rw [e.out, if_pos hlt] at h; exact h
        go_wp2
        go_returns
        exact ⟨by rw [hf.out]; rfl, HB1.out⟩
      · have hf : Hid (L = base * c.num / c.den) := by have h := HL.out; rw [e.out, if_neg hlt] at h; exact h
        go_wp2
        go_ret
        exact ⟨by rw [hf.out]; rfl, HB1.out⟩

theorem pBig_any (c : Cfg) (n : Int) (w : World) : Calls Tryz.prog 63 #[cv c, .int .i64 n] w fun e w' => e = .returned (.bool (decide (c.large ≤ n ∨ c.eden < n))) ∧ Below w.heap.size w w' := by
  obtain ⟨r, hr⟩ : ∃ r, r = decide (c.large ≤ n ∨ c.eden < n) := ⟨_, rfl⟩
  rw [← hr]
  have Hr : Hid (r = decide (c.large ≤ n ∨ c.eden < n)) := hr
  clear hr
  obtain ⟨w0, hw0⟩ : ∃ x9, x9 = w.alloc (.cells (ccells c) 23) := ⟨_, rfl⟩
  have hb0 : Below w.heap.size w w0 := by rw [hw0]; exact Below.alloc (Below.refl _ _) (Nat.le_refl _) _
  have hC : Cfd w0 w.heap.size c := by rw [hw0]; exact Cfd.new w c
  have HB : Hid (Below w.heap.size w w0) := hb0
  have k0 := cfd_cells hC 0 (.int .i64 c.eden) rfl
  have k3 := cfd_cells hC 3 (.int .i64 c.large) rfl
  clear hb0 hC
  go_enter Tryz.func63, Tryz.ntmps63
  go_upto_region 1 with fail
  rw [← hw0]
  clear hw0
  by_cases h1 : c.large ≤ n
  · have e : Hid (r = true) := Hr.out.trans (by simp [h1])
    go_wp2
    go_ret
    exact ⟨by rw [e.out]; rfl, HB.out⟩
  · by_cases h2 : c.eden < n
    · have e : Hid (r = true) := Hr.out.trans (by simp [h2])
      have h1' : decide (c.large ≤ n) = false := decide_eq_false h1
      go_wp2
      go_ret
      exact ⟨by rw [e.out]; rfl, HB.out⟩
    · have e : Hid (r = false) := Hr.out.trans (by simp [h1, h2])
      have h1' : decide (c.large ≤ n) = false := decide_eq_false h1
      have h2' : decide (c.eden < n) = false := decide_eq_false h2
      go_wp2
      go_ret
      exact ⟨by rw [e.out]; rfl, HB.out⟩

end Go.Proofs.YtcijdbhabbepaaaGreatDoor.Po
