/-
  Policy: Begin, both.
-/
import Derived.Test.YtcijdbhabbepaaaGreatDoorPL11
set_option linter.unusedVariables false
set_option maxRecDepth 20000
namespace Go.Proofs.YtcijdbhabbepaaaGreatDoor.Po
open Go.RowKit Go.Proofs.YtcijdbhabbepaaaGreatDoor.Kg

set_option maxHeartbeats 8000000 in
theorem pbegin_no {c : Cfg} {base kind words : Int} (hf : flt c base kind words ≠ 0) (w : World) : Calls Tryz.prog 7 #[cv c, .int .i64 base, .int .i64 kind, .int .i64 words] w fun e w' => e = .returned (.tuple #[.pointer none, .int .i64 (flt c base kind words)]) ∧ Below w.heap.size w w' := by
  obtain ⟨w0, hw0⟩ : ∃ x9, x9 = w.alloc (.cells (ccells c) 23) := ⟨_, rfl⟩
  have hb0 : Below w.heap.size w w0 := by rw [hw0]; exact Below.alloc (Below.refl _ _) (Nat.le_refl _) _
  have hC : Cfd w0 w.heap.size c := by rw [hw0]; exact Cfd.new w c
  have HB : Hid (Below w.heap.size w w0) := hb0
  have HC : Hid (Cfd w0 w.heap.size c) := hC
  have q := pfault_any c base kind words w0
  obtain ⟨F, hF⟩ : ∃ F, F = flt c base kind words := ⟨_, rfl⟩
  rw [← hF] at q hf ⊢
  clear hF
  have hf' : (F != 0) = true := by simpa using hf
  have k0 := cfd_cells hC 0 (.int .i64 c.eden) rfl
  have k1 := cfd_cells hC 1 (.int .i64 c.surv) rfl
  have k2 := cfd_cells hC 2 (.int .i64 c.ten) rfl
  have k3 := cfd_cells hC 3 (.int .i64 c.large) rfl
  have k4 := cfd_cells hC 4 (.int .i64 c.floor) rfl
  have k5 := cfd_cells hC 5 (.int .i64 c.num) rfl
  have k6 := cfd_cells hC 6 (.int .i64 c.den) rfl
  have k7 := cfd_cells hC 7 (.int .i64 c.target) rfl
  have k8 := cfd_cells hC 8 (.int .i64 c.maxAge) rfl
  have k9 := cfd_cells hC 9 (.int .i64 c.threads) rfl
  have k10 := cfd_cells hC 10 (.int .i64 c.slots) rfl
  have k11 := cfd_cells hC 11 (.int .i64 c.handles) rfl
  have k12 := cfd_cells hC 12 (.int .i64 c.buffer) rfl
  have k13 := cfd_cells hC 13 (.int .i64 c.workers) rfl
  clear hb0 hC
  go_enter Tryz.func7, Tryz.ntmps7
  go_upto_region 1 with fail
  rw [← hw0]
  clear hw0
  go_wp2_with fail
  refine q.mono ?_
  rintro e9 w1 ⟨rfl, b1⟩
  have HB1 : Hid (Below w.heap.size w w1) := HB.out.trans (b1.mono HB.out.size)
  clear q k0 k1 k2 k3 k4 k5 k6 k7 k8 k9 k10 k11 k12 k13 b1 HB
  go_wp2
  go_returns
  exact ⟨rfl, HB1.out⟩

set_option maxHeartbeats 8000000 in
theorem pbegin_yes {c : Cfg} {base kind words : Int} (hf : flt c base kind words = 0) (w : World) : Calls Tryz.prog 7 #[cv c, .int .i64 base, .int .i64 kind, .int .i64 words] w fun e w' => ∃ b g, e = .returned (.tuple #[.pointer (some ⟨b, 0, none⟩), .int .i64 0]) ∧ w.heap.size ≤ b ∧ w.heap.size ≤ g ∧ Pt w' w.heap.size b (.slice none 0 0) g (mk12 c base kind words) t00 ∧ Below w.heap.size w w' := by
  obtain ⟨hok, hkd, hb2, hw2⟩ := flt_ok hf
  obtain ⟨w0, hw0⟩ : ∃ x9, x9 = w.alloc (.cells (ccells c) 23) := ⟨_, rfl⟩
  have hb0 : Below w.heap.size w w0 := by rw [hw0]; exact Below.alloc (Below.refl _ _) (Nat.le_refl _) _
  have hC : Cfd w0 w.heap.size c := by rw [hw0]; exact Cfd.new w c
  have HB : Hid (Below w.heap.size w w0) := hb0
  have HC : Hid (Cfd w0 w.heap.size c) := hC
  have q := pfault_any c base kind words w0
  rw [hf] at q
  have Hok : Hid (c.Ok ∧ (1 ≤ kind ∧ kind ≤ 5)) := ⟨hok, hkd⟩
  obtain ⟨k, hk⟩ : ∃ k, k = mk12 c base kind words := ⟨_, rfl⟩
  have Hk : Hid (k = mk12 c base kind words) := hk
  rw [← hk]
  clear hk
  have k0 := cfd_cells hC 0 (.int .i64 c.eden) rfl
  have k1 := cfd_cells hC 1 (.int .i64 c.surv) rfl
  have k2 := cfd_cells hC 2 (.int .i64 c.ten) rfl
  have k3 := cfd_cells hC 3 (.int .i64 c.large) rfl
  have k4 := cfd_cells hC 4 (.int .i64 c.floor) rfl
  have k5 := cfd_cells hC 5 (.int .i64 c.num) rfl
  have k6 := cfd_cells hC 6 (.int .i64 c.den) rfl
  have k7 := cfd_cells hC 7 (.int .i64 c.target) rfl
  have k8 := cfd_cells hC 8 (.int .i64 c.maxAge) rfl
  have k9 := cfd_cells hC 9 (.int .i64 c.threads) rfl
  have k10 := cfd_cells hC 10 (.int .i64 c.slots) rfl
  have k11 := cfd_cells hC 11 (.int .i64 c.handles) rfl
  have k12 := cfd_cells hC 12 (.int .i64 c.buffer) rfl
  have k13 := cfd_cells hC 13 (.int .i64 c.workers) rfl
  clear hb0 hC hok hkd hb2 hw2 hf
  go_enter Tryz.func7, Tryz.ntmps7
  go_upto_region 1 with fail
  rw [← hw0]
  clear hw0
  go_wp2_with fail
  refine q.mono ?_
  rintro e9 w1 ⟨rfl, b1⟩
  have HB1 : Hid (Below w.heap.size w w1) := HB.out.trans (b1.mono HB.out.size)
  have HC1 : Hid (Cfd w1 w.heap.size c) := HC.out.below b1
  clear q k0 k1 k2 k3 k4 k5 k6 k7 k8 k9 k10 k11 k12 k13 b1 HB HC
  have k0 := cfd_cells HC1.out 0 (.int .i64 c.eden) rfl
  have k1 := cfd_cells HC1.out 1 (.int .i64 c.surv) rfl
  have k2 := cfd_cells HC1.out 2 (.int .i64 c.ten) rfl
  have k3 := cfd_cells HC1.out 3 (.int .i64 c.large) rfl
  have k4 := cfd_cells HC1.out 4 (.int .i64 c.floor) rfl
  have k5 := cfd_cells HC1.out 5 (.int .i64 c.num) rfl
  have k6 := cfd_cells HC1.out 6 (.int .i64 c.den) rfl
  have k7 := cfd_cells HC1.out 7 (.int .i64 c.target) rfl
  have k8 := cfd_cells HC1.out 8 (.int .i64 c.maxAge) rfl
  have k9 := cfd_cells HC1.out 9 (.int .i64 c.threads) rfl
  have k10 := cfd_cells HC1.out 10 (.int .i64 c.slots) rfl
  have k11 := cfd_cells HC1.out 11 (.int .i64 c.handles) rfl
  have k12 := cfd_cells HC1.out 12 (.int .i64 c.buffer) rfl
  have k13 := cfd_cells HC1.out 13 (.int .i64 c.workers) rfl
  have ql := plimit_yes Hok.out.1 base w1
  go_wp2_with fail
  refine ql.mono ?_
  rintro e9 w2 ⟨rfl, b1⟩
  have HB2 : Hid (Below w.heap.size w w2) := HB1.out.trans (b1.mono HB1.out.size)
  have HC2 : Hid (Cfd w2 w.heap.size c) := HC1.out.below b1
  clear ql k0 k1 k2 k3 k4 k5 k6 k7 k8 k9 k10 k11 k12 k13 b1 HB1 HC1
  go_upto_region 5 with fail
  have hB3 : Below w.heap.size w (w2.alloc (.cells #[.int .i64 base, .int .i64 (clim c base), .int .i64 words, .nilFunc, .slice none 0 0] 66)) := Below.alloc HB2.out HB2.out.size _
  have HT3 : Hid ((w2.alloc (.cells #[.int .i64 base, .int .i64 (clim c base), .int .i64 words, .nilFunc, .slice none 0 0] 66)).heap[w2.heap.size]? = some (.cells (ptc k .nilFunc (.slice none 0 0)) 66 (0, 0))) := by
    rw [Hk.out]; exact heap_alloc_new w2 _
  have HC3 : Hid (Cfd (w2.alloc (.cells #[.int .i64 base, .int .i64 (clim c base), .int .i64 words, .nilFunc, .slice none 0 0] 66)) w.heap.size c) := HC2.out.below (Below.alloc (Below.refl _ _) (Nat.le_refl _) _)
  have HB3 : Hid (Below w.heap.size w (w2.alloc (.cells #[.int .i64 base, .int .i64 (clim c base), .int .i64 words, .nilFunc, .slice none 0 0] 66))) := hB3
  have Hlt : Hid (w.heap.size ≤ w2.heap.size) := HB2.out.size
  clear hB3 HB2 HC2
  generalize (w2.alloc (.cells #[.int .i64 base, .int .i64 (clim c base), .int .i64 words, .nilFunc, .slice none 0 0] 66)) = w3 at HT3 HC3 HB3 ⊢
  generalize w2.heap.size = B at HT3 Hlt ⊢
  have k0 := cfd_cells HC3.out 0 (.int .i64 c.eden) rfl
  have k1 := cfd_cells HC3.out 1 (.int .i64 c.surv) rfl
  have k2 := cfd_cells HC3.out 2 (.int .i64 c.ten) rfl
  have k3 := cfd_cells HC3.out 3 (.int .i64 c.large) rfl
  have k4 := cfd_cells HC3.out 4 (.int .i64 c.floor) rfl
  have k5 := cfd_cells HC3.out 5 (.int .i64 c.num) rfl
  have k6 := cfd_cells HC3.out 6 (.int .i64 c.den) rfl
  have k7 := cfd_cells HC3.out 7 (.int .i64 c.target) rfl
  have k8 := cfd_cells HC3.out 8 (.int .i64 c.maxAge) rfl
  have k9 := cfd_cells HC3.out 9 (.int .i64 c.threads) rfl
  have k10 := cfd_cells HC3.out 10 (.int .i64 c.slots) rfl
  have k11 := cfd_cells HC3.out 11 (.int .i64 c.handles) rfl
  have k12 := cfd_cells HC3.out 12 (.int .i64 c.buffer) rfl
  have k13 := cfd_cells HC3.out 13 (.int .i64 c.workers) rfl
  have qf := first_any c base kind words w3
  rw [← Hk.out] at qf
  go_wp2_with fail
  refine qf.mono ?_
  rintro e9 w4 ⟨rfl, b1⟩
  have HB4 : Hid (Below w.heap.size w w4) := HB3.out.trans (b1.mono HB3.out.size)
  have HT4 : Hid (w4.heap[B]? = some (.cells (ptc k .nilFunc (.slice none 0 0)) 66 (0, 0))) := (b1.block _ (heap_lt HT3.out)).trans HT3.out
  clear qf k0 k1 k2 k3 k4 k5 k6 k7 k8 k9 k10 k11 k12 k13 b1 HB3 HC3 HT3
  have qe := enter_first (base0 := w.heap.size) HT4.out (by rw [Hk.out]; exact Hok.out.2) Hlt.out
  go_wp2_with fail
  refine qe.mono ?_
  rintro e9 w5 ⟨rfl, g, h1, h2, h3⟩
  have HA : Hid (Pt w5 w.heap.size B (.slice none 0 0) g k t00 ∧ w.heap.size ≤ g ∧ Below w.heap.size w w5) := ⟨h1, h2, HB4.out.trans (h3.below HB4.out.size (fun q hq => by simp at hq; subst hq; exact Hlt.out))⟩
  clear qe h1 h2 h3
  go_wp2
  go_ret2
  exact ⟨B, g, rfl, Hlt.out, HA.out.2.1, HA.out.1, HA.out.2.2⟩

set_option maxHeartbeats 8000000 in
theorem rbegin_no {c : Cfg} {base kind words : Int} (hf : flt c base kind words ≠ 0) (w : World) : Calls Tryz.prog 11 #[cv c, .int .i64 base, .int .i64 kind, .int .i64 words] w fun e w' => e = .returned (.tuple #[.pointer none, .int .i64 (flt c base kind words)]) ∧ Below w.heap.size w w' := by
  obtain ⟨w0, hw0⟩ : ∃ x9, x9 = w.alloc (.cells (ccells c) 23) := ⟨_, rfl⟩
  have hb0 : Below w.heap.size w w0 := by rw [hw0]; exact Below.alloc (Below.refl _ _) (Nat.le_refl _) _
  have hC : Cfd w0 w.heap.size c := by rw [hw0]; exact Cfd.new w c
  have HB : Hid (Below w.heap.size w w0) := hb0
  have HC : Hid (Cfd w0 w.heap.size c) := hC
  have q := rvalid_any c w0
  obtain ⟨F, hF⟩ : ∃ F, F = flt c base kind words := ⟨_, rfl⟩
  rw [← hF] at hf ⊢
  have HF : Hid (F = flt c base kind words) := hF
  clear hF
  have k0 := cfd_cells hC 0 (.int .i64 c.eden) rfl
  have k1 := cfd_cells hC 1 (.int .i64 c.surv) rfl
  have k2 := cfd_cells hC 2 (.int .i64 c.ten) rfl
  have k3 := cfd_cells hC 3 (.int .i64 c.large) rfl
  have k4 := cfd_cells hC 4 (.int .i64 c.floor) rfl
  have k5 := cfd_cells hC 5 (.int .i64 c.num) rfl
  have k6 := cfd_cells hC 6 (.int .i64 c.den) rfl
  have k7 := cfd_cells hC 7 (.int .i64 c.target) rfl
  have k8 := cfd_cells hC 8 (.int .i64 c.maxAge) rfl
  have k9 := cfd_cells hC 9 (.int .i64 c.threads) rfl
  have k10 := cfd_cells hC 10 (.int .i64 c.slots) rfl
  have k11 := cfd_cells hC 11 (.int .i64 c.handles) rfl
  have k12 := cfd_cells hC 12 (.int .i64 c.buffer) rfl
  have k13 := cfd_cells hC 13 (.int .i64 c.workers) rfl
  clear hb0 hC
  by_cases h1 : c.Okd
  · rw [decide_eq_true h1] at q
    have Hk : Hid (c.Okd) := h1
    clear h1
    go_enter Tryz.func11, Tryz.ntmps11
    go_upto_region 1 with fail
    rw [← hw0]
    clear hw0
    go_wp2_with fail
    refine q.mono ?_
    rintro e9 w1 ⟨rfl, b1⟩
    have HB1 : Hid (Below w.heap.size w w1) := HB.out.trans (b1.mono HB.out.size)
    clear q k0 k1 k2 k3 k4 k5 k6 k7 k8 k9 k10 k11 k12 k13 b1 HB HC
    by_cases a1 : kind < 1
    · have e : Hid (F = 120) := by have h := HF.out; unfold flt at h; rw [if_neg (fun q => q Hk.out), if_pos (.inl a1)] at h; exact h
      go_wp2
      go_returns
      exact ⟨by rw [e.out]; rfl, HB1.out⟩
    · have a1' : decide (kind < 1) = false := decide_eq_false a1
      by_cases a2 : 5 < kind
      · have e : Hid (F = 120) := by have h := HF.out; unfold flt at h; rw [if_neg (fun q => q Hk.out), if_pos (.inr a2)] at h; exact h
        go_wp2
        go_returns
        exact ⟨by rw [e.out]; rfl, HB1.out⟩
      · have a2' : decide (5 < kind) = false := decide_eq_false a2
        have hn : base < 0 ∨ (kind = 1 ∧ words < 2) := Decidable.byContradiction fun hn => by
          have h := HF.out; unfold flt at h; rw [if_neg (fun q => q Hk.out), if_neg (show ¬ (kind < 1 ∨ 5 < kind) by omega), if_neg hn] at h; exact hf h
        have e : Hid (F = 121) := by have h := HF.out; unfold flt at h; rw [if_neg (fun q => q Hk.out), if_neg (show ¬ (kind < 1 ∨ 5 < kind) by omega), if_pos hn] at h; exact h
        by_cases a3 : base < 0
        · go_wp2
          go_returns
          exact ⟨by rw [e.out]; rfl, HB1.out⟩
        · have a3' : decide (base < 0) = false := decide_eq_false a3
          have a4' : (kind == 1) = true := by simpa using (show kind = 1 by omega)
          have a5 : words < 2 := by omega
          clear hn
          go_wp2
          go_returns
          exact ⟨by rw [e.out]; rfl, HB1.out⟩
  · rw [decide_eq_false h1] at q
    have e : Hid (F = 30) := by have h := HF.out; unfold flt at h; rw [if_pos h1] at h; exact h
    clear h1
    go_enter Tryz.func11, Tryz.ntmps11
    go_upto_region 1 with fail
    rw [← hw0]
    clear hw0
    go_wp2_with fail
    refine q.mono ?_
    rintro e9 w1 ⟨rfl, b1⟩
    have HB1 : Hid (Below w.heap.size w w1) := HB.out.trans (b1.mono HB.out.size)
    clear q k0 k1 k2 k3 k4 k5 k6 k7 k8 k9 k10 k11 k12 k13 b1 HB HC
    go_wp2
    go_returns
    exact ⟨by rw [e.out]; rfl, HB1.out⟩

set_option maxHeartbeats 8000000 in
theorem rbegin_yes {c : Cfg} {base kind words : Int} (hf : flt c base kind words = 0) (w : World) : Calls Tryz.prog 11 #[cv c, .int .i64 base, .int .i64 kind, .int .i64 words] w fun e w' => ∃ b, e = .returned (.tuple #[.pointer (some ⟨b, 0, none⟩), .int .i64 0]) ∧ w.heap.size ≤ b ∧ Rf w' w.heap.size b (.slice none 0 0) c (mk12 c base kind words) t00 ∧ Below w.heap.size w w' := by
  obtain ⟨hok, hkd, hb2, hw2⟩ := flt_ok hf
  obtain ⟨w0, hw0⟩ : ∃ x9, x9 = w.alloc (.cells (ccells c) 23) := ⟨_, rfl⟩
  have hb0 : Below w.heap.size w w0 := by rw [hw0]; exact Below.alloc (Below.refl _ _) (Nat.le_refl _) _
  have hC : Cfd w0 w.heap.size c := by rw [hw0]; exact Cfd.new w c
  have HB : Hid (Below w.heap.size w w0) := hb0
  have HC : Hid (Cfd w0 w.heap.size c) := hC
  have q := rvalid_any c w0
  rw [decide_eq_true ((Cfg.okd c).2 hok)] at q
  have Hok : Hid c.Ok := hok
  obtain ⟨k, hk⟩ : ∃ k, k = mk12 c base kind words := ⟨_, rfl⟩
  have Hk : Hid (k = mk12 c base kind words) := hk
  rw [← hk]
  clear hk
  have k0 := cfd_cells hC 0 (.int .i64 c.eden) rfl
  have k1 := cfd_cells hC 1 (.int .i64 c.surv) rfl
  have k2 := cfd_cells hC 2 (.int .i64 c.ten) rfl
  have k3 := cfd_cells hC 3 (.int .i64 c.large) rfl
  have k4 := cfd_cells hC 4 (.int .i64 c.floor) rfl
  have k5 := cfd_cells hC 5 (.int .i64 c.num) rfl
  have k6 := cfd_cells hC 6 (.int .i64 c.den) rfl
  have k7 := cfd_cells hC 7 (.int .i64 c.target) rfl
  have k8 := cfd_cells hC 8 (.int .i64 c.maxAge) rfl
  have k9 := cfd_cells hC 9 (.int .i64 c.threads) rfl
  have k10 := cfd_cells hC 10 (.int .i64 c.slots) rfl
  have k11 := cfd_cells hC 11 (.int .i64 c.handles) rfl
  have k12 := cfd_cells hC 12 (.int .i64 c.buffer) rfl
  have k13 := cfd_cells hC 13 (.int .i64 c.workers) rfl
  have a1 : decide (kind < 1) = false := decide_eq_false (by omega)
  have a2 : decide (5 < kind) = false := decide_eq_false (by omega)
  have a3 : decide (base < 0) = false := decide_eq_false (by omega)
  have a4 : ((kind == 1) = false) ∨ ((kind == 1) = true ∧ decide (words < 2) = false) := by
    by_cases e : kind = 1
    · exact .inr ⟨by simpa using e, decide_eq_false (by omega)⟩
    · exact .inl (by simpa using e)
  clear hb0 hC hok hkd hb2 hw2 hf
  go_enter Tryz.func11, Tryz.ntmps11
  go_upto_region 1 with fail
  rw [← hw0]
  clear hw0
  go_wp2_with fail
  refine q.mono ?_
  rintro e9 w1 ⟨rfl, b1⟩
  have HB1 : Hid (Below w.heap.size w w1) := HB.out.trans (b1.mono HB.out.size)
  have HC1 : Hid (Cfd w1 w.heap.size c) := HC.out.below b1
  clear q k0 k1 k2 k3 k4 k5 k6 k7 k8 k9 k10 k11 k12 k13 b1 HB HC
  have hblt : w.heap.size < w1.heap.size := HC1.out.lt
  have x0 : ∀ p : Kg.Bel w1, p.v.cell? ⟨w.heap.size, 0, none⟩ = some (.int .i64 c.eden) := fun p => (p.h.cell (p := ⟨w.heap.size, 0, none⟩) hblt).trans (cfd_cells HC1.out 0 _ rfl)
  have x1 : ∀ p : Kg.Bel w1, p.v.cell? ⟨w.heap.size, 1, none⟩ = some (.int .i64 c.surv) := fun p => (p.h.cell (p := ⟨w.heap.size, 1, none⟩) hblt).trans (cfd_cells HC1.out 1 _ rfl)
  have x2 : ∀ p : Kg.Bel w1, p.v.cell? ⟨w.heap.size, 2, none⟩ = some (.int .i64 c.ten) := fun p => (p.h.cell (p := ⟨w.heap.size, 2, none⟩) hblt).trans (cfd_cells HC1.out 2 _ rfl)
  have x3 : ∀ p : Kg.Bel w1, p.v.cell? ⟨w.heap.size, 3, none⟩ = some (.int .i64 c.large) := fun p => (p.h.cell (p := ⟨w.heap.size, 3, none⟩) hblt).trans (cfd_cells HC1.out 3 _ rfl)
  have x4 : ∀ p : Kg.Bel w1, p.v.cell? ⟨w.heap.size, 4, none⟩ = some (.int .i64 c.floor) := fun p => (p.h.cell (p := ⟨w.heap.size, 4, none⟩) hblt).trans (cfd_cells HC1.out 4 _ rfl)
  have x5 : ∀ p : Kg.Bel w1, p.v.cell? ⟨w.heap.size, 5, none⟩ = some (.int .i64 c.num) := fun p => (p.h.cell (p := ⟨w.heap.size, 5, none⟩) hblt).trans (cfd_cells HC1.out 5 _ rfl)
  have x6 : ∀ p : Kg.Bel w1, p.v.cell? ⟨w.heap.size, 6, none⟩ = some (.int .i64 c.den) := fun p => (p.h.cell (p := ⟨w.heap.size, 6, none⟩) hblt).trans (cfd_cells HC1.out 6 _ rfl)
  have x7 : ∀ p : Kg.Bel w1, p.v.cell? ⟨w.heap.size, 7, none⟩ = some (.int .i64 c.target) := fun p => (p.h.cell (p := ⟨w.heap.size, 7, none⟩) hblt).trans (cfd_cells HC1.out 7 _ rfl)
  have x8 : ∀ p : Kg.Bel w1, p.v.cell? ⟨w.heap.size, 8, none⟩ = some (.int .i64 c.maxAge) := fun p => (p.h.cell (p := ⟨w.heap.size, 8, none⟩) hblt).trans (cfd_cells HC1.out 8 _ rfl)
  have x9 : ∀ p : Kg.Bel w1, p.v.cell? ⟨w.heap.size, 9, none⟩ = some (.int .i64 c.threads) := fun p => (p.h.cell (p := ⟨w.heap.size, 9, none⟩) hblt).trans (cfd_cells HC1.out 9 _ rfl)
  have x10 : ∀ p : Kg.Bel w1, p.v.cell? ⟨w.heap.size, 10, none⟩ = some (.int .i64 c.slots) := fun p => (p.h.cell (p := ⟨w.heap.size, 10, none⟩) hblt).trans (cfd_cells HC1.out 10 _ rfl)
  have x11 : ∀ p : Kg.Bel w1, p.v.cell? ⟨w.heap.size, 11, none⟩ = some (.int .i64 c.handles) := fun p => (p.h.cell (p := ⟨w.heap.size, 11, none⟩) hblt).trans (cfd_cells HC1.out 11 _ rfl)
  have x12 : ∀ p : Kg.Bel w1, p.v.cell? ⟨w.heap.size, 12, none⟩ = some (.int .i64 c.buffer) := fun p => (p.h.cell (p := ⟨w.heap.size, 12, none⟩) hblt).trans (cfd_cells HC1.out 12 _ rfl)
  have x13 : ∀ p : Kg.Bel w1, p.v.cell? ⟨w.heap.size, 13, none⟩ = some (.int .i64 c.workers) := fun p => (p.h.cell (p := ⟨w.heap.size, 13, none⟩) hblt).trans (cfd_cells HC1.out 13 _ rfl)
  haveI hinh : Inhabited (Kg.Bel w1) := ⟨⟨w1, Below.refl _ _⟩⟩
  have HL : Hid (∀ p : Kg.Bel w1, Calls Tryz.prog 40 #[cv c, .int .i64 base] p.v fun e w' => e = .returned (.int .i64 (clim c base)) ∧ Below p.v.heap.size p.v w') := fun p => rlimit_yes Hok.out base p.v
  clear hblt
  rcases a4 with a4 | ⟨a4, a5⟩
  all_goals
    go_upto_region 7 with fail
    refine below_call 8 mixed (by kernel_rfl) ?_
    simp only [List.take_succ_cons, List.take_zero, List.drop_succ_cons, List.drop_zero]
    iterate 6 (go_big_quiet_step (fail))
    go_big_quiet_step (first | (go_at_call 40; exact calls_bel (HL.out _)))
    go_big_quiet_step (fail)
    refine wpQuiet_nil ?_
    rintro w8 ⟨⟨w8, b8⟩, rfl⟩
    clear x0 x1 x2 x3 x4 x5 x6 x7 x8 x9 x10 x11 x12 x13 HL hinh
    have HB8 : Hid (Below w.heap.size w w8) := HB1.out.trans (b8.mono HB1.out.size)
    have HR : Hid (Rf (w8.alloc (.cells (rfc c k t00 (.slice none 0 0)) 75)) w.heap.size w8.heap.size (.slice none 0 0) c k t00 ∧ Below w.heap.size w (w8.alloc (.cells (rfc c k t00 (.slice none 0 0)) 75))) := ⟨⟨heap_alloc_new w8 _, World.ownsRow_nil _ _ _ _, HB8.out.size, by simp⟩, Below.alloc HB8.out HB8.out.size _⟩
    rw [Hk.out] at HR
    go_wp2_with fail
    refine thenQuiet_mk ?_
    repeat (go_big_quiet_step (fail))
    refine wpQuiet_nil ?_
    go_wp2
    go_ret2
    exact ⟨w8.heap.size, rfl, HB8.out.size, by rw [Hk.out]; exact HR.out.1, HR.out.2⟩

end Go.Proofs.YtcijdbhabbepaaaGreatDoor.Po
