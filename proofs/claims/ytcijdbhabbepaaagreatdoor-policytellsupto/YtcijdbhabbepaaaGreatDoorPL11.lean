/-
  Policy: Begin, both.
-/
import Derived.Test.YtcijdbhabbepaaaGreatDoorPL10
set_option linter.unusedVariables false
set_option maxRecDepth 20000
namespace Go.Proofs.YtcijdbhabbepaaaGreatDoor.Po
open Go.RowKit Go.Proofs.YtcijdbhabbepaaaGreatDoor.Kg

/-- P12.2: which fault. -/
def flt (c : Cfg) (base kind words : Int) : Int := if ¬ c.Okd then 30 else if kind < 1 ∨ 5 < kind then 120 else if base < 0 ∨ (kind = 1 ∧ words < 2) then 121 else 0

/-- What a turn is made for. -/
def mk12 (c : Cfg) (base kind words : Int) : Task := ⟨decide (c.large ≤ words ∨ c.eden < words), kind, words, base, clim c base⟩

theorem flt_ok {c : Cfg} {base kind words : Int} (h : flt c base kind words = 0) : c.Ok ∧ (1 ≤ kind ∧ kind ≤ 5) ∧ 0 ≤ base ∧ (kind = 1 → 2 ≤ words) := by
  unfold flt at h
  by_cases h1 : ¬ c.Okd
  · rw [if_pos h1] at h; omega
  · rw [if_neg h1] at h
    by_cases h2 : kind < 1 ∨ 5 < kind
    · rw [if_pos h2] at h; omega
    · rw [if_neg h2] at h
      by_cases h3 : base < 0 ∨ (kind = 1 ∧ words < 2)
      · rw [if_pos h3] at h; omega
      · exact ⟨(Cfg.okd c).1 (Decidable.not_not.1 h1), by omega, by omega, by omega⟩

set_option maxHeartbeats 8000000 in
theorem pfault_any (c : Cfg) (base kind words : Int) (w : World) : Calls Tryz.prog 32 #[cv c, .int .i64 base, .int .i64 kind, .int .i64 words] w fun e w' => e = .returned (.int .i64 (flt c base kind words)) ∧ Below w.heap.size w w' := by
  obtain ⟨w0, hw0⟩ : ∃ x9, x9 = w.alloc (.cells (ccells c) 23) := ⟨_, rfl⟩
  have hb0 : Below w.heap.size w w0 := by rw [hw0]; exact Below.alloc (Below.refl _ _) (Nat.le_refl _) _
  have hC : Cfd w0 w.heap.size c := by rw [hw0]; exact Cfd.new w c
  have HB : Hid (Below w.heap.size w w0) := hb0
  obtain ⟨F, hF⟩ : ∃ F, F = flt c base kind words := ⟨_, rfl⟩
  rw [← hF]
  have HF : Hid (F = flt c base kind words) := hF
  clear hF
  have k0 := cfd_cells hC 0 (.int .i64 c.eden) rfl
  have k1 := cfd_cells hC 1 (.int .i64 c.surv) rfl
  have k2 := cfd_cells hC 2 (.int .i64 c.ten) rfl
  have k3 := cfd_cells hC 3 (.int .i64 c.large) rfl
  have k4 := cfd_cells hC 4 (.int .i64 c.floor) rfl
  have k5 := cfd_cells hC 5 (.int .i64 c.num) rfl
  have k6 := cfd_cells hC 6 (.int .i64 c.den) rfl
  have k7 := cfd_cells hC 7 (.int .i64 c.target) rfl
  have k8 := cfd_cells hC 8 (.int .i64 c.maxAge) rfl
  have k9 := cfd_cells hC 9 (.int .i64 c.threads) rfl
  have k10 := cfd_cells hC 10 (.int .i64 c.slots) rfl
  have k11 := cfd_cells hC 11 (.int .i64 c.handles) rfl
  have k12 := cfd_cells hC 12 (.int .i64 c.buffer) rfl
  have k13 := cfd_cells hC 13 (.int .i64 c.workers) rfl
  clear hb0 hC
  by_cases h1 : c.Okd
  · have q := valid_any c true (by simp [(Cfg.okd c).1 h1]) w0
    have Hk : Hid (c.Okd) := h1
    clear h1
    go_enter Tryz.func32, Tryz.ntmps32
    go_upto_region 1 with fail
    rw [← hw0]
    clear hw0
    go_wp2_with fail
    refine q.mono ?_
    rintro e9 w1 ⟨rfl, b1⟩
    have HB1 : Hid (Below w.heap.size w w1) := HB.out.trans (b1.mono HB.out.size)
    clear q k0 k1 k2 k3 k4 k5 k6 k7 k8 k9 k10 k11 k12 k13 b1 HB
    by_cases a1 : kind < 1
    · have e : Hid (F = 120) := by have h := HF.out; unfold flt at h; rw [if_neg (fun q => q Hk.out), if_pos (.inl a1)] at h; exact h
      go_wp2
      go_returns
      exact ⟨by rw [e.out]; rfl, HB1.out⟩
    · have a1' : decide (kind < 1) = false := decide_eq_false a1
      by_cases a2 : 5 < kind
      · have e : Hid (F = 120) := by have h := HF.out; unfold flt at h; rw [if_neg (fun q => q Hk.out), if_pos (.inr a2)] at h; exact h
        go_wp2
        go_returns
        exact ⟨by rw [e.out]; rfl, HB1.out⟩
      · have a2' : decide (5 < kind) = false := decide_eq_false a2
        by_cases a3 : base < 0
        · have e : Hid (F = 121) := by have h := HF.out; unfold flt at h; rw [if_neg (fun q => q Hk.out), if_neg (show ¬ (kind < 1 ∨ 5 < kind) by omega), if_pos (.inl a3)] at h; exact h
          go_wp2
          go_returns
          exact ⟨by rw [e.out]; rfl, HB1.out⟩
        · have a3' : decide (base < 0) = false := decide_eq_false a3
          by_cases a4 : kind = 1
          · by_cases a5 : words < 2
            · have e : Hid (F = 121) := by have h := HF.out; unfold flt at h; rw [if_neg (fun q => q Hk.out), if_neg (show ¬ (kind < 1 ∨ 5 < kind) by omega), if_pos (.inr ⟨a4, a5⟩)] at h; exact h
              have a4' : (kind == 1) = true := by simpa using a4
              go_wp2
              go_returns
              exact ⟨by rw [e.out]; rfl, HB1.out⟩
            · have e : Hid (F = 0) := by have h := HF.out; unfold flt at h; rw [if_neg (fun q => q Hk.out), if_neg (show ¬ (kind < 1 ∨ 5 < kind) by omega), if_neg (show ¬ (base < 0 ∨ (kind = 1 ∧ words < 2)) by omega)] at h; exact h
              have a4' : (kind == 1) = true := by simpa using a4
              have a5' : decide (words < 2) = false := decide_eq_false a5
              go_wp2
              go_ret
              exact ⟨by rw [e.out]; rfl, HB1.out⟩
          · have e : Hid (F = 0) := by have h := HF.out; unfold flt at h; rw [if_neg (fun q => q Hk.out), if_neg (show ¬ (kind < 1 ∨ 5 < kind) by omega), if_neg (show ¬ (base < 0 ∨ (kind = 1 ∧ words < 2)) by omega)] at h; exact h
            have a4' : (kind == 1) = false := by simpa using a4
            go_wp2
            go_ret
            exact ⟨by rw [e.out]; rfl, HB1.out⟩
  · have q := valid_any c false (by simp; exact fun h => h1 ((Cfg.okd c).2 h)) w0
    have e : Hid (F = 30) := by have h := HF.out; unfold flt at h; rw [if_pos h1] at h; exact h
    clear h1
    go_enter Tryz.func32, Tryz.ntmps32
    go_upto_region 1 with fail
    rw [← hw0]
    clear hw0
    go_wp2_with fail
    refine q.mono ?_
    rintro e9 w1 ⟨rfl, b1⟩
    have HB1 : Hid (Below w.heap.size w w1) := HB.out.trans (b1.mono HB.out.size)
    clear q k0 k1 k2 k3 k4 k5 k6 k7 k8 k9 k10 k11 k12 k13 b1 HB
    go_wp2
    go_returns
    exact ⟨by rw [e.out]; rfl, HB1.out⟩

/-- Where a turn begins. -/
def phs (k : Task) : Int := if k.kind = 1 then (if k.big = true then 2 else 1) else if k.kind = 2 then 3 else if k.kind = 3 then 4 else if k.kind = 4 then 5 else 6

set_option maxHeartbeats 8000000 in
theorem first_any (c : Cfg) (base kind words : Int) (w : World) : Calls Tryz.prog 34 #[cv c, .int .i64 kind, .int .i64 words] w fun e w' => e = .returned (.int .i64 (phs (mk12 c base kind words))) ∧ Below w.heap.size w w' := by
  obtain ⟨w0, hw0⟩ : ∃ x9, x9 = w.alloc (.cells (ccells c) 23) := ⟨_, rfl⟩
  have hb0 : Below w.heap.size w w0 := by rw [hw0]; exact Below.alloc (Below.refl _ _) (Nat.le_refl _) _
  have hC : Cfd w0 w.heap.size c := by rw [hw0]; exact Cfd.new w c
  have HB : Hid (Below w.heap.size w w0) := hb0
  obtain ⟨F, hF⟩ : ∃ F, F = phs (mk12 c base kind words) := ⟨_, rfl⟩
  rw [← hF]
  have HF : Hid (F = if kind = 1 then (if decide (c.large ≤ words ∨ c.eden < words) = true then 2 else 1) else if kind = 2 then 3 else if kind = 3 then 4 else if kind = 4 then 5 else 6) := hF
  clear hF
  have k0 := cfd_cells hC 0 (.int .i64 c.eden) rfl
  have k1 := cfd_cells hC 1 (.int .i64 c.surv) rfl
  have k2 := cfd_cells hC 2 (.int .i64 c.ten) rfl
  have k3 := cfd_cells hC 3 (.int .i64 c.large) rfl
  have k4 := cfd_cells hC 4 (.int .i64 c.floor) rfl
  have k5 := cfd_cells hC 5 (.int .i64 c.num) rfl
  have k6 := cfd_cells hC 6 (.int .i64 c.den) rfl
  have k7 := cfd_cells hC 7 (.int .i64 c.target) rfl
  have k8 := cfd_cells hC 8 (.int .i64 c.maxAge) rfl
  have k9 := cfd_cells hC 9 (.int .i64 c.threads) rfl
  have k10 := cfd_cells hC 10 (.int .i64 c.slots) rfl
  have k11 := cfd_cells hC 11 (.int .i64 c.handles) rfl
  have k12 := cfd_cells hC 12 (.int .i64 c.buffer) rfl
  have k13 := cfd_cells hC 13 (.int .i64 c.workers) rfl
  have q := pBig_any c words w0
  clear hb0 hC
  by_cases n1 : kind = 1
  · subst n1
    by_cases hbg : c.large ≤ words ∨ c.eden < words
    · have e : Hid (F = 2) := by have h := HF.out; rw [if_pos rfl, if_pos (decide_eq_true hbg)] at h; exact h
      rw [decide_eq_true hbg] at q
      clear hbg
      go_enter Tryz.func34, Tryz.ntmps34
      go_upto_region 1 with fail
      rw [← hw0]
      clear hw0
      go_wp2_with fail
      refine q.mono ?_
      rintro e9 w1 ⟨rfl, b1⟩
      have HB1 : Hid (Below w.heap.size w w1) := HB.out.trans (b1.mono HB.out.size)
      clear q k0 k1 k2 k3 k4 k5 k6 k7 k8 k9 k10 k11 k12 k13 b1 HB
      go_wp2
      go_returns
      exact ⟨by rw [e.out]; rfl, HB1.out⟩
    · have e : Hid (F = 1) := by have h := HF.out; rw [if_pos rfl, if_neg (by simpa using hbg)] at h; exact h
      rw [decide_eq_false hbg] at q
      clear hbg
      go_enter Tryz.func34, Tryz.ntmps34
      go_upto_region 1 with fail
      rw [← hw0]
      clear hw0
      go_wp2_with fail
      refine q.mono ?_
      rintro e9 w1 ⟨rfl, b1⟩
      have HB1 : Hid (Below w.heap.size w w1) := HB.out.trans (b1.mono HB.out.size)
      clear q k0 k1 k2 k3 k4 k5 k6 k7 k8 k9 k10 k11 k12 k13 b1 HB
      go_wp2
      go_returns
      exact ⟨by rw [e.out]; rfl, HB1.out⟩
  · have m1 : (kind == 1) = false := by simpa using n1
    clear q
    by_cases n2 : kind = 2
    · have e : Hid (F = 3) := by have h := HF.out; rw [if_neg n1, if_pos n2] at h; exact h
      subst n2
      go_enter Tryz.func34, Tryz.ntmps34
      go_upto_region 1 with fail
      rw [← hw0]
      clear hw0
      go_wp2
      go_returns
      exact ⟨by rw [e.out]; rfl, HB.out⟩
    · have m2 : (kind == 2) = false := by simpa using n2
      by_cases n3 : kind = 3
      · have e : Hid (F = 4) := by have h := HF.out; rw [if_neg n1, if_neg n2, if_pos n3] at h; exact h
        subst n3
        go_enter Tryz.func34, Tryz.ntmps34
        go_upto_region 1 with fail
        rw [← hw0]
        clear hw0
        go_wp2
        go_returns
        exact ⟨by rw [e.out]; rfl, HB.out⟩
      · have m3 : (kind == 3) = false := by simpa using n3
        by_cases n4 : kind = 4
        · have e : Hid (F = 5) := by have h := HF.out; rw [if_neg n1, if_neg n2, if_neg n3, if_pos n4] at h; exact h
          subst n4
          go_enter Tryz.func34, Tryz.ntmps34
          go_upto_region 1 with fail
          rw [← hw0]
          clear hw0
          go_wp2
          go_returns
          exact ⟨by rw [e.out]; rfl, HB.out⟩
        · have e : Hid (F = 6) := by have h := HF.out; rw [if_neg n1, if_neg n2, if_neg n3, if_neg n4] at h; exact h
          have m4 : (kind == 4) = false := by simpa using n4
          go_enter Tryz.func34, Tryz.ntmps34
          go_upto_region 1 with fail
          rw [← hw0]
          clear hw0
          go_wp2
          go_ret
          exact ⟨by rw [e.out]; rfl, HB.out⟩

abbrev t00 : Tst := ⟨false, false, []⟩

/-- The first action is put in place. -/
theorem enter_first {w : World} {b base0 : Nat} {k : Task} (h : w.heap[b]? = some (.cells (ptc k .nilFunc (.slice none 0 0)) 66 (0, 0))) (hk : 1 ≤ k.kind ∧ k.kind ≤ 5) (hlo : base0 ≤ b) :
    Calls Tryz.prog 33 #[.pointer (some ⟨b, 0, none⟩), .int .i64 (phs k)] w fun e w' => e = .returned (.tuple #[]) ∧ ∃ g, Pt w' base0 b (.slice none 0 0) g k t00 ∧ base0 ≤ g ∧ Kg.Touch [b] w w' := by
  have hb := heap_lt h
  have fin : ∀ (f : Value) (w' : World), f = act k t00 b → ¬ (k.kind = 2 ∨ k.kind = 3) → w' = w.setCell ⟨b, 3, none⟩ f → ∃ g, Pt w' base0 b (.slice none 0 0) g k t00 ∧ base0 ≤ g ∧ Kg.Touch [b] w w' := fun f w' hf hn hw => by
    subst hf
    subst hw
    exact ⟨b, ⟨heap_set h 3 _, World.ownsRow_nil _ _ _ _, fun q => absurd q hn, by simp [Value.ownBlock], by simpa using hb, hlo, by simp⟩, hlo, Kg.Touch.setCell _ _ _ (by simp)⟩
  by_cases k1 : k.kind = 1
  · by_cases kb : k.big = true
    · have e : phs k = 2 := by unfold phs; rw [if_pos k1, if_pos kb]
      rw [e]
      exact (enter_any h rfl h (.inr rfl) (action_big w)).mono fun e w' ⟨h1, h2⟩ => ⟨h1, fin _ _ (by unfold act; simp [k1, kb]) (by omega) h2⟩
    · have e : phs k = 1 := by unfold phs; rw [if_pos k1, if_neg kb]
      rw [e]
      exact (enter_any h rfl h (.inr rfl) (action_small w)).mono fun e w' ⟨h1, h2⟩ => ⟨h1, fin _ _ (by unfold act; simp [k1, kb]) (by omega) h2⟩
  · by_cases k4 : k.kind = 4
    · have e : phs k = 5 := by unfold phs; rw [if_neg k1, if_neg (show ¬ k.kind = 2 by omega), if_neg (show ¬ k.kind = 3 by omega), if_pos k4]
      rw [e]
      exact (enter_any h rfl h (.inr rfl) (action_major w)).mono fun e w' ⟨h1, h2⟩ => ⟨h1, fin _ _ (by unfold act; simp [k4]) (by omega) h2⟩
    · by_cases k5 : k.kind = 5
      · have e : phs k = 6 := by unfold phs; rw [if_neg k1, if_neg (show ¬ k.kind = 2 by omega), if_neg (show ¬ k.kind = 3 by omega), if_neg k4]
        rw [e]
        exact (enter_any h rfl h (.inr rfl) (action_closing w)).mono fun e w' ⟨h1, h2⟩ => ⟨h1, fin _ _ (by unfold act; simp [k5]) (by omega) h2⟩
      · have hk23 : k.kind = 2 ∨ k.kind = 3 := by omega
        have e : phs k = k.kind + 1 := by
          unfold phs
          rw [if_neg k1]
          rcases hk23 with q | q
          · rw [if_pos q]; omega
          · rw [if_neg (show ¬ k.kind = 2 by omega), if_pos q]; omega
        rw [e]
        have h2 : (w.alloc (.cells #[.int .i64 (k.kind + 1)] 3)).heap[b]? = some (.cells (ptc k .nilFunc (.slice none 0 0)) 66 (0, 0)) := (Below.heap_alloc _ _ _ hb).trans h
        refine (enter_any h rfl h2 (.inr rfl) (action_forced (k.kind + 1) (by omega) w)).mono fun e w' ⟨h1, h3⟩ => ⟨h1, w.heap.size, ?_⟩
        subst h3
        have ha : act k t00 w.heap.size = fnForced w.heap.size := by unfold act; simp [k1, k4, k5]
        have hne : w.heap.size ≠ b := by omega
        refine ⟨⟨by rw [ha]; exact heap_set h2 3 _, World.ownsRow_nil _ _ _ _, fun _ => ?_, by simp [Value.ownBlock], by simp, hlo, by simp⟩, by omega, (Kg.Touch.alloc _ _ _).trans (Kg.Touch.setCell _ _ _ (by simp))⟩
        rw [(Kg.Touch.setCell (F := [b]) (w.alloc (.cells #[.int .i64 (k.kind + 1)] 3)) ⟨b, 3, none⟩ _ (by simp)).block w.heap.size (by simp) (by simpa using hne)]
        exact heap_alloc_new w _

end Go.Proofs.YtcijdbhabbepaaaGreatDoor.Po
