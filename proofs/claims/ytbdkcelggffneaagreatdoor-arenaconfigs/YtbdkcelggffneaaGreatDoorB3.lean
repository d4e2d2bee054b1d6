/-
  The document's arena: a new one.
-/
import Derived.Test.YtbdkcelggffneaaGreatDoorB2
set_option linter.unusedVariables false
set_option maxRecDepth 20000
namespace Go.Proofs.YtbdkcelggffneaaGreatDoor
open Go.RowKit

abbrev rn (c : Cfg) : Array Value := #[.int .i64 c.eden, .int .i64 c.surv, .int .i64 c.ten, .int .i64 c.large, .int .i64 c.floor, .int .i64 c.num, .int .i64 c.den, .int .i64 c.target, .int .i64 c.maxAge, .int .i64 c.threads, .int .i64 c.slots, .int .i64 c.handles, .int .i64 c.buffer, .int .i64 c.workers, Value.slice none 0 0, Value.slice none 0 0, Value.slice none 0 0, Value.slice none 0 0, Value.slice none 0 0, .int .i64 0, .int .i64 0, .int .i64 0, .int .i64 0, .int .i64 0, .int .i64 2]

theorem rnew_no (c : Cfg) (h : ¬ c.Ok) (w : World) :
    Calls Tryz.prog 12 #[cv c] w fun e w' => e = .returned (.tuple #[.pointer none, .int .i64 30]) ∧ Below w.heap.size w w' := by
  have hv := rvalid_any c (w.alloc (.cells (ccells c) 23))
  rw [decide_eq_false (fun hh => h (c.okd.1 hh))] at hv
  have b0 : Below w.heap.size w (w.alloc (.cells (ccells c) 23)) := Below.alloc (Below.refl _ _) (Nat.le_refl _) _
  clear h
  go_enter Tryz.func12, Tryz.ntmps12
  go_wp2_with fail
  refine hv.mono ?_
  rintro e w1 ⟨rfl, b1⟩
  have b2 := b0.trans (b1.mono b0.size)
  clear b0 b1 hv
  go_wp2
  go_ret2
  exact ⟨rfl, b2⟩

/-- A space's words are made and kept. -/
def ras (w : World) (b n s : Nat) : World := ((w.setCell ⟨b, 14 + s, none⟩ (.slice (some ⟨w.heap.size, 0, none⟩) n n)).alloc (.cells (madeCells #[.int .u64 0] n) 29)).drew

theorem ras_touch (w : World) (b n s : Nat) : Touch [b] w (ras w b n s) :=
  ((Touch.setCell w ⟨b, 14 + s, none⟩ _ (by simp)).trans (Touch.alloc [b] _ _)).trans (Touch.drewN [b] _ 1)

theorem Rh.below {w : World} {b n s B : Nat} (hb : B ≤ b) (hw : B ≤ w.heap.size) : Below B w (ras w b n s) :=
  (ras_touch w b n s).below hw (fun k hk => by simp at hk; omega)

/-- The half made arena: the first k spaces are made. -/
structure Rh (w : World) (b cb : Nat) (g : Nat → Nat) (c : Cfg) (k : Nat) : Prop where
  own : w.rowIs b 77 25 (fun j => if 15 ≤ j ∧ j ≤ 18 ∧ 14 + k < j then Value.slice none 0 0 else raf c g (tops0 c) false j)
  row : ∀ s, 1 ≤ s → s ≤ k → w.rowIs (g s) 29 (spn c s) (fun _ => .int .u64 0)
  cf : Cfd w cb c
  ne : cb ≠ b
  gn : ∀ s, 1 ≤ s → s ≤ k → g s ≠ b
  gd : ∀ s t, 1 ≤ s → s ≤ k → 1 ≤ t → t ≤ k → s ≠ t → g s ≠ g t

theorem Rh.step {w : World} {b cb : Nat} {g : Nat → Nat} {c : Cfg} {k : Nat} (h : Rh w b cb g c k) (hk : k < 4) :
    Rh (ras w b (spn c (k + 1)) (k + 1)) b cb (fun s => if s = k + 1 then w.heap.size else g s) c (k + 1) := by
  have hb := h.own.lt
  have hc := h.cf.lt
  refine ⟨?_, ?_, ?_, h.ne, ?_, ?_⟩
  · refine World.rowIs.drew (World.rowIs.alloc ((h.own.set (14 + (k + 1)) _).congr (fun j hj => ?_)) _)
    by_cases e : j = 14 + (k + 1)
    · subst e
      rw [if_pos rfl, if_neg (by omega)]
      obtain rfl | rfl | rfl | rfl : k = 0 ∨ k = 1 ∨ k = 2 ∨ k = 3 := by omega
      all_goals rfl
    · rw [if_neg e]
      by_cases e2 : 15 ≤ j ∧ j ≤ 18 ∧ 14 + k < j
      · rw [if_pos e2, if_pos (by omega)]
      · rw [if_neg e2, if_neg (by omega)]
        obtain rfl | rfl | rfl | rfl : k = 0 ∨ k = 1 ∨ k = 2 ∨ k = 3 := by omega
        all_goals
          match j, hj with
          | 0, _ | 1, _ | 2, _ | 3, _ | 4, _ | 5, _ | 6, _ | 7, _ | 8, _ | 9, _ | 10, _ | 11, _ | 12, _ | 13, _ | 14, _ | 15, _ | 16, _ | 17, _ | 18, _ | 19, _ | 20, _ | 21, _ | 22, _ | 23, _ | 24, _ => first | rfl | (exfalso; omega)
          | j + 25, h => exact absurd (show j + 25 < 25 from h) (by omega)
  · intro s h1 h2
    by_cases e : s = k + 1
    · subst e
      rw [if_pos rfl]
      have h1 := World.rowIs_made (w.setCell ⟨b, 14 + (k + 1), none⟩ (.slice (some ⟨w.heap.size, 0, none⟩) (spn c (k + 1)) (spn c (k + 1)))) (.int .u64 0) (spn c (k + 1)) 29
      rw [show (w.setCell ⟨b, 14 + (k + 1), none⟩ (.slice (some ⟨w.heap.size, 0, none⟩) (spn c (k + 1)) (spn c (k + 1)))).heap.size = w.heap.size by simp [World.setCell]] at h1
      exact h1.drew
    · rw [if_neg e]
      exact (((h.row s h1 (by omega)).setOther (h.gn s h1 (by omega)) _).alloc _).drew
  · refine ⟨?_⟩
    rw [(ras_touch w b _ _).block cb hc (by simp; exact h.ne)]
    exact h.cf.at_
  · intro s h1 h2
    by_cases e : s = k + 1
    · subst e
      rw [if_pos rfl]; omega
    · rw [if_neg e]
      exact h.gn s h1 (by omega)
  · intro s t h1 h2 h3 h4 hst
    by_cases e : s = k + 1
    · have e2 : t ≠ k + 1 := fun h => hst (e.trans h.symm)
      rw [if_pos e, if_neg e2]
      have := (h.row t h3 (by omega)).lt
      omega
    · rw [if_neg e]
      by_cases e2 : t = k + 1
      · rw [if_pos e2]
        have := (h.row s h1 (by omega)).lt
        omega
      · rw [if_neg e2]
        exact h.gd s t h1 (by omega) h3 (by omega) hst

set_option maxHeartbeats 4000000 in
theorem rnew_yes (c : Cfg) (h : c.Ok) (w : World) :
    Calls Tryz.prog 12 #[cv c] w fun e w' => ∃ b g, e = .returned (.tuple #[.pointer (some ⟨b, 0, none⟩), .int .i64 0]) ∧ Ra w' b g c (tops0 c) false (fun _ => 0) ∧ Below w.heap.size w w' := by
  have hv := rvalid_any c (w.alloc (.cells (ccells c) 23))
  rw [decide_eq_true (c.okd.2 h)] at hv
  have b0 : Below w.heap.size w (w.alloc (.cells (ccells c) 23)) := Below.alloc (Below.refl _ _) (Nat.le_refl _) _
  have f0 := Cfd.new w c
  have Hh : Hid c.Ok := h
  clear h
  go_enter Tryz.func12, Tryz.ntmps12
  go_wp2_with fail
  refine hv.mono ?_
  rintro e w1 ⟨rfl, b1⟩
  have b2 := b0.trans (b1.mono b0.size)
  have f1 := f0.below b1
  clear b0 b1 hv f0
  have k0 : w1.cell? ⟨w.heap.size, 0, none⟩ = some (.int .i64 c.eden) := f1.cell 0
  have k1 : w1.cell? ⟨w.heap.size, 1, none⟩ = some (.int .i64 c.surv) := f1.cell 1
  have k2 : w1.cell? ⟨w.heap.size, 2, none⟩ = some (.int .i64 c.ten) := f1.cell 2
  have k3 : w1.cell? ⟨w.heap.size, 3, none⟩ = some (.int .i64 c.large) := f1.cell 3
  have k4 : w1.cell? ⟨w.heap.size, 4, none⟩ = some (.int .i64 c.floor) := f1.cell 4
  have k5 : w1.cell? ⟨w.heap.size, 5, none⟩ = some (.int .i64 c.num) := f1.cell 5
  have k6 : w1.cell? ⟨w.heap.size, 6, none⟩ = some (.int .i64 c.den) := f1.cell 6
  have k7 : w1.cell? ⟨w.heap.size, 7, none⟩ = some (.int .i64 c.target) := f1.cell 7
  have k8 : w1.cell? ⟨w.heap.size, 8, none⟩ = some (.int .i64 c.maxAge) := f1.cell 8
  have k9 : w1.cell? ⟨w.heap.size, 9, none⟩ = some (.int .i64 c.threads) := f1.cell 9
  have k10 : w1.cell? ⟨w.heap.size, 10, none⟩ = some (.int .i64 c.slots) := f1.cell 10
  have k11 : w1.cell? ⟨w.heap.size, 11, none⟩ = some (.int .i64 c.handles) := f1.cell 11
  have k12 : w1.cell? ⟨w.heap.size, 12, none⟩ = some (.int .i64 c.buffer) := f1.cell 12
  have k13 : w1.cell? ⟨w.heap.size, 13, none⟩ = some (.int .i64 c.workers) := f1.cell 13
  go_upto_region 4 with fail
  clear k0 k1 k2 k3 k4 k5 k6 k7 k8 k9 k10 k11 k12 k13
  have hlt := f1.lt
  have h0 : Rh (w1.alloc (.cells (rn c) 77)) w1.heap.size w.heap.size (fun _ => 0) c 0 := by
    refine ⟨?_, fun s h1 h2 => by omega, f1.below (Below.alloc (Below.refl _ _) (Nat.le_refl _) _), by omega, fun s h1 h2 => by omega, fun s t h1 h2 => by omega⟩
    have h1 := World.rowIs_alloc w1 (rn c) 77 (fun j => if 15 ≤ j ∧ j ≤ 18 ∧ 14 + 0 < j then Value.slice none 0 0 else raf c (fun _ => 0) (tops0 c) false j) (by
      intro i hi
      match i, hi with
      | 0, _ | 1, _ | 2, _ | 3, _ | 4, _ | 5, _ | 6, _ | 7, _ | 8, _ | 9, _ | 10, _ | 11, _ | 12, _ | 13, _ | 14, _ | 15, _ | 16, _ | 17, _ | 18, _ | 19, _ | 24, _ => rfl
      | 20, _ | 21, _ | 22, _ | 23, _ => simp [raf, tops0]
      | j + 25, h => exact absurd (show j + 25 < 25 from h) (by omega))
    exact h1
  have b3 := Below.alloc b2 b2.size (.cells (rn c) 77)
  have hB := b2.size
  generalize hb : w1.heap.size = b at *
  generalize w1.alloc (.cells (rn c) 77) = v0 at *
  have B0 : Hid (Below w.heap.size w v0) := b3
  clear b3 b2 f1 hb
  obtain ⟨i0, hi0, hz0, hz1, hz2⟩ := info_parts Tryz.infoU64
  have hmk : ∀ (z : Int), 0 ≤ z → z ≤ 65536 → ∀ w, (Instr.makeSlice 73 (.int .i64 z) (.int .i64 z)).run Tryz.prog w = .ok (.slice (some ⟨w.heap.size, 0, none⟩) z.toNat z.toNat) (w.alloc (.cells (madeCells #[.int .u64 0] z.toNat) 29)) := fun z z0 z1 w => by
    have := run_make (P := Tryz.prog) w 73 29 i0 (.int .u64 0) Tryz.underlying73 hi0 hz0 .i64 .i64 z z z0 (Int.le_refl _) (by rw [hz2]; omega) (by omega)
    rw [hz1, Nat.mul_one] at this
    exact this
  have hme := hmk c.eden (by have := Hh.out.e0; omega) Hh.out.e1
  have hms := hmk c.surv (by have := Hh.out.s0; omega) Hh.out.s1
  have hmt := hmk c.ten (by have := Hh.out.t0; omega) Hh.out.t1
  have HB : Hid (w.heap.size ≤ b) := hB
  clear hi0 hz0 hz1 hz2 hmk hB
  have H0 : Hid (Rh v0 b w.heap.size (fun _ => 0) c 0) := h0
  have s0 : Hid (Rh (ras v0 b (spn c (0 + 1)) (0 + 1)) b w.heap.size (fun s => if s = 0 + 1 then v0.heap.size else (fun _ => 0) s) c (0 + 1)) := h0.step (by omega)
  have q0 : v0.cell? ⟨w.heap.size, 0, none⟩ = some (.int .i64 c.eden) := h0.cf.cell 0
  have hbl0 := h0.own.lt
  have hwl0 := h0.cf.lt
  have kn0 : v0.cell? ⟨b, 15, none⟩ = some (Value.slice none 0 0) := h0.own.cell (i := 15) (by decide)
  have kz0 := h0.own.frozen 15
  clear h0
  go_upto_region 4 with fail
  go_region
  clear q0 hbl0 hwl0 kn0 kz0
  have B1 : Hid (Below w.heap.size w (ras v0 b (spn c (0 + 1)) (0 + 1))) := B0.out.trans (Rh.below HB.out B0.out.size)
  have e0 : ((v0.setCell ⟨b, 15, none⟩ (.slice (some ⟨v0.heap.size, 0, none⟩) c.eden.toNat c.eden.toNat)).alloc (.cells (madeCells #[.int .u64 0] c.eden.toNat) 29)).drew = ras v0 b (spn c (0 + 1)) (0 + 1) := rfl
  rw [e0]
  obtain ⟨g1, hg1⟩ : ∃ g, g = (fun s => if s = 0 + 1 then v0.heap.size else (fun _ => 0) s) := ⟨_, rfl⟩
  rw [← hg1] at s0
  have h1 := s0.out
  clear e0 s0 hg1 H0
  generalize ras v0 b (spn c (0 + 1)) (0 + 1) = v1 at *
  have H1 : Hid (Rh v1 b w.heap.size g1 c 1) := h1
  have s1 : Hid (Rh (ras v1 b (spn c (1 + 1)) (1 + 1)) b w.heap.size (fun s => if s = 1 + 1 then v1.heap.size else g1 s) c (1 + 1)) := h1.step (by omega)
  have q1 : v1.cell? ⟨w.heap.size, 1, none⟩ = some (.int .i64 c.surv) := h1.cf.cell 1
  have hbl1 := h1.own.lt
  have hwl1 := h1.cf.lt
  have kn1 : v1.cell? ⟨b, 16, none⟩ = some (Value.slice none 0 0) := h1.own.cell (i := 16) (by decide)
  have kz1 := h1.own.frozen 16
  clear h1
  go_upto_region 5 with fail
  go_region
  clear q1 hbl1 hwl1 kn1 kz1
  have B2 : Hid (Below w.heap.size w (ras v1 b (spn c (1 + 1)) (1 + 1))) := B1.out.trans (Rh.below HB.out B1.out.size)
  have e1 : ((v1.setCell ⟨b, 16, none⟩ (.slice (some ⟨v1.heap.size, 0, none⟩) c.surv.toNat c.surv.toNat)).alloc (.cells (madeCells #[.int .u64 0] c.surv.toNat) 29)).drew = ras v1 b (spn c (1 + 1)) (1 + 1) := rfl
  rw [e1]
  obtain ⟨g2, hg2⟩ : ∃ g, g = (fun s => if s = 1 + 1 then v1.heap.size else g1 s) := ⟨_, rfl⟩
  rw [← hg2] at s1
  have h2 := s1.out
  clear e1 s1 hg2 H1
  generalize ras v1 b (spn c (1 + 1)) (1 + 1) = v2 at *
  have H2 : Hid (Rh v2 b w.heap.size g2 c 2) := h2
  have s2 : Hid (Rh (ras v2 b (spn c (2 + 1)) (2 + 1)) b w.heap.size (fun s => if s = 2 + 1 then v2.heap.size else g2 s) c (2 + 1)) := h2.step (by omega)
  have q2 : v2.cell? ⟨w.heap.size, 1, none⟩ = some (.int .i64 c.surv) := h2.cf.cell 1
  have hbl2 := h2.own.lt
  have hwl2 := h2.cf.lt
  have kn2 : v2.cell? ⟨b, 17, none⟩ = some (Value.slice none 0 0) := h2.own.cell (i := 17) (by decide)
  have kz2 := h2.own.frozen 17
  clear h2
  go_upto_region 6 with fail
  go_region
  clear q2 hbl2 hwl2 kn2 kz2
  have B3 : Hid (Below w.heap.size w (ras v2 b (spn c (2 + 1)) (2 + 1))) := B2.out.trans (Rh.below HB.out B2.out.size)
  have e2 : ((v2.setCell ⟨b, 17, none⟩ (.slice (some ⟨v2.heap.size, 0, none⟩) c.surv.toNat c.surv.toNat)).alloc (.cells (madeCells #[.int .u64 0] c.surv.toNat) 29)).drew = ras v2 b (spn c (2 + 1)) (2 + 1) := rfl
  rw [e2]
  obtain ⟨g3, hg3⟩ : ∃ g, g = (fun s => if s = 2 + 1 then v2.heap.size else g2 s) := ⟨_, rfl⟩
  rw [← hg3] at s2
  have h3 := s2.out
  clear e2 s2 hg3 H2
  generalize ras v2 b (spn c (2 + 1)) (2 + 1) = v3 at *
  have H3 : Hid (Rh v3 b w.heap.size g3 c 3) := h3
  have s3 : Hid (Rh (ras v3 b (spn c (3 + 1)) (3 + 1)) b w.heap.size (fun s => if s = 3 + 1 then v3.heap.size else g3 s) c (3 + 1)) := h3.step (by omega)
  have q3 : v3.cell? ⟨w.heap.size, 2, none⟩ = some (.int .i64 c.ten) := h3.cf.cell 2
  have hbl3 := h3.own.lt
  have hwl3 := h3.cf.lt
  have kn3 : v3.cell? ⟨b, 18, none⟩ = some (Value.slice none 0 0) := h3.own.cell (i := 18) (by decide)
  have kz3 := h3.own.frozen 18
  clear h3
  go_upto_region 7 with fail
  go_region
  clear q3 hbl3 hwl3 kn3 kz3
  have B4 : Hid (Below w.heap.size w (ras v3 b (spn c (3 + 1)) (3 + 1))) := B3.out.trans (Rh.below HB.out B3.out.size)
  have e3 : ((v3.setCell ⟨b, 18, none⟩ (.slice (some ⟨v3.heap.size, 0, none⟩) c.ten.toNat c.ten.toNat)).alloc (.cells (madeCells #[.int .u64 0] c.ten.toNat) 29)).drew = ras v3 b (spn c (3 + 1)) (3 + 1) := rfl
  rw [e3]
  obtain ⟨g4, hg4⟩ : ∃ g, g = (fun s => if s = 3 + 1 then v3.heap.size else g3 s) := ⟨_, rfl⟩
  rw [← hg4] at s3
  have h4 := s3.out
  clear e3 s3 hg4 H3
  generalize ras v3 b (spn c (3 + 1)) (3 + 1) = v4 at *
  have H4 : Hid (Rh v4 b w.heap.size g4 c 4) := h4
  clear h4 hme hms hmt
  go_wp2
  go_ret2
  refine ⟨b, g4, rfl, ⟨H4.out.own.congr (fun j hj => by rw [if_neg (by omega)]), fun s h1 h2 => H4.out.row s h1 h2, Hh.out, ?_, rfl, H4.out.gd⟩, B4.out⟩
  obtain ⟨e0, e1, s0, s1, t0, t1, -⟩ := Hh.out
  constructor <;> simp only [tops0] <;> omega

end Go.Proofs.YtbdkcelggffneaaGreatDoor
