/-
  Cut, To, Swap, Space, Young.
-/
import Derived.Test.YtbdkcelggffneaaDoorA2
set_option linter.unusedVariables false
namespace Go.Proofs.YtbdkcelggffneaaDoor
open Go.RowKit

set_option maxHeartbeats 400000 in
theorem to_any (b g : Nat) (c : Cfg) (x : Tps) (sw : Bool) (ws : Nat → Int) (w : World) (h : Ar w b g c x sw ws) :
    Calls Tryd.prog 22 #[.pointer (some ⟨b, 0, none⟩)] w fun e w' => e = .returned (.int .i64 (if sw = true then 2 else 3)) ∧ w = w' := by
  have k := h.cell27
  clear h
  cases sw
  all_goals
    go_enter Tryd.func22, Tryd.ntmps22
    go_wp2
    go_ret
    exact ⟨rfl, rfl⟩

theorem af_sw (c : Cfg) (g n : Nat) (x : Tps) (sw sw' : Bool) (j : Nat) (hj : j < 28) : (if j = 27 then Value.bool sw' else af c g n x sw j) = af c g n x sw' j := by
  match j, hj with
  | 0, _ | 1, _ | 2, _ | 3, _ | 4, _ | 5, _ | 6, _ | 7, _ | 8, _ | 9, _ | 10, _ | 11, _ | 12, _ | 13, _ | 14, _ | 15, _ | 16, _ | 17, _ | 18, _ | 19, _ | 20, _ | 21, _ | 22, _ | 23, _ | 24, _ | 25, _ | 26, _ | 27, _ => simp [af]
  | j + 28, h => omega

set_option maxHeartbeats 400000 in
theorem swap_any (b g : Nat) (c : Cfg) (x : Tps) (sw : Bool) (ws : Nat → Int) (w : World) (h : Ar w b g c x sw ws) :
    Calls Tryd.prog 21 #[.pointer (some ⟨b, 0, none⟩)] w fun e w' => e = .returned (.tuple #[]) ∧ Ar w' b g c x (!sw) ws ∧ Touch [b] w w' ∧ w'.heap.size = w.heap.size := by
  have hA : Ar (w.setCell ⟨b, 27, none⟩ (.bool (!sw))) b g c x (!sw) ws := by
    have hn := h.ne
    obtain ⟨o, r, ok, wd, a, b', d, e, f, g', i, j⟩ := h
    exact ⟨(o.set 27 _).congr (fun j hj => af_sw c g _ x sw _ j hj), r.setOther (fun e => hn e.symm) _, ok, wd, a, b', d, e, f, g', i, j⟩
  have k := h.cell27
  have z := h.own.frozen 27
  have hT : Touch [b] w (w.setCell ⟨b, 27, none⟩ (.bool (!sw))) := Touch.setCell _ _ _ (by simp)
  have hz : (w.setCell ⟨b, 27, none⟩ (.bool (!sw))).heap.size = w.heap.size := by simp [World.setCell]
  clear h
  go_enter Tryd.func21, Tryd.ntmps21
  go_wp2
  go_returns
  exact ⟨rfl, hA, hT, hz⟩

set_option maxHeartbeats 1000000 in
theorem cut_no (b g : Nat) (c : Cfg) (x : Tps) (sw : Bool) (ws : Nat → Int) (s t : Int) (ht : ¬ ((1 ≤ s ∧ s ≤ 4) ∧ fst c s ≤ t ∧ t ≤ x.top s)) (w : World) (h : Ar w b g c x sw ws) :
    Calls Tryd.prog 17 #[.pointer (some ⟨b, 0, none⟩), .int .i64 s, .int .i64 t] w fun e w' => e = .returned (.bool false) ∧ Below w.heap.size w w' := by
  have hx := extent_any b g c x sw ws s w h
  generalize fst c s = p, bhd c s = q, x.top s = r at hx ht ⊢
  clear h
  by_cases hs : 1 ≤ s ∧ s ≤ 4
  · have hd := decide_eq_true hs
    by_cases h1 : t < p
    · go_enter Tryd.func17, Tryd.ntmps17
      go_wp2_with fail
      refine hx.mono ?_
      rintro e w1 ⟨rfl, b1⟩
      go_wp2_with fail
      refine (isSpace_any _ _).mono ?_
      rintro e w' ⟨rfl, rfl⟩
      rw [hd]
      go_wp2
      go_ret
      refine ⟨rfl, ?_⟩
      go_grown
      exact b1.size
    · have h2 : r < t := by omega
      go_enter Tryd.func17, Tryd.ntmps17
      go_wp2_with fail
      refine hx.mono ?_
      rintro e w1 ⟨rfl, b1⟩
      go_wp2_with fail
      refine (isSpace_any _ _).mono ?_
      rintro e w' ⟨rfl, rfl⟩
      rw [hd]
      go_wp2
      go_ret
      refine ⟨rfl, ?_⟩
      go_grown
      exact b1.size
  · have hd := decide_eq_false hs
    go_enter Tryd.func17, Tryd.ntmps17
    go_wp2_with fail
    refine hx.mono ?_
    rintro e w1 ⟨rfl, b1⟩
    go_wp2_with fail
    refine (isSpace_any _ _).mono ?_
    rintro e w' ⟨rfl, rfl⟩
    rw [hd]
    go_wp2
    go_ret
    refine ⟨rfl, ?_⟩
    go_grown
    exact b1.size

set_option maxHeartbeats 1000000 in
theorem cut_yes (b g : Nat) (c : Cfg) (x : Tps) (sw : Bool) (ws : Nat → Int) (s t : Int) (hs : 1 ≤ s ∧ s ≤ 4) (h0 : fst c s ≤ t) (h1 : t ≤ x.top s) (w : World) (h : Ar w b g c x sw ws) :
    Calls Tryd.prog 17 #[.pointer (some ⟨b, 0, none⟩), .int .i64 s, .int .i64 t] w fun e w' => e = .returned (.bool true) ∧ Ar w' b g c (x.put s t) sw ws ∧ Touch [b] w w' := by
  have hx := extent_any b g c x sw ws s w h
  have hle := (h.sub_in s).2.2.1
  have Hh : Hid (Ar w b g c x sw ws) := h
  have Hs : Hid (∀ w, Ar w b g c x sw ws → Calls Tryd.prog 32 #[.pointer (some ⟨b, 0, none⟩), .int .i64 s, .int .i64 t] w fun e w' => e = .returned (.tuple #[]) ∧ Ar w' b g c (x.put s t) sw ws ∧ Touch [b] w w' ∧ w'.heap.size = w.heap.size) := fun w hw => setTop_any b g c x sw ws s t hs h0 (by omega) w hw
  generalize fst c s = p, bhd c s = q, x.top s = r at hx h0 h1 ⊢
  clear h hle
  have hd := decide_eq_true hs
  go_enter Tryd.func17, Tryd.ntmps17
  go_wp2_with fail
  refine hx.mono ?_
  rintro e w1 ⟨rfl, b1⟩
  go_wp2_with fail
  refine (isSpace_any _ _).mono ?_
  rintro e w' ⟨rfl, rfl⟩
  rw [hd]
  have b2 := Below.alloc b1 b1.size (.cells (ecells p q r) 64)
  go_upto_region 4 with fail
  have hst := Hs.out _ (Hh.out.below b2)
  have ht := Touch.of_below b2 [b]
  generalize (w1.alloc (.cells (ecells p q r) 64)) = w2 at hst ht ⊢
  clear b1 b2 hx
  go_wp2_with fail
  refine hst.mono ?_
  rintro e w3 ⟨rfl, ha, ht3, -⟩
  have Ha : Hid (Ar w3 b g c (x.put s t) sw ws) := ha
  have ht4 := ht.trans ht3
  clear ha ht ht3 hst
  go_wp2
  go_ret
  exact ⟨rfl, Ha.out, ht4⟩

/-- The space in which a word lies (P3.6). -/
def spc (c : Cfg) (i : Int) : Int := if i < 1 then 0 else if i < 1 + c.eden then 1 else if i < 1 + c.eden + c.surv then 2 else if i < 1 + c.eden + c.surv + c.surv then 3 else if i < 1 + c.eden + c.surv + c.surv + c.ten then 4 else 0

abbrev ev12 (a b d e f g h i j k l m : Int) : Value := .agg #[.int .i64 a, .int .i64 b, .int .i64 d, .int .i64 e, .int .i64 f, .int .i64 g, .int .i64 h, .int .i64 i, .int .i64 j, .int .i64 k, .int .i64 l, .int .i64 m]

theorem idx0 (a b d e f g h i j k l m : Int) (w : World) : (Instr.index 65 (ev12 a b d e f g h i j k l m) (.int .i64 0)).run Tryd.prog w = .ok (ev a b d) w := by kernel_rfl
theorem idx1 (a b d e f g h i j k l m : Int) (w : World) : (Instr.index 65 (ev12 a b d e f g h i j k l m) (.int .i64 1)).run Tryd.prog w = .ok (ev e f g) w := by kernel_rfl
theorem idx2 (a b d e f g h i j k l m : Int) (w : World) : (Instr.index 65 (ev12 a b d e f g h i j k l m) (.int .i64 2)).run Tryd.prog w = .ok (ev h i j) w := by kernel_rfl
theorem idx3 (a b d e f g h i j k l m : Int) (w : World) : (Instr.index 65 (ev12 a b d e f g h i j k l m) (.int .i64 3)).run Tryd.prog w = .ok (ev k l m) w := by kernel_rfl

set_option maxHeartbeats 2000000 in
theorem space_core (b : Nat) (f1 f2 f3 f4 f5 t1 t2 t3 t4 i r : Int) (hr : Hid (r = if i < f1 then 0 else if i < f2 then 1 else if i < f3 then 2 else if i < f4 then 3 else if i < f5 then 4 else 0)) (o1 : f1 ≤ f2) (o2 : f2 ≤ f3) (o3 : f3 ≤ f4) (o4 : f4 ≤ f5) (w : World)
    (k0 : w.cell? ⟨b, 15, none⟩ = some (.int .i64 f1)) (k1 : w.cell? ⟨b, 16, none⟩ = some (.int .i64 f2)) (k2 : w.cell? ⟨b, 17, none⟩ = some (.int .i64 t1))
    (k3 : w.cell? ⟨b, 18, none⟩ = some (.int .i64 f2)) (k4 : w.cell? ⟨b, 19, none⟩ = some (.int .i64 f3)) (k5 : w.cell? ⟨b, 20, none⟩ = some (.int .i64 t2))
    (k6 : w.cell? ⟨b, 21, none⟩ = some (.int .i64 f3)) (k7 : w.cell? ⟨b, 22, none⟩ = some (.int .i64 f4)) (k8 : w.cell? ⟨b, 23, none⟩ = some (.int .i64 t3))
    (k9 : w.cell? ⟨b, 24, none⟩ = some (.int .i64 f4)) (k10 : w.cell? ⟨b, 25, none⟩ = some (.int .i64 f5)) (k11 : w.cell? ⟨b, 26, none⟩ = some (.int .i64 t4)) :
    Calls Tryd.prog 9 #[.pointer (some ⟨b, 0, none⟩), .int .i64 i] w fun e w' => e = .returned (.int .i64 r) ∧ Below w.heap.size w w' := by
  have e0 := idx0 f1 f2 t1 f2 f3 t2 f3 f4 t3 f4 f5 t4
  have e1 := idx1 f1 f2 t1 f2 f3 t2 f3 f4 t3 f4 f5 t4
  have e2 := idx2 f1 f2 t1 f2 f3 t2 f3 f4 t3 f4 f5 t4
  have e3 := idx3 f1 f2 t1 f2 f3 t2 f3 f4 t3 f4 f5 t4
  go_enter Tryd.func9, Tryd.ntmps9
  go_wp2
  clear k0 k1 k2 k3 k4 k5 k6 k7 k8 k9 k10 k11
  go_loopw [11] (fun n wr => ∃ j : Int, 0 ≤ j ∧ j ≤ 4 ∧ n = .int .i64 j ∧ Below w.heap.size w wr ∧ (0 < j → i < f1 ∨ f2 ≤ i) ∧ (1 < j → i < f1 ∨ f3 ≤ i) ∧ (2 < j → i < f1 ∨ f4 ≤ i) ∧ (3 < j → i < f1 ∨ f5 ≤ i)) (fun n _ => 4 - (intOf n).toNat)
  case atStart => exact ⟨0, by omega, by omega, rfl, Below.refl _ _, by omega, by omega, by omega, by omega⟩
  case round =>
    obtain ⟨j, hj0, hj, rfl, bl, q1, q2, q3, q4⟩ := hrel
    obtain rfl | rfl | rfl | rfl | rfl : j = 0 ∨ j = 1 ∨ j = 2 ∨ j = 3 ∨ j = 4 := by omega
    · by_cases c1 : f1 ≤ i
      · by_cases c2 : i < f2
        · have hr0 : r = 1 := by
            rw [hr.out]
            repeat' split
            all_goals first | rfl | (exfalso; omega)
          clear q1 q2 q3 q4 hr
          go_wp2
          go_ret
          refine ⟨by subst hr0; rfl, ?_⟩
          go_grown
          exact bl.size
        · go_wp2
          go_roundw
          case rel => exact ⟨1, by omega, by omega, rfl, Below.alloc bl bl.size _, by omega, by omega, by omega, by omega⟩
          case measure => simp [intOf]
      · go_wp2
        go_roundw
        case rel => exact ⟨1, by omega, by omega, rfl, Below.alloc bl bl.size _, by omega, by omega, by omega, by omega⟩
        case measure => simp [intOf]
    · by_cases c1 : f2 ≤ i
      · by_cases c2 : i < f3
        · have hr0 : r = 2 := by
            rw [hr.out]
            repeat' split
            all_goals first | rfl | (exfalso; omega)
          clear q1 q2 q3 q4 hr
          go_wp2
          go_ret
          refine ⟨by subst hr0; rfl, ?_⟩
          go_grown
          exact bl.size
        · go_wp2
          go_roundw
          case rel => exact ⟨2, by omega, by omega, rfl, Below.alloc bl bl.size _, by omega, by omega, by omega, by omega⟩
          case measure => simp [intOf]
      · go_wp2
        go_roundw
        case rel => exact ⟨2, by omega, by omega, rfl, Below.alloc bl bl.size _, by omega, by omega, by omega, by omega⟩
        case measure => simp [intOf]
    · by_cases c1 : f3 ≤ i
      · by_cases c2 : i < f4
        · have hr0 : r = 3 := by
            rw [hr.out]
            repeat' split
            all_goals first | rfl | (exfalso; omega)
          clear q1 q2 q3 q4 hr
          go_wp2
          go_ret
          refine ⟨by subst hr0; rfl, ?_⟩
          go_grown
          exact bl.size
        · go_wp2
          go_roundw
          case rel => exact ⟨3, by omega, by omega, rfl, Below.alloc bl bl.size _, by omega, by omega, by omega, by omega⟩
          case measure => simp [intOf]
      · go_wp2
        go_roundw
        case rel => exact ⟨3, by omega, by omega, rfl, Below.alloc bl bl.size _, by omega, by omega, by omega, by omega⟩
        case measure => simp [intOf]
    · by_cases c1 : f4 ≤ i
      · by_cases c2 : i < f5
        · have hr0 : r = 4 := by
            rw [hr.out]
            repeat' split
            all_goals first | rfl | (exfalso; omega)
          clear q1 q2 q3 q4 hr
          go_wp2
          go_ret
          refine ⟨by subst hr0; rfl, ?_⟩
          go_grown
          exact bl.size
        · go_wp2
          go_roundw
          case rel => exact ⟨4, by omega, by omega, rfl, Below.alloc bl bl.size _, by omega, by omega, by omega, by omega⟩
          case measure => simp [intOf]
      · go_wp2
        go_roundw
        case rel => exact ⟨4, by omega, by omega, rfl, Below.alloc bl bl.size _, by omega, by omega, by omega, by omega⟩
        case measure => simp [intOf]
    · have hr0 : r = 0 := by
        rw [hr.out]
        repeat' split
        all_goals first | rfl | (exfalso; omega)
      clear q1 q2 q3 q4 hr
      go_wp2
      go_ret
      exact ⟨by subst hr0; rfl, bl⟩

theorem space_any (b g : Nat) (c : Cfg) (x : Tps) (sw : Bool) (ws : Nat → Int) (i : Int) (w : World) (h : Ar w b g c x sw ws) :
    Calls Tryd.prog 9 #[.pointer (some ⟨b, 0, none⟩), .int .i64 i] w fun e w' => e = .returned (.int .i64 (spc c i)) ∧ Below w.heap.size w w' := by
  have := h.ok.e0; have := h.ok.s0; have := h.ok.t0
  have k : ∀ j, j < 28 → w.cell? ⟨b, j, none⟩ = some (af c g c.words.toNat x sw j) := fun j hj => h.own.cell hj
  exact space_core b 1 _ _ _ _ _ _ _ _ i _ rfl (by omega) (by omega) (by omega) (by omega) w (k 15 (by decide)) (k 16 (by decide)) (k 17 (by decide)) (k 18 (by decide)) (k 19 (by decide)) (k 20 (by decide)) (k 21 (by decide)) (k 22 (by decide)) (k 23 (by decide)) (k 24 (by decide)) (k 25 (by decide)) (k 26 (by decide))

set_option maxHeartbeats 400000 in
theorem young_any (b g : Nat) (c : Cfg) (x : Tps) (sw : Bool) (ws : Nat → Int) (i : Int) (w : World) (h : Ar w b g c x sw ws) :
    Calls Tryd.prog 12 #[.pointer (some ⟨b, 0, none⟩), .int .i64 i] w fun e w' => e = .returned (.bool (decide (spc c i = 1 ∨ spc c i = if sw = true then 3 else 2))) ∧ Below w.heap.size w w' := by
  have hs := space_any b g c x sw ws i w h
  have Hh : Hid (Ar w b g c x sw ws) := h
  clear h
  have hfr : ∀ w1, Below w.heap.size w w1 → _ := fun w1 b1 => from_any b g c x sw ws w1 (Hh.out.below b1)
  generalize (if sw = true then (3 : Int) else 2) = f at hfr ⊢
  generalize spc c i = s at hs ⊢
  generalize hd : decide (s = 1 ∨ s = f) = d
  have Hd : Hid (decide (s = 1 ∨ s = f) = d) := hd
  clear hd
  have Hf : Hid (∀ w1, Below w.heap.size w w1 → Calls Tryd.prog 20 #[.pointer (some ⟨b, 0, none⟩)] w1 fun e w' => e = .returned (.int .i64 f) ∧ w1 = w') := hfr
  clear hfr
  by_cases h1 : s = 1
  · subst h1
    go_enter Tryd.func12, Tryd.ntmps12
    go_wp2_with fail
    refine hs.mono ?_
    rintro e w1 ⟨rfl, b1⟩
    go_wp2
    go_ret
    exact ⟨by rw [← Hd.out]; simp, b1⟩
  · go_enter Tryd.func12, Tryd.ntmps12
    go_wp2_with fail
    refine hs.mono ?_
    rintro e w1 ⟨rfl, b1⟩
    go_wp2_with fail
    refine (Hf.out w1 b1).mono ?_
    rintro e w' ⟨rfl, rfl⟩
    go_wp2
    go_ret
    refine ⟨?_, b1⟩
    rw [← Hd.out]
    simp [h1]
    rw [beq_eq_false_iff_ne.2 h1, Bool.false_or]
    by_cases h2 : s = f <;> simp [h2]

end Go.Proofs.YtbdkcelggffneaaDoor
