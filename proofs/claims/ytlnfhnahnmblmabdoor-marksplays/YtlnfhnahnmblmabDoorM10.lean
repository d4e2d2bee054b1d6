/-
  tally.
-/
import Derived.Test.YtlnfhnahnmblmabDoorM9
import Derived.Deep.Cut
set_option linter.unusedVariables false
namespace Go.Proofs.YtlnfhnahnmblmabDoor
open Go.RowKit Go.Shelf

/-- A slide's own four cells. -/
def sf (base total kb : Nat) (v : Value) : Nat → Value
  | 0 => .int .i64 base
  | 1 => .int .i64 total
  | 2 => .pointer (some ⟨kb, 0, none⟩)
  | _ => v

/-- A slide in block s: what is kept in kb, kg; the counts in q. -/
structure Sl (w : World) (s kb kg q base e : Nat) (N : Nat → Bool) : Prop where
  own : w.rowIs s 87 4 (sf base (rk N e) kb (.slice (some ⟨q, 0, none⟩) (wds e) (wds e)))
  kept : Mp w kb kg e N
  row : w.rowIs q 3 (wds e) (fun i => .int .i64 (rk N (64 * i) : Nat))
  base : base ≤ 1048576

theorem rk_out {N : Nat → Bool} {e : Nat} (h : ∀ k, e ≤ k → N k = false) {m : Nat} (hm : e ≤ m) : rk N m = rk N e := by
  obtain ⟨d, rfl⟩ := Nat.le.dest hm
  rw [rk_add, rk_none d (fun j _ => h _ (by omega)), Nat.add_zero]

theorem row_ne {w : World} {b k n : Nat} {t : TypeId} {f : Nat → Value} (h : w.rowIs b t n f) {v : Value} (hc : w.cell? ⟨k, 0, none⟩ = some v) (hne : 0 < n → f 0 ≠ v) : b ≠ k := by
  rintro rfl
  by_cases hn : 0 < n
  · rw [h.cell hn] at hc
    exact hne hn (Option.some.inj hc)
  · obtain ⟨c, h1, h2, -⟩ := h
    rw [cell_of_row _ _ 0 _ _ _ h1] at hc
    have : c.size = 0 := by omega
    simp [Array.getElem?_eq_none (show c.size ≤ 0 by omega)] at hc

theorem Mp.off {w : World} {b g n : Nat} {M : Nat → Bool} (h : Mp w b g n M) (hL : Laid w) : g ≠ 0 ∧ g ≠ 1 :=
  ⟨row_ne h.row (hL.hb 0 (by decide)) (fun _ e => by cases e), row_ne h.row (hL.tz 0 (by decide)) (fun _ e => by cases e)⟩

theorem sf_off {w : World} {s base total kb : Nat} {v : Value} (h : w.rowIs s 87 4 (sf base total kb v)) (hL : Laid w) : s ≠ 0 ∧ s ≠ 1 := by
  constructor
  · rintro rfl
    have h1 := hL.hb 2 (by decide)
    rw [h.cell (i := 2) (by decide)] at h1
    cases h1
  · rintro rfl
    have h1 := hL.tz 2 (by decide)
    rw [h.cell (i := 2) (by decide)] at h1
    cases h1

theorem Tryd.infoInt : (Tryd.prog.info? 3).map (fun i => (i.zero, i.size, i.bytes)) = some (some (.int .i64 0), 1, 8) := by kernel_rfl

set_option maxRecDepth 100000 in
set_option maxHeartbeats 8000000 in
theorem tally_any (s kb kg base e : Nat) (N : Nat → Bool) (hbs : base ≤ 1048576) (w : World) (hs : w.rowIs s 87 4 (sf base 0 kb (.slice none 0 0))) (hM : Mp w kb kg e N) (hL : Laid w) :
    Calls Tryd.prog 43 #[.pointer (some ⟨s, 0, none⟩)] w fun r w' => r = .returned (.tuple #[]) ∧ (∃ q, w.heap.size ≤ q ∧ Sl w' s kb kg q base e N) ∧ Touch [s] w w' := by
  have hn := hM.le
  have hsl := hs.lt
  have hkl := hM.own.lt
  have hgl := hM.row.lt
  have k0 : w.cell? ⟨s, 2, none⟩ = some (.pointer (some ⟨kb, 0, none⟩)) := hs.cell (i := 2) (by decide)
  have k1 := hM.c1
  have k2 : w.cell? ⟨s, 3, none⟩ = some (.slice none 0 0) := hs.cell (i := 3) (by decide)
  have k3 := hs.frozen 3
  have hsk : s ≠ kb := by
    rintro rfl
    obtain ⟨c1, h1, -, -⟩ := hs
    obtain ⟨c2, h2, -, -⟩ := hM.own
    rw [h1] at h2
    simp only [Option.some.injEq, Obj.cells.injEq] at h2
    exact absurd h2.2.1 (by decide)
  have hsg : s ≠ kg := by
    rintro rfl
    obtain ⟨c1, h1, -, -⟩ := hs
    obtain ⟨c2, h2, -, -⟩ := hM.row
    rw [h1] at h2
    simp only [Option.some.injEq, Obj.cells.injEq] at h2
    exact absurd h2.2.1 (by decide)
  obtain ⟨i0, hi0, hz0, hz1, hz2⟩ := info_parts Tryd.infoInt
  have hLe : wds e ≤ 16384 := by unfold wds; omega
  have hmk : ∀ w, (Instr.makeSlice 64 (.int .i64 (wds e : Nat)) (.int .i64 (wds e : Nat))).run Tryd.prog w = .ok (.slice (some ⟨w.heap.size, 0, none⟩) (wds e) (wds e)) (w.alloc (.cells (madeCells #[.int .i64 0] (wds e)) 3)) := fun w => by
    have := run_make (P := Tryd.prog) w 64 3 i0 (.int .i64 0) Tryd.underlying64 hi0 hz0 .i64 .i64 (wds e : Nat) (wds e : Nat) (by omega) (Int.le_refl _) (by rw [hz2]; omega) (by omega)
    rw [hz1, Nat.mul_one, Int.toNat_natCast] at this
    exact this
  have HS : Hid (w.rowIs s 87 4 (sf base 0 kb (.slice none 0 0))) := hs
  have HM : Hid (Mp w kb kg e N) := hM
  have HL : Hid (Laid w) := hL
  clear hi0 hz0 hz1 hz2 hs hM hL
  go_enter Tryd.func43, Tryd.ntmps43
  go_wp2
  obtain ⟨q, hq⟩ : ∃ q, q = w.heap.size := ⟨_, rfl⟩
  obtain ⟨W1, hW1⟩ : ∃ W1, W1 = (w.setCell ⟨s, 3, none⟩ (.slice (some ⟨w.heap.size, 0, none⟩) (wds e) (wds e))).alloc (.cells (madeCells #[.int .i64 0] (wds e)) 3) := ⟨_, rfl⟩
  have r1 : W1.rowIs s 87 4 (sf base 0 kb (.slice (some ⟨q, 0, none⟩) (wds e) (wds e))) := by
    rw [hW1, hq]
    refine ((HS.out.set 3 _).alloc _).congr ?_
    intro i hi
    match i, hi with
    | 0, _ | 1, _ | 2, _ | 3, _ => rfl
    | j + 4, h => exact absurd h (by omega)
  have r2 : W1.rowIs q 3 (wds e) (fun j => .int .i64 (if j < 0 then rk N (64 * j) else 0 : Nat)) := by
    rw [hW1, hq]
    have := World.rowIs_made (w.setCell ⟨s, 3, none⟩ (.slice (some ⟨w.heap.size, 0, none⟩) (wds e) (wds e))) (.int .i64 0) (wds e) 3
    rw [World.size_setCell] at this
    exact this.congr (fun i _ => by simp)
  have t1 : Touch [s] w W1 := by
    rw [hW1]; exact (Touch.setCell _ _ _ (by simp)).trans (Touch.alloc [s] _ _)
  have hqs : w.heap.size ≤ q := by omega
  rw [← hW1]
  rw [← hq]
  clear hW1 hq k0 k1 k2 k3 hmk
  go_loopw [24] (fun v wr => ∃ i : Nat, v = .int .i64 i ∧ i ≤ wds e ∧ wr.rowIs s 87 4 (sf base (rk N (64 * i)) kb (.slice (some ⟨q, 0, none⟩) (wds e) (wds e))) ∧ wr.rowIs q 3 (wds e) (fun j => .int .i64 (if j < i then rk N (64 * j) else 0 : Nat)) ∧ Touch [s] w wr) (fun v _ => (wds e - intOf v).toNat)
  case atStart => exact ⟨0, rfl, Nat.zero_le _, r1, r2, t1⟩
  case round =>
    obtain ⟨i, rfl, hi, h1, h2, h3⟩ := hrel
    have hMr := HM.out.touch h3 (by simp; omega) (by simp; omega)
    have HM2 : Hid (Mp wr kb kg e N) := hMr
    have H1 : Hid (wr.rowIs s 87 4 (sf base (rk N (64 * i)) kb (.slice (some ⟨q, 0, none⟩) (wds e) (wds e)))) := h1
    have H2 : Hid (wr.rowIs q 3 (wds e) (fun j => .int .i64 (if j < i then rk N (64 * j) else 0 : Nat))) := h2
    have H3 : Hid (Touch [s] w wr) := h3
    by_cases hlt : i < wds e
    · have c0 := hMr.at hlt
      have c1 : wr.cell? ⟨s, 3, none⟩ = some (.slice (some ⟨q, 0, none⟩) (wds e) (wds e)) := h1.cell (i := 3) (by decide)
      have c2 : wr.cell? ⟨s, 1, none⟩ = some (.int .i64 (rk N (64 * i) : Nat)) := h1.cell (i := 1) (by decide)
      have c3 := h2.cell hlt
      have c4 := h2.frozen i
      have hrl := rk_le N (64 * i)
      have hpw := pop_wd N i
      have hwl := wd_lt N i
      have hpl := pop_le (wd N i)
      have HR : Hid (rk N (64 * (i + 1)) = rk N (64 * i) + pop (wd N i)) := by
        show _ = _
        rw [show 64 * (i + 1) = 64 * i + 64 by omega]; omega
      clear h1 h2 h3 hMr hpw
      generalize hrk : rk N (64 * i) = rr at *
      generalize hww : wd N i = ww at *
      go_wp2
      refine quiet_tail 10 mixed (by kernel_rfl) ?_
      simp only [List.take_succ_cons, List.take_zero, List.drop_succ_cons, List.drop_zero]
      repeat (go_big_quiet_step (fail))
      refine wpQuiet_nil ?_
      have c5 : wr.drew.cell? ⟨q, i, none⟩ = some (.int .i64 (if i < i then rr else 0 : Nat)) := c3
      have c6 : wr.drew.frozen? ⟨q, i, none⟩ = false := c4
      clear c0 c1 c2 c3 c4
      go_upto_region 5 with fail
      have hqne : q ≠ s := by omega
      obtain ⟨w5, hw5⟩ : ∃ w5, w5 = (wr.setCell ⟨q, i, none⟩ (.int .i64 rr)).drew := ⟨_, rfl⟩
      have d1 : w5.rowIs s 87 4 (sf base rr kb (.slice (some ⟨q, 0, none⟩) (wds e) (wds e))) := by rw [hw5]; exact (H1.out.setOther (by simp only [ne_eq]; omega) _).drew
      have d2 : w5.rowIs q 3 (wds e) (fun j => .int .i64 (if j < i + 1 then rk N (64 * j) else 0 : Nat)) := by
        rw [hw5]
        refine ((H2.out.set i _).congr ?_).drew
        intro j hj
        by_cases h1 : j = i
        · subst h1; simp [hrk]
        · by_cases h2 : j < i
          · simp [h1, h2, show j < i + 1 by omega]
          · simp [h1, h2, show ¬ j < i + 1 by omega]
      have d3 : Touch [s] w w5 := by
        rw [hw5]
        exact (H3.out.then (Touch.setCell (F := [q]) _ ⟨q, i, none⟩ _ (by simp)) (fun x hx => by simp at hx; subst hx; right; omega)).trans (Touch.drewN [s] _ 1)
      rw [← hw5]
      clear hw5 c5 c6
      have hso := sf_off HS.out HL.out
      have hL5 : Laid w5 := HL.out.touch d3 (by simp; omega) (by simp; omega)
      have hon := ones_any ww hwl w5.drew (hL5.below (below_drewN (Below.refl _ _) 1))
      have hon' : Calls Tryd.prog 28 #[.int .u64 ww] w5.drew fun e w'' => e = .returned (.int .i64 (pop ww : Nat)) ∧ w'' = w5.drew := hon.mono (fun _ _ h => ⟨h.1, h.2.symm⟩)
      clear hon hL5
      have c1 : w5.cell? ⟨s, 1, none⟩ = some (.int .i64 (rr : Nat)) := d1.cell (i := 1) (by decide)
      have c2 := d1.frozen 1
      have D1 : Hid (w5.rowIs s 87 4 (sf base rr kb (.slice (some ⟨q, 0, none⟩) (wds e) (wds e)))) := d1
      have D2 : Hid (w5.rowIs q 3 (wds e) (fun j => .int .i64 (if j < i + 1 then rk N (64 * j) else 0 : Nat))) := d2
      have D3 : Hid (Touch [s] w w5) := d3
      clear d1 d2 d3 H1 H2 H3 HM2 hrk hww
      generalize pop ww = pp at *
      refine quiet_tail 9 mixed (by kernel_rfl) ?_
      simp only [List.take_succ_cons, List.take_zero, List.drop_succ_cons, List.drop_zero]
      repeat (go_big_quiet_step (exact hon' _))
      refine wpQuiet_nil ?_
      have c3 : w5.drew.cell? ⟨s, 1, none⟩ = some (.int .i64 (rr : Nat)) := c1
      have c4 : w5.drew.frozen? ⟨s, 1, none⟩ = false := c2
      clear c1 c2 hon'
      go_wp2
      go_roundw
      case rel =>
        refine ⟨i + 1, rfl, by omega, ?_, D2.out.drew.setOther (by simp only [ne_eq]; omega) _, (D3.out.trans (Touch.drewN [s] w5 1)).trans (Touch.setCell _ _ _ (by simp))⟩
        refine (D1.out.drew.set 1 _).congr ?_
        intro j hj
        rw [HR.out]
        match j, hj with
        | 0, _ | 1, _ | 2, _ | 3, _ => simp [sf]
        | k + 4, h => exact absurd h (by omega)
      case measure => simp [intOf]; omega
    · have : i = wds e := by omega
      subst this
      go_wp2
      go_returns
      refine ⟨rfl, ⟨q, hqs, ?_, hMr, ?_, hbs⟩, h3⟩
      · rw [rk_out (N := N) (e := e) hMr.out (by unfold wds; omega)] at h1
        exact h1
      · exact h2.congr (fun j hj => by simp only [hj, if_true])
end Go.Proofs.YtlnfhnahnmblmabDoor
