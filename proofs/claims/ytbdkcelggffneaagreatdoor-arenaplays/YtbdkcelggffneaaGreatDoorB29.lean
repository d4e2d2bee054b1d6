/-
  The two arenas side by side: writes of the kinds 3, 7, 8; a step that writes.
-/
import Derived.Test.YtbdkcelggffneaaGreatDoorB28
set_option linter.unusedVariables false
set_option maxRecDepth 20000
namespace Go.Proofs.YtbdkcelggffneaaGreatDoor
open Go.RowKit Go.Shelf

section
variable (p a h r : Nat) (g : Nat → Nat) (c : Cfg) (x : Tps) (sw : Bool) (ws : Nat → Int)

set_option maxHeartbeats 4000000 in
theorem write3_any (o : Opg) (ho : o.k = 3) (w : World) (hB : Bx w p a h r g c x sw ws) :
    Calls Tryz.prog 17 #[.pointer (some ⟨p, 0, none⟩), o.val] w (Wrote p a h r g c w) := by
  have l0 : Hid (Below w.heap.size w (w.alloc (.cells o.cells 33))) := Below.alloc (Below.refl _ _) (Nat.le_refl _) _
  have hO := Ob.new w o
  have hB0 := hB.below l0.out
  have HB : Hid (Bx (w.alloc (.cells o.cells 33)) p a h r g c x sw ws) := hB0
  have hc := swap_any a h c x sw ws _ hB0.bo.ar
  clear hB hB0
  unfold Wrote
  go_enter Tryz.func17, Tryz.ntmps17
  go_upto_region 1 with fail
  have k0 : (w.alloc (.cells o.cells 33)).cell? ⟨w.heap.size, 0, none⟩ = some (.int .i64 3) := by rw [hO.cell 0, ← ho]; rfl
  clear hO
  generalize w.alloc (.cells o.cells 33) = v at *
  have c0 := HB.out.bo.c0
  go_wp2_with fail
  refine hc.mono ?_
  rintro e w1 ⟨rfl, hA1, t1, _⟩
  have tv : Touch [a, h] v w1 := t1.mono (fun k hk => .inl (by simp at hk; simp [hk]))
  obtain ⟨q1, q2, q3⟩ := HB.out.got hA1 tv
  have HA1 : Hid (Ar w1 a h c x (!sw) ws ∧ Touch [a, h] v w1) := ⟨hA1, tv⟩
  have hc2 := rswap_any r g c x sw ws w1 q2
  have c1 : w1.cell? ⟨p, 1, none⟩ = some (.pointer (some ⟨r, 0, none⟩)) := Ow.c1 q1
  clear k0 c0 hc hA1 t1 tv q1 q2 q3
  go_wp2_with fail
  refine hc2.mono ?_
  rintro e w2 ⟨rfl, hR2, t2⟩
  obtain ⟨z1, z2⟩ := HB.out.want HA1.out.1 HA1.out.2 hR2 t2
  have HZ : Hid (Bx w2 p a h r g c x (!sw) ws ∧ Touch (a :: h :: rft r g) w w2) := ⟨z1, (Touch.of_below l0.out _).trans z2⟩
  clear c1 hc2 t2 hR2 z1 z2 HA1 HB
  go_wp2
  go_ret
  exact ⟨rfl, _, _, _, HZ.out.1, HZ.out.2⟩

theorem spc_nn {c : Cfg} (ok : c.Ok) {a : Int} (h : spc c a ≠ 0) : 0 ≤ a := by
  have := spc_pos ok (a := a) h
  omega

theorem write7_any (o : Opg) (ho : o.k = 7) (w : World) (hB : Bx w p a h r g c x sw ws) :
    Calls Tryz.prog 17 #[.pointer (some ⟨p, 0, none⟩), o.val] w (Wrote p a h r g c w) := by
  have hwd := hB.bo.ar.wat_wd o.at_
  by_cases hy : At c x ws o.at_ ∧ (0 ≤ o.i ∧ o.i < ptOf (wat c ws o.at_)) ∧ (0 ≤ o.n ∧ o.n < c.words)
  · obtain ⟨hat, hi, hv⟩ := hy
    obtain ⟨j, hj⟩ : ∃ j : Nat, o.i = j := ⟨o.i.toNat, by omega⟩
    have h0 := spc_nn hB.bo.ar.ok hat.1
    have e1 : (o.at_ + 2 + o.i).toNat = o.at_.toNat + 2 + j := by omega
    refine (write7_core p a h r g c x sw ws true x sw (upd ws (o.at_.toNat + 2 + j) o.n) o ho (fun w1 H1 => ?_) (fun w1 H1 => ?_) w hB).mono (fun e w' hh => ⟨hh.1, _, _, _, hh.2.1, hh.2.2⟩)
    · rw [hj]; exact (setPtr_in a h c x sw ws o.at_ _ o.n j hv.1 hv.2 rfl hat.1 hat.2.1 hat.2.2 (by omega) w1 H1.bo.ar H1.bo.la).mono (fun e w' hh => ⟨hh.1, hh.2.1, hh.2.2.mono (fun k hk => .inl (by simp at hk; simp [hk]))⟩)
    · rw [← e1]; exact rsetPtr_yes r g c x sw ws o.at_ o.i o.n hat hi.1 hi.2 hv.1 hv.2 hwd w1 H1
  · refine (write7_core p a h r g c x sw ws false x sw ws o ho (fun w1 H1 => ?_) (fun w1 H1 => ?_) w hB).mono (fun e w' hh => ⟨hh.1, _, _, _, hh.2.1, hh.2.2⟩)
    · by_cases hv : 0 ≤ o.n ∧ o.n < c.words
      · exact (setPtr_no a h c x sw ws o.at_ o.i o.n hv.1 hv.2 (fun hh => hy ⟨hh.1, hh.2, hv⟩) w1 H1.bo.ar H1.bo.la).mono (fun e w' hh => ⟨hh.1, ar_same H1.bo.ar hh.2⟩)
      · exact (setPtr_far a h c x sw ws o.at_ o.i o.n hv w1 H1.bo.ar).mono (fun e w' hh => ⟨hh.1, ar_same H1.bo.ar hh.2⟩)
    · exact (rsetPtr_no r g c x sw ws o.at_ o.i o.n hy hwd w1 H1).mono (fun e w' hh => ⟨hh.1, H1.below hh.2, Touch.of_below hh.2 _⟩)

theorem write8_any (o : Opg) (ho : o.k = 8) (hu : Wd o.u) (w : World) (hB : Bx w p a h r g c x sw ws) :
    Calls Tryz.prog 17 #[.pointer (some ⟨p, 0, none⟩), o.val] w (Wrote p a h r g c w) := by
  have hwd := hB.bo.ar.wat_wd o.at_
  by_cases hy : At c x ws o.at_ ∧ (0 ≤ o.i ∧ o.i < rwOf (wat c ws o.at_))
  · obtain ⟨hat, hi⟩ := hy
    obtain ⟨j, hj⟩ : ∃ j : Nat, o.i = j := ⟨o.i.toNat, by omega⟩
    have h0 := spc_nn hB.bo.ar.ok hat.1
    have hp := pt_in (wat c ws o.at_)
    have e1 : (o.at_ + 2 + ptOf (wat c ws o.at_) + o.i).toNat = o.at_.toNat + (2 + (ptOf (wat c ws o.at_)).toNat) + j := by omega
    refine (write8_core p a h r g c x sw ws true x sw (upd ws (o.at_.toNat + (2 + (ptOf (wat c ws o.at_)).toNat) + j) o.u) o ho (fun w1 H1 => ?_) (fun w1 H1 => ?_) w hB).mono (fun e w' hh => ⟨hh.1, _, _, _, hh.2.1, hh.2.2⟩)
    · rw [hj]; exact (setRaw_in a h c x sw ws o.at_ _ j o.u hu rfl hat.1 hat.2.1 hat.2.2 (by omega) w1 H1.bo.ar H1.bo.la).mono (fun e w' hh => ⟨hh.1, hh.2.1, hh.2.2.mono (fun k hk => .inl (by simp at hk; simp [hk]))⟩)
    · rw [← e1]; exact rsetRaw_yes r g c x sw ws o.at_ o.i o.u hat hi.1 hi.2 hwd w1 H1
  · refine (write8_core p a h r g c x sw ws false x sw ws o ho (fun w1 H1 => ?_) (fun w1 H1 => ?_) w hB).mono (fun e w' hh => ⟨hh.1, _, _, _, hh.2.1, hh.2.2⟩)
    · exact (setRaw_no a h c x sw ws o.at_ o.i o.u hy w1 H1.bo.ar H1.bo.la).mono (fun e w' hh => ⟨hh.1, ar_same H1.bo.ar hh.2⟩)
    · exact (rsetRaw_no r g c x sw ws o.at_ o.i o.u hy hwd w1 H1).mono (fun e w' hh => ⟨hh.1, H1.below hh.2, Touch.of_below hh.2 _⟩)

set_option maxHeartbeats 4000000 in
theorem stepw_any (o : Opg) (h1 : 1 ≤ o.k) (h9 : o.k ≤ 9) (hw : ∀ w1, Bx w1 p a h r g c x sw ws → Calls Tryz.prog 17 #[.pointer (some ⟨p, 0, none⟩), o.val] w1 (Wrote p a h r g c w1)) (w : World) (hB : Bx w p a h r g c x sw ws) :
    Calls Tryz.prog 7 #[.pointer (some ⟨p, 0, none⟩), o.val] w (Wrote p a h r g c w) := by
  have l0 : Hid (Below w.heap.size w (w.alloc (.cells o.cells 33))) := Below.alloc (Below.refl _ _) (Nat.le_refl _) _
  have hO := Ob.new w o
  have hc := hw _ (hB.below l0.out)
  clear hB hw
  unfold Wrote
  go_enter Tryz.func7, Tryz.ntmps7
  go_upto_region 1 with fail
  have k0 : (w.alloc (.cells o.cells 33)).cell? ⟨w.heap.size, 0, none⟩ = some (.int .i64 o.k) := hO.cell 0
  have HO : Hid (Ob (w.alloc (.cells o.cells 33)) w.heap.size o) := hO
  clear hO
  generalize w.alloc (.cells o.cells 33) = v at *
  go_wp2_with (first
    | refine wpList_load_row rfl 33 _ rfl _ rfl _ _ _ _ HO.out.is Tryz.underlying33 rfl (by kernel_rfl) ?_)
  refine hc.mono ?_
  rintro e w1 ⟨rfl, x', sw', ws', hB1, t1⟩
  have HZ : Hid (Bx w1 p a h r g c x' sw' ws' ∧ Touch (a :: h :: rft r g) w w1) := ⟨hB1, (Touch.of_below l0.out _).trans t1⟩
  clear hc k0 HO hB1 t1
  go_wp2
  go_ret
  exact ⟨rfl, _, _, _, HZ.out.1, HZ.out.2⟩
end

end Go.Proofs.YtbdkcelggffneaaGreatDoor
