/-
  SetPtr, SetRaw, SetHead of an object that stands.
-/
import Derived.Test.YtbdkcelggffneaaDoorH2
set_option linter.unusedVariables false
namespace Go.Proofs.YtbdkcelggffneaaDoor
open Go.RowKit

/-- A word of an arena is written through a piece of its words. -/
theorem set_ar (b g o n i : Nat) (c : Cfg) (x : Tps) (sw : Bool) (ws : Nat → Int) (v : Int) (hv : Wd v) (hi : i < n) (ho : (o : Int) + i < c.words) (w : World) (h : Ar w b g c x sw ws) :
    Calls Tryd.prog 34 #[.slice (some ⟨g, o, none⟩) n n, .int .i64 i, .int .u64 v] w fun e w' => e = .returned (.bool true) ∧ Ar w' b g c x sw (upd ws (o + i) v) ∧ Touch [g] w w' := by
  refine (set_in g o n n i v hi (Nat.le_refl _) _ w (h.row.cell (by omega)) (h.row.frozen _)).mono ?_
  rintro e w' ⟨rfl, rfl⟩
  exact ⟨rfl, h.set _ v hv, Touch.setCell _ _ _ (by simp)⟩

set_option maxHeartbeats 1000000 in
theorem setRaw_core (b : Nat) (a i v : Int) (sl : Value) (R : Ending → World → Prop) (w : World) (w1s : World → Prop)
    (ho : Calls Tryd.prog 54 #[.pointer (some ⟨b, 0, none⟩), .int .i64 a] w fun e w' => e = .returned sl ∧ w1s w')
    (hs : ∀ w1, w1s w1 → Calls Tryd.prog 34 #[sl, .int .i64 i, .int .u64 v] w1 fun e w' => ∃ r, e = .returned (.bool r) ∧ R (.returned (.bool r)) w') :
    Calls Tryd.prog 39 #[.pointer (some ⟨b, 0, none⟩), .int .i64 a, .int .i64 i, .int .u64 v] w R := by
  have Hs : Hid (∀ w1, w1s w1 → Calls Tryd.prog 34 #[sl, .int .i64 i, .int .u64 v] w1 fun e w' => ∃ r, e = .returned (.bool r) ∧ R (.returned (.bool r)) w') := hs
  clear hs
  go_enter Tryd.func39, Tryd.ntmps39
  go_wp2_with fail
  refine ho.mono ?_
  rintro e w1 ⟨rfl, h1⟩
  go_wp2_with fail
  refine (Hs.out w1 h1).mono ?_
  rintro e w2 ⟨r, rfl, hR⟩
  go_wp2
  exact hR

theorem setRaw_in (b g : Nat) (c : Cfg) (x : Tps) (sw : Bool) (ws : Nat → Int) (a S : Int) (i : Nat) (v : Int) (hv : Wd v) (hS : spc c a = S) (hS0 : S ≠ 0) (ht : a < x.top S) (hs : Stands c ws (x.top S) a) (hi : (i : Int) < rwOf (wat c ws a)) (w : World) (h : Ar w b g c x sw ws) (hL : Laid w) :
    Calls Tryd.prog 39 #[.pointer (some ⟨b, 0, none⟩), .int .i64 a, .int .i64 i, .int .u64 v] w fun e w' => e = .returned (.bool true) ∧ Ar w' b g c x sw (upd ws (a.toNat + (2 + (ptOf (wat c ws a)).toNat) + i) v) ∧ Touch [g] w w' := by
  have hpos := spc_pos h.ok (a := a) (by rw [hS]; exact hS0)
  have hz := hs.2
  have hsub := h.sub_in S
  have hp := pt_in (wat c ws a)
  unfold osz at hz
  refine setRaw_core b a i v (.slice (some ⟨g, a.toNat + (2 + (ptOf (wat c ws a)).toNat), none⟩) (rwOf (wat c ws a)).toNat (rwOf (wat c ws a)).toNat) _ w (fun w1 => Below w.heap.size w w1) ?_ ?_
  · refine (raws_yes b g c x sw ws a S hS hS0 ht hs w h hL).mono ?_
    rintro e w' ⟨⟨ad, rfl, had⟩, l⟩
    exact ⟨by rw [had (by omega)], l⟩
  · intro w1 l
    refine (set_ar b g _ _ i c x sw ws v hv (by omega) (by omega) w1 (h.below l)).mono ?_
    rintro e w' ⟨rfl, ha, t⟩
    exact ⟨true, rfl, rfl, ha, (Touch.of_below l _).trans t⟩

theorem setRaw_out (b g : Nat) (c : Cfg) (x : Tps) (sw : Bool) (ws : Nat → Int) (a S i v : Int) (hS : spc c a = S) (hS0 : S ≠ 0) (ht : a < x.top S) (hs : Stands c ws (x.top S) a) (hi : ¬ (0 ≤ i ∧ i < rwOf (wat c ws a))) (w : World) (h : Ar w b g c x sw ws) (hL : Laid w) :
    Calls Tryd.prog 39 #[.pointer (some ⟨b, 0, none⟩), .int .i64 a, .int .i64 i, .int .u64 v] w fun e w' => e = .returned (.bool false) ∧ Below w.heap.size w w' := by
  have hr := rw_in (wat c ws a)
  have hsp := raws_yes b g c x sw ws a S hS hS0 ht hs w h hL
  have Hs : ∀ ad w1, Calls Tryd.prog 34 #[.slice ad (rwOf (wat c ws a)).toNat (rwOf (wat c ws a)).toNat, .int .i64 i, .int .u64 v] w1 fun e w' => e = .returned (.bool false) ∧ w1 = w' := fun ad w1 => set_out ad _ _ i v (by omega) w1
  have HS : Hid (∀ ad w1, Calls Tryd.prog 34 #[.slice ad (rwOf (wat c ws a)).toNat (rwOf (wat c ws a)).toNat, .int .i64 i, .int .u64 v] w1 fun e w' => e = .returned (.bool false) ∧ w1 = w') := Hs
  clear Hs h hL hs ht hi hr
  generalize (rwOf (wat c ws a)).toNat = n at hsp HS
  go_enter Tryd.func39, Tryd.ntmps39
  go_wp2_with fail
  refine hsp.mono ?_
  rintro e w1 ⟨⟨ad, rfl, -⟩, l⟩
  go_wp2_with fail
  refine (HS.out ad w1).mono ?_
  rintro e w2 ⟨rfl, rfl⟩
  go_wp2
  go_ret
  exact ⟨rfl, l⟩

set_option maxHeartbeats 1000000 in
theorem setPtr_core (b g N : Nat) (a i t : Int) (R : Ending → World → Prop) (w : World) (ht0 : 0 ≤ t) (ht1 : t < N) (hN : (N : Int) ≤ 262145) (k14 : w.cell? ⟨b, 14, none⟩ = some (.slice (some ⟨g, 0, none⟩) N N)) (sl : Option Addr → Value) (w1s : Option Addr → World → Prop)
    (ho : Calls Tryd.prog 53 #[.pointer (some ⟨b, 0, none⟩), .int .i64 a] w fun e w' => ∃ ad, e = .returned (sl ad) ∧ w1s ad w')
    (hs : ∀ ad w1, w1s ad w1 → Calls Tryd.prog 34 #[sl ad, .int .i64 i, .int .u64 t] w1 fun e w' => ∃ r, e = .returned (.bool r) ∧ R (.returned (.bool r)) w') :
    Calls Tryd.prog 38 #[.pointer (some ⟨b, 0, none⟩), .int .i64 a, .int .i64 i, .int .i64 t] w R := by
  have Hs : Hid (∀ ad w1, w1s ad w1 → Calls Tryd.prog 34 #[sl ad, .int .i64 i, .int .u64 t] w1 fun e w' => ∃ r, e = .returned (.bool r) ∧ R (.returned (.bool r)) w') := hs
  have hd : decide (0 ≤ t ∧ t < (N : Int)) = true := decide_eq_true (by omega)
  clear hs
  go_enter Tryd.func38, Tryd.ntmps38
  go_wp2_with fail
  refine (has_any _ _ _ _ _).mono ?_
  rintro e w' ⟨rfl, rfl⟩
  rw [hd]
  go_wp2_with fail
  refine ho.mono ?_
  rintro e w1 ⟨ad, rfl, h1⟩
  go_wp2_with fail
  refine (Hs.out ad w1 h1).mono ?_
  rintro e w2 ⟨r, rfl, hR⟩
  go_wp2
  exact hR

theorem setPtr_in (b g : Nat) (c : Cfg) (x : Tps) (sw : Bool) (ws : Nat → Int) (a S t : Int) (i : Nat) (ht0 : 0 ≤ t) (ht1 : t < c.words) (hS : spc c a = S) (hS0 : S ≠ 0) (ht : a < x.top S) (hs : Stands c ws (x.top S) a) (hi : (i : Int) < ptOf (wat c ws a)) (w : World) (h : Ar w b g c x sw ws) (hL : Laid w) :
    Calls Tryd.prog 38 #[.pointer (some ⟨b, 0, none⟩), .int .i64 a, .int .i64 i, .int .i64 t] w fun e w' => e = .returned (.bool true) ∧ Ar w' b g c x sw (upd ws (a.toNat + 2 + i) t) ∧ Touch [g] w w' := by
  have hpos := spc_pos h.ok (a := a) (by rw [hS]; exact hS0)
  have hz := hs.2
  have hsub := h.sub_in S
  have hw := h.words
  have hr := rw_in (wat c ws a)
  unfold osz at hz
  refine setPtr_core b g c.words.toNat a i t _ w ht0 (by omega) (by omega) h.cell14 (fun ad => .slice ad (ptOf (wat c ws a)).toNat (ptOf (wat c ws a)).toNat) (fun ad w1 => ad = some ⟨g, a.toNat + 2, none⟩ ∧ Below w.heap.size w w1) ?_ ?_
  · refine (ptrs_yes b g c x sw ws a S hS hS0 ht hs w h hL).mono ?_
    rintro e w' ⟨⟨ad, rfl, had⟩, l⟩
    exact ⟨ad, rfl, had (by omega), l⟩
  · rintro ad w1 ⟨rfl, l⟩
    refine (set_ar b g _ _ i c x sw ws t ⟨ht0, by omega⟩ (by omega) (by omega) w1 (h.below l)).mono ?_
    rintro e w' ⟨rfl, ha, t⟩
    exact ⟨true, rfl, rfl, ha, (Touch.of_below l _).trans t⟩

theorem setPtr_out (b g : Nat) (c : Cfg) (x : Tps) (sw : Bool) (ws : Nat → Int) (a S t i : Int) (ht0 : 0 ≤ t) (ht1 : t < c.words) (hS : spc c a = S) (hS0 : S ≠ 0) (ht : a < x.top S) (hs : Stands c ws (x.top S) a) (hi : ¬ (0 ≤ i ∧ i < ptOf (wat c ws a))) (w : World) (h : Ar w b g c x sw ws) (hL : Laid w) :
    Calls Tryd.prog 38 #[.pointer (some ⟨b, 0, none⟩), .int .i64 a, .int .i64 i, .int .i64 t] w fun e w' => e = .returned (.bool false) ∧ Below w.heap.size w w' := by
  have hw := h.words
  have hr := pt_in (wat c ws a)
  refine setPtr_core b g c.words.toNat a i t _ w ht0 (by omega) (by omega) h.cell14 (fun ad => .slice ad (ptOf (wat c ws a)).toNat (ptOf (wat c ws a)).toNat) (fun ad w1 => Below w.heap.size w w1) ?_ ?_
  · refine (ptrs_yes b g c x sw ws a S hS hS0 ht hs w h hL).mono ?_
    rintro e w' ⟨⟨ad, rfl, had⟩, l⟩
    exact ⟨ad, rfl, l⟩
  · intro ad w1 l
    refine (set_out ad _ _ i t (by omega) w1).mono ?_
    rintro e w' ⟨rfl, rfl⟩
    exact ⟨false, rfl, rfl, l⟩

end Go.Proofs.YtbdkcelggffneaaDoor
