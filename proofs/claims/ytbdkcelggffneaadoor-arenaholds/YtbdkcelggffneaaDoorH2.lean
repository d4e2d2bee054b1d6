/-
  Ptr, Raw, SetPtr, SetRaw of an object that stands.
-/
import Derived.Test.YtbdkcelggffneaaDoorH1
set_option linter.unusedVariables false
namespace Go.Proofs.YtbdkcelggffneaaDoor
open Go.RowKit

set_option maxHeartbeats 1000000 in
theorem ptr_core (b g o n N i : Nat) (a v : Int) (hi : i < n) (hv0 : 0 ≤ v) (hv1 : v < N) (hN : (N : Int) ≤ 262145) (w : World)
    (hb : b < w.heap.size) (hg : g < w.heap.size) (k14 : w.cell? ⟨b, 14, none⟩ = some (.slice (some ⟨g, 0, none⟩) N N)) (kc : w.cell? ⟨g, o + i, none⟩ = some (.int .u64 v))
    (ho : Calls Tryd.prog 53 #[.pointer (some ⟨b, 0, none⟩), .int .i64 a] w fun e w' => e = .returned (.slice (some ⟨g, o, none⟩) n n) ∧ Below w.heap.size w w') :
    Calls Tryd.prog 41 #[.pointer (some ⟨b, 0, none⟩), .int .i64 a, .int .i64 i] w fun e w' => e = .returned (.tuple #[.int .i64 v, .bool true]) ∧ Below w.heap.size w w' := by
  have hd : decide (0 ≤ (i : Int) ∧ (i : Int) < (n : Int)) = true := decide_eq_true (by omega)
  have hii : (i : Int) < (n : Int) := by omega
  go_enter Tryd.func41, Tryd.ntmps41
  go_wp2_with fail
  refine ho.mono ?_
  rintro e w1 ⟨rfl, b1⟩
  have k1 := (b1.cell (p := ⟨b, 14, none⟩) hb).trans k14
  have k2 := (b1.cell (p := ⟨g, o + i, none⟩) hg).trans kc
  have Hh : Hid (∀ w, Calls Tryd.prog 33 #[.slice (some ⟨g, o, none⟩) n n, .int .i64 i] w fun e w' => e = .returned (.bool true) ∧ w' = w) := fun w => (has_any _ _ _ _ w).mono (fun e w' ⟨h1, h2⟩ => ⟨by rw [h1, hd], h2.symm⟩)
  clear ho k14 kc hd
  go_upto_region 2 with fail
  go_quiet ((go_at_call 33; exact Calls.quiet_of_same (Hh.out _)))
  go_wp2
  go_ret2
  exact ⟨rfl, below_drewN b1 _⟩

theorem ptr_yes (b g : Nat) (c : Cfg) (x : Tps) (sw : Bool) (ws : Nat → Int) (a S : Int) (i : Nat) (hS : spc c a = S) (hS0 : S ≠ 0) (ht : a < x.top S) (hs : Stands c ws (x.top S) a) (hi : (i : Int) < ptOf (wat c ws a)) (hv : wat c ws (a + 2 + i) < c.words) (w : World) (h : Ar w b g c x sw ws) (hL : Laid w) :
    Calls Tryd.prog 41 #[.pointer (some ⟨b, 0, none⟩), .int .i64 a, .int .i64 i] w fun e w' => e = .returned (.tuple #[.int .i64 (wat c ws (a + 2 + i)), .bool true]) ∧ Below w.heap.size w w' := by
  have hpos := spc_pos h.ok (a := a) (by rw [hS]; exact hS0)
  have hw := h.words
  have hz := hs.2
  have hsub := h.sub_in S
  have hr := rw_in (wat c ws a)
  unfold osz at hz
  have hN : (c.words.toNat : Int) = c.words := Int.toNat_of_nonneg (by omega)
  refine ptr_core b g (a.toNat + 2) (ptOf (wat c ws a)).toNat c.words.toNat i a _ (by omega) (h.wat_wd _).1 (by omega) (by omega) w h.own.lt h.row.lt h.cell14 (h.cellW (a + 2 + i) (by omega) (by omega) (a.toNat + 2 + i) (by omega)) ?_
  refine (ptrs_yes b g c x sw ws a S hS hS0 ht hs w h hL).mono ?_
  rintro e w' ⟨⟨ad, rfl, had⟩, l⟩
  exact ⟨by rw [had (by omega)], l⟩

set_option maxHeartbeats 1000000 in
theorem raw_core (b g o n i : Nat) (a v : Int) (hi : i < n) (w : World) (hg : g < w.heap.size) (kc : w.cell? ⟨g, o + i, none⟩ = some (.int .u64 v))
    (ho : Calls Tryd.prog 54 #[.pointer (some ⟨b, 0, none⟩), .int .i64 a] w fun e w' => e = .returned (.slice (some ⟨g, o, none⟩) n n) ∧ Below w.heap.size w w') :
    Calls Tryd.prog 42 #[.pointer (some ⟨b, 0, none⟩), .int .i64 a, .int .i64 i] w fun e w' => e = .returned (.tuple #[.int .u64 v, .bool true]) ∧ Below w.heap.size w w' := by
  have hd : decide (0 ≤ (i : Int) ∧ (i : Int) < (n : Int)) = true := decide_eq_true (by omega)
  have hii : (i : Int) < (n : Int) := by omega
  go_enter Tryd.func42, Tryd.ntmps42
  go_wp2_with fail
  refine ho.mono ?_
  rintro e w1 ⟨rfl, b1⟩
  have k2 := (b1.cell (p := ⟨g, o + i, none⟩) hg).trans kc
  clear ho kc
  go_wp2_with fail
  refine (has_any _ _ _ _ _).mono ?_
  rintro e w' ⟨rfl, rfl⟩
  rw [hd]
  go_wp2
  go_ret2
  exact ⟨rfl, b1⟩

theorem raw_yes (b g : Nat) (c : Cfg) (x : Tps) (sw : Bool) (ws : Nat → Int) (a S : Int) (i : Nat) (hS : spc c a = S) (hS0 : S ≠ 0) (ht : a < x.top S) (hs : Stands c ws (x.top S) a) (hi : (i : Int) < rwOf (wat c ws a)) (w : World) (h : Ar w b g c x sw ws) (hL : Laid w) :
    Calls Tryd.prog 42 #[.pointer (some ⟨b, 0, none⟩), .int .i64 a, .int .i64 i] w fun e w' => e = .returned (.tuple #[.int .u64 (wat c ws (a + 2 + ptOf (wat c ws a) + i)), .bool true]) ∧ Below w.heap.size w w' := by
  have hpos := spc_pos h.ok (a := a) (by rw [hS]; exact hS0)
  have hw := h.words
  have hz := hs.2
  have hsub := h.sub_in S
  have hp := pt_in (wat c ws a)
  unfold osz at hz
  refine raw_core b g (a.toNat + (2 + (ptOf (wat c ws a)).toNat)) (rwOf (wat c ws a)).toNat i a _ (by omega) w h.row.lt (h.cellW (a + 2 + ptOf (wat c ws a) + i) (by omega) (by omega) _ (by omega)) ?_
  refine (raws_yes b g c x sw ws a S hS hS0 ht hs w h hL).mono ?_
  rintro e w' ⟨⟨ad, rfl, had⟩, l⟩
  exact ⟨by rw [had (by omega)], l⟩

end Go.Proofs.YtbdkcelggffneaaDoor
