/-
  place, of numbers.
-/
import Derived.Test.YtcjblafohfiiaabGreatPl
set_option linter.unusedVariables false
namespace Go.Proofs.YtcjblafohfiiaabGreat
open Go.RowKit

theorem cmpI_any (x y : Int) (w : World) : Calls Tryz.prog 111 #[.int .i64 x, .int .i64 y] w fun e w' => e = .returned (.int .i64 (cmpOf ltI x y)) ∧ w' = w := by
  have h := Tryz.cmp_Compare_int x y w
  have e : Lib.compareInt x y = cmpOf ltI x y := by
    unfold Lib.compareInt cmpOf ltI
    simp only [decide_eq_true_eq]
  rw [e] at h
  exact h

set_option maxHeartbeats 1000000 in
theorem placeI_some (g cap base : Nat) (ks : List Int) (k : Int) (w : World) (hr : w.ownsRow base 3 1 (.slice (some ⟨g, 0, none⟩) ks.length cap) ks.length (ks.map (Value.int .i64))) (hs : Srt ltI ks) (hlen : ks.length < 1000000) :
    Calls Tryz.prog 87 #[.slice (some ⟨g, 0, none⟩) ks.length cap, .int .i64 k] w fun e w' => (∃ p, CutAt ltI ks k p ∧ e = .returned (.tuple #[.int .i64 p, .bool (decide (ks[p]? = some k))])) ∧ w' = w := by
  have Hcell : Hid (∀ (i : Nat) a, ks[i]? = some a → w.cell? ⟨g, i, none⟩ = some (.int .i64 a)) := fun i a h => by
    have hl := (List.getElem?_eq_some_iff.1 h).1
    rw [hr.cellAt _ (by omega)]; simp [h]
  clear hr
  go_enter Tryz.func87, Tryz.ntmps87
  go_wp2
  go_loop [6, 7] (fun lo be => ∃ l b : Nat, l ≤ b ∧ b ≤ ks.length ∧ lo = .int .i64 l ∧ be = .int .i64 b ∧ (∀ (i : Nat) a, i < l → ks[i]? = some a → ltI a k = true) ∧ (∀ (i : Nat) a, b ≤ i → ks[i]? = some a → ltI a k = false)) (fun lo be => (intOf be - intOf lo).toNat)
  case atStart => exact ⟨0, ks.length, Nat.zero_le _, Nat.le_refl _, rfl, rfl, fun i a h => by omega, fun i a h h1 => by rw [List.getElem?_eq_none h] at h1; cases h1⟩
  case round =>
    obtain ⟨l, b, hlb, hb, rfl, rfl, h1, h2⟩ := hrel
    have H1 : Hid (∀ (i : Nat) a, i < l → ks[i]? = some a → ltI a k = true) := h1
    have H2 : Hid (∀ (i : Nat) a, b ≤ i → ks[i]? = some a → ltI a k = false) := h2
    clear h1 h2
    by_cases hlt : l < b
    · obtain ⟨a, ha⟩ : ∃ a, ks[l + (b - l) / 2]? = some a := ⟨_, List.getElem?_eq_getElem (by omega)⟩
      have hm : w.cell? ⟨g, l + (b - l) / 2, none⟩ = some (.int .i64 a) := Hcell.out _ _ ha
      have hmi : (l : Int) + ((b : Int) - l) / 2 < ks.length := by omega
      have Ha : Hid (ks[l + (b - l) / 2]? = some a) := ha
      clear ha
      by_cases hc : ltI a k = true
      · have hneg : cmpOf ltI a k < 0 := (cmpOf_neg a k).2 hc
        have Hc : Hid (ltI a k = true) := hc
        clear hc
        go_wp2_with (go_at_call 111; refine (cmpI_any _ _ _).mono ?_; rintro e w' ⟨rfl, rfl⟩)
        go_round
        case rel => exact ⟨l + (b - l) / 2 + 1, b, by omega, hb, by go_num, rfl, hs.below sordI Ha.out Hc.out, H2.out⟩
        case measure => simp [intOf]; omega
      · have hneg : ¬ cmpOf ltI a k < 0 := fun h => hc ((cmpOf_neg a k).1 h)
        have Hc : Hid (ltI a k = false) := (by simpa using hc : ltI a k = false)
        clear hc
        go_wp2_with (go_at_call 111; refine (cmpI_any _ _ _).mono ?_; rintro e w' ⟨rfl, rfl⟩)
        go_round
        case rel => exact ⟨l, l + (b - l) / 2, by omega, by omega, rfl, by go_num, H1.out, hs.above sordI Ha.out Hc.out⟩
        case measure => simp [intOf]; omega
    · obtain rfl : l = b := by omega
      by_cases hn : l < ks.length
      · obtain ⟨a, ha⟩ : ∃ a, ks[l]? = some a := ⟨_, List.getElem?_eq_getElem hn⟩
        have hm : w.cell? ⟨g, l, none⟩ = some (.int .i64 a) := Hcell.out _ _ ha
        have hni : (l : Int) < ks.length := by omega
        have Ha : Hid (ks[l]? = some a) := ha
        clear ha
        have hd0 : (cmpOf ltI a k == 0) = decide (ks[l]? = some k) := by
          rw [Ha.out, Bool.eq_iff_iff]
          simp [cmpOf_zero sordI]
        obtain ⟨fd, hfd⟩ : ∃ fd : Bool, fd = decide (ks[l]? = some k) := ⟨_, rfl⟩
        have hd : (cmpOf ltI a k == 0) = fd := hd0.trans hfd.symm
        have Hfd : Hid (fd = decide (ks[l]? = some k)) := hfd
        clear hd0 hfd
        go_wp2_with (go_at_call 111; refine (cmpI_any _ _ _).mono ?_; rintro e w' ⟨rfl, rfl⟩)
        go_ret2
        exact ⟨⟨l, ⟨hb, H1.out, H2.out⟩, by rw [← Hfd.out]; rfl⟩, rfl⟩
      · have hni : ¬ (l : Int) < ks.length := by omega
        go_wp2
        go_ret2
        refine ⟨⟨l, ⟨hb, H1.out, H2.out⟩, ?_⟩, rfl⟩
        rw [List.getElem?_eq_none (by omega)]
        rfl

set_option maxHeartbeats 1000000 in
theorem placeI_nil (k : Int) (w : World) :
    Calls Tryz.prog 87 #[.slice none 0 0, .int .i64 k] w fun e w' => e = .returned (.tuple #[.int .i64 0, .bool false]) ∧ w' = w := by
  go_enter Tryz.func87, Tryz.ntmps87
  go_wp2
  refine wp_loop_rounds 1 ?_
  rw [rounds_succ]
  go_wp2
  go_ret2
  exact ⟨rfl, rfl⟩

theorem placeI_any (base : Nat) (v : Value) (ks : List Int) (k : Int) (w : World) (hr : w.ownsRow base 3 1 v ks.length (ks.map (Value.int .i64))) (hs : Srt ltI ks) (hlen : ks.length < 1000000) :
    Calls Tryz.prog 87 #[v, .int .i64 k] w fun e w' => (∃ p, CutAt ltI ks k p ∧ e = .returned (.tuple #[.int .i64 p, .bool (decide (ks[p]? = some k))])) ∧ w' = w := by
  rcases hr.2 with ⟨rfl, h0⟩ | ⟨g, cap, cur, rfl, _⟩
  · obtain rfl : ks = [] := List.eq_nil_of_length_eq_zero h0
    refine (placeI_nil k w).mono ?_
    rintro e w' ⟨rfl, rfl⟩
    exact ⟨⟨0, cut_nil k, rfl⟩, rfl⟩
  · exact placeI_some g cap base ks k w hr hs hlen

end Go.Proofs.YtcjblafohfiiaabGreat
