/-
  place: where a key stands.
-/
import Derived.Test.YtcjblafohfiiaabGreatSt
import Derived.Test.YtcjblafohfiiaabGreatShelf
import Derived.Test.YtcjblafohfiiaabGreatSrt
set_option linter.unusedVariables false
namespace Go.Proofs.YtcjblafohfiiaabGreat
open Go.RowKit

theorem nanT_any (x : ByteArray) (w : World) : Calls Tryz.prog 130 #[.string x] w fun e w' => e = .returned (.bool false) ∧ w' = w := by
  go_enter Tryz.func130, Tryz.ntmps130
  go_wp2
  go_ret
  exact ⟨by simp, rfl⟩

theorem less_same (l : List UInt8) : Op.bytesLess l l = false := by rw [less_lt]; simp

set_option maxHeartbeats 1000000 in
theorem cmpT_any (x y : ByteArray) (w : World) : Calls Tryz.prog 119 #[.string x, .string y] w fun e w' => e = .returned (.int .i64 (cmpOf ltS x y)) ∧ w' = w := by
  by_cases h1 : Op.bytesLess x.toList y.toList = true
  · have e : cmpOf ltS x y = -1 := by unfold cmpOf; rw [if_pos (show ltS x y = true from h1)]
    rw [e]; clear e
    go_enter Tryz.func119, Tryz.ntmps119
    go_wp2_with (go_at_call 130; refine (nanT_any _ _).mono ?_; rintro e w' ⟨rfl, rfl⟩)
    go_ret
    exact ⟨rfl, rfl⟩
  · have h1' : Op.bytesLess x.toList y.toList = false := by simpa using h1
    by_cases h2 : x = y
    · subst h2
      have e : cmpOf ltS x x = 0 := (cmpOf_zero sordS x x).2 rfl
      rw [e]; clear e h1
      go_enter Tryz.func119, Tryz.ntmps119
      go_wp2_with (go_at_call 130; refine (nanT_any _ _).mono ?_; rintro e w' ⟨rfl, rfl⟩)
      go_ret
      exact ⟨rfl, rfl⟩
    · have h3 : (x.toList == y.toList) = false := by
        rw [beq_eq_false_iff_ne]; exact fun e => h2 (toList_inj _ _ e)
      have e : cmpOf ltS x y = 1 := by
        unfold cmpOf; rw [if_neg (show ¬ ltS x y = true from h1), if_pos]
        by_cases h4 : ltS y x = true
        · exact h4
        · exact absurd (sordS.tri x y h1' (by simpa using h4)) h2
      rw [e]; clear e h1 h2
      go_enter Tryz.func119, Tryz.ntmps119
      go_wp2_with (go_at_call 130; refine (nanT_any _ _).mono ?_; rintro e w' ⟨rfl, rfl⟩)
      go_ret
      exact ⟨rfl, rfl⟩

set_option maxHeartbeats 1000000 in
theorem placeT_some (g cap base : Nat) (ks : List ByteArray) (k : ByteArray) (w : World) (hr : w.ownsRow base 9 1 (.slice (some ⟨g, 0, none⟩) ks.length cap) ks.length (ks.map Value.string)) (hs : Srt ltS ks) (hlen : ks.length < 1000000) :
    Calls Tryz.prog 96 #[.slice (some ⟨g, 0, none⟩) ks.length cap, .string k] w fun e w' => (∃ p, CutAt ltS ks k p ∧ e = .returned (.tuple #[.int .i64 p, .bool (decide (ks[p]? = some k))])) ∧ w' = w := by
  have Hcell : Hid (∀ (i : Nat) a, ks[i]? = some a → w.cell? ⟨g, i, none⟩ = some (.string a)) := fun i a h => by
    have hl := (List.getElem?_eq_some_iff.1 h).1
    rw [hr.cellAt _ (by omega)]; simp [h]
  clear hr
  go_enter Tryz.func96, Tryz.ntmps96
  go_wp2
  go_loop [6, 7] (fun lo be => ∃ l b : Nat, l ≤ b ∧ b ≤ ks.length ∧ lo = .int .i64 l ∧ be = .int .i64 b ∧ (∀ (i : Nat) a, i < l → ks[i]? = some a → ltS a k = true) ∧ (∀ (i : Nat) a, b ≤ i → ks[i]? = some a → ltS a k = false)) (fun lo be => (intOf be - intOf lo).toNat)
  case atStart => exact ⟨0, ks.length, Nat.zero_le _, Nat.le_refl _, rfl, rfl, fun i a h => by omega, fun i a h h1 => by rw [List.getElem?_eq_none h] at h1; cases h1⟩
  case round =>
    obtain ⟨l, b, hlb, hb, rfl, rfl, h1, h2⟩ := hrel
    have H1 : Hid (∀ (i : Nat) a, i < l → ks[i]? = some a → ltS a k = true) := h1
    have H2 : Hid (∀ (i : Nat) a, b ≤ i → ks[i]? = some a → ltS a k = false) := h2
    clear h1 h2
    by_cases hlt : l < b
    · obtain ⟨a, ha⟩ : ∃ a, ks[l + (b - l) / 2]? = some a := ⟨_, List.getElem?_eq_getElem (by omega)⟩
      have hm : w.cell? ⟨g, l + (b - l) / 2, none⟩ = some (.string a) := Hcell.out _ _ ha
      have hmi : (l : Int) + ((b : Int) - l) / 2 < ks.length := by omega
      have Ha : Hid (ks[l + (b - l) / 2]? = some a) := ha
      clear ha
      by_cases hc : ltS a k = true
      · have hneg : cmpOf ltS a k < 0 := (cmpOf_neg a k).2 hc
        have Hc : Hid (ltS a k = true) := hc
        clear hc
        go_wp2_with (go_at_call 119; refine (cmpT_any _ _ _).mono ?_; rintro e w' ⟨rfl, rfl⟩)
        go_round
        case rel => exact ⟨l + (b - l) / 2 + 1, b, by omega, hb, by go_num, rfl, hs.below sordS Ha.out Hc.out, H2.out⟩
        case measure => simp [intOf]; omega
      · have hneg : ¬ cmpOf ltS a k < 0 := fun h => hc ((cmpOf_neg a k).1 h)
        have Hc : Hid (ltS a k = false) := (by simpa using hc : ltS a k = false)
        clear hc
        go_wp2_with (go_at_call 119; refine (cmpT_any _ _ _).mono ?_; rintro e w' ⟨rfl, rfl⟩)
        go_round
        case rel => exact ⟨l, l + (b - l) / 2, by omega, by omega, rfl, by go_num, H1.out, hs.above sordS Ha.out Hc.out⟩
        case measure => simp [intOf]; omega
    · obtain rfl : l = b := by omega
      by_cases hn : l < ks.length
      · obtain ⟨a, ha⟩ : ∃ a, ks[l]? = some a := ⟨_, List.getElem?_eq_getElem hn⟩
        have hm : w.cell? ⟨g, l, none⟩ = some (.string a) := Hcell.out _ _ ha
        have hni : (l : Int) < ks.length := by omega
        have Ha : Hid (ks[l]? = some a) := ha
        clear ha
        have hd0 : (cmpOf ltS a k == 0) = decide (ks[l]? = some k) := by
          rw [Ha.out, Bool.eq_iff_iff]
          simp [cmpOf_zero sordS]
        obtain ⟨fd, hfd⟩ : ∃ fd : Bool, fd = decide (ks[l]? = some k) := ⟨_, rfl⟩
        have hd : (cmpOf ltS a k == 0) = fd := hd0.trans hfd.symm
        have Hfd : Hid (fd = decide (ks[l]? = some k)) := hfd
        clear hd0 hfd
        go_wp2_with (go_at_call 119; refine (cmpT_any _ _ _).mono ?_; rintro e w' ⟨rfl, rfl⟩)
        go_ret2
        exact ⟨⟨l, ⟨hb, H1.out, H2.out⟩, by rw [← Hfd.out]; rfl⟩, rfl⟩
      · have hni : ¬ (l : Int) < ks.length := by omega
        go_wp2
        go_ret2
        refine ⟨⟨l, ⟨hb, H1.out, H2.out⟩, ?_⟩, rfl⟩
        rw [List.getElem?_eq_none (by omega)]
        rfl

theorem cut_nil {α : Type} {lt : α → α → Bool} (k : α) : CutAt lt [] k 0 := ⟨Nat.le_refl _, fun i a h => by omega, fun i a _ h => by simp at h⟩

set_option maxHeartbeats 1000000 in
theorem placeT_nil (k : ByteArray) (w : World) :
    Calls Tryz.prog 96 #[.slice none 0 0, .string k] w fun e w' => e = .returned (.tuple #[.int .i64 0, .bool false]) ∧ w' = w := by
  go_enter Tryz.func96, Tryz.ntmps96
  go_wp2
  refine wp_loop_rounds 1 ?_
  rw [rounds_succ]
  go_wp2
  go_ret2
  exact ⟨rfl, rfl⟩

theorem placeT_any (base : Nat) (v : Value) (ks : List ByteArray) (k : ByteArray) (w : World) (hr : w.ownsRow base 9 1 v ks.length (ks.map Value.string)) (hs : Srt ltS ks) (hlen : ks.length < 1000000) :
    Calls Tryz.prog 96 #[v, .string k] w fun e w' => (∃ p, CutAt ltS ks k p ∧ e = .returned (.tuple #[.int .i64 p, .bool (decide (ks[p]? = some k))])) ∧ w' = w := by
  rcases hr.2 with ⟨rfl, h0⟩ | ⟨g, cap, cur, rfl, _⟩
  · obtain rfl : ks = [] := List.eq_nil_of_length_eq_zero h0
    refine (placeT_nil k w).mono ?_
    rintro e w' ⟨rfl, rfl⟩
    exact ⟨⟨0, cut_nil k, rfl⟩, rfl⟩
  · exact placeT_some g cap base ks k w hr hs hlen

end Go.Proofs.YtcjblafohfiiaabGreat
