/-
  The document's arena: the check.
-/
import Derived.Test.YtbdkcelggffneaaGreatDoorB16
set_option linter.unusedVariables false
set_option maxRecDepth 20000
namespace Go.Proofs.YtbdkcelggffneaaGreatDoor
open Go.RowKit Go.Shelf

/-- A space's walk: its objects, and where it ends. -/
structure Goes (c : Cfg) (x : Tps) (ws : Nat → Int) (s : Nat) (l : List Int) (e : Int) : Prop where
  go : ∃ p, Past c ws (x.top s) (fst c s) p ∧ Walk c ws (x.top s) p l e
  len : l.length < 1000000

section
variable (b : Nat) (g : Nat → Nat) (c : Cfg) (x : Tps) (sw : Bool) (ws : Nat → Int)

set_option maxHeartbeats 2000000 in
theorem rcheck_yes (L : Nat → List Int) (E : Nat → Int) (hg : ∀ s, 1 ≤ s → s ≤ 4 → Goes c x ws s (L s) (E s)) (ht : ∀ s : Nat, 1 ≤ s → s ≤ 4 → x.top s ≤ E s) (hw : ∀ j, Wd (wat c ws j)) (w : World) (h : Ra w b g c x sw ws) :
    Calls Tryz.prog 38 #[.pointer (some ⟨b, 0, none⟩)] w fun e w' => e = .returned (.tuple #[.int .i64 0, .int .i64 0]) ∧ Below w.heap.size w w' := by
  have HW : Hid (∀ (s : Nat) w1, 1 ≤ s → s ≤ 4 → Below w.heap.size w w1 → Calls Tryz.prog 83 #[.pointer (some ⟨b, 0, none⟩), .int .i64 s] w1 fun e w' => (∃ v, e = .returned (.tuple #[v, .int .i64 0])) ∧ Below w1.heap.size w1 w') := fun s w1 s1 s4 l => by
    obtain ⟨p, hp, hwk⟩ := (hg s s1 s4).go
    refine (rwalk_any b g c x sw ws s s1 s4 (L s) p (E s) hp hwk (hg s s1 s4).len hw w1 (h.below l)).mono ?_
    rintro r w' ⟨v, rfl, -, bl⟩
    rw [if_neg (by have := ht s s1 s4; omega)]
    exact ⟨⟨v, rfl⟩, bl⟩
  clear h hg ht hw
  go_enter Tryz.func38, Tryz.ntmps38
  go_wp2
  go_loopw [4] (fun v wr => ∃ s : Nat, 1 ≤ s ∧ s ≤ 5 ∧ v = .int .i64 s ∧ Below w.heap.size w wr) (fun v _ => 5 - (intOf v).toNat)
  case atStart => exact ⟨1, by decide, by decide, rfl, Below.refl _ _⟩
  case round =>
    obtain ⟨s, h1, h5, rfl, bl⟩ := hrel
    by_cases h4 : s ≤ 4
    · have hs5 : (s : Int) < 5 := by omega
      go_wp2_with fail
      refine (HW.out s _ h1 h4 bl).mono ?_
      rintro e w1 ⟨⟨v, rfl⟩, l1⟩
      have b1 := bl.trans (l1.mono bl.size)
      clear bl l1
      go_wp2
      go_roundw
      case rel => exact ⟨s + 1, by omega, by omega, by go_num, b1⟩
      case measure => simp [intOf]; omega
    · obtain rfl : s = 5 := by omega
      go_wp2
      go_ret2
      exact ⟨rfl, bl⟩

set_option maxHeartbeats 2000000 in
theorem rcheck_no (L : Nat → List Int) (E : Nat → Int) (t : Nat) (t1 : 1 ≤ t) (t4 : t ≤ 4) (hg : ∀ s, 1 ≤ s → s ≤ t → Goes c x ws s (L s) (E s)) (ht : ∀ s : Nat, 1 ≤ s → s < t → x.top s ≤ E s) (hE : E t < x.top t) (hE0 : 0 < E t) (hw : ∀ j, Wd (wat c ws j)) (w : World) (h : Ra w b g c x sw ws) :
    Calls Tryz.prog 38 #[.pointer (some ⟨b, 0, none⟩)] w fun e w' => e = .returned (.tuple #[.int .i64 (E t), .int .i64 31]) ∧ Below w.heap.size w w' := by
  have HW : Hid (∀ (s : Nat) w1, 1 ≤ s → s < t → Below w.heap.size w w1 → Calls Tryz.prog 83 #[.pointer (some ⟨b, 0, none⟩), .int .i64 s] w1 fun e w' => (∃ v, e = .returned (.tuple #[v, .int .i64 0])) ∧ Below w1.heap.size w1 w') := fun s w1 s1 s4 l => by
    obtain ⟨p, hp, hwk⟩ := (hg s s1 (by omega)).go
    refine (rwalk_any b g c x sw ws s s1 (by omega) (L s) p (E s) hp hwk (hg s s1 (by omega)).len hw w1 (h.below l)).mono ?_
    rintro r w' ⟨v, rfl, -, bl⟩
    rw [if_neg (by have := ht s s1 s4; omega)]
    exact ⟨⟨v, rfl⟩, bl⟩
  have HV : Hid (∀ w1, Below w.heap.size w w1 → Calls Tryz.prog 83 #[.pointer (some ⟨b, 0, none⟩), .int .i64 t] w1 fun e w' => (∃ v, e = .returned (.tuple #[v, .int .i64 (E t)])) ∧ Below w1.heap.size w1 w') := fun w1 l => by
    obtain ⟨p, hp, hwk⟩ := (hg t t1 (by omega)).go
    refine (rwalk_any b g c x sw ws t t1 t4 (L t) p (E t) hp hwk (hg t t1 (by omega)).len hw w1 (h.below l)).mono ?_
    rintro r w' ⟨v, rfl, -, bl⟩
    rw [if_pos hE]
    exact ⟨⟨v, rfl⟩, bl⟩
  clear h hg ht hw hE
  generalize E t = ee at *
  go_enter Tryz.func38, Tryz.ntmps38
  go_wp2
  go_loopw [4] (fun v wr => ∃ s : Nat, 1 ≤ s ∧ s ≤ t ∧ v = .int .i64 s ∧ Below w.heap.size w wr) (fun v _ => 5 - (intOf v).toNat)
  case atStart => exact ⟨1, by decide, t1, rfl, Below.refl _ _⟩
  case round =>
    obtain ⟨s, h1, h5, rfl, bl⟩ := hrel
    have hs5 : (s : Int) < 5 := by omega
    by_cases h4 : s < t
    · go_wp2_with fail
      refine (HW.out s _ h1 h4 bl).mono ?_
      rintro e w1 ⟨⟨v, rfl⟩, l1⟩
      have b1 := bl.trans (l1.mono bl.size)
      clear bl l1
      go_wp2
      go_roundw
      case rel => exact ⟨s + 1, by omega, by omega, by go_num, b1⟩
      case measure => simp [intOf]; omega
    · obtain rfl : s = t := by omega
      go_wp2_with fail
      refine (HV.out _ bl).mono ?_
      rintro e w1 ⟨⟨v, rfl⟩, l1⟩
      have b1 := bl.trans (l1.mono bl.size)
      clear bl l1
      go_wp2
      go_ret2
      exact ⟨rfl, b1⟩
end

end Go.Proofs.YtbdkcelggffneaaGreatDoor
