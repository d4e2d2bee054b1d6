/-
  Check of an arena whose walks all come to their tops.
-/
import Derived.Test.YtpiemfchjlihfaaGreatDoorHC
set_option linter.unusedVariables false
namespace Go.Proofs.YtpiemfchjlihfaaGreatDoor
open Go.RowKit Go.Shelf

theorem walk_in {c : Cfg} {ws : Nat → Int} {top p e : Int} {l : List Int} (h : Walk c ws top p l e) : 0 ≤ p → ∀ y ∈ l, 0 ≤ y ∧ y < top := by
  induction h with
  | done _ => intro _ y hy; simp at hy
  | fail _ _ => intro _ y hy; simp at hy
  | @obj a a' _ _ ht _ hp _ ih =>
    intro h0 y hy
    rcases List.mem_cons.1 hy with rfl | hy
    · exact ⟨h0, ht⟩
    · exact ih (by have := hp.ge; have := osz_in c ws a; omega) y hy

/-- A space's walk comes to its top. -/
def Comes (c : Cfg) (x : Tps) (ws : Nat → Int) (s : Int) : Prop := ∃ l p, Past c ws (x.top s) (fst c s) p ∧ Walk c ws (x.top s) p l (x.top s)

set_option maxHeartbeats 1000000 in
theorem check_ok (b g : Nat) (c : Cfg) (x : Tps) (sw : Bool) (ws : Nat → Int) (hs : ∀ s, 1 ≤ s ∧ s ≤ 4 → Comes c x ws s) (w : World) (hA : Ar w b g c x sw ws) (hL : Laid w) :
    Calls Tryz.prog 39 #[.pointer (some ⟨b, 0, none⟩)] w fun r w' => r = .returned (.tuple #[.int .i64 0, .int .i64 0]) ∧ Below w.heap.size w w' := by
  have HA : Hid (Ar w b g c x sw ws ∧ Laid w) := ⟨hA, hL⟩
  have HW : Hid (∀ s w1, 1 ≤ s ∧ s ≤ 4 → Below w.heap.size w w1 → Calls Tryz.prog 84 #[.pointer (some ⟨b, 0, none⟩), .int .i64 s] w1 fun r w' => r = .returned (.int .i64 (x.top s)) ∧ Below w1.heap.size w1 w') := fun s w1 h1 l => by
    obtain ⟨ll, p, hp, hwk⟩ := hs s h1
    have hsub := hA.sub_in s
    have hw := hA.words
    exact walked_any b g c x sw ws s ll p _ (fun y hy => by have := walk_in hwk (by have := hp.ge; omega) y hy; omega) hp hwk w1 (hA.below l) (hL.keep l)
  have HT : Hid (∀ s w1, Below w.heap.size w w1 → Calls Tryz.prog 36 #[.pointer (some ⟨b, 0, none⟩), .int .i64 s] w1 fun r w' => r = .returned (.int .i64 (x.top s)) ∧ Below w1.heap.size w1 w') := fun s w1 l => top_any b g c x sw ws s w1 (hA.below l)
  clear hA hL hs
  go_enter Tryz.func39, Tryz.ntmps39
  go_wp2
  go_loopw [4] (fun v wr => ∃ s : Int, 1 ≤ s ∧ s ≤ 5 ∧ v = .int .i64 s ∧ Below w.heap.size w wr) (fun v _ => 5 - (intOf v).toNat)
  case atStart => exact ⟨1, by decide, by decide, rfl, Below.refl _ _⟩
  case round =>
    obtain ⟨s, h1, h5, rfl, bl⟩ := hrel
    by_cases h4 : s ≤ 4
    · go_wp2_with fail
      refine (HW.out s _ ⟨h1, h4⟩ bl).mono ?_
      rintro e w1 ⟨rfl, l1⟩
      have b1 := bl.trans (l1.mono bl.size)
      clear bl l1
      go_wp2_with fail
      refine (HT.out s w1 b1).mono ?_
      rintro e w2 ⟨rfl, l2⟩
      have b2 := b1.trans (l2.mono b1.size)
      clear b1 l2
      go_wp2
      go_roundw
      case rel => exact ⟨s + 1, by omega, by omega, rfl, b2⟩
      case measure => simp [intOf]; omega
    · obtain rfl : s = 5 := by omega
      go_wp2
      go_ret2
      exact ⟨rfl, bl⟩

end Go.Proofs.YtpiemfchjlihfaaGreatDoor
