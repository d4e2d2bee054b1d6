/-
  next.
-/
import Derived.Test.YtdcmpilgfkaamaaDoorT3
set_option linter.unusedVariables false
set_option maxRecDepth 20000
namespace Go.Proofs.YtdcmpilgfkaamaaDoor
open Go.RowKit

/-- The sum of the words at the ages 1 to k. -/
def psum (ws : Nat → Int) : Nat → Int
  | 0 => 0
  | k + 1 => psum ws k + ws (k + 1)

/-- Words that may be. -/
def Wk (ws : Nat → Int) : Prop := ∀ i, i < 16 → 0 ≤ ws i ∧ ws i ≤ 65536

theorem psum_bd {ws : Nat → Int} (h : Wk ws) : ∀ k, k < 16 → 0 ≤ psum ws k ∧ psum ws k ≤ 65536 * k
  | 0, _ => by simp [psum]
  | k + 1, hk => by
    have h1 := psum_bd h k (by omega)
    have h2 := h (k + 1) hk
    simp only [psum]
    omega

theorem psum_mono {ws : Nat → Int} (h : Wk ws) (a : Nat) : ∀ d, a + d < 16 → psum ws a ≤ psum ws (a + d)
  | 0, _ => Int.le_refl _
  | d + 1, hd => by
    have h1 := psum_mono h a d (by omega)
    have h2 := h (a + d + 1) (by omega)
    have e : psum ws (a + (d + 1)) = psum ws (a + d) + ws (a + d + 1) := rfl
    omega

/-- r is the least age, from 1 on, at which the words come to more than is wanted, or the greatest. -/
structure IsNext (wa : Int) (mo : Nat) (ws : Nat → Int) (r : Nat) : Prop where
  lo : 1 ≤ r
  hi : r ≤ mo
  below : ∀ a, 1 ≤ a → a < r → psum ws a ≤ wa
  own : r = mo ∨ wa < psum ws r

theorem IsNext.unique {wa : Int} {mo : Nat} {ws : Nat → Int} {r s : Nat} (h : IsNext wa mo ws r) (k : IsNext wa mo ws s) : r = s := by
  rcases Nat.lt_trichotomy r s with hlt | heq | hgt
  · have h1 := k.below r h.lo hlt
    have h2 := k.hi
    rcases h.own with h3 | h3 <;> omega
  · exact heq
  · have h1 := h.below s k.lo hgt
    have h2 := h.hi
    rcases k.own with h3 | h3 <;> omega

set_option maxHeartbeats 2000000 in
theorem next_any {w : World} {b : Nat} {wa : Int} {mo n : Nat} {f : Nat → Int} (H : Tn w b wa mo f n) (ws : Nat → Int) (hw : Wk ws) :
    Calls Tryd.prog 37 #[.pointer (some ⟨b, 0, none⟩), .agg (av ws)] w fun e w' => ∃ r, e = .returned (.int .i64 (r : Nat)) ∧ IsNext wa mo ws r ∧ Below w.heap.size w w' := by
  have hA : (w.alloc (.cells (av ws) 53)).heap[w.heap.size]? = _ := heap_alloc_new w (.cells (av ws) 53)
  have hb := Below.alloc (Below.refl w.heap.size w) (Nat.le_refl _) (.cells (av ws) 53)
  have hm0 := H.m0
  have hm1 := H.m1
  have hw0 := H.w0
  have hw1 := H.w1
  go_enter Tryd.func37, Tryd.ntmps37
  go_upto_region 1 with fail
  have H1 := H.below hb
  generalize (w.alloc (.cells (av ws) 53)) = w1 at hA hb H1 ⊢
  have c0 := H1.c0
  have c1 := H1.c1
  have HA : Hid (_ = _) := hA
  have HW : Hid (Wk ws) := hw
  clear H hA hw H1
  go_wp2
  go_loopw [5, 6] (fun s i wr => ∃ k : Nat, 1 ≤ k ∧ k ≤ mo ∧ i = .int .i64 k ∧ s = .int .i64 (psum ws (k - 1)) ∧ (∀ a, 1 ≤ a → a < k → psum ws a ≤ wa) ∧ wr = w1) (fun _ i _ => mo - (intOf i).toNat)
  case atStart => exact ⟨1, Nat.le_refl _, hm0, rfl, rfl, fun a h1 h2 => by omega, rfl⟩
  case round =>
    obtain ⟨k, hk1, hk2, rfl, rfl, hbl, rfl⟩ := hrel
    have HB : Hid (∀ a, 1 ≤ a → a < k → psum ws a ≤ wa) := hbl
    clear hbl
    by_cases hlt : k < mo
    · have ck := (heap_cell HA.out k).trans (av_get ws k (by omega))
      have hki : (k : Int) < mo := by omega
      have hs := psum_bd HW.out (k - 1) (by omega)
      have hx := HW.out k (by omega)
      have hps : psum ws k = psum ws (k - 1) + ws k := by
        obtain ⟨j, rfl⟩ : ∃ j, k = j + 1 := ⟨k - 1, by omega⟩
        rfl
      have hk16 : k < 16 := by omega
      generalize psum ws (k - 1) = P at hs hps ⊢
      generalize ws k = X at hx hps ck ⊢
      have Hps : Hid (_ = _) := hps
      clear hps
      by_cases hg : wa < P + X
      · go_wp2
        go_ret
        refine ⟨k, rfl, ⟨hk1, hk2, HB.out, .inr ?_⟩, hb⟩
        rw [Hps.out]; exact hg
      · go_wp2
        go_roundw
        case rel =>
          refine ⟨k + 1, by omega, by omega, by go_num, ?_, ?_, trivial⟩
          · rw [Nat.add_sub_cancel, Hps.out]
          · intro a h1 h2
            by_cases h3 : a = k
            · subst h3; rw [Hps.out]; omega
            · exact HB.out a h1 (by omega)
        case measure => simp [intOf]; omega
    · obtain rfl : k = mo := by omega
      go_wp2
      go_ret
      exact ⟨k, rfl, ⟨hk1, Nat.le_refl _, HB.out, .inl rfl⟩, hb⟩

end Go.Proofs.YtdcmpilgfkaamaaDoor
