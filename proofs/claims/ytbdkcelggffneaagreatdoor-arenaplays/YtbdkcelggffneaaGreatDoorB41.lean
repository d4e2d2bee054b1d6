/-
  A pair of arenas with its walks: whole.
-/
import Derived.Test.YtbdkcelggffneaaGreatDoorB37
set_option linter.unusedVariables false
set_option maxRecDepth 20000
namespace Go.Proofs.YtbdkcelggffneaaGreatDoor
open Go.RowKit Go.Shelf

section
variable (p a h r : Nat) (g : Nat → Nat) (c : Cfg) (x : Tps) (sw : Bool) (ws : Nat → Int)

set_option maxHeartbeats 4000000 in
theorem whole_pq (base : Nat) (ks : List Wlk) (v2 v3 : Value) (w : World) (hB : Bo w p a h r g c x sw ws) (hK : Kept w p a r base ks v2 v3) :
    Calls Tryz.prog 8 #[.pointer (some ⟨p, 0, none⟩)] w fun e w' => e = .returned (.bool true) ∧ Below w.heap.size w w' := by
  have HB : Hid (Bo w p a h r g c x sw ws) := hB
  have c1 := hB.c1
  have hsz := rsize_any r g c x sw ws w hB.ra
  have hcw := hB.ar.words
  have HA : Hid (∀ i w1, Below w.heap.size w w1 → Calls Tryz.prog 18 #[.pointer (some ⟨a, 0, none⟩), .int .i64 i] w1 fun e w' => e = .returned (.int .u64 (wat c ws i)) ∧ w1 = w') := fun i w1 l => word_any3 a h c x sw ws i w1 (hB.below l).ar
  have HR : Hid (∀ i w1, Below w.heap.size w w1 → Calls Tryz.prog 19 #[.pointer (some ⟨r, 0, none⟩), .int .i64 i] w1 fun e w' => e = .returned (.int .u64 (wat c ws i)) ∧ Below w1.heap.size w1 w') := fun i w1 l => rword_any r g c x sw ws i w1 (hB.below l).ra
  have HS : Hid (∀ s w1, Below w.heap.size w w1 → Calls Tryz.prog 20 #[.pointer (some ⟨p, 0, none⟩), .int .i64 s] w1 fun e w' => e = .returned (.bool true) ∧ Below w1.heap.size w1 w') := fun s w1 l => lspace_any p a h r g c x sw ws s w1 (hB.below l)
  have HWk : Hid (∀ s w1, Below w.heap.size w w1 → Calls Tryz.prog 36 #[.pointer (some ⟨p, 0, none⟩), .int .i64 s, .int .i64 0] w1 fun e w' => e = .returned (.bool true) ∧ Below w1.heap.size w1 w') := fun s w1 l => lwalk_any p a h r g c x sw ws s 0 w1 (hB.below l)
  have H12 : Hid (∀ w1, Below w.heap.size w w1 → Calls Tryz.prog 7 #[.pointer (some ⟨p, 0, none⟩), opv 12] w1 fun e w' => e = .returned (.bool true) ∧ Below w1.heap.size w1 w') := fun w1 l => step12_any p a h r g c x sw ws w1 (hB.below l)
  have H18 : Hid (∀ w1, Below w.heap.size w w1 → Calls Tryz.prog 7 #[.pointer (some ⟨p, 0, none⟩), opv 18] w1 fun e w' => e = .returned (.bool true) ∧ Below w1.heap.size w1 w') := fun w1 l => step18g_any p a h r g c x sw ws ⟨18, 0, 0, 0, 0, 0, 0, 0, 0, 0, 0, 0, 0, false⟩ rfl w1 (hB.below l)
  have H19 : Hid (∀ w1, Below w.heap.size w w1 → Calls Tryz.prog 7 #[.pointer (some ⟨p, 0, none⟩), opv 19] w1 fun e w' => e = .returned (.bool true) ∧ Below w1.heap.size w1 w') := fun w1 l => step19_any p a h r g c x sw ws w1 (hB.below l)
  have HOL : Hid (∀ (n : Nat) w1, n < ks.length → Below w.heap.size w w1 → Calls Tryz.prog 42 #[.pointer (some ⟨p, 0, none⟩), .int .i64 n] w1 fun e w' => e = .returned (.bool true) ∧ Below w1.heap.size w1 w') := fun n w1 hn l => old_any p a h r g c x sw ws n base ks v2 v3 hn w1 (hB.below l) (hK.below l)
  obtain ⟨s2, cap2, hv2⟩ := own_sl hK.r2
  have HC2 : Hid (∀ w1, Below w.heap.size w w1 → w1.cell? ⟨p, 2, none⟩ = some (.slice s2 ks.length cap2)) := fun w1 l => by rw [← hv2]; exact (hK.below l).c2
  have hl1 := hK.len
  clear hB hK
  generalize c.words = cw at *
  go_enter Tryz.func8, Tryz.ntmps8
  go_wp2_with fail
  refine hsz.mono ?_
  rintro e w1 ⟨rfl, rfl⟩
  clear hsz c1
  go_wp2
  go_loopw [4] (fun v wr => ∃ i : Int, -1 ≤ i ∧ i ≤ cw + 1 ∧ v = .int .i64 i ∧ Hid (Below w1.heap.size w1 wr)) (fun v _ => (cw + 1 - intOf v).toNat)
  case atStart => exact ⟨-1, by omega, by omega, rfl, Below.refl _ _⟩
  case round =>
    obtain ⟨i, hi0, hi1, rfl, bl⟩ := hrel
    by_cases hic : i ≤ cw
    · by_cases hs : 3000 < i ∧ i < cw - 3000
      · have hs1 := hs.1
        have hs2 := hs.2
        clear hs
        go_wp2
        go_roundw
        case rel => exact ⟨i + 1, by omega, by omega, rfl, bl.out⟩
        case measure => simp [intOf]; omega
      · have c0 := (HB.out.below bl.out).c0
        have c1 := (HB.out.below bl.out).c1
        by_cases hs1 : 3000 < i
        · have hs2 : ¬ i < cw - 3000 := fun hh => hs ⟨hs1, hh⟩
          have hs3 : decide (i < cw - 3000) = false := decide_eq_false hs2
          clear hs
          go_wp2_with fail
          refine (HA.out i _ bl.out).mono ?_
          rintro e w2 ⟨rfl, rfl⟩
          go_wp2_with fail
          refine (HR.out i _ bl.out).mono ?_
          rintro e w2 ⟨rfl, l2⟩
          have l3 : Hid (Below w1.heap.size w1 w2) := bl.out.trans (l2.mono bl.out.size)
          clear l2 bl c0 c1
          generalize wat c ws i = m at *
          go_wp2
          go_roundw
          case rel => exact ⟨i + 1, by omega, by omega, rfl, l3.out⟩
          case measure => simp [intOf]; omega
        · have hs3 : decide (3000 < i) = false := decide_eq_false hs1
          clear hs
          go_wp2_with fail
          refine (HA.out i _ bl.out).mono ?_
          rintro e w2 ⟨rfl, rfl⟩
          go_wp2_with fail
          refine (HR.out i _ bl.out).mono ?_
          rintro e w2 ⟨rfl, l2⟩
          have l3 : Hid (Below w1.heap.size w1 w2) := bl.out.trans (l2.mono bl.out.size)
          clear l2 bl c0 c1
          generalize wat c ws i = m at *
          go_wp2
          go_roundw
          case rel => exact ⟨i + 1, by omega, by omega, rfl, l3.out⟩
          case measure => simp [intOf]; omega
    · go_wp2
      clear HA HR hic hi0 hi1
      go_loopw [6] (fun v wr => ∃ s : Int, -1 ≤ s ∧ s ≤ 6 ∧ v = .int .i64 s ∧ Hid (Below w1.heap.size w1 wr)) (fun v _ => (6 - intOf v).toNat)
      case atStart => exact ⟨-1, by omega, by omega, rfl, bl.out⟩
      case round =>
        obtain ⟨s, h1, h6, rfl, bs⟩ := hrel
        clear bl
        by_cases hs : s < 6
        · go_wp2_with fail
          refine (HS.out s _ bs.out).mono ?_
          rintro e w2 ⟨rfl, l2⟩
          have l3 : Hid (Below w1.heap.size w1 w2) := bs.out.trans (l2.mono bs.out.size)
          clear l2 bs
          go_wp2_with fail
          refine (HWk.out s _ l3.out).mono ?_
          rintro e w3 ⟨rfl, l2⟩
          have l4 : Hid (Below w1.heap.size w1 w3) := l3.out.trans (l2.mono l3.out.size)
          clear l2 l3
          go_wp2
          go_roundw
          case rel => exact ⟨s + 1, by omega, by omega, rfl, l4.out⟩
          case measure => simp [intOf]; omega
        · clear HS HWk
          go_wp2
          go_loopw [7] (fun v wr => ∃ n : Nat, n ≤ ks.length ∧ v = .int .i64 n ∧ Hid (Below w1.heap.size w1 wr)) (fun v _ => ks.length - (intOf v).toNat)
          case atStart => exact ⟨0, Nat.zero_le _, rfl, bs.out⟩
          case round =>
            obtain ⟨n, hn, rfl, bt⟩ := hrel
            clear bs
            have c2 := HC2.out _ bt.out
            by_cases hlt : n < ks.length
            · have hli : (n : Int) < (ks.length : Int) := by omega
              go_wp2_with fail
              refine (HOL.out n _ hlt bt.out).mono ?_
              rintro e w2 ⟨rfl, l2⟩
              have l3 : Hid (Below w1.heap.size w1 w2) := bt.out.trans (l2.mono bt.out.size)
              clear l2 bt c2
              go_wp2
              go_roundw
              case rel => exact ⟨n + 1, hlt, by go_num, l3.out⟩
              case measure => simp [intOf]; omega
            · obtain rfl : n = ks.length := by omega
              go_wp2_with fail
              refine (H12.out _ bt.out).mono ?_
              rintro e w2 ⟨rfl, l2⟩
              have l3 : Hid (Below w1.heap.size w1 w2) := bt.out.trans (l2.mono bt.out.size)
              clear l2 bt c2
              go_wp2_with fail
              refine (H18.out _ l3.out).mono ?_
              rintro e w3 ⟨rfl, l2⟩
              have l4 : Hid (Below w1.heap.size w1 w3) := l3.out.trans (l2.mono l3.out.size)
              clear l2 l3
              go_wp2_with fail
              refine (H19.out _ l4.out).mono ?_
              rintro e w4 ⟨rfl, l2⟩
              have l5 : Hid (Below w1.heap.size w1 w4) := l4.out.trans (l2.mono l4.out.size)
              clear l2 l4
              go_wp2
              go_ret
              exact ⟨rfl, l5.out⟩
end

end Go.Proofs.YtbdkcelggffneaaGreatDoor
