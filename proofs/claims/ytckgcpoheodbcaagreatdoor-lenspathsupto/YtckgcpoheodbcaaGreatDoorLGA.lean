/-
  Growth by site: lists that are the same.
-/
import Derived.Test.YtckgcpoheodbcaaGreatDoorPIe
import Derived.Test.YtckgcpoheodbcaaGreatDoorPKm
set_option linter.unusedVariables false
set_option maxRecDepth 20000
namespace Go.Proofs.YtckgcpoheodbcaaGreatDoor
open Go.RowKit Go.Shelf

set_option maxHeartbeats 2000000 in
theorem same17_eq (n0 : Nat) (va vb : Value) (l : List Int) (w : World) (ha : Lrd n0 w va .i64 l) (hb : Lrd n0 w vb .i64 l) (hl : l.length ≤ 4611686018427387904) :
    Calls Tryz.prog 8 #[va, vb] w fun e w' => e = .returned (.bool true) ∧ ∃ nq, w' = w.drewN nq := by
  obtain ⟨a, ca, rfl, -, ha'⟩ := ha
  obtain ⟨b, cb, rfl, -, hb'⟩ := hb
  have Ha : Hid (∀ (f : Nat) z, l[f]? = some z → ∃ q off, a = some ⟨q, off, none⟩ ∧ q < n0 ∧ w.cell? ⟨q, off + f, none⟩ = some (.int .i64 z)) := ha'
  have Hb : Hid (∀ (f : Nat) z, l[f]? = some z → ∃ q off, b = some ⟨q, off, none⟩ ∧ q < n0 ∧ w.cell? ⟨q, off + f, none⟩ = some (.int .i64 z)) := hb'
  clear ha' hb'
  go_enter Tryz.func8, Tryz.ntmps8
  go_wp2
  go_loopw [5] (fun v5 wr => ∃ (k m : Nat), k ≤ l.length ∧ v5 = .int .i64 k ∧ wr = w.drewN m) (fun v5 _ => l.length - (intOf v5).toNat)
  case atStart => exact ⟨0, 0, Nat.zero_le _, rfl, rfl⟩
  case round =>
    obtain ⟨k, m, hk, rfl, rfl⟩ := hrel
    by_cases hkl : k < l.length
    · have hki : (k : Int) < (l.length : Int) := by omega
      have hz : l[k]? = some (l[k]'hkl) := List.getElem?_eq_getElem hkl
      generalize l[k]'hkl = z at hz
      obtain ⟨q, off, rfl, -, ca'⟩ := Ha.out k z hz
      obtain ⟨q', off', rfl, -, cb'⟩ := Hb.out k z hz
      clear hz
      go_upto_region 6 with fail
      go_quiet (fail)
      go_wp2
      go_roundw
      case rel => exact ⟨k + 1, m + nq, by omega, by go_num, rfl⟩
      case measure => simp [intOf]; omega
    · have hki : ¬ (k : Int) < (l.length : Int) := by omega
      go_wp2
      go_ret
      exact ⟨rfl, m, rfl⟩

set_option maxHeartbeats 2000000 in
theorem sameWords17_eq (n0 : Nat) (va vb : Value) (l : List Int) (w : World) (ha : Lrd n0 w va .u64 l) (hb : Lrd n0 w vb .u64 l) (hl : l.length ≤ 4611686018427387904) :
    Calls Tryz.prog 24 #[va, vb] w fun e w' => e = .returned (.bool true) ∧ ∃ nq, w' = w.drewN nq := by
  obtain ⟨a, ca, rfl, -, ha'⟩ := ha
  obtain ⟨b, cb, rfl, -, hb'⟩ := hb
  have Ha : Hid (∀ (f : Nat) z, l[f]? = some z → ∃ q off, a = some ⟨q, off, none⟩ ∧ q < n0 ∧ w.cell? ⟨q, off + f, none⟩ = some (.int .u64 z)) := ha'
  have Hb : Hid (∀ (f : Nat) z, l[f]? = some z → ∃ q off, b = some ⟨q, off, none⟩ ∧ q < n0 ∧ w.cell? ⟨q, off + f, none⟩ = some (.int .u64 z)) := hb'
  clear ha' hb'
  go_enter Tryz.func24, Tryz.ntmps24
  go_wp2
  go_loopw [5] (fun v5 wr => ∃ (k m : Nat), k ≤ l.length ∧ v5 = .int .i64 k ∧ wr = w.drewN m) (fun v5 _ => l.length - (intOf v5).toNat)
  case atStart => exact ⟨0, 0, Nat.zero_le _, rfl, rfl⟩
  case round =>
    obtain ⟨k, m, hk, rfl, rfl⟩ := hrel
    by_cases hkl : k < l.length
    · have hki : (k : Int) < (l.length : Int) := by omega
      have hz : l[k]? = some (l[k]'hkl) := List.getElem?_eq_getElem hkl
      generalize l[k]'hkl = z at hz
      obtain ⟨q, off, rfl, -, ca'⟩ := Ha.out k z hz
      obtain ⟨q', off', rfl, -, cb'⟩ := Hb.out k z hz
      clear hz
      go_upto_region 6 with fail
      go_quiet (fail)
      go_wp2
      go_roundw
      case rel => exact ⟨k + 1, m + nq, by omega, by go_num, rfl⟩
      case measure => simp [intOf]; omega
    · have hki : ¬ (k : Int) < (l.length : Int) := by omega
      go_wp2
      go_ret
      exact ⟨rfl, m, rfl⟩

end Go.Proofs.YtckgcpoheodbcaaGreatDoor
