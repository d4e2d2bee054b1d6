/-
  slices.Delete of numbers and of words.
-/
import Derived.Test.YtcjblafohfiiaabGreatInsV
import Derived.Shelf.Slices.Delete
import Derived.Deep.RegionLaw
set_option linter.unusedVariables false
namespace Go.Proofs.YtcjblafohfiiaabGreat
open Go.RowKit Go.Shelf Go.Lib

set_option maxHeartbeats 4000000 in
set_option maxRecDepth 1000000 in
theorem delU_core (g n cap i j : Nat) (xs : List Value) (w : World) (hl : xs.length = n) (hcs : ∀ (t : Nat) u, xs[t]? = some u → w.cell? ⟨g, t, none⟩ = some u) (hfz : ∀ t, w.frozen? ⟨g, t, none⟩ = false) (h1c : ∀ u ∈ xs, u.oneCell' = true)
    (hij : i < j) (hj : j ≤ n) (hn : n ≤ cap) (hm : cap ≤ 9223372036854775807) :
    Calls Tryz.prog 92 #[.slice (some ⟨g, 0, none⟩) n cap, .int .i64 i, .int .i64 j] w fun e w' => e = .returned (.slice (some ⟨g, 0, none⟩) (i + (n - j)) cap) ∧
      w' = (w.drew.setCells g i (xs.drop j)).setCells g (i + (n - j)) (List.replicate (n - (i + (n - j))) (.int .u64 0)) := by
  obtain ⟨i0, hi0, hz0, hz1, hz2⟩ := info_parts Tryz.infoU64
  have hdl : (xs.drop j).length = n - j := by rw [List.length_drop, hl]
  have hsome : ∀ t, t < n → (w.cell? ⟨g, t, none⟩).isSome = true := fun t ht => by rw [hcs t _ (List.getElem?_eq_getElem (by omega))]; rfl
  obtain ⟨A, hA, hsrc⟩ : ∃ A : Addr, (if cap = j then some (⟨g, 0, none⟩ : Addr) else some ⟨g, j, none⟩) = some A ∧ Hid (∀ t u, (xs.drop j)[t]? = some u → w.drew.cell? (A.add t) = some u) := by
    by_cases h : cap = j
    · refine ⟨⟨g, 0, none⟩, by simp [h], fun t u hu => ?_⟩
      have := (List.getElem?_eq_some_iff.1 hu).1
      omega
    · refine ⟨⟨g, j, none⟩, by simp [h], fun t u hu => ?_⟩
      rw [List.getElem?_drop] at hu
      rw [Addr.add_lit]
      exact hcs _ u hu
  have s1 : Hid ((xs.drop j).length = (n - j) * 1) := by rw [Nat.mul_one]; exact hdl
  have s2 : Hid (∀ u ∈ xs.drop j, u.oneCell' = true) := fun u hu => h1c u (List.mem_of_mem_drop hu)
  have s3 : Hid (∀ t, t < (xs.drop j).length → (w.drew.cell? ⟨g, 0 + i * 1 + t, none⟩).isSome = true ∧ w.drew.frozen? ⟨g, 0 + i * 1 + t, none⟩ = false) := fun t ht => by
    rw [Nat.mul_one, Nat.zero_add]
    exact ⟨hsome _ (by omega), hfz _⟩
  obtain ⟨W1, hW1⟩ : ∃ W1, W1 = w.drew.setCells g i (xs.drop j) := ⟨_, rfl⟩
  have hcl : ∀ ty, (Builtin.clear_ #[69] ty #[.slice (some ⟨g, i + (n - j), none⟩) (n - (i + (n - j))) (cap - (i + (n - j)))]).run Tryz.prog W1 = .ok (.tuple #[]) (W1.setCells g (i + (n - j)) (List.replicate (n - (i + (n - j))) (.int .u64 0))) := fun ty =>
    run_clear_slice W1 _ _ ty _ Tryz.underlying69 Tryz.zeroValue29 rfl rfl g (i + (n - j)) _ _ (by omega)
      (fun t ht => by rw [hW1]; exact isSome_setCells g (xs.drop j) i w.drew (fun k hk => hsome _ (by omega)) _ (hsome _ (by omega)))
      (fun t ht => by rw [hW1, World.frozen?_setCells]; exact hfz _)
  have hW : Hid (W1 = w.drew.setCells g (0 + i * 1) (xs.drop j)) := by show _ = _; rw [hW1, Nat.mul_one, Nat.zero_add]
  have HW1 : Hid (W1 = w.drew.setCells g i (xs.drop j)) := hW1
  have hic : i ≤ cap := by omega
  have hjc : j ≤ cap := by omega
  have mixed : Tryz.prog.follows Departure.mixedOrders = true := by kernel_rfl
  have k1 : ¬ ((i : Int) = (j : Int)) := by omega
  have k2 : (i : Int) ≤ j := by omega
  have k3 : (j : Int) ≤ n := by omega
  have k4 : ¬ (cap = i + (n - j)) := by omega
  clear hW1 hcs hfz h1c hsome hdl
  go_enter Tryz.func92, Tryz.ntmps92
  go_wp2_with fail
  go_region_law_o (refine step_append_room rfl (.tmp 22) (.tmp 25) 69 rfl 29 i0 1 Tryz.underlying69 hi0 hz1 g 0 i cap (by simp [Act.eval, Act.put]) A (n - j) (cap - j) (xs.drop j) (by simp [Act.eval, Act.put]) s1.out hsrc.out s2.out (by omega) s3.out ?_; rw [← hW.out])
  go_wp2
  go_ret
  exact ⟨rfl, by rw [HW1.out]⟩

set_option maxHeartbeats 4000000 in
set_option maxRecDepth 1000000 in
theorem delI_core (g n cap i j : Nat) (xs : List Value) (w : World) (hl : xs.length = n) (hcs : ∀ (t : Nat) u, xs[t]? = some u → w.cell? ⟨g, t, none⟩ = some u) (hfz : ∀ t, w.frozen? ⟨g, t, none⟩ = false) (h1c : ∀ u ∈ xs, u.oneCell' = true)
    (hij : i < j) (hj : j ≤ n) (hn : n ≤ cap) (hm : cap ≤ 9223372036854775807) :
    Calls Tryz.prog 91 #[.slice (some ⟨g, 0, none⟩) n cap, .int .i64 i, .int .i64 j] w fun e w' => e = .returned (.slice (some ⟨g, 0, none⟩) (i + (n - j)) cap) ∧
      w' = (w.drew.setCells g i (xs.drop j)).setCells g (i + (n - j)) (List.replicate (n - (i + (n - j))) (.int .i64 0)) := by
  obtain ⟨i0, hi0, hz0, hz1, hz2⟩ := info_parts Tryz.infoInt
  have hdl : (xs.drop j).length = n - j := by rw [List.length_drop, hl]
  have hsome : ∀ t, t < n → (w.cell? ⟨g, t, none⟩).isSome = true := fun t ht => by rw [hcs t _ (List.getElem?_eq_getElem (by omega))]; rfl
  obtain ⟨A, hA, hsrc⟩ : ∃ A : Addr, (if cap = j then some (⟨g, 0, none⟩ : Addr) else some ⟨g, j, none⟩) = some A ∧ Hid (∀ t u, (xs.drop j)[t]? = some u → w.drew.cell? (A.add t) = some u) := by
    by_cases h : cap = j
    · refine ⟨⟨g, 0, none⟩, by simp [h], fun t u hu => ?_⟩
      have := (List.getElem?_eq_some_iff.1 hu).1
      omega
    · refine ⟨⟨g, j, none⟩, by simp [h], fun t u hu => ?_⟩
      rw [List.getElem?_drop] at hu
      rw [Addr.add_lit]
      exact hcs _ u hu
  have s1 : Hid ((xs.drop j).length = (n - j) * 1) := by rw [Nat.mul_one]; exact hdl
  have s2 : Hid (∀ u ∈ xs.drop j, u.oneCell' = true) := fun u hu => h1c u (List.mem_of_mem_drop hu)
  have s3 : Hid (∀ t, t < (xs.drop j).length → (w.drew.cell? ⟨g, 0 + i * 1 + t, none⟩).isSome = true ∧ w.drew.frozen? ⟨g, 0 + i * 1 + t, none⟩ = false) := fun t ht => by
    rw [Nat.mul_one, Nat.zero_add]
    exact ⟨hsome _ (by omega), hfz _⟩
  obtain ⟨W1, hW1⟩ : ∃ W1, W1 = w.drew.setCells g i (xs.drop j) := ⟨_, rfl⟩
  have hcl : ∀ ty, (Builtin.clear_ #[68] ty #[.slice (some ⟨g, i + (n - j), none⟩) (n - (i + (n - j))) (cap - (i + (n - j)))]).run Tryz.prog W1 = .ok (.tuple #[]) (W1.setCells g (i + (n - j)) (List.replicate (n - (i + (n - j))) (.int .i64 0))) := fun ty =>
    run_clear_slice W1 _ _ ty _ Tryz.underlying68 Tryz.zeroValue3 rfl rfl g (i + (n - j)) _ _ (by omega)
      (fun t ht => by rw [hW1]; exact isSome_setCells g (xs.drop j) i w.drew (fun k hk => hsome _ (by omega)) _ (hsome _ (by omega)))
      (fun t ht => by rw [hW1, World.frozen?_setCells]; exact hfz _)
  have hW : Hid (W1 = w.drew.setCells g (0 + i * 1) (xs.drop j)) := by show _ = _; rw [hW1, Nat.mul_one, Nat.zero_add]
  have HW1 : Hid (W1 = w.drew.setCells g i (xs.drop j)) := hW1
  have hic : i ≤ cap := by omega
  have hjc : j ≤ cap := by omega
  have mixed : Tryz.prog.follows Departure.mixedOrders = true := by kernel_rfl
  have k1 : ¬ ((i : Int) = (j : Int)) := by omega
  have k2 : (i : Int) ≤ j := by omega
  have k3 : (j : Int) ≤ n := by omega
  have k4 : ¬ (cap = i + (n - j)) := by omega
  clear hW1 hcs hfz h1c hsome hdl
  go_enter Tryz.func91, Tryz.ntmps91
  go_wp2_with fail
  go_region_law_o (refine step_append_room rfl (.tmp 22) (.tmp 25) 68 rfl 3 i0 1 Tryz.underlying68 hi0 hz1 g 0 i cap (by simp [Act.eval, Act.put]) A (n - j) (cap - j) (xs.drop j) (by simp [Act.eval, Act.put]) s1.out hsrc.out s2.out (by omega) s3.out ?_; rw [← hW.out])
  go_wp2
  go_ret
  exact ⟨rfl, by rw [HW1.out]⟩

end Go.Proofs.YtcjblafohfiiaabGreat
