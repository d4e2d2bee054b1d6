/-
  The two arenas side by side: any step of a pair.
-/
import Derived.Test.YtbdkcelggffneaaGreatDoorB37
import Derived.Test.YtbdkcelggffneaaGreatDoorB38
set_option linter.unusedVariables false
set_option maxRecDepth 20000
namespace Go.Proofs.YtbdkcelggffneaaGreatDoor
open Go.RowKit Go.Shelf

section
variable (p a h r : Nat) (g : Nat → Nat) (c : Cfg) (x : Tps) (sw : Bool) (ws : Nat → Int)

set_option maxHeartbeats 2000000 in
theorem step20_full (o : Opg) (ho : o.k = 20) (base : Nat) (ks : List Wlk) (v2 v3 : Value) (hl : ks.length = 64) (w : World) (hK : Kept w p a r base ks v2 v3) :
    Calls Tryz.prog 7 #[.pointer (some ⟨p, 0, none⟩), o.val] w fun e w' => e = .returned (.bool true) ∧ Below w.heap.size w w' := by
  have l0 : Hid (Below w.heap.size w (w.alloc (.cells o.cells 33))) := Below.alloc (Below.refl _ _) (Nat.le_refl _) _
  have k0 : (w.alloc (.cells o.cells 33)).cell? ⟨w.heap.size, 0, none⟩ = some (.int .i64 20) := by rw [(Ob.new w o).cell 0, ← ho]; rfl
  obtain ⟨s2, cap2, hv2⟩ := own_sl hK.r2
  have c2 := (hK.below l0.out).c2
  rw [hv2, hl] at c2
  clear hK
  go_enter Tryz.func7, Tryz.ntmps7
  go_upto_region 1 with fail
  generalize w.alloc (.cells o.cells 33) = v at *
  go_wp2
  go_ret
  exact ⟨rfl, l0.out⟩

set_option maxHeartbeats 2000000 in
theorem step21_none (o : Opg) (ho : o.k = 21) (base : Nat) (v2 v3 : Value) (w : World) (hK : Kept w p a r base [] v2 v3) :
    Calls Tryz.prog 7 #[.pointer (some ⟨p, 0, none⟩), o.val] w fun e w' => e = .returned (.bool true) ∧ Below w.heap.size w w' := by
  have l0 : Hid (Below w.heap.size w (w.alloc (.cells o.cells 33))) := Below.alloc (Below.refl _ _) (Nat.le_refl _) _
  have k0 : (w.alloc (.cells o.cells 33)).cell? ⟨w.heap.size, 0, none⟩ = some (.int .i64 21) := by rw [(Ob.new w o).cell 0, ← ho]; rfl
  obtain ⟨s2, cap2, hv2⟩ := own_sl hK.r2
  have c2 := (hK.below l0.out).c2
  rw [hv2] at c2
  simp only [List.length_nil] at c2
  clear hK
  go_enter Tryz.func7, Tryz.ntmps7
  go_upto_region 1 with fail
  generalize w.alloc (.cells o.cells 33) = v at *
  go_wp2
  go_ret
  exact ⟨rfl, l0.out⟩

set_option maxHeartbeats 2000000 in
theorem step_none (o : Opg) (ho : o.k < 1 ∨ 21 < o.k) (w : World) :
    Calls Tryz.prog 7 #[.pointer (some ⟨p, 0, none⟩), o.val] w fun e w' => e = .returned (.bool true) ∧ Below w.heap.size w w' := by
  have l0 : Hid (Below w.heap.size w (w.alloc (.cells o.cells 33))) := Below.alloc (Below.refl _ _) (Nat.le_refl _) _
  have k0 : (w.alloc (.cells o.cells 33)).cell? ⟨w.heap.size, 0, none⟩ = some (.int .i64 o.k) := (Ob.new w o).cell 0
  have n10 : (o.k == 10) = false := by simp; omega
  have n11 : (o.k == 11) = false := by simp; omega
  have n12 : (o.k == 12) = false := by simp; omega
  have n13 : (o.k == 13) = false := by simp; omega
  have n14 : (o.k == 14) = false := by simp; omega
  have n15 : (o.k == 15) = false := by simp; omega
  have n16 : (o.k == 16) = false := by simp; omega
  have n17 : (o.k == 17) = false := by simp; omega
  have n18 : (o.k == 18) = false := by simp; omega
  have n19 : (o.k == 19) = false := by simp; omega
  have n20 : (o.k == 20) = false := by simp; omega
  have n21 : (o.k == 21) = false := by simp; omega
  rcases ho with ho | ho
  · have d1 : decide (1 ≤ o.k) = false := decide_eq_false (by omega)
    clear ho
    generalize o.k = kk at *
    go_enter Tryz.func7, Tryz.ntmps7
    go_upto_region 1 with fail
    generalize w.alloc (.cells o.cells 33) = v at *
    go_wp2
    go_ret
    exact ⟨rfl, l0.out⟩
  · have d1 : decide (1 ≤ o.k) = true := decide_eq_true (by omega)
    have d2 : decide (o.k ≤ 9) = false := decide_eq_false (by omega)
    clear ho
    generalize o.k = kk at *
    go_enter Tryz.func7, Tryz.ntmps7
    go_upto_region 1 with fail
    generalize w.alloc (.cells o.cells 33) = v at *
    go_wp2
    go_ret
    exact ⟨rfl, l0.out⟩

set_option maxHeartbeats 400000 in
theorem modp_any (n k : Int) (hn : -9223372036854775808 ≤ n ∧ n ≤ 9223372036854775807) (hk : 0 < k ∧ k ≤ 4294967296) (w : World) :
    Calls Tryz.prog 43 #[.int .i64 n, .int .i64 k] w fun e w' => ∃ m, e = .returned (.int .i64 m) ∧ 0 ≤ m ∧ m < k ∧ w = w' := by
  obtain ⟨n0, n1⟩ := hn
  obtain ⟨k0, k1⟩ := hk
  have h1 : -k < n.tmod k := by have := Int.lt_tmod_of_pos n k0; omega
  have h2 : n.tmod k < k := Int.tmod_lt_of_pos n k0
  have hz : ¬ k = 0 := by omega
  have h3 : 0 ≤ n.tmod k + k := by omega
  go_enter Tryz.func43, Tryz.ntmps43
  go_wp2
  go_ret
  exact ⟨_, rfl, Int.emod_nonneg _ hz, Int.emod_lt_of_pos _ k0, rfl⟩

set_option maxHeartbeats 4000000 in
theorem step21_any (o : Opg) (ho : o.k = 21) (hat : -9223372036854775808 ≤ o.at_ ∧ o.at_ ≤ 9223372036854775807) (base : Nat) (ks : List Wlk) (v2 v3 : Value) (w : World) (hB : Bo w p a h r g c x sw ws) (hK : Kept w p a r base ks v2 v3) :
    Calls Tryz.prog 7 #[.pointer (some ⟨p, 0, none⟩), o.val] w fun e w' => e = .returned (.bool true) ∧ Below w.heap.size w w' := by
  by_cases hks : ks = []
  · subst hks
    exact step21_none p a r o ho base v2 v3 w hK
  have hl0 : 0 < ks.length := List.length_pos_iff.2 hks
  have hl1 := hK.len
  have l0 : Hid (Below w.heap.size w (w.alloc (.cells o.cells 33))) := Below.alloc (Below.refl _ _) (Nat.le_refl _) _
  have k0 : (w.alloc (.cells o.cells 33)).cell? ⟨w.heap.size, 0, none⟩ = some (.int .i64 21) := by rw [(Ob.new w o).cell 0, ← ho]; rfl
  have k3 : (w.alloc (.cells o.cells 33)).cell? ⟨w.heap.size, 3, none⟩ = some (.int .i64 o.at_) := (Ob.new w o).cell 3
  obtain ⟨s2, cap2, hv2⟩ := own_sl hK.r2
  have c2 := (hK.below l0.out).c2
  rw [hv2] at c2
  have HOL : Hid (∀ n : Nat, n < ks.length → Calls Tryz.prog 42 #[.pointer (some ⟨p, 0, none⟩), .int .i64 n] (w.alloc (.cells o.cells 33)).drew fun e w' => e = .returned (.bool true) ∧ Below w.heap.size w w') := fun n hn => by
    have bd : Below w.heap.size w (w.alloc (.cells o.cells 33)).drew := below_drewN l0.out 1
    refine (old_any p a h r g c x sw ws n base ks v2 v3 hn _ (hB.below bd) (hK.below bd)).mono ?_
    rintro e w' ⟨h1, h2⟩
    exact ⟨h1, bd.trans (h2.mono bd.size)⟩
  have HM : Hid (∀ w1, Calls Tryz.prog 43 #[.int .i64 o.at_, .int .i64 ks.length] w1 fun e w' => ∃ n : Nat, e = .returned (.int .i64 n) ∧ n < ks.length ∧ w1 = w') := fun w1 => by
    refine (modp_any o.at_ ks.length hat (by omega) w1).mono ?_
    rintro e w' ⟨m, rfl, m0, m1, rfl⟩
    obtain ⟨n, rfl⟩ : ∃ n : Nat, m = n := ⟨m.toNat, by omega⟩
    exact ⟨n, rfl, by omega, rfl⟩
  have hli : (0 : Int) < (ks.length : Int) := by omega
  clear hB hK hks
  go_enter Tryz.func7, Tryz.ntmps7
  go_upto_region 1 with fail
  generalize w.alloc (.cells o.cells 33) = v at *
  go_upto_region 44 with fail
  go_region_with (first | (go_at_call 43; refine (HM.out _).mono ?_; rintro e w1 ⟨n, rfl, hn, rfl⟩) | (go_at_call 42; refine (HOL.out _ hn).mono ?_; rintro e w2 ⟨rfl, l2⟩))
  all_goals
    go_wp2
    go_ret
    exact ⟨rfl, l2⟩
end

end Go.Proofs.YtbdkcelggffneaaGreatDoor
