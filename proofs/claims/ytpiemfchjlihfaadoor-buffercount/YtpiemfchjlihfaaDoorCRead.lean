/-
  read and lay, part by part.
-/
import Derived.Test.YtpiemfchjlihfaaDoorCMem
set_option linter.unusedVariables false
namespace Go.Proofs.YtpiemfchjlihfaaDoor
open Go.RowKit

set_option maxHeartbeats 400000 in
theorem read_0 (m : Int) (hm : Wd m) (w : World) (hL : LaidB w) :
    Calls Tryd.prog 67 #[.int .u64 m, .int .i64 0] w fun e w' => e = .returned (.int .i64 (m % 4)) ∧ ∃ n, w' = w.drewN n := by
  obtain ⟨h0, h1⟩ := hm
  obtain ⟨c0, c1, c2, c3, c4, c5, c6, c7, c8⟩ := hL
  go_enter Tryd.func67, Tryd.ntmps67
  go_wp2
  go_quiet (fail)
  go_wp2
  go_quiet (fail)
  go_wp2
  go_ret
  refine ⟨?_, _, World.drewN_drewN ..⟩
  have e : bits .and .u64 (m) 3 = (m) % 4 := mask 2 3 (by decide) (by decide) ⟨by omega, by omega⟩
  simp [e]
  exact wrap64_low (by omega) (by omega)

set_option maxHeartbeats 400000 in
theorem read_1 (m : Int) (hm : Wd m) (w : World) (hL : LaidB w) :
    Calls Tryd.prog 67 #[.int .u64 m, .int .i64 1] w fun e w' => e = .returned (.int .i64 (m / 4 % 8)) ∧ ∃ n, w' = w.drewN n := by
  obtain ⟨h0, h1⟩ := hm
  obtain ⟨c0, c1, c2, c3, c4, c5, c6, c7, c8⟩ := hL
  go_enter Tryd.func67, Tryd.ntmps67
  go_wp2
  go_quiet (fail)
  go_wp2
  go_quiet (fail)
  go_wp2
  go_ret
  refine ⟨?_, _, World.drewN_drewN ..⟩
  have e : bits .and .u64 (m / 4) 7 = (m / 4) % 8 := mask 3 7 (by decide) (by decide) ⟨by omega, by omega⟩
  simp [e]
  exact wrap64_low (by omega) (by omega)

set_option maxHeartbeats 400000 in
theorem read_2 (m : Int) (hm : Wd m) (w : World) (hL : LaidB w) :
    Calls Tryd.prog 67 #[.int .u64 m, .int .i64 2] w fun e w' => e = .returned (.int .i64 (m / 32 % 2)) ∧ ∃ n, w' = w.drewN n := by
  obtain ⟨h0, h1⟩ := hm
  obtain ⟨c0, c1, c2, c3, c4, c5, c6, c7, c8⟩ := hL
  go_enter Tryd.func67, Tryd.ntmps67
  go_wp2
  go_quiet (fail)
  go_wp2
  go_quiet (fail)
  go_wp2
  go_ret
  refine ⟨?_, _, World.drewN_drewN ..⟩
  have e : bits .and .u64 (m / 32) 1 = (m / 32) % 2 := mask 1 1 (by decide) (by decide) ⟨by omega, by omega⟩
  simp [e]
  exact wrap64_low (by omega) (by omega)

set_option maxHeartbeats 400000 in
theorem read_3 (m : Int) (hm : Wd m) (w : World) (hL : LaidB w) :
    Calls Tryd.prog 67 #[.int .u64 m, .int .i64 3] w fun e w' => e = .returned (.int .i64 (m / 64 % 16)) ∧ ∃ n, w' = w.drewN n := by
  obtain ⟨h0, h1⟩ := hm
  obtain ⟨c0, c1, c2, c3, c4, c5, c6, c7, c8⟩ := hL
  go_enter Tryd.func67, Tryd.ntmps67
  go_wp2
  go_quiet (fail)
  go_wp2
  go_quiet (fail)
  go_wp2
  go_ret
  refine ⟨?_, _, World.drewN_drewN ..⟩
  have e : bits .and .u64 (m / 64) 15 = (m / 64) % 16 := mask 4 15 (by decide) (by decide) ⟨by omega, by omega⟩
  simp [e]
  exact wrap64_low (by omega) (by omega)

set_option maxHeartbeats 400000 in
theorem read_4 (m : Int) (hm : Wd m) (w : World) (hL : LaidB w) :
    Calls Tryd.prog 67 #[.int .u64 m, .int .i64 4] w fun e w' => e = .returned (.int .i64 (m / 1024 % 256)) ∧ ∃ n, w' = w.drewN n := by
  obtain ⟨h0, h1⟩ := hm
  obtain ⟨c0, c1, c2, c3, c4, c5, c6, c7, c8⟩ := hL
  go_enter Tryd.func67, Tryd.ntmps67
  go_wp2
  go_quiet (fail)
  go_wp2
  go_quiet (fail)
  go_wp2
  go_ret
  refine ⟨?_, _, World.drewN_drewN ..⟩
  have e : bits .and .u64 (m / 1024) 255 = (m / 1024) % 256 := mask 8 255 (by decide) (by decide) ⟨by omega, by omega⟩
  simp [e]
  exact wrap64_low (by omega) (by omega)

set_option maxHeartbeats 400000 in
theorem read_5 (m : Int) (hm : Wd m) (w : World) (hL : LaidB w) :
    Calls Tryd.prog 67 #[.int .u64 m, .int .i64 5] w fun e w' => e = .returned (.int .i64 (m / 262144 % 4096)) ∧ ∃ n, w' = w.drewN n := by
  obtain ⟨h0, h1⟩ := hm
  obtain ⟨c0, c1, c2, c3, c4, c5, c6, c7, c8⟩ := hL
  go_enter Tryd.func67, Tryd.ntmps67
  go_wp2
  go_quiet (fail)
  go_wp2
  go_quiet (fail)
  go_wp2
  go_ret
  refine ⟨?_, _, World.drewN_drewN ..⟩
  have e : bits .and .u64 (m / 262144) 4095 = (m / 262144) % 4096 := mask 12 4095 (by decide) (by decide) ⟨by omega, by omega⟩
  simp [e]
  exact wrap64_low (by omega) (by omega)

set_option maxHeartbeats 400000 in
theorem read_6 (m : Int) (hm : Wd m) (w : World) (hL : LaidB w) :
    Calls Tryd.prog 67 #[.int .u64 m, .int .i64 6] w fun e w' => e = .returned (.int .i64 (m / 1073741824 % 65536)) ∧ ∃ n, w' = w.drewN n := by
  obtain ⟨h0, h1⟩ := hm
  obtain ⟨c0, c1, c2, c3, c4, c5, c6, c7, c8⟩ := hL
  go_enter Tryd.func67, Tryd.ntmps67
  go_wp2
  go_quiet (fail)
  go_wp2
  go_quiet (fail)
  go_wp2
  go_ret
  refine ⟨?_, _, World.drewN_drewN ..⟩
  have e : bits .and .u64 (m / 1073741824) 65535 = (m / 1073741824) % 65536 := mask 16 65535 (by decide) (by decide) ⟨by omega, by omega⟩
  simp [e]
  exact wrap64_low (by omega) (by omega)

set_option maxHeartbeats 400000 in
theorem read_7 (m : Int) (hm : Wd m) (w : World) (hL : LaidB w) :
    Calls Tryd.prog 67 #[.int .u64 m, .int .i64 7] w fun e w' => e = .returned (.int .i64 (m / 70368744177664 % 262144)) ∧ ∃ n, w' = w.drewN n := by
  obtain ⟨h0, h1⟩ := hm
  obtain ⟨c0, c1, c2, c3, c4, c5, c6, c7, c8⟩ := hL
  go_enter Tryd.func67, Tryd.ntmps67
  go_wp2
  go_quiet (fail)
  go_wp2
  go_quiet (fail)
  go_wp2
  go_ret
  refine ⟨?_, _, World.drewN_drewN ..⟩
  have e : bits .and .u64 (m / 70368744177664) 262143 = (m / 70368744177664) % 262144 := mask 18 262143 (by decide) (by decide) ⟨by omega, by omega⟩
  simp [e]
  exact wrap64_low (by omega) (by omega)

set_option maxHeartbeats 400000 in
theorem lay_0 (n : Int) (h0 : 0 ≤ n) (h1 : n < 4) (w : World) (hL : LaidB w) :
    Calls Tryd.prog 65 #[.int .i64 0, .int .i64 n] w fun e w' => e = .returned (.int .u64 (n * 1)) ∧ w' = w := by
  obtain ⟨c0, c1, c2, c3, c4, c5, c6, c7, c8⟩ := hL
  go_enter Tryd.func65, Tryd.ntmps65
  go_wp2
  go_ret
  refine ⟨?_, rfl⟩
  simp

set_option maxHeartbeats 400000 in
theorem lay_1 (n : Int) (h0 : 0 ≤ n) (h1 : n < 8) (w : World) (hL : LaidB w) :
    Calls Tryd.prog 65 #[.int .i64 1, .int .i64 n] w fun e w' => e = .returned (.int .u64 (n * 4)) ∧ w' = w := by
  obtain ⟨c0, c1, c2, c3, c4, c5, c6, c7, c8⟩ := hL
  go_enter Tryd.func65, Tryd.ntmps65
  go_wp2
  go_ret
  refine ⟨?_, rfl⟩
  simp

set_option maxHeartbeats 400000 in
theorem lay_2 (n : Int) (h0 : 0 ≤ n) (h1 : n < 2) (w : World) (hL : LaidB w) :
    Calls Tryd.prog 65 #[.int .i64 2, .int .i64 n] w fun e w' => e = .returned (.int .u64 (n * 32)) ∧ w' = w := by
  obtain ⟨c0, c1, c2, c3, c4, c5, c6, c7, c8⟩ := hL
  go_enter Tryd.func65, Tryd.ntmps65
  go_wp2
  go_ret
  refine ⟨?_, rfl⟩
  simp

set_option maxHeartbeats 400000 in
theorem lay_3 (n : Int) (h0 : 0 ≤ n) (h1 : n < 16) (w : World) (hL : LaidB w) :
    Calls Tryd.prog 65 #[.int .i64 3, .int .i64 n] w fun e w' => e = .returned (.int .u64 (n * 64)) ∧ w' = w := by
  obtain ⟨c0, c1, c2, c3, c4, c5, c6, c7, c8⟩ := hL
  go_enter Tryd.func65, Tryd.ntmps65
  go_wp2
  go_ret
  refine ⟨?_, rfl⟩
  simp

set_option maxHeartbeats 400000 in
theorem lay_4 (n : Int) (h0 : 0 ≤ n) (h1 : n < 256) (w : World) (hL : LaidB w) :
    Calls Tryd.prog 65 #[.int .i64 4, .int .i64 n] w fun e w' => e = .returned (.int .u64 (n * 1024)) ∧ w' = w := by
  obtain ⟨c0, c1, c2, c3, c4, c5, c6, c7, c8⟩ := hL
  go_enter Tryd.func65, Tryd.ntmps65
  go_wp2
  go_ret
  refine ⟨?_, rfl⟩
  simp

set_option maxHeartbeats 400000 in
theorem lay_5 (n : Int) (h0 : 0 ≤ n) (h1 : n < 4096) (w : World) (hL : LaidB w) :
    Calls Tryd.prog 65 #[.int .i64 5, .int .i64 n] w fun e w' => e = .returned (.int .u64 (n * 262144)) ∧ w' = w := by
  obtain ⟨c0, c1, c2, c3, c4, c5, c6, c7, c8⟩ := hL
  go_enter Tryd.func65, Tryd.ntmps65
  go_wp2
  go_ret
  refine ⟨?_, rfl⟩
  simp

set_option maxHeartbeats 400000 in
theorem lay_6 (n : Int) (h0 : 0 ≤ n) (h1 : n < 65536) (w : World) (hL : LaidB w) :
    Calls Tryd.prog 65 #[.int .i64 6, .int .i64 n] w fun e w' => e = .returned (.int .u64 (n * 1073741824)) ∧ w' = w := by
  obtain ⟨c0, c1, c2, c3, c4, c5, c6, c7, c8⟩ := hL
  go_enter Tryd.func65, Tryd.ntmps65
  go_wp2
  go_ret
  refine ⟨?_, rfl⟩
  simp

end Go.Proofs.YtpiemfchjlihfaaDoor
