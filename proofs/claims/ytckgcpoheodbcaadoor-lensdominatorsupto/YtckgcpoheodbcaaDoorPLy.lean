import Derived.Shelf.SlicesE.DeleteFunc
import Derived.Ground.SlgfProg
import Derived.Shelf.SlGeneric
import Derived.Test.YtckgcpoheodbcaaDoorProg
import Derived.Test.YtckgcpoheodbcaaDoorPKm
import Derived.Lib.OwnBridge
import Derived.RegionTactic
import Derived.ChangeAlike
import Derived.BigRegion
import Derived.Deep.RegionWith
/-
  The library contract at this program (slices.DeleteFunc), printed by the kit's lay-plain.
-/
namespace Go.Proofs
open Go.Shelf
def Tryd.delFA_ren : Go.Shelf.Ren := ⟨fun | 10 => 53 | 6 => 68 | n => n, fun | 22 => 24 | 23 => 3 | 25 => 100 | 3 => 3 | 4 => 4 | 0 => 0 | n => n, fun | n => n⟩
theorem Tryd.delFA : Go.Proofs.SlLaysH.n10 Tryd.prog Tryd.delFA_ren := {
  mixed := by kernel_rfl
  f6 := ⟨Tryd.f68.name, by decide, Tryd.func68.trans (congrArg some (by kernel_rfl))⟩
  f10 := ⟨Tryd.f53.name, by decide, Tryd.func53.trans (congrArg some (by kernel_rfl))⟩
  t0 := Tryd.underlying0
  a0 := Tryd.isAgg0
  z0 := Tryd.sizeOf0
  v0 := Tryd.zeroValue0
  t3 := Tryd.underlying3
  a3 := Tryd.isAgg3
  z3 := Tryd.sizeOf3
  v3 := Tryd.zeroValue3
  t4 := Tryd.underlying4
  a4 := Tryd.isAgg4
  z4 := Tryd.sizeOf4
  v4 := Tryd.zeroValue4
  t22 := Tryd.underlying24
  a22 := Tryd.isAgg24
  z22 := Tryd.sizeOf24
  v22 := Tryd.zeroValue24
  a23 := Tryd.isAgg3
  z23 := Tryd.sizeOf3
  t25 := Tryd.underlying100
  a25 := Tryd.isAgg100
  z25 := Tryd.sizeOf100
  v25 := Tryd.zeroValue100 }
end Go.Proofs

/-
  A queue of numbers: is it full.
-/

set_option linter.unusedVariables false
set_option maxRecDepth 20000
namespace Go.Proofs.YtckgcpoheodbcaaDoor.Kg
open Go.RowKit

theorem own_slice {w : World} {base n e size : Nat} {v : Value} {xs : List Value} (h : w.ownsRow base e size v n xs) : ∃ a cap, v = .slice a n cap := by
  rcases h.2 with ⟨rfl, rfl⟩ | ⟨g, cap, cur, rfl, _⟩
  · exact ⟨_, _, rfl⟩
  · exact ⟨_, _, rfl⟩

set_option maxHeartbeats 400000 in
theorem full_any (h m : Int) (w : World) :
    Calls Tryd.prog 64 #[.int .i64 h, .int .i64 m] w fun e w' => e = .returned (.bool (decide (0 < m ∧ m ≤ h))) ∧ w' = w := by
  by_cases h1 : 0 < m
  · by_cases h2 : m ≤ h
    · go_enter Tryd.func64, Tryd.ntmps64
      go_wp2
      go_ret
      simp [h1, h2]
    · go_enter Tryd.func64, Tryd.ntmps64
      go_wp2
      go_ret
      simp [h2]
  · go_enter Tryd.func64, Tryd.ntmps64
    go_wp2
    go_ret
    simp
    omega


end Go.Proofs.YtckgcpoheodbcaaDoor.Kg

