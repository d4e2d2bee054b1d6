/-
  head: the parts of a word; Pack, Unpack.
-/
import Derived.Test.YtpiemfchjlihfaaDoorCWord
import Derived.Handy
set_option linter.unusedVariables false
namespace Go.Proofs.YtpiemfchjlihfaaDoor
open Go.RowKit

abbrev kdOf (m : Int) : Int := m / 4 % 8
abbrev hdOf (m : Int) : Bool := decide (m / 32 % 2 = 1)
abbrev agOf (m : Int) : Int := m / 64 % 16
abbrev stOf (m : Int) : Int := m / 1024 % 256
abbrev ptOf (m : Int) : Int := m / 262144 % 4096
abbrev rwOf (m : Int) : Int := m / 1073741824 % 65536

set_option maxHeartbeats 1000000 in
theorem head_any (m : Int) (hm : Wd m) (w : World) (hB : LaidB w) :
    Calls Tryd.prog 68 #[.int .u64 m] w fun e w' => e = .returned (hv 0 (kdOf m) (ptOf m) (rwOf m) (agOf m) (stOf m) (hdOf m)) ∧ Below w.heap.size w w' := by
  have hr : ∃ b, b = w.heap.size := ⟨_, rfl⟩
  go_enter Tryd.func68, Tryd.ntmps68
  go_wp2_with fail
  have hB0 := hB.keep (Below.alloc (Below.refl _ _) (Nat.le_refl _) (.cells (hcells 0 0 0 0 0 0 false) 38))
  refine (read_1 m hm _ hB0).mono ?_
  rintro e w' ⟨rfl, n1, rfl⟩
  go_wp2_with fail
  refine (read_2 m hm _ (hB0.drewN _)).mono ?_
  rintro e w' ⟨rfl, n2, rfl⟩
  go_wp2_with fail
  refine (read_3 m hm _ (hB0.drewN _)).mono ?_
  rintro e w' ⟨rfl, n3, rfl⟩
  go_wp2_with fail
  refine (read_4 m hm _ (hB0.drewN _)).mono ?_
  rintro e w' ⟨rfl, n4, rfl⟩
  go_wp2_with fail
  refine (read_5 m hm _ (hB0.drewN _)).mono ?_
  rintro e w' ⟨rfl, n5, rfl⟩
  go_wp2_with fail
  refine (read_6 m hm _ (hB0.drewN _)).mono ?_
  rintro e w' ⟨rfl, n6, rfl⟩
  go_wp2
  go_returns
  refine ⟨rfl, ?_⟩
  go_grown
  exact below_drewN (Below.alloc (Below.refl _ _) (Nat.le_refl _) _) _

/-- Both tables. -/
structure Laid (w : World) : Prop where
  b : LaidB w
  k : LaidK w

theorem Laid.keep {w w' : World} (h : Laid w) (b : Below w.heap.size w w') : Laid w' := ⟨h.b.keep b, h.k.keep b⟩

theorem Laid.alloc {w : World} (h : Laid w) (o : Obj) : Laid (w.alloc o) := h.keep (Below.alloc (Below.refl _ _) (Nat.le_refl _) _)

/-- P2.5. -/
def pck (k p r a t : Int) (h : Bool) : Int := if flt k p r a t = 0 then wrd k p r a t h else 0

set_option maxHeartbeats 1000000 in
theorem pack_any (s k p r a t : Int) (h : Bool) (w : World) (hL : Laid w) :
    Calls Tryd.prog 22 #[hv s k p r a t h] w fun e w' => e = .returned (.tuple #[.int .u64 (pck k p r a t h), .int .i64 (flt k p r a t)]) ∧ Below w.heap.size w w' := by
  have hL1 := hL.alloc (.cells (hcells s k p r a t h) 38)
  have hL2 := hL1.alloc (.cells (hcells s k p r a t h) 38)
  by_cases hf : flt k p r a t = 0
  · have hw := word_any s k p r a t h (May.of hf) _ hL2.b
    have hp : pck k p r a t h = wrd k p r a t h := by unfold pck; rw [if_pos hf]
    have hfa := fault_any s k p r a t h _ hL1.k
    rw [hf] at hfa ⊢
    rw [hp]
    clear hf hp
    go_enter Tryd.func22, Tryd.ntmps22
    go_wp2_with fail
    refine hfa.mono ?_
    rintro e w' ⟨rfl, rfl⟩
    go_wp2_with fail
    refine hw.mono ?_
    rintro e w' ⟨rfl, b⟩
    go_wp2
    go_ret2
    refine ⟨rfl, Below.trans ?_ (b.mono (by go_size))⟩
    go_grown
  · have hp : pck k p r a t h = 0 := by unfold pck; rw [if_neg hf]
    have hfa := fault_any s k p r a t h _ hL1.k
    rw [hp]
    generalize flt k p r a t = f at hf hfa ⊢
    go_enter Tryd.func22, Tryd.ntmps22
    go_wp2_with fail
    refine hfa.mono ?_
    rintro e w' ⟨rfl, rfl⟩
    go_wp2
    go_ret2
    refine ⟨rfl, ?_⟩
    go_grown

end Go.Proofs.YtpiemfchjlihfaaDoor
