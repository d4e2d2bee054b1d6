/-
  pieces: a stretch of bits, cut at the words.
-/
import Derived.Test.YtlnfhnahnmblmabDoorM1
import Derived.RangeFuncNested
import Derived.RangeFuncBound
import Derived.RangeFuncCalls
import Derived.RangeFuncLeaves
import Derived.Shelf.Abstract
import Derived.Shelf.RegionOpen
import Derived.OwnWalkIn
import Derived.TacticsInMore
import Derived.LoopNIn
import Derived.LoopIn
set_option linter.unusedVariables false
namespace Go.Proofs.YtlnfhnahnmblmabDoor
open Go.RowKit Go.Shelf

attribute [local go_sem] Oper.semAt_some

/-- A piece: within one word. -/
abbrev Pc (e : Nat) := { x : Nat × Nat // x.1 < x.2 ∧ x.2 ≤ e ∧ x.2 ≤ x.1 / 64 * 64 + 64 }

def pcs (e f : Nat) : List (Pc e) :=
  if h : f < e then ⟨(f, min e (f / 64 * 64 + 64)), by refine ⟨?_, ?_, ?_⟩ <;> (dsimp only; omega)⟩ :: pcs e (min e (f / 64 * 64 + 64)) else []
termination_by e - f
decreasing_by omega

theorem pcs_nil {e f : Nat} (h : e ≤ f) : pcs e f = [] := by rw [pcs]; simp; omega
theorem pcs_cons {e f : Nat} (h : f < e) : ∃ hp, pcs e f = ⟨(f, min e (f / 64 * 64 + 64)), hp⟩ :: pcs e (min e (f / 64 * 64 + 64)) := by
  rw [pcs]; simp [h]; omega

abbrev encP {e : Nat} (x : Pc e) : Array Value := #[.int .i64 ((x.1.1 : Int) / 64), .int .u64 (mk (x.1.1 % 64) (x.1.2 - x.1.1 / 64 * 64) : Nat)]

/-- A round leaves the iterator's two variables alone. -/
def Kp2 (cf cb : Nat) (W W' : World) : Prop := W'.heap[cf]? = W.heap[cf]? ∧ W'.heap[cb]? = W.heap[cb]?

theorem pieces_any (f e : Int) (w : World) :
    Calls Tryd.prog 27 #[.int .i64 f, .int .i64 e] w fun r w' => r = .returned (.func (.func 40) #[] #[.pointer (some ⟨w.heap.size, 0, none⟩), .pointer (some ⟨w.heap.size + 1, 0, none⟩)]) ∧ w' = (w.alloc (.cells #[.int .i64 f] 3)).alloc (.cells #[.int .i64 e] 3) := by
  go_enter Tryd.func27, Tryd.ntmps27
  go_wp2
  go_ret
  exact ⟨rfl, rfl⟩

set_option maxRecDepth 100000 in
set_option maxHeartbeats 4000000 in
theorem pieces_stops (n cf cb : Nat) (f : Nat) (be : Int) (e : Nat) (he : e = be.toNat) (hel : e ≤ 1048576) (hf63 : f < 9223372036854775808) (w : World) (h1 : w.cell? ⟨cf, 0, none⟩ = some (.int .i64 f)) (h2 : w.cell? ⟨cb, 0, none⟩ = some (.int .i64 be)) :
    SeqStopsK Fence.wide n Tryd.prog 40 #[.pointer (some ⟨cf, 0, none⟩), .pointer (some ⟨cb, 0, none⟩)] (encP (e := e)) (Kp2 cf cb) (fun xs => xs = pcs e f) (fun pre => pre <+: pcs e f) (pcs e f).length w := fun lp J Jx W hW hJ hJx hY h0 => by
  have k1 : W.cell? ⟨cf, 0, none⟩ = some (.int .i64 f) := (hW.cell (World.block_lt_of_cell? _ _ h1)).trans h1
  have k2 : W.cell? ⟨cb, 0, none⟩ = some (.int .i64 be) := (hW.cell (World.block_lt_of_cell? _ _ h2)).trans h2
  clear h1 h2 hW
  have HY : Hid (∀ (pre : List (Pc e)) x W1, J pre W1 → pre.length < (pcs e f).length → YieldAt Fence.wide (n - 1) Tryd.prog lp (encP x) W1 fun e W' =>
      (e = .returned (.bool true) ∧ J (pre ++ [x]) W' ∧ Kp2 cf cb W1 W') ∨ (e = .returned (.bool false) ∧ Jx (pre ++ [x]) W')) := hY
  have HJ : Hid (AbidesFrom W.heap.size J) := hJ
  clear hY hJ
  refine callsIn_of_wp Tryd.func40 rfl trivial ?_ rfl
  simp only [Tryd.ntmps40, List.size_toArray, List.length_cons, List.length_nil, Nat.reduceAdd, Nat.reduceSub, Array.replicate_succ, Array.replicate_zero, List.push_toArray, List.append_toArray, List.nil_append, List.cons_append]
  gi_wp2
  gi_loopw [4] (fun v wr => ∃ (pre : List (Pc e)) (a : Nat), v = .int .i64 a ∧ a < 9223372036854775808 ∧ pcs e f = pre ++ pcs e a ∧ J pre wr ∧ wr.cell? ⟨cb, 0, none⟩ = some (.int .i64 be)) (fun v _ => (be - intOf v).toNat)
  case atStart => exact ⟨[], f, rfl, hf63, rfl, h0, k2⟩
  case round =>
    obtain ⟨pre, a, rfl, ha, hl, hJr, k3⟩ := hrel
    have Hl : Hid (pcs e f = pre ++ pcs e a) := hl
    have HJr : Hid (J pre wr) := hJr
    clear hl hJr k1 k2 h0
    by_cases hae : (a : Int) < be
    · gi_wp2
      refine wpIn_wide.2 ?_
      go_quiet (fail)
      obtain ⟨q, hq⟩ : ∃ q : Nat, q = min e (a / 64 * 64 + 64) := ⟨_, rfl⟩
      have hqi : (if ((a : Int) / 64 + 1) * 64 < be then ((a : Int) / 64 + 1) * 64 else be) = (q : Int) := by
        split <;> omega
      rw [hqi]
      have haq : a < q := by omega
      have hqe : q ≤ e := by omega
      have hqa : q ≤ a / 64 * 64 + 64 := by omega
      obtain ⟨hp, hpc⟩ := pcs_cons (e := e) (f := a) (by omega)
      have hl2 : pcs e f = pre ++ ⟨(a, q), ⟨haq, hqe, hqa⟩⟩ :: pcs e q := by
        rw [Hl.out, hpc]; subst hq; rfl
      have hJ1 : J pre (wr.drewN nq) := HJ.out _ _ _ none HJr.out ⟨rfl, rfl, rfl, Nat.le_refl _, fun _ _ _ => rfl⟩ (fun r e => by cases e)
      have hm := mask_any (a % 64) (q - a / 64 * 64) (by omega) (by omega) (by omega) (wr.drewN nq)
      rw [show ((a % 64 : Nat) : Int) = (a : Int) - (a : Int) / 64 * 64 by omega, show ((q - a / 64 * 64 : Nat) : Int) = (q : Int) - (a : Int) / 64 * 64 by omega] at hm
      have HL2 : Hid (pcs e f = pre ++ ⟨(a, q), ⟨haq, hqe, hqa⟩⟩ :: pcs e q) := hl2
      clear hqi hq hp hpc hl2 Hl HJr
      generalize hw1 : wr.drewN nq = w1 at *
      have k4 : w1.cell? ⟨cb, 0, none⟩ = some (.int .i64 be) := by rw [← hw1]; exact k3
      clear hw1 k3
      gi_wp2
      refine ⟨trivial, fun h => (by cases h), (callsIn_wide.2 hm).mono ?_⟩
      rintro r w2 ⟨rfl, nn, hw2⟩
      have hJ2 : J pre w2 := HJ.out _ _ _ none hJ1 (by rw [hw2]; exact ⟨rfl, rfl, rfl, Nat.le_refl _, fun _ _ _ => rfl⟩) (fun r e => by cases e)
      have k5 : w2.cell? ⟨cb, 0, none⟩ = some (.int .i64 be) := by rw [hw2]; exact k4
      obtain ⟨fn, tmps, assign, body, hy, hR⟩ := HY.out pre ⟨(a, q), ⟨haq, hqe, hqa⟩⟩ w2 hJ2 (by rw [HL2.out]; simp)
      clear hm hJ1 k4 hJ2 hw2
      dsimp only [encP] at hy
      gi_wp2
      refine ⟨fun h => (by cases h), hR.mono ?_⟩
      rintro e' w3 (⟨rfl, hJ3, hk3⟩ | ⟨rfl, hJ3⟩)
      · have k6 : w3.cell? ⟨cb, 0, none⟩ = some (.int .i64 be) := (World.cell?_of_block (w := w2) hk3.2).trans k5
        have HJ3 : Hid (J _ w3) := hJ3
        clear hy hR k5 hk3 hJ3
        gi_wp2
        go_roundw
        case rel => exact ⟨_, q, rfl, by omega, by rw [HL2.out, List.append_assoc]; rfl, HJ3.out, k6⟩
        case measure => simp [intOf]; omega
      · have HJ3 : Hid (Jx _ w3) := hJ3
        clear hy hR k5 hJ3
        gi_wp2
        refine bodyPost_ret (results_none rfl _ _ _) rfl ?_
        exact ⟨⟨_, rfl⟩, .inr ⟨_, ⟨pcs e q, by rw [HL2.out, List.append_assoc]; rfl⟩, HJ3.out⟩⟩
    · gi_wp2
      go_end0
      refine ⟨⟨_, rfl⟩, .inl ?_⟩
      rw [Hl.out, pcs_nil (by omega), List.append_nil]
      exact HJr.out
end Go.Proofs.YtlnfhnahnmblmabDoor
