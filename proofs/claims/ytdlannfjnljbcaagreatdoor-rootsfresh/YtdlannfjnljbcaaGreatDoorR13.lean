/-
  The queue: Enqueue, Dequeue, Queue.
-/
import Derived.Test.YtdlannfjnljbcaaGreatDoorR12
import Derived.Test.YtdlannfjnljbcaaGreatDoorRFz
set_option linter.unusedVariables false
namespace Go.Proofs.YtdlannfjnljbcaaGreatDoor
open Go.RowKit Go.Shelf

attribute [local go_sem] Oper.semAt_some

theorem grown_of_below {w w' : World} (h : Below w.heap.size w w') : w.grownBy w' none := ⟨h.os, h.tape, h.output, h.size, fun k hk _ => h.block k hk⟩

set_option maxRecDepth 100000 in
set_option maxHeartbeats 2000000 in
theorem frozenQ_full (Bl b n0 : Nat) (xs : List Int) (w : World) (hbl : w.cell? ⟨Bl, 0, none⟩ = some (.func (.func 61) #[.pointer (some ⟨b, 0, none⟩)] #[])) (hn0 : n0 ≤ w.heap.size) (hlen : xs.length < 8796093022208)
    (hlc : ∀ W, Below w.heap.size w W → ∃ (HL : World → Prop) (lv : Value), Calls Tryz.prog 61 #[.pointer (some ⟨b, 0, none⟩)] W (fun e w' => e = .returned lv ∧ HL w') ∧
      ∀ w1, HL w1 → Calls Tryz.prog 81 #[lv] w1 fun e W1 => ∃ v, e = .returned v ∧ W1.ownsRow W.heap.size 3 1 v xs.length (ints xs) ∧ Below W.heap.size W W1 ∧ W.heap.size < W1.heap.size) :
    SeqFull Tryz.prog 80 #[.pointer (some ⟨Bl, 0, none⟩)] (fun x : Int => #[Value.int .i64 x]) xs n0 (fun _ => False) w := fun n l J W S0 hW _ hJ hY h0 => by
  have hBl : Bl < w.heap.size := World.block_lt_of_cell? _ _ hbl
  have hc' := (hW.cell (p := ⟨Bl, 0, none⟩) hBl).trans hbl
  obtain ⟨HL, lv, hlive, hcop⟩ := hlc W hW
  have HJ : Hid (OwnS W.heap.size J) := hJ
  have HY : Hid (∀ S pre x W1, J S pre W1 → pre ++ [x] <+: xs → ∀ m, YieldAt Fence.wide m Tryz.prog l #[Value.int .i64 x] W1 fun e W' => e = .returned (.bool true) ∧ J S (pre ++ [x]) W' ∧ (∀ k, S k → W'.heap[k]? = W1.heap[k]?) ∧ Below n0 W1 W') := hY
  have H0 : Hid (J S0 [] W) := h0
  clear hlc hJ hY h0 hbl
  refine callsIn_of_wp Tryz.func80 rfl trivial ?_ rfl
  simp only [Tryz.ntmps80, List.size_toArray, List.length_cons, List.length_nil, Nat.reduceAdd, Nat.reduceSub, Array.replicate_succ, Array.replicate_zero, List.push_toArray, List.append_toArray, List.nil_append, List.cons_append]
  gi_wp2_with fail
  refine ⟨trivial, fun h => (by cases h), (callsIn_wide.2 hlive).mono ?_⟩
  rintro e w1 ⟨rfl, hw1⟩
  have hcop1 := hcop w1 hw1
  clear hcop hlive hw1
  gi_wp2_with fail
  refine ⟨trivial, fun h => (by cases h), (callsIn_wide.2 hcop1).mono ?_⟩
  rintro e W1 ⟨v, rfl, hrow, hBW, hsz⟩
  have J1 : Hid (J (fun k => S0 k ∨ (W.heap.size ≤ k ∧ k < W1.heap.size)) [] W1) := HJ.out S0 [] W W1 none H0.out (grown_of_below hBW) (fun r e => by cases e)
  clear hcop1 hc' H0 HJ
  rcases hrow.2 with ⟨rfl, hz⟩ | ⟨g, cap, cur, rfl, hgW, hgg, hn, hm, hs, ht⟩
  · obtain rfl : xs = [] := List.eq_nil_of_length_eq_zero hz
    clear hrow
    gi_wp2
    gi_loopw [9] (fun i wr => i = .int .i64 0 ∧ wr = W1) (fun _ _ => 0)
    case atStart => exact ⟨rfl, rfl⟩
    case round =>
      obtain ⟨rfl, rfl⟩ := hrel
      gi_wp2
      go_end0
      exact ⟨⟨_, rfl⟩, _, J1.out⟩
  · have hgl : g < W1.heap.size := heap_lt hgg
    have Hcur : Hid (∀ (j : Nat) x, xs[j]? = some x → cur[j]? = some (.int .i64 x)) := fun j x hj => by
      have hjl := (List.getElem?_eq_some_iff.1 hj).1
      have h1 : (ints xs)[j]? = some (.int .i64 x) := by simp [hj]
      rw [← h1, ← ht, List.getElem?_take, if_pos (by omega), Array.getElem?_toList]
    have HS : Hid ((fun k => S0 k ∨ (W.heap.size ≤ k ∧ k < W1.heap.size)) g) := .inr ⟨hgW, hgl⟩
    have Hgg : Hid (W1.heap[g]? = some (.cells cur 3 (0, 0))) := hgg
    clear hrow ht hs hn hm hgg hgW hgl
    generalize (fun k => S0 k ∨ (W.heap.size ≤ k ∧ k < W1.heap.size)) = S1 at *
    gi_wp2
    gi_loopw [9] (fun i wr => ∃ (k : Nat), k ≤ xs.length ∧ i = .int .i64 k ∧ Hid (J S1 (xs.take k) wr) ∧ Hid (wr.heap[g]? = some (.cells cur 3 (0, 0)))) (fun i _ => xs.length - (intOf i).toNat)
    case atStart => exact ⟨0, Nat.zero_le _, rfl, J1.out, Hgg.out⟩
    case round =>
      obtain ⟨k, hk, rfl, hJs, hgr⟩ := hrel
      by_cases hlt : k < xs.length
      · obtain ⟨x, hx⟩ : ∃ x, xs[k]? = some x := ⟨_, List.getElem?_eq_getElem hlt⟩
        have hcx : wr.cell? ⟨g, k, none⟩ = some (.int .i64 x) := (heap_cell hgr.out k).trans (Hcur.out k x hx)
        have hsn := take_snoc hx
        obtain ⟨fn, tmps, assign, body, hy, hR⟩ := HY.out S1 (xs.take k) x wr hJs.out (by rw [hsn]; exact List.take_prefix _ _) (n - 1)
        have Hsn : Hid (xs.take k ++ [x] = xs.take (k + 1)) := hsn
        have hki : (k : Int) < (xs.length : Int) := by omega
        clear hsn hx
        gi_wp2
        refine ⟨fun h => (by cases h), hR.mono ?_⟩
        rintro e W3 ⟨rfl, hJ3, hS3, hk3⟩
        rw [Hsn.out] at hJ3
        have hJ3' : Hid (J S1 (xs.take (k + 1)) W3) := hJ3
        have hg3 : Hid (W3.heap[g]? = some (.cells cur 3 (0, 0))) := (hS3 g HS.out).trans hgr.out
        clear hJ3 hS3 hk3
        gi_wp2
        go_roundw
        case rel => exact ⟨k + 1, hlt, by go_num, hJ3', hg3⟩
        case measure => simp [intOf]; omega
      · obtain rfl : k = xs.length := by omega
        have hJs' := hJs.out
        rw [List.take_length] at hJs'
        gi_wp2
        go_end0
        exact ⟨⟨_, rfl⟩, S1, hJs'⟩

end Go.Proofs.YtdlannfjnljbcaaGreatDoor
