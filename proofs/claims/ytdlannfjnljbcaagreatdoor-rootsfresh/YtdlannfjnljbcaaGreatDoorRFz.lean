/-
  frozen: going through what is there when one begins.
-/
import Derived.Test.YtdlannfjnljbcaaGreatDoorRCo
import Derived.Test.YtdlannfjnljbcaaGreatDoorRTa
set_option linter.unusedVariables false
namespace Go.Proofs.YtdlannfjnljbcaaGreatDoor
open Go.RowKit Go.Shelf

/-- What whoever goes through an iterator of numbers is told: J between two things, Jx behind a thing at which it said no more; g: a block that it leaves alone. -/
def Walked (P : Program) (fz : Nat) (Bl : Nat) (xs : List Int) (W : World) : Prop :=
  ∀ (k : Nat) (caps : Array Value) (J Jx : Nat → List Int → World → Prop), (∀ args w, (callFunc k args).run P w = .ok (.enter k args) w) →
    (∀ g W1, Below W.heap.size W W1 → W.heap.size ≤ g → g < W1.heap.size → J g [] W1) →
    (∀ g pre x W2, J g pre W2 → pre ++ [x] <+: xs → Calls P k (#[.int .i64 x] ++ caps) W2 fun e W3 => W3.heap[g]? = W2.heap[g]? ∧ ((e = .returned (.bool true) ∧ J g (pre ++ [x]) W3) ∨ (e = .returned (.bool false) ∧ Jx g (pre ++ [x]) W3))) →
    Calls P fz #[.func (.func k) #[] caps, .pointer (some ⟨Bl, 0, none⟩)] W fun e W' => (∃ r, e = .returned r) ∧ ∃ g, J g xs W' ∨ ∃ pre, pre <+: xs ∧ Jx g pre W'

set_option maxHeartbeats 2000000 in
theorem frozenQ_core (Bl bs : Nat) (xs : List Int) (W : World) (HL : World → Prop) (lv : Value) (hbl : W.cell? ⟨Bl, 0, none⟩ = some (.func (.func 61) #[.pointer (some ⟨bs, 0, none⟩)] #[])) (hxl : xs.length < 8796093022208)
    (hlive : Calls Tryz.prog 61 #[.pointer (some ⟨bs, 0, none⟩)] W fun e w' => e = .returned lv ∧ HL w')
    (hcop : ∀ w1, HL w1 → Calls Tryz.prog 81 #[lv] w1 fun e W1 => ∃ v, e = .returned v ∧ W1.ownsRow W.heap.size 3 1 v xs.length (ints xs) ∧ Below W.heap.size W W1 ∧ W.heap.size < W1.heap.size) :
    Walked Tryz.prog 80 Bl xs W := by
  intro k caps J Jx ek hstart hcb
  have Hcb : Hid (∀ g pre x W2, J g pre W2 → pre ++ [x] <+: xs → Calls Tryz.prog k (#[.int .i64 x] ++ caps) W2 fun e W3 => W3.heap[g]? = W2.heap[g]? ∧ ((e = .returned (.bool true) ∧ J g (pre ++ [x]) W3) ∨ (e = .returned (.bool false) ∧ Jx g (pre ++ [x]) W3))) := hcb
  clear hcb
  go_enter Tryz.func80, Tryz.ntmps80
  go_wp2_with fail
  refine hlive.mono ?_
  rintro e w1 ⟨rfl, hw1⟩
  have hcop1 := hcop w1 hw1
  clear hcop
  go_wp2_with fail
  refine hcop1.mono ?_
  rintro e W1 ⟨v, rfl, hrow, hBW, hsz⟩
  clear hcop1 hlive hbl
  rcases hrow.2 with ⟨rfl, h0⟩ | ⟨g, cap, cur, rfl, hgW, hgg, hn, hm, hs, ht⟩
  · obtain rfl : xs = [] := List.eq_nil_of_length_eq_zero h0
    clear hrow
    go_wp2
    refine wp_loop_rounds 1 ?_
    rw [rounds_succ]
    go_wp2
    go_end0
    exact ⟨⟨_, rfl⟩, W.heap.size, .inl (hstart _ _ hBW (Nat.le_refl _) hsz)⟩
  · have hgl : g < W1.heap.size := heap_lt hgg
    have hJ0 := hstart g W1 hBW hgW hgl
    have Hcur : Hid (∀ (j : Nat) x, xs[j]? = some x → cur[j]? = some (.int .i64 x)) := fun j x hj => by
      have hjl := (List.getElem?_eq_some_iff.1 hj).1
      have h1 : (ints xs)[j]? = some (.int .i64 x) := by simp [hj]
      rw [← h1, ← ht, List.getElem?_take, if_pos (by omega), Array.getElem?_toList]
    clear hstart hrow ht hs hn hm
    have Hgg : Hid (W1.heap[g]? = some (.cells cur 3 (0, 0))) := hgg
    clear hgg
    go_wp2
    go_loopw [9] (fun i wr => ∃ j : Nat, j ≤ xs.length ∧ i = .int .i64 j ∧ J g (xs.take j) wr ∧ wr.heap[g]? = some (.cells cur 3 (0, 0))) (fun i _ => xs.length - (intOf i).toNat)
    case atStart => exact ⟨0, Nat.zero_le _, rfl, hJ0, Hgg.out⟩
    case round =>
      obtain ⟨j, hj, rfl, hJs, hgr⟩ := hrel
      have Hgr : Hid (wr.heap[g]? = some (.cells cur 3 (0, 0))) := hgr
      by_cases hlt : j < xs.length
      · obtain ⟨x, hx⟩ : ∃ x, xs[j]? = some x := ⟨_, List.getElem?_eq_getElem hlt⟩
        have hcx : wr.cell? ⟨g, j, none⟩ = some (.int .i64 x) := (heap_cell hgr j).trans (Hcur.out j x hx)
        have hsn := take_snoc hx
        have hcal := Hcb.out g (xs.take j) x wr hJs (by rw [hsn]; exact List.take_prefix _ _)
        rw [hsn] at hcal
        clear hsn hx hgr
        have hji : (j : Int) < xs.length := by omega
        go_wp2_with fail
        refine hcal.mono ?_
        rintro e W3 ⟨hg3, ⟨rfl, hJ3⟩ | ⟨rfl, hJx3⟩⟩
        · have Hg3 : Hid (W3.heap[g]? = some (.cells cur 3 (0, 0))) := hg3.trans Hgr.out
          clear hg3 hcal
          go_wp2
          go_roundw
          case rel => exact ⟨j + 1, hlt, by go_num, hJ3, Hg3.out⟩
          case measure => simp [intOf]; omega
        · clear hg3 hcal
          go_wp2
          refine bodyPost_ret (results_none rfl _ _ _) rfl ?_
          exact ⟨⟨_, rfl⟩, g, .inr ⟨_, List.take_prefix _ _, hJx3⟩⟩
      · obtain rfl : j = xs.length := by omega
        rw [List.take_length] at hJs
        clear hgr
        go_wp2
        go_end0
        exact ⟨⟨_, rfl⟩, g, .inl hJs⟩

set_option maxHeartbeats 1000000 in
theorem onward_any (b : Nat) (a : Option Addr) (n cap : Nat) (w : World) (hheld : Calls Tryz.prog 79 #[.pointer (some ⟨b, 0, none⟩)] w fun e w' => e = .returned (.slice a n cap) ∧ ∃ nq, w' = w.drewN nq) :
    Calls Tryz.prog 61 #[.pointer (some ⟨b, 0, none⟩)] w fun e w' => e = .returned (.func (.func 110) #[] #[.pointer (some ⟨w.heap.size, 0, none⟩)]) ∧ ∃ nq, w' = (w.drewN nq).alloc (.cells #[.slice a n cap] 33) := by
  go_enter Tryz.func61, Tryz.ntmps61
  go_wp2_with fail
  refine hheld.mono ?_
  rintro e w' ⟨rfl, nq, rfl⟩
  go_wp2_with fail
  refine (valuesI_any _ _ _ _).mono ?_
  rintro e w' ⟨rfl, rfl⟩
  go_wp2
  go_ret
  exact ⟨rfl, nq, rfl⟩

theorem qall_any (b : Nat) (w : World) :
    Calls Tryz.prog 31 #[.pointer (some ⟨b, 0, none⟩)] w fun e w' => e = .returned (.func (.func 80) #[] #[.pointer (some ⟨w.heap.size, 0, none⟩)]) ∧ w' = w.alloc (.cells #[.func (.func 61) #[.pointer (some ⟨b, 0, none⟩)] #[]] 80) := by
  go_enter Tryz.func31, Tryz.ntmps31
  go_wp2
  go_ret
  exact ⟨rfl, rfl⟩

theorem frozenQ_any (Bl b n cap : Nat) (a : Option Addr) (xs : List Int) (W : World) (hbl : W.cell? ⟨Bl, 0, none⟩ = some (.func (.func 61) #[.pointer (some ⟨b, 0, none⟩)] #[]))
    (hheld : Calls Tryz.prog 79 #[.pointer (some ⟨b, 0, none⟩)] W fun e w' => e = .returned (.slice a n cap) ∧ ∃ nq, w' = W.drewN nq) (hI : SliceIs W.heap.size W (.slice a n cap) xs) (hlen : xs.length < 8796093022208) :
    Walked Tryz.prog 80 Bl xs W := by
  refine frozenQ_core Bl b xs W _ _ hbl hlen (onward_any b a n cap W hheld) ?_
  rintro w1 ⟨nq, rfl⟩
  have bX := Boxed.new (W.drewN nq) 33 (.slice a n cap)
  have hB1 : Below W.heap.size W ((W.drewN nq).alloc (.cells #[.slice a n cap] 33)) := (below_drewN (Below.refl _ W) nq).alloc (Nat.le_refl _) _
  have hseq := valuesI_full W.heap.size ((W.drewN nq).alloc (.cells #[.slice a n cap] 33)).heap.size (.slice a n cap) xs ((W.drewN nq).alloc (.cells #[.slice a n cap] 33)) (by simp) (Nat.le_refl _) hlen bX.cell (by
    rcases hI.below hB1 (Nat.le_refl _) with h | ⟨b, off, cap, e, hb, hc⟩
    · exact .inl h
    · exact .inr ⟨b, off, cap, e, by simp; omega, hc⟩)
  have hcop := copiedI_any 110 _ xs (fun _ => False) _ (enters_of Tryz.func110 (by kernel_rfl) rfl) hseq (fun k h => h.elim) hlen
  refine hcop.mono ?_
  rintro e W1 ⟨v, rfl, hrow, hB⟩
  exact ⟨v, rfl, row_base hrow (by simp), hB1.trans (hB.mono (by simp)), by have := hB.size; simp at this; omega⟩

end Go.Proofs.YtdlannfjnljbcaaGreatDoor
