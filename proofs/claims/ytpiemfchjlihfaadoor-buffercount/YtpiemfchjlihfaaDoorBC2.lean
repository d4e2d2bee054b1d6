/-
  known: the beginning of the chapter's first example.
-/
import Derived.Test.YtpiemfchjlihfaaDoorBC1
set_option linter.unusedVariables false
set_option maxRecDepth 20000
namespace Go.Proofs.YtpiemfchjlihfaaDoor
open Go.RowKit

set_option maxHeartbeats 4000000 in
theorem known13_any (w : World) (hL : Laid w) : Calls Tryd.prog 5 #[] w fun e w' => e = .returned (.bool true) ∧ Below w.heap.size w w' := by
  have HL : Hid (Laid w) := hL
  have q := small_any w
  clear hL
  go_enter Tryd.func5, Tryd.ntmps5
  go_wp2_with fail
  refine q.mono ?_
  rintro e9 w1 ⟨rfl, b1⟩
  have H1 : Hid (Below w.heap.size w w1) := b1
  clear q b1
  have q := new_yes csm csm_ok w1
  go_wp2_with fail
  refine q.mono ?_
  rintro e9 w2 ⟨ab, ag, rfl, hA, b2, l1, l2⟩
  have H2 : Hid (Below w.heap.size w w2) := H1.out.trans (b2.mono H1.out.size)
  have HA : Hid (Ar w2 ab ag csm (tops0 csm) false (fun _ => 0)) := hA
  have Hl : Hid (w.heap.size ≤ ab ∧ w.heap.size ≤ ag) := ⟨by have := H1.out.size; omega, by have := H1.out.size; omega⟩
  clear q hA b2 l1 l2 H1
  have q := bnew_yes 2 10 (by decide) w2
  go_wp2_with fail
  refine q.mono ?_
  rintro e9 w3 ⟨b, rfl, hb, b3, l3⟩
  have HW : Hid (Bw w.heap.size w3 b ab ag csm (tops0 csm) (fun _ => 0) (bfs0 2 10)) := Bw.start HA.out (HL.out.keep H2.out) Hl.out ⟨HL.out.lt0, HL.out.lt1⟩ hb b3 l3
  have H3 : Hid (Below w.heap.size w w3) := H2.out.trans (b3.mono H2.out.size)
  have Hlo : Hid (∀ z, z ∈ [b, ab, ag] → w.heap.size ≤ z) := fun z hz => by
    have := HW.out.lo
    simp only [List.mem_cons, List.not_mem_nil, or_false] at hz
    omega
  clear q hb b3 l3 HA H2
  have q := plain_any 2 w3
  go_wp2_with fail
  refine q.mono ?_
  rintro e9 w4 ⟨rfl, b4⟩
  have q2 := (HW.out.below b4).new 0 (by decide) false (plain_hd 2 (by decide)) (by decide) (by decide) (by decide) 1 10 rfl rfl
  have H4 : Hid (Below w.heap.size w w4) := H3.out.trans (b4.mono H3.out.size)
  clear q b4 HW H3
  go_wp2_with fail
  refine q2.mono ?_
  rintro e9 w5 ⟨rfl, a1, a2⟩
  have H5 : Hid (Below w.heap.size w w5) := H4.out.trans (a2.below H4.out.size Hlo.out)
  obtain ⟨ws5, hws⟩ : ∃ v : Nat → Int, Bw w.heap.size w5 b ab ag csm ((tops0 csm).put 1 ((1 : Nat) + (10 : Nat))) v (((bfs0 2 10).put 0 (1 : Nat) (10 : Nat)).drop 0 (2 + 2 : Nat)) := ⟨_, a1⟩
  have HW : Hid (Bw w.heap.size w5 b ab ag csm ((tops0 csm).put 1 ((1 : Nat) + (10 : Nat))) ws5 (((bfs0 2 10).put 0 (1 : Nat) (10 : Nat)).drop 0 (2 + 2 : Nat))) := hws
  clear q2 a1 a2 hws H4
  have q := plain_any 1 w5
  go_wp2_with fail
  refine q.mono ?_
  rintro e9 w6 ⟨rfl, b4⟩
  have q2 := (HW.out.below b4).new 1 (by decide) false (plain_hd 1 (by decide)) (by decide) (by decide) (by decide) 11 10 rfl rfl
  have H6 : Hid (Below w.heap.size w w6) := H5.out.trans (b4.mono H5.out.size)
  clear q b4 HW H5
  go_wp2_with fail
  refine q2.mono ?_
  rintro e9 w7 ⟨rfl, a1, a2⟩
  have H7 : Hid (Below w.heap.size w w7) := H6.out.trans (a2.below H6.out.size Hlo.out)
  obtain ⟨ws7, hws⟩ : ∃ v : Nat → Int, Bw w.heap.size w7 b ab ag csm (((tops0 csm).put 1 ((1 : Nat) + (10 : Nat))).put 1 ((11 : Nat) + (10 : Nat))) v (((((bfs0 2 10).put 0 (1 : Nat) (10 : Nat)).drop 0 (2 + 2 : Nat)).put 1 (11 : Nat) (10 : Nat)).drop 1 (1 + 2 : Nat)) := ⟨_, a1⟩
  have HW : Hid (Bw w.heap.size w7 b ab ag csm (((tops0 csm).put 1 ((1 : Nat) + (10 : Nat))).put 1 ((11 : Nat) + (10 : Nat))) ws7 (((((bfs0 2 10).put 0 (1 : Nat) (10 : Nat)).drop 0 (2 + 2 : Nat)).put 1 (11 : Nat) (10 : Nat)).drop 1 (1 + 2 : Nat))) := hws
  clear q2 a1 a2 hws H6
  have q := plain_any 4 w7
  go_wp2_with fail
  refine q.mono ?_
  rintro e9 w8 ⟨rfl, b4⟩
  have q2 := (HW.out.below b4).rest 0 (by decide) false (plain_hd 4 (by decide)) (by decide) 5 rfl
  have H8 : Hid (Below w.heap.size w w8) := H7.out.trans (b4.mono H7.out.size)
  clear q b4 HW H7
  go_wp2_with fail
  refine q2.mono ?_
  rintro e9 w9 ⟨rfl, a1, a2⟩
  have H9 : Hid (Below w.heap.size w w9) := H8.out.trans (a2.below H8.out.size Hlo.out)
  obtain ⟨ws9, hws⟩ : ∃ v : Nat → Int, Bw w.heap.size w9 b ab ag csm (((tops0 csm).put 1 ((1 : Nat) + (10 : Nat))).put 1 ((11 : Nat) + (10 : Nat))) v ((((((bfs0 2 10).put 0 (1 : Nat) (10 : Nat)).drop 0 (2 + 2 : Nat)).put 1 (11 : Nat) (10 : Nat)).drop 1 (1 + 2 : Nat)).drop 0 (4 + 2 : Nat)) := ⟨_, a1⟩
  have HW : Hid (Bw w.heap.size w9 b ab ag csm (((tops0 csm).put 1 ((1 : Nat) + (10 : Nat))).put 1 ((11 : Nat) + (10 : Nat))) ws9 ((((((bfs0 2 10).put 0 (1 : Nat) (10 : Nat)).drop 0 (2 + 2 : Nat)).put 1 (11 : Nat) (10 : Nat)).drop 1 (1 + 2 : Nat)).drop 0 (4 + 2 : Nat))) := hws
  clear q2 a1 a2 hws H8
  have q := brest_yes HW.out.bf 1 (by decide)
  have e1 : ((((((bfs0 2 10).put 0 (1 : Nat) (10 : Nat)).drop 0 (2 + 2 : Nat)).put 1 (11 : Nat) (10 : Nat)).drop 1 (1 + 2 : Nat)).drop 0 (4 + 2 : Nat)).at_ 1 = 14 := rfl
  have e2 : ((((((bfs0 2 10).put 0 (1 : Nat) (10 : Nat)).drop 0 (2 + 2 : Nat)).put 1 (11 : Nat) (10 : Nat)).drop 1 (1 + 2 : Nat)).drop 0 (4 + 2 : Nat)).ws 1 = 7 := rfl
  rw [e1, e2] at q
  clear e1 e2
  go_wp2_with fail
  refine q.mono ?_
  rintro e9 w10 ⟨rfl, b4⟩
  have q2 := top_any ab ag csm _ false _ 1 w10 (HW.out.ar.below b4)
  have e3 : (((tops0 csm).put 1 ((1 : Nat) + (10 : Nat))).put 1 ((11 : Nat) + (10 : Nat))).top 1 = 21 := rfl
  rw [e3] at q2
  have H10 : Hid (Below w.heap.size w w10) := H9.out.trans (b4.mono H9.out.size)
  clear e3 q b4 H9 HW
  go_wp2_with fail
  refine q2.mono ?_
  rintro e9 w11 ⟨rfl, b4⟩
  have H11 : Hid (Below w.heap.size w w11) := H10.out.trans (b4.mono H10.out.size)
  clear q2 b4 H10
  go_wp2
  go_returns
  exact ⟨rfl, H11.out⟩

end Go.Proofs.YtpiemfchjlihfaaDoor
