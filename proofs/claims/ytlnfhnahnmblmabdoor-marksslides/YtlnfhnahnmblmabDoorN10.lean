/-
  begin: a map of more than 8192 words.
-/
import Derived.Test.YtlnfhnahnmblmabDoorN9
set_option linter.unusedVariables false
set_option maxRecDepth 20000
namespace Go.Proofs.YtlnfhnahnmblmabDoor
open Go.RowKit Go.Shelf

set_option maxHeartbeats 4000000 in
theorem begin_great (n m : Nat) (hm : 8192 < n) (hm2 : n ≤ 1048576) (hnm : n = m + 1) (w : World) (hL : Laid w) :
    Calls Tryd.prog 7 #[.int .i64 n] w fun x w' => x = .returned (.tuple #[.pointer none, .bool true]) ∧ Below w.heap.size w w' := by
  have c1 := new_in n (by omega) w
  have HN : Hid (n = m + 1) := hnm
  have HL : Hid (Laid w) := hL
  clear hL hnm
  go_enter Tryd.func7, Tryd.ntmps7
  go_wp2_with fail
  refine c1.mono ?_
  rintro r1 w1 ⟨b, g, rfl, hM, hB, hb, hg⟩
  have c2 := rnew_in n (by omega) w1
  have hM1 : Hid (Mp w1 b g n (fun _ => false) ∧ Below w.heap.size w w1 ∧ w.heap.size ≤ b ∧ w.heap.size ≤ g) := ⟨hM, hB, hb, hg⟩
  clear c1 hM hB hb hg
  go_wp2_with fail
  refine c2.mono ?_
  rintro r2 w2 ⟨r, h, rfl, -, hB2, -, -⟩
  have hB' : Below w.heap.size w w2 := hM1.out.2.1.trans (hB2.mono hM1.out.2.1.size)
  have hM2 := hM1.out.1.below hB2
  have c3 := num_any 0 w2
  have c4 := words_any b g n _ w2 hM2
  have c5 := next_nat b g n 0 n (fun _ => false) 0 (by simp) (by omega) (.inl ⟨rfl, fun _ _ _ => rfl⟩) w2 hM2 (HL.out.below hB')
  rw [if_pos rfl] at c5
  have H2 : Hid (Mp w2 b g n (fun _ => false) ∧ Below w.heap.size w w2 ∧ w.heap.size ≤ g) := ⟨hM2, hB', hM1.out.2.2.2⟩
  clear c2 hB2 hB' hM2 hM1
  go_wp2_with fail
  refine c3.mono ?_
  rintro r3 w3 ⟨rfl, rfl⟩
  clear c3
  go_wp2_with fail
  refine c4.mono ?_
  rintro r4 w4 ⟨rfl, rfl⟩
  clear c4
  go_wp2_with fail
  refine c5.mono ?_
  rintro r5 w5 ⟨rfl, hB5⟩
  have hM5 := H2.out.1.below hB5
  have hB5' : Below w.heap.size w w5 := H2.out.2.1.trans (hB5.mono H2.out.2.1.size)
  have c6 := set_in b g n _ m 1 (by have := HN.out; omega) w5 hM5
  rw [show ((1 : Nat) : Int) = 1 from rfl, show (m : Int) = (n : Int) - 1 by have := HN.out; omega] at c6
  have H5 : Hid (Below w.heap.size w w5 ∧ w.heap.size ≤ g) := ⟨hB5', H2.out.2.2⟩
  clear c5 H2 hB5 hM5 hB5'
  go_wp2_with fail
  refine c6.mono ?_
  rintro r6 w6 ⟨fs, hfs, rfl, hM6, t6⟩
  obtain rfl : fs = true := hfs.2 (by simp)
  have hB6 : Below w.heap.size w w6 := H5.out.1.trans (t6.below H5.out.1.size (by simp; exact H5.out.2))
  have hN : ∀ k, k < m → add (fun _ => false) m (m + 1) k = false := fun k hk => by simp [add]; omega
  have hNm : add (fun _ => false) m (m + 1) m = true := by simp [add]
  have c7 := num_any 0 w6
  have c8 := next_nat b g n 0 m _ 0 (by simp) (by have := HN.out; omega) (.inr ⟨Nat.zero_le _, by have := HN.out; omega, hNm, fun k _ hk => hN k hk⟩) w6 hM6 (HL.out.below hB6)
  rw [if_neg (by have := HN.out; omega), show (m : Int) = (n : Int) - 1 by have := HN.out; omega] at c8
  have H6 : Hid (Mp w6 b g n (add (fun _ => false) m (m + 1)) ∧ Below w.heap.size w w6 ∧ rk (add (fun _ => false) m (m + 1)) (m + 1) = 1) := ⟨hM6, hB6, by simp only [rk, rk_none m hN, hNm]; rfl⟩
  clear c6 hfs hM6 t6 hB6 hN hNm H5
  go_wp2_with fail
  refine c7.mono ?_
  rintro r7 w7 ⟨rfl, rfl⟩
  clear c7
  go_wp2_with fail
  refine c8.mono ?_
  rintro r8 w8 ⟨rfl, hB8⟩
  have hB8' : Below w.heap.size w w8 := H6.out.2.1.trans (hB8.mono H6.out.2.1.size)
  have c9 := count_any b g n _ 0 (n : Int) (by omega) w8 (H6.out.1.below hB8) (HL.out.below hB8')
  rw [show (min (n : Int) (n : Nat)).toNat = m + 1 by have := HN.out; omega, H6.out.2.2, show (max (0 : Int) 0).toNat = 0 by omega, show rk (add (fun _ => false) m (m + 1)) 0 = 0 from rfl] at c9
  have H8 : Hid (Below w.heap.size w w8) := hB8'
  clear c8 hB8 hB8' H6 HL
  go_wp2_with fail
  refine c9.mono ?_
  rintro r9 w9 ⟨rfl, hB9⟩
  have H9 : Hid (Below w.heap.size w w9) := H8.out.trans (hB9.mono H8.out.size)
  clear c9 hB9 H8
  go_wp2
  go_ret2
  exact ⟨rfl, H9.out⟩
end Go.Proofs.YtlnfhnahnmblmabDoor
