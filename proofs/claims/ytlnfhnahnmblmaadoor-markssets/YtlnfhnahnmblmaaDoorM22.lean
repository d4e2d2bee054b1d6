/-
  MarksSums$1, walked.
-/
import Derived.Test.YtlnfhnahnmblmaaDoorM21
set_option linter.unusedVariables false
set_option maxRecDepth 100000
namespace Go.Proofs.YtlnfhnahnmblmaaDoor
open Go.RowKit Go.Shelf

theorem rk_all {M : Nat → Bool} {a : Nat} : ∀ d, (∀ k, a ≤ k → k < a + d → M k = true) → rk M (a + d) = rk M a + d
  | 0, _ => by simp
  | d + 1, h => by
    rw [← Nat.add_assoc]
    simp only [rk]
    rw [rk_all d (fun k h1 h2 => h k h1 (by omega)), h (a + d) (by omega) (by omega)]
    simp; omega

theorem box_touch {w w' : World} {B : Nat} {t : TypeId} {v : Value} {F : List Nat} (h : Boxed w B t v) (l : Touch F w w') (hn : B ∉ F) : Boxed w' B t v := (l.block B h.lt hn).trans h
theorem box_below {w w' : World} {B : Nat} {t : TypeId} {v : Value} (h : Boxed w B t v) (l : Below w.heap.size w w') : Boxed w' B t v := (l.block B h.lt).trans h

/-- What MarksSums keeps while it goes through the runs. -/
structure Sm (gB eB wB mB sB b g n : Nat) (M : Nat → Bool) (pre : List (Nat × Nat)) (W : World) : Prop where
  gd : Boxed W gB 4 (.bool true)
  en : Boxed W eB 3 (.int .i64 (lastEnd pre))
  wo : Boxed W wB 3 (.int .i64 n)
  ma : Boxed W mB 24 (.pointer (some ⟨b, 0, none⟩))
  su : Boxed W sB 3 (.int .i64 (lens pre : Nat))
  mp : Mp W b g n M
  la : Laid W

theorem Sm.below {gB eB wB mB sB b g n : Nat} {M : Nat → Bool} {pre : List (Nat × Nat)} {W W' : World} (h : Sm gB eB wB mB sB b g n M pre W) (l : Below W.heap.size W W') : Sm gB eB wB mB sB b g n M pre W' :=
  ⟨box_below h.gd l, box_below h.en l, box_below h.wo l, box_below h.ma l, box_below h.su l, h.mp.below l, h.la.below l⟩

/-- The three variables that are written, and the others, are blocks of their own. -/
structure Ap (gB eB wB mB sB b g : Nat) : Prop where
  ge : gB ≠ eB
  gs : gB ≠ sB
  es : eB ≠ sB
  o : ∀ k ∈ [gB, eB, sB], k ≠ wB ∧ k ≠ mB ∧ k ≠ b ∧ k ≠ g ∧ k ≠ 0 ∧ k ≠ 1

set_option maxHeartbeats 8000000 in
theorem sums1_any (gB eB wB mB sB b g n a d : Nat) (M : Nat → Bool) (pre : List (Nat × Nat)) (hA : Ap gB eB wB mB sB b g) (hR : Run M n (lastEnd pre) (a, a + d)) (hz : -1 ≤ lastEnd pre) (hsl : lens pre ≤ n) (W : World) (hS : Sm gB eB wB mB sB b g n M pre W) :
    Calls Tryd.prog 19 #[.int .i64 a, .int .i64 d, .pointer (some ⟨gB, 0, none⟩), .pointer (some ⟨eB, 0, none⟩), .pointer (some ⟨wB, 0, none⟩), .pointer (some ⟨mB, 0, none⟩), .pointer (some ⟨sB, 0, none⟩)] W fun r W' => Touch [gB, eB, sB] W W' ∧ r = .returned (.bool true) ∧ Sm gB eB wB mB sB b g n M (pre ++ [(a, a + d)]) W' := by
  obtain ⟨r1, r2, r3, r4, r5, r6⟩ := hR
  dsimp only at r1 r2 r3 r4 r5 r6
  have hn := hS.mp.le
  have hco : ∀ X, Below W.heap.size W X → Calls Tryd.prog 17 #[.pointer (some ⟨b, 0, none⟩), .int .i64 a, .int .i64 ((a : Int) + d)] X fun r w' => r = .returned (.int .i64 d) ∧ Below X.heap.size X w' := fun X hX => by
    have := count_any b g n M a ((a : Int) + d) (by omega) X (hS.below hX).mp (hS.below hX).la
    rw [show (min ((a : Int) + d) n).toNat = a + d by omega, show (max (a : Int) 0).toNat = a by omega, rk_all d r4, show rk M a + d - rk M a = d by omega] at this
    exact this
  have hne : ∀ X, Below W.heap.size W X → Calls Tryd.prog 20 #[.pointer (some ⟨b, 0, none⟩), .int .i64 (lastEnd pre)] X fun r w' => r = .returned (.int .i64 a) ∧ Below X.heap.size X w' := fun X hX => by
    have := next_nat b g n (lastEnd pre).toNat a M (lastEnd pre) (by split <;> omega) (by omega) (.inr ⟨by omega, by omega, r4 a (by omega) (by omega), fun k h1 h2 => r5 k (by omega) h2⟩) X (hS.below hX).mp (hS.below hX).la
    rw [if_neg (show a ≠ n by omega)] at this
    exact this
  have hha : ∀ X, Below W.heap.size W X → Calls Tryd.prog 21 #[.pointer (some ⟨b, 0, none⟩), .int .i64 ((a : Int) + d)] X fun r w' => r = .returned (.bool false) ∧ X = w' := fun X hX => by
    have := has_any b g n M ((a : Int) + d) X (hS.below hX).mp
    have e : hasB M ((a : Int) + d) = false := by
      unfold hasB
      rw [show ((a : Int) + d).toNat = a + d by omega]
      rcases Nat.lt_or_ge (a + d) n with h | h
      · rw [r6 h]; simp
      · rw [hS.mp.out _ h]; simp
    rw [e] at this
    exact this
  have HCO : Hid _ := hco
  have HNE : Hid _ := hne
  have HHA : Hid _ := hha
  have HS : Hid (Sm gB eB wB mB sB b g n M pre W) := hS
  have k0 := hS.gd.cell
  have k1 := hS.en.cell
  have k2 := hS.wo.cell
  have k3 := hS.ma.cell
  have hd1 : 1 ≤ d := by omega
  have r7 : (a : Int) + d ≤ n := by omega
  have hdd : decide ((1 : Int) ≤ d) = true := by simp; omega
  clear hco hne hha hS r4 r5 r6
  generalize hle : lastEnd pre = le at *
  go_enter Tryd.func19, Tryd.ntmps19
  go_wp2_with fail
  refine (HCO.out W (Below.refl _ _)).mono ?_
  rintro r w1 ⟨rfl, b1⟩
  have k1' : w1.cell? ⟨eB, 0, none⟩ = some (.int .i64 le) := (b1.cell (World.block_lt_of_cell? _ _ k1)).trans k1
  have k3' : w1.cell? ⟨mB, 0, none⟩ = some (.pointer (some ⟨b, 0, none⟩)) := (b1.cell (World.block_lt_of_cell? _ _ k3)).trans k3
  clear k0 k1 k2 k3 HCO
  go_wp2_with fail
  refine (HNE.out w1 b1).mono ?_
  rintro r w2 ⟨rfl, b2⟩
  have b3 := b1.trans (b2.mono b1.size)
  have hS2 := HS.out.below b3
  have k3 := hS2.ma.cell
  clear k1' k3' HNE b1 b2
  go_wp2_with fail
  refine (HHA.out w2 b3).mono ?_
  rintro r w3 ⟨rfl, rfl⟩
  have k0 := hS2.gd.cell
  have kf := hS2.gd.frozen
  have HS2 : Hid (Sm gB eB wB mB sB b g n M pre w2) := hS2
  clear HHA hS2 k3
  go_upto_region 2 with fail
  obtain ⟨w4, hw4⟩ : ∃ w4, w4 = w2.setCell ⟨gB, 0, none⟩ (.bool true) := ⟨_, rfl⟩
  have t4 : Touch [gB, eB, sB] w2 w4 := by rw [hw4]; exact Touch.setCell _ _ _ (by simp)
  have e0 : Boxed w4 gB 4 (.bool true) := by rw [hw4]; exact HS2.out.gd.set (.bool true)
  have e1 : Boxed w4 eB 3 (.int .i64 le) := by rw [hw4, ← hle]; exact HS2.out.en.other hA.ge.symm _
  have e2 : Boxed w4 sB 3 (.int .i64 (lens pre : Nat)) := by rw [hw4]; exact HS2.out.su.other hA.gs.symm _
  rw [← hw4]
  clear hw4 k0 kf
  have k0 := e2.cell
  have kf := e2.frozen
  go_upto_region 3 with fail
  obtain ⟨w5, hw5⟩ : ∃ w5, w5 = w4.setCell ⟨sB, 0, none⟩ (.int .i64 ((lens pre : Nat) + (d : Nat))) := ⟨_, rfl⟩
  have t5 : Touch [gB, eB, sB] w4 w5 := by rw [hw5]; exact Touch.setCell _ _ _ (by simp)
  have f0 : Boxed w5 gB 4 (.bool true) := by rw [hw5]; exact e0.other hA.gs _
  have f1 : Boxed w5 eB 3 (.int .i64 le) := by rw [hw5]; exact e1.other hA.es _
  have f2 : Boxed w5 sB 3 (.int .i64 ((lens pre : Nat) + (d : Nat))) := by rw [hw5]; exact e2.set _
  rw [← hw5]
  clear hw5 k0 kf e0 e1 e2
  have k0 := f1.cell
  have kf := f1.frozen
  go_upto_region 4 with fail
  obtain ⟨w6, hw6⟩ : ∃ w6, w6 = w5.setCell ⟨eB, 0, none⟩ (.int .i64 ((a : Int) + d)) := ⟨_, rfl⟩
  have t6 : Touch [gB, eB, sB] w5 w6 := by rw [hw6]; exact Touch.setCell _ _ _ (by simp)
  have g0 : Boxed w6 gB 4 (.bool true) := by rw [hw6]; exact f0.other hA.ge _
  have g1 : Boxed w6 eB 3 (.int .i64 ((a : Int) + d)) := by rw [hw6]; exact f1.set _
  have g2 : Boxed w6 sB 3 (.int .i64 ((lens pre : Nat) + (d : Nat))) := by rw [hw6]; exact f2.other hA.es.symm _
  rw [← hw6]
  clear hw6 k0 kf f0 f1 f2
  have k0 := g0.cell
  have tt := (t4.trans t5).trans t6
  have HT : Hid (Touch [gB, eB, sB] W w6) := (Touch.of_below b3 _).trans tt
  have ho : ∀ k, (k = wB ∨ k = mB ∨ k = b ∨ k = g ∨ k = 0 ∨ k = 1) → k ∉ [gB, eB, sB] := fun k hk hm => by
    have := hA.o k hm
    omega
  have HF : Hid (Sm gB eB wB mB sB b g n M (pre ++ [(a, a + d)]) w6) := by
    refine ⟨g0, ?_, box_touch HS2.out.wo tt (ho _ (by simp)), box_touch HS2.out.ma tt (ho _ (by simp)), ?_, HS2.out.mp.touch tt (ho _ (by simp)) (ho _ (by simp)), HS2.out.la.touch tt (ho _ (by simp)) (ho _ (by simp))⟩
    · rw [lastEnd_snoc]
      exact g1
    · rw [lens_snoc]
      rw [show ((lens pre + ((a, a + d).2 - (a, a + d).1) : Nat) : Int) = (lens pre : Nat) + (d : Nat) by simp]
      exact g2
  clear g0 g1 g2 t4 t5 t6 tt HS2 b3 ho
  go_wp2
  go_ret
  exact ⟨HT.out, rfl, HF.out⟩
end Go.Proofs.YtlnfhnahnmblmaaDoor
