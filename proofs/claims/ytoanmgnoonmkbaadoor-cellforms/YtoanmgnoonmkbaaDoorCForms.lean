/-
  CellForms: the walk.
-/
import Derived.Test.YtoanmgnoonmkbaaDoorCKn
set_option linter.unusedVariables false
namespace Go.Proofs.YtoanmgnoonmkbaaDoor
open Go.RowKit

theorem wrd_of {m : Int} (hm : Wd m) (h1 : m % 4 = 1) (h2 : m / 70368744177664 % 262144 = 0) : wrd (kdOf m) (ptOf m) (rwOf m) (agOf m) (stOf m) (hdOf m) = m := by
  obtain ⟨m0, m1⟩ := hm
  unfold wrd kdOf ptOf rwOf agOf stOf hdOf
  have e : (if decide (m / 32 % 2 = 1) = true then (32 : Int) else 0) = 32 * (m / 32 % 2) := by
    by_cases h : m / 32 % 2 = 1
    · rw [h]; rfl
    · have h' : m / 32 % 2 = 0 := by omega
      rw [h']; rfl
  rw [e]
  omega

theorem pck_of {m : Int} (hm : Wd m) (h : IsHead m) : pck (kdOf m) (ptOf m) (rwOf m) (agOf m) (stOf m) (hdOf m) = m := by
  unfold pck
  rw [if_pos h.2.2]
  exact wrd_of hm h.1 h.2.1

theorem tg_of {c m : Int} (h : IsTag c m) : tg c (m / 4) = m := by
  obtain ⟨h1, h2, h3⟩ := h
  unfold tg
  rw [if_neg (by omega)]
  omega

theorem siz_no {m : Int} (h : ¬ IsHead m) : siz m = tn 3 m := by unfold siz; rw [if_neg h]
theorem siz_yes {m : Int} (h : IsHead m) : siz m = 2 + ptOf m + rwOf m := by unfold siz; rw [if_pos h]

set_option maxHeartbeats 1000000 in
theorem forms_h (m : Int) (hm : Wd m) (h : IsHead m) (w : World) (hL : Laid w) :
    Calls Tryd.prog 3 #[.int .u64 m] w fun e w' => e = .returned (.bool true) ∧ Below w.heap.size w w' := by
  have h2 : ¬ IsTag 2 m := fun x => by have := h.1; have := x.1; omega
  have h3 : ¬ IsTag 3 m := fun x => by have := h.1; have := x.1; omega
  have hu : ∀ w, Laid w → _ := fun w hL => unpack_yes m hm h w hL
  have hs : ∀ w, Laid w → _ := fun w hL => size_any m hm w hL
  have hf2 : ∀ w, Laid w → _ := fun w hL => forwarded_any m hm w (Laid.b hL)
  have hf3 : ∀ w, Laid w → _ := fun w hL => filled_any m hm w (Laid.b hL)
  rw [show tn 2 m = 0 by unfold tn; rw [if_neg h2]] at hf2
  simp only [h2, decide_false] at hf2
  rw [show tn 3 m = 0 by unfold tn; rw [if_neg h3]] at hf3
  simp only [h3, decide_false] at hf3
  rw [siz_yes h] at hs
  have hp : ∀ w, Laid w → _ := fun w hL => pack_any 0 (kdOf m) (ptOf m) (rwOf m) (agOf m) (stOf m) (hdOf m) w hL
  rw [pck_of hm h, h.2.2] at hp
  have p0 : 0 ≤ ptOf m := by unfold ptOf; omega
  have p1 : ptOf m ≤ 4095 := by unfold ptOf; omega
  have r0 : 0 ≤ rwOf m := by unfold rwOf; omega
  have r1 : rwOf m ≤ 65535 := by unfold rwOf; omega
  have hkn := known2_any w hL
  clear h h2 h3
  generalize kdOf m = k, ptOf m = p, rwOf m = r, agOf m = a, stOf m = t, hdOf m = hh at hu hs hp p0 p1 r0 r1
  go_enter Tryd.func3, Tryd.ntmps3
  go_wp2_with fail
  refine hkn.mono ?_
  rintro e w1 ⟨rfl, b1⟩
  have hL1 := hL.keep b1
  go_wp2_with fail
  refine (hu w1 hL1).mono ?_
  rintro e w2 ⟨rfl, b2⟩
  have b3 := b1.trans (b2.mono b1.size)
  have b4 := Below.alloc b3 b3.size (.cells (hcells 0 k p r a t hh) 25)
  have hL2 := (hL1.keep b2).alloc (.cells (hcells 0 k p r a t hh) 25)
  clear b1 b2 b3 hL1 hL hkn hu
  go_wp2_with fail
  refine (hp _ hL2).mono ?_
  rintro e w3 ⟨rfl, b5⟩
  have b6 := b4.trans (b5.mono b4.size)
  have hL3 := hL2.keep b5
  clear b5 b4 hL2 hp
  go_wp2_with fail
  refine (hf2 _ hL3).mono ?_
  rintro e w' ⟨rfl, n, rfl⟩
  go_wp2_with fail
  refine (hf3 _ (hL3.drewN _)).mono ?_
  rintro e w' ⟨rfl, n', rfl⟩
  go_wp2_with fail
  refine (hs _ (hL3.drewN _)).mono ?_
  rintro e w5 ⟨rfl, b7⟩
  have b8 := (below_drewN b6 (n + n')).trans (b7.mono (below_drewN b6 (n + n')).size)
  go_wp2
  go_ret
  exact ⟨by first | rfl | simp, b8⟩

set_option maxHeartbeats 1000000 in
theorem forms_2 (m : Int) (hm : Wd m) (h : ¬ IsHead m) (h2 : IsTag 2 m) (w : World) (hL : Laid w) :
    Calls Tryd.prog 3 #[.int .u64 m] w fun e w' => e = .returned (.bool true) ∧ Below w.heap.size w w' := by
  have h3 : ¬ IsTag 3 m := fun x => by have := h2.1; have := x.1; omega
  have hu : ∀ w, Laid w → _ := fun w hL => unpack_no m hm h w hL
  have hs : ∀ w, Laid w → _ := fun w hL => size_any m hm w hL
  have hf2 : ∀ w, Laid w → _ := fun w hL => forwarded_any m hm w (Laid.b hL)
  have hf3 : ∀ w, Laid w → _ := fun w hL => filled_any m hm w (Laid.b hL)
  rw [show tn 2 m = m / 4 by unfold tn; rw [if_pos h2]] at hf2
  rw [show decide (IsTag 2 m) = true from decide_eq_true h2] at hf2
  have hg := forward_any (m / 4)
  rw [tg_of h2] at hg
  have n1 := h2.2.1
  rw [show tn 3 m = 0 by unfold tn; rw [if_neg h3]] at hf3
  simp only [h3, decide_false] at hf3
  rw [siz_no h, show tn 3 m = 0 by unfold tn; rw [if_neg h3]] at hs
  have hkn := known2_any w hL
  clear h h2 h3
  generalize m / 4 = q at hf2 hg hs n1
  go_enter Tryd.func3, Tryd.ntmps3
  go_wp2_with fail
  refine hkn.mono ?_
  rintro e w1 ⟨rfl, b1⟩
  have hL1 := hL.keep b1
  go_wp2_with fail
  refine (hu w1 hL1).mono ?_
  rintro e w2 ⟨rfl, b2⟩
  have b3 := b1.trans (b2.mono b1.size)
  have b4 := Below.alloc b3 b3.size (.cells (hcells 0 0 0 0 0 0 false) 25)
  have hL2 := (hL1.keep b2).alloc (.cells (hcells 0 0 0 0 0 0 false) 25)
  clear b1 b2 b3 hL1 hL hkn hu
  go_wp2_with fail
  generalize (w2.alloc (.cells (hcells 0 0 0 0 0 0 false) 25)) = w3 at b4 hL2 ⊢
  have b6 := b4
  have hL3 := hL2
  clear b4 hL2
  refine (hf2 _ hL3).mono ?_
  rintro e w' ⟨rfl, n, rfl⟩
  go_wp2_with fail
  refine (hg _).mono ?_
  rintro e w' ⟨rfl, rfl⟩
  go_wp2_with fail
  refine (hf3 _ (hL3.drewN _)).mono ?_
  rintro e w' ⟨rfl, n', rfl⟩
  go_wp2_with fail
  refine (hs _ (hL3.drewN _)).mono ?_
  rintro e w5 ⟨rfl, b7⟩
  have b8 := (below_drewN b6 (n + n')).trans (b7.mono (below_drewN b6 (n + n')).size)
  go_wp2
  go_ret
  exact ⟨by first | rfl | simp, b8⟩

set_option maxHeartbeats 1000000 in
theorem forms_3 (m : Int) (hm : Wd m) (h : ¬ IsHead m) (h3 : IsTag 3 m) (w : World) (hL : Laid w) :
    Calls Tryd.prog 3 #[.int .u64 m] w fun e w' => e = .returned (.bool true) ∧ Below w.heap.size w w' := by
  have h2 : ¬ IsTag 2 m := fun x => by have := h3.1; have := x.1; omega
  have hu : ∀ w, Laid w → _ := fun w hL => unpack_no m hm h w hL
  have hs : ∀ w, Laid w → _ := fun w hL => size_any m hm w hL
  have hf2 : ∀ w, Laid w → _ := fun w hL => forwarded_any m hm w (Laid.b hL)
  have hf3 : ∀ w, Laid w → _ := fun w hL => filled_any m hm w (Laid.b hL)
  rw [show tn 2 m = 0 by unfold tn; rw [if_neg h2]] at hf2
  simp only [h2, decide_false] at hf2
  rw [show tn 3 m = m / 4 by unfold tn; rw [if_pos h3]] at hf3
  rw [show decide (IsTag 3 m) = true from decide_eq_true h3] at hf3
  have hg := filler_any (m / 4)
  rw [tg_of h3] at hg
  have n1 := h3.2.1
  rw [siz_no h, show tn 3 m = m / 4 by unfold tn; rw [if_pos h3]] at hs
  have hkn := known2_any w hL
  clear h h2 h3
  generalize m / 4 = q at hf3 hg hs n1
  go_enter Tryd.func3, Tryd.ntmps3
  go_wp2_with fail
  refine hkn.mono ?_
  rintro e w1 ⟨rfl, b1⟩
  have hL1 := hL.keep b1
  go_wp2_with fail
  refine (hu w1 hL1).mono ?_
  rintro e w2 ⟨rfl, b2⟩
  have b3 := b1.trans (b2.mono b1.size)
  have b4 := Below.alloc b3 b3.size (.cells (hcells 0 0 0 0 0 0 false) 25)
  have hL2 := (hL1.keep b2).alloc (.cells (hcells 0 0 0 0 0 0 false) 25)
  clear b1 b2 b3 hL1 hL hkn hu
  go_wp2_with fail
  generalize (w2.alloc (.cells (hcells 0 0 0 0 0 0 false) 25)) = w3 at b4 hL2 ⊢
  have b6 := b4
  have hL3 := hL2
  clear b4 hL2
  refine (hf2 _ hL3).mono ?_
  rintro e w' ⟨rfl, n, rfl⟩
  go_wp2_with fail
  refine (hf3 _ (hL3.drewN _)).mono ?_
  rintro e w' ⟨rfl, n', rfl⟩
  go_wp2_with fail
  refine (hg _).mono ?_
  rintro e w' ⟨rfl, rfl⟩
  go_wp2_with fail
  refine (hs _ (hL3.drewN _)).mono ?_
  rintro e w5 ⟨rfl, b7⟩
  have b8 := (below_drewN b6 (n + n')).trans (b7.mono (below_drewN b6 (n + n')).size)
  go_wp2
  go_ret
  exact ⟨by first | rfl | simp, b8⟩

set_option maxHeartbeats 1000000 in
theorem forms_n (m : Int) (hm : Wd m) (h : ¬ IsHead m) (h2 : ¬ IsTag 2 m) (h3 : ¬ IsTag 3 m) (w : World) (hL : Laid w) :
    Calls Tryd.prog 3 #[.int .u64 m] w fun e w' => e = .returned (.bool true) ∧ Below w.heap.size w w' := by
  have hu : ∀ w, Laid w → _ := fun w hL => unpack_no m hm h w hL
  have hs : ∀ w, Laid w → _ := fun w hL => size_any m hm w hL
  have hf2 : ∀ w, Laid w → _ := fun w hL => forwarded_any m hm w (Laid.b hL)
  have hf3 : ∀ w, Laid w → _ := fun w hL => filled_any m hm w (Laid.b hL)
  rw [show tn 2 m = 0 by unfold tn; rw [if_neg h2]] at hf2
  simp only [h2, decide_false] at hf2
  rw [show tn 3 m = 0 by unfold tn; rw [if_neg h3]] at hf3
  simp only [h3, decide_false] at hf3
  rw [siz_no h, show tn 3 m = 0 by unfold tn; rw [if_neg h3]] at hs
  have hkn := known2_any w hL
  clear h h2 h3
  go_enter Tryd.func3, Tryd.ntmps3
  go_wp2_with fail
  refine hkn.mono ?_
  rintro e w1 ⟨rfl, b1⟩
  have hL1 := hL.keep b1
  go_wp2_with fail
  refine (hu w1 hL1).mono ?_
  rintro e w2 ⟨rfl, b2⟩
  have b3 := b1.trans (b2.mono b1.size)
  have b4 := Below.alloc b3 b3.size (.cells (hcells 0 0 0 0 0 0 false) 25)
  have hL2 := (hL1.keep b2).alloc (.cells (hcells 0 0 0 0 0 0 false) 25)
  clear b1 b2 b3 hL1 hL hkn hu
  go_wp2_with fail
  generalize (w2.alloc (.cells (hcells 0 0 0 0 0 0 false) 25)) = w3 at b4 hL2 ⊢
  have b6 := b4
  have hL3 := hL2
  clear b4 hL2
  refine (hf2 _ hL3).mono ?_
  rintro e w' ⟨rfl, n, rfl⟩
  go_wp2_with fail
  refine (hf3 _ (hL3.drewN _)).mono ?_
  rintro e w' ⟨rfl, n', rfl⟩
  go_wp2_with fail
  refine (hs _ (hL3.drewN _)).mono ?_
  rintro e w5 ⟨rfl, b7⟩
  have b8 := (below_drewN b6 (n + n')).trans (b7.mono (below_drewN b6 (n + n')).size)
  go_wp2
  go_ret
  exact ⟨by first | rfl | simp, b8⟩

theorem forms_any (m : Int) (hm : Wd m) (w : World) (hL : Laid w) :
    Calls Tryd.prog 3 #[.int .u64 m] w fun e w' => e = .returned (.bool true) ∧ Below w.heap.size w w' := by
  by_cases h : IsHead m
  · exact forms_h m hm h w hL
  · by_cases h2 : IsTag 2 m
    · exact forms_2 m hm h h2 w hL
    · by_cases h3 : IsTag 3 m
      · exact forms_3 m hm h h3 w hL
      · exact forms_n m hm h h2 h3 w hL

end Go.Proofs.YtoanmgnoonmkbaaDoor
