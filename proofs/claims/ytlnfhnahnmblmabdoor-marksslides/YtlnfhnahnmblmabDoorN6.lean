/-
  The reference's Runs, walked.
-/
import Derived.Test.YtlnfhnahnmblmabDoorN5
set_option linter.unusedVariables false
set_option maxRecDepth 20000
namespace Go.Proofs.YtlnfhnahnmblmabDoor
open Go.RowKit Go.Shelf

set_option maxHeartbeats 8000000 in
theorem rruns_any (r h n : Nat) (M : Nat → Bool) (W : World) (hM : Rm W r h n M) :
    Calls Tryd.prog 29 #[.pointer (some ⟨r, 0, none⟩)] W fun x w' => (∃ pa Ca pd Cd, x = .returned (.tuple #[.slice pa (As M n).length Ca, .slice pd (Ds M n).length Cd]) ∧ (As M n).length ≤ Ca ∧ (Ds M n).length ≤ Cd ∧ Lsb W.heap.size w' pa (As M n) ∧ Lsb W.heap.size w' pd (Ds M n)) ∧ Below W.heap.size W w' := by
  obtain ⟨i0, hi, hz0, hz1, hz2⟩ := info_parts Tryd.infoInt
  have HI0 : Hid ((Tryd.prog.info? 3 = some i0) ∧ i0.zero = some (.int .i64 0) ∧ i0.size = 1 ∧ i0.bytes = 8) := ⟨hi, hz0, hz1, hz2⟩
  have hn := hM.le
  have HM : Hid (Rm W r h n M) := hM
  have HR : Hid (Rr W (As M 0) (Ds M 0) (.slice none 0 0) (.slice none 0 0) W) := ⟨World.ownsRow_nil _ _ _ _, World.ownsRow_nil _ _ _ _, fun k hk => by simp [Value.ownBlock] at hk, Below.refl _ _⟩
  clear hM hi hz0 hz1 hz2
  go_enter Tryd.func29, Tryd.ntmps29
  go_wp2
  go_loopw [4, 5, 6] (fun a d v wr => ∃ i : Nat, v = .int .i64 i ∧ i ≤ n ∧ Hid (Rr W (As M i) (Ds M i) a d wr)) (fun _ _ v _ => (n - intOf v).toNat)
  case atStart => exact ⟨0, rfl, Nat.zero_le _, HR⟩
  case round =>
    clear HR
    obtain ⟨i, rfl, hin, hI⟩ := hrel
    obtain ⟨pa, Ca, rfl, hCa, hla⟩ := own_lsb hI.out.ra
    obtain ⟨pd, Cd, rfl, hCd, hld⟩ := own_lsb hI.out.rd
    have hMr := HM.out.below hI.out.bel
    have c0 := hMr.c0
    have hlen := As_len M i
    have hdl := Ds_len M i
    by_cases hlt : i < n
    · have c1 := hMr.at hlt
      cases hMi : M i
      · rw [hMi] at c1
        have hk2 : Hid (Rr W (As M (i + 1)) (Ds M (i + 1)) (.slice pa (As M i).length Ca) (.slice pd (Ds M i).length Cd) wr) := by
          have e1 : As M (i + 1) = As M i := by simp [As, hMi]
          have e2 : Ds M (i + 1) = Ds M i := by simp [Ds, hMi]
          rw [e1, e2]; exact hI
        clear hMi hMr hI hla hld hlen hCa hCd
        generalize (As M i).length = L1 at *
        generalize (Ds M i).length = L2 at *
        go_wp2
        go_roundw
        case rel => exact ⟨i + 1, by simp, by omega, hk2⟩
        case measure => simp [intOf]; omega
      · rw [hMi] at c1
        by_cases hnew : newR M i = true
        · have e1 : As M (i + 1) = As M i ++ [(i : Int)] := by simp [As, hMi, hnew]
          have e2 : Ds M (i + 1) = Ds M i ++ [1] := by simp [Ds, hMi, hnew]
          have hE : Hid (As M (i + 1) = As M i ++ [(i : Int)] ∧ Ds M (i + 1) = Ds M i ++ [1]) := ⟨e1, e2⟩
          have hs0 : W.heap.size ≤ wr.heap.size := hI.out.bel.size
          have hal : (As M i).length ≤ i := by omega
          clear hMi hla hld hlen e1 e2 hCa hCd
          generalize As M i = A at hI hE hal
          generalize Ds M i = D at *
          rcases Nat.eq_zero_or_pos i with hz | hpos
          · subst hz
            clear hMr hnew
            go_wp2_with (at_builtin; refine wpList_append_own_at _ rfl _ _ 64 rfl W.heap.size 3 i0 (.int .i64 0) 1 8 Tryd.underlying64 HI0.out.1 HI0.out.2.1 HI0.out.2.2.1 HI0.out.2.2.2 rfl (by decide) _ _ _ rfl (hI.out.ra.alloc _) ⟨wr.heap.size, 0, none⟩ 1 1 [.int .i64 (0 : Int)] rfl rfl (cells_new _ _ _) (by simp [Value.oneCell']) (by simp [maxLen]; omega) (by omega) (by simp; omega) ?_)
            intro va' w1 ho hg _ hat
            have hI1 : Hid (Rr W (A ++ [(0 : Int)]) D va' (.slice pd D.length Cd) w1) := hI.out.growA _ va' w1 ho hg hat
            have hs1 : W.heap.size ≤ w1.heap.size := hI1.out.bel.size
            clear hI ho hg hat c0 c1
            go_wp2_with (at_builtin; refine wpList_append_own_at _ rfl _ _ 64 rfl W.heap.size 3 i0 (.int .i64 0) 1 8 Tryd.underlying64 HI0.out.1 HI0.out.2.1 HI0.out.2.2.1 HI0.out.2.2.2 rfl (by decide) _ _ _ rfl (hI1.out.rd.alloc _) ⟨w1.heap.size, 0, none⟩ 1 1 [.int .i64 1] rfl rfl (cells_new _ _ _) (by simp [Value.oneCell']) (by simp [maxLen]; omega) (by omega) (by simp; omega) ?_)
            intro vd' w2 ho hg _ hat
            have hI2 : Hid (Rr W (A ++ [(0 : Int)]) (D ++ [1]) va' vd' w2) := hI1.out.growD _ vd' w2 ho hg hat
            have hk2 : Hid (Rr W (As M (0 + 1)) (Ds M (0 + 1)) va' vd' w2) := by
              rw [hE.out.1, hE.out.2]; exact hI2
            clear hI1 ho hg hat hI2
            go_wp2
            go_roundw
            case rel => exact ⟨0 + 1, by simp, by omega, hk2⟩
            case measure => simp [intOf]; omega
          · obtain ⟨j, rfl⟩ : ∃ j, i = j + 1 := ⟨i - 1, by omega⟩
            have c2 := hMr.at (show j < n by omega)
            have hMj : M j = false := by simpa [newR] using hnew
            rw [hMj] at c2
            have hE' : Hid (As M (j + 1 + 1) = A ++ [(j : Int) + 1] ∧ Ds M (j + 1 + 1) = D ++ [1]) := ⟨by simpa using hE.out.1, hE.out.2⟩
            clear hMr hnew hMj hpos hE
            go_wp2_with (at_builtin; refine wpList_append_own_at _ rfl _ _ 64 rfl W.heap.size 3 i0 (.int .i64 0) 1 8 Tryd.underlying64 HI0.out.1 HI0.out.2.1 HI0.out.2.2.1 HI0.out.2.2.2 rfl (by decide) _ _ _ rfl (hI.out.ra.alloc _) ⟨wr.heap.size, 0, none⟩ 1 1 [.int .i64 ((j : Int) + 1)] rfl rfl (cells_new _ _ _) (by simp [Value.oneCell']) (by simp [maxLen]; omega) (by omega) (by simp; omega) ?_)
            intro va' w1 ho hg _ hat
            have hI1 : Hid (Rr W (A ++ [((j : Int) + 1)]) D va' (.slice pd D.length Cd) w1) := hI.out.growA _ va' w1 ho hg hat
            have hs1 : W.heap.size ≤ w1.heap.size := hI1.out.bel.size
            clear hI ho hg hat c0 c1 c2
            go_wp2_with (at_builtin; refine wpList_append_own_at _ rfl _ _ 64 rfl W.heap.size 3 i0 (.int .i64 0) 1 8 Tryd.underlying64 HI0.out.1 HI0.out.2.1 HI0.out.2.2.1 HI0.out.2.2.2 rfl (by decide) _ _ _ rfl (hI1.out.rd.alloc _) ⟨w1.heap.size, 0, none⟩ 1 1 [.int .i64 1] rfl rfl (cells_new _ _ _) (by simp [Value.oneCell']) (by simp [maxLen]; omega) (by omega) (by simp; omega) ?_)
            intro vd' w2 ho hg _ hat
            have hI2 : Hid (Rr W (A ++ [((j : Int) + 1)]) (D ++ [1]) va' vd' w2) := hI1.out.growD _ vd' w2 ho hg hat
            have hk2 : Hid (Rr W (As M (j + 1 + 1)) (Ds M (j + 1 + 1)) va' vd' w2) := by
              rw [hE'.out.1, hE'.out.2]; exact hI2
            clear hI1 ho hg hat hI2
            go_wp2
            go_roundw
            case rel => exact ⟨j + 1 + 1, by simp, by omega, hk2⟩
            case measure => simp [intOf]; omega
        · have hnf : newR M i = false := by simpa using hnew
          have hj2 : 0 < i ∧ M (i - 1) = true := by simpa [newR] using hnf
          have e1 : As M (i + 1) = As M i := by simp [As, hMi, hnf]
          have e2 : Ds M (i + 1) = (Ds M i).set ((Ds M i).length - 1) (((Ds M i)[(Ds M i).length - 1]?).getD 0 + 1) := by simp [Ds, hMi, hnf]
          obtain ⟨j, rfl⟩ : ∃ j, i = j + 1 := ⟨i - 1, by omega⟩
          have hMj : M j = true := hj2.2
          have c2 := hMr.at (show j < n by omega)
          rw [hMj] at c2
          have hpos := Ds_pos j hMj
          obtain ⟨L, hL⟩ : ∃ L, (Ds M (j + 1)).length = L + 1 := ⟨_, (Nat.succ_pred_eq_of_pos hpos).symm⟩
          obtain ⟨z, hz⟩ : ∃ z, (Ds M (j + 1))[L]? = some z := ⟨_, List.getElem?_eq_getElem (by omega)⟩
          have hzb := Ds_le M (j + 1) z (List.mem_of_getElem? hz)
          have e3 : Ds M (j + 1 + 1) = (Ds M (j + 1)).set L (z + 1) := by rw [e2, hL, Nat.add_sub_cancel, hz]; rfl
          obtain ⟨g, hge, rfl, cz⟩ := hld L z hz
          have kf := own_thaw (i := L) hI.out.rd
          have hk2 : Hid (Rr W (As M (j + 1 + 1)) (Ds M (j + 1 + 1)) (.slice pa (As M (j + 1)).length Ca) (.slice (some ⟨g, 0, none⟩) (Ds M (j + 1)).length Cd) (wr.setCell ⟨g, L, none⟩ (.int .i64 (z + 1)))) := by
            rw [e1, e3]; exact hI.out.bump L (z + 1)
          have hLj : L + 1 ≤ j + 1 := by omega
          rw [hL] at hk2 hCd ⊢
          clear hnf hj2 e1 e2 e3 hMj hpos hz hla hld hI hMr hMi hnew hlen hL hdl hge hCa
          generalize (As M (j + 1)).length = L1 at *
          go_wp2
          go_roundw
          case rel => exact ⟨j + 1 + 1, by simp, by omega, hk2⟩
          case measure => simp [intOf]; omega
    · have hie : i = n := by omega
      subst hie
      have HP : Hid ((As M i).length ≤ Ca ∧ (Ds M i).length ≤ Cd ∧ Lsb W.heap.size wr pa (As M i) ∧ Lsb W.heap.size wr pd (Ds M i)) := ⟨hCa, hCd, hla, hld⟩
      clear hla hld hMr hlen
      go_wp2
      go_ret2
      exact ⟨⟨pa, Ca, pd, Cd, rfl, HP.out.1, HP.out.2.1, HP.out.2.2.1, HP.out.2.2.2⟩, hI.out.bel⟩
end Go.Proofs.YtlnfhnahnmblmabDoor
