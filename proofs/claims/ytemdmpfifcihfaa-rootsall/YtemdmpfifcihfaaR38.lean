/-
  The document's roots: address, is, Open, Enqueue, Dequeue.
-/
import Derived.Test.YtemdmpfifcihfaaR35
import Derived.Test.YtemdmpfifcihfaaR37
set_option linter.unusedVariables false
namespace Go.Proofs.Ytemdmpfifcihfaa
open Go.RowKit

theorem raddress_any (x : Int) (w : World) :
    Calls Try.prog 75 #[.int .i64 x] w fun e w' => e = .returned (.int .i64 (adr x)) ∧ w' = w := by
  unfold adr
  go_enter Try.func75, Try.ntmps75
  go_wp2
  go_ret
  exact ⟨rfl, rfl⟩

set_option maxRecDepth 20000 in
theorem ropen_any (base b : Nat) (x : Int) (S : Sta) (F : List Nat) (w : World) (H : Rfs w base b S F) (hO : S.Ok) :
    Calls Try.prog 55 #[.pointer (some ⟨b, 0, none⟩), .int .i64 x] w fun e w' => e = .returned (.tuple #[.int .i64 S.openV, .int .i64 S.openE]) ∧ Rfs w' base b (S.openS x) F ∧ Touch F w w' := by
  obtain ⟨vt, vs, H, rfl⟩ := H
  have c2 := H.cell2
  obtain ⟨a0, cap0, ev⟩ := own_slice H.hnd
  rw [ev] at c2
  have HR : Hid (Rf w base b vt vs S ∧ vs (S.T * 2) = .slice a0 S.hs.length cap0) := ⟨H, ev⟩
  have HO : Hid S.Ok := hO
  have hln : S.hs.length ≤ 1024 := hO.hn
  clear H hO ev
  go_enter Try.func55, Try.ntmps55
  go_wp2
  go_loopw [6] (fun i wr => ∃ k : Nat, k ≤ S.hs.length ∧ i = .int .i64 k ∧ w = wr ∧ Hid (lfrom S.hs k = least S.hs)) (fun i _ => S.hs.length - (intOf i).toNat)
  case atStart => exact ⟨0, Nat.zero_le _, rfl, rfl, lfrom_zero _⟩
  case round =>
    obtain ⟨k, hk, rfl, rfl, hf⟩ := hrel
    by_cases hlt : k < S.hs.length
    · obtain ⟨g, cap, hv, hc, hfz⟩ := HR.out.1.hcell hlt
      have ea : a0 = some ⟨g, 0, none⟩ := by have := HR.out.2; rw [hv] at this; simp at this; exact this.1.symm
      subst ea
      have hki : (k : Int) < (S.hs.length : Int) := by omega
      cases ex : S.hs[k] with
      | none =>
        rw [ex] at hc
        simp only [Option.getD_none] at hc
        have hl : least S.hs = k := by rw [← hf.out]; exact lfrom_none (by rw [List.getElem?_eq_getElem hlt, ex])
        have e1 : S.openV = k := by unfold Sta.openV; rw [hl, if_neg (by omega)]
        have e2 : S.openE = 0 := by unfold Sta.openE; rw [hl, if_neg (by omega)]
        have e3 : S.openS x = { S with hs := S.hs.set k (some (adr x)) } := by unfold Sta.openS; rw [hl, if_neg (by omega)]; rfl
        have HS : Hid (S.openV = k ∧ S.openE = 0 ∧ Rfs (w.drew.setCell ⟨g, k, none⟩ (.int .i64 (adr x))) base b (S.openS x) (rfp b vt S.T vs) ∧ Touch (rfp b vt S.T vs) w (w.drew.setCell ⟨g, k, none⟩ (.int .i64 (adr x)))) := by
          have h1 : Rf w.drew base b vt vs S := HR.out.1.keep (fun _ _ => rfl)
          have h2 := h1.setH hv k (some (adr x))
          rw [e3]
          exact ⟨e1, e2, ⟨vt, vs, h2.1, rfl⟩, (Touch.drew _ w).trans h2.2⟩
        have had : Calls Try.prog 75 #[.int .i64 x] w.drew fun e w' => e = .returned (.int .i64 (adr x)) ∧ w' = w.drew := raddress_any x _
        clear e1 e2 e3 hl ex hv hf
        go_wp2_with fail
        refine quiet_tail 8 mixed (by kernel_rfl) ?_
        simp only [List.take_succ_cons, List.take_zero, List.drop_succ_cons, List.drop_zero]
        repeat (go_big_quiet_step (exact had _))
        refine wpQuiet_nil ?_
        go_wp2
        go_ret2
        rw [HS.out.1, HS.out.2.1]
        exact ⟨rfl, HS.out.2.2⟩
      | some y =>
        rw [ex] at hc
        simp only [Option.getD_some] at hc
        have hy : ¬ y < 0 := by have := HO.out.h0 y (by rw [← ex]; exact List.getElem_mem hlt); omega
        have Hf : Hid (lfrom S.hs (k + 1) = least S.hs) := by rw [← hf.out]; exact (lfrom_some (by rw [List.getElem?_eq_getElem hlt, ex])).symm
        clear ex hv hf
        go_wp2
        go_roundw
        case rel => exact ⟨k + 1, hlt, by go_num, by first | rfl | trivial, Hf⟩
        case measure => simp [intOf]; omega
    · obtain rfl : k = S.hs.length := by omega
      have hl : least S.hs = -1 := by rw [← hf.out]; exact lfrom_end _
      have e1 : S.openV = 0 := by unfold Sta.openV; rw [hl]; rfl
      have e2 : S.openE = 56 := by unfold Sta.openE; rw [hl]; rfl
      have e3 : S.openS x = S := by unfold Sta.openS; rw [hl]; rfl
      have HS : Hid (S.openV = 0 ∧ S.openE = 56 ∧ S.openS x = S) := ⟨e1, e2, e3⟩
      have hnk : ¬ (S.hs.length : Int) < (S.hs.length : Int) := by omega
      clear e1 e2 e3 hl hf
      go_wp2
      go_ret2
      rw [HS.out.1, HS.out.2.1, HS.out.2.2]
      exact ⟨rfl, ⟨vt, vs, HR.out.1, rfl⟩, Touch.refl _ _⟩

/-- The queue is laid anew. -/
theorem Rf.setQ {w w1 : World} {base b : Nat} {vt : Value} {vs : Nat → Value} {S : Sta} (H : Rf w base b vt vs S) {v' : Value} {qs' : List Int} (ht : Touch (vs (S.T * 2 + 1)).ownBlock.toList w w1) (ho : w1.ownsRow base 3 1 v' qs'.length (ints qs'))
    (hat : ∀ k, v'.ownBlock = some k → (vs (S.T * 2 + 1)).ownBlock = some k ∨ w.heap.size ≤ k) :
    w1.cell? ⟨b, 3, none⟩ = some (vs (S.T * 2 + 1)) ∧ w1.frozen? ⟨b, 3, none⟩ = false ∧ ∃ F', Rfs (w1.setCell ⟨b, 3, none⟩ v') base b { S with qs := qs' } F' ∧ Touch (rfp b vt S.T vs) w (w1.setCell ⟨b, 3, none⟩ v') ∧ Newer w.heap.size (rfp b vt S.T vs) F' := by
  have hb1 : w1.heap[b]? = some (.cells #[vt, .int .i64 S.most, vs (S.T * 2), vs (S.T * 2 + 1)] 74 (0, 0)) := (ht.block b (heap_lt H.own) (fun hm => (row_ne2 H.own H.que) (by simpa using hm : (vs (S.T * 2 + 1)).ownBlock = some b).symm)).trans H.own
  refine ⟨by have := heap_cell hb1 3; simpa using this, heap_frozen hb1 3, rfp b vt S.T (upd vs (S.T * 2 + 1) v'), ⟨vt, upd vs (S.T * 2 + 1) v', ⟨H.bb, ?_, ?_, fun j hj => ?_, fun i j k hi hj hvi hvj => ?_⟩, rfl⟩, ?_, ?_⟩
  · rw [heap_set hb1]
    show _ = some (Obj.cells #[vt, .int .i64 S.most, upd vs (S.T * 2 + 1) v' (S.T * 2), upd vs (S.T * 2 + 1) v' (S.T * 2 + 1)] _ _)
    rw [upd_same, upd_ne _ _ (by omega)]
    rfl
  · have e : (List.range (S.T * 2)).map (upd vs (S.T * 2 + 1) v') = (List.range (S.T * 2)).map vs := List.map_congr_left (fun i hi => upd_ne _ _ (by have := List.mem_range.1 hi; omega))
    show (w1.setCell ⟨b, 3, none⟩ v').ownsRow base _ _ vt S.T ((List.range (S.T * 2)).map (upd vs (S.T * 2 + 1) v'))
    rw [e]
    have h1 : w1.ownsRow base 76 2 vt S.T ((List.range (S.T * 2)).map vs) := own_keep (k := 0) H.thr (fun j e => ht.block j (H.thr.lt j e).2 (fun hm => (rows_ne H.thr H.que) j e (by simpa using hm)))
    exact ownsRow_setOther h1 (row_ne2 hb1 h1) _
  · by_cases e : j = S.T * 2 + 1
    · subst e
      rw [upd_same, show rrow { S with qs := qs' } (S.T * 2 + 1) = qs' from rrow_q { S with qs := qs' }]
      exact ownsRow_setOther ho (row_ne2 hb1 ho) _
    · have e2 : rrow { S with qs := qs' } j = rrow S j := by
        unfold rrow
        by_cases e0 : j = S.T * 2
        · rw [if_pos e0, if_pos e0]
        · rw [if_neg e0, if_neg e0, if_neg e, if_neg e]
      rw [e2, upd_ne _ _ e]
      have h1 : w1.ownsRow base 3 1 (vs j) (rrow S j).length (ints (rrow S j)) := own_keep (k := 0) (H.row j hj) (fun i ei => ht.block i ((H.row j hj).lt i ei).2 (fun hm => e (H.ap j (S.T * 2 + 1) i hj (by omega) ei (by simpa using hm))))
      exact ownsRow_setOther h1 (row_ne2 hb1 h1) _
  · by_cases ei : i = S.T * 2 + 1 <;> by_cases ej : j = S.T * 2 + 1
    · omega
    · subst ei
      rw [upd_same] at hvi
      rw [upd_ne _ _ ej] at hvj
      rcases hat k hvi with h | h
      · exact H.ap _ j k (by omega) hj h hvj
      · have := ((H.row j hj).lt k hvj).2; omega
    · subst ej
      rw [upd_same] at hvj
      rw [upd_ne _ _ ei] at hvi
      rcases hat k hvj with h | h
      · exact H.ap i _ k hi (by omega) hvi h
      · have := ((H.row i hi).lt k hvi).2; omega
    · rw [upd_ne _ _ ei] at hvi
      rw [upd_ne _ _ ej] at hvj
      exact H.ap i j k hi hj hvi hvj
  · exact (ht.mono (fun k hk => .inl (mem_rfp.2 (.inr (.inr ⟨S.T * 2 + 1, by omega, by simpa using hk⟩))))).trans (Touch.setCell _ _ _ (by simp [mem_rfp]))
  · intro k hk
    rcases mem_rfp.1 hk with rfl | hk | ⟨i, hi, hv⟩
    · exact .inl (by simp [mem_rfp])
    · exact .inl (by simp [mem_rfp, hk])
    · by_cases e : i = S.T * 2 + 1
      · subst e
        rw [upd_same] at hv
        rcases hat k hv with h | h
        · exact .inl (mem_rfp.2 (.inr (.inr ⟨_, hi, h⟩)))
        · exact .inr h
      · rw [upd_ne _ _ e] at hv
        exact .inl (mem_rfp.2 (.inr (.inr ⟨i, hi, hv⟩)))

end Go.Proofs.Ytemdmpfifcihfaa
