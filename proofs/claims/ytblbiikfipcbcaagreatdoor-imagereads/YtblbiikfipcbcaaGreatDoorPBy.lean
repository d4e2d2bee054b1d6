import Derived.Test.YtblbiikfipcbcaaGreatDoorPQb
import Derived.Test.YtblbiikfipcbcaaGreatDoorPRm
/-
  Images, bytes with room behind them. (Printed by mkBY1.py.)
-/
set_option linter.unusedVariables false
set_option maxRecDepth 20000
namespace Go.Proofs.YtblbiikfipcbcaaGreatDoor
open Go.RowKit Go.Shelf

def mrb (j : Nat) : Int := if j % 2 = 0 then 165 else 90
def mkb (k : Nat) : List Int := (List.range k).map mrb
theorem mkb_len (k : Nat) : (mkb k).length = k := by simp [mkb]
theorem mkb_two (m : Nat) : mkb (2 * m + 2) = mkb (2 * m) ++ [165, 90] := by
  unfold mkb
  rw [show 2 * m + 2 = (2 * m + 1) + 1 by omega, List.range_succ, List.range_succ]
  simp [mrb]
theorem mkb_at (k j : Nat) (h : j < k) : (mkb k)[j]? = some (mrb j) := by
  unfold mkb
  rw [List.getElem?_map, List.getElem?_range h]
  rfl

theorem info_roomBytes : (Tryz.prog.info? 5).map (fun i => (i.zero, i.size, i.bytes)) = some (some (.int .u8 0), 1, 1) := by kernel_rfl
theorem infoS_roomBytes : (Tryz.prog.info? 22).map (fun i => (i.zero, i.size, i.bytes)) = some (some (.slice none 0 0), 1, 24) := by kernel_rfl

/-- What Bytes gives: the bytes, the marks behind them, and the room that knows of them. -/
def BPost (w : World) (R : Nat) (rc : Array Value) (l : List Int) (e : Ending) (w' : World) : Prop := ∃ Y Z c3 cz, e = .returned (.slice (some ⟨Y, 0, none⟩) l.length (l.length + 600)) ∧ w'.ownsRow w.heap.size 5 1 (.slice (some ⟨Y, 0, none⟩) (l.length + 600) c3) (l.length + 600) ((l ++ mkb 600).map (Value.int .u8)) ∧ w'.heap[R]? = some (.cells (rc.setIfInBounds 0 (.slice (some ⟨Z, 0, none⟩) 1 cz)) 40 (0, 0)) ∧ w'.ownsRow w.heap.size 22 1 (.slice (some ⟨Z, 0, none⟩) 1 cz) 1 [.slice (some ⟨Y, 0, none⟩) (l.length + 600) c3] ∧ Kg.Touch [R] w w'

set_option maxHeartbeats 8000000 in
theorem roomBytes_one {w : World} {R : Nat} {rc : Array Value} (hr : w.heap[R]? = some (.cells rc 40 (0, 0))) (hr0 : rc[0]? = some (.slice none 0 0)) (n0 : Nat) (hn : n0 ≤ w.heap.size) (v : Value) (l : List Int) (hv : Lrd n0 w v .u8 l) (hl : l.length ≤ 1073741824) :
    Calls Tryz.prog 5 #[.pointer (some ⟨R, 0, none⟩), v] w (BPost w R rc l) := by
  obtain ⟨i0, hi0, hj0, hj1, hj2⟩ := info_parts info_roomBytes
  have HI : Hid (Tryz.prog.info? 5 = some i0 ∧ i0.zero = some (.int .u8 0) ∧ i0.size = 1 ∧ i0.bytes = 1) := ⟨hi0, hj0, hj1, hj2⟩
  have HR : Hid (w.heap[R]? = some (.cells rc 40 (0, 0)) ∧ rc[0]? = some (.slice none 0 0)) := ⟨hr, hr0⟩
  obtain ⟨av, cp, rfl, hcp, hc⟩ := hv
  have Hc : Hid (∀ (f : Nat) z, l[f]? = some z → ∃ q off, av = some ⟨q, off, none⟩ ∧ q < n0 ∧ w.cell? ⟨q, off + f, none⟩ = some (.int .u8 z)) := hc
  clear hi0 hj0 hj1 hj2 hc hr hr0
  go_enter Tryz.func5, Tryz.ntmps5
  go_upto_region 2 with fail
  have Hr0 : Hid ((w.alloc (.cells #[] 5)).ownsRow w.heap.size 5 1 (.slice (some ⟨w.heap.size, 0, none⟩) 0 0) (l.take 0).length ((l.take 0).map (Value.int .u8))) := ⟨by simp, .inr ⟨_, 0, #[], rfl, Nat.le_refl _, heap_alloc_new w _, by simp, by simp [maxLen], by simp, by simp⟩⟩
  have Hb0 : Hid (Below w.heap.size w (w.alloc (.cells #[] 5))) := Below.alloc (Below.refl _ _) (Nat.le_refl _) _
  obtain ⟨v0, hv0⟩ : ∃ v0, v0 = Value.slice (some ⟨w.heap.size, 0, none⟩) 0 0 := ⟨_, rfl⟩
  rw [← hv0] at Hr0 ⊢
  clear hv0
  generalize w.alloc (.cells #[] 5) = w0 at *
  go_wp2
  go_loopw [5, 6] (fun v5 v6 wr => ∃ k : Nat, k ≤ l.length ∧ v6 = .int .i64 k ∧ Hid (wr.ownsRow w.heap.size 5 1 v5 (l.take k).length ((l.take k).map (Value.int .u8))) ∧ Hid (Below w.heap.size w wr)) (fun _ v6 _ => l.length - (intOf v6).toNat)
  case atStart => exact ⟨0, Nat.zero_le _, rfl, Hr0, Hb0⟩
  case round =>
    obtain ⟨k, hk, rfl, Hl, Hb⟩ := hrel
    clear Hr0 Hb0
    obtain ⟨al, cl, hvl⟩ := own_slI Hl.out
    subst hvl
    by_cases hkl : k < l.length
    · have hkI : (k : Int) < (l.length : Int) := by omega
      have hak : l[k]? = some (l[k]'hkl) := List.getElem?_eq_getElem hkl
      generalize l[k]'hkl = a at hak
      have Htk : Hid (l.take (k + 1) = l.take k ++ [a]) := take_snocL hak
      obtain ⟨q, off, rfl, hq, ca⟩ := Hc.out k a hak
      have ca' : wr.cell? ⟨q, off + k, none⟩ = some (.int .u8 a) := (Hb.out.cell (p := ⟨q, off + k, none⟩) (Nat.lt_of_lt_of_le hq hn)).trans ca
      have Hdl : Hid ((l.take k).length ≤ 1073741824) := by
        have h3 := List.length_take_le k l
        show _ ≤ _
        omega
      clear ca hak
      go_wp2_with (at_builtin; refine wpList_append_own_at _ rfl _ _ 22 rfl w.heap.size 5 i0 (.int .u8 0) 1 1 Tryz.underlying22 HI.out.1 HI.out.2.1 HI.out.2.2.1 HI.out.2.2.2 rfl (by decide) _ _ _ rfl (Hl.out.alloc _) ⟨wr.heap.size, 0, none⟩ 1 1 [.int .u8 a] rfl rfl (cell_one_new _ _ _) (by simp [Value.oneCell']) (by have := Hdl.out; simp [maxLen]; omega) (by have := Hdl.out; omega) (by have := Hb.out.size; simp; omega) ?_; intro v' w8 hown' hgrow _ hat)
      have t8 : Kg.Touch (Value.slice al (l.take k).length cl).ownBlock.toList wr w8 := ⟨hgrow.os, hgrow.tape, hgrow.output, by have := hgrow.size; simp at this; omega, fun k hk hn => (hgrow.block k (by simp; omega) (fun e => hn (by rw [Option.mem_toList]; exact e.symm))).trans (Below.heap_alloc _ _ _ hk)⟩
      have Hl8 : Hid (w8.ownsRow w.heap.size 5 1 v' (l.take (k + 1)).length ((l.take (k + 1)).map (Value.int .u8))) := by
        show w8.ownsRow _ _ _ _ _ _
        rw [Htk.out]
        simpa using hown'
      have Hb8 : Hid (Below w.heap.size w w8) := Hb.out.trans (t8.below Hb.out.size (fun y hy => by rw [Option.mem_toList] at hy; exact (Hl.out.lt y hy).1))
      obtain ⟨a9, c9, hv9⟩ := own_slI Hl8.out
      subst hv9
      clear hown' hgrow hat t8 Hl Hb ca'
      go_roundw
      case rel => exact ⟨k + 1, by omega, by go_num, Hl8, Hb8⟩
      case measure => simp [intOf]; omega
    · have hke : k = l.length := by omega
      have hkn : ¬ (k : Int) < (l.length : Int) := by omega
      have Hl0 : Hid (wr.ownsRow w.heap.size 5 1 (.slice al k cl) (l ++ mkb (2 * 0)).length ((l ++ mkb (2 * 0)).map (Value.int .u8))) := by
        have := Hl.out
        have e : l ++ mkb (2 * 0) = l := by simp [mkb]
        rw [e]
        rw [hke, List.take_length] at this
        rw [hke]
        exact this
      have Hb0 : Hid (Below w.heap.size w wr) := Hb.out
      clear Hl Hb hke
      go_wp2
      go_loopw [5, 7] (fun v5 v7 w3 => ∃ m : Nat, m ≤ 300 ∧ v7 = .int .i64 (2 * (m : Int)) ∧ Hid (w3.ownsRow w.heap.size 5 1 v5 (l ++ mkb (2 * m)).length ((l ++ mkb (2 * m)).map (Value.int .u8))) ∧ Hid (Below w.heap.size w w3)) (fun _ v7 _ => 600 - (intOf v7).toNat)
      case atStart => exact ⟨0, Nat.zero_le _, rfl, Hl0, Hb0⟩
      case round =>
        obtain ⟨m, hm, rfl, Hl, Hb⟩ := hrel
        clear Hl0 Hb0
        obtain ⟨al2, cl2, hvl⟩ := own_slI Hl.out
        subst hvl
        have Hdl : Hid ((l ++ mkb (2 * m)).length ≤ 1073741824 + 600) := by
          show _ ≤ _
          rw [List.length_append, mkb_len]
          omega
        by_cases hml : m < 300
        · have hmI : 2 * (m : Int) < 600 := by omega
          obtain ⟨M, hM⟩ : ∃ M, M = (l ++ mkb (2 * m)).length := ⟨_, rfl⟩
          rw [← hM] at Hl Hdl ⊢
          have HM : Hid (M = (l ++ mkb (2 * m)).length) := hM
          clear hM
          go_wp2_with (at_builtin; refine wpList_append_own_at _ rfl _ _ 22 rfl w.heap.size 5 i0 (.int .u8 0) 1 1 Tryz.underlying22 HI.out.1 HI.out.2.1 HI.out.2.2.1 HI.out.2.2.2 rfl (by decide) _ _ _ rfl (Hl.out.alloc _) ⟨wr.heap.size, 0, none⟩ 2 2 [.int .u8 165, .int .u8 90] rfl rfl (cell_two_new _ _ _ _) (by simp [Value.oneCell']) (by have := Hdl.out; simp [maxLen]; omega) (by have := Hdl.out; omega) (by have := Hb.out.size; simp; omega) ?_; intro v' w8 hown' hgrow _ hat)
          have t8 : Kg.Touch (Value.slice al2 M cl2).ownBlock.toList wr w8 := ⟨hgrow.os, hgrow.tape, hgrow.output, by have := hgrow.size; simp at this; omega, fun k hk hn => (hgrow.block k (by simp; omega) (fun e => hn (by rw [Option.mem_toList]; exact e.symm))).trans (Below.heap_alloc _ _ _ hk)⟩
          have Hl8 : Hid (w8.ownsRow w.heap.size 5 1 v' (l ++ mkb (2 * (m + 1))).length ((l ++ mkb (2 * (m + 1))).map (Value.int .u8))) := by
            show w8.ownsRow _ _ _ _ _ _
            have e1 : l ++ mkb (2 * (m + 1)) = (l ++ mkb (2 * m)) ++ [165, 90] := by rw [show 2 * (m + 1) = 2 * m + 2 by omega, mkb_two, List.append_assoc]
            have e2 : (l ++ mkb (2 * (m + 1))).length = M + 2 := by rw [e1, List.length_append, HM.out]; rfl
            rw [e2, e1, List.map_append]
            exact hown'
          have Hb8 : Hid (Below w.heap.size w w8) := Hb.out.trans (t8.below Hb.out.size (fun y hy => by rw [Option.mem_toList] at hy; exact (Hl.out.lt y hy).1))
          exact ⟨⟨m + 1, by omega, by congr 1, Hl8, Hb8⟩, by simp [intOf]; omega⟩
        · have hme : m = 300 := by omega
          have hmI : ¬ 2 * (m : Int) < 600 := by omega
          obtain ⟨M, hM⟩ : ∃ M, M = (l ++ mkb (2 * m)).length := ⟨_, rfl⟩
          have HM : Hid (M = l.length + 600 ∧ l.length ≤ 1073741824) := by
            show _ ∧ _
            rw [hM, hme, List.length_append, mkb_len]
            omega
          have Hrow : Hid (wr.ownsRow w.heap.size 5 1 (.slice al2 M cl2) M ((l ++ mkb 600).map (Value.int .u8))) := by
            have := Hl.out
            rw [← hM, hme] at this
            exact this
          rw [← hM] at Hdl ⊢
          clear hM Hl
          obtain ⟨Y, c3, hY⟩ := Kg.ownsRow_some Hrow.out (by have := HM.out; omega)
          rw [hY] at Hrow ⊢
          obtain ⟨i1, hi1, hk0, hk1, hk2⟩ := info_parts infoS_roomBytes
          have HJ : Hid (Tryz.prog.info? 22 = some i1 ∧ i1.zero = some (.slice none 0 0) ∧ i1.size = 1 ∧ i1.bytes = 24) := ⟨hi1, hk0, hk1, hk2⟩
          have hYl : Y < wr.heap.size := (Hrow.out.lt Y rfl).2
          have hcap : M ≤ c3 := own_cap Hrow.out
          have hRw := Kg.heap_lt HR.out.1
          have hRr : wr.heap[R]? = some (.cells rc 40 (0, 0)) := (Hb.out.block R hRw).trans HR.out.1
          have r1 : wr.cell? ⟨R, 0, none⟩ = some (.slice none 0 0) := (Kg.heap_cell hRr 0).trans HR.out.2
          have HRr : Hid (wr.heap[R]? = some (.cells rc 40 (0, 0))) := hRr
          have Hbs : Hid (w.heap.size ≤ wr.heap.size) := Hb.out.size
          clear hi1 hk0 hk1 hk2 hY hme hRr
          go_upto_region 11 with (at_builtin; refine wpList_append_own_at _ rfl _ _ 32 rfl w.heap.size 22 i1 (.slice none 0 0) 1 24 Tryz.underlying32 HJ.out.1 HJ.out.2.1 HJ.out.2.2.1 HJ.out.2.2.2 rfl (by decide) _ _ _ rfl (World.ownsRow_nil _ _ _ _) ⟨wr.heap.size, 0, none⟩ 1 1 [.slice (some ⟨Y, 0, none⟩) M c3] rfl rfl (cell_one_new _ _ _) (by simp [Value.oneCell']) (by simp [maxLen]) (by decide) (by have := Hbs.out; simp; omega) ?_; intro v' w8 hown' hgrow _ hat; obtain ⟨Z, cz, hZ⟩ := Kg.ownsRow_some hown' (Nat.succ_pos _); subst hZ; have t8 : Kg.Touch [] wr w8 := (Kg.Touch.of_below (Below.alloc (Below.refl _ _) (Nat.le_refl _) _) []).trans (Kg.Touch.grown hgrow (fun y hy => by cases hy)); have hblk : w8.heap[R]? = some (.cells rc 40 (0, 0)) := (t8.block R (Kg.heap_lt HRr.out) (by simp)).trans HRr.out; have Hblk : Hid (w8.heap[R]? = some (.cells rc 40 (0, 0))) := hblk; have r8 : w8.cell? ⟨R, 0, none⟩ = some (.slice none 0 0) := (Kg.heap_cell hblk 0).trans HR.out.2; have f8 : w8.frozen? ⟨R, 0, none⟩ = false := Kg.heap_frozen hblk 0; clear hblk hat hgrow)
          have t9 : Kg.Touch [R] w8 (w8.setCell ⟨R, 0, none⟩ (.slice (some ⟨Z, 0, none⟩) 1 cz)) := Kg.Touch.setCell _ _ _ (by simp)
          have hT : ∀ e, e ≠ 40 → ∀ k, k ∈ [R] → ∀ cs t', w8.heap[k]? = some (.cells cs t' (0, 0)) → t' ≠ e := fun e he k hk cs t' hc => by simp only [List.mem_cons, List.not_mem_nil, or_false] at hk; subst hk; rw [Hblk.out] at hc; cases hc; exact he.symm
          have hY8 := row_kty Hrow.out t8 (fun k hk => by cases hk)
          have hY9 := row_kty hY8 t9 (hT _ (by decide))
          have hZ9 := row_kty hown' t9 (hT _ (by decide))
          have hR9 := Kg.heap_set Hblk.out 0 (.slice (some ⟨Z, 0, none⟩) 1 cz)
          have tt : Kg.Touch [R] w (w8.setCell ⟨R, 0, none⟩ (.slice (some ⟨Z, 0, none⟩) 1 cz)) := (Kg.Touch.of_below Hb.out _).trans ((t8.mono (fun k hk => by cases hk)).trans t9)
          have hl2 := HM.out.1
          have HP : Hid ((w8.setCell ⟨R, 0, none⟩ (.slice (some ⟨Z, 0, none⟩) 1 cz)).ownsRow w.heap.size 5 1 (.slice (some ⟨Y, 0, none⟩) M c3) M ((l ++ mkb 600).map (Value.int .u8)) ∧ (w8.setCell ⟨R, 0, none⟩ (.slice (some ⟨Z, 0, none⟩) 1 cz)).heap[R]? = some (.cells (rc.setIfInBounds 0 (.slice (some ⟨Z, 0, none⟩) 1 cz)) 40 (0, 0)) ∧ (w8.setCell ⟨R, 0, none⟩ (.slice (some ⟨Z, 0, none⟩) 1 cz)).ownsRow w.heap.size 22 1 (.slice (some ⟨Z, 0, none⟩) 1 cz) 1 [.slice (some ⟨Y, 0, none⟩) M c3] ∧ Kg.Touch [R] w (w8.setCell ⟨R, 0, none⟩ (.slice (some ⟨Z, 0, none⟩) 1 cz))) := ⟨hY9, hR9, hZ9, tt⟩
          clear hown' t8 t9 hT hY8 hY9 hZ9 hR9 tt r8 f8 Hblk HRr Hrow r1 HJ Hdl Hb
          generalize w8.setCell ⟨R, 0, none⟩ (.slice (some ⟨Z, 0, none⟩) 1 cz) = w9 at *
          subst hl2
          go_wp2
          go_ret
          exact ⟨Y, Z, c3, cz, rfl, HP.out.1, HP.out.2.1, HP.out.2.2.1, HP.out.2.2.2⟩

end Go.Proofs.YtblbiikfipcbcaaGreatDoor

/-
  Images, bytes with room behind them: the marks are held.
-/
set_option linter.unusedVariables false
set_option maxRecDepth 20000
namespace Go.Proofs.YtblbiikfipcbcaaGreatDoor
open Go.RowKit Go.Shelf

theorem mrb0 {j : Nat} (h : j % 2 = 0) : mrb j = 165 := by unfold mrb; rw [if_pos h]
theorem mrb1 {j : Nat} (h : ¬ j % 2 = 0) : mrb j = 90 := by unfold mrb; rw [if_neg h]

set_option maxHeartbeats 8000000 in
theorem holdB_one {w : World} {R Y Z n c3 cz : Nat} (k0 : w.cell? ⟨R, 0, none⟩ = some (.slice (some ⟨Z, 0, none⟩) 1 cz)) (z0 : w.cell? ⟨Z, 0, none⟩ = some (.slice (some ⟨Y, 0, none⟩) (n + 600) c3)) (hmk : ∀ j, j < 600 → w.cell? ⟨Y, n + j, none⟩ = some (.int .u8 (mrb j))) (hn : n ≤ 1073741824) :
    Calls Tryz.prog 24 #[.pointer (some ⟨R, 0, none⟩)] w fun e w' => e = .returned (.bool true) ∧ Below w.heap.size w w' := by
  have b1 : Below w.heap.size w (w.alloc (.cells #[.int .u8 165, .int .u8 90] 5)) := Below.alloc (Below.refl _ _) (Nat.le_refl _) _
  have k1 : (w.alloc (.cells #[.int .u8 165, .int .u8 90] 5)).cell? ⟨R, 0, none⟩ = some (.slice (some ⟨Z, 0, none⟩) 1 cz) := Lib.cell?_alloc_some _ k0
  have z1 : (w.alloc (.cells #[.int .u8 165, .int .u8 90] 5)).cell? ⟨Z, 0, none⟩ = some (.slice (some ⟨Y, 0, none⟩) (n + 600) c3) := Lib.cell?_alloc_some _ z0
  have Hmk : Hid (∀ j, j < 600 → (w.alloc (.cells #[.int .u8 165, .int .u8 90] 5)).cell? ⟨Y, n + j, none⟩ = some (.int .u8 (mrb j))) := fun j hj => Lib.cell?_alloc_some _ (hmk j hj)
  have m0 : (w.alloc (.cells #[.int .u8 165, .int .u8 90] 5)).cell? ⟨w.heap.size, 0, none⟩ = some (.int .u8 165) := cell_of_row _ _ 0 _ _ _ (heap_alloc_new w _)
  have m1 : (w.alloc (.cells #[.int .u8 165, .int .u8 90] 5)).cell? ⟨w.heap.size, 1, none⟩ = some (.int .u8 90) := cell_of_row _ _ 1 _ _ _ (heap_alloc_new w _)
  have Hb1 : Hid (Below w.heap.size w (w.alloc (.cells #[.int .u8 165, .int .u8 90] 5))) := b1
  clear b1 k0 z0 hmk
  go_enter Tryz.func24, Tryz.ntmps24
  go_upto_region 2 with fail
  generalize w.alloc (.cells #[.int .u8 165, .int .u8 90] 5) = w1 at *
  obtain ⟨M, hM⟩ : ∃ M, M = w.heap.size := ⟨_, rfl⟩
  rw [← hM] at m0 m1 ⊢
  clear hM
  go_wp2
  go_loopw [4] (fun v4 wr => ∃ k : Nat, k ≤ 1 ∧ v4 = .int .i64 k ∧ w1 = wr) (fun v4 _ => 1 - (intOf v4).toNat)
  case atStart => exact ⟨0, by omega, rfl, rfl⟩
  case round =>
    obtain ⟨k, hk, rfl, rfl⟩ := hrel
    by_cases hk0 : k < 1
    · have hke : k = 0 := by omega
      subst hke
      go_wp2
      go_loopw [6] (fun v6 w3 => ∃ j : Nat, j ≤ 600 ∧ v6 = .int .i64 j ∧ w1 = w3) (fun v6 _ => 600 - (intOf v6).toNat)
      case atStart => exact ⟨0, by omega, rfl, rfl⟩
      case round =>
        obtain ⟨j, hj, rfl, rfl⟩ := hrel
        by_cases hj0 : j < 600
        · have hjI : (j : Int) < 600 := by omega
          have hc := Hmk.out j hj0
          by_cases hpar : j % 2 = 0
          · rw [mrb0 hpar] at hc
            have hp2 : Int.tmod (j : Int) 2 = 0 := by rw [Int.tmod_eq_emod_of_nonneg (by omega)]; omega
            go_wp2
            exact ⟨⟨j + 1, by omega, by go_num, trivial⟩, by simp [intOf]; omega⟩
          · rw [mrb1 hpar] at hc
            have hp2 : Int.tmod (j : Int) 2 = 1 := by rw [Int.tmod_eq_emod_of_nonneg (by omega)]; omega
            go_wp2
            exact ⟨⟨j + 1, by omega, by go_num, trivial⟩, by simp [intOf]; omega⟩
        · have hjI : ¬ (j : Int) < 600 := by omega
          go_wp2
          exact ⟨⟨1, by omega, by go_num, trivial⟩, by simp [intOf]⟩
    · have hk1 : ¬ (k : Int) < 1 := by omega
      go_wp2
      go_ret
      exact ⟨rfl, Hb1.out⟩

end Go.Proofs.YtblbiikfipcbcaaGreatDoor

/-
  Images, bytes with room behind them: Hold. (Printed by mkBY3.py.)
-/
set_option linter.unusedVariables false
set_option maxRecDepth 20000
namespace Go.Proofs.YtblbiikfipcbcaaGreatDoor
open Go.RowKit Go.Shelf

set_option maxHeartbeats 2000000 in
theorem roomHI_no {w : World} {R : Nat} (h : w.cell? ⟨R, 1, none⟩ = some (.slice none 0 0)) :
    Calls Tryz.prog 25 #[.pointer (some ⟨R, 0, none⟩)] w fun e w' => e = .returned (.bool true) ∧ Below w.heap.size w w' := by
  have hR := World.block_lt_of_cell? _ _ h
  simp only at hR
  go_enter Tryz.func25, Tryz.ntmps25
  go_wp2
  refine wp_loop_rounds 1 ?_
  rw [rounds_succ]
  go_wp2
  go_returns
  exact ⟨rfl, by go_grown⟩

set_option maxHeartbeats 2000000 in
theorem roomHW_no {w : World} {R : Nat} (h : w.cell? ⟨R, 2, none⟩ = some (.slice none 0 0)) :
    Calls Tryz.prog 26 #[.pointer (some ⟨R, 0, none⟩)] w fun e w' => e = .returned (.bool true) ∧ Below w.heap.size w w' := by
  have hR := World.block_lt_of_cell? _ _ h
  simp only at hR
  go_enter Tryz.func26, Tryz.ntmps26
  go_wp2
  refine wp_loop_rounds 1 ?_
  rw [rounds_succ]
  go_wp2
  go_returns
  exact ⟨rfl, by go_grown⟩

set_option maxHeartbeats 2000000 in
theorem roomHT_no {w : World} {R : Nat} (h : w.cell? ⟨R, 3, none⟩ = some (.slice none 0 0)) :
    Calls Tryz.prog 27 #[.pointer (some ⟨R, 0, none⟩)] w fun e w' => e = .returned (.bool true) ∧ Below w.heap.size w w' := by
  have hR := World.block_lt_of_cell? _ _ h
  simp only at hR
  go_enter Tryz.func27, Tryz.ntmps27
  go_wp2
  refine wp_loop_rounds 1 ?_
  rw [rounds_succ]
  go_wp2
  go_returns
  exact ⟨rfl, by go_grown⟩

set_option maxHeartbeats 2000000 in
theorem roomHO_no {w : World} {R : Nat} (h : w.cell? ⟨R, 4, none⟩ = some (.slice none 0 0)) :
    Calls Tryz.prog 28 #[.pointer (some ⟨R, 0, none⟩)] w fun e w' => e = .returned (.bool true) ∧ Below w.heap.size w w' := by
  have hR := World.block_lt_of_cell? _ _ h
  simp only at hR
  go_enter Tryz.func28, Tryz.ntmps28
  go_wp2
  refine wp_loop_rounds 1 ?_
  rw [rounds_succ]
  go_wp2
  go_returns
  exact ⟨rfl, by go_grown⟩

set_option maxHeartbeats 2000000 in
theorem roomHL_no {w : World} {R : Nat} (h : w.cell? ⟨R, 5, none⟩ = some (.slice none 0 0)) :
    Calls Tryz.prog 29 #[.pointer (some ⟨R, 0, none⟩)] w fun e w' => e = .returned (.bool true) ∧ Below w.heap.size w w' := by
  have hR := World.block_lt_of_cell? _ _ h
  simp only at hR
  have hA : ∀ o0 o1 o2, (World.alloc (World.alloc (World.alloc w o0) o1) o2).cell? ⟨R, 5, none⟩ = some (.slice none 0 0) := fun _ _ _ => (Lib.cell?_alloc_some _ (Lib.cell?_alloc_some _ (Lib.cell?_alloc_some _ h)))
  go_enter Tryz.func29, Tryz.ntmps29
  go_wp2
  refine wp_loop_rounds 1 ?_
  rw [rounds_succ]
  go_wp2
  go_returns
  exact ⟨rfl, by go_grown⟩

set_option maxHeartbeats 2000000 in
theorem roomHF_no {w : World} {R : Nat} (h : w.cell? ⟨R, 6, none⟩ = some (.slice none 0 0)) :
    Calls Tryz.prog 30 #[.pointer (some ⟨R, 0, none⟩)] w fun e w' => e = .returned (.bool true) ∧ Below w.heap.size w w' := by
  have hR := World.block_lt_of_cell? _ _ h
  simp only at hR
  have hA : ∀ o0 o1 o2 o3 o4, (World.alloc (World.alloc (World.alloc (World.alloc (World.alloc w o0) o1) o2) o3) o4).cell? ⟨R, 6, none⟩ = some (.slice none 0 0) := fun _ _ _ _ _ => (Lib.cell?_alloc_some _ (Lib.cell?_alloc_some _ (Lib.cell?_alloc_some _ (Lib.cell?_alloc_some _ (Lib.cell?_alloc_some _ h)))))
  go_enter Tryz.func30, Tryz.ntmps30
  go_wp2
  refine wp_loop_rounds 1 ?_
  rw [rounds_succ]
  go_wp2
  go_returns
  exact ⟨rfl, by go_grown⟩

set_option maxHeartbeats 2000000 in
theorem roomHJ_no {w : World} {R : Nat} (h : w.cell? ⟨R, 7, none⟩ = some (.slice none 0 0)) :
    Calls Tryz.prog 31 #[.pointer (some ⟨R, 0, none⟩)] w fun e w' => e = .returned (.bool true) ∧ Below w.heap.size w w' := by
  have hR := World.block_lt_of_cell? _ _ h
  simp only at hR
  go_enter Tryz.func31, Tryz.ntmps31
  go_wp2
  refine wp_loop_rounds 1 ?_
  rw [rounds_succ]
  go_wp2
  go_returns
  exact ⟨rfl, by go_grown⟩

set_option maxHeartbeats 4000000 in
/-- No mark behind the bytes is written over. -/
theorem holdBytes_one {w : World} {R Y Z n c3 cz : Nat} (k0 : w.cell? ⟨R, 0, none⟩ = some (.slice (some ⟨Z, 0, none⟩) 1 cz)) (hz : ∀ i, 0 < i → i < 8 → w.cell? ⟨R, i, none⟩ = some (.slice none 0 0)) (z0 : w.cell? ⟨Z, 0, none⟩ = some (.slice (some ⟨Y, 0, none⟩) (n + 600) c3)) (hmk : ∀ j, j < 600 → w.cell? ⟨Y, n + j, none⟩ = some (.int .u8 (mrb j))) (hn : n ≤ 1073741824) :
    Calls Tryz.prog 10 #[.pointer (some ⟨R, 0, none⟩)] w fun e w' => e = .returned (.bool true) ∧ Below w.heap.size w w' := by
  have hR : R < w.heap.size := World.block_lt_of_cell? _ _ k0
  have HB0 : Hid (Below w.heap.size w w) := Below.refl _ _
  have HR : Hid (∀ w', Below w.heap.size w w' → ∀ i, 0 < i → i < 8 → w'.cell? ⟨R, i, none⟩ = some (.slice none 0 0)) := fun w' b' i h1 h2 => (b'.cell (p := ⟨R, i, none⟩) hR).trans (hz i h1 h2)
  have hc0 := holdB_one k0 z0 hmk hn
  clear k0 hz z0 hmk hn hR
  go_enter Tryz.func10, Tryz.ntmps10
  go_wp2_with fail
  refine hc0.mono ?_
  rintro e w1 ⟨rfl, b1⟩
  have HB1 : Hid (Below w.heap.size w w1) := HB0.out.trans (b1.mono HB0.out.size)
  clear hc0 b1
  have hc1 := roomHI_no (w := w1) (R := R) (HR.out w1 HB1.out 1 (by omega) (by omega))
  go_wp2_with fail
  refine hc1.mono ?_
  rintro e w2 ⟨rfl, b2⟩
  have HB2 : Hid (Below w.heap.size w w2) := HB1.out.trans (b2.mono HB1.out.size)
  clear hc1 b2
  have hc2 := roomHW_no (w := w2) (R := R) (HR.out w2 HB2.out 2 (by omega) (by omega))
  go_wp2_with fail
  refine hc2.mono ?_
  rintro e w3 ⟨rfl, b3⟩
  have HB3 : Hid (Below w.heap.size w w3) := HB2.out.trans (b3.mono HB2.out.size)
  clear hc2 b3
  have hc3 := roomHT_no (w := w3) (R := R) (HR.out w3 HB3.out 3 (by omega) (by omega))
  go_wp2_with fail
  refine hc3.mono ?_
  rintro e w4 ⟨rfl, b4⟩
  have HB4 : Hid (Below w.heap.size w w4) := HB3.out.trans (b4.mono HB3.out.size)
  clear hc3 b4
  have hc4 := roomHO_no (w := w4) (R := R) (HR.out w4 HB4.out 4 (by omega) (by omega))
  go_wp2_with fail
  refine hc4.mono ?_
  rintro e w5 ⟨rfl, b5⟩
  have HB5 : Hid (Below w.heap.size w w5) := HB4.out.trans (b5.mono HB4.out.size)
  clear hc4 b5
  have hc5 := roomHL_no (w := w5) (R := R) (HR.out w5 HB5.out 5 (by omega) (by omega))
  go_wp2_with fail
  refine hc5.mono ?_
  rintro e w6 ⟨rfl, b6⟩
  have HB6 : Hid (Below w.heap.size w w6) := HB5.out.trans (b6.mono HB5.out.size)
  clear hc5 b6
  have hc6 := roomHF_no (w := w6) (R := R) (HR.out w6 HB6.out 6 (by omega) (by omega))
  go_wp2_with fail
  refine hc6.mono ?_
  rintro e w7 ⟨rfl, b7⟩
  have HB7 : Hid (Below w.heap.size w w7) := HB6.out.trans (b7.mono HB6.out.size)
  clear hc6 b7
  have hc7 := roomHJ_no (w := w7) (R := R) (HR.out w7 HB7.out 7 (by omega) (by omega))
  go_wp2_with fail
  refine hc7.mono ?_
  rintro e w8 ⟨rfl, b8⟩
  have HB8 : Hid (Below w.heap.size w w8) := HB7.out.trans (b8.mono HB7.out.size)
  clear hc7 b8
  go_wp2
  go_ret
  exact ⟨rfl, HB8.out⟩

end Go.Proofs.YtblbiikfipcbcaaGreatDoor

