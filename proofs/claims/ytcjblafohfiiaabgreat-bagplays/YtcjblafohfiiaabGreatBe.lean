/-
  begin: two of each.
-/
import Derived.Test.YtcjblafohfiiaabGreatBp
import Derived.Deep.CutRange
set_option linter.unusedVariables false
namespace Go.Proofs.YtcjblafohfiiaabGreat
open Go.RowKit Go.Shelf

set_option maxRecDepth 100000 in
set_option maxHeartbeats 8000000 in
theorem begin_any (one two : Int) (w : World) :
    Calls Tryz.prog 8 #[.int .i64 one, .int .i64 two] w fun e w' => e = .returned (.tuple #[.pointer (some ⟨w.heap.size, 0, none⟩), .bool true]) ∧ ∃ D M L, Beg w one two 2 D M L ∧ Bg w w' D M L := by
  go_enter Tryz.func8, Tryz.ntmps8
  go_wp2
  go_loopw [8] (fun i wr => ∃ (k : Nat) (D : List (Option Addr)) (M : List Int) (L : List Obj), k ≤ 2 ∧ i = .int .i64 k ∧ Beg w one two k D M L ∧ Bg w wr D M L) (fun i _ => 2 - (intOf i).toNat)
  case atStart =>
    refine ⟨0, List.replicate 20 none, [one, two], [], by omega, rfl, ⟨rfl, rfl, fun j _ h2 => ?_, fun _ => 0, fun j hj => by omega, fun h => by omega⟩, bg_start w one two⟩
    obtain rfl | rfl : j = 0 ∨ j = 1 := by omega
    · rfl
    · rfl
  case round =>
    obtain ⟨k, D, M, L, hk, rfl, hbg, hB⟩ := hrel
    by_cases hlt : k < 2
    · have hD := hbg.dl
      have hM := hbg.ml
      obtain ⟨m, hm⟩ : ∃ m, M[k]? = some m := ⟨_, List.getElem?_eq_getElem (by omega)⟩
      have hki : (k : Int) < 2 := by omega
      have Hm : Hid (M[k]? = some m) := hm
      have Hm0 : Hid (m = if k = 0 then one else two) := Option.some.inj (hm.symm.trans (hbg.left k (Nat.le_refl _) hlt))
      have HBeg : Hid (Beg w one two k D M L) := hbg
      clear hm hbg
      by_cases hm0 : 0 ≤ m
      · have hmn : ¬ m < 0 := by omega
        have cM := hB.cellM k m Hm.out
        go_wp2_with fail
        refine (newnum_bg m hm0 hB).mono ?_
        rintro e W1 ⟨rfl, hB1⟩
        clear hB cM
        have cM := hB1.cellM k m Hm.out
        obtain ⟨L1, hL1⟩ : ∃ L1, L1 = L ++ [oNum m] := ⟨_, rfl⟩
        rw [← hL1] at hB1
        have HL1 : Hid (L1 = L ++ [oNum m]) := hL1
        clear hL1
        go_wp2_with fail
        refine (newstk_bg m hm0 hB1).mono ?_
        rintro e W2 ⟨rfl, hB2⟩
        clear hB1 cM
        have cM := hB2.cellM k m Hm.out
        obtain ⟨L2, hL2⟩ : ∃ L2, L2 = L1 ++ [oStk m] := ⟨_, rfl⟩
        rw [← hL2] at hB2
        have HL2 : Hid (L2 = L1 ++ [oStk m]) := hL2
        clear hL2
        go_wp2_with fail
        refine (newque_bg m hm0 hB2).mono ?_
        rintro e W3 ⟨rfl, hB3⟩
        clear hB2 cM
        have cM := hB3.cellM k m Hm.out
        obtain ⟨L3, hL3⟩ : ∃ L3, L3 = L2 ++ [oQue m] := ⟨_, rfl⟩
        rw [← hL3] at hB3
        have HL3 : Hid (L3 = L2 ++ [oQue m]) := hL3
        clear hL3
        go_wp2_with fail
        refine (newtqu_bg m hm0 hB3).mono ?_
        rintro e W4 ⟨rfl, hB4⟩
        clear hB3 cM
        obtain ⟨L4, hL4⟩ : ∃ L4, L4 = L3 ++ [oTqu m] := ⟨_, rfl⟩
        rw [← hL4] at hB4
        have HL4 : Hid (L4 = L3 ++ [oTqu m]) := hL4
        clear hL4
        have hDj : ∀ j, j < 20 → ∃ p, D[j]? = some p := fun j hj => ⟨_, List.getElem?_eq_getElem (by omega)⟩
        obtain ⟨q0, e0⟩ := hDj k (by omega)
        obtain ⟨q1, e1⟩ := hDj (2 + k) (by omega)
        obtain ⟨q2, e2⟩ := hDj (4 + k) (by omega)
        have c0 := hB4.cellD _ _ e0
        have c1 := hB4.cellD _ _ e1
        have c2 := hB4.cellD _ _ e2
        have f0 := hB4.frozenD
        clear e0 e1 e2 hDj
        go_wp2_with (go_at_call 14; refine (num_any _ _).mono ?_; rintro e w' ⟨rfl, rfl⟩)
        have hB5 := ((hB4.setD k (plc w L1)).setD (2 + k) (plc w L2)).setD (4 + k) (plc w L3)
        generalize ((W4.setCell ⟨w.heap.size, k, none⟩ (.pointer (plc w L1))).setCell ⟨w.heap.size, 2 + k, none⟩ (.pointer (plc w L2))).setCell ⟨w.heap.size, 4 + k, none⟩ (.pointer (plc w L3)) = W5 at hB5 ⊢
        clear hB4 c0 c1 c2 f0
        obtain ⟨D5, hD5⟩ : ∃ D5, D5 = ((D.set k (plc w L1)).set (2 + k) (plc w L2)).set (4 + k) (plc w L3) := ⟨_, rfl⟩
        rw [← hD5] at hB5
        have HD5 : Hid (D5 = ((D.set k (plc w L1)).set (2 + k) (plc w L2)).set (4 + k) (plc w L3)) := hD5
        have hD5l : D5.length = 20 := by rw [hD5]; simpa using hD
        clear hD5
        go_cut [] from 125 to 130 (fun w' => Bg w w' (D5.set (6 + k) (plc w L4)) M (L4 ++ [oIta]))
        case first =>
          obtain ⟨q, eq⟩ : ∃ p, D5[6 + k]? = some p := ⟨_, List.getElem?_eq_getElem (by omega)⟩
          have hca := newita_bg hB5.drew
          go_region_with (go_at_call 15; refine hca.mono ?_; rintro e Wx ⟨rfl, hBx⟩; have cx := hBx.cellD _ _ eq; have fx := hBx.frozenD (6 + k))
          all_goals (go_wp2_with fail; go_meet; exact hBx.setD _ _)
        case rest =>
        obtain ⟨L5, hL5⟩ : ∃ Z, Z = L4 ++ [oIta] := ⟨_, rfl⟩
        obtain ⟨D6, hD6⟩ : ∃ Z, Z = D5.set (6 + k) (plc w L4) := ⟨_, rfl⟩
        rw [← hL5, ← hD6] at hcut
        have hD6l : D6.length = 20 := by rw [hD6]; simpa using hD5l
        have HL5 : Hid (L5 = L4 ++ [oIta]) := hL5
        have HD6 : Hid (D6 = D5.set (6 + k) (plc w L4)) := hD6
        clear hL5 hD6 hB5
        have hB6 := hcut
        clear hcut
        generalize wc = W6 at hB6 ⊢
        go_wp2_with fail
        go_cut [] from 131 to 136 (fun w' => Bg w w' (D6.set (8 + k) (plc w L5)) M (L5 ++ [oTta]))
        case first =>
          obtain ⟨q, eq⟩ : ∃ p, D6[8 + k]? = some p := ⟨_, List.getElem?_eq_getElem (by omega)⟩
          have hca := newtta_bg hB6.drew
          go_region_with (go_at_call 16; refine hca.mono ?_; rintro e Wx ⟨rfl, hBx⟩; have cx := hBx.cellD _ _ eq; have fx := hBx.frozenD (8 + k))
          all_goals (go_wp2_with fail; go_meet; exact hBx.setD _ _)
        case rest =>
        obtain ⟨L6, hL6⟩ : ∃ Z, Z = L5 ++ [oTta] := ⟨_, rfl⟩
        obtain ⟨D7, hD7⟩ : ∃ Z, Z = D6.set (8 + k) (plc w L5) := ⟨_, rfl⟩
        rw [← hL6, ← hD7] at hcut
        have hD7l : D7.length = 20 := by rw [hD7]; simpa using hD6l
        have HL6 : Hid (L6 = L5 ++ [oTta]) := hL6
        have HD7 : Hid (D7 = D6.set (8 + k) (plc w L5)) := hD7
        clear hL6 hD7 hB6
        have hB7 := hcut
        clear hcut
        generalize wc = W7 at hB7 ⊢
        have r6 : D7[6 + k]? = some (plc w L4) := by rw [HD7.out, HD6.out]; rw [List.getElem?_set_ne (by omega), List.getElem?_set_self (by omega)]
        have r8 : D7[8 + k]? = some (plc w L5) := by rw [HD7.out]; rw [List.getElem?_set_self (by omega)]
        have cw := hB7.cellD _ _ r6
        have cn := hB7.cellD _ _ r8
        clear r6 r8
        go_wp2_with fail
        clear cw cn
        go_cut [] from 165 to 176 (fun w' => Bg w w' (D7.set (10 + k) (plc w L6)) M (L6 ++ [oNum m]))
        case first =>
          obtain ⟨q, eq⟩ : ∃ p, D7[10 + k]? = some p := ⟨_, List.getElem?_eq_getElem (by omega)⟩
          have hca := newnum_bg m hm0 hB7.drew
          have cM := hB7.cellM k m Hm.out
          go_region_with (go_at_call 10; refine hca.mono ?_; rintro e Wx ⟨rfl, hBx⟩; have cx := hBx.cellD _ _ eq; have fx := hBx.frozenD (10 + k))
          all_goals (go_wp2_with fail; go_meet; exact hBx.setD _ _)
        case rest =>
        obtain ⟨L7, hL7⟩ : ∃ Z, Z = L6 ++ [oNum m] := ⟨_, rfl⟩
        obtain ⟨D8, hD8⟩ : ∃ Z, Z = D7.set (10 + k) (plc w L6) := ⟨_, rfl⟩
        rw [← hL7, ← hD8] at hcut
        have hD8l : D8.length = 20 := by rw [hD8]; simpa using hD7l
        have HL7 : Hid (L7 = L6 ++ [oNum m]) := hL7
        have HD8 : Hid (D8 = D7.set (10 + k) (plc w L6)) := hD8
        clear hL7 hD8 hB7
        have hB8 := hcut
        clear hcut
        generalize wc = W8 at hB8 ⊢
        go_wp2_with fail
        go_cut [] from 177 to 188 (fun w' => Bg w w' (D8.set (12 + k) (plc w L7)) M (L7 ++ [oNum m]))
        case first =>
          obtain ⟨q, eq⟩ : ∃ p, D8[12 + k]? = some p := ⟨_, List.getElem?_eq_getElem (by omega)⟩
          have hca := newnum_bg m hm0 hB8.drew
          have cM := hB8.cellM k m Hm.out
          go_region_with (go_at_call 10; refine hca.mono ?_; rintro e Wx ⟨rfl, hBx⟩; have cx := hBx.cellD _ _ eq; have fx := hBx.frozenD (12 + k))
          all_goals (go_wp2_with fail; go_meet; exact hBx.setD _ _)
        case rest =>
        obtain ⟨L8, hL8⟩ : ∃ Z, Z = L7 ++ [oNum m] := ⟨_, rfl⟩
        obtain ⟨D9, hD9⟩ : ∃ Z, Z = D8.set (12 + k) (plc w L7) := ⟨_, rfl⟩
        rw [← hL8, ← hD9] at hcut
        have hD9l : D9.length = 20 := by rw [hD9]; simpa using hD8l
        have HL8 : Hid (L8 = L7 ++ [oNum m]) := hL8
        have HD9 : Hid (D9 = D8.set (12 + k) (plc w L7)) := hD9
        clear hL8 hD9 hB8
        have hB9 := hcut
        clear hcut
        generalize wc = W9 at hB9 ⊢
        go_wp2_with fail
        go_cut [] from 189 to 200 (fun w' => Bg w w' (D9.set (14 + k) (plc w L8)) M (L8 ++ [oTxs m]))
        case first =>
          obtain ⟨q, eq⟩ : ∃ p, D9[14 + k]? = some p := ⟨_, List.getElem?_eq_getElem (by omega)⟩
          have hca := newtxs_bg m hm0 hB9.drew
          have cM := hB9.cellM k m Hm.out
          go_region_with (go_at_call 17; refine hca.mono ?_; rintro e Wx ⟨rfl, hBx⟩; have cx := hBx.cellD _ _ eq; have fx := hBx.frozenD (14 + k))
          all_goals (go_wp2_with fail; go_meet; exact hBx.setD _ _)
        case rest =>
        obtain ⟨L9, hL9⟩ : ∃ Z, Z = L8 ++ [oTxs m] := ⟨_, rfl⟩
        obtain ⟨D10, hD10⟩ : ∃ Z, Z = D9.set (14 + k) (plc w L8) := ⟨_, rfl⟩
        rw [← hL9, ← hD10] at hcut
        have hD10l : D10.length = 20 := by rw [hD10]; simpa using hD9l
        have HL9 : Hid (L9 = L8 ++ [oTxs m]) := hL9
        have HD10 : Hid (D10 = D9.set (14 + k) (plc w L8)) := hD10
        clear hL9 hD10 hB9
        have hB10 := hcut
        clear hcut
        generalize wc = W10 at hB10 ⊢
        obtain ⟨q8, e8⟩ : ∃ p, D10[16 + k]? = some p := ⟨_, List.getElem?_eq_getElem (by omega)⟩
        obtain ⟨q9, e9⟩ : ∃ p, D10[18 + k]? = some p := ⟨_, List.getElem?_eq_getElem (by omega)⟩
        have c8 := hB10.cellD _ _ e8
        have f8 := hB10.frozenD
        have c9 := hB10.cellD _ _ e9
        have zd : w.heap.size < W10.heap.size := by rw [hB10.size]; omega
        have zd1 : w.heap.size < W10.heap.size + 1 := by omega
        have Hz : Hid (W10.heap.size = w.heap.size + 2 + L9.length) := hB10.size
        clear e8 e9
        have hB11 := (((hB10.setD (16 + k) (atP w L9.length)).setD (18 + k) (atP w (L9.length + 1))).alloc oWds).alloc oNmd
        have eD : (D10.set (16 + k) (atP w L9.length)).set (18 + k) (atP w (L9.length + 1)) = setTen w D k L1.length := by
          rw [HD10.out, HD9.out, HD8.out, HD7.out, HD6.out, HD5.out, HL9.out, HL8.out, HL7.out, HL6.out, HL5.out, HL4.out, HL3.out, HL2.out]
          simp [setTen, plc, atP]
        have eL : L9 ++ [oWds] ++ [oNmd] = L1 ++ ten m := by
          rw [HL9.out, HL8.out, HL7.out, HL6.out, HL5.out, HL4.out, HL3.out, HL2.out]
          simp
        rw [eD, eL] at hB11
        have hbeg : Beg w one two (k + 1) (setTen w D k L1.length) M (L1 ++ ten m) := by
          rw [HL1.out]
          exact beg_step hlt HBeg.out (by rw [← Hm0.out]; omega) hM (fun _ _ => rfl)
        have eZ : W10.heap.size = w.heap.size + 2 + L9.length := Hz.out
        have HB : Hid (Bg w (((W10.setCell ⟨w.heap.size, 16 + k, none⟩ (.pointer (some ⟨W10.heap.size, 0, none⟩))).setCell ⟨w.heap.size, 18 + k, none⟩ (.pointer (some ⟨W10.heap.size + 1, 0, none⟩))).alloc (.cells #[.slice none 0 0, .slice none 0 0] 71) |>.alloc (.cells #[.slice none 0 0, .slice none 0 0] 74)) (setTen w D k L1.length) M (L1 ++ ten m)) := by
          show Bg w _ _ _ _
          rw [eZ]
          exact hB11
        clear hB11 hB10 eD eL eZ
        go_wp2
        exact ⟨⟨k + 1, _, _, _, hlt, by go_num, hbeg, HB.out⟩, by simp [intOf]; omega⟩
      · have hm1 : m < 0 := by omega
        have cM := hB.cellM k m Hm.out
        go_wp2_with fail
        refine (newnum_no m hm1 _).mono ?_
        rintro e w' ⟨rfl, rfl⟩
        go_wp2_with fail
        refine (newstk_no m hm1 _).mono ?_
        rintro e w' ⟨rfl, rfl⟩
        go_wp2_with fail
        refine (newque_no m hm1 _).mono ?_
        rintro e w' ⟨rfl, rfl⟩
        go_wp2_with fail
        refine (newtqu_no m hm1 _).mono ?_
        rintro e w' ⟨rfl, rfl⟩
        have fM := hB.frozenM k
        have hB0 := hB.setM k 0
        go_upto_region 14 with (go_at_call 14; refine (num_any _ _).mono ?_; rintro e w' ⟨rfl, rfl⟩)
        generalize (wr.setCell ⟨w.heap.size + 1, k, none⟩ (.int .i64 0)) = W1 at hB0 ⊢
        clear cM fM hB
        obtain ⟨M1, hM1⟩ : ∃ M1, M1 = M.set k 0 := ⟨_, rfl⟩
        rw [← hM1] at hB0
        have Hm1 : Hid (M1[k]? = some 0) := by show _ = _; rw [hM1]; exact List.getElem?_set_self (by omega)
        have HM1 : Hid (M1 = M.set k 0) := hM1
        clear hM1
        obtain ⟨L1, hL1⟩ : ∃ L1, L1 = L := ⟨_, rfl⟩
        rw [← hL1] at hB0
        have HL1 : Hid (L1 = L) := hL1
        clear hL1
        have hB1 := hB0
        clear hB0
        go_wp2_with fail
        refine (newstk_bg 0 (Int.le_refl 0) hB1).mono ?_
        rintro e W2 ⟨rfl, hB2⟩
        clear hB1
        obtain ⟨L2, hL2⟩ : ∃ L2, L2 = L1 ++ [oStk 0] := ⟨_, rfl⟩
        rw [← hL2] at hB2
        have HL2 : Hid (L2 = L1 ++ [oStk 0]) := hL2
        clear hL2
        go_wp2_with fail
        refine (newque_bg 0 (Int.le_refl 0) hB2).mono ?_
        rintro e W3 ⟨rfl, hB3⟩
        clear hB2
        obtain ⟨L3, hL3⟩ : ∃ L3, L3 = L2 ++ [oQue 0] := ⟨_, rfl⟩
        rw [← hL3] at hB3
        have HL3 : Hid (L3 = L2 ++ [oQue 0]) := hL3
        clear hL3
        go_wp2_with fail
        refine (newtqu_bg 0 (Int.le_refl 0) hB3).mono ?_
        rintro e W4 ⟨rfl, hB4⟩
        clear hB3
        obtain ⟨L4, hL4⟩ : ∃ L4, L4 = L3 ++ [oTqu 0] := ⟨_, rfl⟩
        rw [← hL4] at hB4
        have HL4 : Hid (L4 = L3 ++ [oTqu 0]) := hL4
        clear hL4
        have hDj : ∀ j, j < 20 → ∃ p, D[j]? = some p := fun j hj => ⟨_, List.getElem?_eq_getElem (by omega)⟩
        obtain ⟨q0, e0⟩ := hDj k (by omega)
        obtain ⟨q1, e1⟩ := hDj (2 + k) (by omega)
        obtain ⟨q2, e2⟩ := hDj (4 + k) (by omega)
        have c0 := hB4.cellD _ _ e0
        have c1 := hB4.cellD _ _ e1
        have c2 := hB4.cellD _ _ e2
        have f0 := hB4.frozenD
        clear e0 e1 e2 hDj
        go_wp2_with (go_at_call 14; refine (num_any _ _).mono ?_; rintro e w' ⟨rfl, rfl⟩)
        have hB5 := ((hB4.setD k (plc w L1)).setD (2 + k) (plc w L2)).setD (4 + k) (plc w L3)
        generalize ((W4.setCell ⟨w.heap.size, k, none⟩ (.pointer (plc w L1))).setCell ⟨w.heap.size, 2 + k, none⟩ (.pointer (plc w L2))).setCell ⟨w.heap.size, 4 + k, none⟩ (.pointer (plc w L3)) = W5 at hB5 ⊢
        clear hB4 c0 c1 c2 f0
        obtain ⟨D5, hD5⟩ : ∃ D5, D5 = ((D.set k (plc w L1)).set (2 + k) (plc w L2)).set (4 + k) (plc w L3) := ⟨_, rfl⟩
        rw [← hD5] at hB5
        have HD5 : Hid (D5 = ((D.set k (plc w L1)).set (2 + k) (plc w L2)).set (4 + k) (plc w L3)) := hD5
        have hD5l : D5.length = 20 := by rw [hD5]; simpa using hD
        clear hD5
        go_cut [] from 125 to 130 (fun w' => Bg w w' (D5.set (6 + k) (plc w L4)) M1 (L4 ++ [oIta]))
        case first =>
          obtain ⟨q, eq⟩ : ∃ p, D5[6 + k]? = some p := ⟨_, List.getElem?_eq_getElem (by omega)⟩
          have hca := newita_bg hB5.drew
          go_region_with (go_at_call 15; refine hca.mono ?_; rintro e Wx ⟨rfl, hBx⟩; have cx := hBx.cellD _ _ eq; have fx := hBx.frozenD (6 + k))
          all_goals (go_wp2_with fail; go_meet; exact hBx.setD _ _)
        case rest =>
        obtain ⟨L5, hL5⟩ : ∃ Z, Z = L4 ++ [oIta] := ⟨_, rfl⟩
        obtain ⟨D6, hD6⟩ : ∃ Z, Z = D5.set (6 + k) (plc w L4) := ⟨_, rfl⟩
        rw [← hL5, ← hD6] at hcut
        have hD6l : D6.length = 20 := by rw [hD6]; simpa using hD5l
        have HL5 : Hid (L5 = L4 ++ [oIta]) := hL5
        have HD6 : Hid (D6 = D5.set (6 + k) (plc w L4)) := hD6
        clear hL5 hD6 hB5
        have hB6 := hcut
        clear hcut
        generalize wc = W6 at hB6 ⊢
        go_wp2_with fail
        go_cut [] from 131 to 136 (fun w' => Bg w w' (D6.set (8 + k) (plc w L5)) M1 (L5 ++ [oTta]))
        case first =>
          obtain ⟨q, eq⟩ : ∃ p, D6[8 + k]? = some p := ⟨_, List.getElem?_eq_getElem (by omega)⟩
          have hca := newtta_bg hB6.drew
          go_region_with (go_at_call 16; refine hca.mono ?_; rintro e Wx ⟨rfl, hBx⟩; have cx := hBx.cellD _ _ eq; have fx := hBx.frozenD (8 + k))
          all_goals (go_wp2_with fail; go_meet; exact hBx.setD _ _)
        case rest =>
        obtain ⟨L6, hL6⟩ : ∃ Z, Z = L5 ++ [oTta] := ⟨_, rfl⟩
        obtain ⟨D7, hD7⟩ : ∃ Z, Z = D6.set (8 + k) (plc w L5) := ⟨_, rfl⟩
        rw [← hL6, ← hD7] at hcut
        have hD7l : D7.length = 20 := by rw [hD7]; simpa using hD6l
        have HL6 : Hid (L6 = L5 ++ [oTta]) := hL6
        have HD7 : Hid (D7 = D6.set (8 + k) (plc w L5)) := hD7
        clear hL6 hD7 hB6
        have hB7 := hcut
        clear hcut
        generalize wc = W7 at hB7 ⊢
        have r6 : D7[6 + k]? = some (plc w L4) := by rw [HD7.out, HD6.out]; rw [List.getElem?_set_ne (by omega), List.getElem?_set_self (by omega)]
        have r8 : D7[8 + k]? = some (plc w L5) := by rw [HD7.out]; rw [List.getElem?_set_self (by omega)]
        have cw := hB7.cellD _ _ r6
        have cn := hB7.cellD _ _ r8
        clear r6 r8
        go_wp2_with fail
        clear cw cn
        go_cut [] from 165 to 176 (fun w' => Bg w w' (D7.set (10 + k) (plc w L6)) M1 (L6 ++ [oNum 0]))
        case first =>
          obtain ⟨q, eq⟩ : ∃ p, D7[10 + k]? = some p := ⟨_, List.getElem?_eq_getElem (by omega)⟩
          have hca := newnum_bg 0 (Int.le_refl 0) hB7.drew
          have cM := hB7.cellM k 0 Hm1.out
          go_region_with (go_at_call 10; refine hca.mono ?_; rintro e Wx ⟨rfl, hBx⟩; have cx := hBx.cellD _ _ eq; have fx := hBx.frozenD (10 + k))
          all_goals (go_wp2_with fail; go_meet; exact hBx.setD _ _)
        case rest =>
        obtain ⟨L7, hL7⟩ : ∃ Z, Z = L6 ++ [oNum 0] := ⟨_, rfl⟩
        obtain ⟨D8, hD8⟩ : ∃ Z, Z = D7.set (10 + k) (plc w L6) := ⟨_, rfl⟩
        rw [← hL7, ← hD8] at hcut
        have hD8l : D8.length = 20 := by rw [hD8]; simpa using hD7l
        have HL7 : Hid (L7 = L6 ++ [oNum 0]) := hL7
        have HD8 : Hid (D8 = D7.set (10 + k) (plc w L6)) := hD8
        clear hL7 hD8 hB7
        have hB8 := hcut
        clear hcut
        generalize wc = W8 at hB8 ⊢
        go_wp2_with fail
        go_cut [] from 177 to 188 (fun w' => Bg w w' (D8.set (12 + k) (plc w L7)) M1 (L7 ++ [oNum 0]))
        case first =>
          obtain ⟨q, eq⟩ : ∃ p, D8[12 + k]? = some p := ⟨_, List.getElem?_eq_getElem (by omega)⟩
          have hca := newnum_bg 0 (Int.le_refl 0) hB8.drew
          have cM := hB8.cellM k 0 Hm1.out
          go_region_with (go_at_call 10; refine hca.mono ?_; rintro e Wx ⟨rfl, hBx⟩; have cx := hBx.cellD _ _ eq; have fx := hBx.frozenD (12 + k))
          all_goals (go_wp2_with fail; go_meet; exact hBx.setD _ _)
        case rest =>
        obtain ⟨L8, hL8⟩ : ∃ Z, Z = L7 ++ [oNum 0] := ⟨_, rfl⟩
        obtain ⟨D9, hD9⟩ : ∃ Z, Z = D8.set (12 + k) (plc w L7) := ⟨_, rfl⟩
        rw [← hL8, ← hD9] at hcut
        have hD9l : D9.length = 20 := by rw [hD9]; simpa using hD8l
        have HL8 : Hid (L8 = L7 ++ [oNum 0]) := hL8
        have HD9 : Hid (D9 = D8.set (12 + k) (plc w L7)) := hD9
        clear hL8 hD9 hB8
        have hB9 := hcut
        clear hcut
        generalize wc = W9 at hB9 ⊢
        go_wp2_with fail
        go_cut [] from 189 to 200 (fun w' => Bg w w' (D9.set (14 + k) (plc w L8)) M1 (L8 ++ [oTxs 0]))
        case first =>
          obtain ⟨q, eq⟩ : ∃ p, D9[14 + k]? = some p := ⟨_, List.getElem?_eq_getElem (by omega)⟩
          have hca := newtxs_bg 0 (Int.le_refl 0) hB9.drew
          have cM := hB9.cellM k 0 Hm1.out
          go_region_with (go_at_call 17; refine hca.mono ?_; rintro e Wx ⟨rfl, hBx⟩; have cx := hBx.cellD _ _ eq; have fx := hBx.frozenD (14 + k))
          all_goals (go_wp2_with fail; go_meet; exact hBx.setD _ _)
        case rest =>
        obtain ⟨L9, hL9⟩ : ∃ Z, Z = L8 ++ [oTxs 0] := ⟨_, rfl⟩
        obtain ⟨D10, hD10⟩ : ∃ Z, Z = D9.set (14 + k) (plc w L8) := ⟨_, rfl⟩
        rw [← hL9, ← hD10] at hcut
        have hD10l : D10.length = 20 := by rw [hD10]; simpa using hD9l
        have HL9 : Hid (L9 = L8 ++ [oTxs 0]) := hL9
        have HD10 : Hid (D10 = D9.set (14 + k) (plc w L8)) := hD10
        clear hL9 hD10 hB9
        have hB10 := hcut
        clear hcut
        generalize wc = W10 at hB10 ⊢
        obtain ⟨q8, e8⟩ : ∃ p, D10[16 + k]? = some p := ⟨_, List.getElem?_eq_getElem (by omega)⟩
        obtain ⟨q9, e9⟩ : ∃ p, D10[18 + k]? = some p := ⟨_, List.getElem?_eq_getElem (by omega)⟩
        have c8 := hB10.cellD _ _ e8
        have f8 := hB10.frozenD
        have c9 := hB10.cellD _ _ e9
        have zd : w.heap.size < W10.heap.size := by rw [hB10.size]; omega
        have zd1 : w.heap.size < W10.heap.size + 1 := by omega
        have Hz : Hid (W10.heap.size = w.heap.size + 2 + L9.length) := hB10.size
        clear e8 e9
        have hB11 := (((hB10.setD (16 + k) (atP w L9.length)).setD (18 + k) (atP w (L9.length + 1))).alloc oWds).alloc oNmd
        have eD : (D10.set (16 + k) (atP w L9.length)).set (18 + k) (atP w (L9.length + 1)) = setTen w D k L1.length := by
          rw [HD10.out, HD9.out, HD8.out, HD7.out, HD6.out, HD5.out, HL9.out, HL8.out, HL7.out, HL6.out, HL5.out, HL4.out, HL3.out, HL2.out]
          simp [setTen, plc, atP]
        have eL : L9 ++ [oWds] ++ [oNmd] = L1 ++ ten 0 := by
          rw [HL9.out, HL8.out, HL7.out, HL6.out, HL5.out, HL4.out, HL3.out, HL2.out]
          simp
        rw [eD, eL] at hB11
        have hbeg : Beg w one two (k + 1) (setTen w D k L1.length) M1 (L1 ++ ten 0) := by
          have hs := beg_step (x := []) (m := 0) hlt HBeg.out (by rw [← Hm0.out]; omega) (M' := M1) (by rw [HM1.out]; simpa using hM) (fun j hj => by rw [HM1.out]; exact List.getElem?_set_ne (by omega))
          rw [List.append_nil] at hs
          rw [HL1.out]
          exact hs
        have eZ : W10.heap.size = w.heap.size + 2 + L9.length := Hz.out
        have HB : Hid (Bg w (((W10.setCell ⟨w.heap.size, 16 + k, none⟩ (.pointer (some ⟨W10.heap.size, 0, none⟩))).setCell ⟨w.heap.size, 18 + k, none⟩ (.pointer (some ⟨W10.heap.size + 1, 0, none⟩))).alloc (.cells #[.slice none 0 0, .slice none 0 0] 71) |>.alloc (.cells #[.slice none 0 0, .slice none 0 0] 74)) (setTen w D k L1.length) M1 (L1 ++ ten 0)) := by
          show Bg w _ _ _ _
          rw [eZ]
          exact hB11
        clear hB11 hB10 eD eL eZ
        go_wp2
        exact ⟨⟨k + 1, _, _, _, hlt, by go_num, hbeg, HB.out⟩, by simp [intOf]; omega⟩
    · obtain rfl : k = 2 := by omega
      go_wp2
      go_ret2
      exact ⟨rfl, D, M, L, hbg, hB⟩

end Go.Proofs.YtcjblafohfiiaabGreat
