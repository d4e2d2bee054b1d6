import Derived.Test.YtlkengnefhhppaaGreatDoorPQd
import Derived.Maps.AppendAt
import Derived.Test.YtlkengnefhhppaaGreatDoorUYD7
set_option linter.unusedVariables false
set_option maxHeartbeats 8000000
set_option maxRecDepth 20000
namespace Go.Proofs.YtlkengnefhhppaaGreatDoor
open Go.RowKit Go.Shelf
theorem roomHB_nil {w : World} {R : Nat} (h : w.cell? ⟨R, 0, none⟩ = some (.slice none 0 0)) :
  Calls Tryz.prog 118 #[.pointer (some ⟨R, 0, none⟩)] w fun e w' => e = .returned (.bool true) ∧ Below w.heap.size w w' := by
 have hR := World.block_lt_of_cell? _ _ h
 simp only at hR
 go_enter Tryz.func118, Tryz.ntmps118
 go_wp2
 refine wp_loop_rounds 1 ?_
 rw [rounds_succ]
 go_wp2
 go_returns
 exact ⟨rfl, by go_grown⟩
theorem roomHW_nil {w : World} {R : Nat} (h : w.cell? ⟨R, 2, none⟩ = some (.slice none 0 0)) :
  Calls Tryz.prog 120 #[.pointer (some ⟨R, 0, none⟩)] w fun e w' => e = .returned (.bool true) ∧ Below w.heap.size w w' := by
 have hR := World.block_lt_of_cell? _ _ h
 simp only at hR
 go_enter Tryz.func120, Tryz.ntmps120
 go_wp2
 refine wp_loop_rounds 1 ?_
 rw [rounds_succ]
 go_wp2
 go_returns
 exact ⟨rfl, by go_grown⟩
theorem roomHT_nil {w : World} {R : Nat} (h : w.cell? ⟨R, 3, none⟩ = some (.slice none 0 0)) :
  Calls Tryz.prog 121 #[.pointer (some ⟨R, 0, none⟩)] w fun e w' => e = .returned (.bool true) ∧ Below w.heap.size w w' := by
 have hR := World.block_lt_of_cell? _ _ h
 simp only at hR
 go_enter Tryz.func121, Tryz.ntmps121
 go_wp2
 refine wp_loop_rounds 1 ?_
 rw [rounds_succ]
 go_wp2
 go_returns
 exact ⟨rfl, by go_grown⟩
theorem roomHO_nil {w : World} {R : Nat} (h : w.cell? ⟨R, 4, none⟩ = some (.slice none 0 0)) :
  Calls Tryz.prog 122 #[.pointer (some ⟨R, 0, none⟩)] w fun e w' => e = .returned (.bool true) ∧ Below w.heap.size w w' := by
 have hR := World.block_lt_of_cell? _ _ h
 simp only at hR
 go_enter Tryz.func122, Tryz.ntmps122
 go_wp2
 refine wp_loop_rounds 1 ?_
 rw [rounds_succ]
 go_wp2
 go_returns
 exact ⟨rfl, by go_grown⟩
theorem roomHL_nil {w : World} {R : Nat} (h : w.cell? ⟨R, 5, none⟩ = some (.slice none 0 0)) :
  Calls Tryz.prog 123 #[.pointer (some ⟨R, 0, none⟩)] w fun e w' => e = .returned (.bool true) ∧ Below w.heap.size w w' := by
 have hR := World.block_lt_of_cell? _ _ h
 simp only at hR
 have h1 := fun o => Lib.cell?_alloc_some o h
 have h2 := fun o p => Lib.cell?_alloc_some p (h1 o)
 have h3 := fun o p q => Lib.cell?_alloc_some q (h2 o p)
 have h4 := fun o p q r => Lib.cell?_alloc_some r (h3 o p q)
 have h5 := fun o p q r s => Lib.cell?_alloc_some s (h4 o p q r)
 go_enter Tryz.func123, Tryz.ntmps123
 go_wp2
 refine wp_loop_rounds 1 ?_
 rw [rounds_succ]
 go_wp2
 go_returns
 exact ⟨rfl, by go_grown⟩
theorem roomHF_nil {w : World} {R : Nat} (h : w.cell? ⟨R, 6, none⟩ = some (.slice none 0 0)) :
  Calls Tryz.prog 124 #[.pointer (some ⟨R, 0, none⟩)] w fun e w' => e = .returned (.bool true) ∧ Below w.heap.size w w' := by
 have hR := World.block_lt_of_cell? _ _ h
 simp only at hR
 have h1 := fun o => Lib.cell?_alloc_some o h
 have h2 := fun o p => Lib.cell?_alloc_some p (h1 o)
 have h3 := fun o p q => Lib.cell?_alloc_some q (h2 o p)
 have h4 := fun o p q r => Lib.cell?_alloc_some r (h3 o p q)
 have h5 := fun o p q r s => Lib.cell?_alloc_some s (h4 o p q r)
 go_enter Tryz.func124, Tryz.ntmps124
 go_wp2
 refine wp_loop_rounds 1 ?_
 rw [rounds_succ]
 go_wp2
 go_returns
 exact ⟨rfl, by go_grown⟩
theorem roomHJ_nil {w : World} {R : Nat} (h : w.cell? ⟨R, 7, none⟩ = some (.slice none 0 0)) :
  Calls Tryz.prog 125 #[.pointer (some ⟨R, 0, none⟩)] w fun e w' => e = .returned (.bool true) ∧ Below w.heap.size w w' := by
 have hR := World.block_lt_of_cell? _ _ h
 simp only at hR
 have h1 := fun o => Lib.cell?_alloc_some o h
 have h2 := fun o p => Lib.cell?_alloc_some p (h1 o)
 have h3 := fun o p q => Lib.cell?_alloc_some q (h2 o p)
 have h4 := fun o p q r => Lib.cell?_alloc_some r (h3 o p q)
 have h5 := fun o p q r s => Lib.cell?_alloc_some s (h4 o p q r)
 go_enter Tryz.func125, Tryz.ntmps125
 go_wp2
 refine wp_loop_rounds 1 ?_
 rw [rounds_succ]
 go_wp2
 go_returns
 exact ⟨rfl, by go_grown⟩
theorem infoInts6 : (Tryz.prog.info? 32).map (fun i => (i.zero, i.size, i.bytes)) = some (some (.slice none 0 0), 1, 24) := by kernel_rfl
def mkt (k : Nat) : List Int := (List.range k).map (fun j => if j % 2 = 0 then -7701 else -7702)
theorem mkt_len (k : Nat) : (mkt k).length = k := by simp [mkt]
theorem mkt_two (m : Nat) : mkt (2 * m + 2) = mkt (2 * m) ++ [-7701, -7702] := by
 unfold mkt
 rw [show 2 * m + 2 = (2 * m + 1) + 1 by omega, List.range_succ, List.range_succ]
 simp
theorem mkt_at (k j : Nat) (h : j < k) : (mkt k)[j]? = some (if j % 2 = 0 then -7701 else -7702) := by
 unfold mkt
 rw [List.getElem?_map, List.getElem?_range h]
 rfl
theorem cell_two_new (w : World) (x y : Value) (t : TypeId) : ∀ j u, [x, y][j]? = some u → (w.alloc (.cells #[x, y] t)).cell? ((⟨w.heap.size, 0, none⟩ : Addr).add j) = some u := by
 intro j u hu
 have e := cell_of_row _ _ j _ _ _ (heap_alloc_new w (.cells #[x, y] t (0, 0)))
 have hadd : (⟨w.heap.size, 0, none⟩ : Addr).add j = ⟨w.heap.size, j, none⟩ := by unfold Addr.add; split <;> simp_all
 rw [hadd, e]
 match j, hu with
 | 0, h => simpa using h
 | 1, h => simpa using h
abbrev rcells (lv : Value) : Array Value := #[.slice none 0 0, lv, .slice none 0 0, .slice none 0 0, .slice none 0 0, .slice none 0 0, .slice none 0 0, .slice none 0 0]
structure Rr (w : World) (R Z Y cap : Nat) (full : List Int) : Prop where
 own : ∃ cz, w.heap[R]? = some (.cells (rcells (.slice (some ⟨Z, 0, none⟩) 1 cz)) 114 (0, 0))
 one : w.cell? ⟨Z, 0, none⟩ = some (.slice (some ⟨Y, 0, none⟩) full.length cap)
 row : w.ownsRow 0 3 1 (.slice (some ⟨Y, 0, none⟩) full.length cap) full.length (ints full)
theorem Rr.at_ {w : World} {R Z Y cap : Nat} {full : List Int} (h : Rr w R Z Y cap full) {j : Nat} {z : Int} (hz : full[j]? = some z) : w.cell? ⟨Y, j, none⟩ = some (.int .i64 z) := by
 obtain ⟨a, cp, h1, -, h3⟩ := row_at h.row (by decide)
 simp at h1
 obtain ⟨y, h4, -, h5⟩ := h3 j (.int .i64 z) (by rw [List.getElem?_map, hz]; rfl)
 rw [← h1.1] at h4
 simp at h4
 subst h4
 exact h5
theorem Rr.touch {w w' : World} {R Z Y cap : Nat} {full : List Int} {F : List Nat} (h : Rr w R Z Y cap full) (t : Touch F w w') (hF : ∀ q, q ∈ [R, Z, Y] → q ∉ F) : Rr w' R Z Y cap full := by
 obtain ⟨cz, ho⟩ := h.own
 have hR := (Array.getElem?_eq_some_iff.1 ho).1
 have hZ := World.block_lt_of_cell? _ _ h.one
 refine ⟨⟨cz, (t.block R hR (hF R (by simp))).trans ho⟩, (World.cell?_of_block (w := w) (t.block Z hZ (hF Z (by simp)))).trans h.one, row_keep h.row (fun q hq => t.block q (row_lt h.row q hq) (hF q ?_))⟩
 simp [Value.ownBlock] at hq
 simp [hq]
theorem roomInts_any {w : World} {R : Nat} (hR : w.heap[R]? = some (.cells (rcells (.slice none 0 0)) 114 (0, 0))) (v : Value) (l : List Int) (hv : Lrd w.heap.size w v .i64 l) (hl : l.length ≤ 1073741824) :
  Calls Tryz.prog 60 #[.pointer (some ⟨R, 0, none⟩), v] w fun e w' => ∃ Z Y cap, e = .returned (.slice (some ⟨Y, 0, none⟩) l.length (l.length + 40)) ∧ Rr w' R Z Y cap (l ++ mkt 40) ∧ w.heap.size ≤ Z ∧ w.heap.size ≤ Y ∧ Z ≠ Y ∧ Touch [R] w w' := by
 obtain ⟨i0, hi0, hj0, hj1, hj2⟩ := info_parts Tryz.infoInt
 have HI : Hid (Tryz.prog.info? 3 = some i0 ∧ i0.zero = some (.int .i64 0) ∧ i0.size = 1 ∧ i0.bytes = 8) := ⟨hi0, hj0, hj1, hj2⟩
 obtain ⟨av, cp, rfl, hcp, hc⟩ := hv
 have Hc : Hid (∀ (f : Nat) z, l[f]? = some z → ∃ q off, av = some ⟨q, off, none⟩ ∧ q < w.heap.size ∧ w.cell? ⟨q, off + f, none⟩ = some (.int .i64 z)) := hc
 clear hi0 hj0 hj1 hj2 hc
 go_enter Tryz.func60, Tryz.ntmps60
 go_upto_region 2 with fail
 have Hr0 : Hid ((w.alloc (.cells #[] 3)).ownsRow w.heap.size 3 1 (.slice (some ⟨w.heap.size, 0, none⟩) 0 0) (l.take 0).length (ints (l.take 0))) := ⟨by simp, .inr ⟨_, 0, #[], rfl, Nat.le_refl _, heap_alloc_new w _, by simp, by simp [maxLen], by simp, by simp⟩⟩
 have Hb0 : Hid (Below w.heap.size w (w.alloc (.cells #[] 3))) := Below.alloc (Below.refl _ _) (Nat.le_refl _) _
 have HRr : Hid (w.heap[R]? = some (.cells (rcells (.slice none 0 0)) 114 (0, 0))) := hR
 have hRl : R < w.heap.size := (Array.getElem?_eq_some_iff.1 hR).1
 clear hR
 obtain ⟨v0, hv0⟩ : ∃ v0, v0 = Value.slice (some ⟨w.heap.size, 0, none⟩) 0 0 := ⟨_, rfl⟩
 rw [← hv0] at Hr0 ⊢
 clear hv0
 generalize w.alloc (.cells #[] 3) = w0 at *
 go_wp2
 go_loopw [5, 6] (fun v5 v6 wr => ∃ k : Nat, k ≤ l.length ∧ v6 = .int .i64 k ∧ Hid (wr.ownsRow w.heap.size 3 1 v5 (l.take k).length (ints (l.take k))) ∧ Hid (Below w.heap.size w wr)) (fun _ v6 _ => l.length - (intOf v6).toNat)
 case atStart => exact ⟨0, Nat.zero_le _, rfl, Hr0, Hb0⟩
 case round =>
  obtain ⟨k, hk, rfl, Hl, Hb⟩ := hrel
  clear Hr0 Hb0
  obtain ⟨al, cl, hvl⟩ := own_sl Hl.out
  subst hvl
  by_cases hkl : k < l.length
  ·have hkI : (k : Int) < (l.length : Int) := by omega
   have hak : l[k]? = some (l[k]'hkl) := List.getElem?_eq_getElem hkl
   generalize l[k]'hkl = a at hak
   have Htk : Hid (l.take (k + 1) = l.take k ++ [a]) := by
    show _ = _
    rw [List.take_add_one, hak]
    rfl
   obtain ⟨q, off, rfl, hq, ca⟩ := Hc.out k a hak
   have ca' : wr.cell? ⟨q, off + k, none⟩ = some (.int .i64 a) := (Hb.out.cell hq).trans ca
   have Hdl : Hid ((l.take k).length ≤ 1073741824) := by
    have h3 := List.length_take_le k l
    show _ ≤ _
    omega
   have Hsz : Hid (w.heap.size ≤ wr.heap.size) := Hb.out.size
   clear ca hak
   go_wp2_with (at_builtin; refine wpList_append_own_at _ rfl _ _ 32 rfl w.heap.size 3 i0 (.int .i64 0) 1 8 Tryz.underlying32 HI.out.1 HI.out.2.1 HI.out.2.2.1 HI.out.2.2.2 rfl (by decide) _ _ _ rfl (Hl.out.alloc _) ⟨wr.heap.size, 0, none⟩ 1 1 [.int .i64 a] rfl rfl (cell_one_new _ _ _) (by simp [Value.oneCell']) (by have := Hdl.out; simp [maxLen]; omega) (by have := Hdl.out; omega) (by have := Hsz.out; simp; omega) ?_; intro v' w8 hown' hgrow _ hat)
   have t8 : Touch (Value.slice al (l.take k).length cl).ownBlock.toList wr w8 := ⟨hgrow.os, hgrow.tape, hgrow.output, by have := hgrow.size; simp at this; omega, fun k hk hn => (hgrow.block k (by simp; omega) (fun e => hn (by rw [Option.mem_toList]; exact e.symm))).trans (Below.heap_alloc _ _ _ hk)⟩
   have Hl8 : Hid (w8.ownsRow w.heap.size 3 1 v' (l.take (k + 1)).length (ints (l.take (k + 1)))) := by
    show w8.ownsRow _ _ _ _ _ _
    rw [Htk.out]
    simpa [ints] using hown'
   have Hb8 : Hid (Below w.heap.size w w8) := Hb.out.trans (t8.below Hb.out.size (fun y hy => by rw [Option.mem_toList] at hy; exact row_ge Hl.out y hy))
   obtain ⟨a9, c9, hv9⟩ := own_sl Hl8.out
   subst hv9
   clear hown' hgrow hat t8 Hl Hb ca'
   go_roundw
   case rel => exact ⟨k + 1, by omega, by go_num, Hl8, Hb8⟩
   case measure => simp [intOf]; omega
  ·have hke : k = l.length := by omega
   have hkn : ¬ (k : Int) < (l.length : Int) := by omega
   have Hl0 : Hid (wr.ownsRow w.heap.size 3 1 (.slice al k cl) (l ++ mkt (2 * 0)).length (ints (l ++ mkt (2 * 0)))) := by
    have := Hl.out
    have e : l ++ mkt (2 * 0) = l := by simp [mkt]
    rw [e]
    rw [hke, List.take_length] at this
    rw [hke]
    exact this
   have Hb0 : Hid (Below w.heap.size w wr) := Hb.out
   clear Hl Hb hke
   go_wp2
   go_loopw [5, 7] (fun v5 v7 w3 => ∃ m : Nat, m ≤ 20 ∧ v7 = .int .i64 (2 * (m : Int)) ∧ Hid (w3.ownsRow w.heap.size 3 1 v5 (l ++ mkt (2 * m)).length (ints (l ++ mkt (2 * m)))) ∧ Hid (Below w.heap.size w w3)) (fun _ v7 _ => 40 - (intOf v7).toNat)
   case atStart => exact ⟨0, Nat.zero_le _, rfl, Hl0, Hb0⟩
   case round =>
    obtain ⟨m, hm, rfl, Hl, Hb⟩ := hrel
    clear Hl0 Hb0
    obtain ⟨al2, cl2, hvl⟩ := own_sl Hl.out
    subst hvl
    have Hdl : Hid ((l ++ mkt (2 * m)).length ≤ 1073741824 + 40) := by
     show _ ≤ _
     rw [List.length_append, mkt_len]
     omega
    by_cases hml : m < 20
    ·have hmI : 2 * (m : Int) < 40 := by omega
     have Hsz : Hid (w.heap.size ≤ wr.heap.size) := Hb.out.size
     obtain ⟨N, hN⟩ : ∃ N, N = (l ++ mkt (2 * m)).length := ⟨_, rfl⟩
     rw [← hN] at Hl Hdl ⊢
     have HN : Hid (N = (l ++ mkt (2 * m)).length) := hN
     clear hN
     go_wp2_with (at_builtin; refine wpList_append_own_at _ rfl _ _ 32 rfl w.heap.size 3 i0 (.int .i64 0) 1 8 Tryz.underlying32 HI.out.1 HI.out.2.1 HI.out.2.2.1 HI.out.2.2.2 rfl (by decide) _ _ _ rfl (Hl.out.alloc _) ⟨wr.heap.size, 0, none⟩ 2 2 [.int .i64 (-7701), .int .i64 (-7702)] rfl rfl (cell_two_new _ _ _ _) (by simp [Value.oneCell']) (by have := Hdl.out; simp [maxLen]; omega) (by have := Hdl.out; omega) (by have := Hsz.out; simp; omega) ?_; intro v' w8 hown' hgrow _ hat)
     have t8 : Touch (Value.slice al2 N cl2).ownBlock.toList wr w8 := ⟨hgrow.os, hgrow.tape, hgrow.output, by have := hgrow.size; simp at this; omega, fun k hk hn => (hgrow.block k (by simp; omega) (fun e => hn (by rw [Option.mem_toList]; exact e.symm))).trans (Below.heap_alloc _ _ _ hk)⟩
     have Hl8 : Hid (w8.ownsRow w.heap.size 3 1 v' (l ++ mkt (2 * (m + 1))).length (ints (l ++ mkt (2 * (m + 1))))) := by
      show w8.ownsRow _ _ _ _ _ _
      have e1 : l ++ mkt (2 * (m + 1)) = (l ++ mkt (2 * m)) ++ [-7701, -7702] := by rw [show 2 * (m + 1) = 2 * m + 2 by omega, mkt_two, List.append_assoc]
      have e2 : (l ++ mkt (2 * (m + 1))).length = N + 2 := by rw [e1, List.length_append, HN.out]; rfl
      rw [e2, e1]
      have e3 : ints ((l ++ mkt (2 * m)) ++ [-7701, -7702]) = ints (l ++ mkt (2 * m)) ++ [Value.int .i64 (-7701), Value.int .i64 (-7702)] := by simp [ints]
      rw [e3]
      exact hown'
     have Hb8 : Hid (Below w.heap.size w w8) := Hb.out.trans (t8.below Hb.out.size (fun y hy => by rw [Option.mem_toList] at hy; exact row_ge Hl.out y hy))
     exact ⟨⟨m + 1, by omega, by congr 1, Hl8, Hb8⟩, by simp [intOf]; omega⟩
    ·have hme : m = 20 := by omega
     have hmI : ¬ 2 * (m : Int) < 40 := by omega
     obtain ⟨N, hN⟩ : ∃ N, N = (l ++ mkt (2 * m)).length := ⟨_, rfl⟩
     have HN : Hid (N = l.length + 40 ∧ l.length ≤ 1073741824) := by
      show _ ∧ _
      rw [hN, hme, List.length_append, mkt_len]
      omega
     have Hrow : Hid (wr.ownsRow w.heap.size 3 1 (.slice al2 N cl2) N (ints (l ++ mkt 40))) := by
      have := Hl.out
      rw [← hN, hme] at this
      exact this
     rw [← hN] at Hdl ⊢
     clear hN Hl
     obtain ⟨Y, c3, hY⟩ := Kg.ownsRow_some Hrow.out (by have := HN.out; omega)
     rw [hY] at Hrow ⊢
     obtain ⟨i1, hi1, hk0, hk1, hk2⟩ := info_parts infoInts6
     have HJ : Hid (Tryz.prog.info? 32 = some i1 ∧ i1.zero = some (.slice none 0 0) ∧ i1.size = 1 ∧ i1.bytes = 24) := ⟨hi1, hk0, hk1, hk2⟩
     have HRw : Hid (wr.heap[R]? = some (.cells (rcells (.slice none 0 0)) 114 (0, 0))) := (Hb.out.block R hRl).trans HRr.out
     have r1 : wr.cell? ⟨R, 1, none⟩ = some (.slice none 0 0) := cell_of_row _ _ 1 _ _ _ HRw.out
     have hRw : R < wr.heap.size := Nat.lt_of_lt_of_le hRl Hb.out.size
     have hYl : Y < wr.heap.size := row_lt Hrow.out Y rfl
     have hcap : N ≤ c3 := by
      obtain ⟨a0, cp0, h1, h2, -⟩ := row_at (row_zero0 Hrow.out) (by decide)
      simp at h1
      omega
     clear hi1 hk0 hk1 hk2 hY hme
     go_upto_region 11 with (at_builtin; refine wpList_append_own_at _ rfl _ _ 62 rfl wr.heap.size 32 i1 (.slice none 0 0) 1 24 Tryz.underlying62 HJ.out.1 HJ.out.2.1 HJ.out.2.2.1 HJ.out.2.2.2 rfl (by decide) _ _ _ rfl (World.ownsRow_nil _ _ _ _) ⟨wr.heap.size, 0, none⟩ 1 1 [.slice (some ⟨Y, 0, none⟩) N c3] rfl rfl (cell_one_new _ _ _) (by simp [Value.oneCell']) (by simp [maxLen]) (by omega) (by simp) ?_; intro v' w8 hown' hgrow _ hat; obtain ⟨Z, cz, rfl⟩ := ownsRow_succ hown'; have hblk : w8.heap[R]? = some (.cells (rcells (.slice none 0 0)) 114 (0, 0)) := (hgrow.block R (by simp; omega) (by simp [Act.eval, Value.ownBlock])).trans ((Below.heap_alloc _ _ _ hRw).trans HRw.out); have r8 : w8.cell? ⟨R, 1, none⟩ = some (.slice none 0 0) := cell_of_row _ _ 1 _ _ _ hblk; have f8 : w8.frozen? ⟨R, 1, none⟩ = false := (by unfold World.frozen?; rw [hblk]; rfl); have Hblk : Hid (w8.heap[R]? = some (.cells (rcells (.slice none 0 0)) 114 (0, 0))) := hblk; clear hblk)
     have t8 : Touch [] wr w8 := ⟨hgrow.os, hgrow.tape, hgrow.output, by have := hgrow.size; simp at this; omega, fun k hk _ => (hgrow.block k (by simp; omega) (by simp [Act.eval, Value.ownBlock])).trans (Below.heap_alloc _ _ _ hk)⟩
     have hZg : wr.heap.size ≤ Z := row_ge hown' Z rfl
     have hYg : w.heap.size ≤ Y := row_ge Hrow.out Y rfl
     have t9 : Touch [R] w8 (w8.setCell ⟨R, 1, none⟩ (.slice (some ⟨Z, 0, none⟩) 1 cz)) := Touch.setCell _ _ _ (by simp)
     have hZ0 : w8.cell? ⟨Z, 0, none⟩ = some (.slice (some ⟨Y, 0, none⟩) N c3) := by
      obtain ⟨a0, cp0, h1, -, h3⟩ := row_at (row_zero0 hown') (by decide)
      simp at h1
      obtain ⟨y, h4, -, h5⟩ := h3 0 (.slice (some ⟨Y, 0, none⟩) N c3) rfl
      rw [← h1.1] at h4
      simp at h4
      subst h4
      exact h5
     have hZl : Z < w8.heap.size := World.block_lt_of_cell? _ _ hZ0
     have HF : Hid (Rr (w8.setCell ⟨R, 1, none⟩ (.slice (some ⟨Z, 0, none⟩) 1 cz)) R Z Y c3 (l ++ mkt 40) ∧ w.heap.size ≤ Z ∧ w.heap.size ≤ Y ∧ Z ≠ Y ∧ Touch [R] w (w8.setCell ⟨R, 1, none⟩ (.slice (some ⟨Z, 0, none⟩) 1 cz))) := by
      have e : (l ++ mkt 40).length = N := by rw [List.length_append, mkt_len, HN.out.1]
      have hs := Hb.out.size
      refine ⟨⟨⟨cz, ?_⟩, ?_, ?_⟩, by omega, hYg, by omega, ((Touch.of_below Hb.out [R]).trans (t8.wide (by simp))).trans t9⟩
      ·simp [World.setCell, Array.getElem?_modify, Hblk.out]
      ·rw [e]
       exact (World.cell?_of_block (w := w8) (t9.block Z hZl (by simp; omega))).trans hZ0
      ·rw [e]
       have h8 := row_keep Hrow.out (fun q hq => t8.block q (row_lt Hrow.out q hq) (by simp))
       refine row_zero0 (row_keep h8 (fun q hq => t9.block q (row_lt h8 q hq) ?_))
       simp [Value.ownBlock] at hq
       simp
       omega
     have hl2 := HN.out.1
     clear hown' hgrow hat t8 t9 hZ0 Hblk r8 f8 Hrow HRw HRr r1 HJ Hb Hdl hZg hYg hZl hRw hRl
     generalize w8.setCell ⟨R, 1, none⟩ (.slice (some ⟨Z, 0, none⟩) 1 cz) = w9 at *
     subst hl2
     go_wp2
     go_ret
     exact ⟨Z, Y, rfl, ⟨c3, HF.out.1⟩, HF.out.2⟩
theorem roomHI_any {w : World} {R Z Y cap n : Nat} {ls : List Int} (H : Rr w R Z Y cap (ls ++ mkt 40)) (hn : ls.length = n) (hl : n ≤ 1073741824) :
  Calls Tryz.prog 119 #[.pointer (some ⟨R, 0, none⟩)] w fun e w' => e = .returned (.bool true) ∧ Below w.heap.size w w' := by
 obtain ⟨cz, hR⟩ := H.own
 have hRl : R < w.heap.size := (Array.getElem?_eq_some_iff.1 hR).1
 have e : (ls ++ mkt 40).length = n + 40 := by rw [List.length_append, mkt_len, hn]
 have b1 : Below w.heap.size w (w.alloc (.cells #[.int .i64 (-7701), .int .i64 (-7702)] 3)) := Below.alloc (Below.refl _ _) (Nat.le_refl _) _
 have k1 : (w.alloc (.cells #[.int .i64 (-7701), .int .i64 (-7702)] 3)).cell? ⟨R, 1, none⟩ = some (.slice (some ⟨Z, 0, none⟩) 1 cz) := (b1.cell (p := ⟨R, 1, none⟩) hRl).trans (cell_of_row _ _ 1 _ _ _ hR)
 have kz : (w.alloc (.cells #[.int .i64 (-7701), .int .i64 (-7702)] 3)).cell? ⟨Z, 0, none⟩ = some (.slice (some ⟨Y, 0, none⟩) (n + 40) cap) := by
  rw [← e]
  exact (b1.cell (p := ⟨Z, 0, none⟩) (World.block_lt_of_cell? _ _ H.one)).trans H.one
 have HY : Hid (∀ k, k < 40 → (w.alloc (.cells #[.int .i64 (-7701), .int .i64 (-7702)] 3)).cell? ⟨Y, n + k, none⟩ = some (.int .i64 (if k % 2 = 0 then -7701 else -7702))) := fun k hk => by
  refine (b1.cell (p := ⟨Y, n + k, none⟩) (row_lt H.row Y rfl)).trans (H.at_ ?_)
  rw [List.getElem?_append_right (by omega), hn, show n + k - n = k by omega]
  exact mkt_at 40 k hk
 have m0 : (w.alloc (.cells #[.int .i64 (-7701), .int .i64 (-7702)] 3)).cell? ⟨w.heap.size, 0, none⟩ = some (.int .i64 (-7701)) := cell_of_row _ _ 0 _ _ _ (heap_alloc_new w _)
 have m1 : (w.alloc (.cells #[.int .i64 (-7701), .int .i64 (-7702)] 3)).cell? ⟨w.heap.size, 1, none⟩ = some (.int .i64 (-7702)) := cell_of_row _ _ 1 _ _ _ (heap_alloc_new w _)
 have Hb1 : Hid (Below w.heap.size w (w.alloc (.cells #[.int .i64 (-7701), .int .i64 (-7702)] 3))) := b1
 clear H hR e b1 hn
 go_enter Tryz.func119, Tryz.ntmps119
 go_upto_region 2 with fail
 generalize w.alloc (.cells #[.int .i64 (-7701), .int .i64 (-7702)] 3) = w1 at *
 obtain ⟨M, hM⟩ : ∃ M, M = w.heap.size := ⟨_, rfl⟩
 rw [← hM] at m0 m1 ⊢
 clear hM
 go_wp2
 go_loopw [4] (fun v4 wr => ∃ k : Nat, k ≤ 1 ∧ v4 = .int .i64 k ∧ wr = w1) (fun v4 _ => 1 - (intOf v4).toNat)
 case atStart => exact ⟨0, by omega, rfl, rfl⟩
 case round =>
  obtain ⟨k, hk, rfl, rfl⟩ := hrel
  by_cases hk0 : k < 1
  ·obtain rfl : k = 0 := by omega
   go_wp2
   obtain ⟨w1, hw1⟩ : ∃ w1, w1 = wr := ⟨_, rfl⟩
   subst hw1
   go_loopw [6] (fun v6 w3 => ∃ j : Nat, j ≤ 40 ∧ v6 = .int .i64 j ∧ w3 = w1) (fun v6 _ => 40 - (intOf v6).toNat)
   case atStart => exact ⟨0, by omega, rfl, rfl⟩
   case round =>
    obtain ⟨j, hj, rfl, rfl⟩ := hrel
    by_cases hj0 : j < 40
    ·have hjI : (j : Int) < 40 := by omega
     have hc := HY.out j hj0
     by_cases hpar : j % 2 = 0
     ·rw [if_pos hpar] at hc
      have hp2 : Int.tmod (j : Int) 2 = 0 := by rw [Int.tmod_eq_emod_of_nonneg (by omega)]; omega
      go_wp2
      exact ⟨⟨j + 1, by omega, by go_num, trivial⟩, by simp [intOf]; omega⟩
     ·rw [if_neg hpar] at hc
      have hp2 : Int.tmod (j : Int) 2 = 1 := by rw [Int.tmod_eq_emod_of_nonneg (by omega)]; omega
      go_wp2
      exact ⟨⟨j + 1, by omega, by go_num, trivial⟩, by simp [intOf]; omega⟩
    ·have hjI : ¬ (j : Int) < 40 := by omega
     go_wp2
     exact ⟨⟨1, by omega, rfl, trivial⟩, by simp [intOf]⟩
  ·have hk1 : ¬ (k : Int) < 1 := by omega
   go_wp2
   go_ret
   exact ⟨rfl, Hb1.out⟩
theorem roomHold_any {w : World} {R Z Y cap n : Nat} {ls : List Int} (H : Rr w R Z Y cap (ls ++ mkt 40)) (hn : ls.length = n) (hl : n ≤ 1073741824) :
  Calls Tryz.prog 63 #[.pointer (some ⟨R, 0, none⟩)] w fun e w' => e = .returned (.bool true) ∧ Below w.heap.size w w' := by
 obtain ⟨cz, hR⟩ := H.own
 have hRl : R < w.heap.size := (Array.getElem?_eq_some_iff.1 hR).1
 have HC : Hid (∀ w', Below w.heap.size w w' → ∀ j, j < 8 → j ≠ 1 → w'.cell? ⟨R, j, none⟩ = some (.slice none 0 0)) := fun w' l j hj h1 => by
  rw [l.cell (p := ⟨R, j, none⟩) hRl, cell_of_row _ _ j _ _ _ hR]
  match j, hj, h1 with
  | 0, _, _ | 2, _, _ | 3, _, _ | 4, _, _ | 5, _, _ | 6, _, _ | 7, _, _ => rfl
 have HI : Hid (∀ w', Below w.heap.size w w' → Calls Tryz.prog 119 #[.pointer (some ⟨R, 0, none⟩)] w' fun e w'' => e = .returned (.bool true) ∧ Below w'.heap.size w' w'') := fun w' l => roomHI_any (H.touch (Touch.of_below l []) (by simp)) hn hl
 clear H hR
 go_enter Tryz.func63, Tryz.ntmps63
 go_wp2_with fail
 refine (roomHB_nil (HC.out w (Below.refl _ _) 0 (by decide) (by decide))).mono ?_
 rintro e w1 ⟨rfl, l1⟩
 go_wp2_with fail
 refine (HI.out w1 l1).mono ?_
 rintro e w2 ⟨rfl, l2⟩
 have l2 := l1.trans (l2.mono l1.size)
 go_wp2_with fail
 refine (roomHW_nil (HC.out w2 l2 2 (by decide) (by decide))).mono ?_
 rintro e w3 ⟨rfl, l3⟩
 have l3 := l2.trans (l3.mono l2.size)
 go_wp2_with fail
 refine (roomHT_nil (HC.out w3 l3 3 (by decide) (by decide))).mono ?_
 rintro e w4 ⟨rfl, l4⟩
 have l4 := l3.trans (l4.mono l3.size)
 go_wp2_with fail
 refine (roomHO_nil (HC.out w4 l4 4 (by decide) (by decide))).mono ?_
 rintro e w5 ⟨rfl, l5⟩
 have l5 := l4.trans (l5.mono l4.size)
 go_wp2_with fail
 refine (roomHL_nil (HC.out w5 l5 5 (by decide) (by decide))).mono ?_
 rintro e w6 ⟨rfl, l6⟩
 have l6 := l5.trans (l6.mono l5.size)
 go_wp2_with fail
 refine (roomHF_nil (HC.out w6 l6 6 (by decide) (by decide))).mono ?_
 rintro e w7 ⟨rfl, l7⟩
 have l7 := l6.trans (l7.mono l6.size)
 go_wp2_with fail
 refine (roomHJ_nil (HC.out w7 l7 7 (by decide) (by decide))).mono ?_
 rintro e w8 ⟨rfl, l8⟩
 have l8 := l7.trans (l8.mono l7.size)
 go_wp2
 go_ret
 exact ⟨rfl, l8⟩
end Go.Proofs.YtlkengnefhhppaaGreatDoor
