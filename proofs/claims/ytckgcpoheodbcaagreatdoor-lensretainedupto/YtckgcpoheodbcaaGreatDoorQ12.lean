import Derived.Test.YtckgcpoheodbcaaGreatDoorQ11
set_option linter.unusedVariables false
set_option maxHeartbeats 8000000
set_option maxRecDepth 20000
namespace Go.Proofs.YtckgcpoheodbcaaGreatDoor
open Go.RowKit Go.Shelf
def RS.tot (S : RS) : Nat := S.E1.length + (S.E2.length + (S.E5.length + (S.E6.length + S.E7.length)))
def RPost (n1 R : Nat) (N : Nat → Nat) (S : RS) (X : List Nat) (w w' : World) (d : Nat) (G : World → (Nat → Nat) → List Nat → Prop) : Prop :=
 ∃ N' S', G w' N' (X ++ S'.F R) ∧ Bd w' n1 R N' S' X ∧ Stp w w' (X ++ S.F R) (X ++ S'.F R) N N' ∧ Kg.Touch (S.F R) w w' ∧ S'.tot = S.tot + d
structure Got (w : World) (N : Nat → Nat) (F : List Nat) (lo b : Nat) (k : IntKind) (v : Value) (xs : List Int) : Prop where
 is : v = .slice (some ⟨b, 0, none⟩) xs.length (xs.length + 40)
 lo : lo ≤ b
 lt : b < w.heap.size
 f : b ∉ F
 n : N b = xs.length
 c : ∀ (f : Nat) z, xs[f]? = some z → w.cell? ⟨b, f, none⟩ = some (.int k z)
 fr : ∀ f, w.frozen? ⟨b, f, none⟩ = false
theorem Got.stp {w w' : World} {N N' : Nat → Nat} {F F' : List Nat} {lo b : Nat} {k : IntKind} {v : Value} {xs : List Int} (h : Got w N F lo b k v xs) (s : Stp w w' F F' N N') : Got w' N' F' lo b k v xs :=
 ⟨h.is, h.lo, s.lt h.lt, s.out h.lt h.f, by rw [s.n b h.lt h.f]; exact h.n, fun f z hz => by rw [s.cell h.lt h.f]; exact h.c f z hz, fun f => by rw [s.frozen h.lt h.f]; exact h.fr f⟩
def mkt (k : Nat) : List Int := (List.range k).map mrk
theorem mkt_len (k : Nat) : (mkt k).length = k := by simp [mkt]
theorem mkt_two (m : Nat) : mkt (2 * m + 2) = mkt (2 * m) ++ [-7701, -7702] := by
 unfold mkt
 rw [show 2 * m + 2 = (2 * m + 1) + 1 by omega, List.range_succ, List.range_succ]
 simp [mrk]
theorem mkt_at (k j : Nat) (h : j < k) : (mkt k)[j]? = some (mrk j) := by
 unfold mkt
 rw [List.getElem?_map, List.getElem?_range h]
 rfl
def mku (k : Nat) : List Int := (List.range k).map mru
theorem mku_len (k : Nat) : (mku k).length = k := by simp [mku]
theorem mku_two (m : Nat) : mku (2 * m + 2) = mku (2 * m) ++ [7701, 7702] := by
 unfold mku
 rw [show 2 * m + 2 = (2 * m + 1) + 1 by omega, List.range_succ, List.range_succ]
 simp [mru]
theorem mku_at (k j : Nat) (h : j < k) : (mku k)[j]? = some (mru j) := by
 unfold mku
 rw [List.getElem?_map, List.getElem?_range h]
 rfl
theorem cell_two_new (w : World) (x y : Value) (t : TypeId) : ∀ j u, [x, y][j]? = some u → (w.alloc (.cells #[x, y] t)).cell? ((⟨w.heap.size, 0, none⟩ : Addr).add j) = some u := by
 intro j u hu
 have e := cell_of_row _ _ j _ _ _ (heap_alloc_new w (.cells #[x, y] t (0, 0)))
 rw [Addr.add_lit, Nat.zero_add, e]
 match j, hu with
 | 0, h => simpa using h
 | 1, h => simpa using h
theorem info_roomInts : (Tryz.prog.info? 3).map (fun i => (i.zero, i.size, i.bytes)) = some (some (.int .i64 0), 1, 8) := by kernel_rfl
theorem infoS_roomInts : (Tryz.prog.info? 24).map (fun i => (i.zero, i.size, i.bytes)) = some (some (.slice none 0 0), 1, 24) := by kernel_rfl
theorem roomInts_any {w : World} {n1 R : Nat} {N : Nat → Nat} {S : RS} {X : List Nat} (h : Bd w n1 R N S X) (n0 : Nat) (hn : n0 ≤ w.heap.size) (v : Value) (l : List Int) (hv : Lrd n0 w v .i64 l) (hl : l.length ≤ 1073741824) (hT : S.tot ≤ 1000000000) (hn1 : n1 ≤ w.heap.size) :
  Calls Tryz.prog 16 #[.pointer (some ⟨R, 0, none⟩), v] w fun e w' => ∃ u, e = .returned u ∧ RPost n1 R N S X w w' 1 (fun w' N' F' => ∃ b, Got w' N' F' n1 b .i64 u l) := by
 obtain ⟨i0, hi0, hj0, hj1, hj2⟩ := info_parts info_roomInts
 have HI : Hid (Tryz.prog.info? 3 = some i0 ∧ i0.zero = some (.int .i64 0) ∧ i0.size = 1 ∧ i0.bytes = 8) := ⟨hi0, hj0, hj1, hj2⟩
 have HBd : Hid (Bd w n1 R N S X) := h
 have HT : Hid (S.tot ≤ 1000000000) := hT
 obtain ⟨av, cp, rfl, hcp, hc⟩ := hv
 have Hc : Hid (∀ (f : Nat) z, l[f]? = some z → ∃ q off, av = some ⟨q, off, none⟩ ∧ q < n0 ∧ w.cell? ⟨q, off + f, none⟩ = some (.int .i64 z)) := hc
 clear hi0 hj0 hj1 hj2 hc h hT
 go_enter Tryz.func16, Tryz.ntmps16
 go_upto_region 2 with fail
 have Hr0 : Hid ((w.alloc (.cells #[] 3)).ownsRow w.heap.size 3 1 (.slice (some ⟨w.heap.size, 0, none⟩) 0 0) (l.take 0).length ((l.take 0).map (Value.int .i64))) := ⟨by simp, .inr ⟨_, 0, #[], rfl, Nat.le_refl _, heap_alloc_new w _, by simp, by simp [maxLen], by simp, by simp⟩⟩
 have Hb0 : Hid (Below w.heap.size w (w.alloc (.cells #[] 3))) := Below.alloc (Below.refl _ _) (Nat.le_refl _) _
 obtain ⟨v0, hv0⟩ : ∃ v0, v0 = Value.slice (some ⟨w.heap.size, 0, none⟩) 0 0 := ⟨_, rfl⟩
 rw [← hv0] at Hr0 ⊢
 clear hv0
 generalize w.alloc (.cells #[] 3) = w0 at *
 go_wp2
 go_loopw [5, 6] (fun v5 v6 wr => ∃ k : Nat, k ≤ l.length ∧ v6 = .int .i64 k ∧ Hid (wr.ownsRow w.heap.size 3 1 v5 (l.take k).length ((l.take k).map (Value.int .i64))) ∧ Hid (Below w.heap.size w wr)) (fun _ v6 _ => l.length - (intOf v6).toNat)
 case atStart => exact ⟨0, Nat.zero_le _, rfl, Hr0, Hb0⟩
 case round =>
  obtain ⟨k, hk, rfl, Hl, Hb⟩ := hrel
  clear Hr0 Hb0
  obtain ⟨al, cl, hvl⟩ := own_slI Hl.out
  subst hvl
  by_cases hkl : k < l.length
  ·have hkI : (k : Int) < (l.length : Int) := by omega
   have hak : l[k]? = some (l[k]'hkl) := List.getElem?_eq_getElem hkl
   generalize l[k]'hkl = a at hak
   have Htk : Hid (l.take (k + 1) = l.take k ++ [a]) := take_snocL hak
   obtain ⟨q, off, rfl, hq, ca⟩ := Hc.out k a hak
   have ca' : wr.cell? ⟨q, off + k, none⟩ = some (.int .i64 a) := (Hb.out.cell (p := ⟨q, off + k, none⟩) (Nat.lt_of_lt_of_le hq hn)).trans ca
   have Hdl : Hid ((l.take k).length ≤ 1073741824) := by
    have h3 := List.length_take_le k l
    show _ ≤ _
    omega
   clear ca hak
   go_wp2_with (at_builtin; refine wpList_append_own_at _ rfl _ _ 24 rfl w.heap.size 3 i0 (.int .i64 0) 1 8 Tryz.underlying24 HI.out.1 HI.out.2.1 HI.out.2.2.1 HI.out.2.2.2 rfl (by decide) _ _ _ rfl (Hl.out.alloc _) ⟨wr.heap.size, 0, none⟩ 1 1 [.int .i64 a] rfl rfl (cell_one_new _ _ _) (by simp [Value.oneCell']) (by have := Hdl.out; simp [maxLen]; omega) (by have := Hdl.out; omega) (by have := Hb.out.size; simp; omega) ?_; intro v' w8 hown' hgrow _ hat)
   have t8 : Kg.Touch (Value.slice al (l.take k).length cl).ownBlock.toList wr w8 := ⟨hgrow.os, hgrow.tape, hgrow.output, by have := hgrow.size; simp at this; omega, fun k hk hn => (hgrow.block k (by simp; omega) (fun e => hn (by rw [Option.mem_toList]; exact e.symm))).trans (Below.heap_alloc _ _ _ hk)⟩
   have Hl8 : Hid (w8.ownsRow w.heap.size 3 1 v' (l.take (k + 1)).length ((l.take (k + 1)).map (Value.int .i64))) := by
    show w8.ownsRow _ _ _ _ _ _
    rw [Htk.out]
    simpa using hown'
   have Hb8 : Hid (Below w.heap.size w w8) := Hb.out.trans (t8.below Hb.out.size (fun y hy => by rw [Option.mem_toList] at hy; exact (Hl.out.lt y hy).1))
   obtain ⟨a9, c9, hv9⟩ := own_slI Hl8.out
   subst hv9
   clear hown' hgrow hat t8 Hl Hb ca'
   go_roundw
   case rel => exact ⟨k + 1, by omega, by go_num, Hl8, Hb8⟩
   case measure => simp [intOf]; omega
  ·have hke : k = l.length := by omega
   have hkn : ¬ (k : Int) < (l.length : Int) := by omega
   have Hl0 : Hid (wr.ownsRow w.heap.size 3 1 (.slice al k cl) (l ++ mkt (2 * 0)).length ((l ++ mkt (2 * 0)).map (Value.int .i64))) := by
    have := Hl.out
    have e : l ++ mkt (2 * 0) = l := by simp [mkt]
    rw [e]
    rw [hke, List.take_length] at this
    rw [hke]
    exact this
   have Hb0 : Hid (Below w.heap.size w wr) := Hb.out
   clear Hl Hb hke
   go_wp2
   go_loopw [5, 7] (fun v5 v7 w3 => ∃ m : Nat, m ≤ 20 ∧ v7 = .int .i64 (2 * (m : Int)) ∧ Hid (w3.ownsRow w.heap.size 3 1 v5 (l ++ mkt (2 * m)).length ((l ++ mkt (2 * m)).map (Value.int .i64))) ∧ Hid (Below w.heap.size w w3)) (fun _ v7 _ => 40 - (intOf v7).toNat)
   case atStart => exact ⟨0, Nat.zero_le _, rfl, Hl0, Hb0⟩
   case round =>
    obtain ⟨m, hm, rfl, Hl, Hb⟩ := hrel
    clear Hl0 Hb0
    obtain ⟨al2, cl2, hvl⟩ := own_slI Hl.out
    subst hvl
    have Hdl : Hid ((l ++ mkt (2 * m)).length ≤ 1073741824 + 40) := by
     show _ ≤ _
     rw [List.length_append, mkt_len]
     omega
    by_cases hml : m < 20
    ·have hmI : 2 * (m : Int) < 40 := by omega
     obtain ⟨M, hM⟩ : ∃ M, M = (l ++ mkt (2 * m)).length := ⟨_, rfl⟩
     rw [← hM] at Hl Hdl ⊢
     have HM : Hid (M = (l ++ mkt (2 * m)).length) := hM
     clear hM
     go_wp2_with (at_builtin; refine wpList_append_own_at _ rfl _ _ 24 rfl w.heap.size 3 i0 (.int .i64 0) 1 8 Tryz.underlying24 HI.out.1 HI.out.2.1 HI.out.2.2.1 HI.out.2.2.2 rfl (by decide) _ _ _ rfl (Hl.out.alloc _) ⟨wr.heap.size, 0, none⟩ 2 2 [.int .i64 (-7701), .int .i64 (-7702)] rfl rfl (cell_two_new _ _ _ _) (by simp [Value.oneCell']) (by have := Hdl.out; simp [maxLen]; omega) (by have := Hdl.out; omega) (by have := Hb.out.size; simp; omega) ?_; intro v' w8 hown' hgrow _ hat)
     have t8 : Kg.Touch (Value.slice al2 M cl2).ownBlock.toList wr w8 := ⟨hgrow.os, hgrow.tape, hgrow.output, by have := hgrow.size; simp at this; omega, fun k hk hn => (hgrow.block k (by simp; omega) (fun e => hn (by rw [Option.mem_toList]; exact e.symm))).trans (Below.heap_alloc _ _ _ hk)⟩
     have Hl8 : Hid (w8.ownsRow w.heap.size 3 1 v' (l ++ mkt (2 * (m + 1))).length ((l ++ mkt (2 * (m + 1))).map (Value.int .i64))) := by
      show w8.ownsRow _ _ _ _ _ _
      have e1 : l ++ mkt (2 * (m + 1)) = (l ++ mkt (2 * m)) ++ [(-7701), (-7702)] := by rw [show 2 * (m + 1) = 2 * m + 2 by omega, mkt_two, List.append_assoc]
      have e2 : (l ++ mkt (2 * (m + 1))).length = M + 2 := by rw [e1, List.length_append, HM.out]; rfl
      rw [e2, e1, List.map_append]
      exact hown'
     have Hb8 : Hid (Below w.heap.size w w8) := Hb.out.trans (t8.below Hb.out.size (fun y hy => by rw [Option.mem_toList] at hy; exact (Hl.out.lt y hy).1))
     exact ⟨⟨m + 1, by omega, by congr 1, Hl8, Hb8⟩, by simp [intOf]; omega⟩
    ·have hme : m = 20 := by omega
     have hmI : ¬ 2 * (m : Int) < 40 := by omega
     obtain ⟨M, hM⟩ : ∃ M, M = (l ++ mkt (2 * m)).length := ⟨_, rfl⟩
     have HM : Hid (M = l.length + 40 ∧ l.length ≤ 1073741824) := by
      show _ ∧ _
      rw [hM, hme, List.length_append, mkt_len]
      omega
     have Hrow : Hid (wr.ownsRow w.heap.size 3 1 (.slice al2 M cl2) M ((l ++ mkt 40).map (Value.int .i64))) := by
      have := Hl.out
      rw [← hM, hme] at this
      exact this
     rw [← hM] at Hdl ⊢
     clear hM Hl
     obtain ⟨Y, c3, hY⟩ := Kg.ownsRow_some Hrow.out (by have := HM.out; omega)
     rw [hY] at Hrow ⊢
     obtain ⟨i1, hi1, hk0, hk1, hk2⟩ := info_parts infoS_roomInts
     have HJ : Hid (Tryz.prog.info? 24 = some i1 ∧ i1.zero = some (.slice none 0 0) ∧ i1.size = 1 ∧ i1.bytes = 24) := ⟨hi1, hk0, hk1, hk2⟩
     have hYl : Y < wr.heap.size := (Hrow.out.lt Y rfl).2
     have hYg : w.heap.size ≤ Y := (Hrow.out.lt Y rfl).1
     have hcap : M ≤ c3 := own_cap Hrow.out
     have hL := HBd.out.laid (N' := upN N Y l.length) Hb.out (fun k hk => by unfold upN; rw [if_neg (by omega)]) (fun k hk => by unfold upN; rw [if_neg (by omega)]; exact HBd.out.d k (Nat.le_trans Hb.out.size hk))
     have Hcel : Hid (∀ (j : Nat) z, (l ++ mkt 40)[j]? = some z → wr.cell? ⟨Y, j, none⟩ = some (.int .i64 z)) := fun j z hz => by
      have h9 := Hrow.out.cells (g := Y) rfl j (.int .i64 z) (by rw [List.getElem?_map, hz]; rfl)
      rw [Addr.add_lit, Nat.zero_add] at h9
      exact h9
     have HYfr : Hid (∀ f, wr.frozen? ⟨Y, f, none⟩ = false) := fun f => by
      obtain ⟨cur, h9⟩ := own_blk Hrow.out (k := Y) rfl
      exact Kg.heap_frozen h9 f
     have he : Mk1 wr (upN N Y l.length) (X ++ S.F R) (.slice (some ⟨Y, 0, none⟩) M c3) := by
      have hNY : upN N Y l.length Y = l.length := by unfold upN; rw [if_pos rfl]
      refine ⟨Y, c3, by rw [hNY, HM.out.1], fun hm => by have := HBd.out.ltX Y hm; omega, hYl, by rw [hNY]; omega, fun j hj => ?_⟩
      rw [hNY]
      exact Hcel.out (l.length + j) _ (by rw [List.getElem?_append_right (by omega), Nat.add_sub_cancel_left]; exact mkt_at 40 j hj)
     have bB : Below wr.heap.size wr (wr.alloc (.cells #[.slice (some ⟨Y, 0, none⟩) M c3] 24)) := Below.alloc (Below.refl _ _) (Nat.le_refl _) _
     have hB := hL.1.below bB
     have HeB : Hid (Mk1 (wr.alloc (.cells #[.slice (some ⟨Y, 0, none⟩) M c3] 24)) (upN N Y l.length) (X ++ S.F R) (.slice (some ⟨Y, 0, none⟩) M c3)) := he.stp (Stp.below bB)
     have HBB : Hid (Bd (wr.alloc (.cells #[.slice (some ⟨Y, 0, none⟩) M c3] 24)) n1 R (upN N Y l.length) S X) := hB
     have HS1 : Hid (Stp w (wr.alloc (.cells #[.slice (some ⟨Y, 0, none⟩) M c3] 24)) (X ++ S.F R) (X ++ S.F R) N (upN N Y l.length) ∧ Kg.Touch (S.F R) w (wr.alloc (.cells #[.slice (some ⟨Y, 0, none⟩) M c3] 24))) := ⟨hL.2.trans (Stp.below bB), (Kg.Touch.of_below Hb.out _).trans (Kg.Touch.of_below bB _)⟩
     have r1 : wr.cell? ⟨R, 1, none⟩ = some S.v1 := Kg.heap_cell hL.1.r 1
     obtain ⟨ag, cg, eg⟩ := own_slI hL.1.o1
     have hRn : ∀ k, S.v1.ownBlock = some k → k ≠ R := fun k hk e => by
      obtain ⟨c, h3⟩ := own_blk hB.o1 hk
      rw [e, hB.r] at h3
      cases h3
     have Hown : Hid ((wr.alloc (.cells #[.slice (some ⟨Y, 0, none⟩) M c3] 24)).ownsRow n1 24 1 (.slice ag S.E1.length cg) S.E1.length S.E1) := by rw [← eg]; exact hB.o1
     have HRn : Hid (∀ k, S.v1.ownBlock = some k → k ≠ R) := hRn
     have Hel : Hid (S.E1.length ≤ 1000000000) := Nat.le_trans (by unfold RS.tot; omega) HT.out
     have Heg : Hid (S.v1 = .slice ag S.E1.length cg) := eg
     have Hbs : Hid (w.heap.size ≤ wr.heap.size) := Hb.out.size
     rw [eg] at r1
     clear hi1 hk0 hk1 hk2 hY hme hL he bB hB eg hRn Hb
     go_upto_region 11 with (at_builtin; refine wpList_append_own_at _ rfl _ _ 30 rfl n1 24 i1 (.slice none 0 0) 1 24 Tryz.underlying30 HJ.out.1 HJ.out.2.1 HJ.out.2.2.1 HJ.out.2.2.2 rfl (by decide) _ _ _ rfl Hown.out ⟨wr.heap.size, 0, none⟩ 1 1 [.slice (some ⟨Y, 0, none⟩) M c3] rfl rfl (cell_one_new _ _ _) (by simp [Value.oneCell']) (by have := Hel.out; simp [maxLen]; omega) (by have := Hel.out; omega) (by have := Hbs.out; simp; omega) ?_; intro v' w8 hown' hgrow _ hat; obtain ⟨Z, cz, hZ⟩ := Kg.ownsRow_some hown' (Nat.succ_pos _); subst hZ; have Hat : Hid ((Value.slice (some ⟨Z, 0, none⟩) (S.E1.length + 1) cz).ownBlock = S.v1.ownBlock ∨ (Value.slice (some ⟨Z, 0, none⟩) (S.E1.length + 1) cz).ownBlock = some (wr.alloc (.cells #[.slice (some ⟨Y, 0, none⟩) M c3] 24)).heap.size) := (by rw [Heg.out]; exact hat); clear hat; have hblk : w8.heap[R]? = some (.cells (rmc S.v1 S.v2 S.v5 S.v6 S.v7) 37 (0, 0)) := (hgrow.block R (Kg.heap_lt HBB.out.r) (fun e => HRn.out R (by rw [Heg.out]; exact e.symm) rfl)).trans HBB.out.r; have r8 : w8.cell? ⟨R, 1, none⟩ = some S.v1 := Kg.heap_cell hblk 1; have f8 : w8.frozen? ⟨R, 1, none⟩ = false := Kg.heap_frozen hblk 1; clear hblk)
     have t8 : Kg.Touch S.v1.ownBlock.toList (wr.alloc (.cells #[.slice (some ⟨Y, 0, none⟩) M c3] 24)) w8 := Kg.Touch.grown hgrow (fun y hy => by rw [Option.mem_toList, Heg.out]; exact hy)
     have hP := HBB.out.put1 HeB.out hown' t8 Hat.out
     have HP : Hid (Bd (w8.setCell ⟨R, 1, none⟩ (.slice (some ⟨Z, 0, none⟩) (S.E1.length + 1) cz)) n1 R (upN N Y l.length) (S.put1 (.slice (some ⟨Z, 0, none⟩) (S.E1.length + 1) cz) (.slice (some ⟨Y, 0, none⟩) M c3)) X ∧ Stp w (w8.setCell ⟨R, 1, none⟩ (.slice (some ⟨Z, 0, none⟩) (S.E1.length + 1) cz)) (X ++ S.F R) (X ++ (S.put1 (.slice (some ⟨Z, 0, none⟩) (S.E1.length + 1) cz) (.slice (some ⟨Y, 0, none⟩) M c3)).F R) N (upN N Y l.length) ∧ Kg.Touch (S.F R) w (w8.setCell ⟨R, 1, none⟩ (.slice (some ⟨Z, 0, none⟩) (S.E1.length + 1) cz))) := ⟨hP.1, HS1.out.1.trans hP.2.1, HS1.out.2.trans hP.2.2.t⟩
     have HG : Hid (Got (w8.setCell ⟨R, 1, none⟩ (.slice (some ⟨Z, 0, none⟩) (S.E1.length + 1) cz)) (upN N Y l.length) (X ++ (S.put1 (.slice (some ⟨Z, 0, none⟩) (S.E1.length + 1) cz) (.slice (some ⟨Y, 0, none⟩) M c3)).F R) n1 Y .i64 (.slice (some ⟨Y, 0, none⟩) l.length (l.length + 40)) l) := by
      have s2 := (Stp.below (F := X ++ S.F R) (N := upN N Y l.length) (Below.alloc (Below.refl _ _) (Nat.le_refl _) _ : Below wr.heap.size wr (wr.alloc (.cells #[.slice (some ⟨Y, 0, none⟩) M c3] 24)))).trans hP.2.1
      have hYF : Y ∉ X ++ S.F R := fun hm => by have := HBd.out.ltX Y hm; omega
      refine ⟨rfl, Nat.le_trans hn1 hYg, s2.lt hYl, s2.out hYl hYF, by unfold upN; rw [if_pos rfl], fun f z hz => ?_, fun f => by rw [s2.frozen hYl hYF]; exact HYfr.out f⟩
      rw [s2.cell hYl hYF]
      exact Hcel.out f z (by rw [List.getElem?_append_left (List.getElem?_eq_some_iff.1 hz).1]; exact hz)
     have hl2 := HM.out.1
     clear hown' hgrow Hat t8 r8 f8 Hrow r1 HJ Hdl hYg hP HBB HeB HS1 Hown HRn Hel Heg Hcel
     generalize w8.setCell ⟨R, 1, none⟩ (.slice (some ⟨Z, 0, none⟩) (S.E1.length + 1) cz) = w9 at *
     subst hl2
     go_wp2
     go_ret
     exact ⟨_, rfl, _, _, ⟨_, HG.out⟩, HP.out.1, HP.out.2.1, HP.out.2.2, by simp only [RS.tot, RS.put1, List.length_append, List.length_singleton]; omega⟩
theorem info_roomWords : (Tryz.prog.info? 25).map (fun i => (i.zero, i.size, i.bytes)) = some (some (.int .u64 0), 1, 8) := by kernel_rfl
theorem infoS_roomWords : (Tryz.prog.info? 59).map (fun i => (i.zero, i.size, i.bytes)) = some (some (.slice none 0 0), 1, 24) := by kernel_rfl
theorem roomWords_any {w : World} {n1 R : Nat} {N : Nat → Nat} {S : RS} {X : List Nat} (h : Bd w n1 R N S X) (n0 : Nat) (hn : n0 ≤ w.heap.size) (v : Value) (l : List Int) (hv : Lrd n0 w v .u64 l) (hl : l.length ≤ 1073741824) (hT : S.tot ≤ 1000000000) (hn1 : n1 ≤ w.heap.size) :
  Calls Tryz.prog 36 #[.pointer (some ⟨R, 0, none⟩), v] w fun e w' => ∃ u, e = .returned u ∧ RPost n1 R N S X w w' 1 (fun w' N' F' => ∃ b, Got w' N' F' n1 b .u64 u l) := by
 obtain ⟨i0, hi0, hj0, hj1, hj2⟩ := info_parts info_roomWords
 have HI : Hid (Tryz.prog.info? 25 = some i0 ∧ i0.zero = some (.int .u64 0) ∧ i0.size = 1 ∧ i0.bytes = 8) := ⟨hi0, hj0, hj1, hj2⟩
 have HBd : Hid (Bd w n1 R N S X) := h
 have HT : Hid (S.tot ≤ 1000000000) := hT
 obtain ⟨av, cp, rfl, hcp, hc⟩ := hv
 have Hc : Hid (∀ (f : Nat) z, l[f]? = some z → ∃ q off, av = some ⟨q, off, none⟩ ∧ q < n0 ∧ w.cell? ⟨q, off + f, none⟩ = some (.int .u64 z)) := hc
 clear hi0 hj0 hj1 hj2 hc h hT
 go_enter Tryz.func36, Tryz.ntmps36
 go_upto_region 2 with fail
 have Hr0 : Hid ((w.alloc (.cells #[] 25)).ownsRow w.heap.size 25 1 (.slice (some ⟨w.heap.size, 0, none⟩) 0 0) (l.take 0).length ((l.take 0).map (Value.int .u64))) := ⟨by simp, .inr ⟨_, 0, #[], rfl, Nat.le_refl _, heap_alloc_new w _, by simp, by simp [maxLen], by simp, by simp⟩⟩
 have Hb0 : Hid (Below w.heap.size w (w.alloc (.cells #[] 25))) := Below.alloc (Below.refl _ _) (Nat.le_refl _) _
 obtain ⟨v0, hv0⟩ : ∃ v0, v0 = Value.slice (some ⟨w.heap.size, 0, none⟩) 0 0 := ⟨_, rfl⟩
 rw [← hv0] at Hr0 ⊢
 clear hv0
 generalize w.alloc (.cells #[] 25) = w0 at *
 go_wp2
 go_loopw [5, 6] (fun v5 v6 wr => ∃ k : Nat, k ≤ l.length ∧ v6 = .int .i64 k ∧ Hid (wr.ownsRow w.heap.size 25 1 v5 (l.take k).length ((l.take k).map (Value.int .u64))) ∧ Hid (Below w.heap.size w wr)) (fun _ v6 _ => l.length - (intOf v6).toNat)
 case atStart => exact ⟨0, Nat.zero_le _, rfl, Hr0, Hb0⟩
 case round =>
  obtain ⟨k, hk, rfl, Hl, Hb⟩ := hrel
  clear Hr0 Hb0
  obtain ⟨al, cl, hvl⟩ := own_slI Hl.out
  subst hvl
  by_cases hkl : k < l.length
  ·have hkI : (k : Int) < (l.length : Int) := by omega
   have hak : l[k]? = some (l[k]'hkl) := List.getElem?_eq_getElem hkl
   generalize l[k]'hkl = a at hak
   have Htk : Hid (l.take (k + 1) = l.take k ++ [a]) := take_snocL hak
   obtain ⟨q, off, rfl, hq, ca⟩ := Hc.out k a hak
   have ca' : wr.cell? ⟨q, off + k, none⟩ = some (.int .u64 a) := (Hb.out.cell (p := ⟨q, off + k, none⟩) (Nat.lt_of_lt_of_le hq hn)).trans ca
   have Hdl : Hid ((l.take k).length ≤ 1073741824) := by
    have h3 := List.length_take_le k l
    show _ ≤ _
    omega
   clear ca hak
   go_wp2_with (at_builtin; refine wpList_append_own_at _ rfl _ _ 59 rfl w.heap.size 25 i0 (.int .u64 0) 1 8 Tryz.underlying59 HI.out.1 HI.out.2.1 HI.out.2.2.1 HI.out.2.2.2 rfl (by decide) _ _ _ rfl (Hl.out.alloc _) ⟨wr.heap.size, 0, none⟩ 1 1 [.int .u64 a] rfl rfl (cell_one_new _ _ _) (by simp [Value.oneCell']) (by have := Hdl.out; simp [maxLen]; omega) (by have := Hdl.out; omega) (by have := Hb.out.size; simp; omega) ?_; intro v' w8 hown' hgrow _ hat)
   have t8 : Kg.Touch (Value.slice al (l.take k).length cl).ownBlock.toList wr w8 := ⟨hgrow.os, hgrow.tape, hgrow.output, by have := hgrow.size; simp at this; omega, fun k hk hn => (hgrow.block k (by simp; omega) (fun e => hn (by rw [Option.mem_toList]; exact e.symm))).trans (Below.heap_alloc _ _ _ hk)⟩
   have Hl8 : Hid (w8.ownsRow w.heap.size 25 1 v' (l.take (k + 1)).length ((l.take (k + 1)).map (Value.int .u64))) := by
    show w8.ownsRow _ _ _ _ _ _
    rw [Htk.out]
    simpa using hown'
   have Hb8 : Hid (Below w.heap.size w w8) := Hb.out.trans (t8.below Hb.out.size (fun y hy => by rw [Option.mem_toList] at hy; exact (Hl.out.lt y hy).1))
   obtain ⟨a9, c9, hv9⟩ := own_slI Hl8.out
   subst hv9
   clear hown' hgrow hat t8 Hl Hb ca'
   go_roundw
   case rel => exact ⟨k + 1, by omega, by go_num, Hl8, Hb8⟩
   case measure => simp [intOf]; omega
  ·have hke : k = l.length := by omega
   have hkn : ¬ (k : Int) < (l.length : Int) := by omega
   have Hl0 : Hid (wr.ownsRow w.heap.size 25 1 (.slice al k cl) (l ++ mku (2 * 0)).length ((l ++ mku (2 * 0)).map (Value.int .u64))) := by
    have := Hl.out
    have e : l ++ mku (2 * 0) = l := by simp [mku]
    rw [e]
    rw [hke, List.take_length] at this
    rw [hke]
    exact this
   have Hb0 : Hid (Below w.heap.size w wr) := Hb.out
   clear Hl Hb hke
   go_wp2
   go_loopw [5, 7] (fun v5 v7 w3 => ∃ m : Nat, m ≤ 20 ∧ v7 = .int .i64 (2 * (m : Int)) ∧ Hid (w3.ownsRow w.heap.size 25 1 v5 (l ++ mku (2 * m)).length ((l ++ mku (2 * m)).map (Value.int .u64))) ∧ Hid (Below w.heap.size w w3)) (fun _ v7 _ => 40 - (intOf v7).toNat)
   case atStart => exact ⟨0, Nat.zero_le _, rfl, Hl0, Hb0⟩
   case round =>
    obtain ⟨m, hm, rfl, Hl, Hb⟩ := hrel
    clear Hl0 Hb0
    obtain ⟨al2, cl2, hvl⟩ := own_slI Hl.out
    subst hvl
    have Hdl : Hid ((l ++ mku (2 * m)).length ≤ 1073741824 + 40) := by
     show _ ≤ _
     rw [List.length_append, mku_len]
     omega
    by_cases hml : m < 20
    ·have hmI : 2 * (m : Int) < 40 := by omega
     obtain ⟨M, hM⟩ : ∃ M, M = (l ++ mku (2 * m)).length := ⟨_, rfl⟩
     rw [← hM] at Hl Hdl ⊢
     have HM : Hid (M = (l ++ mku (2 * m)).length) := hM
     clear hM
     go_wp2_with (at_builtin; refine wpList_append_own_at _ rfl _ _ 59 rfl w.heap.size 25 i0 (.int .u64 0) 1 8 Tryz.underlying59 HI.out.1 HI.out.2.1 HI.out.2.2.1 HI.out.2.2.2 rfl (by decide) _ _ _ rfl (Hl.out.alloc _) ⟨wr.heap.size, 0, none⟩ 2 2 [.int .u64 7701, .int .u64 7702] rfl rfl (cell_two_new _ _ _ _) (by simp [Value.oneCell']) (by have := Hdl.out; simp [maxLen]; omega) (by have := Hdl.out; omega) (by have := Hb.out.size; simp; omega) ?_; intro v' w8 hown' hgrow _ hat)
     have t8 : Kg.Touch (Value.slice al2 M cl2).ownBlock.toList wr w8 := ⟨hgrow.os, hgrow.tape, hgrow.output, by have := hgrow.size; simp at this; omega, fun k hk hn => (hgrow.block k (by simp; omega) (fun e => hn (by rw [Option.mem_toList]; exact e.symm))).trans (Below.heap_alloc _ _ _ hk)⟩
     have Hl8 : Hid (w8.ownsRow w.heap.size 25 1 v' (l ++ mku (2 * (m + 1))).length ((l ++ mku (2 * (m + 1))).map (Value.int .u64))) := by
      show w8.ownsRow _ _ _ _ _ _
      have e1 : l ++ mku (2 * (m + 1)) = (l ++ mku (2 * m)) ++ [7701, 7702] := by rw [show 2 * (m + 1) = 2 * m + 2 by omega, mku_two, List.append_assoc]
      have e2 : (l ++ mku (2 * (m + 1))).length = M + 2 := by rw [e1, List.length_append, HM.out]; rfl
      rw [e2, e1, List.map_append]
      exact hown'
     have Hb8 : Hid (Below w.heap.size w w8) := Hb.out.trans (t8.below Hb.out.size (fun y hy => by rw [Option.mem_toList] at hy; exact (Hl.out.lt y hy).1))
     exact ⟨⟨m + 1, by omega, by congr 1, Hl8, Hb8⟩, by simp [intOf]; omega⟩
    ·have hme : m = 20 := by omega
     have hmI : ¬ 2 * (m : Int) < 40 := by omega
     obtain ⟨M, hM⟩ : ∃ M, M = (l ++ mku (2 * m)).length := ⟨_, rfl⟩
     have HM : Hid (M = l.length + 40 ∧ l.length ≤ 1073741824) := by
      show _ ∧ _
      rw [hM, hme, List.length_append, mku_len]
      omega
     have Hrow : Hid (wr.ownsRow w.heap.size 25 1 (.slice al2 M cl2) M ((l ++ mku 40).map (Value.int .u64))) := by
      have := Hl.out
      rw [← hM, hme] at this
      exact this
     rw [← hM] at Hdl ⊢
     clear hM Hl
     obtain ⟨Y, c3, hY⟩ := Kg.ownsRow_some Hrow.out (by have := HM.out; omega)
     rw [hY] at Hrow ⊢
     obtain ⟨i1, hi1, hk0, hk1, hk2⟩ := info_parts infoS_roomWords
     have HJ : Hid (Tryz.prog.info? 59 = some i1 ∧ i1.zero = some (.slice none 0 0) ∧ i1.size = 1 ∧ i1.bytes = 24) := ⟨hi1, hk0, hk1, hk2⟩
     have hYl : Y < wr.heap.size := (Hrow.out.lt Y rfl).2
     have hYg : w.heap.size ≤ Y := (Hrow.out.lt Y rfl).1
     have hcap : M ≤ c3 := own_cap Hrow.out
     have hL := HBd.out.laid (N' := upN N Y l.length) Hb.out (fun k hk => by unfold upN; rw [if_neg (by omega)]) (fun k hk => by unfold upN; rw [if_neg (by omega)]; exact HBd.out.d k (Nat.le_trans Hb.out.size hk))
     have Hcel : Hid (∀ (j : Nat) z, (l ++ mku 40)[j]? = some z → wr.cell? ⟨Y, j, none⟩ = some (.int .u64 z)) := fun j z hz => by
      have h9 := Hrow.out.cells (g := Y) rfl j (.int .u64 z) (by rw [List.getElem?_map, hz]; rfl)
      rw [Addr.add_lit, Nat.zero_add] at h9
      exact h9
     have HYfr : Hid (∀ f, wr.frozen? ⟨Y, f, none⟩ = false) := fun f => by
      obtain ⟨cur, h9⟩ := own_blk Hrow.out (k := Y) rfl
      exact Kg.heap_frozen h9 f
     have he : Mk2 wr (upN N Y l.length) (X ++ S.F R) (.slice (some ⟨Y, 0, none⟩) M c3) := by
      have hNY : upN N Y l.length Y = l.length := by unfold upN; rw [if_pos rfl]
      refine ⟨Y, c3, by rw [hNY, HM.out.1], fun hm => by have := HBd.out.ltX Y hm; omega, hYl, by rw [hNY]; omega, fun j hj => ?_⟩
      rw [hNY]
      exact Hcel.out (l.length + j) _ (by rw [List.getElem?_append_right (by omega), Nat.add_sub_cancel_left]; exact mku_at 40 j hj)
     have bB : Below wr.heap.size wr (wr.alloc (.cells #[.slice (some ⟨Y, 0, none⟩) M c3] 59)) := Below.alloc (Below.refl _ _) (Nat.le_refl _) _
     have hB := hL.1.below bB
     have HeB : Hid (Mk2 (wr.alloc (.cells #[.slice (some ⟨Y, 0, none⟩) M c3] 59)) (upN N Y l.length) (X ++ S.F R) (.slice (some ⟨Y, 0, none⟩) M c3)) := he.stp (Stp.below bB)
     have HBB : Hid (Bd (wr.alloc (.cells #[.slice (some ⟨Y, 0, none⟩) M c3] 59)) n1 R (upN N Y l.length) S X) := hB
     have HS1 : Hid (Stp w (wr.alloc (.cells #[.slice (some ⟨Y, 0, none⟩) M c3] 59)) (X ++ S.F R) (X ++ S.F R) N (upN N Y l.length) ∧ Kg.Touch (S.F R) w (wr.alloc (.cells #[.slice (some ⟨Y, 0, none⟩) M c3] 59))) := ⟨hL.2.trans (Stp.below bB), (Kg.Touch.of_below Hb.out _).trans (Kg.Touch.of_below bB _)⟩
     have r1 : wr.cell? ⟨R, 2, none⟩ = some S.v2 := Kg.heap_cell hL.1.r 2
     obtain ⟨ag, cg, eg⟩ := own_slI hL.1.o2
     have hRn : ∀ k, S.v2.ownBlock = some k → k ≠ R := fun k hk e => by
      obtain ⟨c, h3⟩ := own_blk hB.o2 hk
      rw [e, hB.r] at h3
      cases h3
     have Hown : Hid ((wr.alloc (.cells #[.slice (some ⟨Y, 0, none⟩) M c3] 59)).ownsRow n1 59 1 (.slice ag S.E2.length cg) S.E2.length S.E2) := by rw [← eg]; exact hB.o2
     have HRn : Hid (∀ k, S.v2.ownBlock = some k → k ≠ R) := hRn
     have Hel : Hid (S.E2.length ≤ 1000000000) := Nat.le_trans (by unfold RS.tot; omega) HT.out
     have Heg : Hid (S.v2 = .slice ag S.E2.length cg) := eg
     have Hbs : Hid (w.heap.size ≤ wr.heap.size) := Hb.out.size
     rw [eg] at r1
     clear hi1 hk0 hk1 hk2 hY hme hL he bB hB eg hRn Hb
     go_upto_region 11 with (at_builtin; refine wpList_append_own_at _ rfl _ _ 31 rfl n1 59 i1 (.slice none 0 0) 1 24 Tryz.underlying31 HJ.out.1 HJ.out.2.1 HJ.out.2.2.1 HJ.out.2.2.2 rfl (by decide) _ _ _ rfl Hown.out ⟨wr.heap.size, 0, none⟩ 1 1 [.slice (some ⟨Y, 0, none⟩) M c3] rfl rfl (cell_one_new _ _ _) (by simp [Value.oneCell']) (by have := Hel.out; simp [maxLen]; omega) (by have := Hel.out; omega) (by have := Hbs.out; simp; omega) ?_; intro v' w8 hown' hgrow _ hat; obtain ⟨Z, cz, hZ⟩ := Kg.ownsRow_some hown' (Nat.succ_pos _); subst hZ; have Hat : Hid ((Value.slice (some ⟨Z, 0, none⟩) (S.E2.length + 1) cz).ownBlock = S.v2.ownBlock ∨ (Value.slice (some ⟨Z, 0, none⟩) (S.E2.length + 1) cz).ownBlock = some (wr.alloc (.cells #[.slice (some ⟨Y, 0, none⟩) M c3] 59)).heap.size) := (by rw [Heg.out]; exact hat); clear hat; have hblk : w8.heap[R]? = some (.cells (rmc S.v1 S.v2 S.v5 S.v6 S.v7) 37 (0, 0)) := (hgrow.block R (Kg.heap_lt HBB.out.r) (fun e => HRn.out R (by rw [Heg.out]; exact e.symm) rfl)).trans HBB.out.r; have r8 : w8.cell? ⟨R, 2, none⟩ = some S.v2 := Kg.heap_cell hblk 2; have f8 : w8.frozen? ⟨R, 2, none⟩ = false := Kg.heap_frozen hblk 2; clear hblk)
     have t8 : Kg.Touch S.v2.ownBlock.toList (wr.alloc (.cells #[.slice (some ⟨Y, 0, none⟩) M c3] 59)) w8 := Kg.Touch.grown hgrow (fun y hy => by rw [Option.mem_toList, Heg.out]; exact hy)
     have hP := HBB.out.put2 HeB.out hown' t8 Hat.out
     have HP : Hid (Bd (w8.setCell ⟨R, 2, none⟩ (.slice (some ⟨Z, 0, none⟩) (S.E2.length + 1) cz)) n1 R (upN N Y l.length) (S.put2 (.slice (some ⟨Z, 0, none⟩) (S.E2.length + 1) cz) (.slice (some ⟨Y, 0, none⟩) M c3)) X ∧ Stp w (w8.setCell ⟨R, 2, none⟩ (.slice (some ⟨Z, 0, none⟩) (S.E2.length + 1) cz)) (X ++ S.F R) (X ++ (S.put2 (.slice (some ⟨Z, 0, none⟩) (S.E2.length + 1) cz) (.slice (some ⟨Y, 0, none⟩) M c3)).F R) N (upN N Y l.length) ∧ Kg.Touch (S.F R) w (w8.setCell ⟨R, 2, none⟩ (.slice (some ⟨Z, 0, none⟩) (S.E2.length + 1) cz))) := ⟨hP.1, HS1.out.1.trans hP.2.1, HS1.out.2.trans hP.2.2.t⟩
     have HG : Hid (Got (w8.setCell ⟨R, 2, none⟩ (.slice (some ⟨Z, 0, none⟩) (S.E2.length + 1) cz)) (upN N Y l.length) (X ++ (S.put2 (.slice (some ⟨Z, 0, none⟩) (S.E2.length + 1) cz) (.slice (some ⟨Y, 0, none⟩) M c3)).F R) n1 Y .u64 (.slice (some ⟨Y, 0, none⟩) l.length (l.length + 40)) l) := by
      have s2 := (Stp.below (F := X ++ S.F R) (N := upN N Y l.length) (Below.alloc (Below.refl _ _) (Nat.le_refl _) _ : Below wr.heap.size wr (wr.alloc (.cells #[.slice (some ⟨Y, 0, none⟩) M c3] 59)))).trans hP.2.1
      have hYF : Y ∉ X ++ S.F R := fun hm => by have := HBd.out.ltX Y hm; omega
      refine ⟨rfl, Nat.le_trans hn1 hYg, s2.lt hYl, s2.out hYl hYF, by unfold upN; rw [if_pos rfl], fun f z hz => ?_, fun f => by rw [s2.frozen hYl hYF]; exact HYfr.out f⟩
      rw [s2.cell hYl hYF]
      exact Hcel.out f z (by rw [List.getElem?_append_left (List.getElem?_eq_some_iff.1 hz).1]; exact hz)
     have hl2 := HM.out.1
     clear hown' hgrow Hat t8 r8 f8 Hrow r1 HJ Hdl hYg hP HBB HeB HS1 Hown HRn Hel Heg Hcel
     generalize w8.setCell ⟨R, 2, none⟩ (.slice (some ⟨Z, 0, none⟩) (S.E2.length + 1) cz) = w9 at *
     subst hl2
     go_wp2
     go_ret
     exact ⟨_, rfl, _, _, ⟨_, HG.out⟩, HP.out.1, HP.out.2.1, HP.out.2.2, by simp only [RS.tot, RS.put2, List.length_append, List.length_singleton]; omega⟩
end Go.Proofs.YtckgcpoheodbcaaGreatDoor
