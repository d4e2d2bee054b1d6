import Derived.Test.YtlkengnefhhppaaGreatDoorUY27
set_option linter.unusedVariables false
set_option maxHeartbeats 8000000
set_option maxRecDepth 20000
namespace Go.Proofs.YtlkengnefhhppaaGreatDoor
open Go.RowKit Go.Shelf
theorem unheld_full (c : Cfg) (v : Value) (P : List LT) (n0 : Nat) (w : World) (hn0 : n0 ≤ w.heap.size) (hv : Prd n0 w v P) (hl : P.length ≤ 1172812402961) :
  Calls Tryz.prog 16 #[pv c v] w fun e w' => ∃ a m, e = .returned (pv c (.slice a P.length m)) ∧ w'.ownsRow 0 41 11 (.slice a P.length m) P.length (lflat (P.map unh)) ∧ Below w.heap.size w w' ∧ ∀ y, (Value.slice a P.length m).ownBlock = some y → w.heap.size ≤ y := by
 obtain ⟨a0, cap0, rfl, hP⟩ := hv
 have HP : Hid (Prd n0 w (.slice a0 P.length cap0) P) := ⟨a0, cap0, rfl, hP⟩
 obtain ⟨i0, hi0, hz0, hz1, hz2⟩ := info_parts Tryz.infoThing
 have HI : Hid (Tryz.prog.info? 41 = some i0 ∧ i0.zero = some (.agg (lcells 0 0 0 0 0 0 0 false (.slice none 0 0) (.slice none 0 0) 0)) ∧ i0.size = 11 ∧ i0.bytes = 120) := ⟨hi0, hz0, hz1, hz2⟩
 clear hi0 hz0 hz1 hz2 hP
 go_enter Tryz.func16, Tryz.ntmps16
 go_upto_region 2 with fail
 obtain ⟨B, hB⟩ : ∃ B, B = w.heap.size := ⟨_, rfl⟩
 have p0 := ((Pd.new w c (.slice a0 P.length cap0)).below (Below.alloc (Below.refl _ _) (Nat.le_refl _) (.cells (pcells zcf (.slice none 0 0)) 26))).below (Below.alloc (Below.refl _ _) (Nat.le_refl _) (.cells (pcells c (.slice none 0 0)) 26))
 have p1 := (Pd.new (w.alloc (.cells (pcells c (.slice a0 P.length cap0)) 26)) zcf (.slice none 0 0)).below (Below.alloc (Below.refl _ _) (Nat.le_refl _) (.cells (pcells c (.slice none 0 0)) 26))
 have p2 := Pd.new ((w.alloc (.cells (pcells c (.slice a0 P.length cap0)) 26)).alloc (.cells (pcells zcf (.slice none 0 0)) 26)) c (.slice none 0 0)
 have l0 : Below w.heap.size w (((w.alloc (.cells (pcells c (.slice a0 P.length cap0)) 26)).alloc (.cells (pcells zcf (.slice none 0 0)) 26)).alloc (.cells (pcells c (.slice none 0 0)) 26)) := (((Below.refl _ w).alloc (Nat.le_refl _) _).alloc (by simp) _).alloc (by simp; omega) _
 simp only [World.size_alloc] at p1 p2
 obtain ⟨W0, hW0⟩ : ∃ W0, W0 = (((w.alloc (.cells (pcells c (.slice a0 P.length cap0)) 26)).alloc (.cells (pcells zcf (.slice none 0 0)) 26)).alloc (.cells (pcells c (.slice none 0 0)) 26)) := ⟨_, rfl⟩
 rw [← hW0] at p0 p1 p2 l0
 rw [← hB] at p0 p1 p2
 show Code.wp _ _ _ _ (((w.alloc (.cells (pcells c (.slice a0 P.length cap0)) 26)).alloc (.cells (pcells zcf (.slice none 0 0)) 26)).alloc (.cells (pcells c (.slice none 0 0)) 26))
 rw [← hW0, ← hB]
 have HP0 : Hid (Pd W0 B c (.slice a0 P.length cap0)) := p0
 have HP1 : Hid (Pd W0 (B + 1) zcf (.slice none 0 0)) := p1
 have HP2 : Hid (Pd W0 (B + 1 + 1) c (.slice none 0 0)) := p2
 have HL0 : Hid (Below w.heap.size w W0) := l0
 have HB : Hid (B = w.heap.size) := hB
 clear p0 p1 p2 l0 hW0 hB
 go_wp2
 go_loopw [4] (fun v4 wr => ∃ k : Nat, k ≤ P.length ∧ v4 = .int .i64 k ∧ ∃ qv, Hid (Pd wr B c (.slice a0 P.length cap0)) ∧ Hid (Pd wr (B + 1) zcf (.slice none 0 0)) ∧ Hid (Pd wr (B + 1 + 1) c qv) ∧ Hid (wr.ownsRow 0 41 11 qv k (lflat ((P.take k).map unh))) ∧ Hid (Below w.heap.size w wr) ∧ Hid (∀ y, qv.ownBlock = some y → w.heap.size ≤ y)) (fun v4 _ => P.length - (intOf v4).toNat)
 case atStart => exact ⟨0, Nat.zero_le _, rfl, _, HP0, HP1, HP2, World.ownsRow_nil _ _ _ _, HL0, (fun y hy => by simp [Value.ownBlock] at hy : ∀ y, (Value.slice none 0 0).ownBlock = some y → w.heap.size ≤ y)⟩
 case round =>
  obtain ⟨k, hk, rfl, qv, H0, H1, H2, Hrow, Hbe, Hfr⟩ := hrel
  clear HP0 HP1 HP2 HL0
  have e14 : wr.cell? ⟨B, 14, none⟩ = some (.slice a0 P.length cap0) := H0.out.cell 14
  by_cases hkl : k < P.length
  ·have ho : P[k]? = some (P[k]'hkl) := List.getElem?_eq_getElem hkl
   generalize P[k]'hkl = T at ho
   obtain ⟨a9, cap9, e9, hP⟩ := HP.out.below (Hbe.out.mono hn0)
   obtain ⟨hIn, ⟨p1, p3, hvp, -, -⟩, ⟨r1, r3, hvr, -, -⟩, q, off, e8, hq, cs⟩ := hP k T ho
   simp only [Value.slice.injEq] at e9
   obtain ⟨e91, -⟩ := e9
   rw [← e91] at e8
   subst e8
   have Htk : Hid (P.take (k + 1) = P.take k ++ [T]) := by show _ = _; rw [List.take_add_one, ho]; rfl
   have d0 : wr.cell? ⟨q, off + k * 11, none⟩ = some (.int .i64 T.sp) := cs 0 (by decide)
   have d1 : wr.cell? ⟨q, off + k * 11 + 1, none⟩ = some (.int .u64 T.s) := cs 1 (by decide)
   have d2 : wr.cell? ⟨q, off + k * 11 + 2, none⟩ = some (.int .i64 T.k) := cs 2 (by decide)
   have d3 : wr.cell? ⟨q, off + k * 11 + 3, none⟩ = some (.int .i64 T.p) := cs 3 (by decide)
   have d4 : wr.cell? ⟨q, off + k * 11 + 4, none⟩ = some (.int .i64 T.r) := cs 4 (by decide)
   have d5 : wr.cell? ⟨q, off + k * 11 + 5, none⟩ = some (.int .i64 T.a) := cs 5 (by decide)
   have d6 : wr.cell? ⟨q, off + k * 11 + 6, none⟩ = some (.int .i64 T.t) := cs 6 (by decide)
   have d7 : wr.cell? ⟨q, off + k * 11 + 7, none⟩ = some (.bool T.h) := cs 7 (by decide)
   have d8 : wr.cell? ⟨q, off + k * 11 + 8, none⟩ = some (.slice p1 T.ps.length p3) := by rw [← hvp]; exact cs 8 (by decide)
   have d9 : wr.cell? ⟨q, off + k * 11 + 9, none⟩ = some (.slice r1 T.rs.length r3) := by rw [← hvr]; exact cs 9 (by decide)
   have d10 : wr.cell? ⟨q, off + k * 11 + 10, none⟩ = some (.int .i64 T.fill) := cs 10 (by decide)
   have hcells : (unh T).cells = lcells T.sp T.s T.k T.p T.r T.a T.t false (.slice p1 T.ps.length p3) (.slice r1 T.rs.length r3) T.fill := by
    show lcells T.sp T.s T.k T.p T.r T.a T.t false T.vp T.vr T.fill = _
    rw [hvp, hvr]
   have Hcells : Hid ((unh T).cells = lcells T.sp T.s T.k T.p T.r T.a T.t false (.slice p1 T.ps.length p3) (.slice r1 T.rs.length r3) T.fill) := hcells
   have hkI : (k : Int) < (P.length : Int) := by omega
   clear cs ho hP hvp hvr hcells hIn e91
   go_upto_region 7 with fail
   clear d0 d1 d2 d3 d4 d5 d6 d7 d8 d9 d10
   have lv0 : Below wr.heap.size wr (wr.alloc (.cells (lcells T.sp T.s T.k T.p T.r T.a T.t false (.slice p1 T.ps.length p3) (.slice r1 T.rs.length r3) T.fill) 41)) := Below.alloc (Below.refl _ _) (Nat.le_refl _) _
   have hR : (wr.alloc (.cells (lcells T.sp T.s T.k T.p T.r T.a T.t false (.slice p1 T.ps.length p3) (.slice r1 T.rs.length r3) T.fill) 41)).heap[wr.heap.size]? = some (.cells (lcells T.sp T.s T.k T.p T.r T.a T.t false (.slice p1 T.ps.length p3) (.slice r1 T.rs.length r3) T.fill) 41 (0, 0)) := heap_alloc_new wr _
   have H0' : Hid (Pd (wr.alloc (.cells (lcells T.sp T.s T.k T.p T.r T.a T.t false (.slice p1 T.ps.length p3) (.slice r1 T.rs.length r3) T.fill) 41)) B c (.slice (some ⟨q, off, none⟩) P.length cap0)) := H0.out.below lv0
   have H1' : Hid (Pd (wr.alloc (.cells (lcells T.sp T.s T.k T.p T.r T.a T.t false (.slice p1 T.ps.length p3) (.slice r1 T.rs.length r3) T.fill) 41)) (B + 1) zcf (.slice none 0 0)) := H1.out.below lv0
   have H2' : Hid (Pd (wr.alloc (.cells (lcells T.sp T.s T.k T.p T.r T.a T.t false (.slice p1 T.ps.length p3) (.slice r1 T.rs.length r3) T.fill) 41)) (B + 1 + 1) c qv) := H2.out.below lv0
   have Hrow' : Hid ((wr.alloc (.cells (lcells T.sp T.s T.k T.p T.r T.a T.t false (.slice p1 T.ps.length p3) (.slice r1 T.rs.length r3) T.fill) 41)).ownsRow 0 41 11 qv k (lflat ((P.take k).map unh))) := row_keep Hrow.out (fun y hy => lv0.block y (row_lt Hrow.out y hy))
   have Hbe' : Hid (Below w.heap.size w (wr.alloc (.cells (lcells T.sp T.s T.k T.p T.r T.a T.t false (.slice p1 T.ps.length p3) (.slice r1 T.rs.length r3) T.fill) 41))) := Hbe.out.trans (lv0.mono Hbe.out.size)
   obtain ⟨v, hv⟩ : ∃ v, v = wr.alloc (.cells (lcells T.sp T.s T.k T.p T.r T.a T.t false (.slice p1 T.ps.length p3) (.slice r1 T.rs.length r3) T.fill) 41) := ⟨_, rfl⟩
   obtain ⟨R, hRR⟩ : ∃ R, R = wr.heap.size := ⟨_, rfl⟩
   rw [← hv] at hR H0' H1' H2' Hrow' Hbe' ⊢
   rw [← hRR] at hR ⊢
   clear hv hRR lv0 H0 H1 H2 Hrow Hbe e14
   have d0 : v.cell? ⟨R, 0, none⟩ = some (.int .i64 T.sp) := cell_of_row _ _ 0 _ _ _ hR
   have d1 : v.cell? ⟨R, 1, none⟩ = some (.int .u64 T.s) := cell_of_row _ _ 1 _ _ _ hR
   have d2 : v.cell? ⟨R, 2, none⟩ = some (.int .i64 T.k) := cell_of_row _ _ 2 _ _ _ hR
   have d3 : v.cell? ⟨R, 3, none⟩ = some (.int .i64 T.p) := cell_of_row _ _ 3 _ _ _ hR
   have d4 : v.cell? ⟨R, 4, none⟩ = some (.int .i64 T.r) := cell_of_row _ _ 4 _ _ _ hR
   have d5 : v.cell? ⟨R, 5, none⟩ = some (.int .i64 T.a) := cell_of_row _ _ 5 _ _ _ hR
   have d6 : v.cell? ⟨R, 6, none⟩ = some (.int .i64 T.t) := cell_of_row _ _ 6 _ _ _ hR
   have d7 : v.cell? ⟨R, 7, none⟩ = some (.bool false) := cell_of_row _ _ 7 _ _ _ hR
   have d8 : v.cell? ⟨R, 8, none⟩ = some (.slice p1 T.ps.length p3) := cell_of_row _ _ 8 _ _ _ hR
   have d9 : v.cell? ⟨R, 9, none⟩ = some (.slice r1 T.rs.length r3) := cell_of_row _ _ 9 _ _ _ hR
   have d10 : v.cell? ⟨R, 10, none⟩ = some (.int .i64 T.fill) := cell_of_row _ _ 10 _ _ _ hR
   obtain ⟨a6, n6, c6, rfl⟩ := row_slice Hrow'.out
   have e14 : v.cell? ⟨B + 1 + 1, 14, none⟩ = some (.slice a6 n6 c6) := H2'.out.cell 14
   clear hR
   go_wp2_with (at_builtin; refine wpList_append_own_at _ rfl _ _ 24 rfl 0 41 i0 (.agg (lcells 0 0 0 0 0 0 0 false (.slice none 0 0) (.slice none 0 0) 0)) 11 120 Tryz.underlying24 HI.out.1 HI.out.2.1 HI.out.2.2.1 HI.out.2.2.2 rfl (by decide) _ _ _ rfl (Hrow'.out.alloc _) ⟨v.heap.size, 0, none⟩ 1 1 (lcells T.sp T.s T.k T.p T.r T.a T.t false (.slice p1 T.ps.length p3) (.slice r1 T.rs.length r3) T.fill).toList rfl rfl (cells_new _ _ _) (by simp [Value.oneCell']) (by simp [maxLen]; omega) (by omega) (by omega) ?_; intro v' w3 hown' hgrow _ hat; have hs3 := grow_plan hgrow H2'.out Hrow'.out; have c14 := hs3.cell 14; have f14 := hs3.frozen 14; obtain ⟨a7, c7, rfl⟩ := own_sl hown')
   have g0 := grow_plan hgrow H0'.out Hrow'.out
   have g1 := grow_plan hgrow H1'.out Hrow'.out
   have nsb : ∀ b' c' u', Pd w3 b' c' u' → b' ≠ B + 1 + 1 → Pd (w3.setCell ⟨B + 1 + 1, 14, none⟩ (.slice a7 (k + 1) c7)) b' c' u' := fun b' c' u' h hne => ⟨(Below.heap_setCell _ _ _ _ hne).trans h.at_⟩
   have r0 := nsb _ _ _ g0 (by omega)
   have r1' := nsb _ _ _ g1 (by omega)
   have r2 := hs3.set (.slice a7 (k + 1) c7)
   have hrow3 : w3.ownsRow 0 41 11 (.slice a7 (k + 1) c7) (k + 1) (lflat ((P.take (k + 1)).map unh)) := by
    rw [Htk.out, List.map_append, List.map_cons, List.map_nil, lflat_snoc, Hcells.out]
    exact hown'
   have hne3 : ∀ y, (Value.slice a7 (k + 1) c7).ownBlock = some y → y ≠ B + 1 + 1 := fun y hy e => row_ne hs3.at_ hown' (by decide) (by rw [← e]; exact hy.symm)
   have hrow4 := row_keep hrow3 (w' := w3.setCell ⟨B + 1 + 1, 14, none⟩ (.slice a7 (k + 1) c7)) (fun y hy => Below.heap_setCell _ _ _ _ (hne3 y hy))
   have hbe3 : Below w.heap.size w w3 := (Hbe'.out.alloc Hbe'.out.size _).grown hgrow (by have := Hbe'.out.size; simp; omega) (fun y hy => Hfr.out y hy)
   have hbe4 : Below w.heap.size w (w3.setCell ⟨B + 1 + 1, 14, none⟩ (.slice a7 (k + 1) c7)) := Below.setCell (p := ⟨B + 1 + 1, 14, none⟩) hbe3 (by have := HB.out; simp only; omega) _
   have hfr4 : ∀ y, (Value.slice a7 (k + 1) c7).ownBlock = some y → w.heap.size ≤ y := fun y hy => by
    rcases hat with h | h
    ·exact Hfr.out y (h.symm.trans hy)
    ·rw [h] at hy
     have := Hbe'.out.size
     simp at hy
     omega
   go_roundw
   case rel => exact ⟨k + 1, by omega, by go_num, _, r0, r1', r2, hrow4, hbe4, hfr4⟩
   case measure => simp [intOf]; omega
  ·have hke : k = P.length := by omega
   have hkn : ¬ (k : Int) < (P.length : Int) := by omega
   obtain ⟨a6, n6, c6, hqv⟩ := row_slice Hrow.out
   obtain ⟨a5, c5, hqv5⟩ := own_sl Hrow.out
   subst hqv5
   have Hr : Hid (wr.ownsRow 0 41 11 (.slice a5 P.length c5) P.length (lflat (P.map unh))) := by
    have := Hrow.out
    rw [hke, List.take_length] at this
    exact this
   have H2b : Hid (Pd wr (B + 1 + 1) c (.slice a5 P.length c5)) := by
    have := H2.out
    rw [hke] at this
    exact this
   have o1 := H1.out
   have o2 := H2b.out
   clear H2 Hrow hqv
   rw [hke] at *
   go_upto_region 8 with fail
   go_wp2_with (first | (refine wpList_load_row rfl 26 _ rfl (B + 1 + 1) rfl 26 _ (0, 0) _ o2.at_ Tryz.underlying26 rfl pinfo ?_) | (refine wpList_store_row rfl 26 _ _ rfl (B + 1) (pcells c (.slice a5 P.length c5)) rfl rfl 26 (pcells zcf (.slice none 0 0)) o1.at_ pinfo rfl (by kernel_rfl) ?_))
   have o3 : Pd (wr.setRow (B + 1) (pcells c (.slice a5 P.length c5))) (B + 1) c (.slice a5 P.length c5) := ⟨setRow_heap _ _ _ _ _ _ o1.at_⟩
   have b4 : Below w.heap.size w (wr.setRow (B + 1) (pcells c (.slice a5 P.length c5))) := below_setRow Hbe.out (by have := HB.out; omega) _
   have hr4 : (wr.setRow (B + 1) (pcells c (.slice a5 P.length c5))).ownsRow 0 41 11 (.slice a5 P.length c5) P.length (lflat (P.map unh)) := row_keep Hr.out (fun y hy => setRow_other _ _ _ _ (fun e => row_ne o1.at_ Hr.out (by decide) (by rw [← e]; exact hy.symm)))
   refine bodyPost_ret (results_cell1 Tryz.results16 rfl o3.load) rfl ?_
   exact ⟨a5, c5, rfl, hr4, b4, fun y hy => Hfr.out y hy⟩
section
variable {w w' : World} {v : Value} {P Q : List LT} {k : Nat}
end
end Go.Proofs.YtlkengnefhhppaaGreatDoor
