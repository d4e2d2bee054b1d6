import Derived.Test.YtckgcpoheodbcaaGreatDoorQ40
import Derived.Deep.RegionHeld3
import Derived.Deep.CutRange
import Derived.Laws.CopyOwn
set_option linter.unusedVariables false
set_option maxHeartbeats 8000000
set_option maxRecDepth 20000
namespace Go.Proofs.YtckgcpoheodbcaaGreatDoor
open Go.RowKit Go.Shelf
theorem sameGraph17_eq (n0 : Nat) (w : World) (hn0 : n0 ≤ w.heap.size) (vo vs vh vr vq vo' vs' vh' vr' vq' : Value) (os os' : List OL) (ts ts' : List (Value × List (Value × List Int))) (g : Im.Gr) (hg : Grd n0 w vo vs vh vr vq os ts g) (hg' : Grd n0 w vo' vs' vh' vr' vq' os' ts' g) (hol : os.length ≤ 1000000000000) (hs : Sln ts) (h1 : g.hs.length ≤ 1000000000000) (h2 : g.rg.length ≤ 1000000000000) (h3 : g.qu.length ≤ 1000000000000) :
  Calls Tryz.prog 9 #[.agg (gcs vo vs vh vr vq g.next), .agg (gcs vo' vs' vh' vr' vq' g.next)] w fun e w' => e = .returned (.bool true) ∧ Below w.heap.size w w' := by
 have eo : os.length = os'.length := by
  have h9 := congrArg List.length (hg.eo.symm.trans hg'.eo)
  simpa using h9
 have et : ts.length = ts'.length := by
  have h9 := congrArg List.length (hg.es.symm.trans hg'.es)
  simpa using h9
 have HEO : Hid (os.map (·.o) = os'.map (·.o) ∧ ts.map (fun t => t.2.map (·.2)) = ts'.map (fun t => t.2.map (·.2))) := ⟨hg.eo.symm.trans hg'.eo, hg.es.symm.trans hg'.es⟩
 have HSR : Hid (∀ o, o ∈ g.obs → o.ps.length ≤ 4611686018427387904 ∧ o.rs.length ≤ 4611686018427387904) := fun o ho => ⟨(hg.sr o ho).2.2.2.1, (hg.sr o ho).2.2.2.2⟩
 have HGE : Hid (g.obs = os.map (·.o)) := hg.eo
 have HS : Hid (Sln ts) := hs
 have HG : Hid (∀ w', Below w.heap.size w w' → Grd n0 w' vo vs vh vr vq os ts g ∧ Grd n0 w' vo' vs' vh' vr' vq' os' ts' g) := fun w' b' => ⟨hg.below (b'.mono hn0), hg'.below (b'.mono hn0)⟩
 obtain ⟨aa, ac, rfl, -⟩ := hg.ob
 obtain ⟨ba, bc, rfl, -⟩ := hg.sl
 obtain ⟨ca, cc, rfl, -, -⟩ := hg.hs
 obtain ⟨da, dc, rfl, -, -⟩ := hg.rg
 obtain ⟨qa, qc, rfl, -, -⟩ := hg.qu
 obtain ⟨aa', ac', rfl, -⟩ := hg'.ob
 obtain ⟨ba', bc', rfl, -⟩ := hg'.sl
 obtain ⟨ca', cc', rfl, -, -⟩ := hg'.hs
 obtain ⟨da', dc', rfl, -, -⟩ := hg'.rg
 obtain ⟨qa', qc', rfl, -, -⟩ := hg'.qu
 clear hg hg' hs
 rw [← eo, ← et]
 rw [← eo, ← et] at HG
 have Heo : Hid (os.length = os'.length ∧ ts.length = ts'.length) := ⟨eo, et⟩
 clear eo et
 go_enter Tryz.func9, Tryz.ntmps9
 go_upto_region 1 with fail
 have l1 := Below.alloc (Below.refl w.heap.size w) (Nat.le_refl _) (.cells (gcs (.slice aa os.length ac) (.slice ba ts.length bc) (.slice ca g.hs.length cc) (.slice da g.rg.length dc) (.slice qa g.qu.length qc) g.next) 27)
 have x1 := heap_alloc_new w (.cells (gcs (.slice aa os.length ac) (.slice ba ts.length bc) (.slice ca g.hs.length cc) (.slice da g.rg.length dc) (.slice qa g.qu.length qc) g.next) 27 (0, 0))
 have s1 : (w.alloc (.cells (gcs (.slice aa os.length ac) (.slice ba ts.length bc) (.slice ca g.hs.length cc) (.slice da g.rg.length dc) (.slice qa g.qu.length qc) g.next) 27)).heap.size = w.heap.size + 1 := by simp
 have l2 := Below.alloc l1 l1.size (.cells (gcs (.slice aa' os.length ac') (.slice ba' ts.length bc') (.slice ca' g.hs.length cc') (.slice da' g.rg.length dc') (.slice qa' g.qu.length qc') g.next) 27)
 have x2 := heap_alloc_new (w.alloc (.cells (gcs (.slice aa os.length ac) (.slice ba ts.length bc) (.slice ca g.hs.length cc) (.slice da g.rg.length dc) (.slice qa g.qu.length qc) g.next) 27)) (.cells (gcs (.slice aa' os.length ac') (.slice ba' ts.length bc') (.slice ca' g.hs.length cc') (.slice da' g.rg.length dc') (.slice qa' g.qu.length qc') g.next) 27 (0, 0))
 have y1 := (Below.heap_alloc (w.alloc (.cells (gcs (.slice aa os.length ac) (.slice ba ts.length bc) (.slice ca g.hs.length cc) (.slice da g.rg.length dc) (.slice qa g.qu.length qc) g.next) 27)) (.cells (gcs (.slice aa' os.length ac') (.slice ba' ts.length bc') (.slice ca' g.hs.length cc') (.slice da' g.rg.length dc') (.slice qa' g.qu.length qc') g.next) 27 (0, 0)) _ (Kg.heap_lt x1)).trans x1
 rw [s1] at x2
 change Code.wp _ _ _ _ ((w.alloc (.cells (gcs (.slice aa os.length ac) (.slice ba ts.length bc) (.slice ca g.hs.length cc) (.slice da g.rg.length dc) (.slice qa g.qu.length qc) g.next) 27)).alloc (.cells (gcs (.slice aa' os.length ac') (.slice ba' ts.length bc') (.slice ca' g.hs.length cc') (.slice da' g.rg.length dc') (.slice qa' g.qu.length qc') g.next) 27))
 generalize (w.alloc (.cells (gcs (.slice aa os.length ac) (.slice ba ts.length bc) (.slice ca g.hs.length cc) (.slice da g.rg.length dc) (.slice qa g.qu.length qc) g.next) 27)).alloc (.cells (gcs (.slice aa' os.length ac') (.slice ba' ts.length bc') (.slice ca' g.hs.length cc') (.slice da' g.rg.length dc') (.slice qa' g.qu.length qc') g.next) 27) = W at *
 have HX : Hid (∀ w', Below W.heap.size W w' → Below w.heap.size w w' ∧ w'.heap[w.heap.size]? = some (.cells (gcs (.slice aa os.length ac) (.slice ba ts.length bc) (.slice ca g.hs.length cc) (.slice da g.rg.length dc) (.slice qa g.qu.length qc) g.next) 27 (0, 0)) ∧ w'.heap[w.heap.size + 1]? = some (.cells (gcs (.slice aa' os.length ac') (.slice ba' ts.length bc') (.slice ca' g.hs.length cc') (.slice da' g.rg.length dc') (.slice qa' g.qu.length qc') g.next) 27 (0, 0))) := fun w' b' => ⟨l2.trans (b'.mono l2.size), (b'.block _ (Kg.heap_lt y1)).trans y1, (b'.block _ (Kg.heap_lt x2)).trans x2⟩
 clear l1 x1 s1 l2 x2 y1
 generalize hA : w.heap.size = A at *
 have HC : Hid (∀ w', Below W.heap.size W w' → (w'.cell? ⟨A, 0, none⟩ = some (.slice aa os.length ac) ∧ w'.cell? ⟨A, 1, none⟩ = some (.slice ba ts.length bc) ∧ w'.cell? ⟨A, 2, none⟩ = some (.slice ca g.hs.length cc) ∧ w'.cell? ⟨A, 3, none⟩ = some (.slice da g.rg.length dc) ∧ w'.cell? ⟨A, 4, none⟩ = some (.slice qa g.qu.length qc) ∧ w'.cell? ⟨A, 5, none⟩ = some (.int .u64 (g.next : Int))) ∧ (w'.cell? ⟨A + 1, 0, none⟩ = some (.slice aa' os.length ac') ∧ w'.cell? ⟨A + 1, 1, none⟩ = some (.slice ba' ts.length bc') ∧ w'.cell? ⟨A + 1, 2, none⟩ = some (.slice ca' g.hs.length cc') ∧ w'.cell? ⟨A + 1, 3, none⟩ = some (.slice da' g.rg.length dc') ∧ w'.cell? ⟨A + 1, 4, none⟩ = some (.slice qa' g.qu.length qc') ∧ w'.cell? ⟨A + 1, 5, none⟩ = some (.int .u64 (g.next : Int)))) := fun w' b' => ⟨⟨Kg.heap_cell (HX.out w' b').2.1 0, Kg.heap_cell (HX.out w' b').2.1 1, Kg.heap_cell (HX.out w' b').2.1 2, Kg.heap_cell (HX.out w' b').2.1 3, Kg.heap_cell (HX.out w' b').2.1 4, Kg.heap_cell (HX.out w' b').2.1 5⟩, ⟨Kg.heap_cell (HX.out w' b').2.2 0, Kg.heap_cell (HX.out w' b').2.2 1, Kg.heap_cell (HX.out w' b').2.2 2, Kg.heap_cell (HX.out w' b').2.2 3, Kg.heap_cell (HX.out w' b').2.2 4, Kg.heap_cell (HX.out w' b').2.2 5⟩⟩
 obtain ⟨⟨k0, k1, k2, k3, k4, k5⟩, ⟨m0, m1, m2, m3, m4, m5⟩⟩ := HC.out W (Below.refl _ _)
 have hC := same17_eq n0 _ _ g.hs W (HG.out W (HX.out W (Below.refl _ _)).1).1.hs (HG.out W (HX.out W (Below.refl _ _)).1).2.hs (by omega)
 go_wp2_with fail
 refine hC.mono ?_
 rintro e w1 ⟨rfl, nq, rfl⟩
 have b1 : Below W.heap.size W (W.drewN nq) := below_drewN (Below.refl _ _) nq
 clear hC k0 k1 k2 k3 k4 k5 m0 m1 m2 m3 m4 m5
 generalize W.drewN nq = w1 at *
 have B1 : Hid (Below W.heap.size W w1) := b1
 clear b1
 obtain ⟨⟨k0, k1, k2, k3, k4, k5⟩, ⟨m0, m1, m2, m3, m4, m5⟩⟩ := HC.out w1 B1.out
 have hC := same17_eq n0 _ _ g.rg w1 (HG.out w1 (HX.out w1 B1.out).1).1.rg (HG.out w1 (HX.out w1 B1.out).1).2.rg (by omega)
 go_wp2_with fail
 refine hC.mono ?_
 rintro e w2 ⟨rfl, nq, rfl⟩
 have b2 : Below W.heap.size W (w1.drewN nq) := below_drewN B1.out nq
 clear hC k0 k1 k2 k3 k4 k5 m0 m1 m2 m3 m4 m5
 generalize w1.drewN nq = w2 at *
 have B2 : Hid (Below W.heap.size W w2) := b2
 clear b2 B1
 obtain ⟨⟨k0, k1, k2, k3, k4, k5⟩, ⟨m0, m1, m2, m3, m4, m5⟩⟩ := HC.out w2 B2.out
 have hC := same17_eq n0 _ _ g.qu w2 (HG.out w2 (HX.out w2 B2.out).1).1.qu (HG.out w2 (HX.out w2 B2.out).1).2.qu (by omega)
 go_wp2_with fail
 refine hC.mono ?_
 rintro e w3 ⟨rfl, nq, rfl⟩
 have b3 : Below W.heap.size W (w2.drewN nq) := below_drewN B2.out nq
 clear hC k0 k1 k2 k3 k4 k5 m0 m1 m2 m3 m4 m5
 generalize w2.drewN nq = w3 at *
 have B3 : Hid (Below W.heap.size W w3) := b3
 clear b3 B2
 have k0 := (HC.out w3 B3.out).1.1
 go_wp2
 go_loopw [5] (fun v5 wr => ∃ i : Nat, i ≤ os.length ∧ v5 = .int .i64 i ∧ Hid (Below W.heap.size W wr)) (fun v5 _ => os.length - (intOf v5).toNat)
 case atStart => exact ⟨0, Nat.zero_le _, rfl, B3.out⟩
 case round =>
  obtain ⟨i, hi, rfl, HB⟩ := hrel
  clear B3 k0
  have k0 := (HC.out wr HB.out).1.1
  have m0 := (HC.out wr HB.out).2.1
  by_cases hil : i < os.length
  ·have hiI : (i : Int) < (os.length : Int) := by omega
   have hil' : i < os'.length := by have := Heo.out.1; omega
   have hz : os[i]? = some (os[i]'hil) := List.getElem?_eq_getElem hil
   have hz' : os'[i]? = some (os'[i]'hil') := List.getElem?_eq_getElem hil'
   generalize os[i]'hil = x at hz
   generalize os'[i]'hil' = x' at hz'
   have exo : x.o = x'.o := by
    have h9 := congrArg (fun l => l[i]?) HEO.out.1
    simp only [List.getElem?_map, hz, hz', Option.map_some, Option.some.injEq] at h9
    exact h9
   obtain ⟨a9, cap9, e9, hel⟩ := (HG.out wr (HX.out wr HB.out).1).1.ob
   cases e9
   obtain ⟨lp, lr, q, off, rfl, hqn, hc⟩ := hel i x hz
   obtain ⟨b9, cbp9, f9, hel'⟩ := (HG.out wr (HX.out wr HB.out).1).2.ob
   simp only [Value.slice.injEq] at f9
   obtain ⟨rfl, -, rfl⟩ := f9
   obtain ⟨lp', lr', q', off', rfl, hqn', hc'⟩ := hel' i x' hz'
   have HL : Hid (∀ w', Below n0 wr w' → Lrd n0 w' x.vp .i64 x.o.ps ∧ Lrd n0 w' x'.vp .i64 x.o.ps ∧ Lrd n0 w' x.vr .u64 (x.o.rs.map Int.ofNat) ∧ Lrd n0 w' x'.vr .u64 (x.o.rs.map Int.ofNat)) := fun w' b' => ⟨lp.below b', by rw [exo]; exact lp'.below b', lr.below b', by rw [exo]; exact lr'.below b'⟩
   have HS9 : Hid (x.o.ps.length ≤ 4611686018427387904 ∧ x.o.rs.length ≤ 4611686018427387904) := HSR.out x.o (by rw [HGE.out]; exact List.mem_map_of_mem (List.mem_of_getElem? hz))
   obtain ⟨pa, pc, ep, -, -⟩ := lp
   obtain ⟨ra, rc, er, -, -⟩ := lr
   obtain ⟨pa', pc', ep', -, -⟩ := lp'
   obtain ⟨ra', rc', er', -, -⟩ := lr'
   rw [List.length_map] at er er'
   have c0 := (hc 0 (by omega)).trans (show _ = some (Value.int .u64 (x.o.ser : Int)) from rfl)
   have c1 := (hc 1 (by omega)).trans (show _ = some (Value.int .i64 x.o.kind) from rfl)
   have c2 := (hc 2 (by omega)).trans (show _ = some (Value.int .i64 x.o.site) from rfl)
   have c3 := (hc 3 (by omega)).trans (show _ = some x.vp from rfl)
   have c4 := (hc 4 (by omega)).trans (show _ = some x.vr from rfl)
   have d0 := (hc' 0 (by omega)).trans (show _ = some (Value.int .u64 (x'.o.ser : Int)) from rfl)
   have d1 := (hc' 1 (by omega)).trans (show _ = some (Value.int .i64 x'.o.kind) from rfl)
   have d2 := (hc' 2 (by omega)).trans (show _ = some (Value.int .i64 x'.o.site) from rfl)
   have d3 := (hc' 3 (by omega)).trans (show _ = some x'.vp from rfl)
   have d4 := (hc' 4 (by omega)).trans (show _ = some x'.vr from rfl)
   rw [Nat.add_zero] at c0 d0
   rw [← exo] at d0 d1 d2 ep' er'
   rw [ep] at c3
   rw [er] at c4
   rw [ep'] at d3
   rw [er'] at d4
   have HV : Hid (x.vp = .slice pa x.o.ps.length pc ∧ x'.vp = .slice pa' x.o.ps.length pc' ∧ x.vr = .slice ra x.o.rs.length rc ∧ x'.vr = .slice ra' x.o.rs.length rc') := ⟨ep, ep', er, er'⟩
   clear hel hc hel' hc' hz hz' exo ep er ep' er'
   go_upto_region 6 with fail
   go_cut [6, 7] from 64 to 73 (fun v6 v7 wq => ∃ O1 O2 : Nat, v6 = .pointer (some ⟨O1, 0, none⟩) ∧ v7 = .pointer (some ⟨O2, 0, none⟩) ∧ Hid (Below wr.heap.size wr wq ∧ wq.heap[O1]? = some (.cells #[.int .u64 (x.o.ser : Int), .int .i64 x.o.kind, .int .i64 x.o.site, .slice pa x.o.ps.length pc, .slice ra x.o.rs.length rc] 61 (0, 0)) ∧ wq.heap[O2]? = some (.cells #[.int .u64 (x.o.ser : Int), .int .i64 x.o.kind, .int .i64 x.o.site, .slice pa' x.o.ps.length pc', .slice ra' x.o.rs.length rc'] 61 (0, 0))))
   case first =>
    have hAl := World.block_lt_of_cell? _ _ k0
    have hAm := World.block_lt_of_cell? _ _ m0
    have hql := World.block_lt_of_cell? _ _ c0
    have hqm := World.block_lt_of_cell? _ _ d0
    simp only at hAl hAm hql hqm
    refine wp_region_held_drew (S := fun w' => Below wr.heap.size wr w') Kg.mixed (Below.refl _ _).drew (fun hHeld => ?_)
    refine wpAnyH_take (i := 0) (v := (.pointer (some ⟨A, 0, none⟩))) rfl (by kernel_rfl) (by kernel_rfl) (by kernel_rfl) (fun _ _ _ h => h) (Or.inl ⟨by rfl, fun wx hSw => ?_⟩) (by assumption) ?_
    ·go_simp
    change wpAnyH _ _ _ _ _ _ _ (Act.put _ (some 64) (.pointer (some ⟨A, 0, none⟩))) _
    simp only [Act.put, List.setIfInBounds_toArray, List.set_cons_zero, List.set_cons_succ]
    refine wpAnyH_take (i := 1) (v := (.slice (some ⟨q, off, none⟩) os.length ac)) rfl (by kernel_rfl) (by kernel_rfl) (by kernel_rfl) (fun _ _ _ h => h) (Or.inl ⟨by rfl, fun wx hSw => ?_⟩) (by assumption) ?_
    ·have e0 := (hSw.cell (p := ⟨A, 0, none⟩) hAl).trans k0
     go_simp
    change wpAnyH _ _ _ _ _ _ _ (Act.put _ (some 65) (.slice (some ⟨q, off, none⟩) os.length ac)) _
    simp only [Act.put, List.setIfInBounds_toArray, List.set_cons_zero, List.set_cons_succ]
    refine wpAnyH_take (i := 2) (v := (.int .i64 (i : Int))) rfl (by kernel_rfl) (by kernel_rfl) (by kernel_rfl) (fun _ _ _ h => h) (Or.inl ⟨by rfl, fun wx hSw => ?_⟩) (by assumption) ?_
    ·go_simp
    change wpAnyH _ _ _ _ _ _ _ (Act.put _ (some 66) (.int .i64 (i : Int))) _
    simp only [Act.put, List.setIfInBounds_toArray, List.set_cons_zero, List.set_cons_succ]
    refine wpAnyH_take (i := 3) (v := (.pointer (some ⟨q, off + i * 5, none⟩))) rfl (by kernel_rfl) (by kernel_rfl) (by kernel_rfl) (fun _ _ _ h => h) (Or.inl ⟨by rfl, fun wx hSw => ?_⟩) (by assumption) ?_
    ·go_simp
    change wpAnyH _ _ _ _ _ _ _ (Act.put _ (some 67) (.pointer (some ⟨q, off + i * 5, none⟩))) _
    simp only [Act.put, List.setIfInBounds_toArray, List.set_cons_zero, List.set_cons_succ]
    refine wpAnyH_take (i := 4) (v := (.agg #[.int .u64 (x.o.ser : Int), .int .i64 x.o.kind, .int .i64 x.o.site, .slice pa x.o.ps.length pc, .slice ra x.o.rs.length rc])) rfl (by kernel_rfl) (by kernel_rfl) (by kernel_rfl) (fun _ _ _ h => h) (Or.inl ⟨by rfl, fun wx hSw => ?_⟩) (by assumption) ?_
    ·have e0 := (hSw.cell (p := ⟨q, off + i * 5, none⟩) hql).trans c0
     have e1 := (hSw.cell (p := ⟨q, off + i * 5 + 1, none⟩) hql).trans c1
     have e2 := (hSw.cell (p := ⟨q, off + i * 5 + 2, none⟩) hql).trans c2
     have e3 := (hSw.cell (p := ⟨q, off + i * 5 + 3, none⟩) hql).trans c3
     have e4 := (hSw.cell (p := ⟨q, off + i * 5 + 4, none⟩) hql).trans c4
     go_simp
    change wpAnyH _ _ _ _ _ _ _ (Act.put _ (some 68) (.agg #[.int .u64 (x.o.ser : Int), .int .i64 x.o.kind, .int .i64 x.o.site, .slice pa x.o.ps.length pc, .slice ra x.o.rs.length rc])) _
    simp only [Act.put, List.setIfInBounds_toArray, List.set_cons_zero, List.set_cons_succ]
    refine wpAnyH_take (i := 5) (v := (.pointer (some ⟨A + 1, 0, none⟩))) rfl (by kernel_rfl) (by kernel_rfl) (by kernel_rfl) (fun _ _ _ h => h) (Or.inl ⟨by rfl, fun wx hSw => ?_⟩) (by assumption) ?_
    ·go_simp
    change wpAnyH _ _ _ _ _ _ _ (Act.put _ (some 69) (.pointer (some ⟨A + 1, 0, none⟩))) _
    simp only [Act.put, List.setIfInBounds_toArray, List.set_cons_zero, List.set_cons_succ]
    refine wpAnyH_take (i := 6) (v := (.slice (some ⟨q', off', none⟩) os.length ac')) rfl (by kernel_rfl) (by kernel_rfl) (by kernel_rfl) (fun _ _ _ h => h) (Or.inl ⟨by rfl, fun wx hSw => ?_⟩) (by assumption) ?_
    ·have e0 := (hSw.cell (p := ⟨A + 1, 0, none⟩) hAm).trans m0
     go_simp
    change wpAnyH _ _ _ _ _ _ _ (Act.put _ (some 70) (.slice (some ⟨q', off', none⟩) os.length ac')) _
    simp only [Act.put, List.setIfInBounds_toArray, List.set_cons_zero, List.set_cons_succ]
    refine wpAnyH_take (i := 7) (v := (.int .i64 (i : Int))) rfl (by kernel_rfl) (by kernel_rfl) (by kernel_rfl) (fun _ _ _ h => h) (Or.inl ⟨by rfl, fun wx hSw => ?_⟩) (by assumption) ?_
    ·go_simp
    change wpAnyH _ _ _ _ _ _ _ (Act.put _ (some 71) (.int .i64 (i : Int))) _
    simp only [Act.put, List.setIfInBounds_toArray, List.set_cons_zero, List.set_cons_succ]
    refine wpAnyH_take (i := 8) (v := (.pointer (some ⟨q', off' + i * 5, none⟩))) rfl (by kernel_rfl) (by kernel_rfl) (by kernel_rfl) (fun _ _ _ h => h) (Or.inl ⟨by rfl, fun wx hSw => ?_⟩) (by assumption) ?_
    ·go_simp
    change wpAnyH _ _ _ _ _ _ _ (Act.put _ (some 72) (.pointer (some ⟨q', off' + i * 5, none⟩))) _
    simp only [Act.put, List.setIfInBounds_toArray, List.set_cons_zero, List.set_cons_succ]
    refine wpAnyH_take (i := 9) (v := (.agg #[.int .u64 (x.o.ser : Int), .int .i64 x.o.kind, .int .i64 x.o.site, .slice pa' x.o.ps.length pc', .slice ra' x.o.rs.length rc'])) rfl (by kernel_rfl) (by kernel_rfl) (by kernel_rfl) (fun _ _ _ h => h) (Or.inl ⟨by rfl, fun wx hSw => ?_⟩) (by assumption) ?_
    ·have e0 := (hSw.cell (p := ⟨q', off' + i * 5, none⟩) hqm).trans d0
     have e1 := (hSw.cell (p := ⟨q', off' + i * 5 + 1, none⟩) hqm).trans d1
     have e2 := (hSw.cell (p := ⟨q', off' + i * 5 + 2, none⟩) hqm).trans d2
     have e3 := (hSw.cell (p := ⟨q', off' + i * 5 + 3, none⟩) hqm).trans d3
     have e4 := (hSw.cell (p := ⟨q', off' + i * 5 + 4, none⟩) hqm).trans d4
     go_simp
    change wpAnyH _ _ _ _ _ _ _ (Act.put _ (some 73) (.agg #[.int .u64 (x.o.ser : Int), .int .i64 x.o.kind, .int .i64 x.o.site, .slice pa' x.o.ps.length pc', .slice ra' x.o.rs.length rc'])) _
    simp only [Act.put, List.setIfInBounds_toArray, List.set_cons_zero, List.set_cons_succ]
    refine wpAnyH_ready (rs := [10, 11]) (by kernel_rfl) (by simp) (AllReadyH.cons rfl (fun K hK => ?_) (AllReadyH.cons rfl (fun K hK => ?_) AllReadyH.nil))
    ·go_simp
     have z1 := heap_alloc_new wr (.cells #[.int .u64 0, .int .i64 0, .int .i64 0, .slice none 0 0, .slice none 0 0] 61 (0, 0))
     obtain ⟨W1, hW1⟩ : ∃ W1, W1 = (wr.alloc (.cells #[.int .u64 0, .int .i64 0, .int .i64 0, .slice none 0 0, .slice none 0 0] 61)).drew := ⟨_, rfl⟩
     have b1 : Below wr.heap.size wr W1 := by rw [hW1]; exact (Below.alloc (Below.refl _ _) (Nat.le_refl _) _).drew
     have z1' : W1.heap[wr.heap.size]? = some (.cells #[.int .u64 0, .int .i64 0, .int .i64 0, .slice none 0 0, .slice none 0 0] 61 (0, 0)) := by rw [hW1]; exact z1
     have s1 : W1.heap.size = wr.heap.size + 1 := by rw [hW1]; simp
     rw [← hW1]
     refine hK.out _ _ b1 (fun hH1 => ?_)
     clear hK K hHeld hW1 z1
     refine wpAnyH_ready (rs := [11]) (by kernel_rfl) (by simp) (AllReadyH.cons rfl (fun K hK => ?_) AllReadyH.nil)
     go_simp
     have z2 := heap_alloc_new W1 (.cells #[.int .u64 0, .int .i64 0, .int .i64 0, .slice none 0 0, .slice none 0 0] 61 (0, 0))
     rw [s1] at z2
     obtain ⟨W2, hW2⟩ : ∃ W2, W2 = W1.alloc (.cells #[.int .u64 0, .int .i64 0, .int .i64 0, .slice none 0 0, .slice none 0 0] 61) := ⟨_, rfl⟩
     have b2 : Below wr.heap.size wr W2 := by rw [hW2]; exact Below.alloc b1 (by rw [s1]; omega) _
     have y1 : W2.heap[wr.heap.size]? = some (.cells #[.int .u64 0, .int .i64 0, .int .i64 0, .slice none 0 0, .slice none 0 0] 61 (0, 0)) := by rw [hW2]; exact (Below.heap_alloc _ _ _ (by rw [s1]; omega)).trans z1'
     have y2 : W2.heap[wr.heap.size + 1]? = some (.cells #[.int .u64 0, .int .i64 0, .int .i64 0, .slice none 0 0, .slice none 0 0] 61 (0, 0)) := by rw [hW2]; exact z2
     rw [← hW2]
     refine hK.out _ _ b2 (fun hH2 => ?_)
     clear hK K hH1 hW2 z2 z1' s1
     refine wpAnyH_ready (rs := [12]) (by kernel_rfl) (by simp) (AllReadyH.cons rfl (fun K hK => ?_) AllReadyH.nil)
     rw [if_pos (by rfl)]
     refine wp_store_row 61 (.tmp 6) (.tmp 68) rfl wr.heap.size #[.int .u64 (x.o.ser : Int), .int .i64 x.o.kind, .int .i64 x.o.site, .slice pa x.o.ps.length pc, .slice ra x.o.rs.length rc] rfl rfl 61 _ y1 (by kernel_rfl) rfl (by simp [Value.oneCell']) ?_
     have b3 : Below wr.heap.size wr (W2.setRow wr.heap.size #[.int .u64 (x.o.ser : Int), .int .i64 x.o.kind, .int .i64 x.o.site, .slice pa x.o.ps.length pc, .slice ra x.o.rs.length rc]) := below_setRow b2 (by omega) _
     have x1 : (W2.setRow wr.heap.size #[.int .u64 (x.o.ser : Int), .int .i64 x.o.kind, .int .i64 x.o.site, .slice pa x.o.ps.length pc, .slice ra x.o.rs.length rc]).heap[wr.heap.size]? = some (.cells #[.int .u64 (x.o.ser : Int), .int .i64 x.o.kind, .int .i64 x.o.site, .slice pa x.o.ps.length pc, .slice ra x.o.rs.length rc] 61 (0, 0)) := setRow_heap _ _ _ _ _ _ y1
     have x2 : (W2.setRow wr.heap.size #[.int .u64 (x.o.ser : Int), .int .i64 x.o.kind, .int .i64 x.o.site, .slice pa x.o.ps.length pc, .slice ra x.o.rs.length rc]).heap[wr.heap.size + 1]? = some (.cells #[.int .u64 0, .int .i64 0, .int .i64 0, .slice none 0 0, .slice none 0 0] 61 (0, 0)) := (setRow_other _ _ _ _ (by omega)).trans y2
     generalize W2.setRow wr.heap.size #[.int .u64 (x.o.ser : Int), .int .i64 x.o.kind, .int .i64 x.o.site, .slice pa x.o.ps.length pc, .slice ra x.o.rs.length rc] = W3 at *
     refine hK.out _ _ b3 (fun hH3 => ?_)
     clear hK K hH2 y1 y2
     change wpAnyH _ _ _ _ _ _ _ (Act.put _ none undef) _
     simp only [Act.put]
     refine wpAnyH_ready (rs := [13]) (by kernel_rfl) (by simp) (AllReadyH.cons rfl (fun K hK => ?_) AllReadyH.nil)
     rw [if_pos (by rfl)]
     refine wp_store_row 61 (.tmp 7) (.tmp 73) rfl (wr.heap.size + 1) #[.int .u64 (x.o.ser : Int), .int .i64 x.o.kind, .int .i64 x.o.site, .slice pa' x.o.ps.length pc', .slice ra' x.o.rs.length rc'] rfl rfl 61 _ x2 (by kernel_rfl) rfl (by simp [Value.oneCell']) ?_
     have b4 : Below wr.heap.size wr (W3.setRow (wr.heap.size + 1) #[.int .u64 (x.o.ser : Int), .int .i64 x.o.kind, .int .i64 x.o.site, .slice pa' x.o.ps.length pc', .slice ra' x.o.rs.length rc']) := below_setRow b3 (by omega) _
     have v2 : (W3.setRow (wr.heap.size + 1) #[.int .u64 (x.o.ser : Int), .int .i64 x.o.kind, .int .i64 x.o.site, .slice pa' x.o.ps.length pc', .slice ra' x.o.rs.length rc']).heap[wr.heap.size + 1]? = some (.cells #[.int .u64 (x.o.ser : Int), .int .i64 x.o.kind, .int .i64 x.o.site, .slice pa' x.o.ps.length pc', .slice ra' x.o.rs.length rc'] 61 (0, 0)) := setRow_heap _ _ _ _ _ _ x2
     have v1 : (W3.setRow (wr.heap.size + 1) #[.int .u64 (x.o.ser : Int), .int .i64 x.o.kind, .int .i64 x.o.site, .slice pa' x.o.ps.length pc', .slice ra' x.o.rs.length rc']).heap[wr.heap.size]? = some (.cells #[.int .u64 (x.o.ser : Int), .int .i64 x.o.kind, .int .i64 x.o.site, .slice pa x.o.ps.length pc, .slice ra x.o.rs.length rc] 61 (0, 0)) := (setRow_other _ _ _ _ (by omega)).trans x1
     generalize W3.setRow (wr.heap.size + 1) #[.int .u64 (x.o.ser : Int), .int .i64 x.o.kind, .int .i64 x.o.site, .slice pa' x.o.ps.length pc', .slice ra' x.o.rs.length rc'] = W4 at *
     refine hK.out _ _ b4 (fun hH4 => ?_)
     clear hK K hH3 hH4
     change wpAnyH _ _ _ _ _ _ _ (Act.put _ none undef) _
     simp only [Act.put]
     refine wpAnyH_done (by kernel_rfl) ?_ _
     have HZ : Hid (Below wr.heap.size wr W4 ∧ W4.heap[wr.heap.size]? = some (.cells #[.int .u64 (x.o.ser : Int), .int .i64 x.o.kind, .int .i64 x.o.site, .slice pa x.o.ps.length pc, .slice ra x.o.rs.length rc] 61 (0, 0)) ∧ W4.heap[wr.heap.size + 1]? = some (.cells #[.int .u64 (x.o.ser : Int), .int .i64 x.o.kind, .int .i64 x.o.site, .slice pa' x.o.ps.length pc', .slice ra' x.o.rs.length rc'] 61 (0, 0))) := ⟨b4, v1, v2⟩
     clear b1 b2 b3 b4 x1 x2 v1 v2
     go_wp2_with fail
     go_meet
     exact ⟨_, _, rfl, rfl, HZ.out⟩
    ·go_simp
     have z1 := heap_alloc_new wr (.cells #[.int .u64 0, .int .i64 0, .int .i64 0, .slice none 0 0, .slice none 0 0] 61 (0, 0))
     obtain ⟨W1, hW1⟩ : ∃ W1, W1 = (wr.alloc (.cells #[.int .u64 0, .int .i64 0, .int .i64 0, .slice none 0 0, .slice none 0 0] 61)).drew := ⟨_, rfl⟩
     have b1 : Below wr.heap.size wr W1 := by rw [hW1]; exact (Below.alloc (Below.refl _ _) (Nat.le_refl _) _).drew
     have z1' : W1.heap[wr.heap.size]? = some (.cells #[.int .u64 0, .int .i64 0, .int .i64 0, .slice none 0 0, .slice none 0 0] 61 (0, 0)) := by rw [hW1]; exact z1
     have s1 : W1.heap.size = wr.heap.size + 1 := by rw [hW1]; simp
     rw [← hW1]
     refine hK.out _ _ b1 (fun hH1 => ?_)
     clear hK K hHeld hW1 z1
     refine wpAnyH_ready (rs := [10]) (by kernel_rfl) (by simp) (AllReadyH.cons rfl (fun K hK => ?_) AllReadyH.nil)
     go_simp
     have z2 := heap_alloc_new W1 (.cells #[.int .u64 0, .int .i64 0, .int .i64 0, .slice none 0 0, .slice none 0 0] 61 (0, 0))
     rw [s1] at z2
     obtain ⟨W2, hW2⟩ : ∃ W2, W2 = W1.alloc (.cells #[.int .u64 0, .int .i64 0, .int .i64 0, .slice none 0 0, .slice none 0 0] 61) := ⟨_, rfl⟩
     have b2 : Below wr.heap.size wr W2 := by rw [hW2]; exact Below.alloc b1 (by rw [s1]; omega) _
     have y1 : W2.heap[wr.heap.size]? = some (.cells #[.int .u64 0, .int .i64 0, .int .i64 0, .slice none 0 0, .slice none 0 0] 61 (0, 0)) := by rw [hW2]; exact (Below.heap_alloc _ _ _ (by rw [s1]; omega)).trans z1'
     have y2 : W2.heap[wr.heap.size + 1]? = some (.cells #[.int .u64 0, .int .i64 0, .int .i64 0, .slice none 0 0, .slice none 0 0] 61 (0, 0)) := by rw [hW2]; exact z2
     rw [← hW2]
     refine hK.out _ _ b2 (fun hH2 => ?_)
     clear hK K hH1 hW2 z2 z1' s1
     refine wpAnyH_ready (rs := [12]) (by kernel_rfl) (by simp) (AllReadyH.cons rfl (fun K hK => ?_) AllReadyH.nil)
     rw [if_pos (by rfl)]
     refine wp_store_row 61 (.tmp 6) (.tmp 68) rfl (wr.heap.size + 1) #[.int .u64 (x.o.ser : Int), .int .i64 x.o.kind, .int .i64 x.o.site, .slice pa x.o.ps.length pc, .slice ra x.o.rs.length rc] rfl rfl 61 _ y2 (by kernel_rfl) rfl (by simp [Value.oneCell']) ?_
     have b3 : Below wr.heap.size wr (W2.setRow (wr.heap.size + 1) #[.int .u64 (x.o.ser : Int), .int .i64 x.o.kind, .int .i64 x.o.site, .slice pa x.o.ps.length pc, .slice ra x.o.rs.length rc]) := below_setRow b2 (by omega) _
     have x1 : (W2.setRow (wr.heap.size + 1) #[.int .u64 (x.o.ser : Int), .int .i64 x.o.kind, .int .i64 x.o.site, .slice pa x.o.ps.length pc, .slice ra x.o.rs.length rc]).heap[wr.heap.size + 1]? = some (.cells #[.int .u64 (x.o.ser : Int), .int .i64 x.o.kind, .int .i64 x.o.site, .slice pa x.o.ps.length pc, .slice ra x.o.rs.length rc] 61 (0, 0)) := setRow_heap _ _ _ _ _ _ y2
     have x2 : (W2.setRow (wr.heap.size + 1) #[.int .u64 (x.o.ser : Int), .int .i64 x.o.kind, .int .i64 x.o.site, .slice pa x.o.ps.length pc, .slice ra x.o.rs.length rc]).heap[wr.heap.size]? = some (.cells #[.int .u64 0, .int .i64 0, .int .i64 0, .slice none 0 0, .slice none 0 0] 61 (0, 0)) := (setRow_other _ _ _ _ (by omega)).trans y1
     generalize W2.setRow (wr.heap.size + 1) #[.int .u64 (x.o.ser : Int), .int .i64 x.o.kind, .int .i64 x.o.site, .slice pa x.o.ps.length pc, .slice ra x.o.rs.length rc] = W3 at *
     refine hK.out _ _ b3 (fun hH3 => ?_)
     clear hK K hH2 y1 y2
     change wpAnyH _ _ _ _ _ _ _ (Act.put _ none undef) _
     simp only [Act.put]
     refine wpAnyH_ready (rs := [13]) (by kernel_rfl) (by simp) (AllReadyH.cons rfl (fun K hK => ?_) AllReadyH.nil)
     rw [if_pos (by rfl)]
     refine wp_store_row 61 (.tmp 7) (.tmp 73) rfl wr.heap.size #[.int .u64 (x.o.ser : Int), .int .i64 x.o.kind, .int .i64 x.o.site, .slice pa' x.o.ps.length pc', .slice ra' x.o.rs.length rc'] rfl rfl 61 _ x2 (by kernel_rfl) rfl (by simp [Value.oneCell']) ?_
     have b4 : Below wr.heap.size wr (W3.setRow wr.heap.size #[.int .u64 (x.o.ser : Int), .int .i64 x.o.kind, .int .i64 x.o.site, .slice pa' x.o.ps.length pc', .slice ra' x.o.rs.length rc']) := below_setRow b3 (by omega) _
     have v2 : (W3.setRow wr.heap.size #[.int .u64 (x.o.ser : Int), .int .i64 x.o.kind, .int .i64 x.o.site, .slice pa' x.o.ps.length pc', .slice ra' x.o.rs.length rc']).heap[wr.heap.size]? = some (.cells #[.int .u64 (x.o.ser : Int), .int .i64 x.o.kind, .int .i64 x.o.site, .slice pa' x.o.ps.length pc', .slice ra' x.o.rs.length rc'] 61 (0, 0)) := setRow_heap _ _ _ _ _ _ x2
     have v1 : (W3.setRow wr.heap.size #[.int .u64 (x.o.ser : Int), .int .i64 x.o.kind, .int .i64 x.o.site, .slice pa' x.o.ps.length pc', .slice ra' x.o.rs.length rc']).heap[wr.heap.size + 1]? = some (.cells #[.int .u64 (x.o.ser : Int), .int .i64 x.o.kind, .int .i64 x.o.site, .slice pa x.o.ps.length pc, .slice ra x.o.rs.length rc] 61 (0, 0)) := (setRow_other _ _ _ _ (by omega)).trans x1
     generalize W3.setRow wr.heap.size #[.int .u64 (x.o.ser : Int), .int .i64 x.o.kind, .int .i64 x.o.site, .slice pa' x.o.ps.length pc', .slice ra' x.o.rs.length rc'] = W4 at *
     refine hK.out _ _ b4 (fun hH4 => ?_)
     clear hK K hH3 hH4
     change wpAnyH _ _ _ _ _ _ _ (Act.put _ none undef) _
     simp only [Act.put]
     refine wpAnyH_done (by kernel_rfl) ?_ _
     have HZ : Hid (Below wr.heap.size wr W4 ∧ W4.heap[wr.heap.size + 1]? = some (.cells #[.int .u64 (x.o.ser : Int), .int .i64 x.o.kind, .int .i64 x.o.site, .slice pa x.o.ps.length pc, .slice ra x.o.rs.length rc] 61 (0, 0)) ∧ W4.heap[wr.heap.size]? = some (.cells #[.int .u64 (x.o.ser : Int), .int .i64 x.o.kind, .int .i64 x.o.site, .slice pa' x.o.ps.length pc', .slice ra' x.o.rs.length rc'] 61 (0, 0))) := ⟨b4, v1, v2⟩
     clear b1 b2 b3 b4 x1 x2 v1 v2
     go_wp2_with fail
     go_meet
     exact ⟨_, _, rfl, rfl, HZ.out⟩
   case rest =>
   obtain ⟨O1, O2, rfl, rfl, HZ⟩ := hcut
   apply_assumption
   have hn9 : n0 ≤ wr.heap.size := by have := (HX.out wr HB.out).1.size; omega
   have l9 := HL.out wc (HZ.out.1.mono hn9)
   rw [HV.out.1, HV.out.2.1, HV.out.2.2.1, HV.out.2.2.2] at l9
   have BC : Hid (Below W.heap.size W wc) := HB.out.trans (HZ.out.1.mono HB.out.size)
   have hC := same17_eq n0 _ _ x.o.ps wc l9.1 l9.2.1 HS9.out.1
   have HD : Hid (∀ nn, Calls Tryz.prog 24 #[.slice ra x.o.rs.length rc, .slice ra' x.o.rs.length rc'] (wc.drewN nn) fun e w' => e = .returned (.bool true) ∧ ∃ nq, w' = (wc.drewN nn).drewN nq) := fun nn => sameWords17_eq n0 _ _ (x.o.rs.map Int.ofNat) (wc.drewN nn) (l9.2.2.1.below ⟨rfl, rfl, rfl, Nat.le_refl _, fun _ _ => rfl⟩) (l9.2.2.2.below ⟨rfl, rfl, rfl, Nat.le_refl _, fun _ _ => rfl⟩) (by rw [List.length_map]; exact HS9.out.2)
   clear l9 hn9 HL HV HS9 k0 m0 c0 d0 c1 d1 c2 d2 c3 d3 c4 d4
   have c0 : wc.cell? ⟨O1, 0, none⟩ = some (.int .u64 (x.o.ser : Int)) := Kg.heap_cell HZ.out.2.1 0
   have d0 : wc.cell? ⟨O2, 0, none⟩ = some (.int .u64 (x.o.ser : Int)) := Kg.heap_cell HZ.out.2.2 0
   have c1 : wc.cell? ⟨O1, 1, none⟩ = some (.int .i64 x.o.kind) := Kg.heap_cell HZ.out.2.1 1
   have d1 : wc.cell? ⟨O2, 1, none⟩ = some (.int .i64 x.o.kind) := Kg.heap_cell HZ.out.2.2 1
   have c2 : wc.cell? ⟨O1, 2, none⟩ = some (.int .i64 x.o.site) := Kg.heap_cell HZ.out.2.1 2
   have d2 : wc.cell? ⟨O2, 2, none⟩ = some (.int .i64 x.o.site) := Kg.heap_cell HZ.out.2.2 2
   have c3 : wc.cell? ⟨O1, 3, none⟩ = some (.slice pa x.o.ps.length pc) := Kg.heap_cell HZ.out.2.1 3
   have d3 : wc.cell? ⟨O2, 3, none⟩ = some (.slice pa' x.o.ps.length pc') := Kg.heap_cell HZ.out.2.2 3
   have c4 : wc.cell? ⟨O1, 4, none⟩ = some (.slice ra x.o.rs.length rc) := Kg.heap_cell HZ.out.2.1 4
   have d4 : wc.cell? ⟨O2, 4, none⟩ = some (.slice ra' x.o.rs.length rc') := Kg.heap_cell HZ.out.2.2 4
   go_wp2_with fail
   refine hC.mono ?_
   rintro e w5 ⟨rfl, nq, rfl⟩
   have hD := HD.out nq
   have b5 : Below W.heap.size W (wc.drewN nq) := below_drewN BC.out nq
   have z1 : (wc.drewN nq).heap[O1]? = _ := HZ.out.2.1
   have z2 : (wc.drewN nq).heap[O2]? = _ := HZ.out.2.2
   clear hC HD HZ BC c0 d0 c1 d1 c2 d2 c3 d3 c4 d4
   generalize wc.drewN nq = w5 at *
   have B5 : Hid (Below W.heap.size W w5) := b5
   have Z5 : Hid (w5.heap[O1]? = _ ∧ w5.heap[O2]? = _) := ⟨z1, z2⟩
   clear b5 z1 z2
   have c0 : w5.cell? ⟨O1, 0, none⟩ = some (.int .u64 (x.o.ser : Int)) := Kg.heap_cell Z5.out.1 0
   have d0 : w5.cell? ⟨O2, 0, none⟩ = some (.int .u64 (x.o.ser : Int)) := Kg.heap_cell Z5.out.2 0
   have c1 : w5.cell? ⟨O1, 1, none⟩ = some (.int .i64 x.o.kind) := Kg.heap_cell Z5.out.1 1
   have d1 : w5.cell? ⟨O2, 1, none⟩ = some (.int .i64 x.o.kind) := Kg.heap_cell Z5.out.2 1
   have c2 : w5.cell? ⟨O1, 2, none⟩ = some (.int .i64 x.o.site) := Kg.heap_cell Z5.out.1 2
   have d2 : w5.cell? ⟨O2, 2, none⟩ = some (.int .i64 x.o.site) := Kg.heap_cell Z5.out.2 2
   have c3 : w5.cell? ⟨O1, 3, none⟩ = some (.slice pa x.o.ps.length pc) := Kg.heap_cell Z5.out.1 3
   have d3 : w5.cell? ⟨O2, 3, none⟩ = some (.slice pa' x.o.ps.length pc') := Kg.heap_cell Z5.out.2 3
   have c4 : w5.cell? ⟨O1, 4, none⟩ = some (.slice ra x.o.rs.length rc) := Kg.heap_cell Z5.out.1 4
   have d4 : w5.cell? ⟨O2, 4, none⟩ = some (.slice ra' x.o.rs.length rc') := Kg.heap_cell Z5.out.2 4
   go_wp2_with fail
   refine hD.mono ?_
   rintro e w6 ⟨rfl, nq6, rfl⟩
   have b6 : Below W.heap.size W (w5.drewN nq6) := below_drewN B5.out nq6
   clear hD Z5 c0 d0 c1 d1 c2 d2 c3 d3 c4 d4
   generalize w5.drewN nq6 = w6 at *
   have B6 : Hid (Below W.heap.size W w6) := b6
   clear b6 B5
   go_wp2
   go_roundw
   case rel => exact ⟨i + 1, by omega, by go_num, B6.out⟩
   case measure => simp [intOf]; omega
  ·have hiI : ¬ (i : Int) < (os.length : Int) := by omega
   have k1 := (HC.out wr HB.out).1.2.1
   go_wp2
   go_loopw [8] (fun v6 w3 => ∃ t : Nat, t ≤ ts.length ∧ v6 = .int .i64 t ∧ Hid (Below W.heap.size W w3)) (fun v6 _ => ts.length - (intOf v6).toNat)
   case atStart => exact ⟨0, Nat.zero_le _, rfl, HB⟩
   case round =>
    obtain ⟨t, htl, rfl, Hb3⟩ := hrel
    clear k0 k1 m0
    have k1 := (HC.out wr Hb3.out).1.2.1
    have m1 := (HC.out wr Hb3.out).2.2.1
    have hTB := HS.out.t
    by_cases htt : t < ts.length
    ·have hti : (t : Int) < (ts.length : Int) := by omega
     have hz : ts[t]? = some (ts[t]'htt) := List.getElem?_eq_getElem _
     generalize ts[t]'htt = x at hz
     have htt' : t < ts'.length := by have := Heo.out.2; omega
     have hz' : ts'[t]? = some (ts'[t]'htt') := List.getElem?_eq_getElem _
     generalize ts'[t]'htt' = y at hz'
     have hxy : x.2.map (·.2) = y.2.map (·.2) := by
      have h9 := congrArg (fun l => l[t]?) HEO.out.2
      simp only [List.getElem?_map, hz, hz', Option.map_some, Option.some.injEq] at h9
      exact h9
     have hxl : x.2.length = y.2.length := by have h5 := congrArg List.length hxy; rwa [List.length_map, List.length_map] at h5
     have Hxs := HS.out.f x (List.mem_of_getElem? hz)
     have hxb := Hxs.1
     have HF : Hid (∀ w', Below W.heap.size W w' → (Frd n0 w' x.1 x.2 ∧ ∃ q off, ba = some ⟨q, off, none⟩ ∧ w'.cell? ⟨q, off + t, none⟩ = some x.1) ∧ (Frd n0 w' y.1 y.2 ∧ ∃ q off, ba' = some ⟨q, off, none⟩ ∧ w'.cell? ⟨q, off + t, none⟩ = some y.1)) := fun w' b' => by
      obtain ⟨_, _, ea, hob⟩ := (HG.out w' (HX.out w' b').1).1.sl
      obtain ⟨_, _, eb, hob'⟩ := (HG.out w' (HX.out w' b').1).2.sl
      simp only [Value.slice.injEq] at ea eb
      obtain ⟨rfl, -, -⟩ := ea
      obtain ⟨rfl, -, -⟩ := eb
      obtain ⟨p1, q, off, p2, _, p3⟩ := hob t x hz
      obtain ⟨p1', q', off', p2', _, p3'⟩ := hob' t y hz'
      exact ⟨⟨p1, q, off, p2, p3⟩, p1', q', off', p2', p3'⟩
     obtain ⟨⟨hf, q, off, rfl, ct⟩, hf', q', off', rfl, ct'⟩ := HF.out _ Hb3.out
     obtain ⟨ax, cx, ex, -⟩ := hf
     obtain ⟨ay, cy, ey, -⟩ := hf'
     rw [← hxl] at ey
     rw [ex] at ct HF
     rw [ey] at ct' HF
     have Hxy : Hid (x.2.map (·.2) = y.2.map (·.2)) := hxy
     have Hxl : Hid (x.2.length = y.2.length) := hxl
     have Hfs : Hid (fsum (x.2.map (·.2)) ≤ 4611686018427387904) := Hxs.2
     clear hz hz' hxy hxl ex ey Hxs
     go_upto_region 12 with fail
     go_quiet (fail)
     obtain ⟨wY, hwY⟩ : ∃ wY, wY = wr := ⟨_, rfl⟩
     subst hwY
     go_wp2
     go_loopw [9] (fun v7 w4 => ∃ f : Nat, f ≤ x.2.length ∧ v7 = .int .i64 f ∧ Hid (Below W.heap.size W w4)) (fun v7 _ => x.2.length - (intOf v7).toNat)
     case atStart => exact ⟨0, Nat.zero_le _, rfl, below_drewN Hb3.out _⟩
     case round =>
      obtain ⟨f, hfl, rfl, Hb4⟩ := hrel
      clear k1 m1 ct ct'
      have k1 := (HC.out wr Hb4.out).1.2.1
      have m1 := (HC.out wr Hb4.out).2.2.1
      obtain ⟨⟨hf, q2, off2, eq2, ct⟩, hf', q2', off2', eq2', ct'⟩ := HF.out _ Hb4.out
      cases eq2
      cases eq2'
      by_cases hff : f < x.2.length
      ·have hfi : (f : Int) < (x.2.length : Int) := by omega
       have hz : x.2[f]? = some (x.2[f]'hff) := List.getElem?_eq_getElem hff
       generalize x.2[f]'hff = u at hz
       have hz' : y.2[f]? = some (y.2[f]'(by have := Hxl.out; omega)) := List.getElem?_eq_getElem _
       generalize y.2[f]'(by have := Hxl.out; omega) = v at hz'
       have huv : u.2 = v.2 := by
        have h5 : (x.2.map (·.2))[f]? = some u.2 := by rw [List.getElem?_map, hz]; rfl
        have h6 : (y.2.map (·.2))[f]? = some v.2 := by rw [List.getElem?_map, hz']; rfl
        rw [Hxy.out, h6] at h5
        exact (Option.some.inj h5).symm
       have hul : u.2.length ≤ 4611686018427387904 := by
        have h9 := fsum_take (x.2.map (·.2)) (f + 1)
        rw [take_snocL (o := u.2) (by rw [List.getElem?_map, hz]; rfl), fsum_snoc] at h9
        have := Hfs.out
        omega
       obtain ⟨_, _, eu, hou⟩ := hf
       cases eu
       obtain ⟨hl1, q3, off3, rfl, -, cu⟩ := hou f u hz
       obtain ⟨_, _, ew, how⟩ := hf'
       rw [← Hxl.out] at ew
       cases ew
       obtain ⟨hl2, q4, off4, rfl, -, cv⟩ := how f v hz'
       rw [← huv] at hl2
       have hsi := fun (nn : Nat) => same17_eq n0 u.1 v.1 u.2 (wr.drewN nn) (hl1.below ⟨rfl, rfl, rfl, Nat.le_refl _, fun _ _ => rfl⟩) (hl2.below ⟨rfl, rfl, rfl, Nat.le_refl _, fun _ _ => rfl⟩) hul
       obtain ⟨au, cu', eu1, -⟩ := hl1
       obtain ⟨av, cv', ev1, -⟩ := hl2
       rw [eu1, ev1] at hsi
       rw [eu1] at cu
       rw [ev1] at cv
       clear hou how hz hz' huv eu1 ev1
       go_upto_region 17 with fail
       go_quiet ((go_at_call 8; exact Calls.quiet_of (hsi _)))
       clear hsi
       go_wp2
       go_roundw
       case rel => exact ⟨f + 1, by omega, by go_num, below_drewN Hb4.out _⟩
       case measure => simp [intOf]; omega
      ·have hfi : ¬ (f : Int) < (x.2.length : Int) := by omega
       go_wp2
       go_roundw
       case rel => exact ⟨t + 1, by omega, by go_num, Hb4⟩
       case measure => simp [intOf]; omega
    ·have hti : ¬ (t : Int) < (ts.length : Int) := by omega
     have BW : Hid (Below A w wr) := (HX.out wr Hb3.out).1
     go_wp2
     go_ret
     exact ⟨rfl, BW.out⟩
end Go.Proofs.YtckgcpoheodbcaaGreatDoor
