/-
  Growth by site: LensGrown walked.
-/
import Derived.Test.YtckcdahjajmddaaLGF
set_option linter.unusedVariables false
set_option maxRecDepth 20000
namespace Go.Proofs.Ytckcdahjajmddaa
open Go.RowKit Go.Shelf

theorem csb_of {os : List OL} {ts : List (Value × List (Value × List Int))} {g : Im.Gr} (h : gsz os ts g ≤ 1048576) : 2 * os.length + csF ts + 5 ≤ 10000000 := by
  have hc : csF ts ≤ tsum ts + ts.length := by
    clear h
    induction ts with
    | nil => exact Nat.zero_le _
    | cons x r ih =>
      simp only [csF, tsum, List.map_cons, List.sum_cons, List.length_cons] at ih ⊢
      omega
  unfold gsz szs at h
  omega

theorem sws_of {os os' : List OL} (h : os.map (·.o) = os'.map (·.o)) : sws os' = sws os := by
  have e : ∀ l : List OL, sws l = (l.map (·.o)).map sw := fun l => by unfold sws; rw [List.map_map]; rfl
  rw [e, e, h]

theorem Gl.below {w w' : World} {base : Nat} {v : Value} {l : List (Int × Int × Int)} (h : Gl w base v l) (hb : Below w.heap.size w w') : Gl w' base v l :=
  Kg.row_keep2 (G := []) h (Kg.Touch.of_below hb []) (fun _ _ => by simp)

theorem inj_len : ∀ (l k : List Int), l.Pairwise (· < ·) → (∀ x, x ∈ l → x ∈ k) → l.length ≤ k.length
  | [], k, _, _ => Nat.zero_le _
  | x :: l, k, hp, hs => by
    have hx := hs x List.mem_cons_self
    have hp' := List.pairwise_cons.1 hp
    have h1 := inj_len l (k.erase x) hp'.2 (fun y hy => (List.mem_erase_of_ne (by have := hp'.1 y hy; omega)).2 (hs y (List.mem_cons_of_mem _ hy)))
    have h2 := List.length_erase_of_mem hx
    have h3 : 0 < k.length := List.length_pos_of_mem hx
    simp only [List.length_cons]
    omega

theorem gls_short {os os' : List OL} {rs : List Int} (h : Sites (sws os) (sws os') rs) (h1 : os.length ≤ 1048576) (h2 : os'.length ≤ 1048576) : (Lg.gls (sws os) (sws os') rs).length ≤ 1000000000000 := by
  have h3 := Lg.gls_len (sws os) (sws os') rs
  have h4 : rs.length ≤ ((sws os ++ sws os').map (·.1)).length := inj_len _ _ h.r (fun x hx => by
    have h5 := (h.m x).1 hx
    simp only [Lg.at', Bool.or_eq_true, List.any_eq_true, decide_eq_true_eq] at h5
    rw [List.mem_map]
    rcases h5 with ⟨y, hy, e⟩ | ⟨y, hy, e⟩
    · exact ⟨y, List.mem_append_left _ hy, by simpa using e⟩
    · exact ⟨y, List.mem_append_right _ hy, by simpa using e⟩)
  have h6 : ((sws os ++ sws os').map (·.1)).length = os.length + os'.length := by simp [sws]
  omega

set_option maxHeartbeats 8000000 in
theorem grown17_any (w : World) (vo vs vh vr vq : Value) (os : List OL) (ts : List (Value × List (Value × List Int))) (g : Im.Gr) (hg : Grd w.heap.size w vo vs vh vr vq os ts g) (hz : gsz os ts g ≤ 1048576) (hr : ∀ x, x ∈ os → obR x.o)
    (vo' vs' vh' vr' vq' : Value) (os' : List OL) (ts' : List (Value × List (Value × List Int))) (g' : Im.Gr) (hg' : Grd w.heap.size w vo' vs' vh' vr' vq' os' ts' g') (hz' : gsz os' ts' g' ≤ 1048576) (hr' : ∀ x, x ∈ os' → obR x.o) :
    Calls Try.prog 3 #[.agg (gcs vo vs vh vr vq g.next), .agg (gcs vo' vs' vh' vr' vq' g'.next)] w fun e w' => e = .returned (.bool true) ∧ Below w.heap.size w w' := by
  obtain ⟨aa, ac, ea, -⟩ := id hg.ob
  obtain ⟨ba, bc, eb, -⟩ := id hg.sl
  obtain ⟨ca, cc, ec, -, -⟩ := id hg.hs
  obtain ⟨da, dc, ed, -, -⟩ := id hg.rg
  obtain ⟨qa, qc, eq, -, -⟩ := id hg.qu
  obtain ⟨aa', ac', ea', -⟩ := id hg'.ob
  obtain ⟨ba', bc', eb', -⟩ := id hg'.sl
  obtain ⟨ca', cc', ec', -, -⟩ := id hg'.hs
  obtain ⟨da', dc', ed', -, -⟩ := id hg'.rg
  obtain ⟨qa', qc', eq', -, -⟩ := id hg'.qu
  subst ea eb ec ed eq ea' eb' ec' ed' eq'
  obtain ⟨G, hG⟩ : ∃ x, x = gcs (.slice aa os.length ac) (.slice ba ts.length bc) (.slice ca g.hs.length cc) (.slice da g.rg.length dc) (.slice qa g.qu.length qc) g.next := ⟨_, rfl⟩
  obtain ⟨G', hG'⟩ : ∃ x, x = gcs (.slice aa' os'.length ac') (.slice ba' ts'.length bc') (.slice ca' g'.hs.length cc') (.slice da' g'.rg.length dc') (.slice qa' g'.qu.length qc') g'.next := ⟨_, rfl⟩
  obtain ⟨w1, hw1⟩ : ∃ x, x = (w.alloc (.cells G 27)).alloc (.cells G' 27) := ⟨_, rfl⟩
  have B1 : Below w.heap.size w w1 := by rw [hw1]; exact Below.alloc (Below.alloc (Below.refl _ _) (Nat.le_refl _) _) (by simp) _
  have s1 : w1.heap.size = w.heap.size + 2 := by rw [hw1]; simp
  have x1 : w1.heap[w.heap.size]? = some (.cells G 27 (0, 0)) := by rw [hw1]; exact (Below.heap_alloc _ _ _ (by simp)).trans (heap_alloc_new w _)
  have x2 : w1.heap[w.heap.size + 1]? = some (.cells G' 27 (0, 0)) := by rw [hw1]; have h := heap_alloc_new (w.alloc (.cells G 27)) (.cells G' 27); simpa using h
  obtain ⟨n1, hn1⟩ : ∃ x, x = w1.heap.size := ⟨_, rfl⟩
  obtain ⟨w2, hw2⟩ : ∃ x, x = w1.alloc (.cells room0 37) := ⟨_, rfl⟩
  have hG17 : G17 w1 n1 g g' 10000000 0 [] undef undef w2 (fun _ => 0) rs0 := by
    rw [hw2, hn1]
    exact ⟨Bd.new w1 w1.heap.size (Nat.le_refl _), by simp [RS.tot, rs0], fun h => by omega, fun h => by omega, Below.alloc (Below.refl _ _) (Nat.le_refl _) _⟩
  have HK : Hid (∀ w', Below n1 w1 w' → Below w.heap.size w w' ∧ w'.heap[w.heap.size]? = some (.cells G 27 (0, 0)) ∧ w'.heap[w.heap.size + 1]? = some (.cells G' 27 (0, 0))) := fun w' b' => by
    rw [hn1] at b'
    exact ⟨B1.trans (b'.mono B1.size), (b'.block _ (Kg.heap_lt x1)).trans x1, (b'.block _ (Kg.heap_lt x2)).trans x2⟩
  have HGR : Hid (∀ w', Below n1 w1 w' → Grd w.heap.size w' (.slice aa os.length ac) (.slice ba ts.length bc) (.slice ca g.hs.length cc) (.slice da g.rg.length dc) (.slice qa g.qu.length qc) os ts g ∧ Grd w.heap.size w' (.slice aa' os'.length ac') (.slice ba' ts'.length bc') (.slice ca' g'.hs.length cc') (.slice da' g'.rg.length dc') (.slice qa' g'.qu.length qc') os' ts' g') := fun w' b' => ⟨hg.below (HK.out w' b').1, hg'.below (HK.out w' b').1⟩
  have HG17 : Hid (G17 w1 n1 g g' 10000000 0 [] undef undef w2 (fun _ => 0) rs0) := hG17
  have Hn1 : Hid (n1 = w.heap.size + 2) := by show _ = _; rw [hn1, s1]
  have Hs2 : Hid (w2.heap.size = n1 + 1) := by show _ = _; rw [hw2, hn1]; simp
  have HG : Hid (G = gcs (.slice aa os.length ac) (.slice ba ts.length bc) (.slice ca g.hs.length cc) (.slice da g.rg.length dc) (.slice qa g.qu.length qc) g.next) := hG
  have HG' : Hid (G' = gcs (.slice aa' os'.length ac') (.slice ba' ts'.length bc') (.slice ca' g'.hs.length cc') (.slice da' g'.rg.length dc') (.slice qa' g'.qu.length qc') g'.next) := hG'
  have HZ : Hid ((gsz os ts g ≤ 1048576 ∧ ∀ x, x ∈ os → obR x.o) ∧ (gsz os' ts' g' ≤ 1048576 ∧ ∀ x, x ∈ os' → obR x.o)) := ⟨⟨hz, hr⟩, hz', hr'⟩
  rw [← hG, ← hG']
  clear hg hg' hz hr hz' hr' B1 s1 x1 x2 hG17 hG hG'
  go_enter Try.func3, Try.ntmps3
  go_upto_region 2 with fail
  have ew2 : ((w.alloc (.cells G 27)).alloc (.cells G' 27)).alloc (.cells room0 37) = w2 := by rw [← hw1, ← hw2]
  have en1 : w.heap.size + 1 + 1 = n1 := by have := Hn1.out; omega
  change Code.wp _ _ _ _ (((w.alloc (.cells G 27)).alloc (.cells G' 27)).alloc (.cells room0 37))
  rw [ew2, en1]
  clear ew2 en1 hw1 hw2 hn1
  obtain ⟨A, hA⟩ : ∃ x, x = w.heap.size := ⟨_, rfl⟩
  have HA : Hid (A = w.heap.size) := hA
  rw [← hA] at HK HGR Hn1
  rw [← hA]
  clear hA
  have HC : Hid (∀ w', Below n1 w1 w' → ∀ j v, ((G[j]? = some v → w'.cell? ⟨A, j, none⟩ = some v) ∧ (G'[j]? = some v → w'.cell? ⟨A + 1, j, none⟩ = some v))) := fun w' b' j v => ⟨fun h => (Kg.heap_cell (HK.out w' b').2.1 j).trans h, fun h => (Kg.heap_cell (HK.out w' b').2.2 j).trans h⟩
  have HQ0 : Hid (Q17 w1 n1 g g' 0 false false undef undef undef undef w2) := ⟨⟨_, _, [], HG17.out, fun k hk => by simp at hk, fun h => by simp at h, fun h => by simp at h⟩, by have := Hs2.out; omega, fun h => by simp at h⟩
  go_cut [6, 7] from 12 to 17 (fun v6 v7 wq => ∃ O6 O7 : Nat, v6 = .pointer (some ⟨O6, 0, none⟩) ∧ v7 = .pointer (some ⟨O7, 0, none⟩) ∧ Hid (End17 w1 n1 g g' O6 O7 wq))
  case first =>
    refine wp_region_held_drew (S := fun w' => Below n1 w1 w') Kg.mixed (HQ0.out.l).drew (fun hHeld => ?_)
    refine wpAnyH_take (i := 0) (v := (.pointer (some ⟨n1, 0, none⟩))) rfl (by kernel_rfl) (by kernel_rfl) (by kernel_rfl) (fun _ _ _ h => h) (Or.inl ⟨by rfl, fun wx hSw => ?_⟩) (by assumption) ?_
    · go_simp
    change wpAnyH _ _ _ _ _ _ _ (Act.put _ (some 12) (.pointer (some ⟨n1, 0, none⟩))) _
    simp only [Act.put, List.setIfInBounds_toArray, List.set_cons_zero, List.set_cons_succ]
    refine wpAnyH_take (i := 1) (v := (.agg G)) rfl (by kernel_rfl) (by kernel_rfl) (by kernel_rfl) (fun _ _ _ h => h) (Or.inl ⟨by rfl, fun wx hSw => ?_⟩) (by assumption) ?_
    · have hSw' : Below n1 w1 wx := hSw
      have e0 : wx.cell? ⟨A, 0, none⟩ = some (.slice aa os.length ac) := (HC.out wx hSw' 0 _).1 (by rw [HG.out]; rfl)
      have e1 : wx.cell? ⟨A, 1, none⟩ = some (.slice ba ts.length bc) := (HC.out wx hSw' 1 _).1 (by rw [HG.out]; rfl)
      have e2 : wx.cell? ⟨A, 2, none⟩ = some (.slice ca g.hs.length cc) := (HC.out wx hSw' 2 _).1 (by rw [HG.out]; rfl)
      have e3 : wx.cell? ⟨A, 3, none⟩ = some (.slice da g.rg.length dc) := (HC.out wx hSw' 3 _).1 (by rw [HG.out]; rfl)
      have e4 : wx.cell? ⟨A, 4, none⟩ = some (.slice qa g.qu.length qc) := (HC.out wx hSw' 4 _).1 (by rw [HG.out]; rfl)
      have e5 : wx.cell? ⟨A, 5, none⟩ = some (.int .u64 (g.next : Int)) := (HC.out wx hSw' 5 _).1 (by rw [HG.out]; rfl)
      rw [HG.out]
      go_simp
    change wpAnyH _ _ _ _ _ _ _ (Act.put _ (some 13) (.agg G)) _
    simp only [Act.put, List.setIfInBounds_toArray, List.set_cons_zero, List.set_cons_succ]
    refine wpAnyH_take (i := 3) (v := (.pointer (some ⟨n1, 0, none⟩))) rfl (by kernel_rfl) (by kernel_rfl) (by kernel_rfl) (fun _ _ _ h => h) (Or.inl ⟨by rfl, fun wx hSw => ?_⟩) (by assumption) ?_
    · go_simp
    change wpAnyH _ _ _ _ _ _ _ (Act.put _ (some 15) (.pointer (some ⟨n1, 0, none⟩))) _
    simp only [Act.put, List.setIfInBounds_toArray, List.set_cons_zero, List.set_cons_succ]
    refine wpAnyH_take (i := 4) (v := (.agg G')) rfl (by kernel_rfl) (by kernel_rfl) (by kernel_rfl) (fun _ _ _ h => h) (Or.inl ⟨by rfl, fun wx hSw => ?_⟩) (by assumption) ?_
    · have hSw' : Below n1 w1 wx := hSw
      have e0 : wx.cell? ⟨A + 1, 0, none⟩ = some (.slice aa' os'.length ac') := (HC.out wx hSw' 0 _).2 (by rw [HG'.out]; rfl)
      have e1 : wx.cell? ⟨A + 1, 1, none⟩ = some (.slice ba' ts'.length bc') := (HC.out wx hSw' 1 _).2 (by rw [HG'.out]; rfl)
      have e2 : wx.cell? ⟨A + 1, 2, none⟩ = some (.slice ca' g'.hs.length cc') := (HC.out wx hSw' 2 _).2 (by rw [HG'.out]; rfl)
      have e3 : wx.cell? ⟨A + 1, 3, none⟩ = some (.slice da' g'.rg.length dc') := (HC.out wx hSw' 3 _).2 (by rw [HG'.out]; rfl)
      have e4 : wx.cell? ⟨A + 1, 4, none⟩ = some (.slice qa' g'.qu.length qc') := (HC.out wx hSw' 4 _).2 (by rw [HG'.out]; rfl)
      have e5 : wx.cell? ⟨A + 1, 5, none⟩ = some (.int .u64 (g'.next : Int)) := (HC.out wx hSw' 5 _).2 (by rw [HG'.out]; rfl)
      rw [HG'.out]
      go_simp
    change wpAnyH _ _ _ _ _ _ _ (Act.put _ (some 16) (.agg G')) _
    simp only [Act.put, List.setIfInBounds_toArray, List.set_cons_zero, List.set_cons_succ]
    refine lend_any w1 n1 A g g' G G' _ (fun f6 f7 p6 p7 v14 v17 w hq => ?_) (fun f6 f7 p6 p7 v14 v17 w hq => ?_) (fun O6 O7 v14 v17 wq he => ?_) w2.drew HQ0.out.drew
    · rw [HG.out]
      have h9 := sml_of HZ.out.1.1
      have h8 : 2 * os.length + csF ts + 5 ≤ 10000000 := csb_of HZ.out.1.1
      exact hq.call1 A (by have := Hn1.out; omega) (HGR.out _ hq.l).1 h9 h8
    · rw [HG'.out]
      have h9 := sml_of HZ.out.2.1
      have h8 : 2 * os'.length + csF ts' + 5 ≤ 10000000 := csb_of HZ.out.2.1
      exact hq.call2 A (by have := Hn1.out; omega) (HGR.out _ hq.l).2 h9 h8
    · have HE : Hid (End17 w1 n1 g g' O6 O7 wq) := he
      clear he
      go_wp2_with fail
      go_meet
      exact ⟨_, _, rfl, rfl, HE⟩
  case rest =>
    obtain ⟨O6, O7, rfl, rfl, HE⟩ := hcut
    apply_assumption
    obtain ⟨N, S, va, vb, hG, h6, h7, hnc, z6, z7⟩ := id HE.out
    obtain ⟨vo1, vs1, vh1, vr1, vq1, os1, ts1, ea, hl1⟩ := id (hG.a (by omega))
    obtain ⟨vo2, vs2, vh2, vr2, vq2, os2, ts2, eb, hl2⟩ := id (hG.b (by omega))
    simp only [Value.agg.injEq] at ea eb
    subst ea eb
    have HGR0 : Hid (Grd A wc (.slice aa os.length ac) (.slice ba ts.length bc) (.slice ca g.hs.length cc) (.slice da g.rg.length dc) (.slice qa g.qu.length qc) os ts g ∧ Grd A wc (.slice aa' os'.length ac') (.slice ba' ts'.length bc') (.slice ca' g'.hs.length cc') (.slice da' g'.rg.length dc') (.slice qa' g'.qu.length qc') os' ts' g') := HGR.out wc hG.l
    have eo1 : os.map (·.o) = os1.map (·.o) := HGR0.out.1.eo.symm.trans hl1.eo
    have es1 := HGR0.out.1.es.symm.trans hl1.es
    have eo2 : os'.map (·.o) = os2.map (·.o) := HGR0.out.2.eo.symm.trans hl2.eo
    have es2 := HGR0.out.2.es.symm.trans hl2.es
    have z1 : gsz os1 ts1 g ≤ 1048576 := by rw [← gsz_eq (g := g) eo1 es1]; exact HZ.out.1.1
    have z2 : gsz os2 ts2 g' ≤ 1048576 := by rw [← gsz_eq (g := g') eo2 es2]; exact HZ.out.2.1
    have r1 := obR_of eo1 HZ.out.1.2
    have r2 := obR_of eo2 HZ.out.2.2
    have w1e : sws os1 = sws os := sws_of eo1
    have w2e : sws os2 = sws os' := sws_of eo2
    have HZ2 : Hid ((gsz os1 ts1 g ≤ 1048576 ∧ ∀ x, x ∈ os1 → obR x.o) ∧ (gsz os2 ts2 g' ≤ 1048576 ∧ ∀ x, x ∈ os2 → obR x.o)) := ⟨⟨z1, r1⟩, z2, r2⟩
    have hnx := HGR0.out.1.nx
    have hnx' := HGR0.out.2.nx
    have HLN : Hid (Lent wc N [] n1 vo1 vs1 vh1 vr1 vq1 os1 ts1 g ∧ Lent wc N [] n1 vo2 vs2 vh2 vr2 vq2 os2 ts2 g') := ⟨hl1.stp ⟨Kg.Touch.refl _ _, fun k hk => by simp at hk, fun _ _ _ => rfl⟩, hl2.stp ⟨Kg.Touch.refl _ _, fun k hk => by simp at hk, fun _ _ _ => rfl⟩⟩
    have HG1 : Hid (∀ w', Below wc.heap.size wc w' → Grd wc.heap.size w' vo1 vs1 vh1 vr1 vq1 os1 ts1 g ∧ Grd wc.heap.size w' vo2 vs2 vh2 vr2 vq2 os2 ts2 g') := fun w' b' => ⟨(HLN.out.1.grd r1 z1 hnx).below b', (HLN.out.2.grd r2 z2 hnx').below b'⟩
    have HBD : Hid (Bd wc n1 n1 N S [] ∧ S.tot ≤ 20000000) := ⟨hG.bd, by have := hG.tot; omega⟩
    have HLC : Hid (Below n1 w1 wc) := hG.l
    have HN0 : Hid (n1 ≤ wc.heap.size ∧ N O6 = 0 ∧ N O7 = 0) := ⟨hnc, z6, z7⟩
    have HB1 : Hid (∀ w', Below wc.heap.size wc w' → Below n1 w1 w') := fun w' b' => HLC.out.trans (b'.mono HN0.out.1)
    have HO : Hid (∀ w', Below wc.heap.size wc w' → ∀ j v, ((gcs vo1 vs1 vh1 vr1 vq1 g.next)[j]? = some v → w'.cell? ⟨O6, j, none⟩ = some v) ∧ ((gcs vo2 vs2 vh2 vr2 vq2 g'.next)[j]? = some v → w'.cell? ⟨O7, j, none⟩ = some v)) := fun w' b' j v => ⟨fun h => (Kg.heap_cell ((b'.block _ (Kg.heap_lt h6)).trans h6) j).trans h, fun h => (Kg.heap_cell ((b'.block _ (Kg.heap_lt h7)).trans h7) j).trans h⟩
    have HO67 : Hid (O6 < wc.heap.size ∧ O7 < wc.heap.size) := ⟨Kg.heap_lt h6, Kg.heap_lt h7⟩
    obtain ⟨rs, hrs⟩ := sites_ex (sws os) (sws os')
    have HRS : Hid (Sites (sws os) (sws os') rs) := hrs
    have HWE : Hid (sws os1 = sws os ∧ sws os2 = sws os') := ⟨w1e, w2e⟩
    clear hG h6 h7 hnc z6 z7 hl1 hl2 eo1 es1 eo2 es2 z1 z2 r1 r2 w1e w2e HE hrs
    have l0 : wc.cell? ⟨O6, 0, none⟩ = some (vo1) := (HO.out wc (Below.refl _ _) 0 _).1 rfl
    have m0 : wc.cell? ⟨O7, 0, none⟩ = some (vo2) := (HO.out wc (Below.refl _ _) 0 _).2 rfl
    have l1 : wc.cell? ⟨O6, 1, none⟩ = some (vs1) := (HO.out wc (Below.refl _ _) 1 _).1 rfl
    have m1 : wc.cell? ⟨O7, 1, none⟩ = some (vs2) := (HO.out wc (Below.refl _ _) 1 _).2 rfl
    have l2 : wc.cell? ⟨O6, 2, none⟩ = some (vh1) := (HO.out wc (Below.refl _ _) 2 _).1 rfl
    have m2 : wc.cell? ⟨O7, 2, none⟩ = some (vh2) := (HO.out wc (Below.refl _ _) 2 _).2 rfl
    have l3 : wc.cell? ⟨O6, 3, none⟩ = some (vr1) := (HO.out wc (Below.refl _ _) 3 _).1 rfl
    have m3 : wc.cell? ⟨O7, 3, none⟩ = some (vr2) := (HO.out wc (Below.refl _ _) 3 _).2 rfl
    have l4 : wc.cell? ⟨O6, 4, none⟩ = some (vq1) := (HO.out wc (Below.refl _ _) 4 _).1 rfl
    have m4 : wc.cell? ⟨O7, 4, none⟩ = some (vq2) := (HO.out wc (Below.refl _ _) 4 _).2 rfl
    have l5 : wc.cell? ⟨O6, 5, none⟩ = some (.int .u64 (g.next : Int)) := (HO.out wc (Below.refl _ _) 5 _).1 rfl
    have m5 : wc.cell? ⟨O7, 5, none⟩ = some (.int .u64 (g'.next : Int)) := (HO.out wc (Below.refl _ _) 5 _).2 rfl
    have q := lGrown_any wc.heap.size wc (Nat.le_refl _) vo1 vs1 vh1 vr1 vq1 os1 ts1 g (HG1.out wc (Below.refl _ _)).1 (swb_of HZ2.out.1.1) vo2 vs2 vh2 vr2 vq2 os2 ts2 g' (HG1.out wc (Below.refl _ _)).2 (swb_of HZ2.out.2.1) rs (by rw [HWE.out.1, HWE.out.2]; exact HRS.out)
    rw [HWE.out.1, HWE.out.2] at q
    go_wp2_with fail
    refine q.mono ?_
    rintro e w3 ⟨vl, rfl, gl3, b3⟩
    have HB3 : Hid (Below wc.heap.size wc w3) := b3
    have HGL3 : Hid (Gl w3 wc.heap.size vl (Lg.gls (sws os) (sws os') rs)) := gl3
    clear q b3 gl3 l0 m0 l1 m1 l2 m2 l3 m3 l4 m4 l5 m5
    have a0 : w3.cell? ⟨A, 0, none⟩ = some (.slice aa os.length ac) := (HC.out w3 (HB1.out w3 HB3.out) 0 _).1 (by rw [HG.out]; rfl)
    have b0 : w3.cell? ⟨A + 1, 0, none⟩ = some (.slice aa' os'.length ac') := (HC.out w3 (HB1.out w3 HB3.out) 0 _).2 (by rw [HG'.out]; rfl)
    have a1 : w3.cell? ⟨A, 1, none⟩ = some (.slice ba ts.length bc) := (HC.out w3 (HB1.out w3 HB3.out) 1 _).1 (by rw [HG.out]; rfl)
    have b1 : w3.cell? ⟨A + 1, 1, none⟩ = some (.slice ba' ts'.length bc') := (HC.out w3 (HB1.out w3 HB3.out) 1 _).2 (by rw [HG'.out]; rfl)
    have a2 : w3.cell? ⟨A, 2, none⟩ = some (.slice ca g.hs.length cc) := (HC.out w3 (HB1.out w3 HB3.out) 2 _).1 (by rw [HG.out]; rfl)
    have b2 : w3.cell? ⟨A + 1, 2, none⟩ = some (.slice ca' g'.hs.length cc') := (HC.out w3 (HB1.out w3 HB3.out) 2 _).2 (by rw [HG'.out]; rfl)
    have a3 : w3.cell? ⟨A, 3, none⟩ = some (.slice da g.rg.length dc) := (HC.out w3 (HB1.out w3 HB3.out) 3 _).1 (by rw [HG.out]; rfl)
    have b3 : w3.cell? ⟨A + 1, 3, none⟩ = some (.slice da' g'.rg.length dc') := (HC.out w3 (HB1.out w3 HB3.out) 3 _).2 (by rw [HG'.out]; rfl)
    have a4 : w3.cell? ⟨A, 4, none⟩ = some (.slice qa g.qu.length qc) := (HC.out w3 (HB1.out w3 HB3.out) 4 _).1 (by rw [HG.out]; rfl)
    have b4 : w3.cell? ⟨A + 1, 4, none⟩ = some (.slice qa' g'.qu.length qc') := (HC.out w3 (HB1.out w3 HB3.out) 4 _).2 (by rw [HG'.out]; rfl)
    have a5 : w3.cell? ⟨A, 5, none⟩ = some (.int .u64 (g.next : Int)) := (HC.out w3 (HB1.out w3 HB3.out) 5 _).1 (by rw [HG.out]; rfl)
    have b5 : w3.cell? ⟨A + 1, 5, none⟩ = some (.int .u64 (g'.next : Int)) := (HC.out w3 (HB1.out w3 HB3.out) 5 _).2 (by rw [HG'.out]; rfl)
    have q := r17Grown_any A w3 (by have := HB3.out.size; have := HN0.out.1; have := Hn1.out; omega) _ _ _ _ _ os ts g (HGR.out w3 (HB1.out w3 HB3.out)).1 (swb_of HZ.out.1.1) _ _ _ _ _ os' ts' g' (HGR.out w3 (HB1.out w3 HB3.out)).2 (swb_of HZ.out.2.1) rs HRS.out
    go_wp2_with fail
    refine q.mono ?_
    rintro e w4 ⟨vm, rfl, gm4, bl4⟩
    have HB4 : Hid (Below wc.heap.size wc w4) := HB3.out.trans (bl4.mono HB3.out.size)
    obtain ⟨al, cl, rfl⟩ := own_slI HGL3.out
    obtain ⟨am, cm, rfl⟩ := own_slI gm4
    obtain ⟨LL, hLL⟩ : ∃ x, x = Lg.gls (sws os) (sws os') rs := ⟨_, rfl⟩
    rw [← hLL] at HGL3 gm4
    rw [← hLL]
    have HGL4 : Hid (∀ w', Below w4.heap.size w4 w' → Gl w' wc.heap.size (.slice al LL.length cl) LL ∧ Gl w' w3.heap.size (.slice am LL.length cm) LL) := fun w' b' => ⟨Gl.below (Gl.below HGL3.out bl4) b', Gl.below gm4 b'⟩
    have HLL : Hid (LL.length ≤ 1000000000000) := by
      show _ ≤ _
      rw [hLL]
      exact gls_short HRS.out (by have := HZ.out.1.1; unfold gsz szs at this; omega) (by have := HZ.out.2.1; unfold gsz szs at this; omega)
    have hLLb := HLL.out
    clear q bl4 gm4 HGL3 HB3 hLL a0 b0 a1 b1 a2 b2 a3 b3 a4 b4 a5 b5
    have a0 : w4.cell? ⟨A, 0, none⟩ = some (.slice aa os.length ac) := (HC.out w4 (HB1.out w4 HB4.out) 0 _).1 (by rw [HG.out]; rfl)
    have b0 : w4.cell? ⟨A + 1, 0, none⟩ = some (.slice aa' os'.length ac') := (HC.out w4 (HB1.out w4 HB4.out) 0 _).2 (by rw [HG'.out]; rfl)
    have a1 : w4.cell? ⟨A, 1, none⟩ = some (.slice ba ts.length bc) := (HC.out w4 (HB1.out w4 HB4.out) 1 _).1 (by rw [HG.out]; rfl)
    have b1 : w4.cell? ⟨A + 1, 1, none⟩ = some (.slice ba' ts'.length bc') := (HC.out w4 (HB1.out w4 HB4.out) 1 _).2 (by rw [HG'.out]; rfl)
    have a2 : w4.cell? ⟨A, 2, none⟩ = some (.slice ca g.hs.length cc) := (HC.out w4 (HB1.out w4 HB4.out) 2 _).1 (by rw [HG.out]; rfl)
    have b2 : w4.cell? ⟨A + 1, 2, none⟩ = some (.slice ca' g'.hs.length cc') := (HC.out w4 (HB1.out w4 HB4.out) 2 _).2 (by rw [HG'.out]; rfl)
    have a3 : w4.cell? ⟨A, 3, none⟩ = some (.slice da g.rg.length dc) := (HC.out w4 (HB1.out w4 HB4.out) 3 _).1 (by rw [HG.out]; rfl)
    have b3 : w4.cell? ⟨A + 1, 3, none⟩ = some (.slice da' g'.rg.length dc') := (HC.out w4 (HB1.out w4 HB4.out) 3 _).2 (by rw [HG'.out]; rfl)
    have a4 : w4.cell? ⟨A, 4, none⟩ = some (.slice qa g.qu.length qc) := (HC.out w4 (HB1.out w4 HB4.out) 4 _).1 (by rw [HG.out]; rfl)
    have b4 : w4.cell? ⟨A + 1, 4, none⟩ = some (.slice qa' g'.qu.length qc') := (HC.out w4 (HB1.out w4 HB4.out) 4 _).2 (by rw [HG'.out]; rfl)
    have a5 : w4.cell? ⟨A, 5, none⟩ = some (.int .u64 (g.next : Int)) := (HC.out w4 (HB1.out w4 HB4.out) 5 _).1 (by rw [HG.out]; rfl)
    have b5 : w4.cell? ⟨A + 1, 5, none⟩ = some (.int .u64 (g'.next : Int)) := (HC.out w4 (HB1.out w4 HB4.out) 5 _).2 (by rw [HG'.out]; rfl)
    have l0 : w4.cell? ⟨O6, 0, none⟩ = some (vo1) := (HO.out w4 HB4.out 0 _).1 rfl
    have m0 : w4.cell? ⟨O7, 0, none⟩ = some (vo2) := (HO.out w4 HB4.out 0 _).2 rfl
    have l1 : w4.cell? ⟨O6, 1, none⟩ = some (vs1) := (HO.out w4 HB4.out 1 _).1 rfl
    have m1 : w4.cell? ⟨O7, 1, none⟩ = some (vs2) := (HO.out w4 HB4.out 1 _).2 rfl
    have l2 : w4.cell? ⟨O6, 2, none⟩ = some (vh1) := (HO.out w4 HB4.out 2 _).1 rfl
    have m2 : w4.cell? ⟨O7, 2, none⟩ = some (vh2) := (HO.out w4 HB4.out 2 _).2 rfl
    have l3 : w4.cell? ⟨O6, 3, none⟩ = some (vr1) := (HO.out w4 HB4.out 3 _).1 rfl
    have m3 : w4.cell? ⟨O7, 3, none⟩ = some (vr2) := (HO.out w4 HB4.out 3 _).2 rfl
    have l4 : w4.cell? ⟨O6, 4, none⟩ = some (vq1) := (HO.out w4 HB4.out 4 _).1 rfl
    have m4 : w4.cell? ⟨O7, 4, none⟩ = some (vq2) := (HO.out w4 HB4.out 4 _).2 rfl
    have l5 : w4.cell? ⟨O6, 5, none⟩ = some (.int .u64 (g.next : Int)) := (HO.out w4 HB4.out 5 _).1 rfl
    have m5 : w4.cell? ⟨O7, 5, none⟩ = some (.int .u64 (g'.next : Int)) := (HO.out w4 HB4.out 5 _).2 rfl
    have q := sameGraph17_eq w4.heap.size w4 (Nat.le_refl _) vo1 vs1 vh1 vr1 vq1 _ _ _ _ _ os1 os ts1 ts g ((HG1.out w4 HB4.out).1.mono HB4.out.size) ((HGR.out w4 (HB1.out w4 HB4.out)).1.mono (by have := HB4.out.size; have := HN0.out.1; have := Hn1.out; omega)) (by have := HZ2.out.1.1; unfold gsz szs at this; omega) (sln_of HZ2.out.1.1) (by have := HZ2.out.1.1; unfold gsz szs at this; omega) (by have := HZ2.out.1.1; unfold gsz szs at this; omega) (by have := HZ2.out.1.1; unfold gsz szs at this; omega)
    go_wp2_with fail
    refine q.mono ?_
    rintro e w5 ⟨rfl, bl5⟩
    have HB5 : Hid (Below wc.heap.size wc w5) := HB4.out.trans (bl5.mono HB4.out.size)
    have HB45 : Hid (Below w4.heap.size w4 w5) := bl5
    clear q bl5 a0 b0 a1 b1 a2 b2 a3 b3 a4 b4 a5 b5 l0 m0 l1 m1 l2 m2 l3 m3 l4 m4 l5 m5
    have a0 : w5.cell? ⟨A, 0, none⟩ = some (.slice aa os.length ac) := (HC.out w5 (HB1.out w5 HB5.out) 0 _).1 (by rw [HG.out]; rfl)
    have b0 : w5.cell? ⟨A + 1, 0, none⟩ = some (.slice aa' os'.length ac') := (HC.out w5 (HB1.out w5 HB5.out) 0 _).2 (by rw [HG'.out]; rfl)
    have a1 : w5.cell? ⟨A, 1, none⟩ = some (.slice ba ts.length bc) := (HC.out w5 (HB1.out w5 HB5.out) 1 _).1 (by rw [HG.out]; rfl)
    have b1 : w5.cell? ⟨A + 1, 1, none⟩ = some (.slice ba' ts'.length bc') := (HC.out w5 (HB1.out w5 HB5.out) 1 _).2 (by rw [HG'.out]; rfl)
    have a2 : w5.cell? ⟨A, 2, none⟩ = some (.slice ca g.hs.length cc) := (HC.out w5 (HB1.out w5 HB5.out) 2 _).1 (by rw [HG.out]; rfl)
    have b2 : w5.cell? ⟨A + 1, 2, none⟩ = some (.slice ca' g'.hs.length cc') := (HC.out w5 (HB1.out w5 HB5.out) 2 _).2 (by rw [HG'.out]; rfl)
    have a3 : w5.cell? ⟨A, 3, none⟩ = some (.slice da g.rg.length dc) := (HC.out w5 (HB1.out w5 HB5.out) 3 _).1 (by rw [HG.out]; rfl)
    have b3 : w5.cell? ⟨A + 1, 3, none⟩ = some (.slice da' g'.rg.length dc') := (HC.out w5 (HB1.out w5 HB5.out) 3 _).2 (by rw [HG'.out]; rfl)
    have a4 : w5.cell? ⟨A, 4, none⟩ = some (.slice qa g.qu.length qc) := (HC.out w5 (HB1.out w5 HB5.out) 4 _).1 (by rw [HG.out]; rfl)
    have b4 : w5.cell? ⟨A + 1, 4, none⟩ = some (.slice qa' g'.qu.length qc') := (HC.out w5 (HB1.out w5 HB5.out) 4 _).2 (by rw [HG'.out]; rfl)
    have a5 : w5.cell? ⟨A, 5, none⟩ = some (.int .u64 (g.next : Int)) := (HC.out w5 (HB1.out w5 HB5.out) 5 _).1 (by rw [HG.out]; rfl)
    have b5 : w5.cell? ⟨A + 1, 5, none⟩ = some (.int .u64 (g'.next : Int)) := (HC.out w5 (HB1.out w5 HB5.out) 5 _).2 (by rw [HG'.out]; rfl)
    have l0 : w5.cell? ⟨O6, 0, none⟩ = some (vo1) := (HO.out w5 HB5.out 0 _).1 rfl
    have m0 : w5.cell? ⟨O7, 0, none⟩ = some (vo2) := (HO.out w5 HB5.out 0 _).2 rfl
    have l1 : w5.cell? ⟨O6, 1, none⟩ = some (vs1) := (HO.out w5 HB5.out 1 _).1 rfl
    have m1 : w5.cell? ⟨O7, 1, none⟩ = some (vs2) := (HO.out w5 HB5.out 1 _).2 rfl
    have l2 : w5.cell? ⟨O6, 2, none⟩ = some (vh1) := (HO.out w5 HB5.out 2 _).1 rfl
    have m2 : w5.cell? ⟨O7, 2, none⟩ = some (vh2) := (HO.out w5 HB5.out 2 _).2 rfl
    have l3 : w5.cell? ⟨O6, 3, none⟩ = some (vr1) := (HO.out w5 HB5.out 3 _).1 rfl
    have m3 : w5.cell? ⟨O7, 3, none⟩ = some (vr2) := (HO.out w5 HB5.out 3 _).2 rfl
    have l4 : w5.cell? ⟨O6, 4, none⟩ = some (vq1) := (HO.out w5 HB5.out 4 _).1 rfl
    have m4 : w5.cell? ⟨O7, 4, none⟩ = some (vq2) := (HO.out w5 HB5.out 4 _).2 rfl
    have l5 : w5.cell? ⟨O6, 5, none⟩ = some (.int .u64 (g.next : Int)) := (HO.out w5 HB5.out 5 _).1 rfl
    have m5 : w5.cell? ⟨O7, 5, none⟩ = some (.int .u64 (g'.next : Int)) := (HO.out w5 HB5.out 5 _).2 rfl
    have q := sameGraph17_eq w5.heap.size w5 (Nat.le_refl _) vo2 vs2 vh2 vr2 vq2 _ _ _ _ _ os2 os' ts2 ts' g' ((HG1.out w5 HB5.out).2.mono HB5.out.size) ((HGR.out w5 (HB1.out w5 HB5.out)).2.mono (by have := HB5.out.size; have := HN0.out.1; have := Hn1.out; omega)) (by have := HZ2.out.2.1; unfold gsz szs at this; omega) (sln_of HZ2.out.2.1) (by have := HZ2.out.2.1; unfold gsz szs at this; omega) (by have := HZ2.out.2.1; unfold gsz szs at this; omega) (by have := HZ2.out.2.1; unfold gsz szs at this; omega)
    go_wp2_with fail
    refine q.mono ?_
    rintro e w6 ⟨rfl, bl6⟩
    have HB6 : Hid (Below wc.heap.size wc w6) := HB5.out.trans (bl6.mono HB5.out.size)
    have HB46 : Hid (Below w4.heap.size w4 w6) := HB45.out.trans (bl6.mono HB45.out.size)
    clear q bl6 HB5 HB45 a0 b0 a1 b1 a2 b2 a3 b3 a4 b4 a5 b5 l0 m0 l1 m1 l2 m2 l3 m3 l4 m4 l5 m5
    have q := roomHold_rg ((HBD.out.1.below HB6.out).rg (by have := HBD.out.2; omega))
    go_wp2_with fail
    refine q.mono ?_
    rintro e w7 ⟨rfl, bl7⟩
    have HB7 : Hid (Below wc.heap.size wc w7) := HB6.out.trans (bl7.mono HB6.out.size)
    have HB47 : Hid (Below w4.heap.size w4 w7) := HB46.out.trans (bl7.mono HB46.out.size)
    clear q bl7 HB6 HB46
    have q := sameGrown_yes w7 wc.heap.size w3.heap.size _ _ LL (HGL4.out w7 HB47.out).1 (HGL4.out w7 HB47.out).2 HLL.out
    go_wp2_with fail
    refine q.mono ?_
    rintro e w8 ⟨rfl, bl8⟩
    have HB8 : Hid (Below wc.heap.size wc w8) := HB7.out.trans (bl8.mono HB7.out.size)
    clear q bl8 HB7 HB47 HGL4
    have l0 : w8.cell? ⟨O6, 0, none⟩ = some (vo1) := (HO.out w8 HB8.out 0 _).1 rfl
    have m0 : w8.cell? ⟨O7, 0, none⟩ = some (vo2) := (HO.out w8 HB8.out 0 _).2 rfl
    have l1 : w8.cell? ⟨O6, 1, none⟩ = some (vs1) := (HO.out w8 HB8.out 1 _).1 rfl
    have m1 : w8.cell? ⟨O7, 1, none⟩ = some (vs2) := (HO.out w8 HB8.out 1 _).2 rfl
    have l2 : w8.cell? ⟨O6, 2, none⟩ = some (vh1) := (HO.out w8 HB8.out 2 _).1 rfl
    have m2 : w8.cell? ⟨O7, 2, none⟩ = some (vh2) := (HO.out w8 HB8.out 2 _).2 rfl
    have l3 : w8.cell? ⟨O6, 3, none⟩ = some (vr1) := (HO.out w8 HB8.out 3 _).1 rfl
    have m3 : w8.cell? ⟨O7, 3, none⟩ = some (vr2) := (HO.out w8 HB8.out 3 _).2 rfl
    have l4 : w8.cell? ⟨O6, 4, none⟩ = some (vq1) := (HO.out w8 HB8.out 4 _).1 rfl
    have m4 : w8.cell? ⟨O7, 4, none⟩ = some (vq2) := (HO.out w8 HB8.out 4 _).2 rfl
    have l5 : w8.cell? ⟨O6, 5, none⟩ = some (.int .u64 (g.next : Int)) := (HO.out w8 HB8.out 5 _).1 rfl
    have m5 : w8.cell? ⟨O7, 5, none⟩ = some (.int .u64 (g'.next : Int)) := (HO.out w8 HB8.out 5 _).2 rfl
    have hl8 : Lent w8 N [] n1 vo1 vs1 vh1 vr1 vq1 os1 ts1 g ∧ Lent w8 N [] n1 vo2 vs2 vh2 vr2 vq2 os2 ts2 g' := ⟨HLN.out.1.stp (Stp.below HB8.out), HLN.out.2.stp (Stp.below HB8.out)⟩
    have hn8 : n1 ≤ w8.heap.size := Nat.le_trans HN0.out.1 HB8.out.size
    have q := turned17_any hl8.1 hn8 (by have := HZ2.out.1.1; unfold gsz szs at this; omega) (fun x hx => by have := (swb_of HZ2.out.1.1).l x hx; omega) (by have := HZ2.out.1.1; unfold gsz szs at this; omega) (by have := HZ2.out.1.1; unfold gsz szs at this; omega)
    go_wp2_with fail
    refine q.mono ?_
    rintro e w9 ⟨rfl, sh9, bn9, kp9⟩
    have HO9 : Hid (∀ j v, ((gcs vo1 vs1 vh1 vr1 vq1 g.next)[j]? = some v → w9.cell? ⟨O6, j, none⟩ = some v) ∧ ((gcs vo2 vs2 vh2 vr2 vq2 g'.next)[j]? = some v → w9.cell? ⟨O7, j, none⟩ = some v)) := fun j v => ⟨fun h => (kp9.c O6 j (Nat.lt_of_lt_of_le HO67.out.1 HB8.out.size) (by rw [HN0.out.2.1]; exact Nat.zero_le _)).trans ((HO.out w8 HB8.out j v).1 h), fun h => (kp9.c O7 j (Nat.lt_of_lt_of_le HO67.out.2 HB8.out.size) (by rw [HN0.out.2.2]; exact Nat.zero_le _)).trans ((HO.out w8 HB8.out j v).2 h)⟩
    obtain ⟨os3, ts3, g3, hl3, hr3, hz3, hx3, -⟩ := hl8.1.shp sh9 HZ2.out.1.2
    obtain ⟨os4, ts4, g4, hl4, hr4, hz4, hx4, -⟩ := hl8.2.shp sh9 HZ2.out.2.2
    have HL9 : Hid (Lent w9 N [] n1 vo1 vs1 vh1 vr1 vq1 os3 ts3 g3 ∧ Lent w9 N [] n1 vo2 vs2 vh2 vr2 vq2 os4 ts4 g4) := ⟨hl3, hl4⟩
    have HZ9 : Hid (((gsz os3 ts3 g3 ≤ 1048576 ∧ ∀ x, x ∈ os3 → obR x.o) ∧ (gsz os4 ts4 g4 ≤ 1048576 ∧ ∀ x, x ∈ os4 → obR x.o)) ∧ g3.next = g.next ∧ g4.next = g'.next) := ⟨⟨⟨by rw [hz3]; exact HZ2.out.1.1, hr3⟩, by rw [hz4]; exact HZ2.out.2.1, hr4⟩, hx3, hx4⟩
    have HB9 : Hid (Below n1 w1 w9 ∧ n1 ≤ w9.heap.size ∧ O6 < w9.heap.size ∧ O7 < w9.heap.size) := ⟨(HB1.out w8 HB8.out).trans bn9, Nat.le_trans hn8 sh9.s, Nat.lt_of_lt_of_le HO67.out.1 (Nat.le_trans HB8.out.size sh9.s), Nat.lt_of_lt_of_le HO67.out.2 (Nat.le_trans HB8.out.size sh9.s)⟩
    clear q sh9 bn9 kp9 hl8 hn8 hl3 hr3 hz3 hx3 hl4 hr4 hz4 hx4 HO HB8 HBD HLN HG1 l0 m0 l1 m1 l2 m2 l3 m3 l4 m4 l5 m5
    have l0 : w9.cell? ⟨O6, 0, none⟩ = some (vo1) := (HO9.out 0 _).1 rfl
    have m0 : w9.cell? ⟨O7, 0, none⟩ = some (vo2) := (HO9.out 0 _).2 rfl
    have l1 : w9.cell? ⟨O6, 1, none⟩ = some (vs1) := (HO9.out 1 _).1 rfl
    have m1 : w9.cell? ⟨O7, 1, none⟩ = some (vs2) := (HO9.out 1 _).2 rfl
    have l2 : w9.cell? ⟨O6, 2, none⟩ = some (vh1) := (HO9.out 2 _).1 rfl
    have m2 : w9.cell? ⟨O7, 2, none⟩ = some (vh2) := (HO9.out 2 _).2 rfl
    have l3 : w9.cell? ⟨O6, 3, none⟩ = some (vr1) := (HO9.out 3 _).1 rfl
    have m3 : w9.cell? ⟨O7, 3, none⟩ = some (vr2) := (HO9.out 3 _).2 rfl
    have l4 : w9.cell? ⟨O6, 4, none⟩ = some (vq1) := (HO9.out 4 _).1 rfl
    have m4 : w9.cell? ⟨O7, 4, none⟩ = some (vq2) := (HO9.out 4 _).2 rfl
    have l5 : w9.cell? ⟨O6, 5, none⟩ = some (.int .u64 (g.next : Int)) := (HO9.out 5 _).1 rfl
    have m5 : w9.cell? ⟨O7, 5, none⟩ = some (.int .u64 (g'.next : Int)) := (HO9.out 5 _).2 rfl
    have q := turned17_any HL9.out.2 HB9.out.2.1 (by have := HZ9.out.1.2.1; unfold gsz szs at this; omega) (fun x hx => by have := (swb_of HZ9.out.1.2.1).l x hx; omega) (by have := HZ9.out.1.2.1; unfold gsz szs at this; omega) (by have := HZ9.out.1.2.1; unfold gsz szs at this; omega)
    rw [HZ9.out.2.2] at q
    go_wp2_with fail
    refine q.mono ?_
    rintro e wd ⟨rfl, shd, bnd, kpd⟩
    have HOd : Hid (∀ w', Below wd.heap.size wd w' → ∀ j v, ((gcs vo1 vs1 vh1 vr1 vq1 g.next)[j]? = some v → w'.cell? ⟨O6, j, none⟩ = some v) ∧ ((gcs vo2 vs2 vh2 vr2 vq2 g'.next)[j]? = some v → w'.cell? ⟨O7, j, none⟩ = some v)) := fun w' b' j v => ⟨fun h => (b'.cell (p := ⟨O6, j, none⟩) (Nat.lt_of_lt_of_le HB9.out.2.2.1 shd.s)).trans ((kpd.c O6 j HB9.out.2.2.1 (by rw [HN0.out.2.1]; exact Nat.zero_le _)).trans ((HO9.out j v).1 h)), fun h => (b'.cell (p := ⟨O7, j, none⟩) (Nat.lt_of_lt_of_le HB9.out.2.2.2 shd.s)).trans ((kpd.c O7 j HB9.out.2.2.2 (by rw [HN0.out.2.2]; exact Nat.zero_le _)).trans ((HO9.out j v).2 h))⟩
    obtain ⟨os5, ts5, g5, hl5, hr5, hz5, hx5, -⟩ := HL9.out.1.shp shd HZ9.out.1.1.2
    obtain ⟨os6, ts6, g6, hl6, hr6, hz6, hx6, -⟩ := HL9.out.2.shp shd HZ9.out.1.2.2
    have e5 : g5.next = g.next := hx5.trans HZ9.out.2.1
    have e6 : g6.next = g'.next := hx6.trans HZ9.out.2.2
    have z5 : gsz os5 ts5 g5 ≤ 1048576 := by rw [hz5]; exact HZ9.out.1.1.1
    have z6 : gsz os6 ts6 g6 ≤ 1048576 := by rw [hz6]; exact HZ9.out.1.2.1
    have HGd : Hid (∀ w', Below wd.heap.size wd w' → Grd wd.heap.size w' vo1 vs1 vh1 vr1 vq1 os5 ts5 g5 ∧ Grd wd.heap.size w' vo2 vs2 vh2 vr2 vq2 os6 ts6 g6) := fun w' b' => ⟨(hl5.grd hr5 z5 (by rw [e5]; exact hnx)).below b', (hl6.grd hr6 z6 (by rw [e6]; exact hnx')).below b'⟩
    have HZd : Hid ((gsz os5 ts5 g5 ≤ 1048576 ∧ gsz os6 ts6 g6 ≤ 1048576) ∧ g5.next = g.next ∧ g6.next = g'.next) := ⟨⟨z5, z6⟩, e5, e6⟩
    have HBd : Hid (Below n1 w1 wd) := HB9.out.1.trans bnd
    have HNd : Hid (n1 ≤ wd.heap.size) := Nat.le_trans HB9.out.2.1 shd.s
    obtain ⟨rs5, hrs5⟩ := sites_ex (sws os5) (sws os6)
    have HRd : Hid (Sites (sws os5) (sws os6) rs5) := hrs5
    clear q shd bnd kpd hl5 hr5 hz5 hx5 hl6 hr6 hz6 hx6 e5 e6 z5 z6 hrs5 HO9 HL9 HZ9 HB9 l0 m0 l1 m1 l2 m2 l3 m3 l4 m4 l5 m5
    have l0 : wd.cell? ⟨O6, 0, none⟩ = some (vo1) := (HOd.out wd (Below.refl _ _) 0 _).1 rfl
    have m0 : wd.cell? ⟨O7, 0, none⟩ = some (vo2) := (HOd.out wd (Below.refl _ _) 0 _).2 rfl
    have l1 : wd.cell? ⟨O6, 1, none⟩ = some (vs1) := (HOd.out wd (Below.refl _ _) 1 _).1 rfl
    have m1 : wd.cell? ⟨O7, 1, none⟩ = some (vs2) := (HOd.out wd (Below.refl _ _) 1 _).2 rfl
    have l2 : wd.cell? ⟨O6, 2, none⟩ = some (vh1) := (HOd.out wd (Below.refl _ _) 2 _).1 rfl
    have m2 : wd.cell? ⟨O7, 2, none⟩ = some (vh2) := (HOd.out wd (Below.refl _ _) 2 _).2 rfl
    have l3 : wd.cell? ⟨O6, 3, none⟩ = some (vr1) := (HOd.out wd (Below.refl _ _) 3 _).1 rfl
    have m3 : wd.cell? ⟨O7, 3, none⟩ = some (vr2) := (HOd.out wd (Below.refl _ _) 3 _).2 rfl
    have l4 : wd.cell? ⟨O6, 4, none⟩ = some (vq1) := (HOd.out wd (Below.refl _ _) 4 _).1 rfl
    have m4 : wd.cell? ⟨O7, 4, none⟩ = some (vq2) := (HOd.out wd (Below.refl _ _) 4 _).2 rfl
    have l5 : wd.cell? ⟨O6, 5, none⟩ = some (.int .u64 (g.next : Int)) := (HOd.out wd (Below.refl _ _) 5 _).1 rfl
    have m5 : wd.cell? ⟨O7, 5, none⟩ = some (.int .u64 (g'.next : Int)) := (HOd.out wd (Below.refl _ _) 5 _).2 rfl
    have q := lGrown_any wd.heap.size wd (Nat.le_refl _) vo1 vs1 vh1 vr1 vq1 os5 ts5 g5 (HGd.out wd (Below.refl _ _)).1 (swb_of HZd.out.1.1) vo2 vs2 vh2 vr2 vq2 os6 ts6 g6 (HGd.out wd (Below.refl _ _)).2 (swb_of HZd.out.1.2) rs5 HRd.out
    rw [HZd.out.2.1, HZd.out.2.2] at q
    go_wp2_with fail
    refine q.mono ?_
    rintro e we ⟨vl5, rfl, gl5, ble⟩
    have HBe : Hid (Below wd.heap.size wd we) := ble
    have HGLe : Hid (Gl we wd.heap.size vl5 (Lg.gls (sws os5) (sws os6) rs5)) := gl5
    clear q ble gl5 l0 m0 l1 m1 l2 m2 l3 m3 l4 m4 l5 m5
    have l0 : we.cell? ⟨O6, 0, none⟩ = some (vo1) := (HOd.out we HBe.out 0 _).1 rfl
    have m0 : we.cell? ⟨O7, 0, none⟩ = some (vo2) := (HOd.out we HBe.out 0 _).2 rfl
    have l1 : we.cell? ⟨O6, 1, none⟩ = some (vs1) := (HOd.out we HBe.out 1 _).1 rfl
    have m1 : we.cell? ⟨O7, 1, none⟩ = some (vs2) := (HOd.out we HBe.out 1 _).2 rfl
    have l2 : we.cell? ⟨O6, 2, none⟩ = some (vh1) := (HOd.out we HBe.out 2 _).1 rfl
    have m2 : we.cell? ⟨O7, 2, none⟩ = some (vh2) := (HOd.out we HBe.out 2 _).2 rfl
    have l3 : we.cell? ⟨O6, 3, none⟩ = some (vr1) := (HOd.out we HBe.out 3 _).1 rfl
    have m3 : we.cell? ⟨O7, 3, none⟩ = some (vr2) := (HOd.out we HBe.out 3 _).2 rfl
    have l4 : we.cell? ⟨O6, 4, none⟩ = some (vq1) := (HOd.out we HBe.out 4 _).1 rfl
    have m4 : we.cell? ⟨O7, 4, none⟩ = some (vq2) := (HOd.out we HBe.out 4 _).2 rfl
    have l5 : we.cell? ⟨O6, 5, none⟩ = some (.int .u64 (g.next : Int)) := (HOd.out we HBe.out 5 _).1 rfl
    have m5 : we.cell? ⟨O7, 5, none⟩ = some (.int .u64 (g'.next : Int)) := (HOd.out we HBe.out 5 _).2 rfl
    have q := r17Grown_any wd.heap.size we HBe.out.size vo1 vs1 vh1 vr1 vq1 os5 ts5 g5 (HGd.out we HBe.out).1 (swb_of HZd.out.1.1) vo2 vs2 vh2 vr2 vq2 os6 ts6 g6 (HGd.out we HBe.out).2 (swb_of HZd.out.1.2) rs5 HRd.out
    rw [HZd.out.2.1, HZd.out.2.2] at q
    go_wp2_with fail
    refine q.mono ?_
    rintro e wf ⟨vm5, rfl, gm5, blf⟩
    have HBf : Hid (Below n1 w1 wf) := HBd.out.trans ((HBe.out.trans (blf.mono HBe.out.size)).mono HNd.out)
    have HGf : Hid (Gl wf wd.heap.size vl5 (Lg.gls (sws os5) (sws os6) rs5) ∧ Gl wf we.heap.size vm5 (Lg.gls (sws os5) (sws os6) rs5)) := ⟨Gl.below HGLe.out blf, gm5⟩
    clear q blf gm5 l0 m0 l1 m1 l2 m2 l3 m3 l4 m4 l5 m5
    have q := sameGrown_yes wf wd.heap.size we.heap.size vl5 vm5 _ HGf.out.1 HGf.out.2 (gls_short HRd.out (by have := HZd.out.1.1; unfold gsz szs at this; omega) (by have := HZd.out.1.2; unfold gsz szs at this; omega))
    go_wp2_with fail
    refine q.mono ?_
    rintro e wg ⟨rfl, blg⟩
    have HBg : Hid (Below w.heap.size w wg) := by
      have h9 := (HK.out wf HBf.out).1
      rw [← HA.out]
      exact h9.trans (blg.mono (by rw [HA.out]; exact h9.size))
    clear q blg
    go_wp2
    go_ret
    exact ⟨rfl, HBg.out⟩

end Go.Proofs.Ytckcdahjajmddaa
