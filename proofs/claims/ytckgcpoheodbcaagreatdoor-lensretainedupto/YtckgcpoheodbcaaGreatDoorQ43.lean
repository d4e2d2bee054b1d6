import Derived.Test.YtckgcpoheodbcaaGreatDoorQ42
set_option linter.unusedVariables false
set_option maxHeartbeats 8000000
set_option maxRecDepth 20000
namespace Go.Proofs.YtckgcpoheodbcaaGreatDoor
open Go.RowKit Go.Shelf
structure Lent (w : World) (N : Nat → Nat) (F : List Nat) (lo : Nat) (vo vs vh vr vq : Value) (os : List OL) (ts : List (Value × List (Value × List Int))) (g : Im.Gr) : Prop where
 o : ∃ b, GotO w N F lo b vo os
 s : PT lo w N F vs ts
 h : PI lo w N F vh g.hs
 r : PI lo w N F vr g.rg
 q : PI lo w N F vq g.qu
 eo : g.obs = os.map (·.o)
 es : g.slots = ts.map (fun t => t.2.map (·.2))
theorem Lent.stp {w w' : World} {N N' : Nat → Nat} {F F' : List Nat} {lo : Nat} {vo vs vh vr vq : Value} {os : List OL} {ts : List (Value × List (Value × List Int))} {g : Im.Gr} (h : Lent w N F lo vo vs vh vr vq os ts g) (s : Stp w w' F F' N N') : Lent w' N' F' lo vo vs vh vr vq os ts g := by
 obtain ⟨⟨b, h1⟩, h2, h3, h4, h5, h6, h7⟩ := h
 exact ⟨⟨b, h1.stp s⟩, PT.sta lo _ _ _ _ _ _ _ _ h2 s, PI.sta lo _ _ _ _ _ _ _ _ h3 s, PI.sta lo _ _ _ _ _ _ _ _ h4 s, PI.sta lo _ _ _ _ _ _ _ _ h5 s, h6, h7⟩
structure Sml (os : List OL) (ts : List (Value × List (Value × List Int))) (g : Im.Gr) : Prop where
 o : os.length ≤ 2000000
 ol : ∀ x, x ∈ os → x.o.ps.length ≤ 1073741824 ∧ x.o.rs.length ≤ 1073741824
 t : ts.length ≤ 2000000
 tl : ∀ x, x ∈ ts → (x.2.length ≤ 2000000 ∧ ∀ y, y ∈ x.2 → y.2.length ≤ 1073741824)
 tc : csF ts ≤ 100000000
 h : g.hs.length ≤ 1073741824
 r : g.rg.length ≤ 1073741824
 q : g.qu.length ≤ 1073741824
theorem roomGraph_any {w : World} {n1 R : Nat} {N : Nat → Nat} {S : RS} {X : List Nat} (h : Bd w n1 R N S X) (n0 : Nat) (hn : n0 ≤ n1) (hn1 : n1 ≤ w.heap.size) (vo vs vh vr vq : Value) (os : List OL) (ts : List (Value × List (Value × List Int))) (g : Im.Gr) (hg : Grd n0 w vo vs vh vr vq os ts g) (hs : Sml os ts g) (hT : S.tot ≤ 100000000) :
  Calls Tryz.prog 5 #[.pointer (some ⟨R, 0, none⟩), .agg (gcs vo vs vh vr vq g.next)] w fun e w' => ∃ vo' vs' vh' vr' vq', e = .returned (.agg (gcs vo' vs' vh' vr' vq' g.next)) ∧ RPost n1 R N S X w w' (2 * os.length + csF ts + 5) (fun w' N' F' => ∃ os' ts', Lent w' N' F' n1 vo' vs' vh' vr' vq' os' ts' g) := by
 have HBd : Hid (Bd w n1 R N S X) := h
 have HT : Hid (S.tot ≤ 100000000) := hT
 have Hs : Hid (Sml os ts g) := hs
 have Hg : Hid (Grd n0 w vo vs vh vr vq os ts g) := hg
 obtain ⟨aa, ac, rfl, -⟩ := hg.ob
 obtain ⟨ba, bc, rfl, -⟩ := hg.sl
 obtain ⟨ca, cc, rfl, -, -⟩ := hg.hs
 obtain ⟨da, dc, rfl, -, -⟩ := hg.rg
 obtain ⟨ea, ec, rfl, -, -⟩ := hg.qu
 have l1 : Below w.heap.size w (w.alloc (.cells (gcs (.slice aa os.length ac) (.slice ba ts.length bc) (.slice ca g.hs.length cc) (.slice da g.rg.length dc) (.slice ea g.qu.length ec) g.next) 27)) := Below.alloc (Below.refl _ _) (Nat.le_refl _) _
 have l2 := Below.alloc l1 l1.size (.cells (gcs (.slice none 0 0) (.slice none 0 0) (.slice none 0 0) (.slice none 0 0) (.slice none 0 0) 0) 27)
 have hy := ((Below.heap_alloc (w.alloc (.cells (gcs (.slice aa os.length ac) (.slice ba ts.length bc) (.slice ca g.hs.length cc) (.slice da g.rg.length dc) (.slice ea g.qu.length ec) g.next) 27)) (.cells (gcs (.slice none 0 0) (.slice none 0 0) (.slice none 0 0) (.slice none 0 0) (.slice none 0 0) 0) 27) w.heap.size (by simp)).trans (heap_alloc_new w (.cells (gcs (.slice aa os.length ac) (.slice ba ts.length bc) (.slice ca g.hs.length cc) (.slice da g.rg.length dc) (.slice ea g.qu.length ec) g.next) 27 (0, 0))))
 have hz := (heap_alloc_new (w.alloc (.cells (gcs (.slice aa os.length ac) (.slice ba ts.length bc) (.slice ca g.hs.length cc) (.slice da g.rg.length dc) (.slice ea g.qu.length ec) g.next) 27)) (.cells (gcs (.slice none 0 0) (.slice none 0 0) (.slice none 0 0) (.slice none 0 0) (.slice none 0 0) 0) 27 (0, 0)))
 rw [World.size_alloc] at hz
 have hws : ((w.alloc (.cells (gcs (.slice aa os.length ac) (.slice ba ts.length bc) (.slice ca g.hs.length cc) (.slice da g.rg.length dc) (.slice ea g.qu.length ec) g.next) 27)).alloc (.cells (gcs (.slice none 0 0) (.slice none 0 0) (.slice none 0 0) (.slice none 0 0) (.slice none 0 0) 0) 27)).heap.size = w.heap.size + 2 := by simp
 have Hl : Hid (Below w.heap.size w ((w.alloc (.cells (gcs (.slice aa os.length ac) (.slice ba ts.length bc) (.slice ca g.hs.length cc) (.slice da g.rg.length dc) (.slice ea g.qu.length ec) g.next) 27)).alloc (.cells (gcs (.slice none 0 0) (.slice none 0 0) (.slice none 0 0) (.slice none 0 0) (.slice none 0 0) 0) 27))) := l2
 clear l1 l2 h hT hs hg
 go_enter Tryz.func5, Tryz.ntmps5
 go_upto_region 1 with fail
 rw [show (#[.slice none 0 0, .slice none 0 0, .slice none 0 0, .slice none 0 0, .slice none 0 0, .int .u64 0] : Array Value) = gcs (.slice none 0 0) (.slice none 0 0) (.slice none 0 0) (.slice none 0 0) (.slice none 0 0) 0 from rfl]
 generalize (w.alloc (.cells (gcs (.slice aa os.length ac) (.slice ba ts.length bc) (.slice ca g.hs.length cc) (.slice da g.rg.length dc) (.slice ea g.qu.length ec) g.next) 27)).alloc (.cells (gcs (.slice none 0 0) (.slice none 0 0) (.slice none 0 0) (.slice none 0 0) (.slice none 0 0) 0) 27) = W at *
 have hdb : Below w.heap.size w W.drew := Hl.out.drew
 have hBm := HBd.out.move (N' := N) (X' := (w.heap.size + 1) :: X) (Kg.Touch.of_below hdb X) (fun k hk => by rcases List.mem_cons.1 hk with rfl | h1; exact ⟨by show w.heap.size + 1 < W.heap.size; omega, .inr (by omega)⟩; exact ⟨Nat.lt_of_lt_of_le (HBd.out.x k h1).1 hdb.size, .inl h1⟩) (fun _ _ _ => rfl) (fun k hk => HBd.out.d k (Nat.le_trans hdb.size hk)) (fun k hk => by rcases List.mem_cons.1 hk with rfl | h1; exact HBd.out.d _ (by omega); exact HBd.out.z k (List.mem_append_left _ h1))
 have hB0 : Bd W.drew n1 R N S ((w.heap.size + 1) :: X) := hBm.1
 have HSt0 : Hid (Stp w W.drew (X ++ S.F R) (((w.heap.size + 1) :: X) ++ S.F R) N N) := hBm.2
 have HtW : Hid (Kg.Touch (S.F R) w W.drew) := Kg.Touch.of_below hdb _
 clear hBm
 have HPn : Hid (∀ k, k ∈ S.F R → k < w.heap.size) := fun k hk => (HBd.out.lt k hk).1
 have HPc : Hid (∀ w' F' N', Stp W.drew w' (((w.heap.size + 1) :: X) ++ S.F R) F' N N' → w'.cell? ⟨w.heap.size, 0, none⟩ = some (.slice aa os.length ac) ∧ w'.cell? ⟨w.heap.size, 1, none⟩ = some (.slice ba ts.length bc) ∧ w'.cell? ⟨w.heap.size, 2, none⟩ = some (.slice ca g.hs.length cc) ∧ w'.cell? ⟨w.heap.size, 3, none⟩ = some (.slice da g.rg.length dc) ∧ w'.cell? ⟨w.heap.size, 4, none⟩ = some (.slice ea g.qu.length ec) ∧ w'.cell? ⟨w.heap.size, 5, none⟩ = some (.int .u64 g.next)) := fun w' F' N' st => by
  have hlt : w.heap.size < W.drew.heap.size := by show w.heap.size < W.heap.size; omega
  have hno : w.heap.size ∉ ((w.heap.size + 1) :: X) ++ S.F R := fun hk => by
   rcases List.mem_append.1 hk with h1 | h1
   ·rcases List.mem_cons.1 h1 with h2 | h2
    ·omega
    ·exact Nat.lt_irrefl _ (HBd.out.x _ h2).1
   ·exact Nat.lt_irrefl _ (HPn.out _ h1)
  exact ⟨(st.cell hlt hno).trans (Kg.heap_cell hy 0), (st.cell hlt hno).trans (Kg.heap_cell hy 1), (st.cell hlt hno).trans (Kg.heap_cell hy 2), (st.cell hlt hno).trans (Kg.heap_cell hy 3), (st.cell hlt hno).trans (Kg.heap_cell hy 4), (st.cell hlt hno).trans (Kg.heap_cell hy 5)⟩
 have Hz0 : Hid (W.drew.heap[w.heap.size + 1]? = some (.cells (gcs (.slice none 0 0) (.slice none 0 0) (.slice none 0 0) (.slice none 0 0) (.slice none 0 0) 0) 27 (0, 0))) := hz
 have HGn : Hid (∀ w', Below n0 w w' → Grd n0 w' (.slice aa os.length ac) (.slice ba ts.length bc) (.slice ca g.hs.length cc) (.slice da g.rg.length dc) (.slice ea g.qu.length ec) os ts g) := fun w' b' => Hg.out.below b'
 have hb0 : Below n0 w W.drew := hdb.mono (Nat.le_trans hn hn1)
 have hW1 : n1 ≤ W.drew.heap.size := Nat.le_trans hn1 hdb.size
 have hc1 := roomObjects_any hB0 n0 hn (.slice aa os.length ac) os (HGn.out _ hb0).ob Hs.out.o Hs.out.ol (by have := HT.out; have := Hs.out.o; omega) hW1
 have HF : Hid (∀ w1 N1 S1, Bd w1 n1 R N1 S1 ((w.heap.size + 1) :: X) → Below n0 w w1 → n1 ≤ w1.heap.size → S1.tot ≤ 200000000 → Calls Tryz.prog 15 #[.pointer (some ⟨R, 0, none⟩), .slice ba ts.length bc] w1 fun e w' => ∃ u, e = .returned u ∧ RPost n1 R N1 S1 ((w.heap.size + 1) :: X) w1 w' (csF ts + 1) (fun w' N' F' => ∃ fs', fs'.map (fun t => t.2.map (·.2)) = ts.map (fun t => t.2.map (·.2)) ∧ PT n1 w' N' F' u fs')) := fun w1 N1 S1 bd b' hn1' hT => roomFrames_any bd n0 hn _ ts (HGn.out _ b').sl Hs.out.t Hs.out.tl (by have := Hs.out.tc; omega) hn1'
 have HH : Hid (∀ w1 N1 S1, Bd w1 n1 R N1 S1 ((w.heap.size + 1) :: X) → Below n0 w w1 → n1 ≤ w1.heap.size → S1.tot ≤ 900000000 → Calls Tryz.prog 16 #[.pointer (some ⟨R, 0, none⟩), .slice ca g.hs.length cc] w1 fun e w' => ∃ u, e = .returned u ∧ RPost n1 R N1 S1 ((w.heap.size + 1) :: X) w1 w' 1 (fun w' N' F' => ∃ b, Got w' N' F' n1 b .i64 u g.hs)) := fun w1 N1 S1 bd b' hn1' hT => roomInts_any bd n0 (Nat.le_trans hn hn1') _ g.hs (HGn.out _ b').hs Hs.out.h (by omega) hn1'
 have HR : Hid (∀ w1 N1 S1, Bd w1 n1 R N1 S1 ((w.heap.size + 1) :: X) → Below n0 w w1 → n1 ≤ w1.heap.size → S1.tot ≤ 900000000 → Calls Tryz.prog 16 #[.pointer (some ⟨R, 0, none⟩), .slice da g.rg.length dc] w1 fun e w' => ∃ u, e = .returned u ∧ RPost n1 R N1 S1 ((w.heap.size + 1) :: X) w1 w' 1 (fun w' N' F' => ∃ b, Got w' N' F' n1 b .i64 u g.rg)) := fun w1 N1 S1 bd b' hn1' hT => roomInts_any bd n0 (Nat.le_trans hn hn1') _ g.rg (HGn.out _ b').rg Hs.out.r (by omega) hn1'
 have HQ : Hid (∀ w1 N1 S1, Bd w1 n1 R N1 S1 ((w.heap.size + 1) :: X) → Below n0 w w1 → n1 ≤ w1.heap.size → S1.tot ≤ 900000000 → Calls Tryz.prog 16 #[.pointer (some ⟨R, 0, none⟩), .slice ea g.qu.length ec] w1 fun e w' => ∃ u, e = .returned u ∧ RPost n1 R N1 S1 ((w.heap.size + 1) :: X) w1 w' 1 (fun w' N' F' => ∃ b, Got w' N' F' n1 b .i64 u g.qu)) := fun w1 N1 S1 bd b' hn1' hT => roomInts_any bd n0 (Nat.le_trans hn hn1') _ g.qu (HGn.out _ b').qu Hs.out.q (by omega) hn1'
 have HTb : Hid (∀ w1 w2 N1 S1, Bd w1 n1 R N1 S1 ((w.heap.size + 1) :: X) → Below n0 w w1 → n1 ≤ w1.heap.size → Kg.Touch (S1.F R) w1 w2 → Below n0 w w2 ∧ n1 ≤ w2.heap.size) := fun w1 w2 N1 S1 bd b' hn1' t => ⟨b'.trans (t.below (Nat.le_trans hn hn1') (fun q hq => Nat.le_trans hn (bd.lt q hq).2)), Nat.le_trans hn1' t.size⟩
 obtain ⟨c0, c1, c2, c3, c4, c5⟩ := HPc.out W.drew _ N (Stp.refl _ _ _)
 have k0 : W.cell? ⟨w.heap.size, 0, none⟩ = some (.slice aa os.length ac) := c0
 have k1 : W.cell? ⟨w.heap.size, 1, none⟩ = some (.slice ba ts.length bc) := c1
 have k2 : W.cell? ⟨w.heap.size, 2, none⟩ = some (.slice ca g.hs.length cc) := c2
 have k3 : W.cell? ⟨w.heap.size, 3, none⟩ = some (.slice da g.rg.length dc) := c3
 have k4 : W.cell? ⟨w.heap.size, 4, none⟩ = some (.slice ea g.qu.length ec) := c4
 have k5 : W.cell? ⟨w.heap.size, 5, none⟩ = some (.int .u64 g.next) := c5
 have HT0 : Hid (S.tot ≤ 100000000 ∧ os.length ≤ 2000000 ∧ csF ts ≤ 100000000) := ⟨HT.out, Hs.out.o, Hs.out.tc⟩
 clear hy hz
 clear c0 c1 c2 c3 c4 c5
 refine wp_region_held_drew (S := (fun w' => w'.cell? ⟨w.heap.size, 0, none⟩ = some (.slice aa os.length ac) ∧ w'.cell? ⟨w.heap.size, 1, none⟩ = some (.slice ba ts.length bc) ∧ w'.cell? ⟨w.heap.size, 2, none⟩ = some (.slice ca g.hs.length cc) ∧ w'.cell? ⟨w.heap.size, 3, none⟩ = some (.slice da g.rg.length dc) ∧ w'.cell? ⟨w.heap.size, 4, none⟩ = some (.slice ea g.qu.length ec) ∧ w'.cell? ⟨w.heap.size, 5, none⟩ = some (.int .u64 g.next))) Kg.mixed (And.intro k0 (And.intro k1 (And.intro k2 (And.intro k3 (And.intro k4 k5))))) (fun hHeld => ?_)
 clear k0 k1 k2 k3 k4 k5
 refine wpAnyH_take (i := 0) (v := (.pointer (some ⟨R, 0, none⟩))) rfl (by kernel_rfl) (by kernel_rfl) (by kernel_rfl) (fun _ _ _ h => h) (Or.inl ⟨by rfl, fun wx hSw => ?_⟩) (by assumption) ?_
 ·go_simp
 change wpAnyH _ _ _ _ _ _ _ (Act.put _ (some 5) (.pointer (some ⟨R, 0, none⟩))) _
 simp only [Act.put, List.setIfInBounds_toArray, List.set_cons_zero, List.set_cons_succ]
 refine wpAnyH_take (i := 1) (v := (.pointer (some ⟨w.heap.size, 0, none⟩))) rfl (by kernel_rfl) (by kernel_rfl) (by kernel_rfl) (fun _ _ _ h => h) (Or.inl ⟨by rfl, fun wx hSw => ?_⟩) (by assumption) ?_
 ·go_simp
 change wpAnyH _ _ _ _ _ _ _ (Act.put _ (some 6) (.pointer (some ⟨w.heap.size, 0, none⟩))) _
 simp only [Act.put, List.setIfInBounds_toArray, List.set_cons_zero, List.set_cons_succ]
 refine wpAnyH_take (i := 2) (v := (.slice aa os.length ac)) rfl (by kernel_rfl) (by kernel_rfl) (by kernel_rfl) (fun _ _ _ h => h) (Or.inl ⟨by rfl, fun wx hSw => ?_⟩) (by assumption) ?_
 ·obtain ⟨s0, s1, s2, s3, s4, s5⟩ := hSw; go_simp
 change wpAnyH _ _ _ _ _ _ _ (Act.put _ (some 7) (.slice aa os.length ac)) _
 simp only [Act.put, List.setIfInBounds_toArray, List.set_cons_zero, List.set_cons_succ]
 refine wpAnyH_take (i := 4) (v := (.pointer (some ⟨R, 0, none⟩))) rfl (by kernel_rfl) (by kernel_rfl) (by kernel_rfl) (fun _ _ _ h => h) (Or.inl ⟨by rfl, fun wx hSw => ?_⟩) (by assumption) ?_
 ·go_simp
 change wpAnyH _ _ _ _ _ _ _ (Act.put _ (some 9) (.pointer (some ⟨R, 0, none⟩))) _
 simp only [Act.put, List.setIfInBounds_toArray, List.set_cons_zero, List.set_cons_succ]
 refine wpAnyH_take (i := 5) (v := (.pointer (some ⟨w.heap.size, 1, none⟩))) rfl (by kernel_rfl) (by kernel_rfl) (by kernel_rfl) (fun _ _ _ h => h) (Or.inl ⟨by rfl, fun wx hSw => ?_⟩) (by assumption) ?_
 ·go_simp
 change wpAnyH _ _ _ _ _ _ _ (Act.put _ (some 10) (.pointer (some ⟨w.heap.size, 1, none⟩))) _
 simp only [Act.put, List.setIfInBounds_toArray, List.set_cons_zero, List.set_cons_succ]
 refine wpAnyH_take (i := 6) (v := (.slice ba ts.length bc)) rfl (by kernel_rfl) (by kernel_rfl) (by kernel_rfl) (fun _ _ _ h => h) (Or.inl ⟨by rfl, fun wx hSw => ?_⟩) (by assumption) ?_
 ·obtain ⟨s0, s1, s2, s3, s4, s5⟩ := hSw; go_simp
 change wpAnyH _ _ _ _ _ _ _ (Act.put _ (some 11) (.slice ba ts.length bc)) _
 simp only [Act.put, List.setIfInBounds_toArray, List.set_cons_zero, List.set_cons_succ]
 refine wpAnyH_take (i := 8) (v := (.pointer (some ⟨R, 0, none⟩))) rfl (by kernel_rfl) (by kernel_rfl) (by kernel_rfl) (fun _ _ _ h => h) (Or.inl ⟨by rfl, fun wx hSw => ?_⟩) (by assumption) ?_
 ·go_simp
 change wpAnyH _ _ _ _ _ _ _ (Act.put _ (some 13) (.pointer (some ⟨R, 0, none⟩))) _
 simp only [Act.put, List.setIfInBounds_toArray, List.set_cons_zero, List.set_cons_succ]
 refine wpAnyH_take (i := 9) (v := (.pointer (some ⟨w.heap.size, 2, none⟩))) rfl (by kernel_rfl) (by kernel_rfl) (by kernel_rfl) (fun _ _ _ h => h) (Or.inl ⟨by rfl, fun wx hSw => ?_⟩) (by assumption) ?_
 ·go_simp
 change wpAnyH _ _ _ _ _ _ _ (Act.put _ (some 14) (.pointer (some ⟨w.heap.size, 2, none⟩))) _
 simp only [Act.put, List.setIfInBounds_toArray, List.set_cons_zero, List.set_cons_succ]
 refine wpAnyH_take (i := 10) (v := (.slice ca g.hs.length cc)) rfl (by kernel_rfl) (by kernel_rfl) (by kernel_rfl) (fun _ _ _ h => h) (Or.inl ⟨by rfl, fun wx hSw => ?_⟩) (by assumption) ?_
 ·obtain ⟨s0, s1, s2, s3, s4, s5⟩ := hSw; go_simp
 change wpAnyH _ _ _ _ _ _ _ (Act.put _ (some 15) (.slice ca g.hs.length cc)) _
 simp only [Act.put, List.setIfInBounds_toArray, List.set_cons_zero, List.set_cons_succ]
 refine wpAnyH_take (i := 12) (v := (.pointer (some ⟨R, 0, none⟩))) rfl (by kernel_rfl) (by kernel_rfl) (by kernel_rfl) (fun _ _ _ h => h) (Or.inl ⟨by rfl, fun wx hSw => ?_⟩) (by assumption) ?_
 ·go_simp
 change wpAnyH _ _ _ _ _ _ _ (Act.put _ (some 17) (.pointer (some ⟨R, 0, none⟩))) _
 simp only [Act.put, List.setIfInBounds_toArray, List.set_cons_zero, List.set_cons_succ]
 refine wpAnyH_take (i := 13) (v := (.pointer (some ⟨w.heap.size, 3, none⟩))) rfl (by kernel_rfl) (by kernel_rfl) (by kernel_rfl) (fun _ _ _ h => h) (Or.inl ⟨by rfl, fun wx hSw => ?_⟩) (by assumption) ?_
 ·go_simp
 change wpAnyH _ _ _ _ _ _ _ (Act.put _ (some 18) (.pointer (some ⟨w.heap.size, 3, none⟩))) _
 simp only [Act.put, List.setIfInBounds_toArray, List.set_cons_zero, List.set_cons_succ]
 refine wpAnyH_take (i := 14) (v := (.slice da g.rg.length dc)) rfl (by kernel_rfl) (by kernel_rfl) (by kernel_rfl) (fun _ _ _ h => h) (Or.inl ⟨by rfl, fun wx hSw => ?_⟩) (by assumption) ?_
 ·obtain ⟨s0, s1, s2, s3, s4, s5⟩ := hSw; go_simp
 change wpAnyH _ _ _ _ _ _ _ (Act.put _ (some 19) (.slice da g.rg.length dc)) _
 simp only [Act.put, List.setIfInBounds_toArray, List.set_cons_zero, List.set_cons_succ]
 refine wpAnyH_take (i := 16) (v := (.pointer (some ⟨R, 0, none⟩))) rfl (by kernel_rfl) (by kernel_rfl) (by kernel_rfl) (fun _ _ _ h => h) (Or.inl ⟨by rfl, fun wx hSw => ?_⟩) (by assumption) ?_
 ·go_simp
 change wpAnyH _ _ _ _ _ _ _ (Act.put _ (some 21) (.pointer (some ⟨R, 0, none⟩))) _
 simp only [Act.put, List.setIfInBounds_toArray, List.set_cons_zero, List.set_cons_succ]
 refine wpAnyH_take (i := 17) (v := (.pointer (some ⟨w.heap.size, 4, none⟩))) rfl (by kernel_rfl) (by kernel_rfl) (by kernel_rfl) (fun _ _ _ h => h) (Or.inl ⟨by rfl, fun wx hSw => ?_⟩) (by assumption) ?_
 ·go_simp
 change wpAnyH _ _ _ _ _ _ _ (Act.put _ (some 22) (.pointer (some ⟨w.heap.size, 4, none⟩))) _
 simp only [Act.put, List.setIfInBounds_toArray, List.set_cons_zero, List.set_cons_succ]
 refine wpAnyH_take (i := 18) (v := (.slice ea g.qu.length ec)) rfl (by kernel_rfl) (by kernel_rfl) (by kernel_rfl) (fun _ _ _ h => h) (Or.inl ⟨by rfl, fun wx hSw => ?_⟩) (by assumption) ?_
 ·obtain ⟨s0, s1, s2, s3, s4, s5⟩ := hSw; go_simp
 change wpAnyH _ _ _ _ _ _ _ (Act.put _ (some 23) (.slice ea g.qu.length ec)) _
 simp only [Act.put, List.setIfInBounds_toArray, List.set_cons_zero, List.set_cons_succ]
 refine wpAnyH_take (i := 20) (v := (.pointer (some ⟨w.heap.size, 5, none⟩))) rfl (by kernel_rfl) (by kernel_rfl) (by kernel_rfl) (fun _ _ _ h => h) (Or.inl ⟨by rfl, fun wx hSw => ?_⟩) (by assumption) ?_
 ·go_simp
 change wpAnyH _ _ _ _ _ _ _ (Act.put _ (some 25) (.pointer (some ⟨w.heap.size, 5, none⟩))) _
 simp only [Act.put, List.setIfInBounds_toArray, List.set_cons_zero, List.set_cons_succ]
 refine wpAnyH_take (i := 21) (v := (.int .u64 g.next)) rfl (by kernel_rfl) (by kernel_rfl) (by kernel_rfl) (fun _ _ _ h => h) (Or.inl ⟨by rfl, fun wx hSw => ?_⟩) (by assumption) ?_
 ·obtain ⟨s0, s1, s2, s3, s4, s5⟩ := hSw; go_simp
 change wpAnyH _ _ _ _ _ _ _ (Act.put _ (some 26) (.int .u64 g.next)) _
 simp only [Act.put, List.setIfInBounds_toArray, List.set_cons_zero, List.set_cons_succ]
 refine wpAnyH_ready (rs := [3]) (by kernel_rfl) (by simp) (AllReadyH.cons rfl (fun K hK => ?_) AllReadyH.nil)
 go_simp
 refine hc1.mono ?_
 rintro e w1 ⟨u1, rfl, N1, S1, ⟨L1, b1, hL1, hG1⟩, bd1, st1, tc1, tt1⟩
 clear hc1
 have z1 := (tc1.block (w.heap.size + 1) (Kg.heap_lt Hz0.out) (hB0.x _ (by simp)).2).trans Hz0.out
 have hu1 := hG1.is
 subst hu1
 obtain ⟨hb1, hn1a⟩ := HTb.out _ _ _ _ hB0 hb0 hW1 tc1
 have hc2 := HF.out w1 N1 S1 bd1 hb1 hn1a (by have := HT0.out; omega)
 refine hK.out _ _ (⟨(HPc.out w1 _ N1 st1).1, (HPc.out w1 _ N1 st1).2.1, (HPc.out w1 _ N1 st1).2.2.1, (HPc.out w1 _ N1 st1).2.2.2.1, (HPc.out w1 _ N1 st1).2.2.2.2.1, (HPc.out w1 _ N1 st1).2.2.2.2.2⟩) (fun hHeld3 => ?_)
 clear hK K hHeld
 have hHeld := hHeld3
 clear hHeld3
 refine wpAnyH_ready (rs := [7]) (by kernel_rfl) (by simp) (AllReadyH.cons rfl (fun K hK => ?_) AllReadyH.nil)
 go_simp
 refine hc2.mono ?_
 rintro e w2 ⟨u2, rfl, N2, S2, ⟨L2, hL2, ⟨b2, hG2⟩⟩, bd2, st2, tc2, tt2⟩
 clear hc2
 have z2 := (tc2.block (w.heap.size + 1) (Kg.heap_lt z1) (bd1.x _ (by simp)).2).trans z1
 have hu2 := hG2.is
 subst hu2
 have st12 := st1.trans st2
 obtain ⟨hb2, hn2a⟩ := HTb.out _ _ _ _ bd1 hb1 hn1a tc2
 have hc3 := HH.out w2 N2 S2 bd2 hb2 hn2a (by have := HT0.out; omega)
 refine hK.out _ _ (⟨(HPc.out w2 _ N2 st12).1, (HPc.out w2 _ N2 st12).2.1, (HPc.out w2 _ N2 st12).2.2.1, (HPc.out w2 _ N2 st12).2.2.2.1, (HPc.out w2 _ N2 st12).2.2.2.2.1, (HPc.out w2 _ N2 st12).2.2.2.2.2⟩) (fun hHeld7 => ?_)
 clear hK K hHeld
 have hHeld := hHeld7
 clear hHeld7
 refine wpAnyH_ready (rs := [11]) (by kernel_rfl) (by simp) (AllReadyH.cons rfl (fun K hK => ?_) AllReadyH.nil)
 go_simp
 refine hc3.mono ?_
 rintro e w3 ⟨u3, rfl, N3, S3, ⟨b3, hG3⟩, bd3, st3, tc3, tt3⟩
 clear hc3
 have z3 := (tc3.block (w.heap.size + 1) (Kg.heap_lt z2) (bd2.x _ (by simp)).2).trans z2
 have hu3 := hG3.is
 subst hu3
 have st13 := st12.trans st3
 obtain ⟨hb3, hn3a⟩ := HTb.out _ _ _ _ bd2 hb2 hn2a tc3
 have hc4 := HR.out w3 N3 S3 bd3 hb3 hn3a (by have := HT0.out; omega)
 refine hK.out _ _ (⟨(HPc.out w3 _ N3 st13).1, (HPc.out w3 _ N3 st13).2.1, (HPc.out w3 _ N3 st13).2.2.1, (HPc.out w3 _ N3 st13).2.2.2.1, (HPc.out w3 _ N3 st13).2.2.2.2.1, (HPc.out w3 _ N3 st13).2.2.2.2.2⟩) (fun hHeld11 => ?_)
 clear hK K hHeld
 have hHeld := hHeld11
 clear hHeld11
 refine wpAnyH_ready (rs := [15]) (by kernel_rfl) (by simp) (AllReadyH.cons rfl (fun K hK => ?_) AllReadyH.nil)
 go_simp
 refine hc4.mono ?_
 rintro e w4 ⟨u4, rfl, N4, S4, ⟨b4, hG4⟩, bd4, st4, tc4, tt4⟩
 clear hc4
 have z4 := (tc4.block (w.heap.size + 1) (Kg.heap_lt z3) (bd3.x _ (by simp)).2).trans z3
 have hu4 := hG4.is
 subst hu4
 have st14 := st13.trans st4
 obtain ⟨hb4, hn4a⟩ := HTb.out _ _ _ _ bd3 hb3 hn3a tc4
 have hc5 := HQ.out w4 N4 S4 bd4 hb4 hn4a (by have := HT0.out; omega)
 refine hK.out _ _ (⟨(HPc.out w4 _ N4 st14).1, (HPc.out w4 _ N4 st14).2.1, (HPc.out w4 _ N4 st14).2.2.1, (HPc.out w4 _ N4 st14).2.2.2.1, (HPc.out w4 _ N4 st14).2.2.2.2.1, (HPc.out w4 _ N4 st14).2.2.2.2.2⟩) (fun hHeld15 => ?_)
 clear hK K hHeld
 have hHeld := hHeld15
 clear hHeld15
 refine wpAnyH_ready (rs := [19]) (by kernel_rfl) (by simp) (AllReadyH.cons rfl (fun K hK => ?_) AllReadyH.nil)
 go_simp
 refine hc5.mono ?_
 rintro e w5 ⟨u5, rfl, N5, S5, ⟨b5, hG5⟩, bd5, st5, tc5, tt5⟩
 clear hc5
 have z5 := (tc5.block (w.heap.size + 1) (Kg.heap_lt z4) (bd4.x _ (by simp)).2).trans z4
 have hu5 := hG5.is
 subst hu5
 have st15 := st14.trans st5
 refine hK.out _ _ (⟨(HPc.out w5 _ N5 st15).1, (HPc.out w5 _ N5 st15).2.1, (HPc.out w5 _ N5 st15).2.2.1, (HPc.out w5 _ N5 st15).2.2.2.1, (HPc.out w5 _ N5 st15).2.2.2.2.1, (HPc.out w5 _ N5 st15).2.2.2.2.2⟩) (fun hHeld19 => ?_)
 clear hK K hHeld
 have hHeld := hHeld19
 clear hHeld19
 refine wpAnyH_take (i := 22) (v := .agg (gcs (.slice (some ⟨b1, 0, none⟩) L1.length (L1.length + 8)) (.slice (some ⟨b2, 0, none⟩) L2.length (L2.length + 8)) (.slice (some ⟨b3, 0, none⟩) g.hs.length (g.hs.length + 40)) (.slice (some ⟨b4, 0, none⟩) g.rg.length (g.rg.length + 40)) (.slice (some ⟨b5, 0, none⟩) g.qu.length (g.qu.length + 40)) g.next)) rfl (by kernel_rfl) (by kernel_rfl) (by kernel_rfl) (fun _ _ _ h => h) (Or.inl ⟨by rfl, fun wx hSw => ?_⟩) (by assumption) ?_
 ·go_simp
 change wpAnyH _ _ _ _ _ _ _ (Act.put _ (some 27) (.agg (gcs (.slice (some ⟨b1, 0, none⟩) L1.length (L1.length + 8)) (.slice (some ⟨b2, 0, none⟩) L2.length (L2.length + 8)) (.slice (some ⟨b3, 0, none⟩) g.hs.length (g.hs.length + 40)) (.slice (some ⟨b4, 0, none⟩) g.rg.length (g.rg.length + 40)) (.slice (some ⟨b5, 0, none⟩) g.qu.length (g.qu.length + 40)) g.next))) _
 simp only [Act.put, List.setIfInBounds_toArray, List.set_cons_zero, List.set_cons_succ]
 have jz := z5
 have hw5 : w.heap.size + 1 < w5.heap.size := Kg.heap_lt jz
 have t6 : Kg.Touch [w.heap.size + 1] w5 (w5.setRow (w.heap.size + 1) (gcs (.slice (some ⟨b1, 0, none⟩) L1.length (L1.length + 8)) (.slice (some ⟨b2, 0, none⟩) L2.length (L2.length + 8)) (.slice (some ⟨b3, 0, none⟩) g.hs.length (g.hs.length + 40)) (.slice (some ⟨b4, 0, none⟩) g.rg.length (g.rg.length + 40)) (.slice (some ⟨b5, 0, none⟩) g.qu.length (g.qu.length + 40)) g.next)) := ⟨rfl, rfl, rfl, by simp, fun k _ hk => setRow_other w5 _ k _ (fun e => hk (by simp [e]))⟩
 have h6 : w.heap.size < w5.heap.size := by omega
 have hS6 : ∀ j, (w5.setRow (w.heap.size + 1) (gcs (.slice (some ⟨b1, 0, none⟩) L1.length (L1.length + 8)) (.slice (some ⟨b2, 0, none⟩) L2.length (L2.length + 8)) (.slice (some ⟨b3, 0, none⟩) g.hs.length (g.hs.length + 40)) (.slice (some ⟨b4, 0, none⟩) g.rg.length (g.rg.length + 40)) (.slice (some ⟨b5, 0, none⟩) g.qu.length (g.qu.length + 40)) g.next)).cell? ⟨w.heap.size, j, none⟩ = w5.cell? ⟨w.heap.size, j, none⟩ := fun j => World.cell?_of_block (w := w5) (t6.block _ h6 (by simp))
 refine wpAnyH_ready (rs := [23]) (by kernel_rfl) (by simp) (AllReadyH.cons rfl (fun K hK => ?_) AllReadyH.nil)
 rw [if_pos (by rfl)]
 refine wp_store_row 27 (.tmp 4) (.tmp 27) rfl (w.heap.size + 1) (gcs (.slice (some ⟨b1, 0, none⟩) L1.length (L1.length + 8)) (.slice (some ⟨b2, 0, none⟩) L2.length (L2.length + 8)) (.slice (some ⟨b3, 0, none⟩) g.hs.length (g.hs.length + 40)) (.slice (some ⟨b4, 0, none⟩) g.rg.length (g.rg.length + 40)) (.slice (some ⟨b5, 0, none⟩) g.qu.length (g.qu.length + 40)) g.next) rfl rfl 27 _ jz (by kernel_rfl) rfl (by simp [Value.oneCell']) ?_
 refine hK.out _ _ ⟨by rw [hS6]; exact hHeld.1, by rw [hS6]; exact hHeld.2.1, by rw [hS6]; exact hHeld.2.2.1, by rw [hS6]; exact hHeld.2.2.2.1, by rw [hS6]; exact hHeld.2.2.2.2.1, by rw [hS6]; exact hHeld.2.2.2.2.2⟩ (fun hHeld6 => ?_)
 clear hK K
 refine wpAnyH_done (by kernel_rfl) ?_ _
 have hm6 := bd5.move (N' := N5) (X' := X) (t6.mono (fun k hk => .inl (List.mem_cons.2 (.inl (List.mem_singleton.1 hk))))) (fun k hk => ⟨Nat.lt_of_lt_of_le (bd5.x k (List.mem_cons_of_mem _ hk)).1 t6.size, .inl (List.mem_cons_of_mem _ hk)⟩) (fun _ _ _ => rfl) (fun k hk => bd5.d k (Nat.le_trans t6.size hk)) (fun k hk => bd5.z k (List.mem_append_left _ (List.mem_cons_of_mem _ hk)))
 have HSf : ∀ (w' : World) (N' : Nat → Nat) (S' : RS), Bd w' n1 R N' S' ((w.heap.size + 1) :: X) → Stp W.drew w' (((w.heap.size + 1) :: X) ++ S.F R) (((w.heap.size + 1) :: X) ++ S'.F R) N N' → ∀ k, k ∈ S'.F R → k ∈ S.F R ∨ w.heap.size ≤ k := fun w' N' S' bd st k hk => by
  rcases st.f k (List.mem_append_right _ hk) with h1 | h1
  ·rcases List.mem_append.1 h1 with h2 | h2
   ·exact absurd hk (bd.x k h2).2
   ·exact .inl h2
  ·exact .inr (Nat.le_trans hdb.size h1)
 have T1 : Kg.Touch (S.F R) w w1 := HtW.out.trans tc1
 have T2 : Kg.Touch (S.F R) w w2 := T1.then tc2 (HSf _ _ _ bd1 st1)
 have T3 : Kg.Touch (S.F R) w w3 := T2.then tc3 (HSf _ _ _ bd2 st12)
 have T4 : Kg.Touch (S.F R) w w4 := T3.then tc4 (HSf _ _ _ bd3 st13)
 have T5 : Kg.Touch (S.F R) w w5 := T4.then tc5 (HSf _ _ _ bd4 st14)
 have T6 : Kg.Touch (S.F R) w (w5.setRow (w.heap.size + 1) (gcs (.slice (some ⟨b1, 0, none⟩) L1.length (L1.length + 8)) (.slice (some ⟨b2, 0, none⟩) L2.length (L2.length + 8)) (.slice (some ⟨b3, 0, none⟩) g.hs.length (g.hs.length + 40)) (.slice (some ⟨b4, 0, none⟩) g.rg.length (g.rg.length + 40)) (.slice (some ⟨b5, 0, none⟩) g.qu.length (g.qu.length + 40)) g.next)) := T5.then t6 (fun k hk => by simp at hk; exact .inr (by omega))
 have S6 : Stp w (w5.setRow (w.heap.size + 1) (gcs (.slice (some ⟨b1, 0, none⟩) L1.length (L1.length + 8)) (.slice (some ⟨b2, 0, none⟩) L2.length (L2.length + 8)) (.slice (some ⟨b3, 0, none⟩) g.hs.length (g.hs.length + 40)) (.slice (some ⟨b4, 0, none⟩) g.rg.length (g.rg.length + 40)) (.slice (some ⟨b5, 0, none⟩) g.qu.length (g.qu.length + 40)) g.next)) (X ++ S.F R) (X ++ S5.F R) N N5 := (HSt0.out.trans st15).trans hm6.2
 have s25 := (st2.trans st3).trans (st4.trans st5)
 have HLent : Hid (Lent (w5.setRow (w.heap.size + 1) (gcs (.slice (some ⟨b1, 0, none⟩) L1.length (L1.length + 8)) (.slice (some ⟨b2, 0, none⟩) L2.length (L2.length + 8)) (.slice (some ⟨b3, 0, none⟩) g.hs.length (g.hs.length + 40)) (.slice (some ⟨b4, 0, none⟩) g.rg.length (g.rg.length + 40)) (.slice (some ⟨b5, 0, none⟩) g.qu.length (g.qu.length + 40)) g.next)) N5 (X ++ S5.F R) n1 (.slice (some ⟨b1, 0, none⟩) L1.length (L1.length + 8)) (.slice (some ⟨b2, 0, none⟩) L2.length (L2.length + 8)) (.slice (some ⟨b3, 0, none⟩) g.hs.length (g.hs.length + 40)) (.slice (some ⟨b4, 0, none⟩) g.rg.length (g.rg.length + 40)) (.slice (some ⟨b5, 0, none⟩) g.qu.length (g.qu.length + 40)) L1 L2 g) :=
  ⟨⟨b1, (hG1.stp s25).stp hm6.2⟩, PT.sta n1 _ _ _ _ _ _ _ _ ⟨b2, (hG2.stp (PL.sta n1) (st3.trans (st4.trans st5)))⟩ hm6.2, ⟨b3, (hG3.stp (st4.trans st5)).stp hm6.2⟩, ⟨b4, (hG4.stp st5).stp hm6.2⟩, ⟨b5, hG5.stp hm6.2⟩, by rw [Hg.out.eo, hL1], by rw [Hg.out.es, hL2]⟩
 have HP6 : Hid (Bd (w5.setRow (w.heap.size + 1) (gcs (.slice (some ⟨b1, 0, none⟩) L1.length (L1.length + 8)) (.slice (some ⟨b2, 0, none⟩) L2.length (L2.length + 8)) (.slice (some ⟨b3, 0, none⟩) g.hs.length (g.hs.length + 40)) (.slice (some ⟨b4, 0, none⟩) g.rg.length (g.rg.length + 40)) (.slice (some ⟨b5, 0, none⟩) g.qu.length (g.qu.length + 40)) g.next)) n1 R N5 S5 X ∧ Stp w (w5.setRow (w.heap.size + 1) (gcs (.slice (some ⟨b1, 0, none⟩) L1.length (L1.length + 8)) (.slice (some ⟨b2, 0, none⟩) L2.length (L2.length + 8)) (.slice (some ⟨b3, 0, none⟩) g.hs.length (g.hs.length + 40)) (.slice (some ⟨b4, 0, none⟩) g.rg.length (g.rg.length + 40)) (.slice (some ⟨b5, 0, none⟩) g.qu.length (g.qu.length + 40)) g.next)) (X ++ S.F R) (X ++ S5.F R) N N5 ∧ Kg.Touch (S.F R) w (w5.setRow (w.heap.size + 1) (gcs (.slice (some ⟨b1, 0, none⟩) L1.length (L1.length + 8)) (.slice (some ⟨b2, 0, none⟩) L2.length (L2.length + 8)) (.slice (some ⟨b3, 0, none⟩) g.hs.length (g.hs.length + 40)) (.slice (some ⟨b4, 0, none⟩) g.rg.length (g.rg.length + 40)) (.slice (some ⟨b5, 0, none⟩) g.qu.length (g.qu.length + 40)) g.next)) ∧ S5.tot = S.tot + (2 * os.length + csF ts + 5)) := ⟨hm6.1, S6, T6, by omega⟩
 have z6 : (w5.setRow (w.heap.size + 1) (gcs (.slice (some ⟨b1, 0, none⟩) L1.length (L1.length + 8)) (.slice (some ⟨b2, 0, none⟩) L2.length (L2.length + 8)) (.slice (some ⟨b3, 0, none⟩) g.hs.length (g.hs.length + 40)) (.slice (some ⟨b4, 0, none⟩) g.rg.length (g.rg.length + 40)) (.slice (some ⟨b5, 0, none⟩) g.qu.length (g.qu.length + 40)) g.next)).heap[w.heap.size + 1]? = some (.cells (gcs (.slice (some ⟨b1, 0, none⟩) L1.length (L1.length + 8)) (.slice (some ⟨b2, 0, none⟩) L2.length (L2.length + 8)) (.slice (some ⟨b3, 0, none⟩) g.hs.length (g.hs.length + 40)) (.slice (some ⟨b4, 0, none⟩) g.rg.length (g.rg.length + 40)) (.slice (some ⟨b5, 0, none⟩) g.qu.length (g.qu.length + 40)) g.next) 27 (0, 0)) := setRow_heap w5 _ _ _ _ _ jz
 generalize w5.setRow (w.heap.size + 1) (gcs (.slice (some ⟨b1, 0, none⟩) L1.length (L1.length + 8)) (.slice (some ⟨b2, 0, none⟩) L2.length (L2.length + 8)) (.slice (some ⟨b3, 0, none⟩) g.hs.length (g.hs.length + 40)) (.slice (some ⟨b4, 0, none⟩) g.rg.length (g.rg.length + 40)) (.slice (some ⟨b5, 0, none⟩) g.qu.length (g.qu.length + 40)) g.next) = w6 at *
 have x0 := Kg.heap_cell z6 0
 have x1 := Kg.heap_cell z6 1
 have x2 := Kg.heap_cell z6 2
 have x3 := Kg.heap_cell z6 3
 have x4 := Kg.heap_cell z6 4
 have x5 := Kg.heap_cell z6 5
 simp only [List.getElem?_toArray, List.getElem?_cons_zero, List.getElem?_cons_succ] at x0 x1 x2 x3 x4 x5
 clear hm6 HSf T1 T2 T3 T4 T5 T6 S6 s25 z6 jz t6 hS6 hHeld6 hHeld
 change Exit.then _ _ Exit.normal (Act.put _ none undef) _
 simp only [Act.put]
 go_wp2
 refine bodyPost_ret (by simp [results, Tryz.results5, go_sem, x0, x1, x2, x3, x4, x5]; try rfl) rfl ?_
 exact ⟨_, _, _, _, _, rfl, N5, S5, ⟨L1, L2, HLent.out⟩, HP6.out.1, HP6.out.2.1, HP6.out.2.2.1, HP6.out.2.2.2⟩
end Go.Proofs.YtckgcpoheodbcaaGreatDoor
