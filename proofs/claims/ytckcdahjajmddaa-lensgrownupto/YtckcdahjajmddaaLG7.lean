/-
  Growth by site: the program's Grown.
-/
import Derived.Test.YtckcdahjajmddaaLG6
import Derived.Test.YtckcdahjajmddaaRM8
set_option linter.unusedVariables false
set_option maxRecDepth 20000
namespace Go.Proofs.Ytckcdahjajmddaa
open Go.RowKit Go.Maps Go.Sort Go.Shelf

theorem Gb.mono {f : Int → Option (Int × Int)} {a b c d : Int} (h : Gb f a b) (h1 : a ≤ c) (h2 : b ≤ d) : Gb f c d := fun y => by
  have := h y
  omega

theorem gb_none : Gb (fun _ => none) 0 0 := fun y => by simp

theorem infoG : (Try.prog.info? 55).map (fun i => (i.zero, i.size, i.bytes)) = some (some (.agg #[.int .i64 0, .int .i64 0, .int .i64 0]), 3, 24) := by kernel_rfl

/-- Which sites there are, rising. -/
structure Sites (b a : List (Int × Nat)) (rs : List Int) : Prop where
  r : rs.Pairwise (· < ·)
  m : ∀ x, x ∈ rs ↔ (Lg.at' b x || Lg.at' a x) = true

set_option maxHeartbeats 8000000 in
theorem lGrown_any (n0 : Nat) (w : World) (hn0 : n0 ≤ w.heap.size) (vo vs vh vr vq : Value) (os : List OL) (ts : List (Value × List (Value × List Int))) (g : Im.Gr) (hg : Grd n0 w vo vs vh vr vq os ts g) (hb : Swb os)
    (vo' vs' vh' vr' vq' : Value) (os' : List OL) (ts' : List (Value × List (Value × List Int))) (g' : Im.Gr) (hg' : Grd n0 w vo' vs' vh' vr' vq' os' ts' g') (hb' : Swb os') (rs : List Int) (hrs : Sites (sws os) (sws os') rs) :
    Calls Try.prog 5 #[.agg (gcs vo vs vh vr vq g.next), .agg (gcs vo' vs' vh' vr' vq' g'.next)] w fun e w' => ∃ v, e = .returned v ∧ Gl w' w.heap.size v (Lg.gls (sws os) (sws os') rs) ∧ Below w.heap.size w w' := by
  have HG : Hid (∀ w', Below w.heap.size w w' → Grd n0 w' vo vs vh vr vq os ts g ∧ Grd n0 w' vo' vs' vh' vr' vq' os' ts' g') := fun w' b' => ⟨hg.below (b'.mono hn0), hg'.below (b'.mono hn0)⟩
  have HB : Hid (Swb os ∧ Swb os' ∧ Sites (sws os) (sws os') rs) := ⟨hb, hb', hrs⟩
  have HN : Hid (n0 ≤ w.heap.size) := hn0
  obtain ⟨aa, ac, rfl, -⟩ := hg.ob
  obtain ⟨ba, bc, rfl, -⟩ := hg.sl
  obtain ⟨ca, cc, rfl, -, -⟩ := hg.hs
  obtain ⟨da, dc, rfl, -, -⟩ := hg.rg
  obtain ⟨qa, qc, rfl, -, -⟩ := hg.qu
  obtain ⟨aa', ac', rfl, -⟩ := hg'.ob
  obtain ⟨ba', bc', rfl, -⟩ := hg'.sl
  obtain ⟨ca', cc', rfl, -, -⟩ := hg'.hs
  obtain ⟨da', dc', rfl, -, -⟩ := hg'.rg
  obtain ⟨qa', qc', rfl, -, -⟩ := hg'.qu
  have HIN : Hid (∀ x, (Lg.at' (sws os) x || Lg.at' (sws os') x) = true → InI x) := fun x hx => by
    rcases Bool.or_eq_true _ _ ▸ hx with h | h
    · obtain ⟨y, hy, rfl⟩ := Lg.at_iff.1 h
      obtain ⟨z, hz, rfl⟩ := List.mem_map.1 hy
      exact (hg.sr z.o (by rw [hg.eo]; exact List.mem_map_of_mem hz)).2.2.1
    · obtain ⟨y, hy, rfl⟩ := Lg.at_iff.1 h
      obtain ⟨z, hz, rfl⟩ := List.mem_map.1 hy
      exact (hg'.sr z.o (by rw [hg'.eo]; exact List.mem_map_of_mem hz)).2.2.1
  clear hg hg' hb hb' hrs hn0
  go_enter Try.func5, Try.ntmps5
  go_upto_region 1 with fail
  have l1 := Below.alloc (Below.refl w.heap.size w) (Nat.le_refl _) (.cells (gcs (.slice aa os.length ac) (.slice ba ts.length bc) (.slice ca g.hs.length cc) (.slice da g.rg.length dc) (.slice qa g.qu.length qc) g.next) 27)
  have x1 := heap_alloc_new w (.cells (gcs (.slice aa os.length ac) (.slice ba ts.length bc) (.slice ca g.hs.length cc) (.slice da g.rg.length dc) (.slice qa g.qu.length qc) g.next) 27 (0, 0))
  have s1 : (w.alloc (.cells (gcs (.slice aa os.length ac) (.slice ba ts.length bc) (.slice ca g.hs.length cc) (.slice da g.rg.length dc) (.slice qa g.qu.length qc) g.next) 27)).heap.size = w.heap.size + 1 := by simp
  have l2 := Below.alloc l1 l1.size (.cells (gcs (.slice aa' os'.length ac') (.slice ba' ts'.length bc') (.slice ca' g'.hs.length cc') (.slice da' g'.rg.length dc') (.slice qa' g'.qu.length qc') g'.next) 27)
  have x2 := heap_alloc_new (w.alloc (.cells (gcs (.slice aa os.length ac) (.slice ba ts.length bc) (.slice ca g.hs.length cc) (.slice da g.rg.length dc) (.slice qa g.qu.length qc) g.next) 27)) (.cells (gcs (.slice aa' os'.length ac') (.slice ba' ts'.length bc') (.slice ca' g'.hs.length cc') (.slice da' g'.rg.length dc') (.slice qa' g'.qu.length qc') g'.next) 27 (0, 0))
  have y1 := (Below.heap_alloc (w.alloc (.cells (gcs (.slice aa os.length ac) (.slice ba ts.length bc) (.slice ca g.hs.length cc) (.slice da g.rg.length dc) (.slice qa g.qu.length qc) g.next) 27)) (.cells (gcs (.slice aa' os'.length ac') (.slice ba' ts'.length bc') (.slice ca' g'.hs.length cc') (.slice da' g'.rg.length dc') (.slice qa' g'.qu.length qc') g'.next) 27 (0, 0)) _ (Kg.heap_lt x1)).trans x1
  have s2 : ((w.alloc (.cells (gcs (.slice aa os.length ac) (.slice ba ts.length bc) (.slice ca g.hs.length cc) (.slice da g.rg.length dc) (.slice qa g.qu.length qc) g.next) 27)).alloc (.cells (gcs (.slice aa' os'.length ac') (.slice ba' ts'.length bc') (.slice ca' g'.hs.length cc') (.slice da' g'.rg.length dc') (.slice qa' g'.qu.length qc') g'.next) 27)).heap.size = w.heap.size + 2 := by simp
  rw [s1] at x2
  change Code.wp _ _ _ _ ((w.alloc (.cells (gcs (.slice aa os.length ac) (.slice ba ts.length bc) (.slice ca g.hs.length cc) (.slice da g.rg.length dc) (.slice qa g.qu.length qc) g.next) 27)).alloc (.cells (gcs (.slice aa' os'.length ac') (.slice ba' ts'.length bc') (.slice ca' g'.hs.length cc') (.slice da' g'.rg.length dc') (.slice qa' g'.qu.length qc') g'.next) 27))
  generalize (w.alloc (.cells (gcs (.slice aa os.length ac) (.slice ba ts.length bc) (.slice ca g.hs.length cc) (.slice da g.rg.length dc) (.slice qa g.qu.length qc) g.next) 27)).alloc (.cells (gcs (.slice aa' os'.length ac') (.slice ba' ts'.length bc') (.slice ca' g'.hs.length cc') (.slice da' g'.rg.length dc') (.slice qa' g'.qu.length qc') g'.next) 27) = W at *
  have b3 := Below.alloc (Below.refl W.heap.size W) (Nat.le_refl _) (.map #[] 0)
  have m3 := Mg.made W
  have e1 := (b3.block _ (Kg.heap_lt y1)).trans y1
  have e2 := (b3.block _ (Kg.heap_lt x2)).trans x2
  clear l1 x1 s1 x2 y1
  rw [s2] at b3 m3
  have hmm := @run_makeMap Try.prog
  go_upto_region 2 with fail
  clear hmm
  change Code.wp _ _ _ _ (W.alloc (.map #[] 0))
  generalize W.alloc (.map #[] 0) = w2 at *
  have B2 : Hid (Below w.heap.size w w2) := l2.trans (b3.mono (by omega))
  generalize hA : w.heap.size = A at *
  obtain ⟨k0, k1, k2, k3, k4, k5⟩ : w2.cell? ⟨A, 0, none⟩ = some (.slice aa os.length ac) ∧ w2.cell? ⟨A, 1, none⟩ = some (.slice ba ts.length bc) ∧ w2.cell? ⟨A, 2, none⟩ = some (.slice ca g.hs.length cc) ∧ w2.cell? ⟨A, 3, none⟩ = some (.slice da g.rg.length dc) ∧ w2.cell? ⟨A, 4, none⟩ = some (.slice qa g.qu.length qc) ∧ w2.cell? ⟨A, 5, none⟩ = some (.int .u64 (g.next : Int)) := ⟨Kg.heap_cell e1 0, Kg.heap_cell e1 1, Kg.heap_cell e1 2, Kg.heap_cell e1 3, Kg.heap_cell e1 4, Kg.heap_cell e1 5⟩
  have hC := lCount_any n0 w2 (by have := HN.out; have := B2.out.size; omega) _ _ _ _ _ os ts g (HG.out w2 B2.out).1 HB.out.1 (-1) (.inr rfl) (A + 2) 0 _ m3 (by have := HN.out; omega) (gb_none.mono (by omega) (by omega)) (by omega)
  go_wp2_with fail
  refine hC.mono ?_
  rintro e w3 ⟨rfl, m4, t4⟩
  have B3 : Hid (Below A w w3) := B2.out.trans (t4.below (by have := B2.out.size; omega) (fun k hk => by simp at hk; omega))
  have e3 := (t4.block _ (Kg.heap_lt e2) (by simp)).trans e2
  clear hC k0 k1 k2 k3 k4 k5 e1 e2 m3 t4 B2
  obtain ⟨k0, k1, k2, k3, k4, k5⟩ : w3.cell? ⟨A + 1, 0, none⟩ = some (.slice aa' os'.length ac') ∧ w3.cell? ⟨A + 1, 1, none⟩ = some (.slice ba' ts'.length bc') ∧ w3.cell? ⟨A + 1, 2, none⟩ = some (.slice ca' g'.hs.length cc') ∧ w3.cell? ⟨A + 1, 3, none⟩ = some (.slice da' g'.rg.length dc') ∧ w3.cell? ⟨A + 1, 4, none⟩ = some (.slice qa' g'.qu.length qc') ∧ w3.cell? ⟨A + 1, 5, none⟩ = some (.int .u64 (g'.next : Int)) := ⟨Kg.heap_cell e3 0, Kg.heap_cell e3 1, Kg.heap_cell e3 2, Kg.heap_cell e3 3, Kg.heap_cell e3 4, Kg.heap_cell e3 5⟩
  have hl1 := HB.out.1.n
  have hl2 := HB.out.2.1.n
  have ht1 := HB.out.1.t
  have hsl : (sws os).length = os.length := by simp [sws]
  have hC := lCount_any n0 w3 (by have := HN.out; have := B3.out.size; omega) _ _ _ _ _ os' ts' g' (HG.out w3 B3.out).2 HB.out.2.1 1 (.inl rfl) (A + 2) _ _ m4 (by have := HN.out; omega) ((gb_none.fst (l := sws os) (.inr rfl)).mono (by omega) (by omega)) (by omega)
  go_wp2_with fail
  refine hC.mono ?_
  rintro e w4 ⟨rfl, m5, t5⟩
  have B4 : Hid (Below A w w4) := B3.out.trans (t5.below (by have := B3.out.size; omega) (fun k hk => by simp at hk; omega))
  rw [fst_two] at m5
  clear hC k0 k1 k2 k3 k4 k5 e3 m4 t5 B3
  have M5 : Hid (Mg w4 (A + 2) (0 + os.length + os'.length) (fun y => if Lg.at' (sws os) y || Lg.at' (sws os') y then some (Lg.cnt (sws os') y - Lg.cnt (sws os) y, Lg.wds (sws os') y - Lg.wds (sws os) y) else none)) := m5
  obtain ⟨D, hD, hD2⟩ := m5
  have hsz := size_le hD
  have hK := mKeys_any (some (A + 2)) w4
  have hS := sorted_any (A + 2) _ D gEl w4 hD (by simp only [maxLen]; omega) (by omega)
  go_wp2_with fail
  refine hK.mono ?_
  rintro e w5 ⟨rfl, rfl⟩
  go_wp2_with fail
  refine hS.mono ?_
  rintro e w6 ⟨v6, ss, rfl, hp, h6, b6⟩
  have hrise := keys_rise hD hD2 HB.out.2.2.r (fun x => by
    rw [HB.out.2.2.m x]
    constructor
    · intro h
      exact ⟨HIN.out x h, by simp only [h, if_true]; rfl⟩
    · rintro ⟨-, h⟩
      by_cases h9 : (Lg.at' (sws os) x || Lg.at' (sws os') x) = true
      · exact h9
      · simp [h9] at h) hp
  have hlen : ss.length = rs.length := by rw [← hrise, List.length_mergeSort]
  rw [hrise, hlen] at h6
  have b5 := Below.alloc (Below.refl w4.heap.size w4) (Nat.le_refl _) (.cells #[.map (some (A + 2))] 48)
  have b46 : Below w4.heap.size w4 w6 := b5.trans (b6.mono b5.size)
  have M6 : Hid (Mg w6 (A + 2) (0 + os.length + os'.length) (fun y => if Lg.at' (sws os) y || Lg.at' (sws os') y then some (Lg.cnt (sws os') y - Lg.cnt (sws os) y, Lg.wds (sws os') y - Lg.wds (sws os) y) else none)) := M5.out.below b46
  have B6 : Hid (Below A w w6) := B4.out.trans (b46.mono (by have := B4.out.size; omega))
  obtain ⟨a6, c6, rfl⟩ := own_slI h6
  have HR6 : Hid (∀ (i : Nat) x, rs[i]? = some x → ∃ g6, a6 = some ⟨g6, 0, none⟩ ∧ g6 < w6.heap.size ∧ w6.cell? ⟨g6, i, none⟩ = some (.int .i64 x)) := fun i x hx => by
    obtain ⟨a', cap', h1, h2, h3⟩ := row_at (Kg.row_base h6 (Nat.zero_le _)) (by decide)
    cases h1
    obtain ⟨q, k1, k2, k3⟩ := h3 i (.int .i64 x) (by rw [List.getElem?_map, hx]; rfl)
    exact ⟨q, k1, k2, k3⟩
  have hrl : rs.length ≤ os.length + os'.length := by
    have h9 := hp.length_eq
    rw [hlen] at h9
    have h8 : (intKeys D).length = Maps.size D := by
      obtain ⟨es, clock, -, -, -, rfl⟩ := hD
      simp [intKeys, Maps.size]
    omega
  have hBs : A ≤ w6.heap.size := by have := B6.out.size; omega
  have hmbl : A + 2 < w6.heap.size := M6.out.lt
  clear hK hS hp h6 b6 b5 b46 hD hD2 hsz hrise hlen M5 B4
  obtain ⟨i0, hi0, hj0, hj1, hj2⟩ := info_parts infoG
  have HI : Hid (Try.prog.info? 55 = some i0 ∧ i0.zero = some (.agg #[.int .i64 0, .int .i64 0, .int .i64 0]) ∧ i0.size = 3 ∧ i0.bytes = 24) := ⟨hi0, hj0, hj1, hj2⟩
  clear hi0 hj0 hj1 hj2
  go_wp2
  go_loopw [6, 21] (fun v6 v21 wr => ∃ i : Nat, i ≤ rs.length ∧ v21 = .int .i64 i ∧ Hid (Below w6.heap.size w6 wr ∧ Gl wr w6.heap.size v6 (Lg.gls (sws os) (sws os') (rs.take i)))) (fun _ v21 _ => rs.length - (intOf v21).toNat)
  case atStart => exact ⟨0, Nat.zero_le _, rfl, Below.refl _ _, World.ownsRow_nil _ _ _ _⟩
  case round =>
    obtain ⟨i, hi, rfl, HR⟩ := hrel
    obtain ⟨a7, c7, rfl⟩ := own_slI HR.out.2
    by_cases hil : i < rs.length
    · have hiI : (i : Int) < (rs.length : Int) := by omega
      have hz : rs[i]? = some (rs[i]'hil) := List.getElem?_eq_getElem hil
      generalize rs[i]'hil = s at hz
      obtain ⟨g6, rfl, hg6, hce⟩ := HR6.out i s hz
      have cc := (HR.out.1.cell (p := ⟨g6, i, none⟩) hg6).trans hce
      have hs1 : (Lg.at' (sws os) s || Lg.at' (sws os') s) = true := (HB.out.2.2.m s).1 (List.mem_of_getElem? hz)
      have hsI := HIN.out s hs1
      obtain ⟨g0, hg0, hlk⟩ := ((M6.out.keep (HR.out.1.block _ hmbl))).look3 hsI
      simp only [hs1, if_true, Option.getD_some] at hlk
      have hg0 : g0 = s := hg0 (by simp only [hs1, if_true]; rfl)
      subst hg0
      have HGS : Hid (Lg.gls (sws os) (sws os') (rs.take (i + 1)) = Lg.gls (sws os) (sws os') (rs.take i) ++ (if Lg.cnt (sws os') g0 - Lg.cnt (sws os) g0 = 0 ∧ Lg.wds (sws os') g0 - Lg.wds (sws os) g0 = 0 then [] else [(g0, Lg.cnt (sws os') g0 - Lg.cnt (sws os) g0, Lg.wds (sws os') g0 - Lg.wds (sws os) g0)])) := by
        show _ = _
        rw [List.take_add_one, hz]
        exact Lg.gls_snoc _ _ _ _
      generalize Lg.cnt (sws os') g0 - Lg.cnt (sws os) g0 = o1 at *
      generalize Lg.wds (sws os') g0 - Lg.wds (sws os) g0 = v1 at *
      go_upto_region 9 with fail
      have b1 := Below.alloc (Below.refl wr.heap.size wr) (Nat.le_refl _) (.cells #[.int .i64 g0, .int .i64 o1, .int .i64 v1] 55)
      have x1 := heap_alloc_new wr (.cells #[.int .i64 g0, .int .i64 o1, .int .i64 v1] 55 (0, 0))
      have hLl : (Lg.gls (sws os) (sws os') (rs.take i)).length ≤ rs.length := by
        have := Lg.gls_len (sws os) (sws os') (rs.take i)
        rw [List.length_take] at this
        omega
      have HR1 : Hid (Below w6.heap.size w6 (wr.alloc (.cells #[.int .i64 g0, .int .i64 o1, .int .i64 v1] 55)) ∧ Gl (wr.alloc (.cells #[.int .i64 g0, .int .i64 o1, .int .i64 v1] 55)) w6.heap.size (.slice a7 (Lg.gls (sws os) (sws os') (rs.take i)).length c7) (Lg.gls (sws os) (sws os') (rs.take i))) := ⟨HR.out.1.trans (b1.mono HR.out.1.size), HR.out.2.alloc _⟩
      change Code.wp _ _ _ _ (wr.alloc (.cells #[.int .i64 g0, .int .i64 o1, .int .i64 v1] 55))
      generalize wr.alloc (.cells #[.int .i64 g0, .int .i64 o1, .int .i64 v1] 55) = w1 at *
      generalize wr.heap.size = O at *
      have d0 := (Kg.heap_cell x1 0).trans (show _ = some (Value.int .i64 g0) from rfl)
      have d1 := (Kg.heap_cell x1 1).trans (show _ = some (Value.int .i64 o1) from rfl)
      have d2 := (Kg.heap_cell x1 2).trans (show _ = some (Value.int .i64 v1) from rfl)
      generalize hLe : Lg.gls (sws os) (sws os') (rs.take i) = L at *
      clear b1 x1 HR hce hlk cc hs1
      by_cases hz0 : o1 = 0 ∧ v1 = 0
      · obtain ⟨rfl, rfl⟩ := hz0
        go_wp2
        go_roundw
        case rel => exact ⟨i + 1, by omega, by go_num, HR1.out.1, by rw [HGS.out, if_pos ⟨rfl, rfl⟩, List.append_nil]; exact HR1.out.2⟩
        case measure => simp [intOf]; omega
      · have HRow : Hid ((w1.alloc (.cells #[.int .i64 g0, .int .i64 o1, .int .i64 v1] 55)).ownsRow w6.heap.size 55 3 (.slice a7 L.length c7) L.length (gcl L)) := HR1.out.2.alloc _
        have HSz : Hid (w6.heap.size ≤ (w1.alloc (.cells #[.int .i64 g0, .int .i64 o1, .int .i64 v1] 55)).heap.size) := by have := HR1.out.1.size; show _ ≤ _; simp; omega
        have hcase : (∃ _ : o1 ≠ 0, True) ∨ (o1 = 0 ∧ v1 ≠ 0) := by
          by_cases h1 : o1 = 0
          · exact .inr ⟨h1, fun h => hz0 ⟨h1, h⟩⟩
          · exact .inl ⟨h1, trivial⟩
        have FINI : Hid (∀ v8 w8, w8.ownsRow w6.heap.size 55 3 v8 (L.length + 1) (gcl L ++ #[.int .i64 g0, .int .i64 o1, .int .i64 v1].toList) → (w1.alloc (.cells #[.int .i64 g0, .int .i64 o1, .int .i64 v1] 55)).grownBy w8 (Value.slice a7 L.length c7).ownBlock → Below w6.heap.size w6 w8 ∧ Gl w8 w6.heap.size v8 (Lg.gls (sws os) (sws os') (rs.take (i + 1)))) := fun v8 w8 h8 g8 => by
          refine ⟨HR1.out.1.trans ?_, ?_⟩
          · have b9 := Below.alloc (Below.refl w1.heap.size w1) (Nat.le_refl _) (.cells #[.int .i64 g0, .int .i64 o1, .int .i64 v1] 55)
            refine (b9.mono HR1.out.1.size).trans ((Kg.Touch.grown (F := (Value.slice a7 L.length c7).ownBlock.toList) g8 (fun k hk => by rw [Option.mem_toList]; exact hk.symm ▸ rfl)).below HSz.out (fun k hk => ?_))
            rw [Option.mem_toList] at hk
            exact (HR1.out.2.lt k hk).1
          · rw [HGS.out, if_neg hz0]
            show w8.ownsRow _ _ _ _ (L ++ [_]).length (gcl (L ++ [_]))
            rw [gcl_snoc, List.length_append]
            exact h8
        rcases hcase with ⟨h1, -⟩ | ⟨h1, h2⟩
        · have hb1 : (o1 != 0) = true := by simpa using h1
          go_wp2_with (at_builtin; refine wpList_append_own_at _ rfl _ _ 39 rfl w6.heap.size 55 i0 (.agg #[.int .i64 0, .int .i64 0, .int .i64 0]) 3 24 Try.underlying39 HI.out.1 HI.out.2.1 HI.out.2.2.1 HI.out.2.2.2 rfl (by decide) _ _ _ rfl HRow.out ⟨w1.heap.size, 0, none⟩ 1 1 (#[.int .i64 g0, .int .i64 o1, .int .i64 v1] : Array Value).toList rfl rfl (cells_new w1 _ _) (by simp [Value.oneCell']) (by simp only [maxLen]; omega) (by omega) HSz.out ?_; intro v8 w8 h8 g8 _ _)
          go_roundw
          case rel => exact ⟨i + 1, by omega, by go_num, (FINI.out v8 w8 h8 g8).1, (FINI.out v8 w8 h8 g8).2⟩
          case measure => simp [intOf]; omega
        · subst h1
          have hb2 : (v1 != 0) = true := by simpa using h2
          go_wp2_with (at_builtin; refine wpList_append_own_at _ rfl _ _ 39 rfl w6.heap.size 55 i0 (.agg #[.int .i64 0, .int .i64 0, .int .i64 0]) 3 24 Try.underlying39 HI.out.1 HI.out.2.1 HI.out.2.2.1 HI.out.2.2.2 rfl (by decide) _ _ _ rfl HRow.out ⟨w1.heap.size, 0, none⟩ 1 1 (#[.int .i64 g0, .int .i64 0, .int .i64 v1] : Array Value).toList rfl rfl (cells_new w1 _ _) (by simp [Value.oneCell']) (by simp only [maxLen]; omega) (by omega) HSz.out ?_; intro v8 w8 h8 g8 _ _)
          go_roundw
          case rel => exact ⟨i + 1, by omega, by go_num, (FINI.out v8 w8 h8 g8).1, (FINI.out v8 w8 h8 g8).2⟩
          case measure => simp [intOf]; omega
    · have hiI : ¬ (i : Int) < (rs.length : Int) := by omega
      have e9 : rs.take i = rs := List.take_of_length_le (by omega)
      rw [e9] at HR
      go_wp2
      go_ret
      exact ⟨_, rfl, Kg.row_base HR.out.2 hBs, B6.out.trans (HR.out.1.mono hBs)⟩

end Go.Proofs.Ytckcdahjajmddaa
