/-
  Dominators by the document: whom ways lead to, none of them through one.
-/
import Derived.Test.YtckgcpoheodbcaaDoorPLw
import Derived.Test.YtckgcpoheodbcaaDoorLPB
import Derived.Test.YtckgcpoheodbcaaDoorPLt
set_option linter.unusedVariables false
set_option maxRecDepth 20000
namespace Go.Proofs.YtckgcpoheodbcaaDoor
open Go.RowKit Go.Shelf Go.Proofs.YtckgcpoheodbcaaDoor.Lt

/-- Truths in a block. -/
structure Fb (w : World) (b m : Nat) (f : Nat → Bool) : Prop where
  ex : ∃ cs, w.heap[b]? = some (.cells cs 4 (0, 0)) ∧ cs.size = m ∧ ∀ x, x < m → cs[x]? = some (.bool (f x))

theorem Fb.lt {w : World} {b m : Nat} {f : Nat → Bool} (h : Fb w b m f) : b < w.heap.size := by
  obtain ⟨cs, h1, -⟩ := h.ex
  exact Kg.heap_lt h1

theorem Fb.cell {w : World} {b m : Nat} {f : Nat → Bool} (h : Fb w b m f) {x : Nat} (hx : x < m) : w.cell? ⟨b, x, none⟩ = some (.bool (f x)) := by
  obtain ⟨cs, h1, -, h3⟩ := h.ex
  exact (Kg.heap_cell h1 x).trans (h3 x hx)

theorem Fb.frozen {w : World} {b m : Nat} {f : Nat → Bool} (h : Fb w b m f) (x : Nat) : w.frozen? ⟨b, x, none⟩ = false := by
  obtain ⟨cs, h1, -⟩ := h.ex
  exact Kg.heap_frozen h1 x

theorem Fb.touch {w w' : World} {b m : Nat} {f : Nat → Bool} {F : List Nat} (h : Fb w b m f) (ht : Kg.Touch F w w') (hF : b ∉ F) : Fb w' b m f := by
  obtain ⟨cs, h1, h2, h3⟩ := h.ex
  exact ⟨cs, (ht.block _ (Kg.heap_lt h1) hF).trans h1, h2, h3⟩

theorem Fb.below {w w' : World} {b m : Nat} {f : Nat → Bool} (h : Fb w b m f) (hb : Below w.heap.size w w') : Fb w' b m f := h.touch (Kg.Touch.of_below hb []) (by simp)

theorem Fb.low {w w' : World} {b m B : Nat} {f : Nat → Bool} (h : Fb w b m f) (hb : Below B w w') (hB : b < B) : Fb w' b m f := by
  obtain ⟨cs, h1, h2, h3⟩ := h.ex
  exact ⟨cs, (hb.block _ hB).trans h1, h2, h3⟩

theorem Fb.set {w : World} {b m : Nat} {f : Nat → Bool} (h : Fb w b m f) {x : Nat} (hx : x < m) (v : Bool) : Fb (w.setCell ⟨b, x, none⟩ (.bool v)) b m (fun y => if y = x then v else f y) := by
  obtain ⟨cs, h1, h2, h3⟩ := h.ex
  refine ⟨cs.setIfInBounds x (.bool v), Kg.heap_set h1 x _, by simpa using h2, fun y hy => ?_⟩
  rw [Array.getElem?_setIfInBounds]
  by_cases e : x = y
  · subst e
    rw [if_pos rfl, if_pos (by omega), if_pos rfl]
  · rw [if_neg e, if_neg (fun h => e h.symm)]
    exact h3 y hy

theorem Fb.new (w : World) (m : Nat) : Fb (w.alloc (.cells (madeCells #[.bool false] m) 4)) w.heap.size m (fun _ => false) :=
  ⟨_, heap_alloc_new w _, by simp [madeCells], fun x hx => by simp [madeCells, hx, Nat.mod_one]⟩

theorem Fb.congr {w : World} {b m : Nat} {f f' : Nat → Bool} (h : Fb w b m f) (e : ∀ x, x < m → f' x = f x) : Fb w b m f' := by
  obtain ⟨cs, h1, h2, h3⟩ := h.ex
  exact ⟨cs, h1, h2, fun x hx => by rw [e x hx]; exact h3 x hx⟩

/-- The document's roots are the ways from 0. -/
theorem rtlw_eq {g : Im.Gr} (h : MB g) (d : Nat) : rtlw g d = ((wy17 g 0).filter (fun y => decide (y ≠ d))).map Int.ofNat := by
  have e1 : rtlw g d = (rtl g).filter (fun z => decide (z ≠ (d : Int))) := by
    unfold rtlw rtl
    rw [List.filter_filter]
    congr 1
    funext z
    simp only [Bool.decide_and]
    exact Bool.and_comm _ _
  rw [e1, wy_root h, List.filter_map]
  congr 1
  refine List.filter_congr (fun y _ => ?_)
  simp only [Function.comp]
  by_cases e : y = d
  · subst e
    simp
  · have : Int.ofNat y ≠ (d : Int) := fun h => e (Int.ofNat.inj h)
    rw [decide_eq_true (show y ≠ d from e), decide_eq_true this]

set_option maxHeartbeats 8000000 in
theorem ways17_any (d : Nat) (n0 : Nat) (w : World) (vo vs vh vr vq : Value) (os : List OL) (ts : List (Value × List (Value × List Int))) (g : Im.Gr) (hg : Grd n0 w vo vs vh vr vq os ts g) (hn : n0 ≤ w.heap.size) (hm : MB g) (hs : Sln ts) (hol : os.length ≤ 2000000)
    (hel : (slotsF g.slots).length + g.hs.length + g.qu.length + g.rg.length ≤ 1000000000) (hT : ((List.range' 1 os.length).map (fun x => (wy17 g x).length)).sum ≤ 1000000000) :
    Calls Tryd.prog 18 #[.agg (gcs vo vs vh vr vq g.next), .int .i64 (d : Nat)] w fun e w' => ∃ (bb : Nat), e = .returned (.slice (some ⟨bb, 0, none⟩) (os.length + 1) (os.length + 1)) ∧ w.heap.size ≤ bb ∧ Below w.heap.size w w' ∧ ∃ ins : Nat → Bool, Fb w' bb (os.length + 1) ins ∧ ∀ x, ins x = true ↔ Rv (wy17 g) d x := by
  have hol2 : g.obs.length = os.length := by rw [hg.eo, List.length_map]
  have HO : Hid (∀ (i : Nat) x, os[i]? = some x → g.obs[i]? = some x.o) := fun i x hx => by rw [hg.eo, List.getElem?_map, hx]; rfl
  have l1 : Below w.heap.size w (w.alloc (.cells (gcs vo vs vh vr vq g.next) 27)) := Below.alloc (Below.refl _ _) (Nat.le_refl _) _
  have hx := heap_alloc_new w (.cells (gcs vo vs vh vr vq g.next) 27 (0, 0))
  obtain ⟨oa, oc, eo, -⟩ := id hg.ob
  subst eo
  generalize hW : w.alloc (.cells (gcs (.slice oa os.length oc) vs vh vr vq g.next) 27) = W at *
  have y0 : W.cell? ⟨w.heap.size, 0, none⟩ = some (.slice oa os.length oc) := Kg.heap_cell hx 0
  have HL1 : Hid (Below w.heap.size w W) := l1
  have HM : Hid (MB g) := hm
  have HOL : Hid (g.obs.length = os.length) := hol2
  have HXB : Hid (∀ w', Below W.heap.size W w' → w'.heap[w.heap.size]? = some (.cells (gcs (.slice oa os.length oc) vs vh vr vq g.next) 27 (0, 0)) ∧ Below w.heap.size w w' ∧ Grd n0 w' (.slice oa os.length oc) vs vh vr vq os ts g) := fun w' b' => ⟨(b'.block _ (Kg.heap_lt hx)).trans hx, l1.trans (b'.mono l1.size), hg.below ((l1.trans (b'.mono l1.size)).mono hn)⟩
  have HT : Hid (((List.range' 1 os.length).map (fun x => (wy17 g x).length)).sum ≤ 1000000000) := hT
  clear hg hx l1 hm hol2 hT
  obtain ⟨m, hmm⟩ : ∃ m, m = os.length + 1 := ⟨_, rfl⟩
  have hmI : (os.length : Int) + 1 = (m : Int) := by omega
  have hmk := make_bools m (by omega)
  have Hmm : Hid (m = os.length + 1) := hmm
  rw [← hmm]
  clear hmm
  have b1 : Below W.heap.size W (W.alloc (.cells (madeCells #[.bool false] m) 4)) := Below.alloc (Below.refl _ _) (Nat.le_refl _) _
  have HB1 : Hid (Below W.heap.size W (W.alloc (.cells (madeCells #[.bool false] m) 4))) := b1
  have HF1 : Hid (Fb (W.alloc (.cells (madeCells #[.bool false] m) 4)) W.heap.size m (fun _ => false)) := Fb.new W m
  have HS1 : Hid ((W.alloc (.cells (madeCells #[.bool false] m) 4)).heap.size = W.heap.size + 1) := by show _ = _; simp
  clear b1
  go_enter Tryd.func18, Tryd.ntmps18
  go_upto_region 2 with fail
  clear hmk y0 hmI
  have HBw : Hid (W.heap.size ≤ W.heap.size) := Nat.le_refl _
  obtain ⟨bb, hbb⟩ : ∃ bb, bb = W.heap.size := ⟨_, rfl⟩
  have HBB : Hid (bb = W.heap.size) := hbb
  rw [← hbb] at HF1
  change Code.wp _ _ _ _ (W.alloc (.cells (madeCells #[.bool false] m) 4))
  rw [← hbb]
  clear hbb
  generalize W.alloc (.cells (madeCells #[.bool false] m) 4) = w1 at *
  obtain ⟨hgb, -, gr⟩ := HXB.out w1 HB1.out
  have y0 : w1.cell? ⟨w.heap.size, 0, none⟩ = some (.slice oa os.length oc) := Kg.heap_cell hgb 0
  have y1 : w1.cell? ⟨w.heap.size, 1, none⟩ = some vs := Kg.heap_cell hgb 1
  have y2 : w1.cell? ⟨w.heap.size, 2, none⟩ = some vh := Kg.heap_cell hgb 2
  have y3 : w1.cell? ⟨w.heap.size, 3, none⟩ = some vr := Kg.heap_cell hgb 3
  have y4 : w1.cell? ⟨w.heap.size, 4, none⟩ = some vq := Kg.heap_cell hgb 4
  have y5 : w1.cell? ⟨w.heap.size, 5, none⟩ = some (.int .u64 (g.next : Int)) := Kg.heap_cell hgb 5
  have q := rootsw_any d n0 w1 _ vs vh vr vq os ts g gr (Nat.le_trans (Nat.le_trans hn HL1.out.size) HB1.out.size) hs hel
  obtain ⟨L0, hL0⟩ : ∃ L0, L0 = (wy17 g 0).filter (fun y => decide (y ≠ d)) := ⟨_, rfl⟩
  rw [rtlw_eq HM.out d, ← hL0] at q
  have HL0 : Hid (∀ y, y ∈ L0 ↔ y ∈ wy17 g 0 ∧ y ≠ d) := fun y => by
    rw [hL0, List.mem_filter]
    simp
  have HL0l : Hid (L0.length ≤ 1000000000) := by
    have h9 := congrArg List.length (rtlw_eq HM.out d)
    rw [List.length_map, ← hL0] at h9
    show _ ≤ _
    rw [← h9]
    unfold rtlw
    have h8 := List.length_filter_le (fun z => decide (0 < z ∧ z ≠ (d : Int))) ((slotsF g.slots ++ g.hs) ++ g.qu)
    rw [List.length_append, List.length_append] at h8
    omega
  clear hgb gr hL0 hs hel
  go_wp2_with fail
  refine q.mono ?_
  rintro e w2 ⟨vR, rfl, rR, bR⟩
  obtain ⟨B2, hB2⟩ : ∃ B2, B2 = w1.heap.size := ⟨_, rfl⟩
  rw [← hB2] at rR HS1
  have HF2 : Hid (Fb w2 bb m (fun _ => false)) := HF1.out.below bR
  have HB2 : Hid (Below W.heap.size W w2) := HB1.out.trans (bR.mono HB1.out.size)
  have HB2s : Hid (B2 ≤ w2.heap.size) := by show _ ≤ _; rw [hB2]; exact bR.size
  have HR2 : Hid (Il w2 B2 vR (L0.map Int.ofNat)) := rR
  obtain ⟨C, hC⟩ : ∃ C, C = L0.length + ((List.range' 1 os.length).map (fun x => (wy17 g x).length)).sum := ⟨_, rfl⟩
  have hC2 : C ≤ 2000000000 := by have := HL0l.out; have := HT.out; omega
  have HW2 : Hid (Wq (wy17 g) d os.length C (fun _ => false) L0 0) := by
    show Wq _ _ _ _ _ _ _
    rw [hC]
    exact Wq.start HL0.out (fun x hx => by have := wy_in HM.out 0 x ((HL0.out x).1 hx).1; have := HOL.out; omega)
  obtain ⟨i0, hi0, hj0, hj1, hj2⟩ := info_p17 infoI17
  have HI : Hid (Tryd.prog.info? 3 = some i0 ∧ i0.zero = some (.int .i64 0) ∧ i0.size = 1 ∧ i0.bytes = 8) := ⟨hi0, hj0, hj1, hj2⟩
  clear hi0 hj0 hj1 hj2 q rR bR hB2 hC y0 y1 y2 y3 y4 y5 HL0 HL0l
  go_wp2
  go_loopw [6, 7, 8, 9] (fun v6 v7 _ _ wr => ∃ (i : Nat) (wk : List Nat) (ins : Nat → Bool), v7 = .int .i64 (i : Nat) ∧ i ≤ C ∧ Hid (Il wr B2 v6 (wk.map Int.ofNat)) ∧ Hid (Fb wr bb m ins) ∧ Hid (Wq (wy17 g) d os.length C ins wk i) ∧ Hid (Below W.heap.size W wr) ∧ Hid (B2 ≤ wr.heap.size)) (fun _ v7 _ _ _ => C - (intOf v7).toNat)
  case atStart => exact ⟨0, L0, _, rfl, Nat.zero_le _, HR2, HF2, HW2, HB2, HB2s⟩
  case round =>
    obtain ⟨i, wk, ins, rfl, hi, R1, R2, R3, R4, R5⟩ := hrel
    obtain ⟨a6, c6, e6⟩ := own_sl17 R1.out
    rw [List.length_map] at e6
    subst e6
    have hwC := R3.out.le
    by_cases hil : i < wk.length
    · have hii : (i : Int) < (wk.length : Int) := by omega
      obtain ⟨x, hx⟩ : ∃ x, wk[i]? = some x := ⟨_, List.getElem?_eq_getElem hil⟩
      have HX : Hid (wk[i]? = some x) := hx
      obtain ⟨hx1, hxn⟩ := R3.out.b x (List.mem_of_getElem? hx)
      obtain ⟨oa', oc', eo, -, hoc⟩ := row_at (Kg.row_base R1.out (Nat.zero_le _)) (by decide)
      obtain ⟨ob, eob, -, co⟩ := hoc i (.int .i64 (x : Nat)) (by rw [Kg.ints, List.getElem?_map, List.getElem?_map, hx]; rfl)
      simp only [Value.slice.injEq, List.length_map, true_and] at eo
      obtain ⟨rfl, rfl⟩ := eo
      subst eob
      have hxm : x < m := by have := Hmm.out; omega
      have hxI : (x : Int) < (m : Int) := by omega
      have cx := R2.out.cell hxm
      have zx := R2.out.frozen x
      clear hoc hx
      by_cases hin : ins x = true
      · rw [hin] at cx
        have HN : Hid (Wq (wy17 g) d os.length C ins wk (i + 1)) := R3.out.skip HX.out (.inr hin)
        clear hin
        go_wp2
        go_roundw
        case rel => exact ⟨i + 1, wk, ins, by simp, by omega, R1, R2, HN, R4, R5⟩
        case measure => simp [intOf]; omega
      · rw [Bool.not_eq_true] at hin
        rw [hin] at cx
        by_cases hxd : x = d
        · have e1 : ((x : Int) == (d : Int)) = true := beq_iff_eq.2 (by omega)
          have HN : Hid (Wq (wy17 g) d os.length C ins wk (i + 1)) := R3.out.skip HX.out (.inl hxd)
          clear hin hxd
          go_wp2
          go_roundw
          case rel => exact ⟨i + 1, wk, ins, by simp, by omega, R1, R2, HN, R4, R5⟩
          case measure => simp [intOf]; omega
        · have e1 : ((x : Int) == (d : Int)) = false := beq_eq_false_iff_ne.2 (by omega)
          have HSt : Hid (Wq (wy17 g) d os.length C (inw ins x) (wk ++ wy17 g x) (i + 1)) := R3.out.step HX.out hxd hin (fun y hy => by have := wy_in HM.out x y hy; have := HOL.out; omega)
          have hwC2 := HSt.out.le
          rw [List.length_append] at hwC2
          have tS : Kg.Touch [bb] wr (wr.setCell ⟨bb, x, none⟩ (.bool true)) := Kg.Touch.setCell _ _ _ (by simp)
          have H3F : Hid (Fb (wr.setCell ⟨bb, x, none⟩ (.bool true)) bb m (inw ins x)) := R2.out.set hxm true
          have H3I : Hid (Il (wr.setCell ⟨bb, x, none⟩ (.bool true)) B2 (.slice (some ⟨ob, 0, none⟩) wk.length c6) (wk.map Int.ofNat)) := Kg.row_keep2 R1.out tS (fun k hk hm => by
            have h1 := (World.ownsRow.lt R1.out k hk).1
            have h2 := HS1.out
            have h3 := HBB.out
            rw [List.mem_singleton.1 hm] at h1
            omega)
          have H3B : Hid (Below W.heap.size W (wr.setCell ⟨bb, x, none⟩ (.bool true))) := R4.out.trans (tS.below R4.out.size (fun k hk => by rw [List.mem_singleton.1 hk, HBB.out]; exact Nat.le_refl _))
          have H3s : Hid (B2 ≤ (wr.setCell ⟨bb, x, none⟩ (.bool true)).heap.size) := Nat.le_trans R5.out tS.size
          clear tS hin hxd
          go_upto_region 9 with fail
          clear cx zx co R1 R2 R3 R4 R5
          generalize wr.setCell ⟨bb, x, none⟩ (.bool true) = w3 at *
          have hxm1 : (x : Int) - 1 = ((x - 1 : Nat) : Int) := by omega
          have hxlt : x - 1 < os.length := by omega
          have hxltI : ((x - 1 : Nat) : Int) < (os.length : Int) := by omega
          have hz : os[x - 1]? = some (os[x - 1]'hxlt) := List.getElem?_eq_getElem hxlt
          generalize os[x - 1]'hxlt = o at hz
          obtain ⟨y0, -, gr⟩ := HXB.out w3 H3B.out
          have y0 := Kg.heap_cell y0 0
          obtain ⟨oa', oc', eo, hob⟩ := gr.ob
          simp only [Value.slice.injEq] at eo
          obtain ⟨rfl, -, rfl⟩ := eo
          obtain ⟨lp, lr, qo, off, rfl, hqo, hco⟩ := hob (x - 1) o hz
          have hoo := HO.out (x - 1) o hz
          have hpo : o.o.ps.length ≤ 1000000000 := by
            have := (fst_le HM.out (o := o.o) (List.mem_of_getElem? hoo)).2
            omega
          have HWX : Hid (stg o.o = (wy17 g x).map Int.ofNat) := by
            have h9 := wy_obj HM.out hoo
            rw [show x - 1 + 1 = x by omega] at h9
            exact h9
          have c0 := (hco 0 (by omega)).trans (show _ = some (Value.int .u64 (o.o.ser : Int)) from rfl)
          have c1 := (hco 1 (by omega)).trans (show _ = some (Value.int .i64 o.o.kind) from rfl)
          have c2 := (hco 2 (by omega)).trans (show _ = some (Value.int .i64 o.o.site) from rfl)
          have c3 := (hco 3 (by omega)).trans (show _ = some o.vp from rfl)
          have c4 := (hco 4 (by omega)).trans (show _ = some o.vr from rfl)
          rw [Nat.add_zero] at c0
          have q := strong_any n0 w3 (Nat.le_trans (Nat.le_trans hn (HL1.out.size)) H3B.out.size) o lp hpo
          rw [HWX.out] at q
          clear hob hco hz lr gr lp hpo hoo
          go_wp2_with fail
          refine q.mono ?_
          rintro e w4 ⟨vS, rfl, rS, bS⟩
          obtain ⟨aS, cS, eS⟩ := own_sl17 rS
          rw [List.length_map] at eS
          subst eS
          have H4F : Hid (Fb w4 bb m (inw ins x)) := H3F.out.below bS
          have H4I : Hid (Il w4 B2 (.slice (some ⟨ob, 0, none⟩) wk.length c6) (wk.map Int.ofNat)) := H3I.out.below bS
          have H4B : Hid (Below W.heap.size W w4) := H3B.out.trans (bS.mono H3B.out.size)
          have H4s : Hid (B2 ≤ w4.heap.size) := Nat.le_trans H3s.out bS.size
          have HN := lrd_news (Il.lrd rS)
          have HN1 : Hid (∀ (j : Nat) u, (Kg.ints ((wy17 g x).map Int.ofNat))[j]? = some u → ∃ ad, aS = some ad ∧ w4.cell? (ad.add j) = some u) := HN
          clear q rS bS y0 c0 c1 c2 c3 c4 HN H3F H3I H3B H3s
          have HRow : Hid (w4.ownsRow B2 3 1 (.slice (some ⟨ob, 0, none⟩) wk.length c6) wk.length (Kg.ints (wk.map Int.ofNat))) := by
            have h9 := H4I.out
            unfold Il at h9
            rw [List.length_map] at h9
            exact h9
          go_wp2_with (at_builtin; refine Kg.wpList_append_row rfl _ _ 24 rfl B2 3 i0 (.int .i64 0) 8 Tryd.underlying24 HI.out.1 HI.out.2.1 HI.out.2.2.1 HI.out.2.2.2 rfl _ _ _ rfl HRow.out aS (wy17 g x).length cS (Kg.ints ((wy17 g x).map Int.ofNat)) (by simp [Kg.ints]) rfl HN1.out (by simp [Kg.ints, Value.oneCell']) (by simp only [maxLen]; omega) (by omega) H4s.out ?_; intro v' w8 hown' hgrow _ hat _)
          go_roundw
          case rel =>
            have t8 : Kg.Touch (Value.slice (some ⟨ob, 0, none⟩) wk.length c6).ownBlock.toList w4 w8 := Kg.Touch.grown hgrow (fun y hy => by rw [Option.mem_toList]; exact hy)
            have hge : ∀ y, y ∈ (Value.slice (some ⟨ob, 0, none⟩) wk.length c6).ownBlock.toList → B2 ≤ y := fun y hy => by
              rw [Option.mem_toList] at hy
              exact (HRow.out.lt y hy).1
            refine ⟨i + 1, wk ++ wy17 g x, _, by go_num, by omega, ?_, H4F.out.touch t8 (fun hm => ?_), HSt, H4B.out.trans (t8.below H4B.out.size (fun y hy => ?_)), Nat.le_trans H4s.out t8.size⟩
            · show Il _ _ _ _
              unfold Il
              rw [List.map_append, List.length_append, List.length_map, List.length_map]
              simp only [Kg.ints, List.map_append] at hown' ⊢
              exact hown'
            · have h1 := hge bb hm
              have h2 := HS1.out
              have h3 := HBB.out
              omega
            · have h1 := hge y hy
              have h2 := HS1.out
              omega
          case measure => simp [intOf]; omega
    · have hii : ¬ (i : Int) < (wk.length : Int) := by omega
      have HD : Hid (∀ x, ins x = true ↔ Rv (wy17 g) d x) := fun x => R3.out.done (by omega) x
      have HE : Hid (w.heap.size ≤ bb ∧ Below w.heap.size w wr) := ⟨by rw [HBB.out]; exact HL1.out.size, (HXB.out wr R4.out).2.1⟩
      go_wp2
      go_ret
      exact ⟨bb, rfl, HE.out.1, HE.out.2, ins, R2.out, HD.out⟩

end Go.Proofs.YtckgcpoheodbcaaDoor
