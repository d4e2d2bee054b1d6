/-
  Shortest paths: the document's Path, walked. (Begun.)
-/
import Derived.Test.YtckgcpoheodbcaaGreatDoorPLt
set_option linter.unusedVariables false
set_option maxRecDepth 20000
namespace Go.Proofs.YtckgcpoheodbcaaGreatDoor
open Go.RowKit Go.Shelf Go.Proofs.YtckgcpoheodbcaaGreatDoor.Lp

theorem Lp.FI.congr {Wy : Nat → List Nat} {t n : Nat} {far b b' : Nat → Nat} (h : FI Wy t n far b) (hb : ∀ y, 1 ≤ y → y ≤ n → b' y = b y) : FI Wy t n far b' := fun y h1 h2 e => by rw [hb y h1 h2]; exact h y h1 h2 e

theorem Fw.low {w w' : World} {fb m B : Nat} {fa : Nat → Nat} (h : Fw w fb m fa) (hb : Below B w w') (hB : fb < B) : Fw w' fb m fa := by
  obtain ⟨cs, h1, h2, h3⟩ := h.ex
  exact ⟨cs, (hb.block _ hB).trans h1, h2, h3⟩

set_option maxHeartbeats 8000000 in
theorem r17Path_yes (n0 : Nat) (w : World) (vo vs vh vr vq : Value) (os : List OL) (ts : List (Value × List (Value × List Int))) (g : Im.Gr) (hg : Grd n0 w vo vs vh vr vq os ts g) (hn : n0 ≤ w.heap.size) (hl : Gln os ts g) (hm : MB g) (t : Nat) (ht1 : 1 ≤ t) (ht2 : t ≤ os.length) (hol : os.length ≤ 2000000) (hs : Sln ts) (hel : (slotsF g.slots).length + g.hs.length + g.qu.length + g.rg.length ≤ 1000000000) (hps : ∀ x, x ∈ os → x.o.ps.length ≤ 1000000000)
    (Wy : Nat → List Nat) (hW0 : (rtl g) = (Wy 0).map Int.ofNat) (hWx : ∀ (i : Nat) x, os[i]? = some x → stg x.o = (Wy (i + 1)).map Int.ofNat) (hww : ∀ z y, y ∈ Wy z → 1 ≤ y ∧ y ≤ os.length) :
    Calls Tryz.prog 7 #[.agg (gcs vo vs vh vr vq g.next), .int .i64 (t : Nat)] w fun e w' => ∃ (v : Value) (l : List Nat), e = .returned (.tuple #[v, .int .i64 0]) ∧ Il w' w.heap.size v (l.map Int.ofNat) ∧ Below w.heap.size w w' ∧ ((l = [] ∧ ∀ e, ¬ Pth Wy t e 0) ∨ (l ≠ [] ∧ Gd Wy t 0 l)) := by
  have l1 : Below w.heap.size w (w.alloc (.cells (gcs vo vs vh vr vq g.next) 27)) := Below.alloc (Below.refl _ _) (Nat.le_refl _) _
  have hx := heap_alloc_new w (.cells (gcs vo vs vh vr vq g.next) 27 (0, 0))
  obtain ⟨oa, oc, eo, -⟩ := id hg.ob
  subst eo
  generalize hW : w.alloc (.cells (gcs (.slice oa os.length oc) vs vh vr vq g.next) 27) = W at *
  have y0 : W.cell? ⟨w.heap.size, 0, none⟩ = some (.slice oa os.length oc) := Kg.heap_cell hx 0
  have y1 : W.cell? ⟨w.heap.size, 1, none⟩ = some vs := Kg.heap_cell hx 1
  have y2 : W.cell? ⟨w.heap.size, 2, none⟩ = some vh := Kg.heap_cell hx 2
  have y3 : W.cell? ⟨w.heap.size, 3, none⟩ = some vr := Kg.heap_cell hx 3
  have y4 : W.cell? ⟨w.heap.size, 4, none⟩ = some vq := Kg.heap_cell hx 4
  have y5 : W.cell? ⟨w.heap.size, 5, none⟩ = some (.int .u64 (g.next : Int)) := Kg.heap_cell hx 5
  have q := rCheck_any n0 W _ vs vh vr vq os ts g (hg.below (l1.mono hn)) (Nat.le_trans hn l1.size) hl
  have HL1 : Hid (Below w.heap.size w W) := l1
  have HM : Hid (MB g) := hm
  have HXB : Hid (∀ w', Below W.heap.size W w' → w'.heap[w.heap.size]? = some (.cells (gcs (.slice oa os.length oc) vs vh vr vq g.next) 27 (0, 0)) ∧ Below w.heap.size w w' ∧ Grd n0 w' (.slice oa os.length oc) vs vh vr vq os ts g) := fun w' b' => ⟨(b'.block _ (Kg.heap_lt hx)).trans hx, l1.trans (b'.mono l1.size), hg.below ((l1.trans (b'.mono l1.size)).mono hn)⟩
  clear hg hl hx l1 hm
  go_enter Tryz.func7, Tryz.ntmps7
  go_wp2_with fail
  refine q.mono ?_
  rintro e w1 ⟨r, rfl, b1, hr⟩
  have HB1 : Hid (Below W.heap.size W w1) := b1
  obtain rfl : r = 0 := by
    rcases hr with ⟨h, -⟩ | ⟨-, h⟩
    · exact h
    · exact absurd HM.out h
  clear q b1 hr y0 y1 y2 y3 y4 y5
  have y0 : w1.cell? ⟨w.heap.size, 0, none⟩ = some (.slice oa os.length oc) := Kg.heap_cell (HXB.out w1 HB1.out).1 0
  have h1' : decide ((t : Int) < 1) = false := decide_eq_false (by omega)
  have h2' : decide ((os.length : Int) < (t : Int)) = false := decide_eq_false (by omega)
  obtain ⟨m, hmm⟩ : ∃ m, m = os.length + 1 := ⟨_, rfl⟩
  have hmI : (os.length : Int) + 1 = (m : Int) := by omega
  have hmk := make_ints17 m (by omega)
  have htm : t < m := by omega
  have htI : (t : Int) < (m : Int) := by omega
  have Hmm : Hid (m = os.length + 1) := hmm
  clear hmm
  go_upto_region 8 with fail
  have F2 := Fw.new w1 m
  have b2 : Below w1.heap.size w1 (w1.alloc (.cells (madeCells #[.int .i64 0] m) 3)) := Below.alloc (Below.refl _ _) (Nat.le_refl _) _
  generalize w1.alloc (.cells (madeCells #[.int .i64 0] m) 3) = w2 at *
  have HB2 : Hid (Below W.heap.size W w2) := HB1.out.trans (b2.mono HB1.out.size)
  obtain ⟨fb, hfb⟩ : ∃ fb, fb = w1.heap.size := ⟨_, rfl⟩
  rw [← hfb] at F2 ⊢
  have HF2 : Hid (Fw w2 fb m (fun _ => 0)) := F2
  have HFB : Hid (W.heap.size ≤ fb) := by show _ ≤ _; rw [hfb]; exact HB1.out.size
  have c2 : w2.cell? ⟨fb, t, none⟩ = some (.int .i64 0) := F2.cell htm
  have f2 : w2.frozen? ⟨fb, t, none⟩ = false := F2.frozen _
  clear F2 b2 hfb y0
  go_upto_region 9 with fail
  obtain ⟨w3, hw3⟩ : ∃ x, x = w2.setCell ⟨fb, t, none⟩ (.int .i64 1) := ⟨_, rfl⟩
  have HF3 : Hid (Fw w3 fb m (fun y => if y = t then 1 else 0)) := by rw [hw3]; exact HF2.out.set htm 1
  have HB3 : Hid (Below W.heap.size W w3) := by rw [hw3]; exact Below.setCell (p := ⟨fb, t, none⟩) HB2.out HFB.out _
  rw [← hw3]
  clear hw3 c2 f2 HF2 HB2 hmk HB1 h1' h2' hmI
  go_wp2
  go_loopw [9] (fun v wr => ∃ (d : Nat) (fa : Nat → Nat), 1 ≤ d ∧ d ≤ m ∧ v = .int .i64 (d : Nat) ∧ Fw wr fb m fa ∧ FI Wy t os.length fa (fun _ => d) ∧ Below W.heap.size W wr) (fun v _ => m - (intOf v).toNat)
  case atStart => exact ⟨1, _, Nat.le_refl _, by omega, rfl, HF3.out, FI.start, HB3.out⟩
  case round =>
    obtain ⟨d, fa, hd1, hd2, rfl, r1, r2, r3⟩ := hrel
    have Hr1 : Hid (Fw wr fb m fa) := r1
    have Hr2 : Hid (FI Wy t os.length fa (fun _ => d)) := r2
    have Hr3 : Hid (Below W.heap.size W wr) := r3
    clear r1 r2 r3
    by_cases hdn : d ≤ os.length
    · have hdI : (d : Int) ≤ (os.length : Int) := by omega
      go_wp2
      go_loopw [10] (fun v wr => ∃ (x : Nat) (fa : Nat → Nat), 1 ≤ x ∧ x ≤ m ∧ v = .int .i64 (x : Nat) ∧ Fw wr fb m fa ∧ FI Wy t os.length fa (fun y => if y < x then d + 1 else d) ∧ Below W.heap.size W wr) (fun v _ => m - (intOf v).toNat)
      case atStart => exact ⟨1, fa, Nat.le_refl _, by omega, rfl, Hr1.out, FI.congr Hr2.out (fun y hy _ => by simp; omega), Hr3.out⟩
      case round =>
        obtain ⟨x, fa, hx1, hx2, rfl, r1, r2, r3⟩ := hrel
        have Hx1 : Hid (Fw wr fb m fa) := r1
        have Hx2 : Hid (FI Wy t os.length fa (fun y => if y < x then d + 1 else d)) := r2
        have Hx3 : Hid (Below W.heap.size W wr) := r3
        clear r1 r2 r3
        by_cases hxn : x ≤ os.length
        · have hxI : (x : Int) ≤ (os.length : Int) := by omega
          have hxm : x < m := by have := Hmm.out; omega
          have hxmI : (x : Int) < (m : Int) := by omega
          have cx := Hx1.out.cell hxm
          by_cases h0 : fa x = 0
          · have h0' : ((fa x : Int) == 0) = true := beq_iff_eq.2 (by omega)
            have HX0 : Hid (fa x = 0) := h0
            have hxm1 : (x : Int) - 1 = ((x - 1 : Nat) : Int) := by omega
            have hxlt : x - 1 < os.length := by omega
            have hxltI : ((x - 1 : Nat) : Int) < (os.length : Int) := by omega
            have hz : os[x - 1]? = some (os[x - 1]'hxlt) := List.getElem?_eq_getElem hxlt
            generalize os[x - 1]'hxlt = o at hz
            obtain ⟨y0, -, gr⟩ := HXB.out wr Hx3.out
            have y0 := Kg.heap_cell y0 0
            obtain ⟨oa', oc', eo, hob⟩ := gr.ob
            simp only [Value.slice.injEq] at eo
            obtain ⟨rfl, -, rfl⟩ := eo
            obtain ⟨lp, lr, qo, off, rfl, hqo, hco⟩ := hob (x - 1) o hz
            have hpo := hps o (List.mem_of_getElem? hz)
            have HWX : Hid (stg o.o = (Wy x).map Int.ofNat) := by
              have h9 := hWx (x - 1) o hz
              rw [show x - 1 + 1 = x by omega] at h9
              exact h9
            have c0 := (hco 0 (by omega)).trans (show _ = some (Value.int .u64 (o.o.ser : Int)) from rfl)
            have c1 := (hco 1 (by omega)).trans (show _ = some (Value.int .i64 o.o.kind) from rfl)
            have c2 := (hco 2 (by omega)).trans (show _ = some (Value.int .i64 o.o.site) from rfl)
            have c3 := (hco 3 (by omega)).trans (show _ = some o.vp from rfl)
            have c4 := (hco 4 (by omega)).trans (show _ = some o.vr from rfl)
            rw [Nat.add_zero] at c0
            have q := strong_any n0 wr (Nat.le_trans (Nat.le_trans hn (HL1.out.size)) Hx3.out.size) o lp hpo
            obtain ⟨L, hL⟩ : ∃ L, L = Wy x := ⟨_, rfl⟩
            have HLx : Hid (L = Wy x) := hL
            rw [HWX.out, ← hL] at q
            have HLw : Hid (∀ y, y ∈ L → 1 ≤ y ∧ y ≤ os.length) := fun y hy => hww x y (by rw [← hL]; exact hy)
            have hLl : L.length ≤ 1000000000 := by
              have h9 := congrArg List.length HWX.out
              rw [List.length_map, ← hL] at h9
              have h8 := List.length_filter_le (fun z => decide (0 < z)) (o.o.ps.drop (fst17 o.o.kind))
              unfold stg at h9
              rw [List.length_drop] at h8
              omega
            clear hob hco hz lr gr h0 hL hpo
            go_wp2_with fail
            refine q.mono ?_
            rintro e wS ⟨vS, rfl, rS, bS⟩
            have HfbS : Hid (fb < wr.heap.size) := Hx1.out.lt
            have HS1 : Hid (Fw wS fb m fa) := Hx1.out.below bS
            have HS2 : Hid (Below W.heap.size W wS) := Hx3.out.trans (bS.mono Hx3.out.size)
            have HS3 : Hid (∀ w', Kg.Touch [fb] wS w' → ∃ a cap, vS = .slice a L.length cap ∧ ∀ (f : Nat) z, L[f]? = some z → ∃ q, a = some ⟨q, 0, none⟩ ∧ w'.cell? ⟨q, f, none⟩ = some (.int .i64 (z : Nat))) := fun w' ht => by
              obtain ⟨a, cap, h1, h2⟩ := Il.at_ rS ht (fun k hk => by rw [List.mem_singleton] at hk; rw [hk]; exact HfbS.out)
              rw [List.length_map] at h1
              refine ⟨a, cap, h1, fun f z hz => ?_⟩
              obtain ⟨q, h3, -, -, h4⟩ := h2 f (z : Int) (by rw [List.getElem?_map, hz]; rfl)
              exact ⟨q, h3, h4⟩
            obtain ⟨aS, cS, rfl, -⟩ := HS3.out wS (Kg.Touch.refl _ _)
            clear q rS bS y0 c0 c1 c2 c3 c4 cx
            have HSa : Hid (∀ w', Kg.Touch [fb] wS w' → ∀ (f : Nat) z, L[f]? = some z → ∃ q, aS = some ⟨q, 0, none⟩ ∧ w'.cell? ⟨q, f, none⟩ = some (.int .i64 (z : Nat))) := fun w' ht f z hz => by
              obtain ⟨a, cap, e1, h2⟩ := HS3.out w' ht
              simp only [Value.slice.injEq] at e1
              obtain ⟨rfl, -, -⟩ := e1
              exact h2 f z hz
            clear HS3
            have HXm : Hid (1 ≤ x ∧ x ≤ os.length ∧ x < m ∧ 1 ≤ d) := ⟨hx1, hxn, hxm, hd1⟩
            go_wp2
            go_loopw [12] (fun v wq => ∃ (k : Nat) (fa' : Nat → Nat), k ≤ L.length ∧ v = .int .i64 (k : Nat) ∧ Hid (Fw wq fb m fa') ∧ Hid (∀ y, y ≠ x → fa' y = fa y) ∧ Hid ((fa' x = 0 ∧ ∀ y, y ∈ L.take k → fa y ≠ d) ∨ (fa' x = d + 1 ∧ ∃ y, y ∈ L.take k ∧ fa y = d)) ∧ Hid (Kg.Touch [fb] wS wq)) (fun v _ => L.length - (intOf v).toNat)
            case atStart => exact ⟨0, fa, Nat.zero_le _, rfl, HS1, fun _ _ => rfl, .inl ⟨HX0.out, fun y hy => by simp at hy⟩, Kg.Touch.refl _ _⟩
            case round =>
              obtain ⟨k, fa', hk, rfl, R1, R2, R3, R4⟩ := hrel
              by_cases hkl : k < L.length
              · have hkI : (k : Int) < (L.length : Int) := by omega
                obtain ⟨y, hy⟩ : ∃ y, L[k]? = some y := ⟨_, List.getElem?_eq_getElem hkl⟩
                obtain ⟨q, rfl, cy⟩ := HSa.out wr R4.out k y hy
                have hyb := HLw.out y (List.mem_of_getElem? hy)
                have HT : Hid (L.take (k + 1) = L.take k ++ [y]) := by show _ = _; rw [List.take_add_one, hy]; rfl
                have hym : y < m := by have := Hmm.out; omega
                have hymI : (y : Int) < (m : Int) := by omega
                have fy := R1.out.cell hym
                have fx := R1.out.cell hxm
                have zx := R1.out.frozen x
                clear hy hyb
                by_cases e1 : fa' y = d
                · have e1' : ((fa' y : Int) == (d : Int)) = true := beq_iff_eq.2 (by omega)
                  have HN : Hid (∃ z, z ∈ L.take (k + 1) ∧ fa z = d) := by
                    refine ⟨y, by rw [HT.out]; simp, ?_⟩
                    by_cases ey : y = x
                    · subst ey
                      have h9 := HXm.out
                      rcases R3.out with ⟨h1, -⟩ | ⟨h1, -⟩
                      · omega
                      · omega
                    · rw [← R2.out y ey]; exact e1
                  by_cases e2 : fa' x = 0
                  · have e2' : ((fa' x : Int) == 0) = true := beq_iff_eq.2 (by omega)
                    have HW : Hid (Fw (wr.setCell ⟨fb, x, none⟩ (.int .i64 ((d : Int) + 1))) fb m (fun z => if z = x then d + 1 else fa' z)) := by
                      have h9 := R1.out.set hxm (d + 1)
                      rw [show ((d + 1 : Nat) : Int) = (d : Int) + 1 by omega] at h9
                      exact h9
                    have HWt : Hid (Kg.Touch [fb] wS (wr.setCell ⟨fb, x, none⟩ (.int .i64 ((d : Int) + 1)))) := R4.out.trans (Kg.Touch.setCell _ _ _ (by simp))
                    go_wp2
                    go_roundw
                    case rel => exact ⟨k + 1, _, by omega, by go_num, HW, fun z hz => (if_neg hz).trans (R2.out z hz), .inr ⟨if_pos rfl, HN.out⟩, HWt⟩
                    case measure => simp [intOf]; omega
                  · have e2' : ((fa' x : Int) == 0) = false := beq_eq_false_iff_ne.2 (by omega)
                    have HD : Hid (fa' x = d + 1) := by
                      rcases R3.out with ⟨h1, -⟩ | ⟨h1, -⟩
                      · exact absurd h1 e2
                      · exact h1
                    go_wp2
                    go_roundw
                    case rel => exact ⟨k + 1, fa', by omega, by go_num, R1, R2, .inr ⟨HD.out, HN.out⟩, R4⟩
                    case measure => simp [intOf]; omega
                · have e1' : ((fa' y : Int) == (d : Int)) = false := beq_eq_false_iff_ne.2 (by omega)
                  have HN : Hid (fa y ≠ d) := by
                    show _ ≠ _
                    by_cases ey : y = x
                    · subst ey
                      rw [HX0.out]
                      have := HXm.out
                      omega
                    · rw [← R2.out y ey]; exact e1
                  have HD : Hid ((fa' x = 0 ∧ ∀ y, y ∈ L.take (k + 1) → fa y ≠ d) ∨ (fa' x = d + 1 ∧ ∃ y, y ∈ L.take (k + 1) ∧ fa y = d)) := by
                    show _ ∨ _
                    rw [HT.out]
                    rcases R3.out with ⟨h1, h2⟩ | ⟨h1, z, h2, h3⟩
                    · refine .inl ⟨h1, fun z hz => ?_⟩
                      rcases List.mem_append.1 hz with hz | hz
                      · exact h2 z hz
                      · rw [show z = y by simpa using hz]; exact HN.out
                    · exact .inr ⟨h1, z, List.mem_append_left _ h2, h3⟩
                  go_wp2
                  go_roundw
                  case rel => exact ⟨k + 1, fa', by omega, by go_num, R1, R2, HD, R4⟩
                  case measure => simp [intOf]; omega
              · have hkI : ¬ (k : Int) < (L.length : Int) := by omega
                have eT : L.take k = L := List.take_of_length_le (by omega)
                have HL : Hid (FI Wy t os.length fa' (fun y => if y < x + 1 then d + 1 else d)) := FI.congr (Hx2.out.look (d := d) ⟨HXm.out.1, HXm.out.2.1⟩ hww (fun y => by split <;> omega) (by simp) HXm.out.2.2.2 fa' (fun y hy => R2.out y hy) (fun h => absurd HX0.out h)
                  (fun _ hy => by
                    rcases R3.out with ⟨-, h2⟩ | ⟨h1, -⟩
                    · obtain ⟨y, h3, h4⟩ := hy
                      rw [eT, HLx.out] at h2
                      exact absurd h4 (h2 y h3)
                    · exact h1)
                  (fun _ hy => by
                    rcases R3.out with ⟨h1, -⟩ | ⟨-, y, h3, h4⟩
                    · exact h1
                    · rw [eT, HLx.out] at h3
                      exact absurd h4 (hy y h3))) (fun y h1 h2 => by
                  by_cases e : y = x
                  · subst e; simp
                  · by_cases e2 : y < x
                    · rw [if_neg e, if_pos e2, if_pos (by omega)]
                    · rw [if_neg e, if_neg e2, if_neg (by omega)])
                have HBw : Hid (Below W.heap.size W wr) := HS2.out.trans (R4.out.below HS2.out.size (fun k hk => by rw [List.mem_singleton] at hk; rw [hk]; exact HFB.out))
                clear eT
                go_wp2
                go_roundw
                case rel => exact ⟨x + 1, by omega, by omega, by omega, fa', R1.out, HL.out, HBw.out⟩
                case measure => simp [intOf]; omega
          · have h0' : ((fa x : Int) == 0) = false := beq_eq_false_iff_ne.2 (by omega)
            have HL : Hid (FI Wy t os.length fa (fun y => if y < x + 1 then d + 1 else d)) := FI.congr (Hx2.out.look (d := d) ⟨hx1, hxn⟩ hww (fun y => by split <;> omega) (by simp) hd1 fa (fun _ _ => rfl) (fun _ => rfl) (fun h => absurd h h0) (fun h => absurd h h0)) (fun y h1 h2 => by
              by_cases e : y = x
              · subst e; simp
              · by_cases e2 : y < x
                · rw [if_neg e, if_pos e2, if_pos (by omega)]
                · rw [if_neg e, if_neg e2, if_neg (by omega)])
            go_wp2
            go_roundw
            case rel => exact ⟨x + 1, fa, by omega, by omega, by go_num, Hx1.out, HL.out, Hx3.out⟩
            case measure => simp [intOf]; omega
        · have hxI : ¬ (x : Int) ≤ (os.length : Int) := by omega
          have HL : Hid (FI Wy t os.length fa (fun _ => d + 1)) := FI.congr Hx2.out (fun y _ h2 => by rw [if_pos (by omega)])
          go_wp2
          go_roundw
          case rel => exact ⟨d + 1, fa, by omega, by have := Hmm.out; omega, by go_num, Hx1.out, HL.out, Hx3.out⟩
          case measure => simp [intOf]; omega
    · have hdI : ¬ (d : Int) ≤ (os.length : Int) := by omega
      have HF : Hid (∀ y, 1 ≤ y → y ≤ os.length → ∀ e, fa y = e + 1 ↔ Dis Wy t y e) := fun y h1 h2 e => Hr2.out.whole hww (fun _ => by omega) h1 h2 e
      have HFl : Hid (∀ y, 1 ≤ y → y ≤ os.length → fa y ≤ os.length) := fun y h1 h2 => by
        rcases Nat.eq_zero_or_pos (fa y) with h3 | h3
        · omega
        · have h4 := (HF.out y h1 h2 (fa y - 1)).1 (by omega)
          have := h4.lt ⟨h1, h2⟩ hww
          omega
      have HW0 : Hid (∀ y, y ∈ Wy 0 → 1 ≤ y ∧ y ≤ os.length) := hww 0
      obtain ⟨hgb, -, gr⟩ := HXB.out wr Hr3.out
      have y0 : wr.cell? ⟨w.heap.size, 0, none⟩ = some (.slice oa os.length oc) := Kg.heap_cell hgb 0
      have y1 : wr.cell? ⟨w.heap.size, 1, none⟩ = some vs := Kg.heap_cell hgb 1
      have y2 : wr.cell? ⟨w.heap.size, 2, none⟩ = some vh := Kg.heap_cell hgb 2
      have y3 : wr.cell? ⟨w.heap.size, 3, none⟩ = some vr := Kg.heap_cell hgb 3
      have y4 : wr.cell? ⟨w.heap.size, 4, none⟩ = some vq := Kg.heap_cell hgb 4
      have y5 : wr.cell? ⟨w.heap.size, 5, none⟩ = some (.int .u64 (g.next : Int)) := Kg.heap_cell hgb 5
      have q := roots_any n0 wr _ vs vh vr vq os ts g gr (Nat.le_trans (Nat.le_trans hn HL1.out.size) Hr3.out.size) hs hel
      rw [hW0] at q
      have hLl : (Wy 0).length ≤ 1000000000 := by
        have h9 := congrArg List.length hW0
        rw [List.length_map] at h9
        unfold rtl at h9
        have h8 := List.length_filter_le (fun z => decide (0 < z)) ((slotsF g.slots ++ g.hs) ++ g.qu)
        rw [List.length_append, List.length_append] at h8
        omega
      clear hgb gr
      go_wp2_with fail
      refine q.mono ?_
      rintro e w3 ⟨vR, rfl, rR, bR⟩
      have HB3 : Hid (Below W.heap.size W w3) := Hr3.out.trans (bR.mono Hr3.out.size)
      have HF3 : Hid (Fw w3 fb m fa) := Hr1.out.below bR
      have hm1 : m ≤ 1000000000 := by have := Hmm.out; omega
      have q := nearest_any w3 fb m m fa (fun x hx => HF3.out.cell hx) w3.heap.size vR (Wy 0) (Il.lrd rR) (fun x hx => by have := HW0.out x hx; have := Hmm.out; omega) hLl hm1 (by omega) 0
      obtain ⟨aR, cR, rfl⟩ := own_sl17 rR
      rw [List.length_map, show ((0 : Nat) : Int) = 0 from rfl] at q
      rw [List.length_map]
      clear rR bR y0 y1 y2 y3 y4 y5
      go_wp2_with fail
      refine q.mono ?_
      rintro e w4 ⟨b0, rfl, hni, hbm, nq, rfl⟩
      have HF4 : Hid (Fw (w3.drewN nq) fb m fa) := ⟨HF3.out.ex⟩
      have HB4 : Hid (Below W.heap.size W (w3.drewN nq)) := below_drewN HB3.out nq
      have HS3 : Hid (w3.heap.size = (w3.drewN nq).heap.size ∧ fb < w3.heap.size) := ⟨rfl, HF3.out.lt⟩
      have HN0 : Hid ((b0 = 0 ∧ ∀ e, ¬ Pth Wy t e 0) ∨ (1 ≤ b0 ∧ b0 ≤ os.length ∧ fa b0 ≠ 0 ∧ ∀ r, Gd Wy t b0 r → Gd Wy t 0 (b0 :: r))) := first_of HF.out hww hni (by omega)
      clear q hni
      obtain ⟨B3, hB3⟩ : ∃ B3, B3 = w3.heap.size := ⟨_, rfl⟩
      rw [← hB3] at HS3
      have HBW : Hid (W.heap.size ≤ B3) := by show _ ≤ _; rw [hB3]; exact HB3.out.size
      generalize w3.drewN nq = w4 at *
      clear hB3 HB3 HF3 Hr1 Hr3 Hr2
      obtain ⟨i0, hi0, hj0, hj1, hj2⟩ := info_p17 infoI17
      have HI : Hid (Tryz.prog.info? 3 = some i0 ∧ i0.zero = some (.int .i64 0) ∧ i0.size = 1 ∧ i0.bytes = 8) := ⟨hi0, hj0, hj1, hj2⟩
      clear hi0 hj0 hj1 hj2
      go_wp2
      go_loopw [14, 15, 16] (fun v va _ wq => ∃ (at' : Nat) (l : List Nat), va = .int .i64 (at' : Nat) ∧ at' < m ∧ (at' = 0 ∨ l.length + fa at' ≤ 2000000) ∧ Hid (Il wq B3 v (l.map Int.ofNat)) ∧ Hid ((at' = 0 ∧ l = [] ∧ ∀ e, ¬ Pth Wy t e 0) ∨ (1 ≤ at' ∧ at' ≤ os.length ∧ fa at' ≠ 0 ∧ ∀ r, Gd Wy t at' r → Gd Wy t 0 (l ++ at' :: r))) ∧ Hid (Fw wq fb m fa) ∧ Hid (Below W.heap.size W wq) ∧ Hid (B3 ≤ wq.heap.size)) (fun _ va _ _ => fa (intOf va).toNat)
      case atStart =>
        refine ⟨b0, [], rfl, hbm, ?_, World.ownsRow_nil _ _ _ _, ?_, HF4, HB4, by rw [HS3.out.1]; exact Nat.le_refl _⟩
        · rcases HN0.out with ⟨h1, -⟩ | ⟨h1, h2, -⟩
          · exact .inl h1
          · have := HFl.out b0 h1 h2
            refine .inr ?_
            simp
            omega
        · show _ ∨ _
          rcases HN0.out with ⟨h1, h2⟩ | h1
          · exact .inl ⟨h1, rfl, h2⟩
          · exact .inr h1
      case round =>
        obtain ⟨x, l, rfl, hxm, hlen, R1, R2, R3, R4, R5⟩ := hrel
        have HBo : Hid (Below w.heap.size w wr) := HL1.out.trans (R4.out.mono HL1.out.size)
        have HBB : Hid (w.heap.size ≤ B3) := by have := HL1.out.size; have := HBW.out; show _ ≤ _; omega
        obtain ⟨a14, c14, rfl⟩ := own_sl17 R1.out
        rw [List.length_map]
        have R1' : Hid (Il wr B3 (.slice a14 l.length c14) (l.map Int.ofNat)) := by have h9 := R1.out; rw [List.length_map] at h9; exact h9
        clear R1
        by_cases hx0 : x = 0
        · have e0 : ((x : Int) != 0) = false := by rw [hx0]; rfl
          have HE : Hid (l = [] ∧ ∀ e, ¬ Pth Wy t e 0) := by
            rcases R2.out with ⟨-, h1, h2⟩ | ⟨h1, -⟩
            · exact ⟨h1, h2⟩
            · omega
          clear R2 hx0
          go_wp2
          go_ret2
          exact ⟨_, l, rfl, Kg.row_base R1'.out HBB.out, HBo.out, .inl HE.out⟩
        · have e0 : ((x : Int) != 0) = true := bne_iff_ne.2 (by omega)
          obtain ⟨hx1, hxn, hfx, HG⟩ : 1 ≤ x ∧ x ≤ os.length ∧ fa x ≠ 0 ∧ Hid (∀ r, Gd Wy t x r → Gd Wy t 0 (l ++ x :: r)) := by
            rcases R2.out with ⟨h1, -⟩ | ⟨h1, h2, h3, h4⟩
            · exact absurd h1 hx0
            · exact ⟨h1, h2, h3, h4⟩
          have hl2 : l.length + fa x ≤ 2000000 := by omega
          clear R2
          have HRow : Hid ((wr.alloc (.cells #[.int .i64 (x : Int)] 3)).ownsRow B3 3 1 (.slice a14 l.length c14) l.length (Kg.ints (l.map Int.ofNat))) := by
            have h9 := Il.below R1'.out (Below.alloc (Below.refl _ _) (Nat.le_refl _) (.cells #[.int .i64 (x : Int)] 3))
            unfold Il at h9
            rw [List.length_map] at h9
            exact h9
          go_upto_region 27 with (at_builtin; refine wpList_append_own_at _ rfl _ _ 24 rfl B3 3 i0 (.int .i64 0) 1 8 Tryz.underlying24 HI.out.1 HI.out.2.1 HI.out.2.2.1 HI.out.2.2.2 rfl (by decide) _ _ _ rfl HRow.out ⟨wr.heap.size, 0, none⟩ 1 1 [.int .i64 (x : Int)] rfl rfl (cell_one17 _ _ _) (by simp [Value.oneCell']) (by simp only [maxLen]; omega) (by omega) (by have := R5.out; simp; omega) ?_; intro v8 w8 h8 g8 _ _)
          have h8' : w8.ownsRow B3 3 1 v8 ((l.map Int.ofNat).length + 1) (Kg.ints (l.map Int.ofNat) ++ [.int .i64 (x : Int)]) := by rw [List.length_map]; exact h8
          obtain ⟨s1, -, s3⟩ := Il.snoc R1'.out h8' g8 R5.out
          have S1 : Hid (Il w8 B3 v8 ((l ++ [x]).map Int.ofNat)) := by
            show Il _ _ _ _
            rw [List.map_append]
            exact s1
          have S2 : Hid (Fw w8 fb m fa) := R3.out.low s3 HS3.out.2
          have S3 : Hid (Below W.heap.size W w8) := R4.out.trans (s3.mono HBW.out)
          have S4 : Hid (B3 ≤ w8.heap.size) := Nat.le_trans R5.out s3.size
          obtain ⟨a8, c8, rfl⟩ := own_sl17 h8
          clear h8 g8 h8' s1 s3 R1' R3 R4 R5 HBo HRow
          have cx := S2.out.cell hxm
          have hxI : (x : Int) < (m : Int) := by omega
          by_cases hf1 : fa x = 1
          · have e1 : ((fa x : Int) == 1) = true := beq_iff_eq.2 (by omega)
            have HR : Hid (Gd Wy t 0 (l ++ [x])) := HG.out [] (last_of HF.out ⟨hx1, hxn⟩ hf1)
            have HBo : Hid (Below w.heap.size w w8) := HL1.out.trans (S3.out.mono HL1.out.size)
            clear hf1
            go_wp2
            go_ret2
            exact ⟨_, l ++ [x], rfl, Kg.row_base S1.out HBB.out, HBo.out, .inr ⟨by simp, HR.out⟩⟩
          · have e1 : ((fa x : Int) == 1) = false := beq_eq_false_iff_ne.2 (by omega)
            have hxm1 : (x : Int) - 1 = ((x - 1 : Nat) : Int) := by omega
            have hxlt : x - 1 < os.length := by omega
            have hxltI : ((x - 1 : Nat) : Int) < (os.length : Int) := by omega
            have hz : os[x - 1]? = some (os[x - 1]'hxlt) := List.getElem?_eq_getElem hxlt
            generalize os[x - 1]'hxlt = o at hz
            obtain ⟨y0, -, gr⟩ := HXB.out w8 S3.out
            have y0 := Kg.heap_cell y0 0
            obtain ⟨oa', oc', eo, hob⟩ := gr.ob
            simp only [Value.slice.injEq] at eo
            obtain ⟨rfl, -, rfl⟩ := eo
            obtain ⟨lp, lr, qo, off, rfl, hqo, hco⟩ := hob (x - 1) o hz
            have hpo := hps o (List.mem_of_getElem? hz)
            have HWX : Hid (stg o.o = (Wy x).map Int.ofNat) := by
              have h9 := hWx (x - 1) o hz
              rw [show x - 1 + 1 = x by omega] at h9
              exact h9
            have c0 := (hco 0 (by omega)).trans (show _ = some (Value.int .u64 (o.o.ser : Int)) from rfl)
            have c1 := (hco 1 (by omega)).trans (show _ = some (Value.int .i64 o.o.kind) from rfl)
            have c2 := (hco 2 (by omega)).trans (show _ = some (Value.int .i64 o.o.site) from rfl)
            have c3 := (hco 3 (by omega)).trans (show _ = some o.vp from rfl)
            have c4 := (hco 4 (by omega)).trans (show _ = some o.vr from rfl)
            rw [Nat.add_zero] at c0
            have q := strong_any n0 w8 (Nat.le_trans (Nat.le_trans hn (HL1.out.size)) S3.out.size) o lp hpo
            rw [HWX.out] at q
            have HLw : Hid (∀ y, y ∈ Wy x → 1 ≤ y ∧ y < m) := fun y hy => by have := hww x y hy; have := Hmm.out; omega
            have hLl : (Wy x).length ≤ 1000000000 := by
              have h9 := congrArg List.length HWX.out
              rw [List.length_map] at h9
              have h8 := List.length_filter_le (fun z => decide (0 < z)) (o.o.ps.drop (fst17 o.o.kind))
              unfold stg at h9
              rw [List.length_drop] at h8
              omega
            have hf0 : (fa x : Int) - 1 = ((fa x - 1 : Nat) : Int) := by omega
            have HNX : Hid (∀ b, NI fa (Wy x) (fa x - 1) b → 1 ≤ b ∧ b ≤ os.length ∧ fa b = fa x - 1 ∧ ∀ r, Gd Wy t b r → Gd Wy t x (b :: r)) := fun b hb => next_of HF.out hww ⟨hx1, hxn⟩ hfx hf1 hb
            clear hob hco hz lr gr hpo HWX
            go_wp2_with fail
            refine q.mono ?_
            rintro e wS ⟨vS, rfl, rS, bS⟩
            have T1 : Hid (Il wS B3 (.slice a8 (l.length + 1) c8) ((l ++ [x]).map Int.ofNat)) := Il.below S1.out bS
            have T2 : Hid (Fw wS fb m fa) := S2.out.below bS
            have T3 : Hid (Below W.heap.size W wS) := S3.out.trans (bS.mono S3.out.size)
            have T4 : Hid (B3 ≤ wS.heap.size) := Nat.le_trans S4.out bS.size
            have hm1 : m ≤ 1000000000 := by have := Hmm.out; omega
            have hm0 : 0 < m := by omega
            have q := nearest_any wS fb m m fa (fun x hx => T2.out.cell hx) wS.heap.size vS (Wy x) (Il.lrd rS) HLw.out hLl hm1 hm0 (fa x - 1)
            obtain ⟨aS, cS, rfl⟩ := own_sl17 rS
            rw [List.length_map] at q
            rw [List.length_map]
            have cx := T2.out.cell hxm
            clear rS bS y0 c0 c1 c2 c3 c4 S1 S2 S3 S4 hm1 hm0 hLl HLw
            go_wp2_with fail
            refine q.mono ?_
            rintro e w9 ⟨b1, rfl, hni, hbm1, nq, rfl⟩
            obtain ⟨n1, n2, n3, n4⟩ := HNX.out b1 hni
            have HG2 : Hid (∀ r, Gd Wy t b1 r → Gd Wy t 0 (l ++ [x] ++ b1 :: r)) := fun r hr => by
              have h9 := HG.out (b1 :: r) (n4 r hr)
              rw [List.append_assoc]
              exact h9
            have U1 : Hid (Il (wS.drewN nq) B3 (.slice a8 (l.length + 1) c8) ((l ++ [x]).map Int.ofNat)) := T1
            have U2 : Hid (Fw (wS.drewN nq) fb m fa) := ⟨T2.out.ex⟩
            have U3 : Hid (Below W.heap.size W (wS.drewN nq)) := below_drewN T3.out nq
            have U4 : Hid (B3 ≤ (wS.drewN nq).heap.size) := T4
            have hlt : fa b1 < fa x := by omega
            have hl3 : (l ++ [x]).length + fa b1 ≤ 2000000 := by simp only [List.length_append, List.length_cons, List.length_nil]; omega
            have hb0 : fa b1 ≠ 0 := by omega
            clear q hni n4 HNX HG n3 cx
            go_wp2
            go_roundw
            case rel => exact ⟨b1, l ++ [x], rfl, hbm1, .inr hl3, U1, .inr ⟨n1, n2, hb0, HG2.out⟩, U2, U3, U4⟩
            case measure => simpa [intOf] using hlt

end Go.Proofs.YtckgcpoheodbcaaGreatDoor
