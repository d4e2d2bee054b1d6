import Derived.Test.YtkekaifiahjljaaGreatDoorC43
import Derived.Test.YtkekaifiahjljaaGreatDoorC28
import Derived.Test.YtkekaifiahjljaaGreatDoorC15
set_option linter.unusedVariables false
set_option maxHeartbeats 8000000
set_option maxRecDepth 20000
namespace Go.Proofs.YtkekaifiahjljaaGreatDoor
open Go.RowKit Go.Shelf Go.Proofs.YtkekaifiahjljaaGreatDoor.Lt
def pot (g : Im.Gr) (ins : Nat → Bool) : Nat := uw (fun _ => 2097153) ins (List.range' 1 g.obs.length)
theorem pot_new {g : Im.Gr} {ins : Nat → Bool} {x : Nat} (h : ins (x + 1) = false) (hx : x < g.obs.length) : pot g ins = pot g (inw ins (x + 1)) + 2097153 :=
  uw_in h _ (List.nodup_range' ..) (List.mem_range'_1.2 ⟨by omega, by omega⟩)
theorem Grd.obj {n0 : Nat} {w : World} {oa : Option Addr} {oc : Nat} {vs vh vr vq : Value} {os : List OL} {ts : List (Value × List (Value × List Int))} {g : Im.Gr} (h : Grd n0 w (.slice oa os.length oc) vs vh vr vq os ts g) {k : Nat} {o : OL} (hk : os[k]? = some o) :
    ∃ qo off pa pc ra rc, oa = some ⟨qo, off, none⟩ ∧ o.vp = .slice pa o.o.ps.length pc ∧ o.vr = .slice ra o.o.rs.length rc ∧ Lrd n0 w o.vp .i64 o.o.ps ∧ g.obs[k]? = some o.o ∧ w.cell? ⟨qo, off + k * 5, none⟩ = some (.int .u64 (o.o.ser : Int)) ∧ w.cell? ⟨qo, off + k * 5 + 1, none⟩ = some (.int .i64 o.o.kind) ∧ w.cell? ⟨qo, off + k * 5 + 2, none⟩ = some (.int .i64 o.o.site) ∧ w.cell? ⟨qo, off + k * 5 + 3, none⟩ = some (.slice pa o.o.ps.length pc) ∧ w.cell? ⟨qo, off + k * 5 + 4, none⟩ = some (.slice ra o.o.rs.length rc) := by
  obtain ⟨oa', oc', eo, hob⟩ := h.ob
  simp only [Value.slice.injEq] at eo
  obtain ⟨rfl, -, rfl⟩ := eo
  obtain ⟨lp, lr, qo, off, rfl, hqo, hco⟩ := hob k o hk
  have c0 := (hco 0 (by omega)).trans (show _ = some (Value.int .u64 (o.o.ser : Int)) from rfl)
  have c1 := (hco 1 (by omega)).trans (show _ = some (Value.int .i64 o.o.kind) from rfl)
  have c2 := (hco 2 (by omega)).trans (show _ = some (Value.int .i64 o.o.site) from rfl)
  have c3 := (hco 3 (by omega)).trans (show _ = some o.vp from rfl)
  have c4 := (hco 4 (by omega)).trans (show _ = some o.vr from rfl)
  obtain ⟨pa, pc, ep, -, -⟩ := id lp
  obtain ⟨ra, rc, er, -, -⟩ := id lr
  rw [List.length_map] at er
  refine ⟨qo, off, pa, pc, ra, rc, rfl, ep, er, lp, by rw [h.eo, List.getElem?_map, hk]; rfl, c0, c1, c2, by rw [← ep]; exact c3, by rw [← er]; exact c4⟩
theorem Il.low {w w' : World} {base : Nat} {v : Value} {l : List Int} {F : List Nat} (h : Il w base v l) (ht : Kg.Touch F w w') (hF : ∀ k, k ∈ F → k < base) : Il w' base v l :=
  Kg.row_keep2 h ht (fun k hk hkF => by
    have := (World.ownsRow.lt h k hk).1
    have := hF k hkF
    omega)
def Cxl (i1 : Nat → Bool) (n k : Nat) (o : Im.Ob) (cx : Bool) : Prop :=
  (cx = true → ∃ κ v : Nat, o.kind = 3 ∧ o.ps[0]? = some (κ : Int) ∧ o.ps[1]? = some (v : Int) ∧ κ ≠ 0 ∧ i1 k = true ∧ i1 κ = true) ∧ (cx = false → ∀ κ : Nat, i1 k = true → o.kind = 3 → o.ps[0]? = some (κ : Int) → κ ≠ 0 → i1 κ = true → k ≠ n ∧ κ ≠ n)
def RdL (g : Im.Gr) (w1 : World) (bb m T : Nat) (v4 v5 : Value) (wr : World) (j : Nat) : Prop :=
  ∃ (L : List Int) (ins : Nat → Bool) (i : Nat), v5 = .int .i64 (i : Nat) ∧ Il wr w1.heap.size v4 L ∧ Lw g L ins i ∧ Fb wr bb m ins ∧ Below bb w1 wr ∧ w1.heap.size ≤ wr.heap.size ∧ L.length + pot g ins ≤ T ∧ j + i = L.length + pot g ins
set_option maxHeartbeats 16000000 in
theorem reach17L_any (n0 : Nat) (w : World) (vo vs vh vr vq : Value) (os : List OL) (ts : List (Value × List (Value × List Int))) (g : Im.Gr) (hg : Grd n0 w vo vs vh vr vq os ts g) (hn : n0 ≤ w.heap.size) (hs : Sln ts) (hel : (slotsF g.slots).length + g.hs.length + g.qu.length + g.rg.length ≤ 3145728) (hk : Ok17 g) (hol : os.length ≤ 1048576) (hpl : ∀ x, x ∈ os → x.o.ps.length ≤ 1048576) :
    Calls Tryz.prog 15 #[.agg (gcs vo vs vh vr vq g.next)] w fun e w' => ∃ (bb : Nat) (ins : Nat → Bool), e = .returned (.slice (some ⟨bb, 0, none⟩) (os.length + 1) (os.length + 1)) ∧ w.heap.size ≤ bb ∧ Fb w' bb (os.length + 1) ins ∧ (∀ x, ins x = true ↔ Re (wy17 g) (pe17 g) 0 x) ∧ Below w.heap.size w w' := by
  obtain ⟨i0, hi0, hj0, hj1, hj2⟩ := info_p17 infoI17
  have HI : Hid (Tryz.prog.info? 3 = some i0 ∧ i0.zero = some (.int .i64 0) ∧ i0.size = 1 ∧ i0.bytes = 8) := ⟨hi0, hj0, hj1, hj2⟩
  clear hi0 hj0 hj1 hj2
  have hgl : g.obs.length = os.length := by rw [hg.eo, List.length_map]
  have l1 : Below w.heap.size w (w.alloc (.cells (gcs vo vs vh vr vq g.next) 27)) := Below.alloc (Below.refl _ _) (Nat.le_refl _) _
  have hx := heap_alloc_new w (.cells (gcs vo vs vh vr vq g.next) 27 (0, 0))
  obtain ⟨oa, oc, eo, -⟩ := id hg.ob
  subst eo
  obtain ⟨A, hA⟩ : ∃ A, A = w.heap.size := ⟨_, rfl⟩
  have HA : Hid (A = w.heap.size) := hA
  rw [← hA] at hx
  generalize hW : w.alloc (.cells (gcs (.slice oa os.length oc) vs vh vr vq g.next) 27) = W at *
  have HWs : Hid (W.heap.size = A + 1) := by show _ = _; rw [← hW, hA]; simp
  have y0 : W.cell? ⟨A, 0, none⟩ = some (.slice oa os.length oc) := Kg.heap_cell hx 0
  have HL1 : Hid (Below w.heap.size w W) := l1
  have HG : Hid (∀ w', Below W.heap.size W w' → w'.heap[A]? = some (.cells (gcs (.slice oa os.length oc) vs vh vr vq g.next) 27 (0, 0)) ∧ Below w.heap.size w w' ∧ Grd n0 w' (.slice oa os.length oc) vs vh vr vq os ts g) := fun w' b' => ⟨(b'.block _ (Kg.heap_lt hx)).trans hx, l1.trans (b'.mono l1.size), hg.below ((l1.trans (b'.mono l1.size)).mono hn)⟩
  have HK : Hid (Ok17 g) := hk
  have HPL : Hid (∀ x, x ∈ os → x.o.ps.length ≤ 1048576) := hpl
  have HSl : Hid (Sln ts) := hs
  have HEl : Hid ((slotsF g.slots).length + g.hs.length + g.qu.length + g.rg.length ≤ 3145728) := hel
  have HGL : Hid (g.obs.length = os.length) := hgl
  obtain ⟨m, hmm⟩ : ∃ m, m = os.length + 1 := ⟨_, rfl⟩
  have HMM : Hid (m = os.length + 1) := hmm
  have hmi : (os.length : Int) + 1 = (m : Int) := by omega
  have hm1 : m ≤ 1048577 := by omega
  have mkB := make_bools m (by omega)
  have hwm : IntKind.i64.wrap (m : Int) = (m : Int) := by rw [IntKind.wrap_i64]; omega
  rw [← hmm]
  clear hg hx l1 hs hel hk hpl hA hmm hgl
  go_enter Tryz.func15, Tryz.ntmps15
  go_upto_region 1 with fail
  rw [← HA.out]
  go_upto_region 2 with fail
  have b1 : Below W.heap.size W (W.alloc (.cells (madeCells #[.bool false] m) 4)) := Below.alloc (Below.refl _ _) (Nat.le_refl _) _
  have hf1 := Fb.new W m
  have hs1 : (W.alloc (.cells (madeCells #[.bool false] m) 4)).heap.size = W.heap.size + 1 := by simp
  obtain ⟨bb, hbb⟩ : ∃ bb, bb = W.heap.size := ⟨_, rfl⟩
  rw [← hbb] at hf1 hs1 ⊢
  have HB1 : Hid (Below W.heap.size W (W.alloc (.cells (madeCells #[.bool false] m) 4))) := b1
  have HF1 : Hid (Fb (W.alloc (.cells (madeCells #[.bool false] m) 4)) bb m (fun _ => false)) := hf1
  have HBW : Hid (bb = W.heap.size ∧ (W.alloc (.cells (madeCells #[.bool false] m) 4)).heap.size = bb + 1) := ⟨hbb, hs1⟩
  clear b1 hf1 hs1 hbb y0 mkB
  change Code.wp _ _ _ _ (W.alloc (.cells (madeCells #[.bool false] m) 4))
  generalize W.alloc (.cells (madeCells #[.bool false] m) 4) = w1 at *
  have hgb := (HG.out w1 HB1.out).1
  have y0 : w1.cell? ⟨A, 0, none⟩ = some (.slice oa os.length oc) := Kg.heap_cell hgb 0
  have y1 : w1.cell? ⟨A, 1, none⟩ = some vs := Kg.heap_cell hgb 1
  have y2 : w1.cell? ⟨A, 2, none⟩ = some vh := Kg.heap_cell hgb 2
  have y3 : w1.cell? ⟨A, 3, none⟩ = some vr := Kg.heap_cell hgb 3
  have y4 : w1.cell? ⟨A, 4, none⟩ = some vq := Kg.heap_cell hgb 4
  have y5 : w1.cell? ⟨A, 5, none⟩ = some (.int .u64 (g.next : Int)) := Kg.heap_cell hgb 5
  have q := holders17_any n0 w1 _ vs vh vr vq os ts g (HG.out w1 HB1.out).2.2 (Nat.le_trans hn (Nat.le_trans HL1.out.size HB1.out.size)) HSl.out (by have := HEl.out; omega)
  clear hgb
  go_wp2_with fail
  refine q.mono ?_
  rintro e w2 ⟨v2, rfl, hi2, b2⟩
  obtain ⟨T, hT⟩ : ∃ T, T = 3000000000000 := ⟨_, rfl⟩
  have HT : Hid (T ≤ 3000000000000) := by show _ ≤ _; omega
  have HPot : Hid ((slotsF g.slots ++ (g.hs ++ g.qu)).length + pot g (fun _ => false) ≤ T) := by
    have h1 : ∀ l : List Nat, uw (fun _ => 2097153) (fun _ => false) l = l.length * 2097153 := fun l => by
      induction l with
      | nil => simp [uw]
      | cons x r ih =>
        unfold uw at ih ⊢
        rw [List.map_cons, List.sum_cons, ih, List.length_cons, Nat.succ_mul]
        simp
        omega
    have h2 := h1 (List.range' 1 g.obs.length)
    have h3 := HEl.out
    have h4 := HGL.out
    rw [List.length_range'] at h2
    show _ ≤ _
    unfold pot
    rw [h2, List.length_append, List.length_append, hT]
    omega
  have HI2 : Hid (Il w2 w1.heap.size v2 (slotsF g.slots ++ (g.hs ++ g.qu)) ∧ Fb w2 bb m (fun _ => false) ∧ Below bb w1 w2 ∧ w1.heap.size ≤ w2.heap.size) := ⟨hi2, HF1.out.below b2, b2.mono (by have := HBW.out; omega), b2.size⟩
  clear q hi2 b2 y0 y1 y2 y3 y4 y5 hT
  go_wp2
  go_loopw [4, 5, 6, 7, 8] (fun v4 v5 _ _ _ wr => ∃ j, RdL g w1 bb m T v4 v5 wr j) (fun v4 v5 _ _ _ wr => Classical.epsilon (Lse (RdL g w1 bb m T v4 v5 wr)))
  case atStart => exact ⟨_, _, _, 0, rfl, HI2.out.1, Lw.start HK.out, HI2.out.2.1, HI2.out.2.2.1, HI2.out.2.2.2, HPot.out, rfl⟩
  case round =>
    obtain ⟨j0, hj0⟩ : ∃ j0, j0 = Classical.epsilon (Lse (RdL g w1 bb m T u4 u5 wr)) := ⟨_, rfl⟩
    have h9 := epe_spec hrel
    rw [← hj0] at h9
    have HJ : Hid (j0 = Classical.epsilon (Lse (RdL g w1 bb m T u4 u5 wr))) := hj0
    clear hj0 hrel HI2 HPot
    obtain ⟨L, ins, i, rfl, r1, r2, r3, r4, r5, r6, r7⟩ := h9
    have R1 : Hid (Il wr w1.heap.size u4 L) := r1
    have R2 : Hid (Lw g L ins i) := r2
    have R3 : Hid (Fb wr bb m ins) := r3
    have R4 : Hid (Below bb w1 wr) := r4
    have R5 : Hid (w1.heap.size ≤ wr.heap.size) := r5
    have R6 : Hid (L.length + pot g ins ≤ T) := r6
    have R7 : Hid (j0 + i = L.length + pot g ins) := r7
    obtain ⟨a4, c4, rfl⟩ := own_sl17 r1
    have hLl : L.length ≤ 3000000000000 := Nat.le_trans (Nat.le_trans (Nat.le_add_right _ _) r6) HT.out
    have hil := r2.il
    have HRd : Hid (∀ (f : Nat) z, L[f]? = some z → ∃ q, a4 = some ⟨q, 0, none⟩ ∧ wr.cell? ⟨q, f, none⟩ = some (.int .i64 z)) := fun f z hz => by
      obtain ⟨a, cap, e1, h2⟩ := Il.at_ r1 (Kg.Touch.refl [] wr) (by simp)
      simp only [Value.slice.injEq, true_and] at e1
      obtain ⟨rfl, rfl⟩ := e1
      obtain ⟨q, h3, -, -, h4⟩ := h2 f z hz
      exact ⟨q, h3, h4⟩
    clear r1 r2 r3 r4 r5 r6 r7
    by_cases hlt : i < L.length
    · have hltI : (i : Int) < (L.length : Int) := by omega
      obtain ⟨z, hz⟩ : ∃ z, L[i]? = some z := ⟨_, List.getElem?_eq_getElem hlt⟩
      obtain ⟨q, rfl, cz⟩ := HRd.out i z hz
      have HZ : Hid (L[i]? = some z) := hz
      have hzb := (R2.out.a z (List.mem_of_getElem? hz)).1
      clear hz HRd
      by_cases hz0 : z ≤ 0
      · have g0 : decide (z ≤ 0) = true := decide_eq_true hz0
        have X : Hid (RdL g w1 bb m T (.slice (some ⟨q, 0, none⟩) L.length c4) (.int .i64 ((i + 1 : Nat) : Int)) wr (j0 - 1)) := ⟨L, ins, i + 1, rfl, R1.out, R2.out.skip HZ.out (.inl hz0), R3.out, R4.out, R5.out, R6.out, by have := R7.out; omega⟩
        have hj1 : 0 < j0 := by have := R7.out; omega
        go_wp2
        go_roundw
        case rel =>
          exact ⟨j0 - 1, X.out⟩
        case measure =>
          rw [← HJ.out]
          exact Nat.lt_of_le_of_lt (epe_le X.out) (by omega)
      · have g0 : decide (z ≤ 0) = false := decide_eq_false hz0
        obtain ⟨x, rfl⟩ : ∃ x : Nat, z = ((x + 1 : Nat) : Int) := ⟨z.toNat - 1, by omega⟩
        have hxo : x < os.length := by have := HGL.out; omega
        have hxm : x + 1 < m := by have := HMM.out; omega
        have hxI : ((x + 1 : Nat) : Int) < (m : Int) := by omega
        have cb := R3.out.cell hxm
        obtain ⟨bn, hbn⟩ : ∃ bn, bn = ins (x + 1) := ⟨_, rfl⟩
        rw [← hbn] at cb
        have HBN : Hid (bn = ins (x + 1)) := hbn
        clear hbn hz0 hzb
        cases bn with
        | true =>
          have X : Hid (RdL g w1 bb m T (.slice (some ⟨q, 0, none⟩) L.length c4) (.int .i64 ((i + 1 : Nat) : Int)) wr (j0 - 1)) := ⟨L, ins, i + 1, rfl, R1.out, R2.out.skip HZ.out (.inr (by rw [Int.toNat_natCast]; exact HBN.out.symm)), R3.out, R4.out, R5.out, R6.out, by have := R7.out; omega⟩
          have hj1 : 0 < j0 := by have := R7.out; omega
          go_wp2
          go_roundw
          case rel => exact ⟨j0 - 1, X.out⟩
          case measure =>
            rw [← HJ.out]
            exact Nat.lt_of_le_of_lt (epe_le X.out) (by omega)
        | false =>
          have zb := R3.out.frozen (x + 1)
          have hx1 : ((x + 1 : Nat) : Int) - 1 = (x : Int) := by omega
          have hxI2 : (x : Int) < (os.length : Int) := by omega
          obtain ⟨o, ho⟩ : ∃ o, os[x]? = some o := ⟨_, List.getElem?_eq_getElem hxo⟩
          have HO : Hid (os[x]? = some o) := ho
          have tS : Kg.Touch [bb] wr (wr.setCell ⟨bb, x + 1, none⟩ (.bool true)) := Kg.Touch.setCell _ _ _ (by simp)
          have N3 : Hid (Fb (wr.setCell ⟨bb, x + 1, none⟩ (.bool true)) bb m (inw ins (x + 1))) := R3.out.set hxm true
          have N1 : Hid (Il (wr.setCell ⟨bb, x + 1, none⟩ (.bool true)) w1.heap.size (.slice (some ⟨q, 0, none⟩) L.length c4) L) := R1.out.low tS (fun k hk => by rw [List.mem_singleton.1 hk, HBW.out.2]; omega)
          have N4 : Hid (Below bb w1 (wr.setCell ⟨bb, x + 1, none⟩ (.bool true))) := R4.out.trans (tS.below (Nat.le_trans (by rw [HBW.out.2]; omega) R5.out) (fun k hk => by rw [List.mem_singleton.1 hk]; exact Nat.le_refl _))
          have N5 : Hid (w1.heap.size ≤ (wr.setCell ⟨bb, x + 1, none⟩ (.bool true)).heap.size) := Nat.le_trans R5.out tS.size
          clear ho tS R1 R3 R4 R5
          go_upto_region 9 with fail
          clear cb cz zb
          generalize wr.setCell ⟨bb, x + 1, none⟩ (.bool true) = w3 at *
          have hHG := HG.out w3 (HB1.out.trans (N4.out.mono (Nat.le_of_eq HBW.out.1.symm)))
          obtain ⟨hgb, bW3, gr⟩ := hHG
          have y0 : w3.cell? ⟨A, 0, none⟩ = some (.slice oa os.length oc) := Kg.heap_cell hgb 0
          obtain ⟨qo, off, pa, pc, ra, rc, e1, ep, er, lp, hobs, d0, d1, d2, d3, d4⟩ := gr.obj HO.out
          subst e1
          have HOB : Hid (g.obs[x]? = some o.o) := hobs
          have hpl := HPL.out o (List.mem_of_getElem? HO.out)
          have qs := strong17_any n0 w3 (Nat.le_trans hn bW3.size) o lp (by omega)
          unfold OL.cells at qs
          rw [ep, er] at qs
          clear hgb gr lp hobs ep er bW3
          go_wp2_with fail
          refine qs.mono ?_
          rintro e w4 ⟨vS, rfl, rS, bS⟩
          obtain ⟨sa, sc, rfl⟩ := own_sl17 rS
          have HN : Hid (∀ (j : Nat) u, (Kg.ints (stg o.o))[j]? = some u → ∃ ad, sa = some ad ∧ w4.cell? (ad.add j) = some u) := lrd_news (Il.lrd rS)
          have hsl : (stg o.o).length ≤ 1048576 := by
            have h8 := List.length_filter_le (fun z => decide (0 < z)) (o.o.ps.drop (fst17 o.o.kind))
            unfold stg
            rw [List.length_drop] at h8
            omega
          have M1 : Hid (Il w4 w1.heap.size (.slice (some ⟨q, 0, none⟩) L.length c4) L) := N1.out.below bS
          have M3 : Hid (Fb w4 bb m (inw ins (x + 1))) := N3.out.below bS
          have M4 : Hid (Below bb w1 w4) := N4.out.trans (bS.mono (Nat.le_of_lt N3.out.lt))
          have M5 : Hid (w1.heap.size ≤ w4.heap.size) := Nat.le_trans N5.out bS.size
          have M1r := M1.out
          unfold Il at M1r
          have HRow : Hid (w4.ownsRow w1.heap.size 3 1 (.slice (some ⟨q, 0, none⟩) L.length c4) L.length (Kg.ints L)) := M1r
          clear qs rS bS d0 d1 d2 d3 d4 N1 N3 N4 N5 M1r y0
          go_upto_region 10 with (at_builtin; refine Kg.wpList_append_row rfl _ _ 24 rfl w1.heap.size 3 i0 (.int .i64 0) 8 Tryz.underlying24 HI.out.1 HI.out.2.1 HI.out.2.2.1 HI.out.2.2.2 rfl _ _ _ rfl HRow.out sa (stg o.o).length sc (Kg.ints (stg o.o)) (by simp [Kg.ints]) rfl HN.out (by simp [Kg.ints, Value.oneCell']) (by simp only [maxLen]; omega) (by omega) M5.out ?_; intro v5 w5 hown hgrow _ _ _)
          obtain ⟨V1, V3, V4, V5⟩ : Il w5 w1.heap.size v5 (L ++ stg o.o) ∧ Fb w5 bb m (inw ins (x + 1)) ∧ Below bb w1 w5 ∧ w1.heap.size ≤ w5.heap.size := by
            have t5 : Kg.Touch (Value.slice (some ⟨q, 0, none⟩) L.length c4).ownBlock.toList w4 w5 := Kg.Touch.grown hgrow (fun y hy => by rw [Option.mem_toList]; exact hy)
            have hq : ∀ k, k ∈ (Value.slice (some ⟨q, 0, none⟩) L.length c4).ownBlock.toList → w1.heap.size ≤ k := fun k hk => by rw [Option.mem_toList] at hk; exact (HRow.out.lt k hk).1
            refine ⟨?_, M3.out.touch t5 (fun h => by have := hq _ h; rw [HBW.out.2] at this; omega), M4.out.trans (t5.below (Nat.le_trans (by rw [HBW.out.2]; omega) M5.out) (fun k hk => by have := hq k hk; rw [HBW.out.2] at this; omega)), Nat.le_trans M5.out t5.size⟩
            unfold Il
            rw [List.length_append]
            simp only [Kg.ints, List.map_append] at hown ⊢
            exact hown
          have HV : Hid (Il w5 w1.heap.size v5 (L ++ stg o.o) ∧ Fb w5 bb m (inw ins (x + 1)) ∧ Below bb w1 w5 ∧ w1.heap.size ≤ w5.heap.size) := ⟨V1, V3, V4, V5⟩
          have HLv : Hid (Lv g (L ++ stg o.o) (inw ins (x + 1)) (i + 1) (x + 1) 1) := R2.out.new HK.out HZ.out HOB.out HBN.out.symm
          obtain ⟨U, hU⟩ : ∃ U, U = L.length + pot g ins := ⟨_, rfl⟩
          obtain ⟨i1, hi1⟩ : ∃ i1, i1 = inw ins (x + 1) := ⟨_, rfl⟩
          rw [← hi1] at HV HLv
          have HU : Hid (j0 + i = U ∧ U ≤ T) := by rw [hU]; exact ⟨R7.out, R6.out⟩
          have HP0 : Hid ((L ++ stg o.o).length + pot g i1 + m ≤ U + 1) := by
            have h1 := pot_new (g := g) HBN.out.symm (by have := HGL.out; omega)
            rw [← hi1] at h1
            have h2 := HMM.out
            show _ ≤ _
            rw [List.length_append]
            omega
          have HI1 : Hid (i1 (x + 1) = true) := by show _ = _; rw [hi1]; exact inw_at
          have hib : i ≤ 3000000000000 := by omega
          clear hown hgrow V1 V3 V4 V5 M1 M3 M4 M5 HRow HN HO HOB hsl hpl R2 R6 R7 hLl hil hltI hlt HZ hU hi1 HBN hx1 hxI2 hxI hxm hxo
          generalize L ++ stg o.o = L1 at *
          generalize hnI : ((x : Int) + 1) = nI
          have HNI : Hid ((((x + 1 : Nat)) : Int) = nI) := by show _ = _; rw [← hnI]; omega
          clear hnI
          go_wp2
          go_loopw [4, 7, 8] (fun v4 v7 _ wq => ∃ (L2 : List Int) (k : Nat), v7 = .int .i64 (k : Nat) ∧ 1 ≤ k ∧ k ≤ m ∧ Hid (Il wq w1.heap.size v4 L2) ∧ Hid (Lv g L2 i1 (i + 1) (x + 1) k) ∧ Hid (Fb wq bb m i1) ∧ Hid (Below bb w1 wq) ∧ Hid (w1.heap.size ≤ wq.heap.size) ∧ Hid (L2.length + pot g i1 + m ≤ U + k)) (fun _ v7 _ _ => m - (intOf v7).toNat)
          case atStart => exact ⟨L1, 1, rfl, Nat.le_refl _, by have := HMM.out; omega, HV.out.1, HLv, HV.out.2.1, HV.out.2.2.1, HV.out.2.2.2, HP0.out⟩
          case round =>
            obtain ⟨L2, k, rfl, hk1, hkm, S1, S2, S3, S4, S5, S6⟩ := hrel
            clear HV HLv HP0
            obtain ⟨a2, c2, ea2⟩ := own_sl17 S1.out
            subst ea2
            by_cases hkl : k < m
            · have hklI : (k : Int) < (m : Int) := by omega
              obtain ⟨kk, hkk⟩ : ∃ kk, k = kk + 1 := ⟨k - 1, by omega⟩
              have HKK : Hid (k = kk + 1) := hkk
              have hkI : (k : Int) - 1 = (kk : Int) := by omega
              have hko : kk < os.length := by have := HMM.out; omega
              have hkoI : (kk : Int) < (os.length : Int) := by omega
              obtain ⟨e, he⟩ : ∃ e, os[kk]? = some e := ⟨_, List.getElem?_eq_getElem hko⟩
              obtain ⟨hgb, bW3, gr⟩ := HG.out wr (HB1.out.trans (S4.out.mono (Nat.le_of_eq HBW.out.1.symm)))
              have y0 := Kg.heap_cell hgb 0
              obtain ⟨qo', off', ka, kc, la, lc, e1, ep, er, lp, hobs, d0, d1, d2, d3, d4⟩ := gr.obj he
              simp only [Option.some.injEq, Addr.mk.injEq, and_true] at e1
              obtain ⟨rfl, rfl⟩ := e1
              have HE : Hid (g.obs[kk]? = some e.o) := hobs
              have hpw := heap_alloc_new wr (.cells (ocs e.o.ser e.o.kind e.o.site (.slice ka e.o.ps.length kc) (.slice la e.o.rs.length lc)) 39 (0, 0))
              have b5 : Below wr.heap.size wr (wr.alloc (.cells (ocs e.o.ser e.o.kind e.o.site (.slice ka e.o.ps.length kc) (.slice la e.o.rs.length lc)) 39)) := Below.alloc (Below.refl _ _) (Nat.le_refl _) _
              have Q1 : Hid (Il (wr.alloc (.cells (ocs e.o.ser e.o.kind e.o.site (.slice ka e.o.ps.length kc) (.slice la e.o.rs.length lc)) 39)) w1.heap.size (.slice a2 L2.length c2) L2) := S1.out.below b5
              have Q3 : Hid (Fb (wr.alloc (.cells (ocs e.o.ser e.o.kind e.o.site (.slice ka e.o.ps.length kc) (.slice la e.o.rs.length lc)) 39)) bb m i1) := S3.out.below b5
              have Q4 : Hid (Below bb w1 (wr.alloc (.cells (ocs e.o.ser e.o.kind e.o.site (.slice ka e.o.ps.length kc) (.slice la e.o.rs.length lc)) 39))) := S4.out.trans (b5.mono (Nat.le_of_lt S3.out.lt))
              have Q5 : Hid (w1.heap.size ≤ (wr.alloc (.cells (ocs e.o.ser e.o.kind e.o.site (.slice ka e.o.ps.length kc) (.slice la e.o.rs.length lc)) 39)).heap.size) := Nat.le_trans S5.out b5.size
              obtain ⟨X, hX⟩ : ∃ X, X = wr.heap.size := ⟨_, rfl⟩
              have H5 : Hid ((wr.alloc (.cells (ocs e.o.ser e.o.kind e.o.site (.slice ka e.o.ps.length kc) (.slice la e.o.rs.length lc)) 39)).heap[X]? = some (.cells (ocs e.o.ser e.o.kind e.o.site (.slice ka e.o.ps.length kc) (.slice la e.o.rs.length lc)) 39 (0, 0))) := by rw [hX]; exact hpw
              have LP : Hid (Lrd n0 (wr.alloc (.cells (ocs e.o.ser e.o.kind e.o.site (.slice ka e.o.ps.length kc) (.slice la e.o.rs.length lc)) 39)) (.slice ka e.o.ps.length kc) .i64 e.o.ps) := by
                have h1 := lp.below (b5.mono (Nat.le_trans hn bW3.size))
                rw [ep] at h1
                exact h1
              have HX : Hid (X = wr.heap.size) := hX
              clear hgb gr lp hobs ep er bW3 he hX hpw b5 S1 S3 S4 S5 hkk
              go_upto_region 14 with fail
              clear d0 d1 d2 d3 d4 y0
              rw [← HX.out]
              change Code.wp _ _ _ _ (wr.alloc (.cells (ocs e.o.ser e.o.kind e.o.site (.slice ka e.o.ps.length kc) (.slice la e.o.rs.length lc)) 39))
              clear HX
              generalize wr.alloc (.cells (ocs e.o.ser e.o.kind e.o.site (.slice ka e.o.ps.length kc) (.slice la e.o.rs.length lc)) 39) = w6 at *
              have x1 := (Kg.heap_cell H5.out 1).trans (show _ = some (Value.int .i64 e.o.kind) from rfl)
              have x3 := (Kg.heap_cell H5.out 3).trans (show _ = some (Value.slice ka e.o.ps.length kc) from rfl)
              have cK := Q3.out.cell hkl
              go_cut [95] from 58 to 95 (fun v95 wq => ∃ cx : Bool, v95 = .bool cx ∧ Hid (Cxl i1 (x + 1) (kk + 1) e.o cx) ∧ w6 = wq)
              case first =>
                rw [HKK.out] at cK
                obtain ⟨bk, hbk⟩ : ∃ bk, bk = i1 (kk + 1) := ⟨_, rfl⟩
                rw [← hbk, ← HKK.out] at cK
                have HBK : Hid (bk = i1 (kk + 1)) := hbk
                clear hbk
                cases bk with
                | false =>
                  have C1 : Hid (Cxl i1 (x + 1) (kk + 1) e.o false) := ⟨(fun h => by cases h), fun _ κ h1 => by rw [← HBK.out] at h1; cases h1⟩
                  go_wp2
                  go_meet
                  exact ⟨false, rfl, C1, rfl⟩
                | true =>
                  by_cases e3 : e.o.kind = 3
                  · have g3 : (e.o.kind == 3) = true := beq_iff_eq.2 e3
                    have HE3 : Hid (e.o.kind = 3) := e3
                    have hel := List.mem_of_getElem? HE.out
                    have hpl := HK.out.e e.o hel e3
                    obtain ⟨k0, hk0⟩ : ∃ z, e.o.ps[0]? = some z := ⟨_, List.getElem?_eq_getElem (by omega)⟩
                    obtain ⟨v0, hv0⟩ : ∃ z, e.o.ps[1]? = some z := ⟨_, List.getElem?_eq_getElem (by omega)⟩
                    have kb := HK.out.p e.o hel k0 (List.mem_of_getElem? hk0)
                    have vb := HK.out.p e.o hel v0 (List.mem_of_getElem? hv0)
                    obtain ⟨kn, rfl⟩ : ∃ kn : Nat, k0 = (kn : Int) := ⟨k0.toNat, by omega⟩
                    obtain ⟨vn, rfl⟩ : ∃ vn : Nat, v0 = (vn : Int) := ⟨v0.toNat, by omega⟩
                    have HK0 : Hid (e.o.ps[0]? = some ((kn : Nat) : Int)) := hk0
                    have HV0 : Hid (e.o.ps[1]? = some ((vn : Nat) : Int)) := hv0
                    have hkm2 : kn < m := by have := HMM.out; have := HGL.out; omega
                    have hknI : (kn : Int) < (m : Int) := by omega
                    obtain ⟨ka', kc', e1, -, hp⟩ := LP.out
                    simp only [Value.slice.injEq, true_and] at e1
                    obtain ⟨rfl, rfl⟩ := e1
                    obtain ⟨qp, po, rfl, -, cp0⟩ := hp 0 kn hk0
                    rw [Nat.add_zero] at cp0
                    have hp0 : (0 : Int) < (e.o.ps.length : Int) := by omega
                    have ck := Q3.out.cell hkm2
                    have HKE : Hid (∀ κ : Nat, e.o.ps[0]? = some (κ : Int) → κ = kn) := fun κ h => by
                      rw [HK0.out] at h
                      have := Option.some.inj h
                      omega
                    clear hp hk0 hv0 e3 kb vb hel
                    by_cases e0 : 0 < kn
                    · have g0 : decide ((0 : Int) < (kn : Int)) = true := decide_eq_true (by omega)
                      obtain ⟨bk2, hbk2⟩ : ∃ bk, bk = i1 kn := ⟨_, rfl⟩
                      rw [← hbk2] at ck
                      have HBK2 : Hid (bk2 = i1 kn) := hbk2
                      clear hbk2
                      cases bk2 with
                      | false =>
                        have C1 : Hid (Cxl i1 (x + 1) (kk + 1) e.o false) := ⟨(fun h => by cases h), fun _ κ _ _ h2 _ h4 => by rw [HKE.out κ h2, ← HBK2.out] at h4; cases h4⟩
                        go_wp2
                        go_meet
                        exact ⟨false, rfl, C1, rfl⟩
                      | true =>
                        have CT : Hid (Cxl i1 (x + 1) (kk + 1) e.o true) := ⟨fun _ => ⟨kn, vn, HE3.out, HK0.out, HV0.out, by omega, HBK.out.symm, HBK2.out.symm⟩, fun h => by cases h⟩
                        by_cases en : (k : Int) = nI
                        · have gn : ((k : Int) == nI) = true := beq_iff_eq.2 en
                          clear en
                          go_wp2
                          go_meet
                          exact ⟨true, rfl, CT, rfl⟩
                        · have gn : ((k : Int) == nI) = false := beq_eq_false_iff_ne.2 en
                          have HEn : Hid (kk + 1 ≠ x + 1) := fun h => en (by rw [← HNI.out, HKK.out, h])
                          clear en
                          by_cases em : (kn : Int) = nI
                          · have gm : ((kn : Int) == nI) = true := beq_iff_eq.2 em
                            clear em
                            go_wp2
                            go_meet
                            exact ⟨true, rfl, CT, rfl⟩
                          · have gm : ((kn : Int) == nI) = false := beq_eq_false_iff_ne.2 em
                            have C1 : Hid (Cxl i1 (x + 1) (kk + 1) e.o false) := ⟨(fun h => by cases h), fun _ κ _ _ h2 _ _ => ⟨HEn.out, fun h => em (by rw [← HNI.out, ← h, HKE.out κ h2])⟩⟩
                            clear em
                            go_wp2
                            go_meet
                            exact ⟨false, rfl, C1, rfl⟩
                    · have g0 : decide ((0 : Int) < (kn : Int)) = false := decide_eq_false (by omega)
                      have C1 : Hid (Cxl i1 (x + 1) (kk + 1) e.o false) := ⟨(fun h => by cases h), fun _ κ _ _ h2 h3 => by have := HKE.out κ h2; omega⟩
                      go_wp2
                      go_meet
                      exact ⟨false, rfl, C1, rfl⟩
                  · have g3 : (e.o.kind == 3) = false := beq_eq_false_iff_ne.2 e3
                    have C1 : Hid (Cxl i1 (x + 1) (kk + 1) e.o false) := ⟨(fun h => by cases h), fun _ κ _ h1 => absurd h1 e3⟩
                    clear e3
                    go_wp2
                    go_meet
                    exact ⟨false, rfl, C1, rfl⟩
              case rest =>
                obtain ⟨cx, rfl, C1, rfl⟩ := hcut
                apply_assumption
                clear cK x1
                cases cx with
                | false =>
                  have N2 : Hid (Lv g L2 i1 (i + 1) (x + 1) (k + 1)) := by
                    have h := S2.out
                    rw [HKK.out] at h
                    show Lv _ _ _ _ _ _
                    rw [HKK.out]
                    exact h.no HK.out HE.out (C1.out.2 rfl)
                  have N6 : Hid (L2.length + pot g i1 + m ≤ U + (k + 1)) := Nat.le_succ_of_le S6.out
                  clear C1 S2 S6 x3
                  go_wp2
                  go_roundw
                  case rel => exact ⟨L2, k + 1, by go_num, by omega, by omega, Q1, N2, Q3, Q4, Q5, N6⟩
                  case measure => simp [intOf]; omega
                | true =>
                  obtain ⟨κ, v, z1, z2, z3, z4, z5, z6⟩ := C1.out.1 rfl
                  have N2 : Hid (Lv g (L2 ++ [(v : Int)]) i1 (i + 1) (x + 1) (k + 1)) := by
                    have h := S2.out
                    rw [HKK.out] at h
                    show Lv _ _ _ _ _ _
                    rw [HKK.out]
                    exact h.yes HK.out HE.out z1 z2 z3 z4 z5 z6
                  have N6 : Hid ((L2 ++ [(v : Int)]).length + pot g i1 + m ≤ U + (k + 1)) := by
                    have h := S6.out
                    show _ ≤ _
                    rw [List.length_append, List.length_singleton]
                    omega
                  have hL2 : L2.length ≤ 3000000000000 := by
                    have h := S6.out
                    have h2 := HU.out.2
                    have h3 := HT.out
                    omega
                  obtain ⟨ka', kc', e1, -, hp⟩ := LP.out
                  simp only [Value.slice.injEq, true_and] at e1
                  obtain ⟨rfl, rfl⟩ := e1
                  obtain ⟨qp, po, rfl, -, cp1⟩ := hp 1 v z3
                  have hp1 : (1 : Int) < (e.o.ps.length : Int) := by have := (List.getElem?_eq_some_iff.1 z3).1; omega
                  have HRow : Hid ((w6.alloc (.cells #[.int .i64 (v : Nat)] 3)).ownsRow w1.heap.size 3 1 (.slice a2 L2.length c2) L2.length (Kg.ints L2)) := Il.below Q1.out (Below.alloc (Below.refl _ _) (Nat.le_refl _) _)
                  clear C1 S2 S6 z1 z2 z3 z4 z5 z6 hp LP
                  go_wp2_with (at_builtin; refine wpList_append_own_at _ rfl _ _ 24 rfl w1.heap.size 3 i0 (.int .i64 0) 1 8 Tryz.underlying24 HI.out.1 HI.out.2.1 HI.out.2.2.1 HI.out.2.2.2 rfl (by decide) _ _ _ rfl HRow.out ⟨w6.heap.size, 0, none⟩ 1 1 [.int .i64 (v : Nat)] rfl rfl (cell_one17 _ _ _) (by simp [Value.oneCell']) (by simp only [maxLen]; omega) (by omega) (by have := Q5.out; simp; omega) ?_; intro v8 w8 h8 g8 _ _)
                  obtain ⟨s1, s2, s3⟩ := Il.snoc Q1.out h8 g8 Q5.out
                  have P3 : Hid (Fb w8 bb m i1) := Q3.out.low s3 (by rw [HBW.out.2]; omega)
                  have P4 : Hid (Below bb w1 w8) := Q4.out.trans (s3.mono (by rw [HBW.out.2]; omega))
                  have P5 : Hid (w1.heap.size ≤ w8.heap.size) := Nat.le_trans Q5.out s2.size
                  have P1 : Hid (Il w8 w1.heap.size v8 (L2 ++ [(v : Int)])) := s1
                  clear h8 g8 s1 s2 s3 HRow Q1 Q3 Q4 Q5
                  go_roundw
                  case rel => exact ⟨_, k + 1, by go_num, by omega, by omega, P1, N2, P3, P4, P5, N6⟩
                  case measure => simp [intOf]; omega
            · have hklI : ¬ (k : Int) < (m : Int) := by omega
              have e9 : k = m := by omega
              have hw : Lw g L2 i1 (i + 1) := S2.out.done HK.out (by have := HMM.out; have := HGL.out; omega)
              have hil2 := hw.il
              have HX : Hid (RdL g w1 bb m T (.slice a2 L2.length c2) (.int .i64 ((i + 1 : Nat) : Int)) wr (L2.length + pot g i1 - (i + 1))) := ⟨L2, i1, i + 1, rfl, S1.out, hw, S3.out, S4.out, S5.out, by have := S6.out; have := HU.out; omega, by omega⟩
              have HLT : Hid (L2.length + pot g i1 - (i + 1) < j0) := by have := S6.out; have := HU.out.1; show _ < _; omega
              clear hw hil2 S1 S2 S3 S4 S5 S6
              go_wp2
              go_roundw
              case rel => exact ⟨_, HX.out⟩
              case measure =>
                rw [← HJ.out]
                exact Nat.lt_of_le_of_lt (epe_le HX.out) HLT.out
    · have hltI : ¬ (i : Int) < (L.length : Int) := by omega
      have e9 : i = L.length := by omega
      subst e9
      have HE : Hid (∀ x, ins x = true ↔ Re (wy17 g) (pe17 g) 0 x) := R2.out.done HK.out
      have HB : Hid (w.heap.size ≤ bb ∧ Below w.heap.size w wr) := ⟨by rw [HBW.out.1]; exact HL1.out.size, HL1.out.trans ((HB1.out.trans (R4.out.mono (Nat.le_of_eq HBW.out.1.symm) )).mono HL1.out.size)⟩
      clear HRd
      go_wp2
      go_ret
      exact ⟨bb, rfl, HB.out.1, ins, R3.out, HE.out, HB.out.2⟩
end Go.Proofs.YtkekaifiahjljaaGreatDoor
