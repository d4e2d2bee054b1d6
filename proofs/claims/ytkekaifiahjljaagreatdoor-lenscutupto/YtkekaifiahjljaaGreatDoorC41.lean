import Derived.Test.YtkekaifiahjljaaGreatDoorC40
import Derived.Test.YtkekaifiahjljaaGreatDoorC28
import Derived.Test.YtkekaifiahjljaaGreatDoorC11
import Derived.Test.YtkekaifiahjljaaGreatDoorC10
import Derived.Test.YtkekaifiahjljaaGreatDoorC32
set_option linter.unusedVariables false
set_option maxHeartbeats 8000000
set_option maxRecDepth 20000
namespace Go.Proofs.YtkekaifiahjljaaGreatDoor
open Go.RowKit Go.Shelf Go.Proofs.YtkekaifiahjljaaGreatDoor.Lt Go.Proofs.YtkekaifiahjljaaGreatDoor.Lp
set_option maxHeartbeats 16000000 in
theorem retained_any (n0 : Nat) (w : World) (vo vs vh vr vq : Value) (os : List OL) (ts : List (Value × List (Value × List Int))) (g : Im.Gr) (hg : Grd n0 w vo vs vh vr vq os ts g) (hn : n0 ≤ w.heap.size) (hm : MB g) (hb : Big19 os ts g) (m : Nat) (hmm : m = os.length + 1) :
    Calls Tryz.prog 30 #[.agg (gcs vo vs vh vr vq g.next)] w fun e w' => ∃ (C : Nat) (z : Nat → Int), e = .returned (.slice (some ⟨C, 0, none⟩) m m) ∧ Fy w' C m z ∧ Below w.heap.size w w' ∧ Dr17 g ((List.range' 1 g.obs.length).map z) := by
  have hol : g.obs.length = os.length := by rw [hg.eo, List.length_map]
  have l1 : Below w.heap.size w (w.alloc (.cells (gcs vo vs vh vr vq g.next) 27)) := Below.alloc (Below.refl _ _) (Nat.le_refl _) _
  have hx := heap_alloc_new w (.cells (gcs vo vs vh vr vq g.next) 27 (0, 0))
  obtain ⟨A, hA⟩ : ∃ A, A = w.heap.size := ⟨_, rfl⟩
  have HA : Hid (A = w.heap.size) := hA
  rw [← hA] at hx
  generalize hW : w.alloc (.cells (gcs vo vs vh vr vq g.next) 27) = W at *
  have y0 : W.cell? ⟨A, 0, none⟩ = some vo := Kg.heap_cell hx 0
  have y1 : W.cell? ⟨A, 1, none⟩ = some vs := Kg.heap_cell hx 1
  have y2 : W.cell? ⟨A, 2, none⟩ = some vh := Kg.heap_cell hx 2
  have y3 : W.cell? ⟨A, 3, none⟩ = some vr := Kg.heap_cell hx 3
  have y4 : W.cell? ⟨A, 4, none⟩ = some vq := Kg.heap_cell hx 4
  have y5 : W.cell? ⟨A, 5, none⟩ = some (.int .u64 (g.next : Int)) := Kg.heap_cell hx 5
  have HL1 : Hid (Below w.heap.size w W) := l1
  have HM : Hid (MB g) := hm
  have HMM : Hid (m = g.obs.length + 1) := by show _ = _; rw [hmm, hol]
  have HMO : Hid (m = os.length + 1) := hmm
  have HBg : Hid (Big19 os ts g) := hb
  have HEO : Hid (g.obs = os.map (·.o)) := hg.eo
  have HG : Hid (∀ w', Below W.heap.size W w' → w'.heap[A]? = some (.cells (gcs vo vs vh vr vq g.next) 27 (0, 0)) ∧ Below w.heap.size w w' ∧ Grd n0 w' vo vs vh vr vq os ts g) := fun w' b' => ⟨(b'.block _ (Kg.heap_lt hx)).trans hx, l1.trans (b'.mono l1.size), hg.below ((l1.trans (b'.mono l1.size)).mono hn)⟩
  have hm1 : 1 ≤ m := by omega
  have hm2 : m ≤ 2000000 := by have := hb.o; omega
  have q := webOf_any n0 W vo vs vh vr vq os ts g (hg.below (l1.mono hn)) (Nat.le_trans hn l1.size) hm (by have := hb.o; omega) hb.s (by have := hb.e; rw [List.length_append]; omega) m hmm
  clear hg hx l1 hb hm hA hol hmm
  go_enter Tryz.func30, Tryz.ntmps30
  go_upto_region 1 with fail
  rw [← HA.out]
  go_wp2_with fail
  refine q.mono ?_
  rintro e w1 ⟨wb, R, vw, vp, vx, L, rfl, hw1, hl1, hy1, b1⟩
  clear q
  have HW1 : Hid (Wb w1 W.heap.size wb R m vw vp vx (pe17 g) L) := hw1
  have HWl : Hid (Wl (pe17 g) L) := hl1
  have HY1 : Hid (Wys w1.heap.size w1 vw m (wz17 g)) := hy1
  have HB1 : Hid (Below W.heap.size W w1) := b1
  have HPl : Hid ((pe17 g).length ≤ 2000000) := by have h1 := pk_len g g.obs.length; have h2 := HMM.out; show (pk17 g g.obs.length).length ≤ _; omega
  obtain ⟨-, -, gr1⟩ := HG.out w1 b1
  have q := wordsOf_any n0 w1 vo vs vh vr vq os ts g gr1 (Nat.le_trans hn (Nat.le_trans HL1.out.size b1.size)) (wd_le HBg.out HEO.out) (by have := HBg.out.o; omega)
  rw [← HMO.out] at q
  clear hw1 hl1 hy1 gr1 y0 y1 y2 y3 y4 y5
  have hgb := (HG.out w1 HB1.out).1
  have y0 : w1.cell? ⟨A, 0, none⟩ = some vo := Kg.heap_cell hgb 0
  have y1 : w1.cell? ⟨A, 1, none⟩ = some vs := Kg.heap_cell hgb 1
  have y2 : w1.cell? ⟨A, 2, none⟩ = some vh := Kg.heap_cell hgb 2
  have y3 : w1.cell? ⟨A, 3, none⟩ = some vr := Kg.heap_cell hgb 3
  have y4 : w1.cell? ⟨A, 4, none⟩ = some vq := Kg.heap_cell hgb 4
  have y5 : w1.cell? ⟨A, 5, none⟩ = some (.int .u64 (g.next : Int)) := Kg.heap_cell hgb 5
  clear hgb b1
  go_wp2_with fail
  refine q.mono ?_
  rintro e w2 ⟨vd, rfl, hd2, b2⟩
  clear q
  have HD2 : Hid (Lrd w2.heap.size w2 vd .i64 ((List.range m).map (fun x => (wd17 g x : Int)))) := Il.lrd hd2
  obtain ⟨da, dc, ed⟩ := own_sl17 hd2
  rw [show (wl17 g m).length = m from by unfold wl17; rw [List.length_map, List.length_range]] at ed
  subst ed
  have HB2 : Hid (Below w.heap.size w w2) := (HG.out w1 HB1.out).2.1.trans (b2.mono (HG.out w1 HB1.out).2.1.size)
  have HW2 : Hid (Wb w2 W.heap.size wb R m vw vp vx (pe17 g) L) := HW1.out.below b2
  have HY2 : Hid (Wys w2.heap.size w2 vw m (wz17 g)) := (HY1.out.below b2).mono b2.size
  have HWy : Hid (∀ x y, y ∈ wy17 g x ↔ y ∈ wz17 g x ∧ y ≠ 0) := fun x y => wy_wz HM.out x y
  have HLt : Hid (∀ i, i < m → ∀ y, y ∈ wz17 g i → y < m) := fun i _ y hy => by rw [HMM.out]; exact wz_lt HM.out i y hy
  have HLn : Hid (∀ i, i < m → (wz17 g i).length ≤ 1000000000) := fun i _ => Nat.le_trans (wz_len HBg.out HEO.out i) (by omega)
  have q := reach_any w2.heap.size w2 W.heap.size wb R m vw vp vx (pe17 g) L (wy17 g) (wz17 g) 0 68 #[] (.func (.func 68) #[] #[]) rfl HW2.out HWl.out HY2.out (Nat.le_refl _) HWy.out HLt.out (pe_ok HM.out HMM.out) HLn.out HPl.out hm1 hm2 (meetC1 w2 m)
  clear y0 y1 y2 y3 y4 y5 hd2 b2 HW1 HY1 HB1
  go_wp2_with fail
  refine q.mono ?_
  rintro e w3 ⟨bb, seq, by', rfl, hbb, b3, f3, rx3, lt3⟩
  clear q
  have HRx : Hid (Rx (wy17 g) (pe17 g) 0 seq seq.length by') := rx3
  have HSl : Hid (∀ y, y ∈ seq → y < m) := lt3
  have HF3 : Hid (Fy w3 bb m (byv seq by')) := f3
  have HB3 : Hid (Below w2.heap.size w2 w3) := b3
  have HWx : Hid (∀ w', Below w2.heap.size w2 w' → Wb w' W.heap.size wb R m vw vp vx (pe17 g) L ∧ Wys w2.heap.size w' vw m (wz17 g) ∧ Lrd w2.heap.size w' (.slice da m dc) .i64 ((List.range m).map (fun x => (wd17 g x : Int)))) := fun w' b' => ⟨HW2.out.below b', HY2.out.below b', HD2.out.below b'⟩
  have q := holding_any W.heap.size wb R m vw vp vx (pe17 g) L w3 (HWx.out w3 b3).1 bb (byv seq by') f3 (fun e he => by have := pe_ok HM.out HMM.out e he; exact ⟨this.1.2, this.2.1.2⟩) HPl.out
  clear rx3 lt3 f3 b3 hbb HW2 HY2 HD2
  go_wp2_with fail
  refine q.mono ?_
  rintro e w4 ⟨vh4, rfl, hh4, b4⟩
  clear q
  obtain ⟨H, hH⟩ : ∃ H, H = (pe17 g).filter (hold (byv seq by')) := ⟨_, rfl⟩
  have HH : Hid (H = (pe17 g).filter (hold (byv seq by'))) := hH
  rw [← hH] at hh4
  have HHl : Hid (H.length ≤ 2000000) := by
    have h1 := List.length_filter_le (hold (byv seq by')) (pe17 g)
    have h2 := HPl.out
    show _ ≤ _
    rw [hH]
    omega
  obtain ⟨ha4, hc4, eh4⟩ := own_sl17 hh4
  subst eh4
  have HE4 : Hid (Eo w4 w3.heap.size (.slice ha4 H.length hc4) H) := hh4
  have HB4 : Hid (Below w2.heap.size w2 w4) := HB3.out.trans (b4.mono HB3.out.size)
  have HF4 : Hid (Fy w4 bb m (byv seq by')) := HF3.out.touch (Kg.Touch.of_below b4 []) (List.not_mem_nil)
  have q := waysWith_any w3.heap.size w2.heap.size w4 W.heap.size wb R m vw vp vx (pe17 g) L (wz17 g) (HWx.out w4 HB4.out).1 (HWx.out w4 HB4.out).2.1 HB4.out.size hm1 hm2 (Nat.le_trans (wz_len HBg.out HEO.out 0) (by omega)) (.slice ha4 H.length hc4) H hh4 HHl.out
  clear hh4 b4 hH HF3 HB3
  go_wp2_with fail
  refine q.mono ?_
  rintro e w5 ⟨v5, rfl, hy5, b5⟩
  clear q
  have HB5 : Hid (Below w2.heap.size w2 w5) := HB4.out.trans (b5.mono HB4.out.size)
  have HE5 : Hid (Eo w5 w3.heap.size (.slice ha4 H.length hc4) H) := HE4.out.keep (Kg.Touch.of_below b5 []) (fun _ _ => List.not_mem_nil)
  have HF5 : Hid (Fy w5 bb m (byv seq by')) := HF4.out.touch (Kg.Touch.of_below b5 []) (List.not_mem_nil)
  obtain ⟨T, hT⟩ : ∃ T, T = 1000000000 := ⟨_, rfl⟩
  have q := treeOf_any w5.heap.size m T (by omega) hm1 hm2 (wmore (wz17 g) H) (wmore_lt HM.out HMM.out H (fun e he => by rw [HH.out] at he; exact (List.mem_filter.1 he).1)) (by rw [HMO.out, hT]; exact wmore_sum HBg.out HEO.out H HHl.out) v5 w5 hy5 (Nat.le_refl _)
  obtain ⟨q5, k5, ev5, -⟩ := hy5
  subst ev5
  clear b5 hT HE4 HF4
  go_wp2_with fail
  refine q.mono ?_
  rintro e w6 ⟨v6, ab, rfl, hab, b6, ord, f, hI6, hF6, hT6⟩
  clear q
  have HT6 : Hid (Tre (wmore (wz17 g) H) m ord f) := hT6
  have HB6 : Hid (Below w2.heap.size w2 w6) := HB5.out.trans (b6.mono HB5.out.size)
  have HE6 : Hid (Eo w6 w3.heap.size (.slice ha4 H.length hc4) H) := HE5.out.keep (Kg.Touch.of_below b6 []) (fun _ _ => List.not_mem_nil)
  have HF6 : Hid (Fy w6 bb m (byv seq by')) := HF5.out.touch (Kg.Touch.of_below b6 []) (List.not_mem_nil)
  have HRt0 : Hid (Rt (wy17 g) (wmore (wz17 g) H) (pe17 g) g.obs.length seq by' H seq ord (fun x => (f x).toNat)) := by
    show Rt _ _ _ _ _ _ _ _ _ _
    have h1 := hT6
    rw [HH.out] at h1 ⊢
    exact rt_of HM.out HRx.out (fun x hx => hx) (rx_closed HRx.out) (fun e he => (hold_mem.1 he).2) h1
  have q := gathered_any w2.heap.size w6 (wwith (wy17 g) H) (wd17 g) (fun x => (f x).toNat) ord m ab f v6 (.slice da m dc) w5.heap.size HRt0.out.gt hI6 hF6 (fun x hx _ => (tre_nn hT6 hx).1) (fun x hx _ => (tre_nn hT6 hx).2) hT6.o (HWx.out w6 HB6.out).2.2 HB6.out.size (wd_le HBg.out HEO.out) hm2 (Nat.le_trans (tre_len hT6) hm2)
  obtain ⟨a6, c6, e6⟩ := own_sl17 hI6
  rw [List.length_map] at e6
  subst e6
  clear hab b6 hI6 hF6 hT6 HE5 HF5
  go_wp2_with fail
  refine q.mono ?_
  rintro e w7 ⟨C, rfl, hC, f7, b7⟩
  clear q
  have HB7 : Hid (Below w2.heap.size w2 w7) := HB6.out.trans (b7.mono HB6.out.size)
  have HE7 : Hid (Eo w7 w3.heap.size (.slice ha4 H.length hc4) H) := HE6.out.keep (Kg.Touch.of_below b7 []) (fun _ _ => List.not_mem_nil)
  have HF7 : Hid (Fy w7 bb m (byv seq by')) := HF6.out.touch (Kg.Touch.of_below b7 []) (List.not_mem_nil)
  have HC7 : Hid (Fy w7 C m (fun x => (gth (wd17 g) (fun x => (f x).toNat) ord x : Nat))) := f7
  have HCs : Hid (w6.heap.size ≤ C ∧ C < w7.heap.size) := ⟨hC, f7.lt⟩
  have q := needed_any w3.heap.size m (by omega) bb (byv seq by') seq by' (ry_hg HRx.out.ry HSl.out) (fun x hx => by unfold byv; rw [if_pos hx]) (.slice ha4 H.length hc4) H (fun e he => by rw [HH.out] at he; exact (hold_mem.1 he).2) HHl.out w7 HF7.out HE7.out
  clear hC f7 b7 HE6 HF6
  go_wp2_with fail
  refine q.mono ?_
  rintro e w8 ⟨v8, N, rfl, hI8, b8, hNl, hN1, hN2, hN3⟩
  clear q
  obtain ⟨a8, c8, e8⟩ := own_sl17 hI8
  rw [List.length_map] at e8
  subst e8
  have HRt : Hid (Rt (wy17 g) (wmore (wz17 g) H) (pe17 g) g.obs.length seq by' H N ord (fun x => (f x).toNat)) := by
    show Rt _ _ _ _ _ _ _ _ _ _
    have h1 := HT6.out
    rw [HH.out] at h1 hN3 ⊢
    exact rt_of HM.out HRx.out hN1 hN2 hN3 h1
  have HCl : Hid (∀ wr, Kg.Touch [C] w8 wr → ∀ (k : Nat) n, N[k]? = some n → ∃ q, a8 = some ⟨q, 0, none⟩ ∧ wr.cell? ⟨q, k, none⟩ = some (.int .i64 (n : Nat))) := fun wr t k n hn => by
    obtain ⟨a, c, e1, h1⟩ := Il.at_ hI8 t (fun k hk => by rw [List.mem_singleton.1 hk]; exact HCs.out.2)
    rw [List.length_map] at e1
    simp only [Value.slice.injEq, true_and] at e1
    obtain ⟨rfl, rfl⟩ := e1
    obtain ⟨q, h2, -, -, h3⟩ := h1 k (n : Int) (by rw [List.getElem?_map, hn]; rfl)
    exact ⟨q, h2, h3⟩
  have HC8 : Hid (Fy w8 C m (fun x => (gth (wd17 g) (fun x => (f x).toNat) ord x : Nat))) := HC7.out.touch (Kg.Touch.of_below b8 []) (List.not_mem_nil)
  have HB8 : Hid (Below w2.heap.size w2 w8) := HB7.out.trans (b8.mono HB7.out.size)
  have HC2 : Hid (w2.heap.size ≤ C) := Nat.le_trans HB6.out.size HCs.out.1
  have HNm : Hid (∀ n, n ∈ N → n ≠ 0 ∧ n < m) := fun n hn => ⟨(HRx.out.nz n (hN1 n hn)).1, HSl.out n (hN1 n hn)⟩
  have HR0 : Hid (gth (wd17 g) (fun x => (f x).toNat) ord 0 = rs (wd17 g) (wy17 g) (pe17 g) g.obs.length 0) := HRt.out.whole (wd17 g) (by unfold wd17; rw [if_pos rfl])
  have HBr : Hid (∀ d, rs (wd17 g) (wy17 g) (pe17 g) g.obs.length d ≤ 5000000000000) := fun d => by
    have h1 := sm_le (w := wd17 g) (p := Re (wy17 g) (pe17 g) d) (List.range' 1 g.obs.length)
    have h2 : ∀ l : List Nat, (l.map (wd17 g)).sum ≤ l.length * 2000000 := fun l => by
      induction l with
      | nil => exact Nat.zero_le _
      | cons x r ih =>
        rw [List.map_cons, List.sum_cons, List.length_cons, Nat.succ_mul]
        have := wd_le HBg.out HEO.out x
        omega
    have h3 := h2 (List.range' 1 g.obs.length)
    rw [List.length_range'] at h3
    have h4 := HMM.out
    have h5 : g.obs.length * 2000000 ≤ 2000000 * 2000000 := Nat.mul_le_mul_right _ (by omega)
    show sm _ _ _ ≤ _
    omega
  obtain ⟨G, hG⟩ : ∃ G : Nat → Nat, ∀ x, G x = gth (wd17 g) (fun x => (f x).toNat) ord x := ⟨_, fun _ => rfl⟩
  have HGt : Hid (∀ x, G x = gth (wd17 g) (fun x => (f x).toNat) ord x) := hG
  have HC9 : Hid (Fy w8 C m (fun x => (G x : Nat))) := HC8.out.congr (fun x _ => by show ((G x : Nat) : Int) = _; rw [hG x])
  obtain ⟨rr, hrr⟩ : ∃ rr : Nat → Nat, ∀ d, rr d = rs (wd17 g) (wy17 g) (pe17 g) g.obs.length d := ⟨_, fun _ => rfl⟩
  have HRr : Hid (∀ d, rr d = rs (wd17 g) (wy17 g) (pe17 g) g.obs.length d) := hrr
  have HG0 : Hid (((G 0 : Nat) : Int) = (rr 0 : Int)) := by show ((G 0 : Nat) : Int) = (rr 0 : Int); rw [hG 0, HR0.out, hrr 0]
  have HBq : Hid (∀ d, rr d ≤ 5000000000000) := fun d => by rw [hrr d]; exact HBr.out d
  clear hG hrr hI8 b8 hN1 hN2 hN3 HE7 HF7 HC7 HC8 HR0 HBr HRt0
  go_wp2
  go_loopw [9, 10, 30] (fun _ _ v30 wr => ∃ (k : Nat) (z : Nat → Int), v30 = .int .i64 (k : Nat) ∧ k ≤ N.length ∧ Hid (Fy wr C m z) ∧ Hid (z 0 = (rr 0 : Int)) ∧ Hid (∀ x, x ∈ N.take k → z x = (rr 0 : Int) - (rr x : Int)) ∧ Hid (∀ x, x ∉ N → z x = (G x : Int)) ∧ Hid (Kg.Touch [C] w8 wr)) (fun _ _ v30 _ => N.length - (intOf v30).toNat)
  case atStart => exact ⟨0, _, rfl, Nat.zero_le _, HC9, HG0, fun x hx => by simp at hx, fun x _ => rfl, Kg.Touch.refl _ _⟩
  case round =>
    obtain ⟨k, z, rfl, hk, Z1, Z2, Z3, Z4, Z5⟩ := hrel
    by_cases hkl : k < N.length
    · have hki : (k : Int) < (N.length : Int) := by omega
      obtain ⟨n, hn⟩ : ∃ n, N[k]? = some n := ⟨_, List.getElem?_eq_getElem hkl⟩
      obtain ⟨q9, rfl, cn⟩ := HCl.out wr Z5.out k n hn
      obtain ⟨hn0, hnm⟩ := HNm.out n (List.mem_of_getElem? hn)
      have HT : Hid (N.take (k + 1) = N.take k ++ [n]) := by show _ = _; rw [List.take_add_one, hn]; rfl
      have HNn : Hid (n ≠ 0 ∧ n ∈ N) := ⟨hn0, List.mem_of_getElem? hn⟩
      clear hn hn0
      go_upto_region 9 with fail
      obtain ⟨X, hX⟩ : ∃ X, X = wr.heap.size := ⟨_, rfl⟩
      have l10 : Below wr.heap.size wr (wr.alloc (.cells #[.int .i64 (n : Nat)] 3)) := Below.alloc (Below.refl _ _) (Nat.le_refl _) _
      have B10 : Hid (Below w2.heap.size w2 (wr.alloc (.cells #[.int .i64 (n : Nat)] 3))) := by
        have h1 := HB8.out.trans (Z5.out.below HB8.out.size (fun k hk => by rw [List.mem_singleton.1 hk]; exact HC2.out))
        exact h1.trans (l10.mono h1.size)
      have F10 : Hid (Fy (wr.alloc (.cells #[.int .i64 (n : Nat)] 3)) C m z) := Z1.out.touch (Kg.Touch.of_below l10 []) (List.not_mem_nil)
      have T10 : Hid (Kg.Touch [C] w8 (wr.alloc (.cells #[.int .i64 (n : Nat)] 3))) := Z5.out.trans (Kg.Touch.of_below l10 _)
      have H10 : Hid ((wr.alloc (.cells #[.int .i64 (n : Nat)] 3)).heap[X]? = some (.cells #[.int .i64 (n : Nat)] 3 (0, 0))) := by rw [hX]; exact heap_alloc_new wr _
      have HXC : Hid (C ≠ X) := fun e => by have := Z1.out.lt; omega
      change Code.wp _ _ _ _ (wr.alloc (.cells #[.int .i64 (n : Nat)] 3))
      rw [← hX]
      clear cn l10 hX Z1 Z5
      generalize wr.alloc (.cells #[.int .i64 (n : Nat)] 3) = w10 at *
      obtain ⟨hwb, hwy, hwl⟩ := HWx.out w10 B10.out
      have q := reach_any w2.heap.size w10 W.heap.size wb R m vw vp vx (pe17 g) L (wy17 g) (wz17 g) n 73 #[.pointer (some ⟨X, 0, none⟩)] (.func (.func 73) #[] #[.pointer (some ⟨X, 0, none⟩)]) rfl hwb HWl.out hwy B10.out.size HWy.out HLt.out (pe_ok HM.out HMM.out) HLn.out HPl.out hm1 hm2 (meetC2 w10 m ⟨X, 0, none⟩ n (Kg.heap_lt H10.out) (Kg.heap_cell H10.out 0))
      clear hwb hwy hwl
      go_wp2_with fail
      refine q.mono ?_
      rintro e w11 ⟨b2, seq2, by2, rfl, hb2, b11, f11, rx11, lt11⟩
      clear q
      have B11 : Hid (Below w2.heap.size w2 w11) := B10.out.trans (b11.mono B10.out.size)
      have F11 : Hid (Fy w11 C m z) := F10.out.touch (Kg.Touch.of_below b11 []) (List.not_mem_nil)
      have T11 : Hid (Kg.Touch [C] w8 w11) := T10.out.trans (Kg.Touch.of_below b11 _)
      have H11 := (b11.block X (Kg.heap_lt H10.out)).trans H10.out
      have cX : w11.cell? ⟨X, 0, none⟩ = some (.int .i64 (n : Nat)) := Kg.heap_cell H11 0
      have c0 : w11.cell? ⟨C, 0, none⟩ = some (.int .i64 (rr 0 : Nat)) := by
        have h1 := F11.out.cell (x := 0) (by omega)
        rw [Z2.out] at h1
        exact h1
      have cN := F11.out.cell hnm
      have zN : w11.drew.frozen? ⟨C, n, none⟩ = false := F11.out.frozen n
      have hr0 := HBq.out 0
      have hrn := HBq.out n
      have hm0I : (0 : Int) < (m : Int) := by omega
      have hm0 : 0 < m := by omega
      have hnI : (n : Int) < (m : Int) := by omega
      have q := met_any m (by omega) (wd17 g) (wd_le HBg.out HEO.out) w2.heap.size w11.drew (.slice da m dc) ((HWx.out w11 B11.out).2.2.below (below_drewN (Below.refl _ _) 1)) b2 (byv seq2 by2) (f11.touch (Kg.Touch.drew [] w11) (List.not_mem_nil))
      rw [met_rs rx11 HMM.out, ← HRr.out n] at q
      have HFin : Hid (Fy (w11.setCell ⟨C, n, none⟩ (.int .i64 ((rr 0 : Int) - (rr n : Int)))).drew C m (fun x => if x = n then (rr 0 : Int) - (rr n : Int) else z x)) := (F11.out.set hnm _).touch (Kg.Touch.drew [] _) (List.not_mem_nil)
      have HTin : Hid (Kg.Touch [C] w8 (w11.setCell ⟨C, n, none⟩ (.int .i64 ((rr 0 : Int) - (rr n : Int)))).drew) := (T11.out.trans (Kg.Touch.setCell _ _ _ (by simp))).trans (Kg.Touch.drew _ _)
      clear H11 rx11 lt11 f11 b11 hb2 F10 T10 B10
      go_upto_region 10 with fail
      refine Kg.quiet_tail 10 Kg.mixed (by kernel_rfl) ?_
      simp only [List.take_succ_cons, List.take_zero, List.drop_succ_cons, List.drop_zero]
      repeat (go_big_quiet_step (exact q _))
      refine wpQuiet_nil ?_
      have HZ0 : Hid ((fun x => if x = n then (rr 0 : Int) - (rr n : Int) else z x) 0 = (rr 0 : Int)) := by
        show (if 0 = n then (rr 0 : Int) - (rr n : Int) else z 0) = _
        rw [if_neg (fun e => HNn.out.1 e.symm)]
        exact Z2.out
      have HZ3 : Hid (∀ x, x ∈ N.take (k + 1) → (fun x => if x = n then (rr 0 : Int) - (rr n : Int) else z x) x = (rr 0 : Int) - (rr x : Int)) := fun x hx => by
        show (if x = n then (rr 0 : Int) - (rr n : Int) else z x) = _
        by_cases e : x = n
        · rw [if_pos e, e]
        · rw [if_neg e]
          rw [HT.out] at hx
          rcases List.mem_append.1 hx with h1 | h1
          · exact Z3.out x h1
          · exact absurd (List.mem_singleton.1 h1) e
      have HZ4 : Hid (∀ x, x ∉ N → (fun x => if x = n then (rr 0 : Int) - (rr n : Int) else z x) x = (G x : Int)) := fun x hx => by
        show (if x = n then (rr 0 : Int) - (rr n : Int) else z x) = _
        rw [if_neg (fun e => hx (by rw [e]; exact HNn.out.2))]
        exact Z4.out x hx
      clear Z2 Z3 Z4 HT HNn q
      go_wp2
      go_roundw
      case rel => exact ⟨k + 1, _, by go_num, by omega, HFin, HZ0, HZ3, HZ4, HTin⟩
      case measure => simp [intOf]; omega
    · have hki : ¬ (k : Int) < (N.length : Int) := by omega
      have eT : N.take k = N := List.take_of_length_le (by omega)
      have HE : Hid (Fy wr C m z ∧ Below w.heap.size w wr ∧ Dr17 g ((List.range' 1 g.obs.length).map z)) := by
        refine ⟨Z1.out, HB2.out.trans ((HB8.out.trans (Z5.out.below HB8.out.size (fun k hk => by rw [List.mem_singleton.1 hk]; exact HC2.out))).mono HB2.out.size), dr_of HRt.out z (fun x hx => ?_) (fun x hx => ?_)⟩
        · rw [Z3.out x (by rw [eT]; exact hx), HRr.out, HRr.out]
        · rw [Z4.out x hx, HGt.out]
      clear Z1 Z2 Z3 Z4 Z5 eT
      go_wp2
      go_ret
      exact ⟨C, rfl, z, HE.out⟩
end Go.Proofs.YtkekaifiahjljaaGreatDoor
namespace Go.Proofs.YtkekaifiahjljaaGreatDoor
open Go.RowKit Go.Shelf Go.Proofs.YtkekaifiahjljaaGreatDoor.Lt
theorem lRetained_any (n0 : Nat) (w : World) (vo vs vh vr vq : Value) (os : List OL) (ts : List (Value × List (Value × List Int))) (g : Im.Gr) (hg : Grd n0 w vo vs vh vr vq os ts g) (hn : n0 ≤ w.heap.size) (hL : Laid w) (hb : Big19 os ts g) :
    Calls Tryz.prog 14 #[.agg (gcs vo vs vh vr vq g.next)] w fun e w' => ∃ (v : Value) (l : List Int) (er : Int), e = .returned (.tuple #[v, .int .i64 er]) ∧ Lrd w'.heap.size w' v .i64 l ∧ Below w.heap.size w w' ∧ Pr18 g l er := by
  have hol : Hid (g.obs.length = os.length) := by show _ = _; rw [hg.eo, List.length_map]
  have l1 : Below w.heap.size w (w.alloc (.cells (gcs vo vs vh vr vq g.next) 27)) := Below.alloc (Below.refl _ _) (Nat.le_refl _) _
  have hx := heap_alloc_new w (.cells (gcs vo vs vh vr vq g.next) 27 (0, 0))
  obtain ⟨oa, oc, eo, -⟩ := id hg.ob
  subst eo
  generalize hW : w.alloc (.cells (gcs (.slice oa os.length oc) vs vh vr vq g.next) 27) = W at *
  have HL1 : Hid (Below w.heap.size w W) := l1
  have HG : Hid (∀ w', Below W.heap.size W w' → w'.heap[w.heap.size]? = some (.cells (gcs (.slice oa os.length oc) vs vh vr vq g.next) 27 (0, 0)) ∧ Below w.heap.size w w' ∧ Grd n0 w' (.slice oa os.length oc) vs vh vr vq os ts g) := fun w' b' => ⟨(b'.block _ (Kg.heap_lt hx)).trans hx, l1.trans (b'.mono l1.size), hg.below ((l1.trans (b'.mono l1.size)).mono hn)⟩
  have q := mayBe_any n0 W (.slice oa os.length oc) vs vh vr vq os ts g (hg.below (l1.mono hn)) (Nat.le_trans hn l1.size) (hL.keep l1) hb.l
  have y0 : W.cell? ⟨w.heap.size, 0, none⟩ = some (.slice oa os.length oc) := Kg.heap_cell hx 0
  have y1 : W.cell? ⟨w.heap.size, 1, none⟩ = some vs := Kg.heap_cell hx 1
  have y2 : W.cell? ⟨w.heap.size, 2, none⟩ = some vh := Kg.heap_cell hx 2
  have y3 : W.cell? ⟨w.heap.size, 3, none⟩ = some vr := Kg.heap_cell hx 3
  have y4 : W.cell? ⟨w.heap.size, 4, none⟩ = some vq := Kg.heap_cell hx 4
  have y5 : W.cell? ⟨w.heap.size, 5, none⟩ = some (.int .u64 (g.next : Int)) := Kg.heap_cell hx 5
  have HBg : Hid (Big19 os ts g) := hb
  have HEO : Hid (g.obs = os.map (·.o)) := hg.eo
  clear hg hx l1 hL hb
  go_enter Tryz.func14, Tryz.ntmps14
  go_wp2_with fail
  refine q.mono ?_
  rintro e w1 ⟨r, rfl, b1, hr⟩
  have HB1 : Hid (Below W.heap.size W w1) := b1
  have HR : Hid (r = true ↔ MB g) := hr
  clear q b1 hr y0 y1 y2 y3 y4 y5
  cases r with
  | false =>
    have hm : ¬ MB g := fun h => by have := HR.out.2 h; cases this
    have HM : Hid (¬ MB g) := hm
    have HBo := HG.out w1 HB1.out
    have HB2 : Hid (Below w.heap.size w w1) := HBo.2.1
    clear hm HBo
    go_wp2
    go_ret2
    exact ⟨_, [], 171, rfl, Il.lrd (base := 0) (World.ownsRow_nil _ _ _ _), HB2.out, .inl ⟨HM.out, rfl, rfl⟩⟩
  | true =>
    have HM : Hid (MB g) := HR.out.1 rfl
    have HB2 : Hid (Below w.heap.size w w1) := (HG.out w1 HB1.out).2.1
    have hoI := HBg.out.o
    obtain ⟨m, hmm⟩ : ∃ m, m = os.length + 1 := ⟨_, rfl⟩
    have HMM : Hid (m = g.obs.length + 1) := by show _ = _; rw [hmm, hol.out]
    have q := retained_any n0 w1 _ vs vh vr vq os ts g (HG.out w1 HB1.out).2.2 (Nat.le_trans (Nat.le_trans hn HL1.out.size) HB1.out.size) HM.out HBg.out m hmm
    have y0 : w1.cell? ⟨w.heap.size, 0, none⟩ = some (.slice oa os.length oc) := Kg.heap_cell (HG.out w1 HB1.out).1 0
    have y1 : w1.cell? ⟨w.heap.size, 1, none⟩ = some vs := Kg.heap_cell (HG.out w1 HB1.out).1 1
    have y2 : w1.cell? ⟨w.heap.size, 2, none⟩ = some vh := Kg.heap_cell (HG.out w1 HB1.out).1 2
    have y3 : w1.cell? ⟨w.heap.size, 3, none⟩ = some vr := Kg.heap_cell (HG.out w1 HB1.out).1 3
    have y4 : w1.cell? ⟨w.heap.size, 4, none⟩ = some vq := Kg.heap_cell (HG.out w1 HB1.out).1 4
    have y5 : w1.cell? ⟨w.heap.size, 5, none⟩ = some (.int .u64 (g.next : Int)) := Kg.heap_cell (HG.out w1 HB1.out).1 5
    have hm1 : 1 ≤ m := by omega
    clear hmm
    go_wp2_with fail
    refine q.mono ?_
    rintro e w3 ⟨ab, f, rfl, hF, b3, hD⟩
    have HE : Hid (Below w.heap.size w w3) := HB2.out.trans (b3.mono HB2.out.size)
    have HF : Hid (Fy w3 ab m f) := hF
    have HDm : Hid (Dr17 g ((List.range' 1 g.obs.length).map f)) := hD
    clear q b3 hF hD y0 y1 y2 y3 y4 y5
    have HLen : Hid (((List.range' 1 g.obs.length).map f).length = m - 1) := by
      show _ = _
      rw [List.length_map, List.length_range', HMM.out]
      omega
    have HLr : Hid (Lrd w3.heap.size w3 (.slice (some ⟨ab, 1, none⟩) (m - 1) (m - 1)) .i64 ((List.range' 1 g.obs.length).map f)) := by
      refine ⟨some ⟨ab, 1, none⟩, m - 1, by rw [HLen.out], by rw [HLen.out]; exact Nat.le_refl _, fun i z hz => ?_⟩
      have hi := (List.getElem?_eq_some_iff.1 hz).1
      rw [HLen.out] at hi
      rw [List.getElem?_map, List.getElem?_range' (by have := HMM.out; omega)] at hz
      simp only [Option.map_some, Option.some.injEq] at hz
      refine ⟨ab, 1, rfl, HF.out.lt, ?_⟩
      have h9 := HF.out.cell (x := 1 + i) (by omega)
      rw [h9, ← hz]
      simp
    by_cases hm9 : m = 1
    · have HL0 : Hid (Lrd w3.heap.size w3 (.slice (some ⟨ab, 0, none⟩) 0 0) .i64 ((List.range' 1 g.obs.length).map f)) := by
        have e : (List.range' 1 g.obs.length).map f = [] := List.eq_nil_of_length_eq_zero (by rw [HLen.out, hm9])
        show Lrd _ _ _ _ _
        rw [e]
        exact ⟨some ⟨ab, 0, none⟩, 0, rfl, Nat.le_refl _, fun i z hz => by simp at hz⟩
      subst hm9
      go_wp2
      go_ret2
      exact ⟨_, _, 0, rfl, HL0.out, HE.out, .inr ⟨HM.out, rfl, HDm.out⟩⟩
    · go_wp2
      go_ret2
      exact ⟨_, _, 0, rfl, HLr.out, HE.out, .inr ⟨HM.out, rfl, HDm.out⟩⟩
end Go.Proofs.YtkekaifiahjljaaGreatDoor
namespace Go.Proofs.YtkekaifiahjljaaGreatDoor.Lp
open Go.Proofs.YtkekaifiahjljaaGreatDoor.Lt
variable {W : Nat → List Nat} {t : Nat}
end Go.Proofs.YtkekaifiahjljaaGreatDoor.Lp
namespace Go.Proofs.YtkekaifiahjljaaGreatDoor.Lt
section
variable {W W' : Nat → List Nat} {P P' : List (Nat × Nat × Nat)} {n M : Nat} {w : Nat → Nat}
theorem cut_re (hw : ∀ x y, y ∈ W x → y ≠ 0) (hp : ∀ i k v, (i, k, v) ∈ P → v ≠ 0) (hW : ∀ x y, y ∈ W' x ↔ y ∈ W x ∧ y ≠ n) (hP : ∀ i k v, (i, k, v) ∈ P' ↔ (i, k, v) ∈ P ∧ k ≠ n ∧ v ≠ n) (y : Nat) : Re W' P' 0 y ↔ Re W P n y := by
  constructor
  · intro h
    induction h with
    | root h1 _ => exact .root ((hW _ _).1 h1).1 ((hW _ _).1 h1).2
    | step _ h1 _ ih => exact .step ih ((hW _ _).1 h1).1 ((hW _ _).1 h1).2
    | eph h1 _ _ _ ih1 ih2 =>
      obtain ⟨h2, h3, h4⟩ := (hP _ _ _).1 h1
      exact .eph h2 ih1 ih2 h4
  · intro h
    induction h with
    | root h1 h2 => exact .root ((hW _ _).2 ⟨h1, h2⟩) (hw _ _ h1)
    | step _ h1 h2 ih => exact .step ih ((hW _ _).2 ⟨h1, h2⟩) (hw _ _ h1)
    | eph h1 _ hk h2 ih1 ih2 => exact .eph ((hP _ _ _).2 ⟨h1, hk.ne, h2⟩) ih1 ih2 (hp _ _ _ h1)
theorem rs_between (hw : ∀ x y, y ∈ W x → y ≠ 0) (hp : ∀ i k v, (i, k, v) ∈ P → v ≠ 0) (hn : Re W P 0 n) (hM : 1 ≤ n ∧ n ≤ M) : rs w W P M n + w n ≤ rs w W P M 0 := by
  unfold rs
  rw [sm_and (p := Re W P 0) (q := Re W P n) (List.range' 1 M) (fun y hy => hy.all hw hp)]
  have h1 := sm_ge (w := w) (p := fun y => Re W P 0 y ∧ ¬ Re W P n y) (y := n) ⟨hn, fun h => h.ne rfl⟩ (List.range' 1 M) (List.mem_range'_1.2 ⟨hM.1, by omega⟩)
  omega
end
end Go.Proofs.YtkekaifiahjljaaGreatDoor.Lt
namespace Go.Proofs.YtkekaifiahjljaaGreatDoor
end Go.Proofs.YtkekaifiahjljaaGreatDoor
