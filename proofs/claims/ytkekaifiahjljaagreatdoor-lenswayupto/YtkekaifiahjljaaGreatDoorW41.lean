import Derived.Test.YtkekaifiahjljaaGreatDoorW38
import Derived.Test.YtkekaifiahjljaaGreatDoorW40
set_option linter.unusedVariables false
set_option maxHeartbeats 8000000
set_option maxRecDepth 20000
namespace Go.Proofs.YtkekaifiahjljaaGreatDoor
open Go.RowKit Go.Shelf Go.Proofs.YtkekaifiahjljaaGreatDoor.Lt Go.Proofs.YtkekaifiahjljaaGreatDoor.Lp
theorem pe_ok {g : Im.Gr} (hm : MB g) {m : Nat} (hmm : m = g.obs.length + 1) : ∀ e, e ∈ pe17 g → (e.1 ≠ 0 ∧ e.1 < m) ∧ (e.2.1 ≠ 0 ∧ e.2.1 < m) ∧ e.2.2 ≠ 0 ∧ e.2.2 < m := fun e he => by
  obtain ⟨i, k, v⟩ := e
  have := pe_in hm he
  simp only
  omega
theorem wz_len {os : List OL} {ts : List (Value × List (Value × List Int))} {g : Im.Gr} (hb : Big19 os ts g) (eo : g.obs = os.map (·.o)) (i : Nat) : (wz17 g i).length ≤ 3000000 := by
  unfold wz17
  rw [List.length_map]
  cases i with
  | zero =>
    unfold rw17
    refine Nat.le_trans (List.length_filter_le _ _) ?_
    have := hb.e
    simp only [List.length_append]
    omega
  | succ i =>
    cases ho : g.obs[i]? with
    | none =>
      simp only [rw17, ho, List.length_nil]
      omega
    | some o =>
      have ho2 := ho
      rw [eo, List.getElem?_map, Option.map_eq_some_iff] at ho2
      obtain ⟨x, hx, rfl⟩ := ho2
      have h1 := hb.r x (List.mem_of_getElem? hx)
      simp only [rw17, ho, List.length_drop]
      omega
theorem wmore_sum {os : List OL} {ts : List (Value × List (Value × List Int))} {g : Im.Gr} (hb : Big19 os ts g) (eo : g.obs = os.map (·.o)) (H : List Ep) (hH : H.length ≤ 2000000) : ((List.range (os.length + 1)).map (fun a => (wmore (wz17 g) H a).length)).sum ≤ 1000000000 := by
  have h1 := obs_sum eo (fun x => (wmore (wz17 g) H x).length) (fun i o ho => by
    simp only [wmore, if_neg (Nat.succ_ne_zero i), wz17, rw17, ho, List.length_map, List.length_drop]
    omega)
  have h2 : (wmore (wz17 g) H 0).length ≤ 5000000 := by
    unfold wmore
    rw [if_pos rfl, List.length_append, List.length_map]
    have := wz_len hb eo 0
    omega
  have h3 : List.range (os.length + 1) = 0 :: List.range' 1 os.length := by rw [List.range_eq_range', List.range'_succ]
  rw [h3, List.map_cons, List.sum_cons]
  have := hb.p
  omega
section
variable {g : Im.Gr} {m : Nat} {seq N ord : List Nat} {by' : Nat → Nat} {f : Nat → Int}
theorem wmore_lt (hm : MB g) (hmm : m = g.obs.length + 1) (H : List Ep) (hH : ∀ e, e ∈ H → e ∈ pe17 g) : ∀ i, i < m → ∀ y, y ∈ wmore (wz17 g) H i → y < m := fun i _ y hy => by
  unfold wmore at hy
  by_cases h0 : i = 0
  · rw [if_pos h0] at hy
    rcases List.mem_append.1 hy with h1 | h1
    · have := wz_lt hm 0 y h1
      omega
    · obtain ⟨e, he, rfl⟩ := List.mem_map.1 h1
      exact (pe_ok hm hmm e (hH e he)).2.2.2
  · rw [if_neg h0] at hy
    have := wz_lt hm i y hy
    omega
theorem hold_mem {e : Ep} : e ∈ (pe17 g).filter (hold (byv seq by')) ↔ e ∈ pe17 g ∧ e.1 ∈ seq ∧ e.2.1 ∈ seq := by
  rw [List.mem_filter, hold_iff]
theorem rt_of (hm : MB g) (hrx : Rx (wy17 g) (pe17 g) 0 seq seq.length by') (hN1 : ∀ x, x ∈ N → x ∈ seq) (hN2 : ∀ x, x ∈ N → by' x ≠ 0 → by' x ∈ N) (hN3 : ∀ e, e ∈ (pe17 g).filter (hold (byv seq by')) → e.1 ∈ N ∧ e.2.1 ∈ N) (hT : Tre (wmore (wz17 g) ((pe17 g).filter (hold (byv seq by')))) m ord f) : Rt (wy17 g) (wmore (wz17 g) ((pe17 g).filter (hold (byv seq by')))) (pe17 g) g.obs.length seq by' ((pe17 g).filter (hold (byv seq by'))) N ord (fun x => (f x).toNat) := by
  refine ⟨hrx, fun e => hold_mem, fun x y hy => wy_in hm x y hy, fun i k v h => (pe_in hm h).2.2, ⟨hN1, hN2, fun i κ v h h1 h2 => hN3 (i, κ, v) (hold_mem.2 ⟨h, h1, h2⟩)⟩, fun x y => ?_, ?_⟩
  · unfold wwith wmore
    by_cases h0 : x = 0
    · rw [if_pos h0, if_pos h0, List.mem_append, List.mem_append, wy_wz hm 0 y]
      constructor
      · rintro (h1 | h1)
        · exact ⟨.inl h1.1, h1.2⟩
        · refine ⟨.inr h1, ?_⟩
          obtain ⟨e, he, rfl⟩ := List.mem_map.1 h1
          exact (pe_ok hm rfl e (hold_mem.1 he).1).2.2.1
      · rintro ⟨h1 | h1, h2⟩
        · exact .inl ⟨h1, h2⟩
        · exact .inr h1
    · rw [if_neg h0, if_neg h0]
      exact wy_wz hm x y
  · obtain ⟨par, S, I, hD, hS, hI, -, hf⟩ := hT.d
    exact ⟨par, S, I, hD, hS, hI, fun v x i h1 h2 => by show (f x).toNat = i; rw [hf v x i h1 h2]; simp⟩
theorem tre_nn {W : Nat → List Nat} (hT : Tre W m ord f) {x : Nat} (hx : x ∈ ord) : f x = ((f x).toNat : Nat) ∧ (f x).toNat < m := by
  obtain ⟨par, S, I, hD, hS, hI, hI0, hf⟩ := hT.d
  obtain ⟨v, hv⟩ := List.getElem?_of_mem hx
  have hvl := (List.getElem?_eq_some_iff.1 hv).1
  have h9 : I v < ord.length := by
    by_cases h0 : v = 0
    · rw [h0, hI0]; omega
    · have h1 := (hD.d.idom hS hI v h0 hvl).1
      obtain ⟨h2, -⟩ := hD.d.sem_anc hS h0 hvl
      have h3 := hD.d.le (by omega) h1
      omega
  have hid : ord[I v]? = some (ord[I v]'h9) := List.getElem?_eq_getElem h9
  rw [hf v x _ hv hid]
  exact ⟨by simp, by simpa using hT.o _ (List.mem_of_getElem? hid)⟩
theorem tre_len {W : Nat → List Nat} (hT : Tre W m ord f) : ord.length ≤ m := by
  obtain ⟨par, S, I, hD, -⟩ := hT.d
  have h1 := List.Nodup.length_le_of_subset hD.nd (fun x hx => List.mem_range.2 (hT.o x hx))
  rw [List.length_range] at h1
  exact h1
theorem rx_closed {W : Nat → List Nat} {P : List Ep} {d k : Nat} (h : Rx W P d seq k by') : ∀ x, x ∈ seq → by' x ≠ 0 → by' x ∈ seq := fun x hx h0 => by
  obtain ⟨j, hj⟩ := List.getElem?_of_mem hx
  rcases h.src j x hj with ⟨h1, -⟩ | ⟨h1, -⟩ | ⟨κ, -, h1, -⟩
  · exact absurd h1 h0
  · exact List.mem_of_mem_take h1
  · exact List.mem_of_mem_take h1
theorem dr_of {W' : Nat → List Nat} {H : List Ep} {F : Nat → Nat} (hR : Rt (wy17 g) W' (pe17 g) g.obs.length seq by' H N ord F) (z : Nat → Int) (hz1 : ∀ x, x ∈ N → z x = (rs (wd17 g) (wy17 g) (pe17 g) g.obs.length 0 : Int) - (rs (wd17 g) (wy17 g) (pe17 g) g.obs.length x : Int)) (hz2 : ∀ x, x ∉ N → z x = (gth (wd17 g) F ord x : Nat)) : Dr17 g ((List.range' 1 g.obs.length).map z) := by
  refine ⟨by simp, fun i y hy => ?_⟩
  rw [List.getElem?_map] at hy
  have hi : i < g.obs.length := by
    rcases Nat.lt_or_ge i g.obs.length with h1 | h1
    · exact h1
    · rw [List.getElem?_eq_none (by simpa using h1)] at hy; cases hy
  rw [List.getElem?_range' hi] at hy
  simp only [Option.map_some, Option.some.injEq] at hy
  have e1 : 1 + 1 * i = i + 1 := by omega
  rw [e1] at hy
  by_cases hN : i + 1 ∈ N
  · exact .inl ⟨(hR.rx.done (i + 1)).1 (hR.nd.i _ hN), hy.symm.trans (hz1 _ hN)⟩
  · obtain ⟨h1, h2⟩ := hR.told (wd17 g) (n := i + 1) (by omega) hN
    rw [hz2 _ hN] at hy
    by_cases hr : Re (wy17 g) (pe17 g) 0 (i + 1)
    · refine .inl ⟨hr, ?_⟩
      have := h1 hr
      omega
    · refine .inr ⟨hr, ?_⟩
      rw [h2 hr] at hy
      omega
theorem met_rs {d : Nat} (hrx : Rx (wy17 g) (pe17 g) d seq seq.length by') (hmm : m = g.obs.length + 1) : sm0 (wd17 g) (fun x => byv seq by' x != -1) m = rs (wd17 g) (wy17 g) (pe17 g) g.obs.length d := by
  rw [hmm, sm0_smb (by unfold wd17; rw [if_pos rfl]), smb_sm (p := Re (wy17 g) (pe17 g) d) (fun x => ?_)]
  · rfl
  · show (byv seq by' x != -1) = true ↔ _
    rw [bne_iff_ne, ne_eq, byv_neg, Classical.not_not]
    exact hrx.done x
end
set_option maxHeartbeats 16000000 in
theorem retained_any (n0 : Nat) (w : World) (vo vs vh vr vq : Value) (os : List OL) (ts : List (Value × List (Value × List Int))) (g : Im.Gr) (hg : Grd n0 w vo vs vh vr vq os ts g) (hn : n0 ≤ w.heap.size) (hm : MB g) (hb : Big19 os ts g) (m : Nat) (hmm : m = os.length + 1) :
    Calls Tryz.prog 30 #[.agg (gcs vo vs vh vr vq g.next)] w fun e w' => ∃ (C : Nat) (z : Nat → Int), e = .returned (.slice (some ⟨C, 0, none⟩) m m) ∧ Fy w' C m z ∧ Below w.heap.size w w' ∧ Dr17 g ((List.range' 1 g.obs.length).map z) := by
  have hol : g.obs.length = os.length := by rw [hg.eo, List.length_map]
  have l1 : Below w.heap.size w (w.alloc (.cells (gcs vo vs vh vr vq g.next) 27)) := Below.alloc (Below.refl _ _) (Nat.le_refl _) _
  have hx := heap_alloc_new w (.cells (gcs vo vs vh vr vq g.next) 27 (0, 0))
  obtain ⟨A, hA⟩ : ∃ A, A = w.heap.size := ⟨_, rfl⟩
  have HA : Hid (A = w.heap.size) := hA
  rw [← hA] at hx
  generalize hW : w.alloc (.cells (gcs vo vs vh vr vq g.next) 27) = W at *
  have y0 : W.cell? ⟨A, 0, none⟩ = some vo := Kg.heap_cell hx 0
  have y1 : W.cell? ⟨A, 1, none⟩ = some vs := Kg.heap_cell hx 1
  have y2 : W.cell? ⟨A, 2, none⟩ = some vh := Kg.heap_cell hx 2
  have y3 : W.cell? ⟨A, 3, none⟩ = some vr := Kg.heap_cell hx 3
  have y4 : W.cell? ⟨A, 4, none⟩ = some vq := Kg.heap_cell hx 4
  have y5 : W.cell? ⟨A, 5, none⟩ = some (.int .u64 (g.next : Int)) := Kg.heap_cell hx 5
  have HL1 : Hid (Below w.heap.size w W) := l1
  have HM : Hid (MB g) := hm
  have HMM : Hid (m = g.obs.length + 1) := by show _ = _; rw [hmm, hol]
  have HMO : Hid (m = os.length + 1) := hmm
  have HBg : Hid (Big19 os ts g) := hb
  have HEO : Hid (g.obs = os.map (·.o)) := hg.eo
  have HG : Hid (∀ w', Below W.heap.size W w' → w'.heap[A]? = some (.cells (gcs vo vs vh vr vq g.next) 27 (0, 0)) ∧ Below w.heap.size w w' ∧ Grd n0 w' vo vs vh vr vq os ts g) := fun w' b' => ⟨(b'.block _ (Kg.heap_lt hx)).trans hx, l1.trans (b'.mono l1.size), hg.below ((l1.trans (b'.mono l1.size)).mono hn)⟩
  have hm1 : 1 ≤ m := by omega
  have hm2 : m ≤ 2000000 := by have := hb.o; omega
  have q := webOf_any n0 W vo vs vh vr vq os ts g (hg.below (l1.mono hn)) (Nat.le_trans hn l1.size) hm (by have := hb.o; omega) hb.s (by have := hb.e; rw [List.length_append]; omega) m hmm
  clear hg hx l1 hb hm hA hol hmm
  go_enter Tryz.func30, Tryz.ntmps30
  go_upto_region 1 with fail
  rw [← HA.out]
  go_wp2_with fail
  refine q.mono ?_
  rintro e w1 ⟨wb, R, vw, vp, vx, L, rfl, hw1, hl1, hy1, b1⟩
  clear q
  have HW1 : Hid (Wb w1 W.heap.size wb R m vw vp vx (pe17 g) L) := hw1
  have HWl : Hid (Wl (pe17 g) L) := hl1
  have HY1 : Hid (Wys w1.heap.size w1 vw m (wz17 g)) := hy1
  have HB1 : Hid (Below W.heap.size W w1) := b1
  have HPl : Hid ((pe17 g).length ≤ 2000000) := by have h1 := pk_len g g.obs.length; have h2 := HMM.out; show (pk17 g g.obs.length).length ≤ _; omega
  obtain ⟨-, -, gr1⟩ := HG.out w1 b1
  have q := wordsOf_any n0 w1 vo vs vh vr vq os ts g gr1 (Nat.le_trans hn (Nat.le_trans HL1.out.size b1.size)) (wd_le HBg.out HEO.out) (by have := HBg.out.o; omega)
  rw [← HMO.out] at q
  clear hw1 hl1 hy1 gr1 y0 y1 y2 y3 y4 y5
  have hgb := (HG.out w1 HB1.out).1
  have y0 : w1.cell? ⟨A, 0, none⟩ = some vo := Kg.heap_cell hgb 0
  have y1 : w1.cell? ⟨A, 1, none⟩ = some vs := Kg.heap_cell hgb 1
  have y2 : w1.cell? ⟨A, 2, none⟩ = some vh := Kg.heap_cell hgb 2
  have y3 : w1.cell? ⟨A, 3, none⟩ = some vr := Kg.heap_cell hgb 3
  have y4 : w1.cell? ⟨A, 4, none⟩ = some vq := Kg.heap_cell hgb 4
  have y5 : w1.cell? ⟨A, 5, none⟩ = some (.int .u64 (g.next : Int)) := Kg.heap_cell hgb 5
  clear hgb b1
  go_wp2_with fail
  refine q.mono ?_
  rintro e w2 ⟨vd, rfl, hd2, b2⟩
  clear q
  have HD2 : Hid (Lrd w2.heap.size w2 vd .i64 ((List.range m).map (fun x => (wd17 g x : Int)))) := Il.lrd hd2
  obtain ⟨da, dc, ed⟩ := own_sl17 hd2
  rw [show (wl17 g m).length = m from by unfold wl17; rw [List.length_map, List.length_range]] at ed
  subst ed
  have HB2 : Hid (Below w.heap.size w w2) := (HG.out w1 HB1.out).2.1.trans (b2.mono (HG.out w1 HB1.out).2.1.size)
  have HW2 : Hid (Wb w2 W.heap.size wb R m vw vp vx (pe17 g) L) := HW1.out.below b2
  have HY2 : Hid (Wys w2.heap.size w2 vw m (wz17 g)) := (HY1.out.below b2).mono b2.size
  have HWy : Hid (∀ x y, y ∈ wy17 g x ↔ y ∈ wz17 g x ∧ y ≠ 0) := fun x y => wy_wz HM.out x y
  have HLt : Hid (∀ i, i < m → ∀ y, y ∈ wz17 g i → y < m) := fun i _ y hy => by rw [HMM.out]; exact wz_lt HM.out i y hy
  have HLn : Hid (∀ i, i < m → (wz17 g i).length ≤ 1000000000) := fun i _ => Nat.le_trans (wz_len HBg.out HEO.out i) (by omega)
  have q := reach_any w2.heap.size w2 W.heap.size wb R m vw vp vx (pe17 g) L (wy17 g) (wz17 g) 0 68 #[] (.func (.func 68) #[] #[]) rfl HW2.out HWl.out HY2.out (Nat.le_refl _) HWy.out HLt.out (pe_ok HM.out HMM.out) HLn.out HPl.out hm1 hm2 (meetC1 w2 m)
  clear y0 y1 y2 y3 y4 y5 hd2 b2 HW1 HY1 HB1
  go_wp2_with fail
  refine q.mono ?_
  rintro e w3 ⟨bb, seq, by', rfl, hbb, b3, f3, rx3, lt3⟩
  clear q
  have HRx : Hid (Rx (wy17 g) (pe17 g) 0 seq seq.length by') := rx3
  have HSl : Hid (∀ y, y ∈ seq → y < m) := lt3
  have HF3 : Hid (Fy w3 bb m (byv seq by')) := f3
  have HB3 : Hid (Below w2.heap.size w2 w3) := b3
  have HWx : Hid (∀ w', Below w2.heap.size w2 w' → Wb w' W.heap.size wb R m vw vp vx (pe17 g) L ∧ Wys w2.heap.size w' vw m (wz17 g) ∧ Lrd w2.heap.size w' (.slice da m dc) .i64 ((List.range m).map (fun x => (wd17 g x : Int)))) := fun w' b' => ⟨HW2.out.below b', HY2.out.below b', HD2.out.below b'⟩
  have q := holding_any W.heap.size wb R m vw vp vx (pe17 g) L w3 (HWx.out w3 b3).1 bb (byv seq by') f3 (fun e he => by have := pe_ok HM.out HMM.out e he; exact ⟨this.1.2, this.2.1.2⟩) HPl.out
  clear rx3 lt3 f3 b3 hbb HW2 HY2 HD2
  go_wp2_with fail
  refine q.mono ?_
  rintro e w4 ⟨vh4, rfl, hh4, b4⟩
  clear q
  obtain ⟨H, hH⟩ : ∃ H, H = (pe17 g).filter (hold (byv seq by')) := ⟨_, rfl⟩
  have HH : Hid (H = (pe17 g).filter (hold (byv seq by'))) := hH
  rw [← hH] at hh4
  have HHl : Hid (H.length ≤ 2000000) := by
    have h1 := List.length_filter_le (hold (byv seq by')) (pe17 g)
    have h2 := HPl.out
    show _ ≤ _
    rw [hH]
    omega
  obtain ⟨ha4, hc4, eh4⟩ := own_sl17 hh4
  subst eh4
  have HE4 : Hid (Eo w4 w3.heap.size (.slice ha4 H.length hc4) H) := hh4
  have HB4 : Hid (Below w2.heap.size w2 w4) := HB3.out.trans (b4.mono HB3.out.size)
  have HF4 : Hid (Fy w4 bb m (byv seq by')) := HF3.out.touch (Kg.Touch.of_below b4 []) (List.not_mem_nil)
  have q := waysWith_any w3.heap.size w2.heap.size w4 W.heap.size wb R m vw vp vx (pe17 g) L (wz17 g) (HWx.out w4 HB4.out).1 (HWx.out w4 HB4.out).2.1 HB4.out.size hm1 hm2 (Nat.le_trans (wz_len HBg.out HEO.out 0) (by omega)) (.slice ha4 H.length hc4) H hh4 HHl.out
  clear hh4 b4 hH HF3 HB3
  go_wp2_with fail
  refine q.mono ?_
  rintro e w5 ⟨v5, rfl, hy5, b5⟩
  clear q
  have HB5 : Hid (Below w2.heap.size w2 w5) := HB4.out.trans (b5.mono HB4.out.size)
  have HE5 : Hid (Eo w5 w3.heap.size (.slice ha4 H.length hc4) H) := HE4.out.keep (Kg.Touch.of_below b5 []) (fun _ _ => List.not_mem_nil)
  have HF5 : Hid (Fy w5 bb m (byv seq by')) := HF4.out.touch (Kg.Touch.of_below b5 []) (List.not_mem_nil)
  obtain ⟨T, hT⟩ : ∃ T, T = 1000000000 := ⟨_, rfl⟩
  have q := treeOf_any w5.heap.size m T (by omega) hm1 hm2 (wmore (wz17 g) H) (wmore_lt HM.out HMM.out H (fun e he => by rw [HH.out] at he; exact (List.mem_filter.1 he).1)) (by rw [HMO.out, hT]; exact wmore_sum HBg.out HEO.out H HHl.out) v5 w5 hy5 (Nat.le_refl _)
  obtain ⟨q5, k5, ev5, -⟩ := hy5
  subst ev5
  clear b5 hT HE4 HF4
  go_wp2_with fail
  refine q.mono ?_
  rintro e w6 ⟨v6, ab, rfl, hab, b6, ord, f, hI6, hF6, hT6⟩
  clear q
  have HT6 : Hid (Tre (wmore (wz17 g) H) m ord f) := hT6
  have HB6 : Hid (Below w2.heap.size w2 w6) := HB5.out.trans (b6.mono HB5.out.size)
  have HE6 : Hid (Eo w6 w3.heap.size (.slice ha4 H.length hc4) H) := HE5.out.keep (Kg.Touch.of_below b6 []) (fun _ _ => List.not_mem_nil)
  have HF6 : Hid (Fy w6 bb m (byv seq by')) := HF5.out.touch (Kg.Touch.of_below b6 []) (List.not_mem_nil)
  have HRt0 : Hid (Rt (wy17 g) (wmore (wz17 g) H) (pe17 g) g.obs.length seq by' H seq ord (fun x => (f x).toNat)) := by
    show Rt _ _ _ _ _ _ _ _ _ _
    have h1 := hT6
    rw [HH.out] at h1 ⊢
    exact rt_of HM.out HRx.out (fun x hx => hx) (rx_closed HRx.out) (fun e he => (hold_mem.1 he).2) h1
  have q := gathered_any w2.heap.size w6 (wwith (wy17 g) H) (wd17 g) (fun x => (f x).toNat) ord m ab f v6 (.slice da m dc) w5.heap.size HRt0.out.gt hI6 hF6 (fun x hx _ => (tre_nn hT6 hx).1) (fun x hx _ => (tre_nn hT6 hx).2) hT6.o (HWx.out w6 HB6.out).2.2 HB6.out.size (wd_le HBg.out HEO.out) hm2 (Nat.le_trans (tre_len hT6) hm2)
  obtain ⟨a6, c6, e6⟩ := own_sl17 hI6
  rw [List.length_map] at e6
  subst e6
  clear hab b6 hI6 hF6 hT6 HE5 HF5
  go_wp2_with fail
  refine q.mono ?_
  rintro e w7 ⟨C, rfl, hC, f7, b7⟩
  clear q
  have HB7 : Hid (Below w2.heap.size w2 w7) := HB6.out.trans (b7.mono HB6.out.size)
  have HE7 : Hid (Eo w7 w3.heap.size (.slice ha4 H.length hc4) H) := HE6.out.keep (Kg.Touch.of_below b7 []) (fun _ _ => List.not_mem_nil)
  have HF7 : Hid (Fy w7 bb m (byv seq by')) := HF6.out.touch (Kg.Touch.of_below b7 []) (List.not_mem_nil)
  have HC7 : Hid (Fy w7 C m (fun x => (gth (wd17 g) (fun x => (f x).toNat) ord x : Nat))) := f7
  have HCs : Hid (w6.heap.size ≤ C ∧ C < w7.heap.size) := ⟨hC, f7.lt⟩
  have q := needed_any w3.heap.size m (by omega) bb (byv seq by') seq by' (ry_hg HRx.out.ry HSl.out) (fun x hx => by unfold byv; rw [if_pos hx]) (.slice ha4 H.length hc4) H (fun e he => by rw [HH.out] at he; exact (hold_mem.1 he).2) HHl.out w7 HF7.out HE7.out
  clear hC f7 b7 HE6 HF6
  go_wp2_with fail
  refine q.mono ?_
  rintro e w8 ⟨v8, N, rfl, hI8, b8, hNl, hN1, hN2, hN3⟩
  clear q
  obtain ⟨a8, c8, e8⟩ := own_sl17 hI8
  rw [List.length_map] at e8
  subst e8
  have HRt : Hid (Rt (wy17 g) (wmore (wz17 g) H) (pe17 g) g.obs.length seq by' H N ord (fun x => (f x).toNat)) := by
    show Rt _ _ _ _ _ _ _ _ _ _
    have h1 := HT6.out
    rw [HH.out] at h1 hN3 ⊢
    exact rt_of HM.out HRx.out hN1 hN2 hN3 h1
  have HCl : Hid (∀ wr, Kg.Touch [C] w8 wr → ∀ (k : Nat) n, N[k]? = some n → ∃ q, a8 = some ⟨q, 0, none⟩ ∧ wr.cell? ⟨q, k, none⟩ = some (.int .i64 (n : Nat))) := fun wr t k n hn => by
    obtain ⟨a, c, e1, h1⟩ := Il.at_ hI8 t (fun k hk => by rw [List.mem_singleton.1 hk]; exact HCs.out.2)
    rw [List.length_map] at e1
    simp only [Value.slice.injEq, true_and] at e1
    obtain ⟨rfl, rfl⟩ := e1
    obtain ⟨q, h2, -, -, h3⟩ := h1 k (n : Int) (by rw [List.getElem?_map, hn]; rfl)
    exact ⟨q, h2, h3⟩
  have HC8 : Hid (Fy w8 C m (fun x => (gth (wd17 g) (fun x => (f x).toNat) ord x : Nat))) := HC7.out.touch (Kg.Touch.of_below b8 []) (List.not_mem_nil)
  have HB8 : Hid (Below w2.heap.size w2 w8) := HB7.out.trans (b8.mono HB7.out.size)
  have HC2 : Hid (w2.heap.size ≤ C) := Nat.le_trans HB6.out.size HCs.out.1
  have HNm : Hid (∀ n, n ∈ N → n ≠ 0 ∧ n < m) := fun n hn => ⟨(HRx.out.nz n (hN1 n hn)).1, HSl.out n (hN1 n hn)⟩
  have HR0 : Hid (gth (wd17 g) (fun x => (f x).toNat) ord 0 = rs (wd17 g) (wy17 g) (pe17 g) g.obs.length 0) := HRt.out.whole (wd17 g) (by unfold wd17; rw [if_pos rfl])
  have HBr : Hid (∀ d, rs (wd17 g) (wy17 g) (pe17 g) g.obs.length d ≤ 5000000000000) := fun d => by
    have h1 := sm_le (w := wd17 g) (p := Re (wy17 g) (pe17 g) d) (List.range' 1 g.obs.length)
    have h2 : ∀ l : List Nat, (l.map (wd17 g)).sum ≤ l.length * 2000000 := fun l => by
      induction l with
      | nil => exact Nat.zero_le _
      | cons x r ih =>
        rw [List.map_cons, List.sum_cons, List.length_cons, Nat.succ_mul]
        have := wd_le HBg.out HEO.out x
        omega
    have h3 := h2 (List.range' 1 g.obs.length)
    rw [List.length_range'] at h3
    have h4 := HMM.out
    have h5 : g.obs.length * 2000000 ≤ 2000000 * 2000000 := Nat.mul_le_mul_right _ (by omega)
    show sm _ _ _ ≤ _
    omega
  obtain ⟨G, hG⟩ : ∃ G : Nat → Nat, ∀ x, G x = gth (wd17 g) (fun x => (f x).toNat) ord x := ⟨_, fun _ => rfl⟩
  have HGt : Hid (∀ x, G x = gth (wd17 g) (fun x => (f x).toNat) ord x) := hG
  have HC9 : Hid (Fy w8 C m (fun x => (G x : Nat))) := HC8.out.congr (fun x _ => by show ((G x : Nat) : Int) = _; rw [hG x])
  obtain ⟨rr, hrr⟩ : ∃ rr : Nat → Nat, ∀ d, rr d = rs (wd17 g) (wy17 g) (pe17 g) g.obs.length d := ⟨_, fun _ => rfl⟩
  have HRr : Hid (∀ d, rr d = rs (wd17 g) (wy17 g) (pe17 g) g.obs.length d) := hrr
  have HG0 : Hid (((G 0 : Nat) : Int) = (rr 0 : Int)) := by show ((G 0 : Nat) : Int) = (rr 0 : Int); rw [hG 0, HR0.out, hrr 0]
  have HBq : Hid (∀ d, rr d ≤ 5000000000000) := fun d => by rw [hrr d]; exact HBr.out d
  clear hG hrr hI8 b8 hN1 hN2 hN3 HE7 HF7 HC7 HC8 HR0 HBr HRt0
  go_wp2
  go_loopw [9, 10, 30] (fun _ _ v30 wr => ∃ (k : Nat) (z : Nat → Int), v30 = .int .i64 (k : Nat) ∧ k ≤ N.length ∧ Hid (Fy wr C m z) ∧ Hid (z 0 = (rr 0 : Int)) ∧ Hid (∀ x, x ∈ N.take k → z x = (rr 0 : Int) - (rr x : Int)) ∧ Hid (∀ x, x ∉ N → z x = (G x : Int)) ∧ Hid (Kg.Touch [C] w8 wr)) (fun _ _ v30 _ => N.length - (intOf v30).toNat)
  case atStart => exact ⟨0, _, rfl, Nat.zero_le _, HC9, HG0, fun x hx => by simp at hx, fun x _ => rfl, Kg.Touch.refl _ _⟩
  case round =>
    obtain ⟨k, z, rfl, hk, Z1, Z2, Z3, Z4, Z5⟩ := hrel
    by_cases hkl : k < N.length
    · have hki : (k : Int) < (N.length : Int) := by omega
      obtain ⟨n, hn⟩ : ∃ n, N[k]? = some n := ⟨_, List.getElem?_eq_getElem hkl⟩
      obtain ⟨q9, rfl, cn⟩ := HCl.out wr Z5.out k n hn
      obtain ⟨hn0, hnm⟩ := HNm.out n (List.mem_of_getElem? hn)
      have HT : Hid (N.take (k + 1) = N.take k ++ [n]) := by show _ = _; rw [List.take_add_one, hn]; rfl
      have HNn : Hid (n ≠ 0 ∧ n ∈ N) := ⟨hn0, List.mem_of_getElem? hn⟩
      clear hn hn0
      go_upto_region 9 with fail
      obtain ⟨X, hX⟩ : ∃ X, X = wr.heap.size := ⟨_, rfl⟩
      have l10 : Below wr.heap.size wr (wr.alloc (.cells #[.int .i64 (n : Nat)] 3)) := Below.alloc (Below.refl _ _) (Nat.le_refl _) _
      have B10 : Hid (Below w2.heap.size w2 (wr.alloc (.cells #[.int .i64 (n : Nat)] 3))) := by
        have h1 := HB8.out.trans (Z5.out.below HB8.out.size (fun k hk => by rw [List.mem_singleton.1 hk]; exact HC2.out))
        exact h1.trans (l10.mono h1.size)
      have F10 : Hid (Fy (wr.alloc (.cells #[.int .i64 (n : Nat)] 3)) C m z) := Z1.out.touch (Kg.Touch.of_below l10 []) (List.not_mem_nil)
      have T10 : Hid (Kg.Touch [C] w8 (wr.alloc (.cells #[.int .i64 (n : Nat)] 3))) := Z5.out.trans (Kg.Touch.of_below l10 _)
      have H10 : Hid ((wr.alloc (.cells #[.int .i64 (n : Nat)] 3)).heap[X]? = some (.cells #[.int .i64 (n : Nat)] 3 (0, 0))) := by rw [hX]; exact heap_alloc_new wr _
      have HXC : Hid (C ≠ X) := fun e => by have := Z1.out.lt; omega
      change Code.wp _ _ _ _ (wr.alloc (.cells #[.int .i64 (n : Nat)] 3))
      rw [← hX]
      clear cn l10 hX Z1 Z5
      generalize wr.alloc (.cells #[.int .i64 (n : Nat)] 3) = w10 at *
      obtain ⟨hwb, hwy, hwl⟩ := HWx.out w10 B10.out
      have q := reach_any w2.heap.size w10 W.heap.size wb R m vw vp vx (pe17 g) L (wy17 g) (wz17 g) n 73 #[.pointer (some ⟨X, 0, none⟩)] (.func (.func 73) #[] #[.pointer (some ⟨X, 0, none⟩)]) rfl hwb HWl.out hwy B10.out.size HWy.out HLt.out (pe_ok HM.out HMM.out) HLn.out HPl.out hm1 hm2 (meetC2 w10 m ⟨X, 0, none⟩ n (Kg.heap_lt H10.out) (Kg.heap_cell H10.out 0))
      clear hwb hwy hwl
      go_wp2_with fail
      refine q.mono ?_
      rintro e w11 ⟨b2, seq2, by2, rfl, hb2, b11, f11, rx11, lt11⟩
      clear q
      have B11 : Hid (Below w2.heap.size w2 w11) := B10.out.trans (b11.mono B10.out.size)
      have F11 : Hid (Fy w11 C m z) := F10.out.touch (Kg.Touch.of_below b11 []) (List.not_mem_nil)
      have T11 : Hid (Kg.Touch [C] w8 w11) := T10.out.trans (Kg.Touch.of_below b11 _)
      have H11 := (b11.block X (Kg.heap_lt H10.out)).trans H10.out
      have cX : w11.cell? ⟨X, 0, none⟩ = some (.int .i64 (n : Nat)) := Kg.heap_cell H11 0
      have c0 : w11.cell? ⟨C, 0, none⟩ = some (.int .i64 (rr 0 : Nat)) := by
        have h1 := F11.out.cell (x := 0) (by omega)
        rw [Z2.out] at h1
        exact h1
      have cN := F11.out.cell hnm
      have zN : w11.drew.frozen? ⟨C, n, none⟩ = false := F11.out.frozen n
      have hr0 := HBq.out 0
      have hrn := HBq.out n
      have hm0I : (0 : Int) < (m : Int) := by omega
      have hm0 : 0 < m := by omega
      have hnI : (n : Int) < (m : Int) := by omega
      have q := met_any m (by omega) (wd17 g) (wd_le HBg.out HEO.out) w2.heap.size w11.drew (.slice da m dc) ((HWx.out w11 B11.out).2.2.below (below_drewN (Below.refl _ _) 1)) b2 (byv seq2 by2) (f11.touch (Kg.Touch.drew [] w11) (List.not_mem_nil))
      rw [met_rs rx11 HMM.out, ← HRr.out n] at q
      have HFin : Hid (Fy (w11.setCell ⟨C, n, none⟩ (.int .i64 ((rr 0 : Int) - (rr n : Int)))).drew C m (fun x => if x = n then (rr 0 : Int) - (rr n : Int) else z x)) := (F11.out.set hnm _).touch (Kg.Touch.drew [] _) (List.not_mem_nil)
      have HTin : Hid (Kg.Touch [C] w8 (w11.setCell ⟨C, n, none⟩ (.int .i64 ((rr 0 : Int) - (rr n : Int)))).drew) := (T11.out.trans (Kg.Touch.setCell _ _ _ (by simp))).trans (Kg.Touch.drew _ _)
      clear H11 rx11 lt11 f11 b11 hb2 F10 T10 B10
      go_upto_region 10 with fail
      refine Kg.quiet_tail 10 Kg.mixed (by kernel_rfl) ?_
      simp only [List.take_succ_cons, List.take_zero, List.drop_succ_cons, List.drop_zero]
      repeat (go_big_quiet_step (exact q _))
      refine wpQuiet_nil ?_
      have HZ0 : Hid ((fun x => if x = n then (rr 0 : Int) - (rr n : Int) else z x) 0 = (rr 0 : Int)) := by
        show (if 0 = n then (rr 0 : Int) - (rr n : Int) else z 0) = _
        rw [if_neg (fun e => HNn.out.1 e.symm)]
        exact Z2.out
      have HZ3 : Hid (∀ x, x ∈ N.take (k + 1) → (fun x => if x = n then (rr 0 : Int) - (rr n : Int) else z x) x = (rr 0 : Int) - (rr x : Int)) := fun x hx => by
        show (if x = n then (rr 0 : Int) - (rr n : Int) else z x) = _
        by_cases e : x = n
        · rw [if_pos e, e]
        · rw [if_neg e]
          rw [HT.out] at hx
          rcases List.mem_append.1 hx with h1 | h1
          · exact Z3.out x h1
          · exact absurd (List.mem_singleton.1 h1) e
      have HZ4 : Hid (∀ x, x ∉ N → (fun x => if x = n then (rr 0 : Int) - (rr n : Int) else z x) x = (G x : Int)) := fun x hx => by
        show (if x = n then (rr 0 : Int) - (rr n : Int) else z x) = _
        rw [if_neg (fun e => hx (by rw [e]; exact HNn.out.2))]
        exact Z4.out x hx
      clear Z2 Z3 Z4 HT HNn q
      go_wp2
      go_roundw
      case rel => exact ⟨k + 1, _, by go_num, by omega, HFin, HZ0, HZ3, HZ4, HTin⟩
      case measure => simp [intOf]; omega
    · have hki : ¬ (k : Int) < (N.length : Int) := by omega
      have eT : N.take k = N := List.take_of_length_le (by omega)
      have HE : Hid (Fy wr C m z ∧ Below w.heap.size w wr ∧ Dr17 g ((List.range' 1 g.obs.length).map z)) := by
        refine ⟨Z1.out, HB2.out.trans ((HB8.out.trans (Z5.out.below HB8.out.size (fun k hk => by rw [List.mem_singleton.1 hk]; exact HC2.out))).mono HB2.out.size), dr_of HRt.out z (fun x hx => ?_) (fun x hx => ?_)⟩
        · rw [Z3.out x (by rw [eT]; exact hx), HRr.out, HRr.out]
        · rw [Z4.out x hx, HGt.out]
      clear Z1 Z2 Z3 Z4 Z5 eT
      go_wp2
      go_ret
      exact ⟨C, rfl, z, HE.out⟩
end Go.Proofs.YtkekaifiahjljaaGreatDoor
