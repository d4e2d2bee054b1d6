import Derived.Test.YtkekaifiahjljaaGreatDoorC35
set_option linter.unusedVariables false
set_option maxHeartbeats 8000000
set_option maxRecDepth 20000
namespace Go.Proofs.YtkekaifiahjljaaGreatDoor
open Go.RowKit Go.Shelf Go.Proofs.YtkekaifiahjljaaGreatDoor.Lt
set_option maxHeartbeats 16000000 in
theorem add_any (B wb R m : Nat) (hm : m ≤ 2000001) (vw vp : Value) (vs : Nat → Value) (P : List Ep) (L : Nat → List Ep) (e : Ep) (hf0 : e.1 < m) (hf1 : e.2.1 < m) (hPl : P.length ≤ 2000000) (hLl : ∀ n, (L n).length ≤ 4000000) (w : World) (hw : Wb w B wb R m vw vp vs P L) :
    Calls Tryz.prog 116 #[.pointer (some ⟨wb, 0, none⟩), epv e] w fun r w' => r = .returned (.tuple #[]) ∧ ∃ vp' vs', Wb w' B wb R m vw vp' vs' (P ++ [e]) (lpt (lpt L e.1 e) e.2.1 e) ∧ Kg.Touch (wbF wb R m vp vs) w w' ∧ Kg.Newer w.heap.size (wbF wb R m vp vs) (wbF wb R m vp' vs') := by
  obtain ⟨i0, hi0, hj0, hj1, hj2⟩ := info_p17 infoEP
  have HI : Hid (Tryz.prog.info? 156 = some i0 ∧ i0.zero = some (.agg #[.int .i64 0, .int .i64 0, .int .i64 0]) ∧ i0.size = 3 ∧ i0.bytes = 24) := ⟨hi0, hj0, hj1, hj2⟩
  clear hi0 hj0 hj1 hj2
  have HLl : Hid (True ∧ ∀ n, (L n).length ≤ 5000000) := ⟨trivial, fun n => Nat.le_trans (hLl n) (by omega)⟩
  have HLl3 : Hid (True ∧ ∀ n, (lpt L e.1 e n).length ≤ 5000000) := ⟨trivial, fun n => by
    show (if n = e.1 then L e.1 ++ [e] else L n).length ≤ _
    have h1 := hLl e.1
    have h2 := hLl n
    split
    · rw [List.length_append, List.length_singleton]; omega
    · omega⟩
  have HB0 : Hid (B ≤ w.heap.size) := Nat.le_trans hw.lo (Nat.le_of_lt (Kg.heap_lt hw.h))
  have b1 : Below w.heap.size w (w.alloc (.cells (epc e) 156)) := Below.alloc (Below.refl _ _) (Nat.le_refl _) _
  have hx1 := heap_alloc_new w (.cells (epc e) 156 (0, 0))
  have HW1 : Hid (Wb (w.alloc (.cells (epc e) 156)) B wb R m vw vp vs P L) := hw.below b1
  have HF1 : Hid (w.heap.size ∉ wbF wb R m vp vs) := fun hm => by have := (hw.mem _ hm).2; omega
  obtain ⟨pa, pc, ep⟩ := own_sl17 hw.p
  subst ep
  clear hw hLl
  go_enter Tryz.func116, Tryz.ntmps116
  go_upto_region 1 with fail
  change Code.wp _ _ _ _ (w.alloc (.cells (epc e) 156))
  obtain ⟨X, hX⟩ : ∃ X, X = w.heap.size := ⟨_, rfl⟩
  rw [← hX] at hx1 HF1 ⊢
  have HXe : Hid (X = w.heap.size) := hX
  have HS1 : Hid ((w.alloc (.cells (epc e) 156)).heap.size = w.heap.size + 1) := by show _ = _; simp
  have HT1 : Hid (Kg.Touch (wbF wb R m (.slice pa P.length pc) vs) w (w.alloc (.cells (epc e) 156))) := Kg.Touch.of_below b1 _
  have HX1 : Hid ((w.alloc (.cells (epc e) 156)).heap[X]? = some (.cells (epc e) 156 (0, 0))) := hx1
  clear hX b1 hx1
  generalize w.alloc (.cells (epc e) 156) = w1 at *
  have c1 := Kg.heap_cell HW1.out.h 1
  have k0 := Kg.heap_cell HX1.out 0
  have k1 := Kg.heap_cell HX1.out 1
  have k2 := Kg.heap_cell HX1.out 2
  simp only [epc, List.getElem?_toArray, List.getElem?_cons_zero, List.getElem?_cons_succ] at c1 k0 k1 k2
  have HBS1 : Hid (B ≤ w1.heap.size) := Nat.le_trans HB0.out HT1.out.size
  go_cut [] from 4 to 14 (fun wq => ∃ v1 : Value, Hid (Wb wq B wb R m vw v1 vs (P ++ [e]) L) ∧ Hid (wq.heap[X]? = some (.cells (epc e) 156 (0, 0))) ∧ Hid (Kg.Touch (wbF wb R m (.slice pa P.length pc) vs) w wq) ∧ Hid (Kg.Newer (w.heap.size + 1) (wbF wb R m (.slice pa P.length pc) vs) (wbF wb R m v1 vs)))
  case first =>
    have hcA : (w1.alloc (.cells (epc e) 156)).cell? ⟨wb, 1, none⟩ = some (.slice pa P.length pc) := (Below.cell (p := ⟨wb, 1, none⟩) (Below.alloc (Below.refl w1.heap.size w1) (Nat.le_refl _) _) (Kg.heap_lt HW1.out.h)).trans c1
    have HRow : Hid ((w1.drew.alloc (.cells (epc e) 156)).ownsRow B 156 3 (.slice pa P.length pc) P.length (epl P)) := Kg.row_keep2 (G := []) HW1.out.p ((Kg.Touch.drew _ w1).trans (Kg.Touch.alloc _ _ (.cells (epc e) 156))) (fun _ _ => List.not_mem_nil)
    have HRd : Hid (Wb w1.drew B wb R m vw (.slice pa P.length pc) vs P L) := HW1.out.keep (Kg.Touch.drew [] w1) (fun _ _ => List.not_mem_nil)
    have hsz := HBS1.out
    go_region_law (refine step_append_own_at rfl (.tmp 8) (.tmp 10) 101 rfl B 156 i0 (.agg #[.int .i64 0, .int .i64 0, .int .i64 0]) 3 24 Tryz.underlying101 HI.out.1 HI.out.2.1 HI.out.2.2.1 HI.out.2.2.2 rfl (by decide) (.slice pa P.length pc) P.length (epl P) rfl HRow.out ⟨w1.drew.heap.size, 0, none⟩ 1 1 (epc e).toList rfl rfl (cells_new17 _ _ _) (by simp [Value.oneCell']) (by simp only [maxLen]; omega) (by omega) (by simp; omega) ?_; intro v8 w8 h8 g8 e8; obtain ⟨a8, c8, rfl, d8, z8, HN⟩ := HRd.out.push h8 g8 e8)
    all_goals
      have HZ : Hid (∃ v1 : Value, Hid (Wb (w8.setCell ⟨wb, 1, none⟩ (.slice a8 (P.length + 1) c8)) B wb R m vw v1 vs (P ++ [e]) L) ∧ Hid ((w8.setCell ⟨wb, 1, none⟩ (.slice a8 (P.length + 1) c8)).heap[X]? = some (.cells (epc e) 156 (0, 0))) ∧ Hid (Kg.Touch (wbF wb R m (.slice pa P.length pc) vs) w (w8.setCell ⟨wb, 1, none⟩ (.slice a8 (P.length + 1) c8))) ∧ Hid (Kg.Newer (w.heap.size + 1) (wbF wb R m (.slice pa P.length pc) vs) (wbF wb R m v1 vs))) := by
        obtain ⟨f1, f2, f3⟩ := HN.out
        have f2' := (Kg.Touch.drew _ w1).trans f2
        exact ⟨_, f1, (f2'.block X (Kg.heap_lt HX1.out) HF1.out).trans HX1.out, HT1.out.trans f2', fun k hk => (f3 k hk).imp id (fun h => by have h2 := HS1.out; have h3 : w1.drew.heap.size = w1.heap.size := rfl; omega)⟩
      clear h8 g8 e8 d8 z8 HN HRd HRow hcA
      generalize w8.setCell ⟨wb, 1, none⟩ (.slice a8 (P.length + 1) c8) = w9 at *
      go_wp2
      go_meet
      case rel => exact HZ.out
  case rest =>
  obtain ⟨v1, HW2, HX, HT2, HN2⟩ := hcut
  clear c1 k0 k1 k2 HW1 HX1 HT1 HBS1
  obtain ⟨w2, hw2⟩ : ∃ w2, w2 = wc := ⟨_, rfl⟩
  subst hw2
  have HF1' : Hid (X ∉ wbF wb R m (.slice pa P.length pc) vs) := HF1
  clear HF1
  have HXs : Hid (X < w.heap.size + 1) := by show _ < _; rw [HXe.out]; omega
  have HXw : Hid (X < w2.heap.size) := Kg.heap_lt HX.out
  have HXF : Hid (X ∉ wbF wb R m v1 vs) := fun hm => by
    rcases HN2.out X hm with h1 | h1
    · exact HF1'.out h1
    · have := HXe.out; omega
  clear HF1'
  have HBS : Hid (B ≤ w2.heap.size) := Nat.le_trans HB0.out HT2.out.size
  go_upto_region 2 with fail
  obtain ⟨ln, hln⟩ : ∃ ln, ln = (L e.1).length := ⟨_, rfl⟩
  have HLN : Hid (ln = (L e.1).length) := hln
  have hlnb : ln ≤ 5000000 := by have h := HLl.out.2 e.1; rw [← hln] at h; exact h
  obtain ⟨va, vc, ev⟩ := own_sl17 (HW2.out.l.l e.1 hf0)
  rw [← hln] at ev
  have HEV : Hid (vs e.1 = (.slice va ln vc)) := ev
  have hRlt := HW2.out.l.lt
  have hWlt := Kg.heap_lt HW2.out.h
  have hXlt := Kg.heap_lt HX.out
  have s4 : w2.drew.cell? ⟨R, e.1, none⟩ = some (.slice va ln vc) := by have h9 := HW2.out.l.cell (i := e.1) hf0; rw [ev] at h9; exact h9
  have s0 : w2.drew.cell? ⟨wb, 2, none⟩ = some (.slice (some ⟨R, 0, none⟩) m m) := Kg.heap_cell HW2.out.h 2
  have s1 : w2.drew.cell? ⟨X, 0, none⟩ = some (.int .i64 (e.1 : Nat)) := Kg.heap_cell HX.out 0
  have s2 : w2.drew.cell? ⟨X, 1, none⟩ = some (.int .i64 (e.2.1 : Nat)) := Kg.heap_cell HX.out 1
  have s3 : w2.drew.cell? ⟨X, 2, none⟩ = some (.int .i64 (e.2.2 : Nat)) := Kg.heap_cell HX.out 2
  have hfI : ((e.1 : Nat) : Int) < (m : Int) := by omega
  clear hln ev
  refine Kg.wp_region_E (S := fun w' => w'.cell? ⟨wb, 2, none⟩ = some (.slice (some ⟨R, 0, none⟩) m m) ∧ w'.cell? ⟨X, 0, none⟩ = some (.int .i64 (e.1 : Nat)) ∧ w'.cell? ⟨X, 1, none⟩ = some (.int .i64 (e.2.1 : Nat)) ∧ w'.cell? ⟨X, 2, none⟩ = some (.int .i64 (e.2.2 : Nat)) ∧ w'.cell? ⟨R, e.1, none⟩ = some (.slice va ln vc)) 18 Kg.mixed ⟨s0, s1, s2, s3, s4⟩ (fun hHeld => ?_)
  clear s0 s1 s2 s3 s4
  refine Kg.wpAnyE_take (i := 0) (v := (.pointer (some ⟨wb, 0, none⟩))) (by kernel_rfl) (by decide) rfl (by kernel_rfl) (by kernel_rfl) (by kernel_rfl) (fun _ _ _ h => h) (Or.inl ⟨by rfl, fun wx hSw => ?_⟩) (by assumption) ?_
  · obtain ⟨s0, s1, s2, s3, s4⟩ := hSw
    go_simp
  change Kg.wpAnyE _ _ _ _ _ _ _ _ (Act.put _ (some 14) (.pointer (some ⟨wb, 0, none⟩))) _
  simp only [Act.put, List.setIfInBounds_toArray, List.set_cons_zero, List.set_cons_succ]
  refine Kg.wpAnyE_take (i := 1) (v := (.pointer (some ⟨wb, 0, none⟩))) (by kernel_rfl) (by decide) rfl (by kernel_rfl) (by kernel_rfl) (by kernel_rfl) (fun _ _ _ h => h) (Or.inl ⟨by rfl, fun wx hSw => ?_⟩) (by assumption) ?_
  · obtain ⟨s0, s1, s2, s3, s4⟩ := hSw
    go_simp
  change Kg.wpAnyE _ _ _ _ _ _ _ _ (Act.put _ (some 15) (.pointer (some ⟨wb, 0, none⟩))) _
  simp only [Act.put, List.setIfInBounds_toArray, List.set_cons_zero, List.set_cons_succ]
  refine Kg.wpAnyE_take (i := 2) (v := (.pointer (some ⟨wb, 2, none⟩))) (by kernel_rfl) (by decide) rfl (by kernel_rfl) (by kernel_rfl) (by kernel_rfl) (fun _ _ _ h => h) (Or.inl ⟨by rfl, fun wx hSw => ?_⟩) (by assumption) ?_
  · obtain ⟨s0, s1, s2, s3, s4⟩ := hSw
    go_simp
  change Kg.wpAnyE _ _ _ _ _ _ _ _ (Act.put _ (some 16) (.pointer (some ⟨wb, 2, none⟩))) _
  simp only [Act.put, List.setIfInBounds_toArray, List.set_cons_zero, List.set_cons_succ]
  refine Kg.wpAnyE_take (i := 3) (v := (.slice (some ⟨R, 0, none⟩) m m)) (by kernel_rfl) (by decide) rfl (by kernel_rfl) (by kernel_rfl) (by kernel_rfl) (fun _ _ _ h => h) (Or.inl ⟨by rfl, fun wx hSw => ?_⟩) (by assumption) ?_
  · obtain ⟨s0, s1, s2, s3, s4⟩ := hSw
    go_simp
  change Kg.wpAnyE _ _ _ _ _ _ _ _ (Act.put _ (some 17) (.slice (some ⟨R, 0, none⟩) m m)) _
  simp only [Act.put, List.setIfInBounds_toArray, List.set_cons_zero, List.set_cons_succ]
  refine Kg.wpAnyE_take (i := 4) (v := (.pointer (some ⟨X, 0, none⟩))) (by kernel_rfl) (by decide) rfl (by kernel_rfl) (by kernel_rfl) (by kernel_rfl) (fun _ _ _ h => h) (Or.inl ⟨by rfl, fun wx hSw => ?_⟩) (by assumption) ?_
  · obtain ⟨s0, s1, s2, s3, s4⟩ := hSw
    go_simp
  change Kg.wpAnyE _ _ _ _ _ _ _ _ (Act.put _ (some 18) (.pointer (some ⟨X, 0, none⟩))) _
  simp only [Act.put, List.setIfInBounds_toArray, List.set_cons_zero, List.set_cons_succ]
  refine Kg.wpAnyE_take (i := 5) (v := (.int .i64 (e.1 : Nat))) (by kernel_rfl) (by decide) rfl (by kernel_rfl) (by kernel_rfl) (by kernel_rfl) (fun _ _ _ h => h) (Or.inl ⟨by rfl, fun wx hSw => ?_⟩) (by assumption) ?_
  · obtain ⟨s0, s1, s2, s3, s4⟩ := hSw
    go_simp
  change Kg.wpAnyE _ _ _ _ _ _ _ _ (Act.put _ (some 19) (.int .i64 (e.1 : Nat))) _
  simp only [Act.put, List.setIfInBounds_toArray, List.set_cons_zero, List.set_cons_succ]
  refine Kg.wpAnyE_take (i := 6) (v := (.pointer (some ⟨wb, 0, none⟩))) (by kernel_rfl) (by decide) rfl (by kernel_rfl) (by kernel_rfl) (by kernel_rfl) (fun _ _ _ h => h) (Or.inl ⟨by rfl, fun wx hSw => ?_⟩) (by assumption) ?_
  · obtain ⟨s0, s1, s2, s3, s4⟩ := hSw
    go_simp
  change Kg.wpAnyE _ _ _ _ _ _ _ _ (Act.put _ (some 20) (.pointer (some ⟨wb, 0, none⟩))) _
  simp only [Act.put, List.setIfInBounds_toArray, List.set_cons_zero, List.set_cons_succ]
  refine Kg.wpAnyE_take (i := 7) (v := (.pointer (some ⟨wb, 0, none⟩))) (by kernel_rfl) (by decide) rfl (by kernel_rfl) (by kernel_rfl) (by kernel_rfl) (fun _ _ _ h => h) (Or.inl ⟨by rfl, fun wx hSw => ?_⟩) (by assumption) ?_
  · obtain ⟨s0, s1, s2, s3, s4⟩ := hSw
    go_simp
  change Kg.wpAnyE _ _ _ _ _ _ _ _ (Act.put _ (some 21) (.pointer (some ⟨wb, 0, none⟩))) _
  simp only [Act.put, List.setIfInBounds_toArray, List.set_cons_zero, List.set_cons_succ]
  refine Kg.wpAnyE_take (i := 8) (v := (.pointer (some ⟨wb, 2, none⟩))) (by kernel_rfl) (by decide) rfl (by kernel_rfl) (by kernel_rfl) (by kernel_rfl) (fun _ _ _ h => h) (Or.inl ⟨by rfl, fun wx hSw => ?_⟩) (by assumption) ?_
  · obtain ⟨s0, s1, s2, s3, s4⟩ := hSw
    go_simp
  change Kg.wpAnyE _ _ _ _ _ _ _ _ (Act.put _ (some 22) (.pointer (some ⟨wb, 2, none⟩))) _
  simp only [Act.put, List.setIfInBounds_toArray, List.set_cons_zero, List.set_cons_succ]
  refine Kg.wpAnyE_take (i := 9) (v := (.slice (some ⟨R, 0, none⟩) m m)) (by kernel_rfl) (by decide) rfl (by kernel_rfl) (by kernel_rfl) (by kernel_rfl) (fun _ _ _ h => h) (Or.inl ⟨by rfl, fun wx hSw => ?_⟩) (by assumption) ?_
  · obtain ⟨s0, s1, s2, s3, s4⟩ := hSw
    go_simp
  change Kg.wpAnyE _ _ _ _ _ _ _ _ (Act.put _ (some 23) (.slice (some ⟨R, 0, none⟩) m m)) _
  simp only [Act.put, List.setIfInBounds_toArray, List.set_cons_zero, List.set_cons_succ]
  refine Kg.wpAnyE_take (i := 10) (v := (.pointer (some ⟨X, 0, none⟩))) (by kernel_rfl) (by decide) rfl (by kernel_rfl) (by kernel_rfl) (by kernel_rfl) (fun _ _ _ h => h) (Or.inl ⟨by rfl, fun wx hSw => ?_⟩) (by assumption) ?_
  · obtain ⟨s0, s1, s2, s3, s4⟩ := hSw
    go_simp
  change Kg.wpAnyE _ _ _ _ _ _ _ _ (Act.put _ (some 24) (.pointer (some ⟨X, 0, none⟩))) _
  simp only [Act.put, List.setIfInBounds_toArray, List.set_cons_zero, List.set_cons_succ]
  refine Kg.wpAnyE_take (i := 11) (v := (.int .i64 (e.1 : Nat))) (by kernel_rfl) (by decide) rfl (by kernel_rfl) (by kernel_rfl) (by kernel_rfl) (fun _ _ _ h => h) (Or.inl ⟨by rfl, fun wx hSw => ?_⟩) (by assumption) ?_
  · obtain ⟨s0, s1, s2, s3, s4⟩ := hSw
    go_simp
  change Kg.wpAnyE _ _ _ _ _ _ _ _ (Act.put _ (some 25) (.int .i64 (e.1 : Nat))) _
  simp only [Act.put, List.setIfInBounds_toArray, List.set_cons_zero, List.set_cons_succ]
  refine Kg.wpAnyE_take (i := 12) (v := (.pointer (some ⟨R, e.1, none⟩))) (by kernel_rfl) (by decide) rfl (by kernel_rfl) (by kernel_rfl) (by kernel_rfl) (fun _ _ _ h => h) (Or.inl ⟨by rfl, fun wx hSw => ?_⟩) (by assumption) ?_
  · obtain ⟨s0, s1, s2, s3, s4⟩ := hSw
    go_simp
  change Kg.wpAnyE _ _ _ _ _ _ _ _ (Act.put _ (some 26) (.pointer (some ⟨R, e.1, none⟩))) _
  simp only [Act.put, List.setIfInBounds_toArray, List.set_cons_zero, List.set_cons_succ]
  refine Kg.wpAnyE_take (i := 13) (v := (.slice va ln vc)) (by kernel_rfl) (by decide) rfl (by kernel_rfl) (by kernel_rfl) (by kernel_rfl) (fun _ _ _ h => h) (Or.inl ⟨by rfl, fun wx hSw => ?_⟩) (by assumption) ?_
  · obtain ⟨s0, s1, s2, s3, s4⟩ := hSw
    go_simp
  change Kg.wpAnyE _ _ _ _ _ _ _ _ (Act.put _ (some 27) (.slice va ln vc)) _
  simp only [Act.put, List.setIfInBounds_toArray, List.set_cons_zero, List.set_cons_succ]
  refine Kg.wpAnyE_take (i := 14) (v := (epv e)) (by kernel_rfl) (by decide) rfl (by kernel_rfl) (by kernel_rfl) (by kernel_rfl) (fun _ _ _ h => h) (Or.inl ⟨by rfl, fun wx hSw => ?_⟩) (by assumption) ?_
  · obtain ⟨s0, s1, s2, s3, s4⟩ := hSw
    go_simp
  change Kg.wpAnyE _ _ _ _ _ _ _ _ (Act.put _ (some 28) (epv e)) _
  simp only [Act.put, List.setIfInBounds_toArray, List.set_cons_zero, List.set_cons_succ]
  have hwd : w2.drew.heap.size = w2.heap.size := rfl
  have b2 := Below.alloc (Below.refl w2.drew.heap.size w2.drew) (Nat.le_refl _) (.cells (epc e) 156 (0, 0))
  have hS2 : (w2.drew.alloc (.cells (epc e) 156)).cell? ⟨wb, 2, none⟩ = some (.slice (some ⟨R, 0, none⟩) m m) ∧ (w2.drew.alloc (.cells (epc e) 156)).cell? ⟨X, 0, none⟩ = some (.int .i64 (e.1 : Nat)) ∧ (w2.drew.alloc (.cells (epc e) 156)).cell? ⟨X, 1, none⟩ = some (.int .i64 (e.2.1 : Nat)) ∧ (w2.drew.alloc (.cells (epc e) 156)).cell? ⟨X, 2, none⟩ = some (.int .i64 (e.2.2 : Nat)) ∧ (w2.drew.alloc (.cells (epc e) 156)).cell? ⟨R, e.1, none⟩ = some (.slice va ln vc) :=
    ⟨(b2.cell (p := ⟨wb, 2, none⟩) hWlt).trans hHeld.1, (b2.cell (p := ⟨X, 0, none⟩) hXlt).trans hHeld.2.1, (b2.cell (p := ⟨X, 1, none⟩) hXlt).trans hHeld.2.2.1, (b2.cell (p := ⟨X, 2, none⟩) hXlt).trans hHeld.2.2.2.1, (b2.cell (p := ⟨R, e.1, none⟩) hRlt).trans hHeld.2.2.2.2⟩
  refine Kg.wpAnyE_one (i := 15) (by kernel_rfl) rfl (fun K hK => ?_)
  go_simp
  refine hK.out _ _ hS2 (fun hHeld2 => ?_)
  clear hK K hHeld
  have hWd : Wb w2.drew B wb R m vw v1 vs (P ++ [e]) L := HW2.out.keep (Kg.Touch.drew [] w2) (fun _ _ => List.not_mem_nil)
  have HRow : Hid ((w2.drew.alloc (.cells (epc e) 156)).ownsRow B 156 3 (.slice va ln vc) ln (epl (L e.1))) := by
    have h9 := Kg.row_keep2 (G := []) (hWd.l.l e.1 hf0) (Kg.Touch.alloc _ _ (.cells (epc e) 156)) (fun _ _ => List.not_mem_nil)
    rw [HEV.out, ← HLN.out] at h9
    exact h9
  refine Kg.wpAnyE_one (i := 16) (by kernel_rfl) rfl (fun K hK => ?_)
  refine step_append_own_at rfl (.tmp 27) (.tmp 29) 101 rfl B 156 i0 (.agg #[.int .i64 0, .int .i64 0, .int .i64 0]) 3 24 Tryz.underlying101 HI.out.1 HI.out.2.1 HI.out.2.2.1 HI.out.2.2.2 rfl (by decide) (.slice va ln vc) ln (epl (L e.1)) rfl HRow.out ⟨w2.drew.heap.size, 0, none⟩ 1 1 (epc e).toList rfl rfl (cells_new17 _ _ _) (by simp [Value.oneCell']) (by simp only [maxLen]; omega) (by omega) (by have := HBS.out; simp; omega) ?_
  intro v8 w8 h8 g8 e8
  obtain ⟨a8, c8, ev8, hp2', hp3', HN⟩ := hWd.part hf0 (by rw [← HLN.out]; exact h8) (by rw [HEV.out]; exact g8) (by rw [HEV.out]; exact e8)
  rw [← HLN.out] at ev8
  subst ev8
  have t9 : Kg.Touch (Value.slice va ln vc).ownBlock.toList w2.drew w8 := (Kg.Touch.alloc _ _ _).trans (Kg.Touch.grown g8 (fun k hk => by rw [Option.mem_toList]; exact hk.symm ▸ rfl))
  have hown : wb ∉ (Value.slice va ln vc).ownBlock.toList ∧ X ∉ (Value.slice va ln vc).ownBlock.toList := by
    refine ⟨fun hm => ?_, fun hm => ?_⟩
    · rw [Option.mem_toList, ← HEV.out] at hm
      exact hWd.nR (mem_llF.2 (.inr ⟨_, hf0, hm⟩))
    · rw [Option.mem_toList, ← HEV.out] at hm
      exact HXF.out (mem_wbF.2 (.inr (.inr (mem_llF.2 (.inr ⟨_, hf0, hm⟩)))))
  have hS3 : (w8).cell? ⟨wb, 2, none⟩ = some (.slice (some ⟨R, 0, none⟩) m m) ∧ (w8).cell? ⟨X, 0, none⟩ = some (.int .i64 (e.1 : Nat)) ∧ (w8).cell? ⟨X, 1, none⟩ = some (.int .i64 (e.2.1 : Nat)) ∧ (w8).cell? ⟨X, 2, none⟩ = some (.int .i64 (e.2.2 : Nat)) ∧ (w8).cell? ⟨R, e.1, none⟩ = some (.slice va ln vc) :=
    ⟨(touch_cell t9 hWlt hown.1 2).trans ((b2.cell (p := ⟨wb, 2, none⟩) hWlt).symm.trans hHeld2.1), (touch_cell t9 hXlt hown.2 0).trans ((b2.cell (p := ⟨X, 0, none⟩) hXlt).symm.trans hHeld2.2.1), (touch_cell t9 hXlt hown.2 1).trans ((b2.cell (p := ⟨X, 1, none⟩) hXlt).symm.trans hHeld2.2.2.1), (touch_cell t9 hXlt hown.2 2).trans ((b2.cell (p := ⟨X, 2, none⟩) hXlt).symm.trans hHeld2.2.2.2.1), by rw [← HEV.out]; exact hp2'⟩
  refine hK.out _ _ hS3 (fun hHeld3 => ?_)
  clear hK K hHeld2 hS2 h8 g8 e8 HRow t9 hown b2
  change Kg.wpAnyE _ _ _ _ _ _ _ _ (Act.put _ (some 30) (.slice a8 (ln + 1) c8)) _
  simp only [Act.put, List.setIfInBounds_toArray, List.set_cons_zero, List.set_cons_succ]
  refine Kg.wpAnyE_take (i := 17) (v := (.pointer (some ⟨R, e.1, none⟩))) (by kernel_rfl) (by decide) rfl (by kernel_rfl) (by kernel_rfl) (by kernel_rfl) (fun _ _ _ h => h) (Or.inl ⟨by rfl, fun wx hSw => ?_⟩) (by assumption) ?_
  · obtain ⟨s0, s1, s2, s3, s4⟩ := hSw
    go_simp
  change Kg.wpAnyE _ _ _ _ _ _ _ _ (Act.put _ (some 31) (.pointer (some ⟨R, e.1, none⟩))) _
  simp only [Act.put, List.setIfInBounds_toArray, List.set_cons_zero, List.set_cons_succ]
  refine Kg.wpAnyE_last (by kernel_rfl) (by kernel_rfl) rfl (fun K hK => ?_)
  have s4 := hHeld3.2.2.2.2
  clear hHeld3 hS3
  go_simp
  refine hK.out _ _ ?_
  clear hK K
  obtain ⟨f1, f2, f3⟩ := HN.out
  have f2' := (Kg.Touch.drew _ w2).trans f2
  obtain ⟨vs3, hvs3⟩ : ∃ vs3 : Nat → Value, vs3 = fun j => if j = e.1 then .slice a8 (ln + 1) c8 else vs j := ⟨_, rfl⟩
  rw [← hvs3] at f1 f3
  have HW3 : Hid (Wb (w8.setCell ⟨R, e.1, none⟩ (.slice a8 (ln + 1) c8)) B wb R m vw v1 vs3 (P ++ [e]) (lpt L e.1 e)) := f1
  have HX3 : Hid ((w8.setCell ⟨R, e.1, none⟩ (.slice a8 (ln + 1) c8)).heap[X]? = some (.cells (epc e) 156 (0, 0))) := (f2'.block X HXw.out HXF.out).trans HX.out
  have hsz2 : w.heap.size + 1 ≤ w2.heap.size := by have h1 := HXw.out; have h2 := HXe.out; omega
  have HT3 : Hid (Kg.Touch (wbF wb R m (.slice pa P.length pc) vs) w (w8.setCell ⟨R, e.1, none⟩ (.slice a8 (ln + 1) c8))) := HT2.out.then f2' (fun k hk => (HN2.out k hk).imp id (fun h => by omega))
  have HN3 : Hid (Kg.Newer (w.heap.size + 1) (wbF wb R m (.slice pa P.length pc) vs) (wbF wb R m v1 vs3)) := fun k hk => by
    rcases f3 k hk with h1 | h1
    · exact HN2.out k h1
    · exact .inr (Nat.le_trans hsz2 h1)
  have HXF3 : Hid (X ∉ wbF wb R m v1 vs3) := fun hm => by
    rcases f3 X hm with h1 | h1
    · exact HXF.out h1
    · have h2 := HXe.out
      have h3 : w2.drew.heap.size = w2.heap.size := rfl
      omega
  clear f1 f2 f3 f2' HN HW2 HX HT2 HN2 HXF hsz2 hvs3 HLN hlnb HEV hRlt hWlt hXlt s4 hwd hWd hp2' hp3' HLl HXw HBS
  generalize w8.setCell ⟨R, e.1, none⟩ (.slice a8 (ln + 1) c8) = w3 at *
  clear w8
  have HX : Hid (w3.heap[X]? = some (.cells (epc e) 156 (0, 0))) := HX3
  have HXF : Hid (X ∉ wbF wb R m v1 vs3) := HXF3
  have HXw : Hid (X < w3.heap.size) := Kg.heap_lt HX.out
  have HBS : Hid (B ≤ w3.heap.size) := Nat.le_trans HB0.out HT3.out.size
  clear HX3 HXF3
  go_upto_region 3 with fail
  obtain ⟨lnb, hlnb⟩ : ∃ lnb, lnb = ((lpt L e.1 e) e.2.1).length := ⟨_, rfl⟩
  have HLNb : Hid (lnb = ((lpt L e.1 e) e.2.1).length) := hlnb
  have hlnbb : lnb ≤ 5000000 := by have h := HLl3.out.2 e.2.1; rw [← hlnb] at h; exact h
  obtain ⟨vab, vcb, ev⟩ := own_sl17 (HW3.out.l.l e.2.1 hf1)
  rw [← hlnb] at ev
  have HEVb : Hid (vs3 e.2.1 = (.slice vab lnb vcb)) := ev
  have hRlt := HW3.out.l.lt
  have hWlt := Kg.heap_lt HW3.out.h
  have hXlt := Kg.heap_lt HX.out
  have s4 : w3.drew.cell? ⟨R, e.2.1, none⟩ = some (.slice vab lnb vcb) := by have h9 := HW3.out.l.cell (i := e.2.1) hf1; rw [ev] at h9; exact h9
  have s0 : w3.drew.cell? ⟨wb, 2, none⟩ = some (.slice (some ⟨R, 0, none⟩) m m) := Kg.heap_cell HW3.out.h 2
  have s1 : w3.drew.cell? ⟨X, 0, none⟩ = some (.int .i64 (e.1 : Nat)) := Kg.heap_cell HX.out 0
  have s2 : w3.drew.cell? ⟨X, 1, none⟩ = some (.int .i64 (e.2.1 : Nat)) := Kg.heap_cell HX.out 1
  have s3 : w3.drew.cell? ⟨X, 2, none⟩ = some (.int .i64 (e.2.2 : Nat)) := Kg.heap_cell HX.out 2
  have hfI : ((e.2.1 : Nat) : Int) < (m : Int) := by omega
  clear hlnb ev
  refine Kg.wp_region_E (S := fun w' => w'.cell? ⟨wb, 2, none⟩ = some (.slice (some ⟨R, 0, none⟩) m m) ∧ w'.cell? ⟨X, 0, none⟩ = some (.int .i64 (e.1 : Nat)) ∧ w'.cell? ⟨X, 1, none⟩ = some (.int .i64 (e.2.1 : Nat)) ∧ w'.cell? ⟨X, 2, none⟩ = some (.int .i64 (e.2.2 : Nat)) ∧ w'.cell? ⟨R, e.2.1, none⟩ = some (.slice vab lnb vcb)) 18 Kg.mixed ⟨s0, s1, s2, s3, s4⟩ (fun hHeld => ?_)
  clear s0 s1 s2 s3 s4
  refine Kg.wpAnyE_take (i := 0) (v := (.pointer (some ⟨wb, 0, none⟩))) (by kernel_rfl) (by decide) rfl (by kernel_rfl) (by kernel_rfl) (by kernel_rfl) (fun _ _ _ h => h) (Or.inl ⟨by rfl, fun wx hSw => ?_⟩) (by assumption) ?_
  · obtain ⟨s0, s1, s2, s3, s4⟩ := hSw
    go_simp
  change Kg.wpAnyE _ _ _ _ _ _ _ _ (Act.put _ (some 32) (.pointer (some ⟨wb, 0, none⟩))) _
  simp only [Act.put, List.setIfInBounds_toArray, List.set_cons_zero, List.set_cons_succ]
  refine Kg.wpAnyE_take (i := 1) (v := (.pointer (some ⟨wb, 0, none⟩))) (by kernel_rfl) (by decide) rfl (by kernel_rfl) (by kernel_rfl) (by kernel_rfl) (fun _ _ _ h => h) (Or.inl ⟨by rfl, fun wx hSw => ?_⟩) (by assumption) ?_
  · obtain ⟨s0, s1, s2, s3, s4⟩ := hSw
    go_simp
  change Kg.wpAnyE _ _ _ _ _ _ _ _ (Act.put _ (some 33) (.pointer (some ⟨wb, 0, none⟩))) _
  simp only [Act.put, List.setIfInBounds_toArray, List.set_cons_zero, List.set_cons_succ]
  refine Kg.wpAnyE_take (i := 2) (v := (.pointer (some ⟨wb, 2, none⟩))) (by kernel_rfl) (by decide) rfl (by kernel_rfl) (by kernel_rfl) (by kernel_rfl) (fun _ _ _ h => h) (Or.inl ⟨by rfl, fun wx hSw => ?_⟩) (by assumption) ?_
  · obtain ⟨s0, s1, s2, s3, s4⟩ := hSw
    go_simp
  change Kg.wpAnyE _ _ _ _ _ _ _ _ (Act.put _ (some 34) (.pointer (some ⟨wb, 2, none⟩))) _
  simp only [Act.put, List.setIfInBounds_toArray, List.set_cons_zero, List.set_cons_succ]
  refine Kg.wpAnyE_take (i := 3) (v := (.slice (some ⟨R, 0, none⟩) m m)) (by kernel_rfl) (by decide) rfl (by kernel_rfl) (by kernel_rfl) (by kernel_rfl) (fun _ _ _ h => h) (Or.inl ⟨by rfl, fun wx hSw => ?_⟩) (by assumption) ?_
  · obtain ⟨s0, s1, s2, s3, s4⟩ := hSw
    go_simp
  change Kg.wpAnyE _ _ _ _ _ _ _ _ (Act.put _ (some 35) (.slice (some ⟨R, 0, none⟩) m m)) _
  simp only [Act.put, List.setIfInBounds_toArray, List.set_cons_zero, List.set_cons_succ]
  refine Kg.wpAnyE_take (i := 4) (v := (.pointer (some ⟨X, 1, none⟩))) (by kernel_rfl) (by decide) rfl (by kernel_rfl) (by kernel_rfl) (by kernel_rfl) (fun _ _ _ h => h) (Or.inl ⟨by rfl, fun wx hSw => ?_⟩) (by assumption) ?_
  · obtain ⟨s0, s1, s2, s3, s4⟩ := hSw
    go_simp
  change Kg.wpAnyE _ _ _ _ _ _ _ _ (Act.put _ (some 36) (.pointer (some ⟨X, 1, none⟩))) _
  simp only [Act.put, List.setIfInBounds_toArray, List.set_cons_zero, List.set_cons_succ]
  refine Kg.wpAnyE_take (i := 5) (v := (.int .i64 (e.2.1 : Nat))) (by kernel_rfl) (by decide) rfl (by kernel_rfl) (by kernel_rfl) (by kernel_rfl) (fun _ _ _ h => h) (Or.inl ⟨by rfl, fun wx hSw => ?_⟩) (by assumption) ?_
  · obtain ⟨s0, s1, s2, s3, s4⟩ := hSw
    go_simp
  change Kg.wpAnyE _ _ _ _ _ _ _ _ (Act.put _ (some 37) (.int .i64 (e.2.1 : Nat))) _
  simp only [Act.put, List.setIfInBounds_toArray, List.set_cons_zero, List.set_cons_succ]
  refine Kg.wpAnyE_take (i := 6) (v := (.pointer (some ⟨wb, 0, none⟩))) (by kernel_rfl) (by decide) rfl (by kernel_rfl) (by kernel_rfl) (by kernel_rfl) (fun _ _ _ h => h) (Or.inl ⟨by rfl, fun wx hSw => ?_⟩) (by assumption) ?_
  · obtain ⟨s0, s1, s2, s3, s4⟩ := hSw
    go_simp
  change Kg.wpAnyE _ _ _ _ _ _ _ _ (Act.put _ (some 38) (.pointer (some ⟨wb, 0, none⟩))) _
  simp only [Act.put, List.setIfInBounds_toArray, List.set_cons_zero, List.set_cons_succ]
  refine Kg.wpAnyE_take (i := 7) (v := (.pointer (some ⟨wb, 0, none⟩))) (by kernel_rfl) (by decide) rfl (by kernel_rfl) (by kernel_rfl) (by kernel_rfl) (fun _ _ _ h => h) (Or.inl ⟨by rfl, fun wx hSw => ?_⟩) (by assumption) ?_
  · obtain ⟨s0, s1, s2, s3, s4⟩ := hSw
    go_simp
  change Kg.wpAnyE _ _ _ _ _ _ _ _ (Act.put _ (some 39) (.pointer (some ⟨wb, 0, none⟩))) _
  simp only [Act.put, List.setIfInBounds_toArray, List.set_cons_zero, List.set_cons_succ]
  refine Kg.wpAnyE_take (i := 8) (v := (.pointer (some ⟨wb, 2, none⟩))) (by kernel_rfl) (by decide) rfl (by kernel_rfl) (by kernel_rfl) (by kernel_rfl) (fun _ _ _ h => h) (Or.inl ⟨by rfl, fun wx hSw => ?_⟩) (by assumption) ?_
  · obtain ⟨s0, s1, s2, s3, s4⟩ := hSw
    go_simp
  change Kg.wpAnyE _ _ _ _ _ _ _ _ (Act.put _ (some 40) (.pointer (some ⟨wb, 2, none⟩))) _
  simp only [Act.put, List.setIfInBounds_toArray, List.set_cons_zero, List.set_cons_succ]
  refine Kg.wpAnyE_take (i := 9) (v := (.slice (some ⟨R, 0, none⟩) m m)) (by kernel_rfl) (by decide) rfl (by kernel_rfl) (by kernel_rfl) (by kernel_rfl) (fun _ _ _ h => h) (Or.inl ⟨by rfl, fun wx hSw => ?_⟩) (by assumption) ?_
  · obtain ⟨s0, s1, s2, s3, s4⟩ := hSw
    go_simp
  change Kg.wpAnyE _ _ _ _ _ _ _ _ (Act.put _ (some 41) (.slice (some ⟨R, 0, none⟩) m m)) _
  simp only [Act.put, List.setIfInBounds_toArray, List.set_cons_zero, List.set_cons_succ]
  refine Kg.wpAnyE_take (i := 10) (v := (.pointer (some ⟨X, 1, none⟩))) (by kernel_rfl) (by decide) rfl (by kernel_rfl) (by kernel_rfl) (by kernel_rfl) (fun _ _ _ h => h) (Or.inl ⟨by rfl, fun wx hSw => ?_⟩) (by assumption) ?_
  · obtain ⟨s0, s1, s2, s3, s4⟩ := hSw
    go_simp
  change Kg.wpAnyE _ _ _ _ _ _ _ _ (Act.put _ (some 42) (.pointer (some ⟨X, 1, none⟩))) _
  simp only [Act.put, List.setIfInBounds_toArray, List.set_cons_zero, List.set_cons_succ]
  refine Kg.wpAnyE_take (i := 11) (v := (.int .i64 (e.2.1 : Nat))) (by kernel_rfl) (by decide) rfl (by kernel_rfl) (by kernel_rfl) (by kernel_rfl) (fun _ _ _ h => h) (Or.inl ⟨by rfl, fun wx hSw => ?_⟩) (by assumption) ?_
  · obtain ⟨s0, s1, s2, s3, s4⟩ := hSw
    go_simp
  change Kg.wpAnyE _ _ _ _ _ _ _ _ (Act.put _ (some 43) (.int .i64 (e.2.1 : Nat))) _
  simp only [Act.put, List.setIfInBounds_toArray, List.set_cons_zero, List.set_cons_succ]
  refine Kg.wpAnyE_take (i := 12) (v := (.pointer (some ⟨R, e.2.1, none⟩))) (by kernel_rfl) (by decide) rfl (by kernel_rfl) (by kernel_rfl) (by kernel_rfl) (fun _ _ _ h => h) (Or.inl ⟨by rfl, fun wx hSw => ?_⟩) (by assumption) ?_
  · obtain ⟨s0, s1, s2, s3, s4⟩ := hSw
    go_simp
  change Kg.wpAnyE _ _ _ _ _ _ _ _ (Act.put _ (some 44) (.pointer (some ⟨R, e.2.1, none⟩))) _
  simp only [Act.put, List.setIfInBounds_toArray, List.set_cons_zero, List.set_cons_succ]
  refine Kg.wpAnyE_take (i := 13) (v := (.slice vab lnb vcb)) (by kernel_rfl) (by decide) rfl (by kernel_rfl) (by kernel_rfl) (by kernel_rfl) (fun _ _ _ h => h) (Or.inl ⟨by rfl, fun wx hSw => ?_⟩) (by assumption) ?_
  · obtain ⟨s0, s1, s2, s3, s4⟩ := hSw
    go_simp
  change Kg.wpAnyE _ _ _ _ _ _ _ _ (Act.put _ (some 45) (.slice vab lnb vcb)) _
  simp only [Act.put, List.setIfInBounds_toArray, List.set_cons_zero, List.set_cons_succ]
  refine Kg.wpAnyE_take (i := 14) (v := (epv e)) (by kernel_rfl) (by decide) rfl (by kernel_rfl) (by kernel_rfl) (by kernel_rfl) (fun _ _ _ h => h) (Or.inl ⟨by rfl, fun wx hSw => ?_⟩) (by assumption) ?_
  · obtain ⟨s0, s1, s2, s3, s4⟩ := hSw
    go_simp
  change Kg.wpAnyE _ _ _ _ _ _ _ _ (Act.put _ (some 46) (epv e)) _
  simp only [Act.put, List.setIfInBounds_toArray, List.set_cons_zero, List.set_cons_succ]
  have hwd : w3.drew.heap.size = w3.heap.size := rfl
  have b2 := Below.alloc (Below.refl w3.drew.heap.size w3.drew) (Nat.le_refl _) (.cells (epc e) 156 (0, 0))
  have hS2 : (w3.drew.alloc (.cells (epc e) 156)).cell? ⟨wb, 2, none⟩ = some (.slice (some ⟨R, 0, none⟩) m m) ∧ (w3.drew.alloc (.cells (epc e) 156)).cell? ⟨X, 0, none⟩ = some (.int .i64 (e.1 : Nat)) ∧ (w3.drew.alloc (.cells (epc e) 156)).cell? ⟨X, 1, none⟩ = some (.int .i64 (e.2.1 : Nat)) ∧ (w3.drew.alloc (.cells (epc e) 156)).cell? ⟨X, 2, none⟩ = some (.int .i64 (e.2.2 : Nat)) ∧ (w3.drew.alloc (.cells (epc e) 156)).cell? ⟨R, e.2.1, none⟩ = some (.slice vab lnb vcb) :=
    ⟨(b2.cell (p := ⟨wb, 2, none⟩) hWlt).trans hHeld.1, (b2.cell (p := ⟨X, 0, none⟩) hXlt).trans hHeld.2.1, (b2.cell (p := ⟨X, 1, none⟩) hXlt).trans hHeld.2.2.1, (b2.cell (p := ⟨X, 2, none⟩) hXlt).trans hHeld.2.2.2.1, (b2.cell (p := ⟨R, e.2.1, none⟩) hRlt).trans hHeld.2.2.2.2⟩
  refine Kg.wpAnyE_one (i := 15) (by kernel_rfl) rfl (fun K hK => ?_)
  go_simp
  refine hK.out _ _ hS2 (fun hHeld2 => ?_)
  clear hK K hHeld
  have hWd : Wb w3.drew B wb R m vw v1 vs3 (P ++ [e]) (lpt L e.1 e) := HW3.out.keep (Kg.Touch.drew [] w3) (fun _ _ => List.not_mem_nil)
  have HRow : Hid ((w3.drew.alloc (.cells (epc e) 156)).ownsRow B 156 3 (.slice vab lnb vcb) lnb (epl ((lpt L e.1 e) e.2.1))) := by
    have h9 := Kg.row_keep2 (G := []) (hWd.l.l e.2.1 hf1) (Kg.Touch.alloc _ _ (.cells (epc e) 156)) (fun _ _ => List.not_mem_nil)
    rw [HEVb.out, ← HLNb.out] at h9
    exact h9
  refine Kg.wpAnyE_one (i := 16) (by kernel_rfl) rfl (fun K hK => ?_)
  refine step_append_own_at rfl (.tmp 45) (.tmp 47) 101 rfl B 156 i0 (.agg #[.int .i64 0, .int .i64 0, .int .i64 0]) 3 24 Tryz.underlying101 HI.out.1 HI.out.2.1 HI.out.2.2.1 HI.out.2.2.2 rfl (by decide) (.slice vab lnb vcb) lnb (epl ((lpt L e.1 e) e.2.1)) rfl HRow.out ⟨w3.drew.heap.size, 0, none⟩ 1 1 (epc e).toList rfl rfl (cells_new17 _ _ _) (by simp [Value.oneCell']) (by simp only [maxLen]; omega) (by omega) (by have := HBS.out; simp; omega) ?_
  intro v8b w8b h8 g8 e8
  obtain ⟨a8b, c8b, ev8, hp2', hp3', HN⟩ := hWd.part hf1 (by rw [← HLNb.out]; exact h8) (by rw [HEVb.out]; exact g8) (by rw [HEVb.out]; exact e8)
  rw [← HLNb.out] at ev8
  subst ev8
  have t9 : Kg.Touch (Value.slice vab lnb vcb).ownBlock.toList w3.drew w8b := (Kg.Touch.alloc _ _ _).trans (Kg.Touch.grown g8 (fun k hk => by rw [Option.mem_toList]; exact hk.symm ▸ rfl))
  have hown : wb ∉ (Value.slice vab lnb vcb).ownBlock.toList ∧ X ∉ (Value.slice vab lnb vcb).ownBlock.toList := by
    refine ⟨fun hm => ?_, fun hm => ?_⟩
    · rw [Option.mem_toList, ← HEVb.out] at hm
      exact hWd.nR (mem_llF.2 (.inr ⟨_, hf1, hm⟩))
    · rw [Option.mem_toList, ← HEVb.out] at hm
      exact HXF.out (mem_wbF.2 (.inr (.inr (mem_llF.2 (.inr ⟨_, hf1, hm⟩)))))
  have hS3 : (w8b).cell? ⟨wb, 2, none⟩ = some (.slice (some ⟨R, 0, none⟩) m m) ∧ (w8b).cell? ⟨X, 0, none⟩ = some (.int .i64 (e.1 : Nat)) ∧ (w8b).cell? ⟨X, 1, none⟩ = some (.int .i64 (e.2.1 : Nat)) ∧ (w8b).cell? ⟨X, 2, none⟩ = some (.int .i64 (e.2.2 : Nat)) ∧ (w8b).cell? ⟨R, e.2.1, none⟩ = some (.slice vab lnb vcb) :=
    ⟨(touch_cell t9 hWlt hown.1 2).trans ((b2.cell (p := ⟨wb, 2, none⟩) hWlt).symm.trans hHeld2.1), (touch_cell t9 hXlt hown.2 0).trans ((b2.cell (p := ⟨X, 0, none⟩) hXlt).symm.trans hHeld2.2.1), (touch_cell t9 hXlt hown.2 1).trans ((b2.cell (p := ⟨X, 1, none⟩) hXlt).symm.trans hHeld2.2.2.1), (touch_cell t9 hXlt hown.2 2).trans ((b2.cell (p := ⟨X, 2, none⟩) hXlt).symm.trans hHeld2.2.2.2.1), by rw [← HEVb.out]; exact hp2'⟩
  refine hK.out _ _ hS3 (fun hHeld3 => ?_)
  clear hK K hHeld2 hS2 h8 g8 e8 HRow t9 hown b2
  change Kg.wpAnyE _ _ _ _ _ _ _ _ (Act.put _ (some 48) (.slice a8b (lnb + 1) c8b)) _
  simp only [Act.put, List.setIfInBounds_toArray, List.set_cons_zero, List.set_cons_succ]
  refine Kg.wpAnyE_take (i := 17) (v := (.pointer (some ⟨R, e.2.1, none⟩))) (by kernel_rfl) (by decide) rfl (by kernel_rfl) (by kernel_rfl) (by kernel_rfl) (fun _ _ _ h => h) (Or.inl ⟨by rfl, fun wx hSw => ?_⟩) (by assumption) ?_
  · obtain ⟨s0, s1, s2, s3, s4⟩ := hSw
    go_simp
  change Kg.wpAnyE _ _ _ _ _ _ _ _ (Act.put _ (some 49) (.pointer (some ⟨R, e.2.1, none⟩))) _
  simp only [Act.put, List.setIfInBounds_toArray, List.set_cons_zero, List.set_cons_succ]
  refine Kg.wpAnyE_last (by kernel_rfl) (by kernel_rfl) rfl (fun K hK => ?_)
  have s4 := hHeld3.2.2.2.2
  clear hHeld3 hS3
  go_simp
  refine hK.out _ _ ?_
  clear hK K
  obtain ⟨f1, f2, f3⟩ := HN.out
  have f2' := (Kg.Touch.drew _ w3).trans f2
  have hsz3 : w.heap.size ≤ w3.heap.size := HT3.out.size
  have HZ : Hid (∃ vp' vs', Wb (w8b.setCell ⟨R, e.2.1, none⟩ (.slice a8b (lnb + 1) c8b)) B wb R m vw vp' vs' (P ++ [e]) (lpt (lpt L e.1 e) e.2.1 e) ∧ Kg.Touch (wbF wb R m (.slice pa P.length pc) vs) w (w8b.setCell ⟨R, e.2.1, none⟩ (.slice a8b (lnb + 1) c8b)) ∧ Kg.Newer w.heap.size (wbF wb R m (.slice pa P.length pc) vs) (wbF wb R m vp' vs')) :=
    ⟨_, _, f1, HT3.out.then f2' (fun k hk => (HN3.out k hk).imp id (fun h => by omega)), fun k hk => by
      rcases f3 k hk with h1 | h1
      · exact (HN3.out k h1).imp id (fun h => by omega)
      · exact .inr (Nat.le_trans hsz3 h1)⟩
  clear f1 f2 f3 f2' HN
  generalize w8b.setCell ⟨R, e.2.1, none⟩ (.slice a8b (lnb + 1) c8b) = w9 at *
  go_wp2
  go_end0
  exact ⟨rfl, HZ.out⟩
end Go.Proofs.YtkekaifiahjljaaGreatDoor
