import Derived.Test.YtkekaifiahjljaaGreatDoorC26
import Derived.Test.YtkekaifiahjljaaGreatDoorC13
import Derived.Test.YtkekaifiahjljaaGreatDoorC14
set_option linter.unusedVariables false
set_option maxHeartbeats 8000000
set_option maxRecDepth 20000
namespace Go.Proofs.YtkekaifiahjljaaGreatDoor
open Go.RowKit Go.Shelf Go.Proofs.YtkekaifiahjljaaGreatDoor.Lt
structure Tre (W : Nat → List Nat) (m : Nat) (ord : List Nat) (f : Nat → Int) : Prop where
  d : ∃ (par S I : Nat → Nat), Df W ord par [] ∧ Lt.Sem (Ed W ord) ord.length S ∧ Idm par ord.length S I ∧ I 0 = 0 ∧ ∀ (v : Nat) x i, ord[v]? = some x → ord[I v]? = some i → f x = (i : Nat)
  o : ∀ y, y ∈ ord → y < m
  n : ∀ x, x ∉ ord → f x = -1
set_option maxHeartbeats 16000000 in
theorem treeOf_any (n0 m T : Nat) (hT : T ≤ 1000000000) (hm0 : 1 ≤ m) (hm : m ≤ 2000000) (W : Nat → List Nat) (hWm : ∀ i, i < m → ∀ y, y ∈ W i → y < m) (hTT : ((List.range m).map (fun a => (W a).length)).sum ≤ T) (v : Value) (w : World) (hW : Wys n0 w v m W) (hn0 : n0 ≤ w.heap.size) :
    Calls Tryz.prog 28 #[v] w fun e w' => ∃ (v0 : Value) (ab : Nat), e = .returned (.agg #[v0, .slice (some ⟨ab, 0, none⟩) m m]) ∧ w.heap.size ≤ ab ∧ Below w.heap.size w w' ∧ ∃ (ord : List Nat) (f : Nat → Int), Il w' w.heap.size v0 (ord.map Int.ofNat) ∧ Fy w' ab m f ∧ Tre W m ord f := by
  obtain ⟨wq, wk0, rfl, hwq, hwr⟩ := id hW
  have b0 := Below.alloc (Below.refl w.heap.size w) (Nat.le_refl _) (.cells #[.slice none 0 0, .slice none 0 0] 72 (0, 0))
  have h0 := heap_alloc_new w (.cells #[.slice none 0 0, .slice none 0 0] 72 (0, 0))
  have qd := goDeep_any n0 m T hT hm0 hm W hWm hTT (.slice (some ⟨wq, 0, none⟩) m wk0) (w.alloc (.cells #[.slice none 0 0, .slice none 0 0] 72)) (hW.below (b0.mono hn0)) (Nat.le_trans hn0 b0.size)
  clear hW hwr hWm hTT
  go_enter Tryz.func28, Tryz.ntmps28
  go_upto_region 1 with fail
  have HB0 : Hid (Below w.heap.size w (w.alloc (.cells #[.slice none 0 0, .slice none 0 0] 72))) := b0
  have HH0 : Hid ((w.alloc (.cells #[.slice none 0 0, .slice none 0 0] 72)).heap[w.heap.size]? = some (.cells #[.slice none 0 0, .slice none 0 0] 72 (0, 0))) := h0
  clear b0 h0
  generalize w.alloc (.cells #[.slice none 0 0, .slice none 0 0] 72) = w0 at *
  go_wp2_with fail
  refine qd.mono ?_
  rintro e w5 ⟨A, pb, v0, v2, ord, par, Rb, vs, L, rfl, hDf, hom, hdw, hll, hLE, hLT, b5⟩
  obtain ⟨a0, c0, e0⟩ := own_sl17 hdw.s
  rw [List.length_map] at e0
  subst e0
  have hnd : ord.length ≤ m := by
    have h1 := sum_sub (fun _ => 1) ord (List.range m) hDf.nd (fun y hy => List.mem_range.2 (hom y hy))
    rw [sum_one, sum_one, List.length_range] at h1
    exact h1
  have HDf : Hid (Df W ord par []) := hDf
  have HOM : Hid (∀ y, y ∈ ord → y < m) := hom
  have HDW : Hid (Dw w5 w0.heap.size A pb m (.slice a0 ord.length c0) v2 ord ((List.range ord.length).map par) Rb) := hdw
  have HLL : Hid (Ll w5 w0.heap.size Rb ord.length vs (fun q => (L q).map Int.ofNat)) := hll
  have HLE : Hid (∀ q x, x ∈ L q ↔ Ed W ord x q) := hLE
  have HLT : Hid (∀ q, (L q).length ≤ T) := hLT
  have HB5 : Hid (Below w0.heap.size w0 w5) := b5
  have HAw : Hid (A < w5.heap.size) := Kg.heap_lt hdw.h
  have x0 : w5.cell? ⟨A, 0, none⟩ = some (.slice a0 ord.length c0) := Kg.heap_cell hdw.h 0
  have HNB : Hid (∀ w, Calls Tryz.prog 51 #[.int .i64 (m : Nat)] w fun e w' => ∃ fb, e = .returned (.slice (some ⟨fb, 0, none⟩) m m) ∧ w.heap.size ≤ fb ∧ Fz w' fb m (fun _ => -1) ∧ Below w.heap.size w w') := fun w => nobodies_any m w hm0 hm
  clear qd hDf hom hdw hll hLE hLT b5 hwq hn0
  go_upto_region 2 with fail
  go_cut [4] from 9 to 16 (fun v4 wq => ∃ X ab, v4 = .pointer (some ⟨X, 0, none⟩) ∧ Hid (w5.heap.size ≤ X ∧ w5.heap.size ≤ ab ∧ X ≠ ab) ∧ Hid (wq.heap[X]? = some (.cells #[.slice a0 ord.length c0, .slice (some ⟨ab, 0, none⟩) m m] 72 (0, 0))) ∧ Hid (Fy wq ab m (fun _ => -1)) ∧ Hid (Below w5.heap.size w5 wq))
  case first =>
    refine wp_region_held_drew (S := fun w' => w'.cell? ⟨A, 0, none⟩ = some (.slice a0 ord.length c0)) Kg.mixed x0 (fun hHeld => ?_)
    clear x0
    refine wpAnyH_take (i := 0) (v := (.pointer (some ⟨A, 0, none⟩))) rfl (by kernel_rfl) (by kernel_rfl) (by kernel_rfl) (fun _ _ _ h => h) (Or.inl ⟨by rfl, fun wx hSw => ?_⟩) (by assumption) ?_
    · go_simp
    change wpAnyH _ _ _ _ _ _ _ (Act.put _ (some 9) (.pointer (some ⟨A, 0, none⟩))) _
    simp only [Act.put, List.setIfInBounds_toArray, List.set_cons_zero, List.set_cons_succ]
    refine wpAnyH_take (i := 1) (v := (.pointer (some ⟨A, 0, none⟩))) rfl (by kernel_rfl) (by kernel_rfl) (by kernel_rfl) (fun _ _ _ h => h) (Or.inl ⟨by rfl, fun wx hSw => ?_⟩) (by assumption) ?_
    · go_simp
    change wpAnyH _ _ _ _ _ _ _ (Act.put _ (some 10) (.pointer (some ⟨A, 0, none⟩))) _
    simp only [Act.put, List.setIfInBounds_toArray, List.set_cons_zero, List.set_cons_succ]
    refine wpAnyH_take (i := 2) (v := (.pointer (some ⟨A, 0, none⟩))) rfl (by kernel_rfl) (by kernel_rfl) (by kernel_rfl) (fun _ _ _ h => h) (Or.inl ⟨by rfl, fun wx hSw => ?_⟩) (by assumption) ?_
    · go_simp
    change wpAnyH _ _ _ _ _ _ _ (Act.put _ (some 11) (.pointer (some ⟨A, 0, none⟩))) _
    simp only [Act.put, List.setIfInBounds_toArray, List.set_cons_zero, List.set_cons_succ]
    refine wpAnyH_take (i := 3) (v := (.slice a0 ord.length c0)) rfl (by kernel_rfl) (by kernel_rfl) (by kernel_rfl) (fun _ _ _ h => h) (Or.inl ⟨by rfl, fun wx hSw => ?_⟩) (by assumption) ?_
    · go_simp
    change wpAnyH _ _ _ _ _ _ _ (Act.put _ (some 12) (.slice a0 ord.length c0)) _
    simp only [Act.put, List.setIfInBounds_toArray, List.set_cons_zero, List.set_cons_succ]
    refine wpAnyH_take (i := 4) (v := (.slice (some ⟨wq, 0, none⟩) m wk0)) rfl (by kernel_rfl) (by kernel_rfl) (by kernel_rfl) (fun _ _ _ h => h) (Or.inl ⟨by rfl, fun wx hSw => ?_⟩) (by assumption) ?_
    · go_simp
    change wpAnyH _ _ _ _ _ _ _ (Act.put _ (some 13) (.slice (some ⟨wq, 0, none⟩) m wk0)) _
    simp only [Act.put, List.setIfInBounds_toArray, List.set_cons_zero, List.set_cons_succ]
    refine wpAnyH_take (i := 5) (v := (.int .i64 (m : Nat))) rfl (by kernel_rfl) (by kernel_rfl) (by kernel_rfl) (fun _ _ _ h => h) (Or.inl ⟨by rfl, fun wx hSw => ?_⟩) (by assumption) ?_
    · go_simp
    change wpAnyH _ _ _ _ _ _ _ (Act.put _ (some 14) (.int .i64 (m : Nat))) _
    simp only [Act.put, List.setIfInBounds_toArray, List.set_cons_zero, List.set_cons_succ]
    refine wpAnyH_ready (rs := [6, 8]) (by kernel_rfl) (by simp) (AllReadyH.cons rfl (fun K hK => ?_) (AllReadyH.cons rfl (fun K hK => ?_) AllReadyH.nil))
    · go_simp
      refine (HNB.out _).mono ?_
      rintro e w6 ⟨fb, rfl, hfb, hf6, hb6⟩
      refine hK.out _ _ ((hb6.cell (p := ⟨A, 0, none⟩) HAw.out).trans hHeld) (fun hHeld2 => ?_)
      clear hK K
      refine wpAnyH_take (i := 7) (v := (.agg #[.slice a0 ord.length c0, .slice (some ⟨fb, 0, none⟩) m m])) rfl (by kernel_rfl) (by kernel_rfl) (by kernel_rfl) (fun _ _ _ h => h) (Or.inl ⟨by rfl, fun wx hSw => ?_⟩) (by assumption) ?_
      · go_simp
      change wpAnyH _ _ _ _ _ _ _ (Act.put _ (some 16) (.agg #[.slice a0 ord.length c0, .slice (some ⟨fb, 0, none⟩) m m])) _
      simp only [Act.put, List.setIfInBounds_toArray, List.set_cons_zero, List.set_cons_succ]
      refine wpAnyH_ready (rs := [8]) (by kernel_rfl) (by simp) (AllReadyH.cons rfl (fun K hK => ?_) AllReadyH.nil)
      go_simp
      have hb6' : Below w5.heap.size w5 w6 := (below_drewN (Below.refl w5.heap.size w5) 1).trans hb6
      have hb7 : Below w5.heap.size w5 (w6.alloc (.cells #[.slice none 0 0, .slice none 0 0] 72)) := hb6'.trans ((Below.alloc (Below.refl w6.heap.size w6) (Nat.le_refl _) _).mono hb6'.size)
      have hX := heap_alloc_new w6 (.cells #[.slice none 0 0, .slice none 0 0] 72 (0, 0))
      have hf7 : Fy (w6.alloc (.cells #[.slice none 0 0, .slice none 0 0] 72)) fb m (fun _ => -1) := (Fz.fy hf6).touch (Kg.Touch.alloc [] _ _) (by simp)
      have hXs : w5.heap.size ≤ w6.heap.size := hb6'.size
      have hne : w6.heap.size ≠ fb := fun e => by have := hf6.lt; omega
      have hfs : w5.heap.size ≤ fb := hfb
      clear hf6 hb6 hb6' hfb
      obtain ⟨X, hXe⟩ : ∃ X, X = w6.heap.size := ⟨_, rfl⟩
      rw [← hXe] at hX hXs hne ⊢
      clear hXe
      generalize w6.alloc (.cells #[.slice none 0 0, .slice none 0 0] 72) = w7 at *
      refine hK.out _ _ ((hb7.cell (p := ⟨A, 0, none⟩) HAw.out).trans hHeld) (fun _ => ?_)
      clear hK K
      refine wpAnyH_ready (rs := [9]) (by kernel_rfl) (by simp) (AllReadyH.cons rfl (fun K hK => ?_) AllReadyH.nil)
      rw [if_pos (by rfl)]
      refine wp_store_row 72 (.tmp 4) (.tmp 16) rfl X #[.slice a0 ord.length c0, .slice (some ⟨fb, 0, none⟩) m m] rfl rfl 72 _ hX (by kernel_rfl) rfl (by simp [Value.oneCell']) ?_
      have hX2 : (w7.setRow X #[.slice a0 ord.length c0, .slice (some ⟨fb, 0, none⟩) m m]).heap[X]? = some (.cells #[.slice a0 ord.length c0, .slice (some ⟨fb, 0, none⟩) m m] 72 (0, 0)) := setRow_heap _ _ _ _ _ _ hX
      have tX : Kg.Touch [X] w7 (w7.setRow X #[.slice a0 ord.length c0, .slice (some ⟨fb, 0, none⟩) m m]) := ⟨rfl, rfl, rfl, by simp, fun k _ hk => setRow_other w7 _ k _ (fun e => hk (by rw [e]; simp))⟩
      have hf2 := hf7.touch tX (by simpa using hne.symm)
      have b8 : Below w5.heap.size w5 (w7.setRow X #[.slice a0 ord.length c0, .slice (some ⟨fb, 0, none⟩) m m]) := hb7.trans (tX.below hb7.size (fun k hk => by rw [List.mem_singleton.1 hk]; exact hXs))
      clear hX hf7 hb7 tX
      generalize w7.setRow X #[.slice a0 ord.length c0, .slice (some ⟨fb, 0, none⟩) m m] = w8 at *
      refine hK.out _ _ ((b8.cell (p := ⟨A, 0, none⟩) HAw.out).trans hHeld) (fun _ => ?_)
      clear hK K
      change wpAnyH _ _ _ _ _ _ _ (Act.put _ none undef) _
      simp only [Act.put]
      refine wpAnyH_done (by kernel_rfl) ?_ _
      have HR : Hid (w5.heap.size ≤ X ∧ w5.heap.size ≤ fb ∧ X ≠ fb) := ⟨hXs, hfs, hne⟩
      have HR2 : Hid (w8.heap[X]? = some (.cells #[.slice a0 ord.length c0, .slice (some ⟨fb, 0, none⟩) m m] 72 (0, 0))) := hX2
      have HR3 : Hid (Fy w8 fb m (fun _ => -1)) := hf2
      have HR4 : Hid (Below w5.heap.size w5 w8) := b8
      clear hX2 hf2 b8 hXs hfs hne hHeld
      go_wp2_with fail
      go_meet
      exact ⟨X, fb, rfl, HR, HR2, HR3, HR4⟩
    · go_simp
      have hb6 : Below w5.heap.size w5 (w5.alloc (.cells #[.slice none 0 0, .slice none 0 0] 72)).drew := below_drewN (Below.alloc (Below.refl w5.heap.size w5) (Nat.le_refl _) _) 1
      have hX6 : (w5.alloc (.cells #[.slice none 0 0, .slice none 0 0] 72)).drew.heap[w5.heap.size]? = some (.cells #[.slice none 0 0, .slice none 0 0] 72 (0, 0)) := heap_alloc_new w5 _
      obtain ⟨X, hXe⟩ : ∃ X, X = w5.heap.size := ⟨_, rfl⟩
      have hXs : w5.heap.size ≤ X := by omega
      rw [← hXe] at hX6
      change K _ (w5.alloc (.cells #[.slice none 0 0, .slice none 0 0] 72)).drew
      rw [← hXe]
      clear hXe
      generalize (w5.alloc (.cells #[.slice none 0 0, .slice none 0 0] 72)).drew = w6 at *
      refine hK.out _ _ ((hb6.cell (p := ⟨A, 0, none⟩) HAw.out).trans hHeld) (fun _ => ?_)
      clear hK K
      refine wpAnyH_ready (rs := [6]) (by kernel_rfl) (by simp) (AllReadyH.cons rfl (fun K hK => ?_) AllReadyH.nil)
      go_simp
      refine (HNB.out _).mono ?_
      rintro e w7 ⟨fb, rfl, hfb, hf6, hb67⟩
      have hb7 : Below w5.heap.size w5 w7 := hb6.trans (hb67.mono hb6.size)
      have hXl := Kg.heap_lt hX6
      have hX := (hb67.block X hXl).trans hX6
      have hne : X ≠ fb := by omega
      have hfs : w5.heap.size ≤ fb := Nat.le_trans hb6.size hfb
      have hf7 := Fz.fy hf6
      refine hK.out _ _ ((hb7.cell (p := ⟨A, 0, none⟩) HAw.out).trans hHeld) (fun hHeld2 => ?_)
      clear hK K hb6 hb67 hXl hX6 hf6 hfb
      refine wpAnyH_take (i := 7) (v := (.agg #[.slice a0 ord.length c0, .slice (some ⟨fb, 0, none⟩) m m])) rfl (by kernel_rfl) (by kernel_rfl) (by kernel_rfl) (fun _ _ _ h => h) (Or.inl ⟨by rfl, fun wx hSw => ?_⟩) (by assumption) ?_
      · go_simp
      change wpAnyH _ _ _ _ _ _ _ (Act.put _ (some 16) (.agg #[.slice a0 ord.length c0, .slice (some ⟨fb, 0, none⟩) m m])) _
      simp only [Act.put, List.setIfInBounds_toArray, List.set_cons_zero, List.set_cons_succ]
      refine wpAnyH_ready (rs := [9]) (by kernel_rfl) (by simp) (AllReadyH.cons rfl (fun K hK => ?_) AllReadyH.nil)
      rw [if_pos (by rfl)]
      refine wp_store_row 72 (.tmp 4) (.tmp 16) rfl X #[.slice a0 ord.length c0, .slice (some ⟨fb, 0, none⟩) m m] rfl rfl 72 _ hX (by kernel_rfl) rfl (by simp [Value.oneCell']) ?_
      have hX2 : (w7.setRow X #[.slice a0 ord.length c0, .slice (some ⟨fb, 0, none⟩) m m]).heap[X]? = some (.cells #[.slice a0 ord.length c0, .slice (some ⟨fb, 0, none⟩) m m] 72 (0, 0)) := setRow_heap _ _ _ _ _ _ hX
      have tX : Kg.Touch [X] w7 (w7.setRow X #[.slice a0 ord.length c0, .slice (some ⟨fb, 0, none⟩) m m]) := ⟨rfl, rfl, rfl, by simp, fun k _ hk => setRow_other w7 _ k _ (fun e => hk (by rw [e]; simp))⟩
      have hf2 := hf7.touch tX (by simpa using hne.symm)
      have b8 : Below w5.heap.size w5 (w7.setRow X #[.slice a0 ord.length c0, .slice (some ⟨fb, 0, none⟩) m m]) := hb7.trans (tX.below hb7.size (fun k hk => by rw [List.mem_singleton.1 hk]; exact hXs))
      clear hX hf7 hb7 tX
      generalize w7.setRow X #[.slice a0 ord.length c0, .slice (some ⟨fb, 0, none⟩) m m] = w8 at *
      refine hK.out _ _ ((b8.cell (p := ⟨A, 0, none⟩) HAw.out).trans hHeld) (fun _ => ?_)
      clear hK K
      change wpAnyH _ _ _ _ _ _ _ (Act.put _ none undef) _
      simp only [Act.put]
      refine wpAnyH_done (by kernel_rfl) ?_ _
      have HR : Hid (w5.heap.size ≤ X ∧ w5.heap.size ≤ fb ∧ X ≠ fb) := ⟨hXs, hfs, hne⟩
      have HR2 : Hid (w8.heap[X]? = some (.cells #[.slice a0 ord.length c0, .slice (some ⟨fb, 0, none⟩) m m] 72 (0, 0))) := hX2
      have HR3 : Hid (Fy w8 fb m (fun _ => -1)) := hf2
      have HR4 : Hid (Below w5.heap.size w5 w8) := b8
      clear hX2 hf2 b8 hXs hfs hne hHeld
      go_wp2_with fail
      go_meet
      exact ⟨X, fb, rfl, HR, HR2, HR3, HR4⟩
  case rest =>
    obtain ⟨X, ab, rfl, R1, R2, R3, R4⟩ := hcut
    apply_assumption
    have t6 := Kg.Touch.of_below R4.out []
    have qd := dominators_any m T hT hm W ord par HDf.out hnd wc w0.heap.size A pb Rb (.slice a0 ord.length c0) v2 vs L (HDW.out.keep t6 (by simp)) (HLL.out.keep t6 (by simp)) HLE.out HLT.out
    clear t6
    go_wp2_with fail
    refine qd.mono ?_
    rintro e w7 ⟨tb, rfl, htb, b7, S, I, hI, hS, hId, hI0⟩
    have HIl : Hid (∀ v, v < ord.length → ∃ i, ord[I v]? = some i) := fun v hv => by
      have h9 : I v < ord.length := by
        by_cases h0 : v = 0
        · rw [h0, hI0]; exact (List.getElem?_eq_some_iff.1 HDf.out.z).1
        · have h1 := (HDf.out.d.idom hS hId v h0 hv).1
          obtain ⟨h2, -⟩ := HDf.out.d.sem_anc hS h0 hv
          have h3 := HDf.out.d.le (by omega) h1
          omega
      exact ⟨_, List.getElem?_eq_getElem h9⟩
    have HSI : Hid (Lt.Sem (Ed W ord) ord.length S ∧ Idm par ord.length S I ∧ I 0 = 0) := ⟨hS, hId, hI0⟩
    have habl := R3.out.lt
    have HX7 : Hid (w7.heap[X]? = some (.cells #[.slice a0 ord.length c0, .slice (some ⟨ab, 0, none⟩) m m] 72 (0, 0))) := (b7.block X (Kg.heap_lt R2.out)).trans R2.out
    have HF7 : Hid (Fy w7 ab m (fun _ => -1)) := R3.out.touch (Kg.Touch.of_below b7 []) (by simp)
    have HB57 : Hid (Below w5.heap.size w5 w7) := R4.out.trans (b7.mono R4.out.size)
    have HTB : Hid (tb ≠ ab ∧ Fy w7 tb ord.length (fun x => (I x : Int))) := ⟨by omega, hI⟩
    have HA : Hid (∀ wr, Kg.Touch [ab] w7 wr → wr.heap[X]? = some (.cells #[.slice a0 ord.length c0, .slice (some ⟨ab, 0, none⟩) m m] 72 (0, 0)) ∧ wr.cell? ⟨A, 0, none⟩ = some (.slice a0 ord.length c0) ∧ (∀ (v : Nat) x, ord[v]? = some x → ∃ g off, a0 = some ⟨g, off, none⟩ ∧ wr.cell? ⟨g, off + v, none⟩ = some (.int .i64 (x : Nat))) ∧ ∀ v, v < ord.length → wr.cell? ⟨tb, v, none⟩ = some (.int .i64 (I v : Nat))) := fun wr ht => by
      have hA7 := (HB57.out.block A HAw.out).trans HDW.out.h
      have hAl := HAw.out
      have hRR := R1.out
      refine ⟨(ht.block X (Kg.heap_lt HX7.out) (by simpa using hRR.2.2)).trans HX7.out, Kg.heap_cell ((ht.block A (Kg.heap_lt hA7) (by simp; omega)).trans hA7) 0, fun v x hx => ?_, fun v hv => (HTB.out.2.touch ht (by simpa using HTB.out.1)).cell hv⟩
      obtain ⟨oa, oc, eo, -, hoc⟩ := row_at (Kg.row_base HDW.out.s (Nat.zero_le _)) (by decide)
      obtain ⟨ob, eob, h3, co⟩ := hoc v (.int .i64 (x : Nat)) (by rw [Kg.ints, List.getElem?_map, List.getElem?_map, hx]; rfl)
      simp only [Value.slice.injEq, List.length_map, true_and] at eo
      obtain ⟨rfl, rfl⟩ := eo
      refine ⟨ob, 0, eob, ?_⟩
      rw [Nat.zero_add, touch_cell ht (Nat.lt_of_lt_of_le h3 HB57.out.size) (by simp; omega), HB57.out.cell (p := ⟨ob, v, none⟩) h3]
      exact co
    clear qd b7 hI hS hId hI0 htb habl R2 R3 R4
    go_wp2
    go_loopw [5, 6, 20] (fun _ _ v20 wr => ∃ (k : Nat) (f : Nat → Int), v20 = .int .i64 (k : Nat) ∧ k ≤ ord.length ∧ Hid (Fy wr ab m f) ∧ Hid (∀ (v : Nat) x i, v < k → ord[v]? = some x → ord[I v]? = some i → f x = (i : Nat)) ∧ Hid (∀ x, x ∉ ord → f x = -1) ∧ Hid (Kg.Touch [ab] w7 wr)) (fun _ _ v20 _ => ord.length - (intOf v20).toNat)
    case atStart => exact ⟨0, _, rfl, Nat.zero_le _, HF7, fun v x i h => by omega, fun _ _ => rfl, Kg.Touch.refl _ _⟩
    case round =>
      obtain ⟨k, f, rfl, hk, Q1, Q2, Q3, Q4⟩ := hrel
      obtain ⟨hX, y0, ho, hI⟩ := HA.out wr Q4.out
      by_cases hkl : k < ord.length
      · have hki : (k : Int) < (ord.length : Int) := by omega
        obtain ⟨x, hx⟩ : ∃ x, ord[k]? = some x := ⟨_, List.getElem?_eq_getElem hkl⟩
        obtain ⟨i, hi⟩ := HIl.out k hkl
        have hil := (List.getElem?_eq_some_iff.1 hi).1
        have hii : (I k : Int) < (ord.length : Int) := by omega
        have cI := hI k hkl
        obtain ⟨g, off, rfl, cx⟩ := ho k x hx
        obtain ⟨g', off', e1, ci⟩ := ho (I k) i hi
        simp only [Option.some.injEq, Addr.mk.injEq, and_true] at e1
        obtain ⟨rfl, rfl⟩ := e1
        have hxm := HOM.out x (List.mem_of_getElem? hx)
        have hxI : (x : Int) < (m : Int) := by omega
        have y1 := Kg.heap_cell hX 1
        simp only [List.getElem?_toArray, List.getElem?_cons_zero, List.getElem?_cons_succ] at y1
        have ca := Q1.out.cell hxm
        have za := Q1.out.frozen x
        have N1 : Hid (Fy (wr.drew.setCell ⟨ab, x, none⟩ (.int .i64 (i : Nat))) ab m (fun y => if y = x then (i : Int) else f y)) := (Q1.out.touch (Kg.Touch.drew [] wr) (by simp)).set hxm (i : Nat)
        have N2 : Hid (∀ (v : Nat) y j, v < k + 1 → ord[v]? = some y → ord[I v]? = some j → (if y = x then (i : Int) else f y) = (j : Nat)) := fun v y j hv h1 h2 => by
          by_cases e : v = k
          · rw [e, hx] at h1
            rw [e, hi] at h2
            cases h1
            cases h2
            rw [if_pos rfl]
          · rw [if_neg (fun e2 => e (HDf.out.inj h1 (by rw [e2]; exact hx)))]
            exact Q2.out v y j (by omega) h1 h2
        have N3 : Hid (∀ y, y ∉ ord → (if y = x then (i : Int) else f y) = -1) := fun y hy => by
          rw [if_neg (fun e => hy (by rw [e]; exact List.mem_of_getElem? hx))]
          exact Q3.out y hy
        have N4 : Hid (Kg.Touch [ab] w7 (wr.drew.setCell ⟨ab, x, none⟩ (.int .i64 (i : Nat)))) := (Q4.out.trans (Kg.Touch.drew _ _)).trans (Kg.Touch.setCell _ _ _ (by simp))
        clear ho hI hX hx hi
        go_upto_region 6 with fail
        refine Kg.quiet_tail 17 Kg.mixed (by kernel_rfl) ?_
        simp only [List.take_succ_cons, List.take_zero, List.drop_succ_cons, List.drop_zero]
        repeat (go_big_quiet_step (fail))
        refine wpQuiet_nil ?_
        go_upto_region 7 with fail
        change Code.wp _ _ _ _ (wr.drew.setCell ⟨ab, x, none⟩ (.int .i64 (i : Nat)))
        clear y0 y1 cI cx ci ca za Q1 Q2 Q3 Q4
        generalize wr.drew.setCell ⟨ab, x, none⟩ (.int .i64 (i : Nat)) = w8 at *
        go_wp2
        go_roundw
        case rel => exact ⟨k + 1, _, by simp, by omega, N1, N2, N3, N4⟩
        case measure => simp [intOf]; omega
      · have hki : ¬ (k : Int) < (ord.length : Int) := by omega
        have hXR : X ≠ w.heap.size := by
          have h1 := Kg.heap_lt HH0.out
          have h2 := HB5.out.size
          have h3 := R1.out.1
          omega
        have y0' := Kg.heap_cell hX 0
        have y1 := Kg.heap_cell hX 1
        simp only [List.getElem?_toArray, List.getElem?_cons_zero, List.getElem?_cons_succ] at y0' y1
        have hR5 := (HB5.out.block _ (Kg.heap_lt HH0.out)).trans HH0.out
        have hR7 := (HB57.out.block _ (Kg.heap_lt hR5)).trans hR5
        have hRr := (Q4.out.block _ (Kg.heap_lt hR7) (by have h1 := Kg.heap_lt HH0.out; have h2 := HB5.out.size; have h3 := R1.out.2.1; simp; omega)).trans hR7
        have r0 := Kg.heap_cell hRr 0
        have r1 := Kg.heap_cell hRr 1
        have z0 := Kg.heap_frozen hRr 0
        have z1 := Kg.heap_frozen hRr 1
        simp only [List.getElem?_toArray, List.getElem?_cons_zero, List.getElem?_cons_succ] at r0 r1
        have HT : Hid (Tre W m ord f) := ⟨⟨par, S, I, HDf.out, HSI.out.1, HSI.out.2.1, HSI.out.2.2, fun v x i h1 h2 => Q2.out v x i (by have := (List.getElem?_eq_some_iff.1 h1).1; omega) h1 h2⟩, HOM.out, Q3.out⟩
        clear ho hI hX y0 hR5 hR7
        have hE := Kg.heap_set (Kg.heap_set hRr 0 (.slice a0 ord.length c0)) 1 (.slice (some ⟨ab, 0, none⟩) m m)
        have tE : Kg.Touch [w.heap.size] wr ((wr.setCell ⟨w.heap.size, 0, none⟩ (.slice a0 ord.length c0)).setCell ⟨w.heap.size, 1, none⟩ (.slice (some ⟨ab, 0, none⟩) m m)) := (Kg.Touch.setCell _ _ _ (by simp)).trans (Kg.Touch.setCell _ _ _ (by simp))
        have HFin : Hid (Il ((wr.setCell ⟨w.heap.size, 0, none⟩ (.slice a0 ord.length c0)).setCell ⟨w.heap.size, 1, none⟩ (.slice (some ⟨ab, 0, none⟩) m m)) w.heap.size (.slice a0 ord.length c0) (ord.map Int.ofNat) ∧ Fy ((wr.setCell ⟨w.heap.size, 0, none⟩ (.slice a0 ord.length c0)).setCell ⟨w.heap.size, 1, none⟩ (.slice (some ⟨ab, 0, none⟩) m m)) ab m f ∧ Below w.heap.size w ((wr.setCell ⟨w.heap.size, 0, none⟩ (.slice a0 ord.length c0)).setCell ⟨w.heap.size, 1, none⟩ (.slice (some ⟨ab, 0, none⟩) m m)) ∧ w.heap.size ≤ ab) := by
          have h1 := Kg.heap_lt HH0.out
          have h2 := HB5.out.size
          have h3 := R1.out.2.1
          have hb9 : Below w.heap.size w w7 := HB0.out.trans ((HB5.out.trans (HB57.out.mono h2)).mono HB0.out.size)
          have hi7 := Kg.row_keep2 (G := []) HDW.out.s (Kg.Touch.of_below HB57.out []) (fun _ _ => by simp)
          have hlt : ∀ k, (Value.slice a0 ord.length c0).ownBlock = some k → w0.heap.size ≤ k ∧ k < w5.heap.size := fun k hk => World.ownsRow.lt HDW.out.s k hk
          have hir := Kg.row_keep2 hi7 Q4.out (fun k hk => by have := hlt k hk; simp; omega)
          have hie := Kg.row_keep2 hir tE (fun k hk => by have := hlt k hk; simp; omega)
          refine ⟨Kg.row_base hie (by omega), Q1.out.touch tE (by simp; omega), (hb9.trans (Q4.out.below hb9.size (fun k hk => by rw [List.mem_singleton.1 hk]; omega))).trans (tE.below (Nat.le_trans hb9.size Q4.out.size) (fun k hk => by rw [List.mem_singleton.1 hk]; exact Nat.le_refl _)), by omega⟩
        have e0 := Kg.heap_cell hE 0
        have e1 := Kg.heap_cell hE 1
        have e0 := e0.trans (show _ = some (Value.slice a0 ord.length c0) from rfl)
        have e1 := e1.trans (show _ = some (Value.slice (some ⟨ab, 0, none⟩) m m) from rfl)
        clear hE tE hRr Q1 Q2 Q3 Q4
        go_upto_region 8 with fail
        go_wp2
        refine ⟨rfl, .agg #[.slice a0 ord.length c0, .slice (some ⟨ab, 0, none⟩) m m], ?_, ?_⟩
        · simp [results, Tryz.results28, go_sem, e0, e1]
        · exact ⟨_, ab, rfl, HFin.out.2.2.2, HFin.out.2.2.1, ord, HFin.out.1, f, HFin.out.2.1, HT.out⟩
structure Big19 (os : List OL) (ts : List (Value × List (Value × List Int))) (g : Im.Gr) : Prop where
  l : Gln os ts g
  s : Sln ts
  o : os.length ≤ 1048576
  e : (slotsF g.slots).length + g.hs.length + g.qu.length + g.rg.length ≤ 1048576 * 2
  p : (os.map (·.o.ps.length)).sum ≤ 1048576
  r : ∀ x, x ∈ os → x.o.ps.length + x.o.rs.length ≤ 1048576
theorem sum_r1 {α : Type} (F : Nat → Nat) (h : α → Nat) (obs : List α) (hF : ∀ (i : Nat) o, obs[i]? = some o → F (i + 1) ≤ h o) : ∀ k, k ≤ obs.length → ((List.range' 1 k).map F).sum ≤ ((obs.take k).map h).sum
  | 0, _ => Nat.zero_le _
  | k + 1, hk => by
    have ih := sum_r1 F h obs hF k (by omega)
    have ho : obs[k]? = some (obs[k]'(by omega)) := List.getElem?_eq_getElem (by omega)
    have h1 := hF k _ ho
    rw [List.range'_1_concat, List.map_append, List.sum_append, List.take_add_one, ho, List.map_append, List.sum_append]
    have e2 : 1 + k = k + 1 := by omega
    simp only [e2, List.map_cons, List.map_nil, List.sum_cons, List.sum_nil, Option.toList]
    omega
section
variable {os : List OL} {ts : List (Value × List (Value × List Int))} {g : Im.Gr}
theorem obs_sum (eo : g.obs = os.map (·.o)) (F : Nat → Nat) (hF : ∀ (i : Nat) o, g.obs[i]? = some o → F (i + 1) ≤ o.ps.length) : ((List.range' 1 os.length).map F).sum ≤ (os.map (·.o.ps.length)).sum := by
  have h1 := sum_r1 F (fun o : Im.Ob => o.ps.length) g.obs hF g.obs.length (Nat.le_refl _)
  rw [List.take_length, eo, List.map_map, List.length_map] at h1
  exact h1
def wz17 (g : Im.Gr) (i : Nat) : List Nat := (rw17 g i).map Int.toNat
theorem wz_rw (hm : MB g) (i : Nat) : rw17 g i = (wz17 g i).map Int.ofNat := toNat_back _ (fun z hz => (rw_in hm i z hz).1)
theorem wz_lt (hm : MB g) (i y : Nat) (hy : y ∈ wz17 g i) : y < g.obs.length + 1 := by
  obtain ⟨z, hz, rfl⟩ := List.mem_map.1 hy
  have := rw_in hm i z hz
  omega
theorem wy_wz (hm : MB g) (x y : Nat) : y ∈ wy17 g x ↔ y ∈ wz17 g x ∧ y ≠ 0 := by
  rw [wy_rw hm, wz_rw hm]
  constructor
  · rintro ⟨h1, h2⟩
    obtain ⟨z, hz, e⟩ := List.mem_map.1 h1
    cases e
    exact ⟨hz, h2⟩
  · rintro ⟨h1, h2⟩
    exact ⟨List.mem_map.2 ⟨y, h1, rfl⟩, h2⟩
theorem wz_sum (hb : Big19 os ts g) (eo : g.obs = os.map (·.o)) : ((List.range (os.length + 1)).map (fun a => (wz17 g a).length)).sum ≤ 1000000000 := by
  have h1 := obs_sum eo (fun x => (wz17 g x).length) (fun i o ho => by
    simp only [wz17, rw17, ho, List.length_map, List.length_drop]
    omega)
  have h2 : (wz17 g 0).length ≤ 1048576 * 2 := by
    unfold wz17 rw17
    rw [List.length_map]
    refine Nat.le_trans (List.length_filter_le _ _) ?_
    have := hb.e
    simp only [List.length_append]
    omega
  have h3 : List.range (os.length + 1) = 0 :: List.range' 1 os.length := by rw [List.range_eq_range', List.range'_succ]
  rw [h3, List.map_cons, List.sum_cons]
  have := hb.p
  omega
end
theorem wys_of {g : Im.Gr} (hm : MB g) {w : World} {n1 m : Nat} {v : Value} {rs : List Value} (h0 : 1 ≤ m) (hr : w.ownsRow n1 24 1 v m rs) (hW : Wrd w.heap.size w g rs) : Wys w.heap.size w v m (wz17 g) := by
  have hl : rs.length = m := by have := hr.1; omega
  obtain ⟨a, cap, e, -, hc⟩ := row_at (Kg.row_base hr (Nat.zero_le _)) (by decide)
  obtain ⟨u0, hu0⟩ : ∃ u, rs[0]? = some u := ⟨_, List.getElem?_eq_getElem (by omega)⟩
  obtain ⟨q, hq1, hq2, -⟩ := hc 0 u0 hu0
  subst hq1
  refine ⟨q, cap, e, hq2, fun i hi => ?_⟩
  obtain ⟨u, hu⟩ : ∃ u, rs[i]? = some u := ⟨_, List.getElem?_eq_getElem (by omega)⟩
  obtain ⟨q', h1, h2, h3⟩ := hc i u hu
  cases h1
  refine ⟨u, h3, ?_⟩
  rw [← wz_rw hm]
  exact hW i u hu
theorem wd_le {os : List OL} {ts : List (Value × List (Value × List Int))} {g : Im.Gr} (hb : Big19 os ts g) (eo : g.obs = os.map (·.o)) (x : Nat) : wd17 g x ≤ 2000000 := by
  unfold wd17
  by_cases e : x = 0
  · rw [if_pos e]; exact Nat.zero_le _
  · rw [if_neg e, eo, List.getElem?_map]
    cases ho : os[x - 1]? with
    | none => exact Nat.zero_le _
    | some o =>
      have := hb.r o (List.mem_of_getElem? ho)
      show 2 + o.o.ps.length + o.o.rs.length ≤ _
      omega
end Go.Proofs.YtkekaifiahjljaaGreatDoor
