import Derived.Test.YtkekaifiahjljaaGreatDoorC35
import Derived.Test.YtkekaifiahjljaaGreatDoorC37
import Derived.Test.YtkekaifiahjljaaGreatDoorC30
import Derived.Test.YtkekaifiahjljaaGreatDoorC31
set_option linter.unusedVariables false
set_option maxHeartbeats 8000000
set_option maxRecDepth 20000
namespace Go.Proofs.YtkekaifiahjljaaGreatDoor
open Go.RowKit Go.Shelf Go.Proofs.YtkekaifiahjljaaGreatDoor.Lt Go.Proofs.YtkekaifiahjljaaGreatDoor.Lp
set_option maxHeartbeats 16000000 in
theorem reach_any (n1 : Nat) (w : World) (B0 wb R m : Nat) (vw vp : Value) (vs : Nat → Value) (P : List Ep) (L : Nat → List Ep) (W Wz : Nat → List Nat) (d : Nat) (fi : Nat) (env : Array Value) (lo : Value) (hlo : lo = .func (.func fi) #[] env) (hw : Wb w B0 wb R m vw vp vs P L) (hl : Wl P L) (hy : Wys n1 w vw m Wz) (hn1 : n1 ≤ w.heap.size) (hWz : ∀ x y, y ∈ W x ↔ y ∈ Wz x ∧ y ≠ 0) (hlt : ∀ i, i < m → ∀ y, y ∈ Wz i → y < m) (hP : ∀ e, e ∈ P → (e.1 ≠ 0 ∧ e.1 < m) ∧ (e.2.1 ≠ 0 ∧ e.2.1 < m) ∧ e.2.2 ≠ 0 ∧ e.2.2 < m) (hlen : ∀ i, i < m → (Wz i).length ≤ 1000000000) (hPl : P.length ≤ 2000000) (hm1 : 1 ≤ m) (hm : m ≤ 2000000) (hC : MeetC w lo d m) :
    Calls Tryz.prog 67 #[.pointer (some ⟨wb, 0, none⟩), lo] w fun e w' => ∃ (bb : Nat) (seq : List Nat) (by' : Nat → Nat), e = .returned (.slice (some ⟨bb, 0, none⟩) m m) ∧ w.heap.size ≤ bb ∧ Below w.heap.size w w' ∧ Fy w' bb m (byv seq by') ∧ Rx W P d seq seq.length by' ∧ ∀ y, y ∈ seq → y < m := by
  subst hlo
  obtain ⟨wq, wc, rfl, hwq, hwr⟩ := id hy
  have HWb : Hid (∀ w', Below w.heap.size w w' → Wb w' B0 wb R m (.slice (some ⟨wq, 0, none⟩) m wc) vp vs P L ∧ Wys n1 w' (.slice (some ⟨wq, 0, none⟩) m wc) m Wz) := fun w' b => ⟨hw.below b, hy.below (b.mono hn1)⟩
  have HY : Hid (∀ i, i < m → ∃ u, w.cell? ⟨wq, i, none⟩ = some u ∧ Lrd n1 w u .i64 ((Wz i).map Int.ofNat)) := hwr
  have HWl : Hid (Wl P L) := hl
  have HWz : Hid (∀ x y, y ∈ W x ↔ y ∈ Wz x ∧ y ≠ 0) := hWz
  have HLt : Hid (∀ i, i < m → ∀ y, y ∈ Wz i → y < m) := hlt
  have HP : Hid (∀ e, e ∈ P → (e.1 ≠ 0 ∧ e.1 < m) ∧ (e.2.1 ≠ 0 ∧ e.2.1 < m) ∧ e.2.2 ≠ 0 ∧ e.2.2 < m) := hP
  have HLn : Hid (∀ i, i < m → (Wz i).length ≤ 1000000000) := hlen
  have HC : Hid (MeetC w (.func (.func fi) #[] env) d m) := hC
  have HPl : Hid (P.length ≤ 2000000) := hPl
  have HNB : Hid (∀ w, Calls Tryz.prog 51 #[.int .i64 (m : Nat)] w fun e w' => ∃ fb, e = .returned (.slice (some ⟨fb, 0, none⟩) m m) ∧ w.heap.size ≤ fb ∧ Fz w' fb m (fun _ => -1) ∧ Below w.heap.size w w') := fun w => nobodies_any m w hm1 hm
  have b1 : Below w.heap.size w (w.alloc (.cells #[.func (.func fi) #[] env] 100)) := Below.alloc (Below.refl _ _) (Nat.le_refl _) _
  have h31 := heap_alloc_new w (.cells #[.func (.func fi) #[] env] 100 (0, 0))
  have y0 : (w.alloc (.cells #[.func (.func fi) #[] env] 100)).cell? ⟨wb, 0, none⟩ = some (.slice (some ⟨wq, 0, none⟩) m wc) := Kg.heap_cell (HWb.out _ b1).1.h 0
  have q := HNB.out (w.alloc (.cells #[.func (.func fi) #[] env] 100))
  obtain ⟨c3, hc3⟩ : ∃ c3, c3 = w.heap.size := ⟨_, rfl⟩
  have HB1 : Hid (Below w.heap.size w (w.alloc (.cells #[.func (.func fi) #[] env] 100))) := b1
  rw [← hc3] at h31
  have H31 : Hid ((w.alloc (.cells #[.func (.func fi) #[] env] 100)).heap[c3]? = some (.cells #[.func (.func fi) #[] env] 100 (0, 0))) := h31
  have HC3 : Hid (c3 = w.heap.size) := hc3
  clear hw hy hl hWz hlt hP hlen hC hPl hwr b1 h31
  go_enter Tryz.func67, Tryz.ntmps67
  go_wp2_with fail
  rw [← hc3]
  refine q.mono ?_
  rintro e w2 ⟨bb, rfl, hbb, f2, b2⟩
  have F2 : Hid (Fy w2 bb m (fun _ => -1)) := Fz.fy f2
  have HB2 : Hid (Below w.heap.size w w2) := HB1.out.trans (b2.mono HB1.out.size)
  have H32 : Hid (w2.heap[c3]? = some (.cells #[.func (.func fi) #[] env] 100 (0, 0))) := (b2.block c3 (Kg.heap_lt H31.out)).trans H31.out
  have HBb : Hid (w.heap.size ≤ bb) := Nat.le_trans HB1.out.size hbb
  clear q y0 hbb f2 b2 HB1 H31 hc3
  go_upto_region 2 with fail
  have b3 : Below w2.heap.size w2 (w2.alloc (.cells #[.slice (some ⟨bb, 0, none⟩) m m] 24)) := Below.alloc (Below.refl _ _) (Nat.le_refl _) _
  have h23 := heap_alloc_new w2 (.cells #[.slice (some ⟨bb, 0, none⟩) m m] 24 (0, 0))
  have hs3 : bb < (w2.alloc (.cells #[.slice (some ⟨bb, 0, none⟩) m m] 24)).heap.size := Nat.lt_of_lt_of_le F2.out.lt b3.size
  have F3 : Hid (Fy (w2.alloc (.cells #[.slice (some ⟨bb, 0, none⟩) m m] 24)) bb m (fun _ => -1)) := F2.out.touch (Kg.Touch.of_below b3 []) (List.not_mem_nil)
  have HB3 : Hid (Below w.heap.size w (w2.alloc (.cells #[.slice (some ⟨bb, 0, none⟩) m m] 24))) := HB2.out.trans (b3.mono HB2.out.size)
  have H33 : Hid ((w2.alloc (.cells #[.slice (some ⟨bb, 0, none⟩) m m] 24)).heap[c3]? = some (.cells #[.func (.func fi) #[] env] 100 (0, 0))) := (b3.block c3 (Kg.heap_lt H32.out)).trans H32.out
  obtain ⟨c2, hc2⟩ : ∃ c2, c2 = w2.heap.size := ⟨_, rfl⟩
  rw [← hc2] at h23
  have H23 : Hid ((w2.alloc (.cells #[.slice (some ⟨bb, 0, none⟩) m m] 24)).heap[c2]? = some (.cells #[.slice (some ⟨bb, 0, none⟩) m m] 24 (0, 0))) := h23
  change Code.wp _ _ _ _ (w2.alloc (.cells #[.slice (some ⟨bb, 0, none⟩) m m] 24))
  rw [← hc2]
  have HS3 : Hid (bb < (w2.alloc (.cells #[.slice (some ⟨bb, 0, none⟩) m m] 24)).heap.size) := hs3
  clear b3 h23 hs3 hc2 F2 HB2 H32
  generalize w2.alloc (.cells #[.slice (some ⟨bb, 0, none⟩) m m] 24) = w3 at *
  have q := Kg.newintqueue_any 0 (Int.le_refl _) w3
  go_wp2_with fail
  refine q.mono ?_
  rintro e w4 ⟨rfl, q4, t4, s4⟩
  obtain ⟨B, hB⟩ : ∃ B, B = w3.heap.size := ⟨_, rfl⟩
  rw [← hB] at q4 s4 HS3 ⊢
  have b4 : Below w3.heap.size w3 w4 := t4.below (Nat.le_refl _) (fun _ h => by simp at h)
  have l5 : Below w4.heap.size w4 (w4.alloc (.cells #[.pointer (some ⟨B, 0, none⟩)] 85)) := Below.alloc (Below.refl _ _) (Nat.le_refl _) _
  have b5 : Below w3.heap.size w3 (w4.alloc (.cells #[.pointer (some ⟨B, 0, none⟩)] 85)) := b4.trans (l5.mono b4.size)
  have h45 := heap_alloc_new w4 (.cells #[.pointer (some ⟨B, 0, none⟩)] 85 (0, 0))
  have HS5 : Hid (Sr W P d m (.func (.func fi) #[] env) B B c2 c3 w4.heap.size bb [] (fun _ => 0) 0 (w4.alloc (.cells #[.pointer (some ⟨B, 0, none⟩)] 85)) [B]) :=
    ⟨⟨List.nodup_nil, fun y hy => by simp at hy, fun j y hy => by simp at hy⟩, fun y hy => by simp at hy, (b5.block _ (Kg.heap_lt H23.out)).trans H23.out, (b5.block _ (Kg.heap_lt H33.out)).trans H33.out, h45, (F3.out.touch (Kg.Touch.of_below b5 []) (List.not_mem_nil)).congr (fun x _ => by simp [byv]), q4.keep (Kg.Touch.of_below l5 []) (fun _ _ => List.not_mem_nil), Nat.le_refl _, HS3.out, Nat.le_trans (Nat.le_of_eq hB) b5.size⟩
  have HB5 : Hid (Below w.heap.size w (w4.alloc (.cells #[.pointer (some ⟨B, 0, none⟩)] 85))) := HB3.out.trans (b5.mono HB3.out.size)
  have HBB : Hid (w.heap.size ≤ B) := by show _ ≤ _; rw [hB]; exact HB3.out.size
  clear q q4 t4 s4 hB b4 l5 b5 h45 F3 HB3 H33 H23 HS3
  go_upto_region 3 with fail
  change Code.wp _ _ _ _ (w4.alloc (.cells #[.pointer (some ⟨B, 0, none⟩)] 85))
  generalize w4.heap.size = c4 at *
  generalize w4.alloc (.cells #[.pointer (some ⟨B, 0, none⟩)] 85) = w5 at *
  clear w4 w3 w2
  go_wp2
  go_loopw [9, 10, 12, 14] (fun v9 v10 _ _ wr => ∃ j, Sx W P d m (.func (.func fi) #[] env) B B c2 c3 c4 bb w v9 v10 wr j) (fun v9 v10 _ _ wr => Classical.epsilon (Lst (Sx W P d m (.func (.func fi) #[] env) B B c2 c3 c4 bb w v9 v10 wr)))
  case atStart => exact ⟨m + 1, 0, true, [], _, 0, _, rfl, rfl, by omega, HS5.out, HB5.out, fun _ => ⟨rfl, .inl ⟨rfl, rfl, rfl⟩⟩, fun h => (by cases h)⟩
  case round =>
    obtain ⟨j0, hj0⟩ : ∃ j0, j0 = Classical.epsilon (Lst (Sx W P d m (.func (.func fi) #[] env) B B c2 c3 c4 bb w u9 u10 wr)) := ⟨_, rfl⟩
    have h9 := eps_spec hrel
    rw [← hj0] at h9
    have HJ : Hid (j0 = Classical.epsilon (Lst (Sx W P d m (.func (.func fi) #[] env) B B c2 c3 c4 bb w u9 u10 wr))) := hj0
    clear hj0 hrel HS5 HB5
    obtain ⟨nv, ok, seq, by', s, F, rfl, rfl, hnv, g1, g2, g3, g4⟩ := h9
    have G1 : Hid (Sr W P d m (.func (.func fi) #[] env) B B c2 c3 c4 bb seq by' s wr F) := g1
    have G2 : Hid (Below w.heap.size w wr) := g2
    have G3 : Hid (ok = true → j0 = m + 1 - s ∧ ((s = 0 ∧ nv = 0 ∧ seq = []) ∨ (1 ≤ s ∧ Rx W P d seq (s - 1) by' ∧ seq[s - 1]? = some nv))) := g3
    have G4 : Hid (ok = false → j0 = 0 ∧ Rx W P d seq seq.length by') := g4
    clear g1 g2 g3 g4
    cases ok with
    | false =>
      have d2 : wr.cell? ⟨c2, 0, none⟩ = some (.slice (some ⟨bb, 0, none⟩) m m) := Kg.heap_cell G1.out.h2 0
      have HE : Hid (Fy wr bb m (byv seq by') ∧ Rx W P d seq seq.length by' ∧ ∀ y, y ∈ seq → y < m) := ⟨G1.out.fy, (G4.out rfl).2, G1.out.lt⟩
      clear G1 G3 G4
      go_wp2
      go_ret
      exact ⟨bb, seq, by', rfl, HBb.out, G2.out, HE.out⟩
    | true =>
      obtain ⟨hj, hst⟩ := G3.out rfl
      have HJ2 : Hid (j0 = m + 1 - s) := hj
      have HSt : Hid ((s = 0 ∧ nv = 0 ∧ seq = []) ∨ (1 ≤ s ∧ Rx W P d seq (s - 1) by' ∧ seq[s - 1]? = some nv)) := hst
      have HNv : Hid (nv = 0 ∨ (nv ∈ seq ∧ nv ≠ 0)) := by
        rcases hst with ⟨-, h1, -⟩ | ⟨-, -, h1⟩
        · exact .inl h1
        · have h2 := List.mem_of_getElem? h1
          exact .inr ⟨h2, (G1.out.ry.nz nv h2).1⟩
      clear hj hst G3 G4
      obtain ⟨hw1, hy1⟩ := HWb.out wr G2.out
      have y0 : wr.cell? ⟨wb, 0, none⟩ = some (.slice (some ⟨wq, 0, none⟩) m wc) := Kg.heap_cell hw1.h 0
      obtain ⟨u, cu0, lu⟩ := HY.out nv hnv
      have cu : wr.cell? ⟨wq, nv, none⟩ = some u := (G2.out.cell (p := ⟨wq, nv, none⟩) (Nat.lt_of_lt_of_le hwq hn1)).trans cu0
      obtain ⟨ua, uc, eu, -, hlu⟩ := id lu
      rw [List.length_map] at eu
      subst eu
      have HLu : Hid (∀ w', Below w.heap.size w w' → ∀ (i : Nat) x, (Wz nv)[i]? = some x → ∃ q off, ua = some ⟨q, off, none⟩ ∧ w'.cell? ⟨q, off + i, none⟩ = some (.int .i64 (x : Nat))) := fun w' b i x hx => by
        obtain ⟨q, off, e1, e2, e3⟩ := hlu i (x : Int) (by rw [List.getElem?_map, hx]; rfl)
        exact ⟨q, off, e1, (b.cell (p := ⟨q, off + i, none⟩) (Nat.lt_of_lt_of_le e2 hn1)).trans e3⟩
      have hnvI : (nv : Int) < (m : Int) := by omega
      have hWl := HLn.out nv hnv
      clear hw1 hy1 lu cu0 hlu
      go_wp2
      go_loopw [12, 40] (fun _ v40 wq' => ∃ (i : Nat) (new : List Nat) (by2 : Nat → Nat) (F' : List Nat), v40 = .int .i64 (i : Nat) ∧ i ≤ (Wz nv).length ∧ Hid (Sr W P d m (.func (.func fi) #[] env) B B c2 c3 c4 bb (seq ++ new) by2 s wq' F') ∧ Hid (∀ y, y ∈ (Wz nv).take i → y ≠ 0 → y ≠ d → y ∈ seq ++ new) ∧ Hid (Below w.heap.size w wq')) (fun _ v40 _ => (Wz nv).length - (intOf v40).toNat)
      case atStart => exact ⟨0, [], by', F, rfl, Nat.zero_le _, by show Sr _ _ _ _ _ _ _ _ _ _ _ _ _ _ _ _; rw [List.append_nil]; exact G1.out, fun y hy => by simp at hy, G2⟩
      case round =>
        obtain ⟨i, new, by2, F', rfl, hi, S1, S2, S3⟩ := hrel
        clear y0 cu
        by_cases hil : i < (Wz nv).length
        · have hiI : (i : Int) < ((Wz nv).length : Int) := by omega
          obtain ⟨x, hx⟩ : ∃ x, (Wz nv)[i]? = some x := ⟨_, List.getElem?_eq_getElem hil⟩
          obtain ⟨q, off, rfl, cx⟩ := HLu.out wr S3.out i x hx
          have hxw := List.mem_of_getElem? hx
          have hxm := HLt.out nv hnv x hxw
          have HT : Hid ((Wz nv).take (i + 1) = (Wz nv).take i ++ [x]) := by show _ = _; rw [List.take_add_one, hx]; rfl
          have qm := S1.out.meet HC.out S3.out HBB.out HBb.out (by omega) (b := nv) hxm (fun h0 hd => by
            rcases HNv.out with h1 | ⟨h1, h2⟩
            · exact .inl ⟨h1, by rw [h1] at hxw; exact (HWz.out 0 x).2 ⟨hxw, h0⟩⟩
            · exact .inr (.inl ⟨List.mem_append_left _ h1, h2, (HWz.out nv x).2 ⟨hxw, h0⟩⟩))
          clear hx hxw
          go_wp2_with fail
          refine qm.mono ?_
          rintro e w6 ⟨rfl, new2, by3, F3, m1, m2, m3, -⟩
          have V1 : Hid (Sr W P d m (.func (.func fi) #[] env) B B c2 c3 c4 bb (seq ++ (new ++ new2)) by3 s w6 F3) := by
            show Sr _ _ _ _ _ _ _ _ _ _ _ _ _ _ _ _
            rw [← List.append_assoc]
            exact m1
          have V2 : Hid (∀ y, y ∈ (Wz nv).take (i + 1) → y ≠ 0 → y ≠ d → y ∈ seq ++ (new ++ new2)) := fun y hy h0 hd => by
            rw [HT.out] at hy
            rw [← List.append_assoc]
            rcases List.mem_append.1 hy with h1 | h1
            · exact List.mem_append_left _ (S2.out y h1 h0 hd)
            · rw [List.mem_singleton.1 h1] at h0 hd ⊢
              exact m2 h0 hd
          have V3 : Hid (Below w.heap.size w w6) := m3
          clear qm m1 m2 m3 S1 S2 S3 cx HT
          go_wp2
          go_roundw
          case rel => exact ⟨i + 1, new ++ new2, by3, F3, by go_num, by omega, V1, V2, V3⟩
          case measure => simp [intOf]; omega
        · have hiI : ¬ (i : Int) < ((Wz nv).length : Int) := by omega
          have eT : (Wz nv).take i = Wz nv := List.take_of_length_le (by omega)
          have HW9 : Hid (∀ y, y ∈ W nv → y ≠ d → y ∈ seq ++ new) := fun y hy hd => by
            obtain ⟨h1, h2⟩ := (HWz.out nv y).1 hy
            exact S2.out y (by rw [eT]; exact h1) h2 hd
          clear S2 eT
          obtain ⟨hw1, -⟩ := HWb.out wr S3.out
          have y2 : wr.cell? ⟨wb, 2, none⟩ = some (.slice (some ⟨R, 0, none⟩) m m) := Kg.heap_cell hw1.h 2
          have yn : wr.cell? ⟨R, nv, none⟩ = some (vs nv) := hw1.l.cell hnv
          obtain ⟨ln, hln⟩ : ∃ ln, ln = (L nv).length := ⟨_, rfl⟩
          have HLN : Hid (ln = (L nv).length) := hln
          have hlnb : ln ≤ 4000000 := by have h1 := HWl.out.n nv; have h2 := HPl.out; omega
          obtain ⟨pa, pc, ep, -⟩ := (hw1.l.l nv hnv).at_
          rw [ep, ← hln] at yn
          have HEV : Hid (vs nv = .slice pa (L nv).length pc) := ep
          have HPa : Hid (∀ w', Below w.heap.size w w' → ∀ (i : Nat) e, (L nv)[i]? = some e → ∃ q, pa = some ⟨q, 0, none⟩ ∧ w'.cell? ⟨q, i * 3, none⟩ = some (.int .i64 (e.1 : Nat)) ∧ w'.cell? ⟨q, i * 3 + 1, none⟩ = some (.int .i64 (e.2.1 : Nat)) ∧ w'.cell? ⟨q, i * 3 + 2, none⟩ = some (.int .i64 (e.2.2 : Nat))) := fun w' b i e he => by
            obtain ⟨pa', pc', e1, h1⟩ := ((HWb.out w' b).1.l.l nv hnv).at_
            rw [HEV.out] at e1
            simp only [Value.slice.injEq, true_and] at e1
            obtain ⟨rfl, rfl⟩ := e1
            obtain ⟨q, h2, -, -, h3⟩ := h1 i e he
            exact ⟨q, h2, h3⟩
          clear hw1 ep hln
          go_wp2
          go_loopw [14, 57] (fun _ v57 wq' => ∃ (i : Nat) (new : List Nat) (by2 : Nat → Nat) (F' : List Nat), v57 = .int .i64 (i : Nat) ∧ i ≤ ln ∧ Hid (Sr W P d m (.func (.func fi) #[] env) B B c2 c3 c4 bb (seq ++ new) by2 s wq' F') ∧ Hid (∀ y, y ∈ W nv → y ≠ d → y ∈ seq ++ new) ∧ Hid (∀ e, e ∈ (L nv).take i → e.1 ∈ seq → e.2.1 ∈ seq → e.2.2 ≠ d → e.2.2 ∈ seq ++ new) ∧ Hid (Below w.heap.size w wq')) (fun _ v57 _ => ln - (intOf v57).toNat)
          case atStart => exact ⟨0, new, by2, F', rfl, Nat.zero_le _, S1, HW9, fun e he => by simp at he, S3⟩
          case round =>
            obtain ⟨i, new, by2, F', rfl, hi, S1, S2, S4, S3⟩ := hrel
            clear y2 yn HW9
            by_cases hil : i < ln
            · have hiI : (i : Int) < (ln : Int) := by omega
              obtain ⟨e, he⟩ : ∃ e, (L nv)[i]? = some e := ⟨_, List.getElem?_eq_getElem (by rw [← HLN.out]; exact hil)⟩
              obtain ⟨q, rfl, x0, x1, x2⟩ := HPa.out wr S3.out i e he
              have heP := ((HWl.out.i nv e).1 (List.mem_of_getElem? he)).1
              obtain ⟨⟨p1, p2⟩, ⟨p3, p4⟩, p5, p6⟩ := HP.out e heP
              have HPe : Hid (e ∈ P ∧ e.2.2 ≠ 0 ∧ e.2.2 < m) := ⟨heP, p5, p6⟩
              have HT : Hid ((L nv).take (i + 1) = (L nv).take i ++ [e]) := by show _ = _; rw [List.take_add_one, he]; rfl
              clear he heP p1 p3 p5 p6
              go_upto_region 15 with fail
              obtain ⟨X, hX⟩ : ∃ X, X = wr.heap.size := ⟨_, rfl⟩
              have l5 : Below wr.heap.size wr (wr.alloc (.cells (epc e) 156)) := Below.alloc (Below.refl _ _) (Nat.le_refl _) _
              have B5 : Hid (Below w.heap.size w (wr.alloc (.cells (epc e) 156))) := S3.out.trans (l5.mono S3.out.size)
              have S5 : Hid (Sr W P d m (.func (.func fi) #[] env) B B c2 c3 c4 bb (seq ++ new) by2 s (wr.alloc (.cells (epc e) 156)) F') := S1.out.below l5
              have H5 : Hid ((wr.alloc (.cells (epc e) 156)).heap[X]? = some (.cells (epc e) 156 (0, 0))) := by rw [hX]; exact heap_alloc_new wr _
              change Code.wp _ _ _ _ (wr.alloc (.cells (epc e) 156))
              rw [← hX]
              clear x0 x1 x2 l5 hX S1 S3
              generalize wr.alloc (.cells (epc e) 156) = w5 at *
              have x0 : w5.cell? ⟨X, 0, none⟩ = some (.int .i64 (e.1 : Nat)) := Kg.heap_cell H5.out 0
              have x1 : w5.cell? ⟨X, 1, none⟩ = some (.int .i64 (e.2.1 : Nat)) := Kg.heap_cell H5.out 1
              have x2 : w5.cell? ⟨X, 2, none⟩ = some (.int .i64 (e.2.2 : Nat)) := Kg.heap_cell H5.out 2
              have z2 : w5.cell? ⟨c2, 0, none⟩ = some (.slice (some ⟨bb, 0, none⟩) m m) := Kg.heap_cell S5.out.h2 0
              have hq := holds_any m e w5 bb (byv (seq ++ new) by2) S5.out.fy p2 p4
              have HB5 : Hid (Below w5.heap.size w5 (w5.alloc (.cells (epc e) 156))) := Below.alloc (Below.refl _ _) (Nat.le_refl _) _
              go_wp2_with fail
              refine hq.mono ?_
              rintro r w6 ⟨rfl, rfl⟩
              have B6 : Hid (Below w.heap.size w (w5.alloc (.cells (epc e) 156))) := B5.out.trans (HB5.out.mono B5.out.size)
              have S6 : Hid (Sr W P d m (.func (.func fi) #[] env) B B c2 c3 c4 bb (seq ++ new) by2 s (w5.alloc (.cells (epc e) 156)) F') := S5.out.below HB5.out
              have H6 : Hid ((w5.alloc (.cells (epc e) 156)).heap[X]? = some (.cells (epc e) 156 (0, 0))) := (HB5.out.block X (Kg.heap_lt H5.out)).trans H5.out
              clear x0 x1 x2 z2 hq HB5 H5 S5 B5
              generalize w5.alloc (.cells (epc e) 156) = w6 at *
              have x0 : w6.cell? ⟨X, 0, none⟩ = some (.int .i64 (e.1 : Nat)) := Kg.heap_cell H6.out 0
              have x2 : w6.cell? ⟨X, 2, none⟩ = some (.int .i64 (e.2.2 : Nat)) := Kg.heap_cell H6.out 2
              by_cases hh : hold (byv (seq ++ new) by2) e = true
              · have hh2 : (byv (seq ++ new) by2 e.1 != -1 && byv (seq ++ new) by2 e.2.1 != -1) = true := hh
                rw [hh2]
                obtain ⟨m1, m2⟩ := hold_iff.1 hh
                have qm := S6.out.meet HC.out B6.out HBB.out HBb.out (by omega) (x := e.2.2) (b := e.1) HPe.out.2.2 (fun _ _ => .inr (.inr ⟨e.2.1, HPe.out.1, m1, m2⟩))
                clear hh hh2 m1 m2
                go_wp2_with fail
                refine qm.mono ?_
                rintro r w7 ⟨rfl, new2, by3, F3, m1, m2, m3, -⟩
                have V1 : Hid (Sr W P d m (.func (.func fi) #[] env) B B c2 c3 c4 bb (seq ++ (new ++ new2)) by3 s w7 F3) := by
                  show Sr _ _ _ _ _ _ _ _ _ _ _ _ _ _ _ _
                  rw [← List.append_assoc]
                  exact m1
                have V2 : Hid (∀ y, y ∈ W nv → y ≠ d → y ∈ seq ++ (new ++ new2)) := fun y hy hd => by
                  rw [← List.append_assoc]
                  exact List.mem_append_left _ (S2.out y hy hd)
                have V4 : Hid (∀ e, e ∈ (L nv).take (i + 1) → e.1 ∈ seq → e.2.1 ∈ seq → e.2.2 ≠ d → e.2.2 ∈ seq ++ (new ++ new2)) := fun f hf a1 a2 a3 => by
                  rw [HT.out] at hf
                  rw [← List.append_assoc]
                  rcases List.mem_append.1 hf with h1 | h1
                  · exact List.mem_append_left _ (S4.out f h1 a1 a2 a3)
                  · rw [List.mem_singleton.1 h1] at a3 ⊢
                    exact m2 HPe.out.2.1 a3
                have V3 : Hid (Below w.heap.size w w7) := m3
                clear qm m1 m2 m3 S6 B6 H6 S2 S4 HT x0 x2
                go_wp2
                go_roundw
                case rel => exact ⟨i + 1, new ++ new2, by3, F3, by go_num, by omega, V1, V2, V4, V3⟩
                case measure => simp [intOf]; omega
              · have hh2 : (byv (seq ++ new) by2 e.1 != -1 && byv (seq ++ new) by2 e.2.1 != -1) = false := by simpa using hh
                rw [hh2]
                have V4 : Hid (∀ e, e ∈ (L nv).take (i + 1) → e.1 ∈ seq → e.2.1 ∈ seq → e.2.2 ≠ d → e.2.2 ∈ seq ++ new) := fun f hf a1 a2 a3 => by
                  rw [HT.out] at hf
                  rcases List.mem_append.1 hf with h1 | h1
                  · exact S4.out f h1 a1 a2 a3
                  · rw [List.mem_singleton.1 h1] at a1 a2
                    exact absurd (hold_iff.2 ⟨List.mem_append_left _ a1, List.mem_append_left _ a2⟩) hh
                clear hh hh2 S4 HT x0 x2 H6
                go_wp2
                go_roundw
                case rel => exact ⟨i + 1, new, by2, F', by go_num, by omega, S6, S2, V4, B6⟩
                case measure => simp [intOf]; omega
            · have hiI : ¬ (i : Int) < (ln : Int) := by omega
              have eT : (L nv).take i = L nv := List.take_of_length_le (by rw [← HLN.out]; omega)
              obtain ⟨seq', hseq'⟩ : ∃ s', s' = seq ++ new := ⟨_, rfl⟩
              have HRx : Hid (Rx W P d seq' s by2) := by
                show Rx _ _ _ _ _ _
                rw [hseq']
                refine number_done (fun a b c h => ⟨(HP.out (a, b, c) h).1.1, (HP.out (a, b, c) h).2.1.1⟩) HSt.out S1.out.ry S2.out (fun e he hn a1 a2 a3 => ?_)
                exact S4.out e (by rw [eT]; exact (HWl.out.i nv e).2 ⟨he, hn⟩) a1 a2 a3
              rw [← hseq'] at S1
              have HSl : Hid (seq'.length ≤ m) := ry_len S1.out.ry S1.out.lt
              have HSs : Hid (s ≤ seq'.length) := S1.out.s
              have z4 : wr.cell? ⟨c4, 0, none⟩ = some (.pointer (some ⟨B, 0, none⟩)) := Kg.heap_cell S1.out.h4 0
              clear eT hseq' S2 S4 HSt HNv
              by_cases hq : s < seq'.length
              · obtain ⟨y, hy⟩ : ∃ y, seq'[s]? = some y := ⟨_, List.getElem?_eq_getElem hq⟩
                have e9 : (seq'.drop s).map Int.ofNat = (y : Int) :: (seq'.drop (s + 1)).map Int.ofNat := by
                  obtain ⟨h1, h2⟩ := List.getElem?_eq_some_iff.1 hy
                  rw [List.drop_eq_getElem_cons h1, h2]
                  rfl
                have v3 := S1.out.q
                rw [e9] at v3
                have q := Kg.take_any B B seq'.length 0 (y : Int) _ F' wr v3 (by have := HSl.out; omega)
                have HYs : Hid (seq'[s]? = some y) := hy
                have hym := S1.out.lt y (List.mem_of_getElem? hy)
                have HFB : Hid (∀ x, x ∈ F' → w.heap.size ≤ x) := fun x hx => Nat.le_trans HBB.out (v3.mem x hx).1
                clear v3 e9 hy
                go_wp2_with fail
                refine q.mono ?_
                rintro e w6 ⟨rfl, u1, u2⟩
                have X1 : Hid (Sx W P d m (.func (.func fi) #[] env) B B c2 c3 c4 bb w (.int .i64 (y : Nat)) (.bool true) w6 (m + 1 - (s + 1))) :=
                  ⟨y, true, seq', by2, s + 1, F', rfl, rfl, hym, S1.out.took u1 u2 (by omega), S3.out.trans (u2.below S3.out.size HFB.out), fun _ => ⟨rfl, .inr ⟨by omega, HRx.out, HYs.out⟩⟩, fun h => (by cases h)⟩
                have HLT2 : Hid (m + 1 - (s + 1) < j0) := by have h1 := HJ2.out; have h2 := HSs.out; have h3 := HSl.out; show _ < _; omega
                clear q u1 u2 S1 S3 z4
                go_wp2
                go_roundw
                case rel => exact ⟨_, X1.out⟩
                case measure =>
                  have h1 := eps_le X1.out
                  have h2 := HLT2.out
                  have h3 := HJ.out
                  rw [← h3]
                  exact Nat.lt_of_le_of_lt h1 h2
              · have hk9 : s = seq'.length := by have := HSs.out; omega
                have e9 : seq'.drop s = [] := List.drop_eq_nil_of_le (by omega)
                have v3 := S1.out.q
                rw [e9] at v3
                have q := Kg.take_none B B seq'.length 0 F' wr v3
                have HK9 : Hid (s = seq'.length) := hk9
                clear hk9 e9 v3
                go_wp2_with fail
                refine q.mono ?_
                rintro e w6 ⟨rfl, nq, rfl⟩
                have X1 : Hid (Sx W P d m (.func (.func fi) #[] env) B B c2 c3 c4 bb w (.int .i64 ((0 : Nat) : Int)) (.bool false) (wr.drewN nq) 0) := by
                  refine ⟨0, false, seq', by2, s, F', rfl, rfl, by omega, S1.out.below (below_drewN (Below.refl _ _) nq), below_drewN S3.out nq, fun h => (by cases h), fun _ => ⟨rfl, ?_⟩⟩
                  rw [← HK9.out]
                  exact HRx.out
                have HLT2 : Hid (0 < j0) := by have h1 := HJ2.out; have h2 := HSs.out; have h3 := HSl.out; show _ < _; omega
                clear q S1 S3 z4
                go_wp2
                go_roundw
                case rel => exact ⟨_, X1.out⟩
                case measure =>
                  have h1 := eps_le X1.out
                  have h2 := HLT2.out
                  have h3 := HJ.out
                  rw [← h3]
                  exact Nat.lt_of_le_of_lt h1 h2
end Go.Proofs.YtkekaifiahjljaaGreatDoor
