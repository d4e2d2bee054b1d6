/-
  Images: ImageWrites walked.
-/
import Derived.Test.YtblbiikfipcbcaaDoorIWd
import Derived.Test.YtblbiikfipcbcaaDoorIWe
set_option linter.unusedVariables false
set_option maxRecDepth 20000
namespace Go.Proofs.YtblbiikfipcbcaaDoor
open Go.RowKit Go.Shelf

set_option maxHeartbeats 8000000 in
theorem writes_any (w : World) (hL : Laid w) (vo vs vh vr vq : Value) (os : List OL) (ts : List (Value × List (Value × List Int))) (g : Im.Gr) (hg : Grd w.heap.size w vo vs vh vr vq os ts g) (hI : Inb os ts g) (hr : ∀ x, x ∈ os → obR x.o) :
    Calls Tryd.prog 7 #[.agg (gcs vo vs vh vr vq g.next)] w fun e w' => e = .returned (.bool true) ∧ Below w.heap.size w w' := by
  have l1 : Below w.heap.size w (w.alloc (.cells (gcs vo vs vh vr vq g.next) 29)) := Below.alloc (Below.refl _ _) (Nat.le_refl _) _
  have hx := heap_alloc_new w (.cells (gcs vo vs vh vr vq g.next) 29 (0, 0))
  have hws : (w.alloc (.cells (gcs vo vs vh vr vq g.next) 29)).heap.size = w.heap.size + 1 := by simp
  generalize hW : w.alloc (.cells (gcs vo vs vh vr vq g.next) 29) = W at *
  have HL : Hid (∀ w', Below w.heap.size w w' → Laid w') := fun w' b' => hL.keep b'
  have HG : Hid (∀ w', Below w.heap.size w w' → Grd w.heap.size w' vo vs vh vr vq os ts g) := fun w' b' => hg.below b'
  have HK : Hid (∀ w', Below W.heap.size W w' → Below w.heap.size w w' ∧ w'.cell? ⟨w.heap.size, 0, none⟩ = some vo ∧ w'.cell? ⟨w.heap.size, 1, none⟩ = some vs ∧ w'.cell? ⟨w.heap.size, 2, none⟩ = some vh ∧ w'.cell? ⟨w.heap.size, 3, none⟩ = some vr ∧ w'.cell? ⟨w.heap.size, 4, none⟩ = some vq ∧ w'.cell? ⟨w.heap.size, 5, none⟩ = some (.int .u64 g.next)) := fun w' b' => by
    have hlt : w.heap.size < W.heap.size := by omega
    exact ⟨l1.trans (b'.mono l1.size), (b'.cell (p := ⟨w.heap.size, 0, none⟩) hlt).trans (Kg.heap_cell hx 0), (b'.cell (p := ⟨w.heap.size, 1, none⟩) hlt).trans (Kg.heap_cell hx 1), (b'.cell (p := ⟨w.heap.size, 2, none⟩) hlt).trans (Kg.heap_cell hx 2), (b'.cell (p := ⟨w.heap.size, 3, none⟩) hlt).trans (Kg.heap_cell hx 3), (b'.cell (p := ⟨w.heap.size, 4, none⟩) hlt).trans (Kg.heap_cell hx 4), (b'.cell (p := ⟨w.heap.size, 5, none⟩) hlt).trans (Kg.heap_cell hx 5)⟩
  have HKj0 : Hid (∀ w', Below W.heap.size W w' → ∀ j, w'.cell? ⟨w.heap.size, j, none⟩ = (gcs vo vs vh vr vq g.next)[j]?) := fun w' b' j => (b'.cell (p := ⟨w.heap.size, j, none⟩) (by show w.heap.size < W.heap.size; omega)).trans (Kg.heap_cell hx j)
  have HR : Hid (∀ x, x ∈ os → obR x.o) := hr
  obtain ⟨-, k0, k1, k2, k3, k4, k5⟩ := HK.out W (Below.refl _ _)
  obtain ⟨aa, ac, ea, -⟩ := hg.ob
  obtain ⟨ba, bc, eb, -⟩ := hg.sl
  obtain ⟨ca, cc, ec, -, -⟩ := hg.hs
  obtain ⟨da, dc, ed, -, -⟩ := hg.rg
  obtain ⟨qa, qc, eq, -, -⟩ := hg.qu
  have hnx := hg.nx
  have hsm := small16_any w.heap.size W (by omega) vo vs vh vr vq os ts g (HG.out W l1) hI
  subst ea eb ec ed eq
  clear hg hI hr hL hx
  go_enter Tryd.func7, Tryd.ntmps7
  go_wp2_with fail
  refine hsm.mono ?_
  rintro e w1 ⟨r, rfl, b1, hrz⟩
  have HB1 : Hid (Below W.heap.size W w1) := b1
  clear hsm b1 k0 k1 k2 k3 k4 k5
  cases r with
  | false =>
    go_wp2
    go_ret
    exact ⟨rfl, (HK.out _ HB1.out).1⟩
  | true =>
    have Hz : Hid (gsz os ts g ≤ 16384) := hrz rfl
    clear hrz
    obtain ⟨-, k0, k1, k2, k3, k4, k5⟩ := HK.out w1 HB1.out
    have hc := rWrite_any w.heap.size w1 (Nat.le_trans (HK.out w1 HB1.out).1.size (Nat.le_refl _)) _ _ _ _ _ os ts g (HG.out w1 (HK.out w1 HB1.out).1) Hz.out HR.out
    go_wp2_with fail
    refine hc.mono ?_
    rintro e wa ⟨vw, r0, rfl, ba', hwa⟩
    have Hwa : Hid (Wrote w1 wa g vw r0) := hwa
    have HBa0 : Hid (Below W.heap.size W wa) := HB1.out.trans (ba'.mono HB1.out.size)
    obtain ⟨bs0, -, hbt0⟩ := hwa.bt
    obtain ⟨aw, mw, cw, hvw⟩ := own_slN hbt0
    subst hvw
    clear hc hwa ba' hbt0 bs0 k0 k1 k2 k3 k4 k5 HB1
    have HB1 : Hid (Below W.heap.size W wa) := HBa0.out
    clear HBa0
    have hbd := Bd.new wa wa.heap.size (Nat.le_refl _)
    have bR : Below wa.heap.size wa (wa.alloc (.cells (rmc (.slice none 0 0) (.slice none 0 0) (.slice none 0 0) (.slice none 0 0) (.slice none 0 0)) 51)) := Below.alloc (Below.refl _ _) (Nat.le_refl _) _
    have HBR : Hid (Below W.heap.size W (wa.alloc (.cells (rmc (.slice none 0 0) (.slice none 0 0) (.slice none 0 0) (.slice none 0 0) (.slice none 0 0)) 51))) := HB1.out.trans (bR.mono HB1.out.size)
    have HBRa : Hid (Below wa.heap.size wa (wa.alloc (.cells (rmc (.slice none 0 0) (.slice none 0 0) (.slice none 0 0) (.slice none 0 0) (.slice none 0 0)) 51))) := bR
    have HBd : Hid (Bd (wa.alloc (.cells (rmc (.slice none 0 0) (.slice none 0 0) (.slice none 0 0) (.slice none 0 0) (.slice none 0 0)) 51)) wa.heap.size wa.heap.size (fun _ => 0) rs0 []) := hbd
    have Hs1 : Hid ((wa.alloc (.cells (rmc (.slice none 0 0) (.slice none 0 0) (.slice none 0 0) (.slice none 0 0) (.slice none 0 0)) 51)).heap.size = wa.heap.size + 1) := by show _ = _; simp
    go_upto_region 5 with fail
    generalize hWR : wa.alloc (.cells (rmc (.slice none 0 0) (.slice none 0 0) (.slice none 0 0) (.slice none 0 0) (.slice none 0 0)) 51) = WR at *
    obtain ⟨hbw, k0, k1, k2, k3, k4, k5⟩ := HK.out WR HBR.out
    have hw01 : w.heap.size ≤ wa.heap.size := Nat.le_trans (by omega) HB1.out.size
    have hc := roomGraph_any HBd.out w.heap.size hw01 (by have := Hs1.out; omega) _ _ _ _ _ os ts g (HG.out WR hbw) (sml_of Hz.out) (by simp [RS.tot, rs0])
    clear hbw
    go_wp2_with fail
    refine hc.mono ?_
    rintro e w2 ⟨vo', vs', vh', vr', vq', rfl, N2, S2, ⟨os2, ts2, hl2⟩, bd2, st2, tc2, tt2⟩
    clear hc k0 k1 k2 k3 k4 k5
    obtain ⟨⟨b1, hG1⟩, ⟨b2, hG2⟩, ⟨b3, hG3⟩, ⟨b4, hG4⟩, ⟨b5, hG5⟩, -, -⟩ := id hl2
    have hu1 := hG1.is
    have hu2 := hG2.is
    have hu3 := hG3.is
    have hu4 := hG4.is
    have hu5 := hG5.is
    subst hu1 hu2 hu3 hu4 hu5
    clear hG1 hG2 hG3 hG4 hG5
    have Hl2 : Hid (Lent w2 N2 ([] ++ S2.F wa.heap.size) wa.heap.size (.slice (some ⟨b1, 0, none⟩) os2.length (os2.length + 8)) (.slice (some ⟨b2, 0, none⟩) ts2.length (ts2.length + 8)) (.slice (some ⟨b3, 0, none⟩) g.hs.length (g.hs.length + 40)) (.slice (some ⟨b4, 0, none⟩) g.rg.length (g.rg.length + 40)) (.slice (some ⟨b5, 0, none⟩) g.qu.length (g.qu.length + 40)) os2 ts2 g) := hl2
    have Hbd2 : Hid (Bd w2 wa.heap.size wa.heap.size N2 S2 []) := bd2
    have Hst2 : Hid (Stp WR w2 ([] ++ rs0.F wa.heap.size) ([] ++ S2.F wa.heap.size) (fun _ => 0) N2) := st2
    have Htc2 : Hid (Kg.Touch (rs0.F wa.heap.size) WR w2) := tc2
    have Htt2 : Hid (S2.tot ≤ 150000000) := by
      have h1 := sml_of Hz.out
      have h2 := h1.o
      have h3 := h1.tc
      have h4 : rs0.tot = 0 := by simp [RS.tot, rs0]
      show _ ≤ _
      omega
    clear hl2 bd2 st2 tc2 tt2
    go_upto_region 6 with fail
    have hB3 : Below w2.heap.size w2 (w2.alloc (.cells (gcs (.slice (some ⟨b1, 0, none⟩) os2.length (os2.length + 8)) (.slice (some ⟨b2, 0, none⟩) ts2.length (ts2.length + 8)) (.slice (some ⟨b3, 0, none⟩) g.hs.length (g.hs.length + 40)) (.slice (some ⟨b4, 0, none⟩) g.rg.length (g.rg.length + 40)) (.slice (some ⟨b5, 0, none⟩) g.qu.length (g.qu.length + 40)) g.next) 29)) := Below.alloc (Below.refl _ _) (Nat.le_refl _) _
    have hx3 := heap_alloc_new w2 (.cells (gcs (.slice (some ⟨b1, 0, none⟩) os2.length (os2.length + 8)) (.slice (some ⟨b2, 0, none⟩) ts2.length (ts2.length + 8)) (.slice (some ⟨b3, 0, none⟩) g.hs.length (g.hs.length + 40)) (.slice (some ⟨b4, 0, none⟩) g.rg.length (g.rg.length + 40)) (.slice (some ⟨b5, 0, none⟩) g.qu.length (g.qu.length + 40)) g.next) 29 (0, 0))
    have hs3 : (w2.alloc (.cells (gcs (.slice (some ⟨b1, 0, none⟩) os2.length (os2.length + 8)) (.slice (some ⟨b2, 0, none⟩) ts2.length (ts2.length + 8)) (.slice (some ⟨b3, 0, none⟩) g.hs.length (g.hs.length + 40)) (.slice (some ⟨b4, 0, none⟩) g.rg.length (g.rg.length + 40)) (.slice (some ⟨b5, 0, none⟩) g.qu.length (g.qu.length + 40)) g.next) 29)).heap.size = w2.heap.size + 1 := by simp
    generalize hW3 : w2.alloc (.cells (gcs (.slice (some ⟨b1, 0, none⟩) os2.length (os2.length + 8)) (.slice (some ⟨b2, 0, none⟩) ts2.length (ts2.length + 8)) (.slice (some ⟨b3, 0, none⟩) g.hs.length (g.hs.length + 40)) (.slice (some ⟨b4, 0, none⟩) g.rg.length (g.rg.length + 40)) (.slice (some ⟨b5, 0, none⟩) g.qu.length (g.qu.length + 40)) g.next) 29) = W3 at *
    have Hl3 : Hid (Lent W3 N2 ([] ++ S2.F wa.heap.size) wa.heap.size (.slice (some ⟨b1, 0, none⟩) os2.length (os2.length + 8)) (.slice (some ⟨b2, 0, none⟩) ts2.length (ts2.length + 8)) (.slice (some ⟨b3, 0, none⟩) g.hs.length (g.hs.length + 40)) (.slice (some ⟨b4, 0, none⟩) g.rg.length (g.rg.length + 40)) (.slice (some ⟨b5, 0, none⟩) g.qu.length (g.qu.length + 40)) os2 ts2 g) := Hl2.out.stp (Stp.below hB3)
    have Hbd3 : Hid (Bd W3 wa.heap.size wa.heap.size N2 S2 []) := Hbd2.out.below hB3
    have HB3 : Hid (Below W.heap.size W W3) := by
      have h1 : Below W.heap.size WR w2 := Htc2.out.below HBR.out.size (fun k hk => by simp [RS.F, rs0, Value.ownBlock] at hk; have := HB1.out.size; omega)
      exact (HBR.out.trans h1).trans (hB3.mono (Nat.le_trans HBR.out.size h1.size))
    have HBaw : Hid (Below wa.heap.size wa W3) := by
      have h1 : Below wa.heap.size wa WR := HBRa.out
      have h2 : Below wa.heap.size WR w2 := Htc2.out.below h1.size (fun k hk => by simp [RS.F, rs0, Value.ownBlock] at hk; omega)
      exact (h1.trans h2).trans (hB3.mono (Nat.le_trans h1.size h2.size))
    have Heo : Hid (os.map (·.o) = os2.map (·.o)) := (HG.out w (Below.refl _ _)).eo.symm.trans Hl2.out.eo
    have Hes : Hid (ts.map (fun t => t.2.map (·.2)) = ts2.map (fun t => t.2.map (·.2))) := (HG.out w (Below.refl _ _)).es.symm.trans Hl2.out.es
    have Hz2 : Hid (gsz os2 ts2 g ≤ 16384) := by
      show _ ≤ _
      rw [← gsz_eq (g := g) Heo.out Hes.out]
      exact Hz.out
    have Hr2 : Hid (∀ x, x ∈ os2 → obR x.o) := obR_of Heo.out HR.out
    have hg3 := Hl3.out.grd Hr2.out Hz2.out hnx
    have Hg3 : Hid (∀ w', Below W3.heap.size W3 w' → Grd W3.heap.size w' (.slice (some ⟨b1, 0, none⟩) os2.length (os2.length + 8)) (.slice (some ⟨b2, 0, none⟩) ts2.length (ts2.length + 8)) (.slice (some ⟨b3, 0, none⟩) g.hs.length (g.hs.length + 40)) (.slice (some ⟨b4, 0, none⟩) g.rg.length (g.rg.length + 40)) (.slice (some ⟨b5, 0, none⟩) g.qu.length (g.qu.length + 40)) os2 ts2 g) := fun w' b' => hg3.below b'
    have hc := iWrite_any W3.heap.size W3 (Nat.le_refl _) (HL.out _ (HK.out W3 HB3.out).1) _ _ _ _ _ os2 ts2 g hg3 Hz2.out Hr2.out
    have HK3 : Hid (∀ w', Below W3.heap.size W3 w' → ∀ j, w'.cell? ⟨w2.heap.size, j, none⟩ = (gcs (.slice (some ⟨b1, 0, none⟩) os2.length (os2.length + 8)) (.slice (some ⟨b2, 0, none⟩) ts2.length (ts2.length + 8)) (.slice (some ⟨b3, 0, none⟩) g.hs.length (g.hs.length + 40)) (.slice (some ⟨b4, 0, none⟩) g.rg.length (g.rg.length + 40)) (.slice (some ⟨b5, 0, none⟩) g.qu.length (g.qu.length + 40)) g.next)[j]?) := fun w' b' j => (b'.cell (p := ⟨w2.heap.size, j, none⟩) (by show w2.heap.size < W3.heap.size; omega)).trans (Kg.heap_cell hx3 j)
    have k0 := HK3.out W3 (Below.refl _ _) 0
    have k1 := HK3.out W3 (Below.refl _ _) 1
    have k2 := HK3.out W3 (Below.refl _ _) 2
    have k3 := HK3.out W3 (Below.refl _ _) 3
    have k4 := HK3.out W3 (Below.refl _ _) 4
    have k5 := HK3.out W3 (Below.refl _ _) 5
    simp only [List.getElem?_toArray, List.getElem?_cons_zero, List.getElem?_cons_succ] at k0 k1 k2 k3 k4 k5
    clear hg3 hx3
    go_wp2_with fail
    refine hc.mono ?_
    rintro e w4 ⟨vb, r1, rfl, hB4, hw4⟩
    clear hc k0 k1 k2 k3 k4 k5
    have HB4 : Hid (Below W3.heap.size W3 w4) := hB4
    obtain ⟨e01, bs, hbw, hbb⟩ := Hwa.out.same hw4
    subst e01
    obtain ⟨ab, mb, cb, hvb⟩ := own_slN hbb
    subst hvb
    have Hbw : Hid (Bt w4 w1.heap.size (.slice aw mw cw) bs) := by
      exact (hbw.keep HBaw.out).keep hB4
    have Hbb : Hid (Bt w4 W3.heap.size (.slice ab mb cb) bs) := hbb
    clear hB4 hw4 hbw hbb
    go_upto_region 7 with fail
    have HQ : Hid (∀ w', Below w4.heap.size w4 w' → Below W3.heap.size W3 w' ∧ (∀ j, w'.cell? ⟨w.heap.size, j, none⟩ = (gcs (.slice aa os.length ac) (.slice ba ts.length bc) (.slice ca g.hs.length cc) (.slice da g.rg.length dc) (.slice qa g.qu.length qc) g.next)[j]?) ∧ ∀ j, w'.cell? ⟨w2.heap.size, j, none⟩ = (gcs (.slice (some ⟨b1, 0, none⟩) os2.length (os2.length + 8)) (.slice (some ⟨b2, 0, none⟩) ts2.length (ts2.length + 8)) (.slice (some ⟨b3, 0, none⟩) g.hs.length (g.hs.length + 40)) (.slice (some ⟨b4, 0, none⟩) g.rg.length (g.rg.length + 40)) (.slice (some ⟨b5, 0, none⟩) g.qu.length (g.qu.length + 40)) g.next)[j]?) := fun w' b' => by
      have h1 := HB4.out.trans (b'.mono HB4.out.size)
      exact ⟨h1, fun j => HKj0.out w' (HB3.out.trans (h1.mono HB3.out.size)) j, HK3.out w' h1⟩
    have HC1 : Hid (∀ w', Below w4.heap.size w4 w' → Calls Tryd.prog 13 #[.slice ab mb cb, .slice aw mw cw] w' fun e w'' => e = .returned (.bool true) ∧ Below w'.heap.size w' w'') := fun w' b' => (sameb_any (Hbb.out.keep b') (Hbw.out.keep b')).mono fun e w'' h => ⟨h.1, h.2 ▸ Below.refl _ _⟩
    have HC2 : Hid (∀ w', Below w4.heap.size w4 w' → Calls Tryd.prog 15 #[.agg (gcs (.slice (some ⟨b1, 0, none⟩) os2.length (os2.length + 8)) (.slice (some ⟨b2, 0, none⟩) ts2.length (ts2.length + 8)) (.slice (some ⟨b3, 0, none⟩) g.hs.length (g.hs.length + 40)) (.slice (some ⟨b4, 0, none⟩) g.rg.length (g.rg.length + 40)) (.slice (some ⟨b5, 0, none⟩) g.qu.length (g.qu.length + 40)) g.next), .agg (gcs (.slice aa os.length ac) (.slice ba ts.length bc) (.slice ca g.hs.length cc) (.slice da g.rg.length dc) (.slice qa g.qu.length qc) g.next)] w' fun e w'' => e = .returned (.bool true) ∧ Below w'.heap.size w' w'') := fun w' b' => by
      have h1 := (HQ.out w' b').1
      have h2 := HB3.out.trans (h1.mono HB3.out.size)
      have h3 := (HG.out w' (HK.out w' h2).1).mono (n1 := W3.heap.size) (HK.out W3 HB3.out).1.size
      have h4 := Hz2.out
      unfold gsz szs at h4
      exact same16_eq W3.heap.size w' h1.size _ _ _ _ _ _ _ _ _ _ os2 os ts2 ts g (Hg3.out w' h1) h3 (by omega) (sln_of Hz2.out) (by omega) (by omega) (by omega)
    have HC3 : Hid (∀ w', Below w4.heap.size w4 w' → Calls Tryd.prog 18 #[.pointer (some ⟨wa.heap.size, 0, none⟩)] w' fun e w'' => e = .returned (.bool true) ∧ Below w'.heap.size w' w'') := fun w' b' => by
      have h1 := (HQ.out w' b').1
      exact roomHold_rg ((Hbd3.out.below h1).rg (by have := Htt2.out; omega))
    have hc := num16_any r0 w4
    go_wp2_with fail
    refine hc.mono ?_
    rintro e w4a ⟨rfl, rfl⟩
    clear hc
    have hc := sameb_any Hbb.out Hbw.out
    go_wp2_with fail
    refine hc.mono ?_
    rintro e w4b ⟨rfl, rfl⟩
    clear hc
    obtain ⟨-, kz, ky⟩ := HQ.out w4b (Below.refl _ _)
    have z0 := kz 0
    have z1 := kz 1
    have z2 := kz 2
    have z3 := kz 3
    have z4 := kz 4
    have z5 := kz 5
    have y0 := ky 0
    have y1 := ky 1
    have y2 := ky 2
    have y3 := ky 3
    have y4 := ky 4
    have y5 := ky 5
    simp only [List.getElem?_toArray, List.getElem?_cons_zero, List.getElem?_cons_succ] at z0 z1 z2 z3 z4 z5 y0 y1 y2 y3 y4 y5
    clear kz ky
    have hc := HC2.out w4b (Below.refl _ _)
    go_wp2_with fail
    refine hc.mono ?_
    rintro e w4c ⟨rfl, b4c⟩
    clear hc z0 z1 z2 z3 z4 z5 y0 y1 y2 y3 y4 y5
    have hc := HC3.out w4c b4c
    go_wp2_with fail
    refine hc.mono ?_
    rintro e w5 ⟨rfl, b5'⟩
    have HB5 : Hid (Below w4b.heap.size w4b w5) := b4c.trans (b5'.mono b4c.size)
    clear hc b4c b5' HC1 HC2 HC3
    obtain ⟨-, -, k⟩ := HQ.out w5 HB5.out
    have k0 := k 0
    have k1 := k 1
    have k2 := k 2
    have k3 := k 3
    have k4 := k 4
    have k5 := k 5
    simp only [List.getElem?_toArray, List.getElem?_cons_zero, List.getElem?_cons_succ] at k0 k1 k2 k3 k4 k5
    clear k
    go_upto_region 9 with fail
    have HB35 : Hid (Below W3.heap.size W3 w5) := (HQ.out w5 HB5.out).1
    have Hl5 : Hid (Lent w5 N2 [] wa.heap.size (.slice (some ⟨b1, 0, none⟩) os2.length (os2.length + 8)) (.slice (some ⟨b2, 0, none⟩) ts2.length (ts2.length + 8)) (.slice (some ⟨b3, 0, none⟩) g.hs.length (g.hs.length + 40)) (.slice (some ⟨b4, 0, none⟩) g.rg.length (g.rg.length + 40)) (.slice (some ⟨b5, 0, none⟩) g.qu.length (g.qu.length + 40)) os2 ts2 g) := (Hl3.out.stp (Stp.below HB35.out)).stp ⟨Kg.Touch.refl _ _, fun k hk => by simp at hk, fun _ _ _ => rfl⟩
    have hn5 : wa.heap.size ≤ w5.heap.size := Nat.le_trans (by have h1 := HBd.out.r; have h2 := Kg.heap_lt h1; have h3 := Htc2.out.size; omega) HB35.out.size
    have hc := turn16_any (w := w5) (N := N2) (n1 := wa.heap.size) ⟨⟨os2, ts2, g, Hl5.out, Hr2.out, rfl, rfl, rfl, rfl, rfl⟩, Keeps.refl _ _, Below.refl _ _⟩ Hz2.out hn5
    go_wp2_with fail
    refine hc.mono ?_
    rintro e w6 ⟨rfl, ht6⟩
    obtain ⟨⟨os3, ts3, g3, hl3, hr3, hz3, hx3, -, -, -⟩, kp6, b6⟩ := ht6
    have Hl6 : Hid (Lent w6 N2 [] wa.heap.size (.slice (some ⟨b1, 0, none⟩) os2.length (os2.length + 8)) (.slice (some ⟨b2, 0, none⟩) ts2.length (ts2.length + 8)) (.slice (some ⟨b3, 0, none⟩) g.hs.length (g.hs.length + 40)) (.slice (some ⟨b4, 0, none⟩) g.rg.length (g.rg.length + 40)) (.slice (some ⟨b5, 0, none⟩) g.qu.length (g.qu.length + 40)) os3 ts3 g3) := hl3
    have Hr3 : Hid (∀ x, x ∈ os3 → obR x.o) := hr3
    have Hz3 : Hid (gsz os3 ts3 g3 ≤ 16384) := by
      show _ ≤ _
      rw [hz3]
      exact Hz2.out
    have Hx3 : Hid (g3.next = g.next) := hx3
    have Hkp : Hid (Keeps w5 w6 N2) := kp6
    have HB6 : Hid (Below wa.heap.size w5 w6) := b6
    clear hc k0 k1 k2 k3 k4 k5 hl3 hr3 hz3 hx3 kp6 b6
    go_upto_region 11 with fail
    have hbd6 := Bd.new w6 w6.heap.size (Nat.le_refl _)
    have hbS : Below w6.heap.size w6 (w6.alloc (.cells (rmc (.slice none 0 0) (.slice none 0 0) (.slice none 0 0) (.slice none 0 0) (.slice none 0 0)) 51)) := Below.alloc (Below.refl _ _) (Nat.le_refl _) _
    have hsS : (w6.alloc (.cells (rmc (.slice none 0 0) (.slice none 0 0) (.slice none 0 0) (.slice none 0 0) (.slice none 0 0)) 51)).heap.size = w6.heap.size + 1 := by simp
    rw [show (#[.slice none 0 0, .slice none 0 0, .slice none 0 0, .slice none 0 0, .slice none 0 0, .slice none 0 0, .slice none 0 0, .slice none 0 0] : Array Value) = rmc (.slice none 0 0) (.slice none 0 0) (.slice none 0 0) (.slice none 0 0) (.slice none 0 0) from rfl]
    generalize hWS : w6.alloc (.cells (rmc (.slice none 0 0) (.slice none 0 0) (.slice none 0 0) (.slice none 0 0) (.slice none 0 0)) 51) = WS at *
    have HK6 : Hid (∀ w', Below w6.heap.size w6 w' → ∀ j, w'.cell? ⟨w2.heap.size, j, none⟩ = (gcs (.slice (some ⟨b1, 0, none⟩) os2.length (os2.length + 8)) (.slice (some ⟨b2, 0, none⟩) ts2.length (ts2.length + 8)) (.slice (some ⟨b3, 0, none⟩) g.hs.length (g.hs.length + 40)) (.slice (some ⟨b4, 0, none⟩) g.rg.length (g.rg.length + 40)) (.slice (some ⟨b5, 0, none⟩) g.qu.length (g.qu.length + 40)) g.next)[j]?) := fun w' b' j => by
      have h0 : w2.heap.size < w5.heap.size := Nat.lt_of_lt_of_le (by omega) HB35.out.size
      refine (b'.cell (p := ⟨w2.heap.size, j, none⟩) (Nat.lt_of_lt_of_le h0 Hkp.out.s)).trans ((Hkp.out.c w2.heap.size j h0 ?_).trans ((HQ.out w5 HB5.out).2.2 j))
      rw [Hbd2.out.d _ (Nat.le_refl _)]
      exact Nat.zero_le _
    have hnx3 : g3.next < 18446744073709551616 := by have := Hx3.out; omega
    have hg6 := Hl6.out.grd Hr3.out Hz3.out hnx3
    have HG6 : Hid (∀ w', Below w6.heap.size w6 w' → Grd w6.heap.size w' (.slice (some ⟨b1, 0, none⟩) os2.length (os2.length + 8)) (.slice (some ⟨b2, 0, none⟩) ts2.length (ts2.length + 8)) (.slice (some ⟨b3, 0, none⟩) g.hs.length (g.hs.length + 40)) (.slice (some ⟨b4, 0, none⟩) g.rg.length (g.rg.length + 40)) (.slice (some ⟨b5, 0, none⟩) g.qu.length (g.qu.length + 40)) os3 ts3 g3) := fun w' b' => hg6.below b'
    have hc := roomGraph_any hbd6 w6.heap.size (Nat.le_refl _) (by omega) _ _ _ _ _ os3 ts3 g3 (HG6.out WS hbS) (sml_of Hz3.out) (by simp [RS.tot, rs0])
    rw [Hx3.out] at hc
    have HbS : Hid (Below w6.heap.size w6 WS) := hbS
    have k0 := HK6.out WS hbS 0
    have k1 := HK6.out WS hbS 1
    have k2 := HK6.out WS hbS 2
    have k3 := HK6.out WS hbS 3
    have k4 := HK6.out WS hbS 4
    have k5 := HK6.out WS hbS 5
    simp only [List.getElem?_toArray, List.getElem?_cons_zero, List.getElem?_cons_succ] at k0 k1 k2 k3 k4 k5
    clear hg6 hbd6 hbS
    go_wp2_with fail
    refine hc.mono ?_
    rintro e w7 ⟨vo7, vs7, vh7, vr7, vq7, rfl, N7, S7, ⟨os4, ts4, hl7⟩, -, -, tc7, -⟩
    clear hc k0 k1 k2 k3 k4 k5
    have HB7 : Hid (Below w6.heap.size w6 w7) := HbS.out.trans (tc7.below HbS.out.size (fun k hk => by simp [RS.F, rs0, Value.ownBlock] at hk; omega))
    have heo := (HG6.out w6 (Below.refl _ _)).eo.symm.trans hl7.eo
    have hes := (HG6.out w6 (Below.refl _ _)).es.symm.trans hl7.es
    have hz7 : gsz os4 ts4 g3 ≤ 16384 := by
      rw [← gsz_eq (g := g3) heo hes]
      exact Hz3.out
    have hc := rWrite_any w7.heap.size w7 (Nat.le_refl _) vo7 vs7 vh7 vr7 vq7 os4 ts4 g3 (hl7.grd (obR_of heo Hr3.out) hz7 hnx3) hz7 (obR_of heo Hr3.out)
    rw [Hx3.out] at hc
    clear heo hes hz7 hl7 tc7
    go_wp2_with fail
    refine hc.mono ?_
    rintro e w8 ⟨vw8, r2, rfl, b8, hw8⟩
    have HB8 : Hid (Below w6.heap.size w6 w8) := HB7.out.trans (b8.mono HB7.out.size)
    have Hw8 : Hid (Wrote w7 w8 g3 vw8 r2) := hw8
    obtain ⟨bs0, -, hbt0⟩ := hw8.bt
    obtain ⟨aw8, mw8, cw8, hvw⟩ := own_slN hbt0
    subst hvw
    clear hc b8 hw8 hbt0 bs0
    go_upto_region 12 with fail
    have HBa : Hid (∀ w', Below w6.heap.size w6 w' → Below w.heap.size w w') := fun w' b' => by
      have h1 := (HK.out w5 (HB3.out.trans (HB35.out.mono HB3.out.size))).1
      have h2 := h1.trans (HB6.out.mono hw01)
      exact h2.trans (b'.mono h2.size)
    have HLw : Hid (∀ w', Below w6.heap.size w6 w' → Laid w') := fun w' b' => HL.out w' (HBa.out w' b')
    have hc := iWrite_any w6.heap.size w8 HB8.out.size (HLw.out w8 HB8.out) _ _ _ _ _ os3 ts3 g3 (HG6.out w8 HB8.out) Hz3.out Hr3.out
    rw [Hx3.out] at hc
    have k0 := HK6.out w8 HB8.out 0
    have k1 := HK6.out w8 HB8.out 1
    have k2 := HK6.out w8 HB8.out 2
    have k3 := HK6.out w8 HB8.out 3
    have k4 := HK6.out w8 HB8.out 4
    have k5 := HK6.out w8 HB8.out 5
    simp only [List.getElem?_toArray, List.getElem?_cons_zero, List.getElem?_cons_succ] at k0 k1 k2 k3 k4 k5
    go_wp2_with fail
    refine hc.mono ?_
    rintro e w9 ⟨vb9, r3, rfl, b9, hw9⟩
    obtain ⟨e23, bs9, hbw9, hbb9⟩ := Hw8.out.same hw9
    subst e23
    obtain ⟨ab9, mb9, cb9, hvb⟩ := own_slN hbb9
    subst hvb
    have Hbw9 : Hid (Bt w9 w7.heap.size (.slice aw8 mw8 cw8) bs9) := hbw9.keep b9
    have Hbb9 : Hid (Bt w9 w8.heap.size (.slice ab9 mb9 cb9) bs9) := hbb9
    clear hbw9 hbb9 hw9
    have HB9 : Hid (Below w6.heap.size w6 w9) := HB8.out.trans (b9.mono HB8.out.size)
    have HC3 : Hid (∀ w', Below w9.heap.size w9 w' → Calls Tryd.prog 18 #[.pointer (some ⟨wa.heap.size, 0, none⟩)] w' fun e w'' => e = .returned (.bool true) ∧ Below w'.heap.size w' w'') := fun w' b' =>
      roomHold_rg ((((Hbd3.out.below HB35.out).rg (by have := Htt2.out; omega)).keep Hkp.out).keep (Keeps.below (HB9.out.trans (b'.mono HB9.out.size))))
    clear hc k0 k1 k2 k3 k4 k5 b9
    go_upto_region 13 with fail
    have hc := num16_any r2 w9
    go_wp2_with fail
    refine hc.mono ?_
    rintro e w10 ⟨rfl, rfl⟩
    clear hc
    have hc := sameb_any Hbb9.out Hbw9.out
    go_wp2_with fail
    refine hc.mono ?_
    rintro e w10' ⟨rfl, rfl⟩
    clear hc
    have hc := HC3.out w10' (Below.refl _ _)
    go_wp2_with fail
    refine hc.mono ?_
    rintro e w11 ⟨rfl, b11⟩
    clear hc
    have HB11 : Hid (Below w.heap.size w w11) := HBa.out w11 (HB9.out.trans (b11.mono HB9.out.size))
    clear b11
    go_wp2
    go_ret
    exact ⟨rfl, HB11.out⟩

end Go.Proofs.YtblbiikfipcbcaaDoor
