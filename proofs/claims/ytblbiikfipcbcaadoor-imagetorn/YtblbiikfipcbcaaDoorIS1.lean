/-
  Images: ImageRound walked.
-/
import Derived.Test.YtblbiikfipcbcaaDoorIRp
import Derived.Test.YtblbiikfipcbcaaDoorPSg
import Derived.Test.YtblbiikfipcbcaaDoorPSg
set_option linter.unusedVariables false
set_option maxRecDepth 20000
namespace Go.Proofs.YtblbiikfipcbcaaDoor
open Go.RowKit Go.Shelf

/-- A graph in a block. -/
theorem gcell {w : World} {A : Nat} {vo vs vh vr vq : Value} {n : Int} (h : w.heap[A]? = some (.cells (gcs vo vs vh vr vq n) 29 (0, 0))) : w.cell? ⟨A, 0, none⟩ = some vo ∧ w.cell? ⟨A, 1, none⟩ = some vs ∧ w.cell? ⟨A, 2, none⟩ = some vh ∧ w.cell? ⟨A, 3, none⟩ = some vr ∧ w.cell? ⟨A, 4, none⟩ = some vq ∧ w.cell? ⟨A, 5, none⟩ = some (.int .u64 n) :=
  ⟨Kg.heap_cell h 0, Kg.heap_cell h 1, Kg.heap_cell h 2, Kg.heap_cell h 3, Kg.heap_cell h 4, Kg.heap_cell h 5⟩

set_option maxHeartbeats 8000000 in
theorem round_any (w : World) (hL : Laid w) (vo vs vh vr vq : Value) (os : List OL) (ts : List (Value × List (Value × List Int))) (g : Im.Gr) (hg : Grd w.heap.size w vo vs vh vr vq os ts g) (hI : Inb os ts g) (hr : ∀ x, x ∈ os → obR x.o) :
    Calls Tryd.prog 5 #[.agg (gcs vo vs vh vr vq g.next)] w fun e w' => e = .returned (.bool true) ∧ Below w.heap.size w w' := by
  have l1 : Below w.heap.size w (w.alloc (.cells (gcs vo vs vh vr vq g.next) 29)) := Below.alloc (Below.refl _ _) (Nat.le_refl _) _
  have hx := heap_alloc_new w (.cells (gcs vo vs vh vr vq g.next) 29 (0, 0))
  generalize hW : w.alloc (.cells (gcs vo vs vh vr vq g.next) 29) = W at *
  have HL : Hid (∀ w', Below w.heap.size w w' → Laid w') := fun w' b' => hL.keep b'
  have HG : Hid (∀ w', Below w.heap.size w w' → Grd w.heap.size w' vo vs vh vr vq os ts g) := fun w' b' => hg.below b'
  have HX : Hid (∀ w', Below W.heap.size W w' → Below w.heap.size w w' ∧ w'.heap[w.heap.size]? = some (.cells (gcs vo vs vh vr vq g.next) 29 (0, 0))) := fun w' b' => ⟨l1.trans (b'.mono l1.size), (b'.block _ (Kg.heap_lt hx)).trans hx⟩
  have HR : Hid (∀ x, x ∈ os → obR x.o) := hr
  have HI : Hid (Inb os ts g) := hI
  have HNX : Hid (g.next < 18446744073709551616) := hg.nx
  obtain ⟨aa, ac, ea, -⟩ := hg.ob
  obtain ⟨ba, bc, eb, -⟩ := hg.sl
  obtain ⟨ca, cc, ec, -, -⟩ := hg.hs
  obtain ⟨da, dc, ed, -, -⟩ := hg.rg
  obtain ⟨qa, qc, eq, -, -⟩ := hg.qu
  subst ea eb ec ed eq
  have hK := known16_any W (HL.out W l1)
  clear hg hI hr hL hx l1
  go_enter Tryd.func5, Tryd.ntmps5
  go_wp2_with fail
  refine hK.mono ?_
  rintro e w1 ⟨rfl, b1⟩
  have B1 : Hid (Below W.heap.size W w1) := b1
  clear hK b1
  obtain ⟨k0, k1, k2, k3, k4, k5⟩ := gcell (HX.out w1 B1.out).2
  have hC := small16_any w.heap.size w1 (HX.out w1 B1.out).1.size _ _ _ _ _ os ts g (HG.out w1 (HX.out w1 B1.out).1) HI.out
  go_wp2_with fail
  refine hC.mono ?_
  rintro e w2 ⟨r, rfl, b2, hrz⟩
  have B2 : Hid (Below W.heap.size W w2) := B1.out.trans (b2.mono B1.out.size)
  clear hC b2 k0 k1 k2 k3 k4 k5 B1
  cases r with
  | false =>
    go_wp2
    go_ret
    exact ⟨rfl, (HX.out _ B2.out).1⟩
  | true =>
    have Hz : Hid (gsz os ts g ≤ 16384) := hrz rfl
    clear hrz
    obtain ⟨k0, k1, k2, k3, k4, k5⟩ := gcell (HX.out w2 B2.out).2
    have hC := iWrite_any w.heap.size w2 (HX.out w2 B2.out).1.size (HL.out _ (HX.out w2 B2.out).1) _ _ _ _ _ os ts g (HG.out w2 (HX.out w2 B2.out).1) Hz.out HR.out
    go_wp2_with fail
    refine hC.mono ?_
    rintro e w3 ⟨v, r, rfl, b3, hw⟩
    have B3 : Hid (Below W.heap.size W w3) := B2.out.trans (b3.mono B2.out.size)
    clear hC b3 k0 k1 k2 k3 k4 k5 B2
    obtain ⟨k0, k1, k2, k3, k4, k5⟩ := gcell (HX.out w3 B3.out).2
    have hC := iCheck_any w.heap.size w3 _ _ _ _ _ os ts g (HG.out w3 (HX.out w3 B3.out).1) (HX.out w3 B3.out).1.size (HL.out _ (HX.out w3 B3.out).1) (gln_of Hz.out (HG.out w (Below.refl _ _)).eo (HG.out w (Below.refl _ _)).es)
    rcases hw with ⟨rfl, hm, ho⟩ | ⟨rfl, hm, rfl⟩
    · have hv := Lrd.of_bts (Kg.row_base ho (Nat.zero_le _))
      obtain ⟨av, cv, rfl, hcv, -⟩ := hv.byte
      obtain ⟨q1, q2, q3⟩ := wback (HG.out w (Below.refl _ _)) (by have := Hz.out; omega) HR.out hm
      have HQ : Hid (Im.dec (Im.enc (Im.toNG g)) = .ok (Im.toNG g) ∧ Im.wNG (Im.toNG g) = g) := ⟨q2, q3⟩
      have Hm : Hid (MB g) := hm
      have hel := enc_le (HG.out w (Below.refl _ _)) Hz.out hm (wc_of (HG.out w (Below.refl _ _)) Hz.out HR.out hm)
      have HEl : Hid ((Im.enc (Im.toNG g)).length ≤ 1000000000000) := by show _ ≤ _; rw [Im.enc_len]; omega
      have Hv : Hid (Lrd w3.heap.size w3 (.slice av (Im.enc (Im.toNG g)).length cv) .u8 ((Im.enc (Im.toNG g)).map Int.ofNat)) := hv
      clear q1 q2 q3 hm hel hv ho
      generalize (Im.enc (Im.toNG g)).length = L at Hv hcv ⊢
      go_wp2_with fail
      refine hC.mono ?_
      rintro e w4 ⟨r, rfl, b4, h4⟩
      have B4 : Hid (Below W.heap.size W w4) := B3.out.trans (b4.mono B3.out.size)
      have Hv4 : Hid (Lrd w4.heap.size w4 (.slice av L cv) .u8 ((Im.enc (Im.toNG g)).map Int.ofNat)) := (Hv.out.below b4).mono b4.size
      clear hC b4 k0 k1 k2 k3 k4 k5 B3 Hv
      rcases h4 with ⟨rfl, -⟩ | ⟨-, hm4⟩
      case inr => exact absurd Hm.out hm4
      go_wp2_with fail
      refine (num16_any 0 w4).mono ?_
      rintro e wa ⟨rfl, rfl⟩
      go_wp2_with fail
      refine (num16_any 0 wa).mono ?_
      rintro e wb ⟨rfl, rfl⟩
      go_wp2_with fail
      refine (num16_any 0 wb).mono ?_
      rintro e wc ⟨rfl, rfl⟩
      have hC := iRead_any Hv4.out (Nat.le_refl _) HEl.out (Im.enc_byte _) (HL.out _ (HX.out wc B4.out).1)
      go_wp2_with fail
      refine hC.mono ?_
      rintro e w5 ⟨b5, h5⟩
      have B5 : Hid (Below W.heap.size W w5) := B4.out.trans (b5.mono B4.out.size)
      clear hC b5 B4 Hv4
      unfold Rres at h5
      rw [HQ.out.1] at h5
      simp only [HQ.out.2] at h5
      rcases h5 with ⟨hm5, -⟩ | ⟨-, vo2, vs2, vh2, vr2, vq2, os2, ts2, rfl, hG2, -⟩
      case inl => exact absurd Hm.out hm5
      obtain ⟨xa, xc, ea, -⟩ := hG2.ob
      obtain ⟨ya, yc, eb, -⟩ := hG2.sl
      obtain ⟨za, zc, ec, -, -⟩ := hG2.hs
      obtain ⟨ta, tc, ed, -, -⟩ := hG2.rg
      obtain ⟨ua, uc, eq, -, -⟩ := hG2.qu
      subst ea eb ec ed eq
      have HG2 : Hid (Grd w5.heap.size w5 (.slice xa os2.length xc) (.slice ya ts2.length yc) (.slice za g.hs.length zc) (.slice ta g.rg.length tc) (.slice ua g.qu.length uc) os2 ts2 g) := hG2
      clear hG2
      go_wp2_with fail
      have b6 := Below.alloc (Below.refl w5.heap.size w5) (Nat.le_refl _) (.cells (gcs (.slice xa os2.length xc) (.slice ya ts2.length yc) (.slice za g.hs.length zc) (.slice ta g.rg.length tc) (.slice ua g.qu.length uc) g.next) 29)
      have h6 := heap_alloc_new w5 (.cells (gcs (.slice xa os2.length xc) (.slice ya ts2.length yc) (.slice za g.hs.length zc) (.slice ta g.rg.length tc) (.slice ua g.qu.length uc) g.next) 29 (0, 0))
      change Calls _ _ _ (w5.alloc (.cells (gcs (.slice xa os2.length xc) (.slice ya ts2.length yc) (.slice za g.hs.length zc) (.slice ta g.rg.length tc) (.slice ua g.qu.length uc) g.next) 29)) _
      generalize w5.alloc (.cells (gcs (.slice xa os2.length xc) (.slice ya ts2.length yc) (.slice za g.hs.length zc) (.slice ta g.rg.length tc) (.slice ua g.qu.length uc) g.next) 29) = w6 at *
      have B6 : Hid (Below W.heap.size W w6) := B5.out.trans (b6.mono B5.out.size)
      have HG6 : Hid (Grd w6.heap.size w6 (.slice xa os2.length xc) (.slice ya ts2.length yc) (.slice za g.hs.length zc) (.slice ta g.rg.length tc) (.slice ua g.qu.length uc) os2 ts2 g) := (HG2.out.below b6).mono b6.size
      clear HG2 B5 b6
      obtain ⟨k0, k1, k2, k3, k4, k5⟩ := gcell (HX.out w6 B6.out).2
      obtain ⟨m0, m1, m2, m3, m4, m5⟩ := gcell h6
      have hsz : os.length ≤ 16384 ∧ g.hs.length ≤ 16384 ∧ g.rg.length ≤ 16384 ∧ g.qu.length ≤ 16384 := by have := Hz.out; unfold gsz szs at this; omega
      have hC := same16_eq w6.heap.size w6 (Nat.le_refl _) _ _ _ _ _ _ _ _ _ _ os os2 ts ts2 g ((HG.out w6 (HX.out w6 B6.out).1).mono (HX.out w6 B6.out).1.size) HG6.out (by omega) (sln_of Hz.out) (by omega) (by omega) (by omega)
      refine (num16_any 0 w6).mono ?_
      rintro e wd ⟨rfl, rfl⟩
      go_wp2_with fail
      refine hC.mono ?_
      rintro e w7 ⟨rfl, b7⟩
      have B7 : Hid (Below W.heap.size W w7) := B6.out.trans (b7.mono B6.out.size)
      clear hC
      go_wp2
      go_ret
      exact ⟨rfl, (HX.out _ B7.out).1⟩
    · have Hm : Hid (¬ MB g) := hm
      go_wp2_with fail
      refine hC.mono ?_
      rintro e w4 ⟨r, rfl, b4, h4⟩
      have B4 : Hid (Below W.heap.size W w4) := B3.out.trans (b4.mono B3.out.size)
      clear hC b4 k0 k1 k2 k3 k4 k5 B3
      rcases h4 with ⟨rfl, hm4⟩ | ⟨rfl, -⟩
      case inl => exact absurd hm4 Hm.out
      go_wp2_with fail
      refine (num16_any 164 w4).mono ?_
      rintro e wa ⟨rfl, rfl⟩
      go_wp2_with fail
      refine (num16_any 164 wa).mono ?_
      rintro e wb ⟨rfl, rfl⟩
      go_wp2_with fail
      refine (num16_any 164 wb).mono ?_
      rintro e wc ⟨rfl, rfl⟩
      go_wp2_with fail
      refine (num16_any 164 wc).mono ?_
      rintro e wd ⟨rfl, rfl⟩
      go_wp2
      go_ret
      exact ⟨rfl, (HX.out _ B4.out).1⟩

end Go.Proofs.YtblbiikfipcbcaaDoor
