import Derived.Test.YtkekaifiahjljaaGreatDoorC10
import Derived.Test.YtkekaifiahjljaaGreatDoorC29
import Derived.Test.YtkekaifiahjljaaGreatDoorC41
import Derived.Test.YtkekaifiahjljaaGreatDoorC28
import Derived.Test.YtkekaifiahjljaaGreatDoorC17
set_option linter.unusedVariables false
set_option maxHeartbeats 8000000
set_option maxRecDepth 20000
namespace Go.Proofs.YtkekaifiahjljaaGreatDoor
open Go.RowKit Go.Shelf
theorem same17_eq (n0 : Nat) (va vb : Value) (l : List Int) (w : World) (ha : Lrd n0 w va .i64 l) (hb : Lrd n0 w vb .i64 l) (hl : l.length ≤ 4611686018427387904) :
    Calls Tryz.prog 23 #[va, vb] w fun e w' => e = .returned (.bool true) ∧ ∃ nq, w' = w.drewN nq := by
  obtain ⟨a, ca, rfl, -, ha'⟩ := ha
  obtain ⟨b, cb, rfl, -, hb'⟩ := hb
  have Ha : Hid (∀ (f : Nat) z, l[f]? = some z → ∃ q off, a = some ⟨q, off, none⟩ ∧ q < n0 ∧ w.cell? ⟨q, off + f, none⟩ = some (.int .i64 z)) := ha'
  have Hb : Hid (∀ (f : Nat) z, l[f]? = some z → ∃ q off, b = some ⟨q, off, none⟩ ∧ q < n0 ∧ w.cell? ⟨q, off + f, none⟩ = some (.int .i64 z)) := hb'
  clear ha' hb'
  go_enter Tryz.func23, Tryz.ntmps23
  go_wp2
  go_loopw [5] (fun v5 wr => ∃ (k m : Nat), k ≤ l.length ∧ v5 = .int .i64 k ∧ wr = w.drewN m) (fun v5 _ => l.length - (intOf v5).toNat)
  case atStart => exact ⟨0, 0, Nat.zero_le _, rfl, rfl⟩
  case round =>
    obtain ⟨k, m, hk, rfl, rfl⟩ := hrel
    by_cases hkl : k < l.length
    · have hki : (k : Int) < (l.length : Int) := by omega
      have hz : l[k]? = some (l[k]'hkl) := List.getElem?_eq_getElem hkl
      generalize l[k]'hkl = z at hz
      obtain ⟨q, off, rfl, -, ca'⟩ := Ha.out k z hz
      obtain ⟨q', off', rfl, -, cb'⟩ := Hb.out k z hz
      clear hz
      go_upto_region 6 with fail
      go_quiet (fail)
      go_wp2
      go_roundw
      case rel => exact ⟨k + 1, m + nq, by omega, by go_num, rfl⟩
      case measure => simp [intOf]; omega
    · have hki : ¬ (k : Int) < (l.length : Int) := by omega
      go_wp2
      go_ret
      exact ⟨rfl, m, rfl⟩
end Go.Proofs.YtkekaifiahjljaaGreatDoor
namespace Go.Proofs.YtkekaifiahjljaaGreatDoor
open Go.RowKit Go.Shelf Go.Proofs.YtkekaifiahjljaaGreatDoor.Lt Go.Proofs.YtkekaifiahjljaaGreatDoor.Lp
theorem ex_big (B : Nat) : Big19 (exOs B) (exTs B) gEx := by
  refine big19_of ?_ rfl rfl
  simp [gsz, szs, osum, tsum, fsum, exOs, exTs, gEx]
theorem Big19.big17 {os : List OL} {ts : List (Value × List (Value × List Int))} {g : Im.Gr} (h : Big19 os ts g) : Big17 os ts g := ⟨h.l, h.s, h.o, h.e⟩
theorem known17_any (w : World) (hL : Laid w) : Calls Tryz.prog 7 #[] w fun e w' => e = .returned (.bool true) ∧ Below w.heap.size w w' := by
  have HL : Hid (∀ w', Below w.heap.size w w' → Laid w') := fun w' b' => hL.keep b'
  have q := example17_any w
  obtain ⟨B5, hB5⟩ : ∃ b, b = w.heap.size + 5 := ⟨_, rfl⟩
  obtain ⟨B8, hB8⟩ : ∃ b, b = w.heap.size + 8 := ⟨_, rfl⟩
  obtain ⟨os, hos⟩ : ∃ os, os = exOs w.heap.size := ⟨_, rfl⟩
  obtain ⟨ts, hts⟩ : ∃ os, os = exTs w.heap.size := ⟨_, rfl⟩
  have HBG : Hid (Big19 os ts gEx) := by
    show Big19 _ _ _
    rw [hos, hts]
    exact ex_big _
  rw [← hB5, ← hB8, ← hos, ← hts] at q
  clear hB5 hB8 hos hts hL
  go_enter Tryz.func7, Tryz.ntmps7
  go_wp2_with fail
  refine q.mono ?_
  rintro e w1 ⟨rfl, hg, b1⟩
  have hx := heap_alloc_new w1 (.cells (gcs (.slice (some ⟨B5, 0, none⟩) 6 6) (.slice (some ⟨B8, 0, none⟩) 1 1) (.slice none 0 0) (.slice none 0 0) (.slice none 0 0) gEx.next) 27 (0, 0))
  have b2 : Below w1.heap.size w1 (w1.alloc (.cells (gcs (.slice (some ⟨B5, 0, none⟩) 6 6) (.slice (some ⟨B8, 0, none⟩) 1 1) (.slice none 0 0) (.slice none 0 0) (.slice none 0 0) gEx.next) 27)) := Below.alloc (Below.refl _ _) (Nat.le_refl _) _
  have h9 := hg.below b2
  have HX : Hid (∀ w', Below (w1.alloc (.cells (gcs (.slice (some ⟨B5, 0, none⟩) 6 6) (.slice (some ⟨B8, 0, none⟩) 1 1) (.slice none 0 0) (.slice none 0 0) (.slice none 0 0) gEx.next) 27)).heap.size (w1.alloc (.cells (gcs (.slice (some ⟨B5, 0, none⟩) 6 6) (.slice (some ⟨B8, 0, none⟩) 1 1) (.slice none 0 0) (.slice none 0 0) (.slice none 0 0) gEx.next) 27)) w' → Below w.heap.size w w' ∧ w1.heap.size ≤ w'.heap.size ∧ Grd w1.heap.size w' (.slice (some ⟨B5, 0, none⟩) 6 6) (.slice (some ⟨B8, 0, none⟩) 1 1) (.slice none 0 0) (.slice none 0 0) (.slice none 0 0) os ts gEx ∧ ∀ j v, (gcs (.slice (some ⟨B5, 0, none⟩) 6 6) (.slice (some ⟨B8, 0, none⟩) 1 1) (.slice none 0 0) (.slice none 0 0) (.slice none 0 0) gEx.next)[j]? = some v → w'.cell? ⟨w1.heap.size, j, none⟩ = some v) := fun w' b' => by
    have b3 := b2.trans (b'.mono b2.size)
    exact ⟨b1.trans (b3.mono b1.size), b3.size, hg.below b3, fun j v h => (Kg.heap_cell ((b'.block _ (Kg.heap_lt hx)).trans hx) j).trans h⟩
  clear q hg b1 b2 hx h9
  go_upto_region 2 with fail
  change Code.wp _ _ _ _ (w1.alloc (.cells (gcs (.slice (some ⟨B5, 0, none⟩) 6 6) (.slice (some ⟨B8, 0, none⟩) 1 1) (.slice none 0 0) (.slice none 0 0) (.slice none 0 0) gEx.next) 27))
  generalize w1.alloc (.cells (gcs (.slice (some ⟨B5, 0, none⟩) 6 6) (.slice (some ⟨B8, 0, none⟩) 1 1) (.slice none 0 0) (.slice none 0 0) (.slice none 0 0) gEx.next) 27) = W at *
  obtain ⟨A, hA⟩ : ∃ A, A = w1.heap.size := ⟨_, rfl⟩
  rw [← hA] at HX ⊢
  clear hA
  have HBr : Hid (Below W.heap.size W W) := Below.refl _ _
  obtain ⟨bw, hn, hg, hc⟩ := HX.out W HBr.out
  have y0 := hc 0 _ rfl
  have y1 := hc 1 _ rfl
  have y2 := hc 2 _ rfl
  have y3 := hc 3 _ rfl
  have y4 := hc 4 _ rfl
  have y5 := hc 5 _ rfl
  have q := lDominators_any A W _ _ _ _ _ os ts gEx hg hn (HL.out _ bw) HBG.out
  clear bw hn hg hc
  go_wp2_with fail
  refine q.mono ?_
  rintro e w2 ⟨v2, l2, e2, rfl, o2, c2, p2⟩
  have hu := p2.uniq (.inr ⟨ex_mb, rfl, ex_dm⟩)
  obtain ⟨rfl, rfl⟩ := hu
  have HB2 : Hid (Below W.heap.size W w2) := c2
  have HO2 : Hid (Lrd w2.heap.size w2 v2 .i64 [0, 1, 1, 1, 3, -1]) := o2
  clear q o2 c2 p2 y0 y1 y2 y3 y4 y5
  obtain ⟨bw, hn, hg, hc⟩ := HX.out w2 HB2.out
  have y0 := hc 0 _ rfl
  have y1 := hc 1 _ rfl
  have y2 := hc 2 _ rfl
  have y3 := hc 3 _ rfl
  have y4 := hc 4 _ rfl
  have y5 := hc 5 _ rfl
  have q := lRetained_any A w2 _ _ _ _ _ os ts gEx hg hn (HL.out _ bw) HBG.out
  clear bw hn hg hc
  go_wp2_with fail
  refine q.mono ?_
  rintro e w3 ⟨v3, l3, e3, rfl, o3, c3, p3⟩
  have hu := p3.uniq (.inr ⟨ex_mb, rfl, ex_dr⟩)
  obtain ⟨rfl, rfl⟩ := hu
  have HB3 : Hid (Below W.heap.size W w3) := HB2.out.trans (c3.mono HB2.out.size)
  have HO2' : Hid (Lrd w3.heap.size w3 v2 .i64 [0, 1, 1, 1, 3, -1]) := (HO2.out.below c3).mono c3.size
  have HO3 : Hid (Lrd w3.heap.size w3 v3 .i64 [19, 5, 10, 2, 6, 2]) := o3
  clear q o3 c3 p3 y0 y1 y2 y3 y4 y5 HO2 HB2
  obtain ⟨bw, hn, hg, hc⟩ := HX.out w3 HB3.out
  have y0 := hc 0 _ rfl
  have y1 := hc 1 _ rfl
  have y2 := hc 2 _ rfl
  have y3 := hc 3 _ rfl
  have y4 := hc 4 _ rfl
  have y5 := hc 5 _ rfl
  have q := lPath_any A w3 _ _ _ _ _ os ts gEx hg hn (HL.out _ bw) HBG.out.big17 5 (by unfold InI; decide)
  clear bw hn hg hc
  go_wp2_with fail
  refine q.mono ?_
  rintro e w4 ⟨v4, l4, e4, rfl, o4, c4, p4⟩
  have hu := p4.uniq (.inr (.inr ⟨ex_mb, by decide, by decide, rfl, ex_row⟩))
  obtain ⟨rfl, rfl⟩ := hu
  have HB4 : Hid (Below W.heap.size W w4) := HB3.out.trans (c4.mono HB3.out.size)
  have HO2 : Hid (Lrd w4.heap.size w4 v2 .i64 [0, 1, 1, 1, 3, -1]) := (HO2'.out.below c4).mono c4.size
  have HO3' : Hid (Lrd w4.heap.size w4 v3 .i64 [19, 5, 10, 2, 6, 2]) := (HO3.out.below c4).mono c4.size
  have HO4 : Hid (Lrd w4.heap.size w4 v4 .i64 [1, 3, 5]) := o4.lrd
  clear q o4 c4 p4 y0 y1 y2 y3 y4 y5 HO2' HO3 HB3
  go_upto_region 6 with fail
  have a5 : Below w4.heap.size w4 (w4.alloc (.cells #[.int .i64 0, .int .i64 1, .int .i64 1, .int .i64 1, .int .i64 3, .int .i64 (-1)] 3)) := Below.alloc (Below.refl _ _) (Nat.le_refl _) _
  have r5 : Lrd (w4.alloc (.cells #[.int .i64 0, .int .i64 1, .int .i64 1, .int .i64 1, .int .i64 3, .int .i64 (-1)] 3)).heap.size (w4.alloc (.cells #[.int .i64 0, .int .i64 1, .int .i64 1, .int .i64 1, .int .i64 3, .int .i64 (-1)] 3)) (.slice (some ⟨w4.heap.size, 0, none⟩) 6 6) .i64 [0, 1, 1, 1, 3, -1] := ex_lrd (heap_alloc_new w4 (.cells #[.int .i64 0, .int .i64 1, .int .i64 1, .int .i64 1, .int .i64 3, .int .i64 (-1)] 3 (0, 0))) (by simp) [0, 1, 1, 1, 3, -1] rfl
  have q := same17_eq (w4.alloc (.cells #[.int .i64 0, .int .i64 1, .int .i64 1, .int .i64 1, .int .i64 3, .int .i64 (-1)] 3)).heap.size _ _ _ _ ((HO2.out.below a5).mono a5.size) r5 (by decide)
  have HBa5 : Hid (Below W.heap.size W (w4.alloc (.cells #[.int .i64 0, .int .i64 1, .int .i64 1, .int .i64 1, .int .i64 3, .int .i64 (-1)] 3))) := HB4.out.trans (a5.mono HB4.out.size)
  have HO3'5 : Hid (Lrd (w4.alloc (.cells #[.int .i64 0, .int .i64 1, .int .i64 1, .int .i64 1, .int .i64 3, .int .i64 (-1)] 3)).heap.size (w4.alloc (.cells #[.int .i64 0, .int .i64 1, .int .i64 1, .int .i64 1, .int .i64 3, .int .i64 (-1)] 3)) v3 .i64 [19, 5, 10, 2, 6, 2]) := (HO3'.out.below a5).mono a5.size
  have HO45 : Hid (Lrd (w4.alloc (.cells #[.int .i64 0, .int .i64 1, .int .i64 1, .int .i64 1, .int .i64 3, .int .i64 (-1)] 3)).heap.size (w4.alloc (.cells #[.int .i64 0, .int .i64 1, .int .i64 1, .int .i64 1, .int .i64 3, .int .i64 (-1)] 3)) v4 .i64 [1, 3, 5]) := (HO4.out.below a5).mono a5.size
  clear r5 a5
  go_wp2_with fail
  refine q.mono ?_
  rintro e w5 ⟨rfl, nq5, rfl⟩
  have HB5 : Hid (Below W.heap.size W ((w4.alloc (.cells #[.int .i64 0, .int .i64 1, .int .i64 1, .int .i64 1, .int .i64 3, .int .i64 (-1)] 3)).drewN nq5)) := below_drewN HBa5.out nq5
  have HO3'z5 : Hid (Lrd ((w4.alloc (.cells #[.int .i64 0, .int .i64 1, .int .i64 1, .int .i64 1, .int .i64 3, .int .i64 (-1)] 3)).drewN nq5).heap.size ((w4.alloc (.cells #[.int .i64 0, .int .i64 1, .int .i64 1, .int .i64 1, .int .i64 3, .int .i64 (-1)] 3)).drewN nq5) v3 .i64 [19, 5, 10, 2, 6, 2]) := (HO3'5.out.below (below_drewN (Below.refl (w4.alloc (.cells #[.int .i64 0, .int .i64 1, .int .i64 1, .int .i64 1, .int .i64 3, .int .i64 (-1)] 3)).heap.size (w4.alloc (.cells #[.int .i64 0, .int .i64 1, .int .i64 1, .int .i64 1, .int .i64 3, .int .i64 (-1)] 3))) nq5)).mono (below_drewN (Below.refl (w4.alloc (.cells #[.int .i64 0, .int .i64 1, .int .i64 1, .int .i64 1, .int .i64 3, .int .i64 (-1)] 3)).heap.size (w4.alloc (.cells #[.int .i64 0, .int .i64 1, .int .i64 1, .int .i64 1, .int .i64 3, .int .i64 (-1)] 3))) nq5).size
  have HO4z5 : Hid (Lrd ((w4.alloc (.cells #[.int .i64 0, .int .i64 1, .int .i64 1, .int .i64 1, .int .i64 3, .int .i64 (-1)] 3)).drewN nq5).heap.size ((w4.alloc (.cells #[.int .i64 0, .int .i64 1, .int .i64 1, .int .i64 1, .int .i64 3, .int .i64 (-1)] 3)).drewN nq5) v4 .i64 [1, 3, 5]) := (HO45.out.below (below_drewN (Below.refl (w4.alloc (.cells #[.int .i64 0, .int .i64 1, .int .i64 1, .int .i64 1, .int .i64 3, .int .i64 (-1)] 3)).heap.size (w4.alloc (.cells #[.int .i64 0, .int .i64 1, .int .i64 1, .int .i64 1, .int .i64 3, .int .i64 (-1)] 3))) nq5)).mono (below_drewN (Below.refl (w4.alloc (.cells #[.int .i64 0, .int .i64 1, .int .i64 1, .int .i64 1, .int .i64 3, .int .i64 (-1)] 3)).heap.size (w4.alloc (.cells #[.int .i64 0, .int .i64 1, .int .i64 1, .int .i64 1, .int .i64 3, .int .i64 (-1)] 3))) nq5).size
  generalize (w4.alloc (.cells #[.int .i64 0, .int .i64 1, .int .i64 1, .int .i64 1, .int .i64 3, .int .i64 (-1)] 3)).drewN nq5 = w5 at *
  clear q
  have a6 : Below w5.heap.size w5 (w5.alloc (.cells #[.int .i64 19, .int .i64 5, .int .i64 10, .int .i64 2, .int .i64 6, .int .i64 2] 3)) := Below.alloc (Below.refl _ _) (Nat.le_refl _) _
  have r6 : Lrd (w5.alloc (.cells #[.int .i64 19, .int .i64 5, .int .i64 10, .int .i64 2, .int .i64 6, .int .i64 2] 3)).heap.size (w5.alloc (.cells #[.int .i64 19, .int .i64 5, .int .i64 10, .int .i64 2, .int .i64 6, .int .i64 2] 3)) (.slice (some ⟨w5.heap.size, 0, none⟩) 6 6) .i64 [19, 5, 10, 2, 6, 2] := ex_lrd (heap_alloc_new w5 (.cells #[.int .i64 19, .int .i64 5, .int .i64 10, .int .i64 2, .int .i64 6, .int .i64 2] 3 (0, 0))) (by simp) [19, 5, 10, 2, 6, 2] rfl
  have q := same17_eq (w5.alloc (.cells #[.int .i64 19, .int .i64 5, .int .i64 10, .int .i64 2, .int .i64 6, .int .i64 2] 3)).heap.size _ _ _ _ ((HO3'z5.out.below a6).mono a6.size) r6 (by decide)
  have HBa6 : Hid (Below W.heap.size W (w5.alloc (.cells #[.int .i64 19, .int .i64 5, .int .i64 10, .int .i64 2, .int .i64 6, .int .i64 2] 3))) := HB5.out.trans (a6.mono HB5.out.size)
  have HO4z56 : Hid (Lrd (w5.alloc (.cells #[.int .i64 19, .int .i64 5, .int .i64 10, .int .i64 2, .int .i64 6, .int .i64 2] 3)).heap.size (w5.alloc (.cells #[.int .i64 19, .int .i64 5, .int .i64 10, .int .i64 2, .int .i64 6, .int .i64 2] 3)) v4 .i64 [1, 3, 5]) := (HO4z5.out.below a6).mono a6.size
  clear r6 a6
  go_wp2_with fail
  refine q.mono ?_
  rintro e w6 ⟨rfl, nq6, rfl⟩
  have HB6 : Hid (Below W.heap.size W ((w5.alloc (.cells #[.int .i64 19, .int .i64 5, .int .i64 10, .int .i64 2, .int .i64 6, .int .i64 2] 3)).drewN nq6)) := below_drewN HBa6.out nq6
  have HO4z5z6 : Hid (Lrd ((w5.alloc (.cells #[.int .i64 19, .int .i64 5, .int .i64 10, .int .i64 2, .int .i64 6, .int .i64 2] 3)).drewN nq6).heap.size ((w5.alloc (.cells #[.int .i64 19, .int .i64 5, .int .i64 10, .int .i64 2, .int .i64 6, .int .i64 2] 3)).drewN nq6) v4 .i64 [1, 3, 5]) := (HO4z56.out.below (below_drewN (Below.refl (w5.alloc (.cells #[.int .i64 19, .int .i64 5, .int .i64 10, .int .i64 2, .int .i64 6, .int .i64 2] 3)).heap.size (w5.alloc (.cells #[.int .i64 19, .int .i64 5, .int .i64 10, .int .i64 2, .int .i64 6, .int .i64 2] 3))) nq6)).mono (below_drewN (Below.refl (w5.alloc (.cells #[.int .i64 19, .int .i64 5, .int .i64 10, .int .i64 2, .int .i64 6, .int .i64 2] 3)).heap.size (w5.alloc (.cells #[.int .i64 19, .int .i64 5, .int .i64 10, .int .i64 2, .int .i64 6, .int .i64 2] 3))) nq6).size
  generalize (w5.alloc (.cells #[.int .i64 19, .int .i64 5, .int .i64 10, .int .i64 2, .int .i64 6, .int .i64 2] 3)).drewN nq6 = w6 at *
  clear q
  have a7 : Below w6.heap.size w6 (w6.alloc (.cells #[.int .i64 1, .int .i64 3, .int .i64 5] 3)) := Below.alloc (Below.refl _ _) (Nat.le_refl _) _
  have r7 : Lrd (w6.alloc (.cells #[.int .i64 1, .int .i64 3, .int .i64 5] 3)).heap.size (w6.alloc (.cells #[.int .i64 1, .int .i64 3, .int .i64 5] 3)) (.slice (some ⟨w6.heap.size, 0, none⟩) 3 3) .i64 [1, 3, 5] := ex_lrd (heap_alloc_new w6 (.cells #[.int .i64 1, .int .i64 3, .int .i64 5] 3 (0, 0))) (by simp) [1, 3, 5] rfl
  have q := same17_eq (w6.alloc (.cells #[.int .i64 1, .int .i64 3, .int .i64 5] 3)).heap.size _ _ _ _ ((HO4z5z6.out.below a7).mono a7.size) r7 (by decide)
  have HBa7 : Hid (Below W.heap.size W (w6.alloc (.cells #[.int .i64 1, .int .i64 3, .int .i64 5] 3))) := HB6.out.trans (a7.mono HB6.out.size)
  clear r7 a7
  go_wp2_with fail
  refine q.mono ?_
  rintro e w7 ⟨rfl, nq7, rfl⟩
  have HB7 : Hid (Below W.heap.size W ((w6.alloc (.cells #[.int .i64 1, .int .i64 3, .int .i64 5] 3)).drewN nq7)) := below_drewN HBa7.out nq7
  generalize (w6.alloc (.cells #[.int .i64 1, .int .i64 3, .int .i64 5] 3)).drewN nq7 = w7 at *
  clear q
  have HE : Hid (Below w.heap.size w w7) := (HX.out w7 HB7.out).1
  go_wp2
  go_ret
  exact ⟨rfl, HE.out⟩
end Go.Proofs.YtkekaifiahjljaaGreatDoor
namespace Go.Proofs.YtkekaifiahjljaaGreatDoor
open Go.RowKit Go.Shelf Go.Proofs.YtkekaifiahjljaaGreatDoor.Lt
def cutZ (n : Int) (l : List Int) : List Int := l.map (fun z => if z = n then 0 else z)
def cutO (n : Int) (o : Im.Ob) : Im.Ob := { o with ps := cutZ n o.ps }
def cutG (n : Int) (g : Im.Gr) : Im.Gr := { next := 0, obs := g.obs.map (cutO n), slots := g.slots.map (fun t => t.map (cutZ n)), hs := cutZ n g.hs, rg := [], qu := cutZ n g.qu }
theorem cutZ_len (n : Int) (l : List Int) : (cutZ n l).length = l.length := List.length_map _
theorem cutZ_app (n : Int) (l l' : List Int) : cutZ n (l ++ l') = cutZ n l ++ cutZ n l' := List.map_append
theorem cutZ_mem {n : Int} {l : List Int} {z : Int} (hz : z ≠ 0) : z ∈ cutZ n l ↔ z ∈ l ∧ z ≠ n := by
  unfold cutZ
  rw [List.mem_map]
  constructor
  · rintro ⟨y, hy, he⟩
    by_cases e : y = n
    · rw [if_pos e] at he; exact absurd he.symm hz
    · rw [if_neg e] at he
      rw [← he]
      exact ⟨hy, e⟩
  · rintro ⟨h1, h2⟩
    exact ⟨z, h1, if_neg h2⟩
theorem cutZ_or {n : Int} {l : List Int} {z : Int} (h : z ∈ cutZ n l) : z = 0 ∨ z ∈ l := by
  by_cases e : z = 0
  · exact .inl e
  · exact .inr ((cutZ_mem e).1 h).1
theorem cut_slots (n : Int) (s : List (List (List Int))) : slotsF (s.map (fun t => t.map (cutZ n))) = cutZ n (slotsF s) := by
  unfold slotsF cutZ
  simp only [List.map_flatten, List.map_map]
  congr 1
  refine List.map_congr_left (fun t _ => ?_)
  simp only [Function.comp, List.map_flatten]
theorem cut_roots (n : Int) (g : Im.Gr) : slotsF (cutG n g).slots ++ ((cutG n g).hs ++ (cutG n g).qu) = cutZ n (slotsF g.slots ++ (g.hs ++ g.qu)) := by
  rw [cutZ_app, cutZ_app]
  show slotsF (g.slots.map _) ++ _ = _
  rw [cut_slots]
  rfl
theorem cut_obs {n : Int} {g : Im.Gr} {k : Nat} {o : Im.Ob} (h : g.obs[k]? = some o) : (cutG n g).obs[k]? = some (cutO n o) := by
  show (g.obs.map _)[k]? = _
  rw [List.getElem?_map, h]
  rfl
theorem cut_ok {n : Int} {g : Im.Gr} (hk : Ok17 g) : Ok17 (cutG n g) := by
  have hl : (cutG n g).obs.length = g.obs.length := List.length_map _
  refine ⟨fun o ho z hz => ?_, fun z hz => ?_, fun o ho h3 => ?_⟩
  · obtain ⟨o', ho', rfl⟩ := List.mem_map.1 ho
    rw [hl]
    rcases cutZ_or hz with rfl | h
    · exact ⟨Int.le_refl _, by omega⟩
    · exact hk.p o' ho' z h
  · rw [cut_roots] at hz
    rw [hl]
    rcases cutZ_or hz with rfl | h
    · omega
    · exact hk.r z h
  · obtain ⟨o', ho', rfl⟩ := List.mem_map.1 ho
    show 2 ≤ (cutZ n o'.ps).length
    rw [cutZ_len]
    exact hk.e o' ho' h3
theorem stg_cut {n : Int} {o : Im.Ob} {z : Int} : z ∈ stg (cutO n o) ↔ z ∈ stg o ∧ z ≠ n := by
  unfold stg
  rw [List.mem_filter, List.mem_filter]
  show z ∈ (cutZ n o.ps).drop (fst17 o.kind) ∧ _ ↔ _
  have e : (cutZ n o.ps).drop (fst17 o.kind) = cutZ n (o.ps.drop (fst17 o.kind)) := by unfold cutZ; rw [List.map_drop]
  rw [e]
  constructor
  · rintro ⟨h1, h2⟩
    have h3 := of_decide_eq_true h2
    have h4 := (cutZ_mem (by omega)).1 h1
    exact ⟨⟨h4.1, h2⟩, h4.2⟩
  · rintro ⟨⟨h1, h2⟩, h3⟩
    have h4 := of_decide_eq_true h2
    exact ⟨(cutZ_mem (by omega)).2 ⟨h1, h3⟩, h2⟩
theorem wy_cut {n : Nat} {g : Im.Gr} (x y : Nat) : y ∈ wy17 (cutG n g) x ↔ y ∈ wy17 g x ∧ y ≠ n := by
  cases x with
  | zero =>
    rw [wy_rt, wy_rt, cut_roots]
    constructor
    · rintro ⟨h1, h2⟩
      have h3 := (cutZ_mem (by omega)).1 h1
      exact ⟨⟨h3.1, h2⟩, by omega⟩
    · rintro ⟨⟨h1, h2⟩, h3⟩
      exact ⟨(cutZ_mem (by omega)).2 ⟨h1, by omega⟩, h2⟩
  | succ x =>
    cases ho : g.obs[x]? with
    | none =>
      have ho' : (cutG n g).obs[x]? = none := by
        show (g.obs.map _)[x]? = _
        rw [List.getElem?_map, ho]
        rfl
      simp [wy17, ho, ho']
    | some o =>
      rw [wy_stg (cut_obs ho), wy_stg ho, stg_cut]
      constructor
      · rintro ⟨h1, h2⟩; exact ⟨h1, by omega⟩
      · rintro ⟨h1, h2⟩; exact ⟨h1, by omega⟩
theorem cutZ_get {n : Nat} {l : List Int} {i κ : Nat} (h0 : κ ≠ 0) : (cutZ n l)[i]? = some (κ : Int) ↔ l[i]? = some (κ : Int) ∧ κ ≠ n := by
  unfold cutZ
  rw [List.getElem?_map]
  cases h : l[i]? with
  | none => simp
  | some z =>
    simp only [Option.map_some, Option.some.injEq]
    by_cases e : z = n
    · rw [if_pos e]
      constructor
      · intro h'; omega
      · rintro ⟨h1, h2⟩; omega
    · rw [if_neg e]
      constructor
      · intro h'; exact ⟨h', by omega⟩
      · exact fun h' => h'.1
theorem pe_cut {n : Nat} {g : Im.Gr} (hk : Ok17 g) (i κ v : Nat) : (i, κ, v) ∈ pe17 (cutG n g) ↔ (i, κ, v) ∈ pe17 g ∧ κ ≠ n ∧ v ≠ n := by
  have hc := cut_ok (n := n) hk
  constructor
  · intro h
    obtain ⟨j, o', h1, h2⟩ := pe_mem.1 h
    have h3 := ((oe_iff (fun z hz => (hc.p o' (List.mem_of_getElem? h1) z hz).1)).1 h2).2.1
    simp only at h3
    have h4 : i = j + 1 := h3
    subst h4
    obtain ⟨a1, a2, a3, a4, a5⟩ := (pe_at hc h1 κ v).1 h
    have h5 : (g.obs.map (cutO n))[j]? = some o' := h1
    rw [List.getElem?_map] at h5
    cases ho : g.obs[j]? with
    | none => rw [ho] at h5; cases h5
    | some o =>
      rw [ho] at h5
      simp only [Option.map_some, Option.some.injEq] at h5
      subst h5
      have b2 := (cutZ_get a4).1 a2
      have b3 := (cutZ_get a5).1 a3
      exact ⟨(pe_at hk ho κ v).2 ⟨a1, b2.1, b3.1, a4, a5⟩, b2.2, b3.2⟩
  · rintro ⟨h, hn1, hn2⟩
    obtain ⟨j, o, h1, h2⟩ := pe_mem.1 h
    have h3 := ((oe_iff (fun z hz => (hk.p o (List.mem_of_getElem? h1) z hz).1)).1 h2).2.1
    simp only at h3
    have h4 : i = j + 1 := h3
    subst h4
    obtain ⟨a1, a2, a3, a4, a5⟩ := (pe_at hk h1 κ v).1 h
    exact (pe_at hc (cut_obs h1) κ v).2 ⟨a1, (cutZ_get a4).2 ⟨a2, hn1⟩, (cutZ_get a5).2 ⟨a3, hn2⟩, a4, a5⟩
theorem re_cut {n : Nat} {g : Im.Gr} (hk : Ok17 g) (y : Nat) : Re (wy17 (cutG n g)) (pe17 (cutG n g)) 0 y ↔ Re (wy17 g) (pe17 g) n y :=
  cut_re (wy_nz g) (pe_nz hk) (fun x y => wy_cut x y) (fun i κ v => pe_cut hk i κ v) y
theorem strong17_any (n0 : Nat) (w : World) (hn0 : n0 ≤ w.heap.size) (x : OL) (hl : Lrd n0 w x.vp .i64 x.o.ps) (hlen : x.o.ps.length ≤ 1000000000) :
    Calls Tryz.prog 13 #[.agg x.cells] w fun e w' => ∃ v, e = .returned v ∧ Il w' w.heap.size v (stg x.o) ∧ Below w.heap.size w w' := by
  obtain ⟨pa, pc, ep, -, hp⟩ := hl
  have HP : Hid (∀ (f : Nat) z, x.o.ps[f]? = some z → ∃ q off, pa = some ⟨q, off, none⟩ ∧ q < n0 ∧ w.cell? ⟨q, off + f, none⟩ = some (.int .i64 z)) := hp
  have h1 := heap_alloc_new w (.cells (ocs x.o.ser x.o.kind x.o.site (.slice pa x.o.ps.length pc) x.vr) 39 (0, 0))
  have b1 : Below w.heap.size w (w.alloc (.cells (ocs x.o.ser x.o.kind x.o.site (.slice pa x.o.ps.length pc) x.vr) 39)) := Below.alloc (Below.refl _ _) (Nat.le_refl _) _
  obtain ⟨W, hW⟩ : ∃ W, W = w.alloc (.cells (ocs x.o.ser x.o.kind x.o.site (.slice pa x.o.ps.length pc) x.vr) 39) := ⟨_, rfl⟩
  have HX : Hid (∀ w', Below W.heap.size W w' → w'.cell? ⟨w.heap.size, 1, none⟩ = some (.int .i64 x.o.kind) ∧ w'.cell? ⟨w.heap.size, 3, none⟩ = some (.slice pa x.o.ps.length pc) ∧ Below w.heap.size w w') := fun w' b' => by
    rw [hW] at b'
    have h9 := (b'.block _ (Kg.heap_lt h1)).trans h1
    exact ⟨Kg.heap_cell h9 1, Kg.heap_cell h9 3, b1.trans (b'.mono b1.size)⟩
  have HS : Hid (W.heap.size = w.heap.size + 1) := by show _ = _; rw [hW]; simp
  show Calls Tryz.prog 13 #[.agg (ocs x.o.ser x.o.kind x.o.site x.vp x.vr)] w _
  rw [ep]
  clear h1 b1 hp
  obtain ⟨f, hf⟩ : ∃ f, f = fst17 x.o.kind := ⟨_, rfl⟩
  have HF : Hid (f = fst17 x.o.kind) := hf
  have hf2 : f ≤ 2 := by rw [hf]; exact fst17_le _
  clear hf
  obtain ⟨g0, hg0⟩ : ∃ g0 : Int, g0 = if x.o.kind = 2 then 1 else 0 := ⟨_, rfl⟩
  have HG0 : Hid (g0 = if x.o.kind = 2 then 1 else 0) := hg0
  clear hg0
  obtain ⟨k1, k3, -⟩ := HX.out W (Below.refl _ _)
  go_enter Tryz.func13, Tryz.ntmps13
  go_upto_if 8 with fail
  rw [← hW]
  clear hW
  go_cut [3] from 9 to 11 (fun v wq => v = .int .i64 g0 ∧ W = wq)
  case first =>
    by_cases e1 : x.o.kind = 2
    · have e1' : (x.o.kind == 2) = true := by simpa using e1
      have E1 : Hid (x.o.kind = 2) := e1
      clear e1
      go_wp2
      go_meet
      exact ⟨by rw [HG0.out, if_pos E1.out], rfl⟩
    · have e1' : (x.o.kind == 2) = false := by simpa using e1
      have E1 : Hid (¬ x.o.kind = 2) := e1
      clear e1
      go_wp2
      go_meet
      exact ⟨by rw [HG0.out, if_neg E1.out], rfl⟩
  case rest =>
  obtain ⟨rfl, rfl⟩ := hcut
  apply_assumption
  go_upto_if 11 with fail
  go_cut [3] from 12 to 12 (fun v wq => v = .int .i64 (f : Nat) ∧ W = wq)
  case first =>
    by_cases e2 : x.o.kind = 3
    · have e2' : (x.o.kind == 3) = true := by simpa using e2
      have E2 : Hid (x.o.kind = 3) := e2
      clear e2
      go_wp2
      go_meet
      exact ⟨by rw [HF.out, E2.out]; rfl, rfl⟩
    · have e2' : (x.o.kind == 3) = false := by simpa using e2
      have E2 : Hid (¬ x.o.kind = 3) := e2
      clear e2
      go_wp2
      go_meet
      refine ⟨?_, rfl⟩
      rw [HF.out, HG0.out]
      unfold fst17
      by_cases e1 : x.o.kind = 2
      · rw [if_pos e1, if_pos e1]; rfl
      · rw [if_neg e1, if_neg e1, if_neg E2.out]; rfl
  case rest =>
  obtain ⟨rfl, rfl⟩ := hcut
  apply_assumption
  obtain ⟨i0, hi0, hj0, hj1, hj2⟩ := info_p17 infoI17
  have HI : Hid (Tryz.prog.info? 3 = some i0 ∧ i0.zero = some (.int .i64 0) ∧ i0.size = 1 ∧ i0.bytes = 8) := ⟨hi0, hj0, hj1, hj2⟩
  clear hi0 hj0 hj1 hj2
  go_wp2
  go_loopw [4, 5] (fun v i wr => ∃ k : Nat, f ≤ k ∧ k ≤ x.o.ps.length + 2 ∧ i = .int .i64 k ∧ Il wr (w.heap.size + 1) v (stt x.o.ps f k) ∧ Below W.heap.size W wr) (fun _ i _ => x.o.ps.length + 2 - (intOf i).toNat)
  case atStart => exact ⟨f, Nat.le_refl _, by omega, rfl, by rw [stt_none]; exact World.ownsRow_nil _ _ _ _, Below.refl _ _⟩
  case round =>
    obtain ⟨k, hfk, hk, rfl, r1, r2⟩ := hrel
    have Hr1 : Hid (Il wr (w.heap.size + 1) u4 (stt x.o.ps f k)) := r1
    have Hr2 : Hid (Below W.heap.size W wr) := r2
    clear r1 r2 k1 k3
    obtain ⟨-, k3, b3⟩ := HX.out wr Hr2.out
    have Hb3 : Hid (Below w.heap.size w wr) := b3
    clear b3
    by_cases hlt : k < x.o.ps.length
    · obtain ⟨z, hz⟩ : ∃ z, x.o.ps[k]? = some z := ⟨_, List.getElem?_eq_getElem hlt⟩
      obtain ⟨q, off, rfl, hq, hc⟩ := HP.out k z hz
      have ck : wr.cell? ⟨q, off + k, none⟩ = some (.int .i64 z) := (Hb3.out.cell (p := ⟨q, off + k, none⟩) (Nat.lt_of_lt_of_le hq hn0)).trans hc
      have hkI : (k : Int) < (x.o.ps.length : Int) := by omega
      have HN : Hid (stt x.o.ps f (k + 1) = stt x.o.ps f k ++ (if 0 < z then [z] else [])) := stt_step hz hfk
      have hln := stt_len x.o.ps f k
      clear hz hc hq
      by_cases hp : 0 < z
      · rw [if_pos hp] at HN
        have hp' : decide (0 < z) = true := decide_eq_true hp
        obtain ⟨a7, c7, rfl⟩ := own_sl17 Hr1.out
        have HSz : Hid (w.heap.size + 1 ≤ wr.heap.size) := by show _ ≤ _; rw [← HS.out]; exact Hr2.out.size
        have HRow : Hid ((wr.alloc (.cells #[.int .i64 z] 3)).ownsRow (w.heap.size + 1) 3 1 (.slice a7 (stt x.o.ps f k).length c7) (stt x.o.ps f k).length (Kg.ints (stt x.o.ps f k))) := Il.below Hr1.out (Below.alloc (Below.refl _ _) (Nat.le_refl _) _)
        go_wp2_with (at_builtin; refine wpList_append_own_at _ rfl _ _ 24 rfl (w.heap.size + 1) 3 i0 (.int .i64 0) 1 8 Tryz.underlying24 HI.out.1 HI.out.2.1 HI.out.2.2.1 HI.out.2.2.2 rfl (by decide) _ _ _ rfl HRow.out ⟨wr.heap.size, 0, none⟩ 1 1 [.int .i64 z] rfl rfl (cell_one17 _ _ _) (by simp [Value.oneCell']) (by simp only [maxLen]; omega) (by omega) (by have := HSz.out; simp; omega) ?_; intro v8 w8 h8 g8 _ _)
        go_roundw
        case rel =>
          obtain ⟨y1, y2, y3⟩ := Il.snoc Hr1.out h8 g8 HSz.out
          exact ⟨k + 1, by omega, by omega, by go_num, by rw [HN.out]; exact y1, Hr2.out.trans (by rw [HS.out]; exact y3)⟩
        case measure => simp [intOf]; omega
      · rw [if_neg hp, List.append_nil] at HN
        have hp' : decide (0 < z) = false := decide_eq_false hp
        go_wp2
        go_roundw
        case rel => exact ⟨k + 1, by omega, by omega, by go_num, by rw [HN.out]; exact Hr1.out, Hr2.out⟩
        case measure => simp [intOf]; omega
    · have hkI : ¬ (k : Int) < (x.o.ps.length : Int) := by omega
      have HE : Hid (stt x.o.ps f k = stg x.o) := by
        show _ = _
        rw [stt_end x.o.ps f k (by omega), HF.out]
        rfl
      rw [HE.out] at Hr1
      go_wp2
      go_ret
      exact ⟨_, rfl, Kg.row_base Hr1.out (by omega), Hb3.out⟩
end Go.Proofs.YtkekaifiahjljaaGreatDoor
