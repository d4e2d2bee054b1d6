/-
  Images: the chapter's examples.
-/
import Derived.Test.YtblbiikfipcbcaaDoorPRo
import Derived.Test.YtblbiikfipcbcaaDoorPWe
set_option linter.unusedVariables false
set_option maxRecDepth 20000
namespace Go.Proofs.YtblbiikfipcbcaaDoor
open Go.RowKit Go.Shelf

theorem Lrd.conv {n0 : Nat} {w : World} {v : Value} {bs : List Nat} (he : bs ≠ []) (h : Lrd n0 w v .u8 (bs.map Int.ofNat)) : (convert 22 9 v).run Tryd.prog w = .ok (.string (strOfNums (bs.map Int.ofNat))) w := by
  obtain ⟨a, cap, rfl, hc, h2⟩ := h.byte
  obtain ⟨x, r, rfl⟩ := List.exists_cons_of_ne_nil he
  obtain ⟨q, off, rfl, -, -⟩ := h2 0 x rfl
  refine run_convert_bytes_arg w _ _ Tryd.underlying22 Tryd.underlying5 q off _ cap ((x :: r).map Int.ofNat) (by simp) (fun i hi => ?_) _ Tryd.underlying9
  have h1 : (x :: r)[i]? = some ((x :: r)[i]'hi) := List.getElem?_eq_getElem hi
  obtain ⟨q', off', e1, -, h3⟩ := h2 i _ h1
  cases e1
  rw [h3, List.getD_eq_getElem?_getD, List.getElem?_map, h1]
  rfl

theorem samel_any {n1 n2 : Nat} {w : World} {v u : Value} {bs : List Nat} (he : bs ≠ []) (h1 : Lrd n1 w v .u8 (bs.map Int.ofNat)) (h2 : Lrd n2 w u .u8 (bs.map Int.ofNat)) :
    Calls Tryd.prog 13 #[v, u] w fun e w' => e = .returned (.bool true) ∧ w' = w := by
  have f1 := Lrd.conv he h1
  have f2 := Lrd.conv he h2
  obtain ⟨a1, c1, rfl, -, -⟩ := h1.byte
  obtain ⟨a2, c2, rfl, -, -⟩ := h2.byte
  generalize strOfNums (bs.map Int.ofNat) = s at f1 f2
  clear h1 h2
  go_enter Tryd.func13, Tryd.ntmps13
  go_wp2
  go_ret
  exact ⟨by simp, rfl⟩

theorem lrd_take {n0 : Nat} {w : World} {a : Option Addr} {n cap : Nat} {bs : List Nat} (h : Lrd n0 w (.slice a n cap) .u8 (bs.map Int.ofNat)) (m : Nat) (hm : m ≤ bs.length) : Lrd n0 w (.slice a m cap) .u8 ((bs.take m).map Int.ofNat) := by
  obtain ⟨a', cap', e, hc, h2⟩ := h.byte
  cases e
  refine ⟨a, cap, by simp [Nat.min_eq_left hm], by simp; omega, fun i z hz => ?_⟩
  rw [List.getElem?_map, List.getElem?_take] at hz
  split at hz
  · obtain ⟨x, hx, rfl⟩ := Option.map_eq_some_iff.1 hz
    exact h2 i x hx
  · simp at hz

/-- A list of bytes in a block of its own. -/
theorem lrd_blk {w : World} {B : Nat} {bs : List Nat} (h : w.heap[B]? = some (.cells ((bs.map (fun x => Value.int .u8 (Int.ofNat x))).toArray) 5 (0, 0))) : Lrd w.heap.size w (.slice (some ⟨B, 0, none⟩) bs.length bs.length) .u8 (bs.map Int.ofNat) := by
  refine ⟨some ⟨B, 0, none⟩, bs.length, by simp, by simp, fun i z hz => ⟨B, 0, rfl, Kg.heap_lt h, ?_⟩⟩
  rw [List.getElem?_map] at hz
  obtain ⟨x, hx, rfl⟩ := Option.map_eq_some_iff.1 hz
  rw [Nat.zero_add, Kg.heap_cell h i]
  simp [hx]

theorem lrd_nil (n0 : Nat) (w : World) (k : IntKind) : Lrd n0 w (.slice none 0 0) k [] := ⟨none, 0, rfl, Nat.le_refl _, fun f z hz => by simp at hz⟩

theorem grd0 {w : World} {B : Nat} (h : w.heap[B]? = some (.cells #[.slice none 0 0] 44 (0, 0))) : Grd w.heap.size w (.slice none 0 0) (.slice (some ⟨B, 0, none⟩) 1 1) (.slice none 0 0) (.slice none 0 0) (.slice none 0 0) [] [(.slice none 0 0, [])] Im.g0 := by
  refine ⟨⟨none, 0, rfl, fun i x hx => (by simp at hx)⟩, ⟨some ⟨B, 0, none⟩, 1, rfl, fun i x hx => ?_⟩, lrd_nil _ _ _, lrd_nil _ _ _, lrd_nil _ _ _, rfl, rfl, by decide, fun o ho => (by cases ho)⟩
  cases i with
  | zero =>
    simp at hx
    subst hx
    exact ⟨⟨none, 0, rfl, fun i x hx => (by simp at hx)⟩, B, 0, rfl, Kg.heap_lt h, (Kg.heap_cell h 0).trans rfl⟩
  | succ i => simp at hx

set_option maxHeartbeats 8000000 in
theorem known16_any (w : World) (hL : Laid w) : Calls Tryd.prog 8 #[] w fun e w' => e = .returned (.bool true) ∧ Below w.heap.size w w' := by
  go_enter Tryd.func8, Tryd.ntmps8
  go_wp2_with fail
  have l1 := Below.alloc (Below.refl w.heap.size w) (Nat.le_refl _) (.cells #[.slice none 0 0] 44)
  have hB := heap_alloc_new w (.cells #[.slice none 0 0] 44 (0, 0))
  generalize w.alloc (.cells #[.slice none 0 0] 44) = W at *
  have HL : Hid (∀ w', Below w.heap.size w w' → Laid w') := fun w' b' => hL.keep b'
  have hC := iWrite_any W.heap.size W (Nat.le_refl _) (hL.keep l1) _ _ _ _ _ _ _ Im.g0 (grd0 hB) (by decide) (fun x hx => by cases hx)
  clear hL hB
  refine hC.mono ?_
  rintro e w1 ⟨v, r, rfl, b1, hw⟩
  have B1 : Hid (Below w.heap.size w w1) := l1.trans (b1.mono l1.size)
  clear hC b1 l1
  rcases hw with ⟨rfl, -, ho⟩ | ⟨-, hm, -⟩
  case inr => exact absurd mb0 hm
  have hv := Lrd.of_bts (Kg.row_base ho (Nat.zero_le _))
  obtain ⟨av, cv, rfl, hcv, -⟩ := hv.byte
  rw [Im.enc0_len] at hv hcv
  have Hv : Hid (Lrd w1.heap.size w1 (.slice av 14 cv) .u8 ((Im.enc (Im.toNG Im.g0)).map Int.ofNat)) := hv
  rw [Im.enc0_len]
  clear hv ho
  go_wp2_with fail
  refine (num16_any 0 w1).mono ?_
  rintro e w2 ⟨rfl, rfl⟩
  go_wp2_with fail
  have b3 := Below.alloc (Below.refl w2.heap.size w2) (Nat.le_refl _) (.cells #[.int .u8 77, .int .u8 68, .int .u8 73, .int .u8 49, .int .u8 1, .int .u8 0, .int .u8 1, .int .u8 0, .int .u8 0, .int .u8 0] 5)
  have hT := heap_alloc_new w2 (.cells #[.int .u8 77, .int .u8 68, .int .u8 73, .int .u8 49, .int .u8 1, .int .u8 0, .int .u8 1, .int .u8 0, .int .u8 0, .int .u8 0] 5 (0, 0))
  generalize w2.alloc (.cells #[.int .u8 77, .int .u8 68, .int .u8 73, .int .u8 49, .int .u8 1, .int .u8 0, .int .u8 1, .int .u8 0, .int .u8 0, .int .u8 0] 5) = W3 at *
  have hv3 := (Hv.out.below b3).mono b3.size
  have hS := samel_any (bs := [77, 68, 73, 49, 1, 0, 1, 0, 0, 0]) (by simp) (by have h := lrd_take hv3 10 (by rw [Im.enc0_len]; decide); rw [Im.enc0_take] at h; exact h) (lrd_blk (bs := [77, 68, 73, 49, 1, 0, 1, 0, 0, 0]) hT)
  have B3 : Hid (Below w.heap.size w W3) := B1.out.trans (b3.mono B1.out.size)
  have Hv3 : Hid (Lrd W3.heap.size W3 (.slice av 14 cv) .u8 ((Im.enc (Im.toNG Im.g0)).map Int.ofNat)) := hv3
  clear hv3 hT b3 B1 Hv
  refine hS.mono ?_
  rintro e w4 ⟨rfl, rfl⟩
  clear hS
  have hC := iRead_any Hv3.out (Nat.le_refl _) (by rw [Im.enc0_len]; decide) (Im.enc_byte _) (HL.out _ B3.out)
  go_wp2_with fail
  refine hC.mono ?_
  rintro e w5 ⟨b5, h5⟩
  have B5 : Hid (Below w.heap.size w w5) := B3.out.trans (b5.mono B3.out.size)
  clear hC b5
  unfold Rres at h5
  rw [Im.dec0] at h5
  simp only [wng0] at h5
  rcases h5 with ⟨hm, -⟩ | ⟨-, vo, vs, vh, vr, vq, os, ts, rfl, hG, -⟩
  case inl => exact absurd mb0 hm
  obtain ⟨aa, ac, rfl, -⟩ := hG.ob
  obtain ⟨ba, bc, rfl, -⟩ := hG.sl
  obtain ⟨ca, cc, rfl, -, -⟩ := hG.hs
  obtain ⟨da, dc, rfl, -, -⟩ := hG.rg
  obtain ⟨ea, ec, rfl, -, -⟩ := hG.qu
  have e1 : os.length = 0 := by have := congrArg List.length hG.eo; simpa [Im.g0] using this.symm
  have e2 : ts.length = 1 := by have := congrArg List.length hG.es; simpa [Im.g0] using this.symm
  rw [e1, e2]
  have e3 : (Im.g0.next : Int) = 1 := rfl
  rw [e3]
  clear hG e1 e2 e3 os ts
  generalize Im.g0.hs.length = lh
  generalize Im.g0.rg.length = lr
  generalize Im.g0.qu.length = lq
  go_wp2_with fail
  have b6 := Below.alloc (Below.refl w5.heap.size w5) (Nat.le_refl _) (.cells (gcs (.slice aa 0 ac) (.slice ba 1 bc) (.slice ca lh cc) (.slice da lr dc) (.slice ea lq ec) 1) 29)
  have hG := heap_alloc_new w5 (.cells (gcs (.slice aa 0 ac) (.slice ba 1 bc) (.slice ca lh cc) (.slice da lr dc) (.slice ea lq ec) 1) 29 (0, 0))
  have s6 : (w5.alloc (.cells (gcs (.slice aa 0 ac) (.slice ba 1 bc) (.slice ca lh cc) (.slice da lr dc) (.slice ea lq ec) 1) 29)).heap.size = w5.heap.size + 1 := by simp
  change Calls _ _ _ ((w5.alloc (.cells (gcs (.slice aa 0 ac) (.slice ba 1 bc) (.slice ca lh cc) (.slice da lr dc) (.slice ea lq ec) 1) 29)).alloc (.cells #[.int .u8 77, .int .u8 68, .int .u8 73, .int .u8 49, .int .u8 128, .int .u8 0] 5)) _
  generalize w5.alloc (.cells (gcs (.slice aa 0 ac) (.slice ba 1 bc) (.slice ca lh cc) (.slice da lr dc) (.slice ea lq ec) 1) 29) = W6 at *
  have b7 := Below.alloc b6 b6.size (.cells #[.int .u8 77, .int .u8 68, .int .u8 73, .int .u8 49, .int .u8 128, .int .u8 0] 5)
  have hS := heap_alloc_new W6 (.cells #[.int .u8 77, .int .u8 68, .int .u8 73, .int .u8 49, .int .u8 128, .int .u8 0] 5 (0, 0))
  have hG7 := (Below.heap_alloc W6 (.cells #[.int .u8 77, .int .u8 68, .int .u8 73, .int .u8 49, .int .u8 128, .int .u8 0] 5 (0, 0)) _ (Kg.heap_lt hG)).trans hG
  rw [s6] at hS
  generalize W6.alloc (.cells #[.int .u8 77, .int .u8 68, .int .u8 73, .int .u8 49, .int .u8 128, .int .u8 0] 5) = W7 at *
  have B7 : Hid (Below w.heap.size w W7) := B5.out.trans (b7.mono B5.out.size)
  have hC := iRead_any (lrd_blk (bs := [77, 68, 73, 49, 128, 0]) hS) (Nat.le_refl _) (by decide) (by decide) (HL.out _ B7.out)
  clear hG b6 b7 s6 hS B5 Hv3 B3
  refine hC.mono ?_
  rintro e w8 ⟨b8, h8⟩
  have hG8 := (b8.block _ (Kg.heap_lt hG7)).trans hG7
  have B8 : Hid (Below w.heap.size w w8) := B7.out.trans (b8.mono B7.out.size)
  clear hC b8 hG7 B7
  unfold Rres at h8
  rw [Im.dec1] at h8
  simp only at h8
  subst h8
  go_wp2_with fail
  have b9 := Below.alloc (Below.refl w8.heap.size w8) (Nat.le_refl _) (.cells (gcs (.slice none 0 0) (.slice none 0 0) (.slice none 0 0) (.slice none 0 0) (.slice none 0 0) 0) 29)
  change Calls _ _ _ (w8.alloc (.cells (gcs (.slice none 0 0) (.slice none 0 0) (.slice none 0 0) (.slice none 0 0) (.slice none 0 0) 0) 29)) _
  generalize w8.alloc (.cells (gcs (.slice none 0 0) (.slice none 0 0) (.slice none 0 0) (.slice none 0 0) (.slice none 0 0) 0) 29) = w9 at *
  have hG9 := (b9.block _ (Kg.heap_lt hG8)).trans hG8
  have B9 : Hid (Below w.heap.size w w9) := B8.out.trans (b9.mono B8.out.size)
  clear b9 hG8 B8
  have y0 := (Kg.heap_cell hG9 0).trans (show _ = some (.slice aa 0 ac) from rfl)
  have y1 := (Kg.heap_cell hG9 1).trans (show _ = some (.slice ba 1 bc) from rfl)
  have y5 := (Kg.heap_cell hG9 5).trans (show _ = some (.int .u64 1) from rfl)
  refine (num16_any 0 w9).mono ?_
  rintro e wa ⟨rfl, rfl⟩
  go_wp2_with fail
  refine (num16_any 161 wa).mono ?_
  rintro e wb ⟨rfl, rfl⟩
  go_wp2
  go_ret
  exact ⟨rfl, B9.out⟩

end Go.Proofs.YtblbiikfipcbcaaDoor
