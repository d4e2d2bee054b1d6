import Derived.Test.YtckgcpoheodbcaaGreatDoorQ21
import Derived.Test.YtckgcpoheodbcaaGreatDoorQ10
import Derived.Test.YtckgcpoheodbcaaGreatDoorQ34
import Derived.Test.YtckgcpoheodbcaaGreatDoorQ39
import Derived.Test.YtckgcpoheodbcaaGreatDoorQ02
set_option linter.unusedVariables false
set_option maxHeartbeats 8000000
set_option maxRecDepth 20000
namespace Go.Proofs.YtckgcpoheodbcaaGreatDoor
open Go.RowKit Go.Shelf Go.Proofs.YtckgcpoheodbcaaGreatDoor.Lt
set_option maxHeartbeats 16000000 in
theorem r17Retained_yes (n0 : Nat) (w : World) (vo vs vh vr vq : Value) (os : List OL) (ts : List (Value × List (Value × List Int))) (g : Im.Gr) (hg : Grd n0 w vo vs vh vr vq os ts g) (hn : n0 ≤ w.heap.size) (hl : Gln os ts g) (hm : MB g) (hol : os.length ≤ 2000000) (hs : Sln ts)
  (hel : (slotsF g.slots).length + g.hs.length + g.qu.length + g.rg.length ≤ 1000000000) (hw : ∀ x, wd17 g x ≤ 2000000) :
  Calls Tryz.prog 13 #[.agg (gcs vo vs vh vr vq g.next)] w fun e w' => ∃ (v : Value), e = .returned (.tuple #[v, .int .i64 0]) ∧ Below w.heap.size w w' ∧ ∃ l : List Int, Il w' w.heap.size v l ∧ Dr17 g l := by
 have hol2 : g.obs.length = os.length := by rw [hg.eo, List.length_map]
 have l1 : Below w.heap.size w (w.alloc (.cells (gcs vo vs vh vr vq g.next) 27)) := Below.alloc (Below.refl _ _) (Nat.le_refl _) _
 have hx := heap_alloc_new w (.cells (gcs vo vs vh vr vq g.next) 27 (0, 0))
 obtain ⟨oa, oc, eo, -⟩ := id hg.ob
 subst eo
 generalize hW : w.alloc (.cells (gcs (.slice oa os.length oc) vs vh vr vq g.next) 27) = W at *
 have y0 : W.cell? ⟨w.heap.size, 0, none⟩ = some (.slice oa os.length oc) := Kg.heap_cell hx 0
 have y1 : W.cell? ⟨w.heap.size, 1, none⟩ = some vs := Kg.heap_cell hx 1
 have y2 : W.cell? ⟨w.heap.size, 2, none⟩ = some vh := Kg.heap_cell hx 2
 have y3 : W.cell? ⟨w.heap.size, 3, none⟩ = some vr := Kg.heap_cell hx 3
 have y4 : W.cell? ⟨w.heap.size, 4, none⟩ = some vq := Kg.heap_cell hx 4
 have y5 : W.cell? ⟨w.heap.size, 5, none⟩ = some (.int .u64 (g.next : Int)) := Kg.heap_cell hx 5
 have q := rCheck_any n0 W _ vs vh vr vq os ts g (hg.below (l1.mono hn)) (Nat.le_trans hn l1.size) hl
 have HL1 : Hid (Below w.heap.size w W) := l1
 have HM : Hid (MB g) := hm
 have HOL : Hid (g.obs.length = os.length) := hol2
 have HXB : Hid (∀ w', Below W.heap.size W w' → w'.heap[w.heap.size]? = some (.cells (gcs (.slice oa os.length oc) vs vh vr vq g.next) 27 (0, 0)) ∧ Below w.heap.size w w' ∧ Grd n0 w' (.slice oa os.length oc) vs vh vr vq os ts g) := fun w' b' => ⟨(b'.block _ (Kg.heap_lt hx)).trans hx, l1.trans (b'.mono l1.size), hg.below ((l1.trans (b'.mono l1.size)).mono hn)⟩
 obtain ⟨rw_, hrw⟩ : ∃ r : Nat → Nat, r = fun d => rs (wd17 g) (wy17 g) (pe17 g) g.obs.length d := ⟨_, rfl⟩
 have HRW : Hid (rw_ = fun d => rs (wd17 g) (wy17 g) (pe17 g) g.obs.length d) := hrw
 have HRE : Hid (∀ (d : Nat) w', Below W.heap.size W w' → Calls Tryz.prog 34 #[.agg (gcs (.slice oa os.length oc) vs vh vr vq g.next), .int .i64 (d : Nat)] w' fun e w2 => ∃ (bb : Nat), e = .returned (.slice (some ⟨bb, 0, none⟩) (os.length + 1) (os.length + 1)) ∧ w'.heap.size ≤ bb ∧ Below w'.heap.size w' w2 ∧ ∃ ins : Nat → Bool, Fb w2 bb (os.length + 1) ins ∧ (∀ x, ins x = true ↔ Re (wy17 g) (pe17 g) d x) ∧ smb (wd17 g) ins os.length = rw_ d) := fun d w' b' => by
  have gr := (HXB.out w' b').2.2
  refine (reach17_any d n0 w' _ vs vh vr vq os ts g gr (Nat.le_trans (Nat.le_trans hn l1.size) b'.size) hm hs hol hel).mono ?_
  rintro e w2 ⟨bb, rfl, h1, h2, ins, h3, h4⟩
  refine ⟨bb, rfl, h1, h2, ins, h3, h4, ?_⟩
  rw [smb_sm h4, hrw, ← hol2]
  rfl
 have HSM : Hid (∀ (ib : Nat) (ins : Nat → Bool) w', Below W.heap.size W w' → Fb w' ib (os.length + 1) ins → Calls Tryz.prog 35 #[.agg (gcs (.slice oa os.length oc) vs vh vr vq g.next), .slice (some ⟨ib, 0, none⟩) (os.length + 1) (os.length + 1)] w' fun e w2 => e = .returned (.int .i64 (smb (wd17 g) ins os.length : Nat)) ∧ Below w'.heap.size w' w2) := fun ib ins w' b' h => sum17_any n0 w' _ vs vh vr vq os ts g (HXB.out w' b').2.2 (Nat.le_trans (Nat.le_trans hn l1.size) b'.size) hw hol ib ins h
 have HLe : Hid (∀ d, rw_ d ≤ 5000000000000) := fun d => by
  have h1 := sm_le (w := wd17 g) (p := Re (wy17 g) (pe17 g) d) (List.range' 1 g.obs.length)
  have h2 : ∀ l : List Nat, (l.map (wd17 g)).sum ≤ l.length * 2000000 := fun l => by
   induction l with
   | nil => exact Nat.zero_le _
   | cons a r ih =>
    have := hw a
    rw [List.map_cons, List.sum_cons, List.length_cons, Nat.succ_mul]
    omega
  have h3 := h2 (List.range' 1 g.obs.length)
  rw [List.length_range', hol2] at h3
  have h4 : os.length * 2000000 ≤ 2000000 * 2000000 := Nat.mul_le_mul_right _ hol
  rw [hrw]
  show sm (wd17 g) (Re (wy17 g) (pe17 g) d) (List.range' 1 g.obs.length) ≤ _
  rw [hol2] at h1 ⊢
  omega
 clear hg hl hx l1 hm hol2 hs hel hw hrw
 go_enter Tryz.func13, Tryz.ntmps13
 go_wp2_with fail
 refine q.mono ?_
 rintro e w1 ⟨r, rfl, b1, hr⟩
 have HB1 : Hid (Below W.heap.size W w1) := b1
 obtain rfl : r = 0 := by
  rcases hr with ⟨h, -⟩ | ⟨-, h⟩
  ·exact h
  ·exact absurd HM.out h
 clear q b1 hr y0 y1 y2 y3 y4 y5
 have hgb := (HXB.out w1 HB1.out).1
 have y0 : w1.cell? ⟨w.heap.size, 0, none⟩ = some (.slice oa os.length oc) := Kg.heap_cell hgb 0
 have y1 : w1.cell? ⟨w.heap.size, 1, none⟩ = some vs := Kg.heap_cell hgb 1
 have y2 : w1.cell? ⟨w.heap.size, 2, none⟩ = some vh := Kg.heap_cell hgb 2
 have y3 : w1.cell? ⟨w.heap.size, 3, none⟩ = some vr := Kg.heap_cell hgb 3
 have y4 : w1.cell? ⟨w.heap.size, 4, none⟩ = some vq := Kg.heap_cell hgb 4
 have y5 : w1.cell? ⟨w.heap.size, 5, none⟩ = some (.int .u64 (g.next : Int)) := Kg.heap_cell hgb 5
 have q := HRE.out 0 w1 HB1.out
 obtain ⟨m, hmm⟩ : ∃ m, m = os.length + 1 := ⟨_, rfl⟩
 have Hmm : Hid (m = os.length + 1) := hmm
 have hm2 : m ≤ 2000001 := by omega
 rw [← hmm] at HRE HSM q
 rw [show ((0 : Nat) : Int) = 0 from rfl] at q
 clear hmm hgb
 go_wp2_with fail
 refine q.mono ?_
 rintro e w2 ⟨bb, rfl, hbb, b2, all, f2, ha, hsa⟩
 have HB2 : Hid (Below W.heap.size W w2) := HB1.out.trans (b2.mono HB1.out.size)
 have HF2 : Hid (Fb w2 bb m all) := f2
 have HA : Hid (∀ x, all x = true ↔ Re (wy17 g) (pe17 g) 0 x) := ha
 have HSa : Hid (smb (wd17 g) all os.length = rw_ 0) := hsa
 clear q hbb b2 f2 ha hsa y0 y1 y2 y3 y4 y5 HB1
 have hgb := (HXB.out w2 HB2.out).1
 have y0 : w2.cell? ⟨w.heap.size, 0, none⟩ = some (.slice oa os.length oc) := Kg.heap_cell hgb 0
 have y1 : w2.cell? ⟨w.heap.size, 1, none⟩ = some vs := Kg.heap_cell hgb 1
 have y2 : w2.cell? ⟨w.heap.size, 2, none⟩ = some vh := Kg.heap_cell hgb 2
 have y3 : w2.cell? ⟨w.heap.size, 3, none⟩ = some vr := Kg.heap_cell hgb 3
 have y4 : w2.cell? ⟨w.heap.size, 4, none⟩ = some vq := Kg.heap_cell hgb 4
 have y5 : w2.cell? ⟨w.heap.size, 5, none⟩ = some (.int .u64 (g.next : Int)) := Kg.heap_cell hgb 5
 have q := HSM.out bb all w2 HB2.out HF2.out
 rw [HSa.out] at q
 clear hgb
 go_wp2_with fail
 refine q.mono ?_
 rintro e w3 ⟨rfl, b3⟩
 have HB3 : Hid (Below W.heap.size W w3) := HB2.out.trans (b3.mono HB2.out.size)
 have HF3 : Hid (Fb w3 bb m all) := HF2.out.below b3
 clear q b3 y0 y1 y2 y3 y4 y5 HB2 HF2 HSa
 have y0 : w3.cell? ⟨w.heap.size, 0, none⟩ = some (.slice oa os.length oc) := Kg.heap_cell (HXB.out w3 HB3.out).1 0
 obtain ⟨wE, hwE⟩ : ∃ wE, wE = w3 := ⟨_, rfl⟩
 obtain ⟨B3, hB3⟩ : ∃ B3, B3 = w3.heap.size := ⟨_, rfl⟩
 have HQ : Hid (∀ w', Below B3 wE w' → Fb w' bb m all ∧ Below W.heap.size W w') := fun w' b' => by
  rw [hwE, hB3] at b'
  exact ⟨HF3.out.below b', HB3.out.trans (b'.mono HB3.out.size)⟩
 have HBB : Hid (Below B3 wE w3 ∧ B3 ≤ w3.heap.size) := ⟨by rw [hwE]; exact Below.refl _ _, by omega⟩
 have HBW : Hid (w.heap.size ≤ B3 ∧ W.heap.size ≤ B3) := ⟨by have h1 := HL1.out.size; have h2 := HB3.out.size; omega, by have h2 := HB3.out.size; omega⟩
 obtain ⟨i0, hi0, hj0, hj1, hj2⟩ := info_p17 infoI17
 have HI : Hid (Tryz.prog.info? 3 = some i0 ∧ i0.zero = some (.int .i64 0) ∧ i0.size = 1 ∧ i0.bytes = 8) := ⟨hi0, hj0, hj1, hj2⟩
 clear hi0 hj0 hj1 hj2 hwE hB3 HF3 HB3
 go_wp2
 go_loopw [7, 8, 9, 10] (fun v7 v8 _ _ wr => ∃ (x : Nat) (l : List Int), v8 = .int .i64 (x : Nat) ∧ x = l.length + 1 ∧ x ≤ m ∧ Hid (Il wr B3 v7 l) ∧ Hid (∀ (i : Nat) (z : Int), l[i]? = some z → (Re (wy17 g) (pe17 g) 0 (i + 1) ∧ z = (rw_ 0 : Int) - (rw_ (i + 1) : Int)) ∨ (¬ Re (wy17 g) (pe17 g) 0 (i + 1) ∧ z = 0)) ∧ Hid (Below B3 wE wr ∧ B3 ≤ wr.heap.size)) (fun _ v8 _ _ _ => m - (intOf v8).toNat)
 case atStart => exact ⟨1, [], rfl, rfl, by have := Hmm.out; omega, World.ownsRow_nil _ _ _ _, fun i z h => by simp at h, HBB⟩
 case round =>
  obtain ⟨x, l, rfl, hxl, hxk, R1, R2, R3⟩ := hrel
  clear y0
  obtain ⟨a12, c12, e12⟩ := own_sl17 R1.out
  subst e12
  have y0 : wr.cell? ⟨w.heap.size, 0, none⟩ = some (.slice oa os.length oc) := Kg.heap_cell (HXB.out wr (HQ.out _ R3.out.1).2).1 0
  by_cases hxn : x ≤ os.length
  ·have hxi : (x : Int) ≤ (os.length : Int) := by omega
   have hxm : x < m := by have := Hmm.out; omega
   have hxI : (x : Int) < (m : Int) := by omega
   have hlx : l.length ≤ 2000000 := by omega
   have HXL : Hid (x = l.length + 1) := hxl
   clear hxl
   have ca := (HQ.out _ R3.out.1).1.cell hxm
   obtain ⟨ra, hra⟩ : ∃ ra, ra = all x := ⟨_, rfl⟩
   rw [← hra] at ca
   have HRA : Hid (ra = true ↔ Re (wy17 g) (pe17 g) 0 x) := by show _ ↔ _; rw [hra, HA.out]
   clear hra
   cases ra with
   | false =>
    have R4 : Hid (Below B3 wE wr ∧ B3 ≤ wr.heap.size) := R3
    have HRx : Hid (¬ Re (wy17 g) (pe17 g) 0 x) := fun h => by have := HRA.out.2 h; cases this
    clear R3 HRA
    have HSz : Hid (B3 ≤ wr.heap.size) := R4.out.2
    have HRow : Hid ((wr.alloc (.cells #[.int .i64 (0)] 3)).ownsRow B3 3 1 (.slice a12 l.length c12) l.length (Kg.ints l)) := Il.below R1.out (Below.alloc (Below.refl _ _) (Nat.le_refl _) _)
    have HNew : Hid (∀ (i : Nat) (z : Int), (l ++ [(0 : Int)])[i]? = some z → (Re (wy17 g) (pe17 g) 0 (i + 1) ∧ z = (rw_ 0 : Int) - (rw_ (i + 1) : Int)) ∨ (¬ Re (wy17 g) (pe17 g) 0 (i + 1) ∧ z = 0)) := fun i z hz => by
     rcases Nat.lt_or_ge i l.length with h1 | h1
     ·rw [List.getElem?_append_left h1] at hz
      exact R2.out i z hz
     ·rw [List.getElem?_append_right h1] at hz
      have h2 := (List.getElem?_eq_some_iff.1 hz).1
      simp at h2
      have h3 : i = l.length := by omega
      rw [h3] at hz ⊢
      simp at hz
      rw [← HXL.out, ← hz]
      exact .inr ⟨HRx.out, rfl⟩
    go_wp2_with (at_builtin; refine wpList_append_own_at _ rfl _ _ 24 rfl B3 3 i0 (.int .i64 0) 1 8 Tryz.underlying24 HI.out.1 HI.out.2.1 HI.out.2.2.1 HI.out.2.2.2 rfl (by decide) _ _ _ rfl HRow.out ⟨wr.heap.size, 0, none⟩ 1 1 [.int .i64 (0)] rfl rfl (cell_one17 _ _ _) (by simp [Value.oneCell']) (by simp only [maxLen]; omega) (by omega) (by have := HSz.out; simp; omega) ?_; intro v8 w8 h8 g8 _ _)
    go_roundw
    case rel =>
     obtain ⟨y1, y2, y3⟩ := Il.snoc R1.out h8 g8 HSz.out
     exact ⟨x + 1, l ++ [(0 : Int)], by go_num, by rw [List.length_append, List.length_cons, List.length_nil, ← HXL.out], by omega, y1, HNew.out, R4.out.1.trans y3, Nat.le_trans HSz.out (by have h9 := y3.size; have h8 := HSz.out; omega)⟩
    case measure => simp [intOf]; omega
   | true =>
    have HRx : Hid (Re (wy17 g) (pe17 g) 0 x) := HRA.out.1 rfl
    clear HRA
    have hgb := (HXB.out wr (HQ.out _ R3.out.1).2).1
    have y1 : wr.cell? ⟨w.heap.size, 1, none⟩ = some vs := Kg.heap_cell hgb 1
    have y2 : wr.cell? ⟨w.heap.size, 2, none⟩ = some vh := Kg.heap_cell hgb 2
    have y3 : wr.cell? ⟨w.heap.size, 3, none⟩ = some vr := Kg.heap_cell hgb 3
    have y4 : wr.cell? ⟨w.heap.size, 4, none⟩ = some vq := Kg.heap_cell hgb 4
    have y5 : wr.cell? ⟨w.heap.size, 5, none⟩ = some (.int .u64 (g.next : Int)) := Kg.heap_cell hgb 5
    have q := HRE.out x wr (HQ.out _ R3.out.1).2
    clear hgb
    go_wp2_with fail
    refine q.mono ?_
    rintro e w4 ⟨lb, rfl, hlb, b4, ins, f4, -, s4⟩
    have HB4 : Hid (Below W.heap.size W w4) := (HQ.out _ R3.out.1).2.trans (b4.mono (HQ.out _ R3.out.1).2.size)
    have HW4 : Hid (Below B3 wE w4 ∧ B3 ≤ w4.heap.size) := ⟨R3.out.1.trans (b4.mono R3.out.2), Nat.le_trans R3.out.2 b4.size⟩
    have I4 : Hid (Il w4 B3 (.slice a12 l.length c12) l) := R1.out.below b4
    have F4 : Hid (Fb w4 lb m ins) := f4
    have S4 : Hid (smb (wd17 g) ins os.length = rw_ x) := s4
    clear q hlb b4 f4 s4 y0 y1 y2 y3 y4 y5 R1 R3 ca
    have hgb := (HXB.out w4 HB4.out).1
    have y0 : w4.cell? ⟨w.heap.size, 0, none⟩ = some (.slice oa os.length oc) := Kg.heap_cell hgb 0
    have y1 : w4.cell? ⟨w.heap.size, 1, none⟩ = some vs := Kg.heap_cell hgb 1
    have y2 : w4.cell? ⟨w.heap.size, 2, none⟩ = some vh := Kg.heap_cell hgb 2
    have y3 : w4.cell? ⟨w.heap.size, 3, none⟩ = some vr := Kg.heap_cell hgb 3
    have y4 : w4.cell? ⟨w.heap.size, 4, none⟩ = some vq := Kg.heap_cell hgb 4
    have y5 : w4.cell? ⟨w.heap.size, 5, none⟩ = some (.int .u64 (g.next : Int)) := Kg.heap_cell hgb 5
    have q := HSM.out lb ins w4 HB4.out F4.out
    rw [S4.out] at q
    clear hgb
    go_wp2_with fail
    refine q.mono ?_
    rintro e w5 ⟨rfl, b5⟩
    have R4 : Hid (Below B3 wE w5 ∧ B3 ≤ w5.heap.size) := ⟨HW4.out.1.trans (b5.mono HW4.out.2), Nat.le_trans HW4.out.2 b5.size⟩
    have R1 : Hid (Il w5 B3 (.slice a12 l.length c12) l) := I4.out.below b5
    clear q b5 y0 y1 y2 y3 y4 y5 HB4 HW4 I4 F4 S4
    have hr0 := HLe.out 0
    have hrx := HLe.out x
    have y0 : (0 : Nat) = 0 := rfl
    generalize w5 = wr at *
    have HSz : Hid (B3 ≤ wr.heap.size) := R4.out.2
    have HRow : Hid ((wr.alloc (.cells #[.int .i64 ((rw_ 0 : Int) - (rw_ x : Int))] 3)).ownsRow B3 3 1 (.slice a12 l.length c12) l.length (Kg.ints l)) := Il.below R1.out (Below.alloc (Below.refl _ _) (Nat.le_refl _) _)
    have HNew : Hid (∀ (i : Nat) (z : Int), (l ++ [((rw_ 0 : Int) - (rw_ x : Int) : Int)])[i]? = some z → (Re (wy17 g) (pe17 g) 0 (i + 1) ∧ z = (rw_ 0 : Int) - (rw_ (i + 1) : Int)) ∨ (¬ Re (wy17 g) (pe17 g) 0 (i + 1) ∧ z = 0)) := fun i z hz => by
     rcases Nat.lt_or_ge i l.length with h1 | h1
     ·rw [List.getElem?_append_left h1] at hz
      exact R2.out i z hz
     ·rw [List.getElem?_append_right h1] at hz
      have h2 := (List.getElem?_eq_some_iff.1 hz).1
      simp at h2
      have h3 : i = l.length := by omega
      rw [h3] at hz ⊢
      simp at hz
      rw [← HXL.out, ← hz]
      exact .inl ⟨HRx.out, rfl⟩
    clear y0
    go_wp2_with (at_builtin; refine wpList_append_own_at _ rfl _ _ 24 rfl B3 3 i0 (.int .i64 0) 1 8 Tryz.underlying24 HI.out.1 HI.out.2.1 HI.out.2.2.1 HI.out.2.2.2 rfl (by decide) _ _ _ rfl HRow.out ⟨wr.heap.size, 0, none⟩ 1 1 [.int .i64 ((rw_ 0 : Int) - (rw_ x : Int))] rfl rfl (cell_one17 _ _ _) (by simp [Value.oneCell']) (by simp only [maxLen]; omega) (by omega) (by have := HSz.out; simp; omega) ?_; intro v8 w8 h8 g8 _ _)
    go_roundw
    case rel =>
     obtain ⟨y1, y2, y3⟩ := Il.snoc R1.out h8 g8 HSz.out
     exact ⟨x + 1, l ++ [((rw_ 0 : Int) - (rw_ x : Int) : Int)], by go_num, by rw [List.length_append, List.length_cons, List.length_nil, ← HXL.out], by omega, y1, HNew.out, R4.out.1.trans y3, Nat.le_trans HSz.out (by have h9 := y3.size; have h8 := HSz.out; omega)⟩
    case measure => simp [intOf]; omega
  ·have hxi : ¬ (x : Int) ≤ (os.length : Int) := by omega
   have HE : Hid (Below w.heap.size w wr ∧ Il wr w.heap.size (.slice a12 l.length c12) l ∧ Dr17 g l) := by
    have h1 := HQ.out _ R3.out.1
    have h9 := R2.out
    rw [HRW.out] at h9
    refine ⟨(HXB.out wr h1.2).2.1, Kg.row_base R1.out HBW.out.1, ?_, h9⟩
    have h2 := HOL.out
    have h3 := Hmm.out
    omega
   clear R1 R2 R3
   go_wp2
   go_ret2
   exact ⟨_, rfl, HE.out.1, l, HE.out.2.1, HE.out.2.2⟩
theorem r17Retained_no (n0 : Nat) (w : World) (vo vs vh vr vq : Value) (os : List OL) (ts : List (Value × List (Value × List Int))) (g : Im.Gr) (hg : Grd n0 w vo vs vh vr vq os ts g) (hn : n0 ≤ w.heap.size) (hl : Gln os ts g) (hm : ¬ MB g) :
  Calls Tryz.prog 13 #[.agg (gcs vo vs vh vr vq g.next)] w fun e w' => e = .returned (.tuple #[.slice none 0 0, .int .i64 171]) ∧ Below w.heap.size w w' := by
 have l1 : Below w.heap.size w (w.alloc (.cells (gcs vo vs vh vr vq g.next) 27)) := Below.alloc (Below.refl _ _) (Nat.le_refl _) _
 have hx := heap_alloc_new w (.cells (gcs vo vs vh vr vq g.next) 27 (0, 0))
 generalize hW : w.alloc (.cells (gcs vo vs vh vr vq g.next) 27) = W at *
 have y0 : W.cell? ⟨w.heap.size, 0, none⟩ = some vo := Kg.heap_cell hx 0
 have y1 : W.cell? ⟨w.heap.size, 1, none⟩ = some vs := Kg.heap_cell hx 1
 have y2 : W.cell? ⟨w.heap.size, 2, none⟩ = some vh := Kg.heap_cell hx 2
 have y3 : W.cell? ⟨w.heap.size, 3, none⟩ = some vr := Kg.heap_cell hx 3
 have y4 : W.cell? ⟨w.heap.size, 4, none⟩ = some vq := Kg.heap_cell hx 4
 have y5 : W.cell? ⟨w.heap.size, 5, none⟩ = some (.int .u64 (g.next : Int)) := Kg.heap_cell hx 5
 have q := rCheck_any n0 W vo vs vh vr vq os ts g (hg.below (l1.mono hn)) (Nat.le_trans hn l1.size) hl
 have HL1 : Hid _ := l1
 have HM : Hid (¬ MB g) := hm
 clear hg hl hx l1 hm
 go_enter Tryz.func13, Tryz.ntmps13
 go_wp2_with fail
 refine q.mono ?_
 rintro e w1 ⟨r, rfl, b1, hr⟩
 have HB : Hid (Below w.heap.size w w1) := HL1.out.trans (b1.mono HL1.out.size)
 obtain rfl : r = 164 := by
  rcases hr with ⟨-, h⟩ | ⟨h, -⟩
  ·exact absurd h HM.out
  ·exact h
 clear q b1 hr y0 y1 y2 y3 y4 y5
 go_wp2
 go_ret2
 exact ⟨by simp, HB.out⟩
theorem r17Retained_any (n0 : Nat) (w : World) (vo vs vh vr vq : Value) (os : List OL) (ts : List (Value × List (Value × List Int))) (g : Im.Gr) (hg : Grd n0 w vo vs vh vr vq os ts g) (hn : n0 ≤ w.heap.size) (hb : Big19 os ts g) :
  Calls Tryz.prog 13 #[.agg (gcs vo vs vh vr vq g.next)] w fun e w' => ∃ (v : Value) (l : List Int) (er : Int), e = .returned (.tuple #[v, .int .i64 er]) ∧ Il w' w.heap.size v l ∧ Below w.heap.size w w' ∧ Pr18 g l er := by
 by_cases hm : MB g
 ·refine (r17Retained_yes n0 w vo vs vh vr vq os ts g hg hn hb.l hm (by have := hb.o; omega) hb.s (by have := hb.e; omega) (wd_le hb hg.eo)).mono ?_
  rintro e w' ⟨v, rfl, h1, l, h2, h3⟩
  exact ⟨v, l, 0, rfl, h2, h1, .inr ⟨hm, rfl, h3⟩⟩
 ·refine (r17Retained_no n0 w vo vs vh vr vq os ts g hg hn hb.l hm).mono ?_
  rintro e w' ⟨rfl, h2⟩
  exact ⟨_, [], 171, rfl, World.ownsRow_nil _ _ _ _, h2, .inl ⟨hm, rfl, rfl⟩⟩
theorem lRetained_any (n0 : Nat) (w : World) (vo vs vh vr vq : Value) (os : List OL) (ts : List (Value × List (Value × List Int))) (g : Im.Gr) (hg : Grd n0 w vo vs vh vr vq os ts g) (hn : n0 ≤ w.heap.size) (hL : Laid w) (hb : Big19 os ts g) :
  Calls Tryz.prog 12 #[.agg (gcs vo vs vh vr vq g.next)] w fun e w' => ∃ (v : Value) (l : List Int) (er : Int), e = .returned (.tuple #[v, .int .i64 er]) ∧ Lrd w'.heap.size w' v .i64 l ∧ Below w.heap.size w w' ∧ Pr18 g l er := by
 have hol : Hid (g.obs.length = os.length) := by show _ = _; rw [hg.eo, List.length_map]
 have l1 : Below w.heap.size w (w.alloc (.cells (gcs vo vs vh vr vq g.next) 27)) := Below.alloc (Below.refl _ _) (Nat.le_refl _) _
 have hx := heap_alloc_new w (.cells (gcs vo vs vh vr vq g.next) 27 (0, 0))
 obtain ⟨oa, oc, eo, -⟩ := id hg.ob
 subst eo
 generalize hW : w.alloc (.cells (gcs (.slice oa os.length oc) vs vh vr vq g.next) 27) = W at *
 have HL1 : Hid (Below w.heap.size w W) := l1
 have HG : Hid (∀ w', Below W.heap.size W w' → w'.heap[w.heap.size]? = some (.cells (gcs (.slice oa os.length oc) vs vh vr vq g.next) 27 (0, 0)) ∧ Below w.heap.size w w' ∧ Grd n0 w' (.slice oa os.length oc) vs vh vr vq os ts g) := fun w' b' => ⟨(b'.block _ (Kg.heap_lt hx)).trans hx, l1.trans (b'.mono l1.size), hg.below ((l1.trans (b'.mono l1.size)).mono hn)⟩
 have q := mayBe_any n0 W (.slice oa os.length oc) vs vh vr vq os ts g (hg.below (l1.mono hn)) (Nat.le_trans hn l1.size) (hL.keep l1) hb.l
 have y0 : W.cell? ⟨w.heap.size, 0, none⟩ = some (.slice oa os.length oc) := Kg.heap_cell hx 0
 have y1 : W.cell? ⟨w.heap.size, 1, none⟩ = some vs := Kg.heap_cell hx 1
 have y2 : W.cell? ⟨w.heap.size, 2, none⟩ = some vh := Kg.heap_cell hx 2
 have y3 : W.cell? ⟨w.heap.size, 3, none⟩ = some vr := Kg.heap_cell hx 3
 have y4 : W.cell? ⟨w.heap.size, 4, none⟩ = some vq := Kg.heap_cell hx 4
 have y5 : W.cell? ⟨w.heap.size, 5, none⟩ = some (.int .u64 (g.next : Int)) := Kg.heap_cell hx 5
 have HBg : Hid (Big19 os ts g) := hb
 have HEO : Hid (g.obs = os.map (·.o)) := hg.eo
 clear hg hx l1 hL hb
 go_enter Tryz.func12, Tryz.ntmps12
 go_wp2_with fail
 refine q.mono ?_
 rintro e w1 ⟨r, rfl, b1, hr⟩
 have HB1 : Hid (Below W.heap.size W w1) := b1
 have HR : Hid (r = true ↔ MB g) := hr
 clear q b1 hr y0 y1 y2 y3 y4 y5
 cases r with
 | false =>
  have hm : ¬ MB g := fun h => by have := HR.out.2 h; cases this
  have HM : Hid (¬ MB g) := hm
  have HBo := HG.out w1 HB1.out
  have HB2 : Hid (Below w.heap.size w w1) := HBo.2.1
  clear hm HBo
  go_wp2
  go_ret2
  exact ⟨_, [], 171, rfl, Il.lrd (base := 0) (World.ownsRow_nil _ _ _ _), HB2.out, .inl ⟨HM.out, rfl, rfl⟩⟩
 | true =>
  have HM : Hid (MB g) := HR.out.1 rfl
  have HB2 : Hid (Below w.heap.size w w1) := (HG.out w1 HB1.out).2.1
  have hoI := HBg.out.o
  obtain ⟨m, hmm⟩ : ∃ m, m = os.length + 1 := ⟨_, rfl⟩
  have HMM : Hid (m = g.obs.length + 1) := by show _ = _; rw [hmm, hol.out]
  have q := retained_any n0 w1 _ vs vh vr vq os ts g (HG.out w1 HB1.out).2.2 (Nat.le_trans (Nat.le_trans hn HL1.out.size) HB1.out.size) HM.out HBg.out m hmm
  have y0 : w1.cell? ⟨w.heap.size, 0, none⟩ = some (.slice oa os.length oc) := Kg.heap_cell (HG.out w1 HB1.out).1 0
  have y1 : w1.cell? ⟨w.heap.size, 1, none⟩ = some vs := Kg.heap_cell (HG.out w1 HB1.out).1 1
  have y2 : w1.cell? ⟨w.heap.size, 2, none⟩ = some vh := Kg.heap_cell (HG.out w1 HB1.out).1 2
  have y3 : w1.cell? ⟨w.heap.size, 3, none⟩ = some vr := Kg.heap_cell (HG.out w1 HB1.out).1 3
  have y4 : w1.cell? ⟨w.heap.size, 4, none⟩ = some vq := Kg.heap_cell (HG.out w1 HB1.out).1 4
  have y5 : w1.cell? ⟨w.heap.size, 5, none⟩ = some (.int .u64 (g.next : Int)) := Kg.heap_cell (HG.out w1 HB1.out).1 5
  have hm1 : 1 ≤ m := by omega
  clear hmm
  go_wp2_with fail
  refine q.mono ?_
  rintro e w3 ⟨ab, f, rfl, hF, b3, hD⟩
  have HE : Hid (Below w.heap.size w w3) := HB2.out.trans (b3.mono HB2.out.size)
  have HF : Hid (Fy w3 ab m f) := hF
  have HDm : Hid (Dr17 g ((List.range' 1 g.obs.length).map f)) := hD
  clear q b3 hF hD y0 y1 y2 y3 y4 y5
  have HLen : Hid (((List.range' 1 g.obs.length).map f).length = m - 1) := by
   show _ = _
   rw [List.length_map, List.length_range', HMM.out]
   omega
  have HLr : Hid (Lrd w3.heap.size w3 (.slice (some ⟨ab, 1, none⟩) (m - 1) (m - 1)) .i64 ((List.range' 1 g.obs.length).map f)) := by
   refine ⟨some ⟨ab, 1, none⟩, m - 1, by rw [HLen.out], by rw [HLen.out]; exact Nat.le_refl _, fun i z hz => ?_⟩
   have hi := (List.getElem?_eq_some_iff.1 hz).1
   rw [HLen.out] at hi
   rw [List.getElem?_map, List.getElem?_range' (by have := HMM.out; omega)] at hz
   simp only [Option.map_some, Option.some.injEq] at hz
   refine ⟨ab, 1, rfl, HF.out.lt, ?_⟩
   have h9 := HF.out.cell (x := 1 + i) (by omega)
   rw [h9, ← hz]
   simp
  by_cases hm9 : m = 1
  ·have HL0 : Hid (Lrd w3.heap.size w3 (.slice (some ⟨ab, 0, none⟩) 0 0) .i64 ((List.range' 1 g.obs.length).map f)) := by
    have e : (List.range' 1 g.obs.length).map f = [] := List.eq_nil_of_length_eq_zero (by rw [HLen.out, hm9])
    show Lrd _ _ _ _ _
    rw [e]
    exact ⟨some ⟨ab, 0, none⟩, 0, rfl, Nat.le_refl _, fun i z hz => by simp at hz⟩
   subst hm9
   go_wp2
   go_ret2
   exact ⟨_, _, 0, rfl, HL0.out, HE.out, .inr ⟨HM.out, rfl, HDm.out⟩⟩
  ·go_wp2
   go_ret2
   exact ⟨_, _, 0, rfl, HLr.out, HE.out, .inr ⟨HM.out, rfl, HDm.out⟩⟩
end Go.Proofs.YtckgcpoheodbcaaGreatDoor
namespace Go.Proofs.YtckgcpoheodbcaaGreatDoor
open Go.RowKit Go.Shelf
theorem same17_eq (n0 : Nat) (va vb : Value) (l : List Int) (w : World) (ha : Lrd n0 w va .i64 l) (hb : Lrd n0 w vb .i64 l) (hl : l.length ≤ 4611686018427387904) :
  Calls Tryz.prog 8 #[va, vb] w fun e w' => e = .returned (.bool true) ∧ ∃ nq, w' = w.drewN nq := by
 obtain ⟨a, ca, rfl, -, ha'⟩ := ha
 obtain ⟨b, cb, rfl, -, hb'⟩ := hb
 have Ha : Hid (∀ (f : Nat) z, l[f]? = some z → ∃ q off, a = some ⟨q, off, none⟩ ∧ q < n0 ∧ w.cell? ⟨q, off + f, none⟩ = some (.int .i64 z)) := ha'
 have Hb : Hid (∀ (f : Nat) z, l[f]? = some z → ∃ q off, b = some ⟨q, off, none⟩ ∧ q < n0 ∧ w.cell? ⟨q, off + f, none⟩ = some (.int .i64 z)) := hb'
 clear ha' hb'
 go_enter Tryz.func8, Tryz.ntmps8
 go_wp2
 go_loopw [5] (fun v5 wr => ∃ (k m : Nat), k ≤ l.length ∧ v5 = .int .i64 k ∧ wr = w.drewN m) (fun v5 _ => l.length - (intOf v5).toNat)
 case atStart => exact ⟨0, 0, Nat.zero_le _, rfl, rfl⟩
 case round =>
  obtain ⟨k, m, hk, rfl, rfl⟩ := hrel
  by_cases hkl : k < l.length
  ·have hki : (k : Int) < (l.length : Int) := by omega
   have hz : l[k]? = some (l[k]'hkl) := List.getElem?_eq_getElem hkl
   generalize l[k]'hkl = z at hz
   obtain ⟨q, off, rfl, -, ca'⟩ := Ha.out k z hz
   obtain ⟨q', off', rfl, -, cb'⟩ := Hb.out k z hz
   clear hz
   go_upto_region 6 with fail
   go_quiet (fail)
   go_wp2
   go_roundw
   case rel => exact ⟨k + 1, m + nq, by omega, by go_num, rfl⟩
   case measure => simp [intOf]; omega
  ·have hki : ¬ (k : Int) < (l.length : Int) := by omega
   go_wp2
   go_ret
   exact ⟨rfl, m, rfl⟩
theorem sameWords17_eq (n0 : Nat) (va vb : Value) (l : List Int) (w : World) (ha : Lrd n0 w va .u64 l) (hb : Lrd n0 w vb .u64 l) (hl : l.length ≤ 4611686018427387904) :
  Calls Tryz.prog 24 #[va, vb] w fun e w' => e = .returned (.bool true) ∧ ∃ nq, w' = w.drewN nq := by
 obtain ⟨a, ca, rfl, -, ha'⟩ := ha
 obtain ⟨b, cb, rfl, -, hb'⟩ := hb
 have Ha : Hid (∀ (f : Nat) z, l[f]? = some z → ∃ q off, a = some ⟨q, off, none⟩ ∧ q < n0 ∧ w.cell? ⟨q, off + f, none⟩ = some (.int .u64 z)) := ha'
 have Hb : Hid (∀ (f : Nat) z, l[f]? = some z → ∃ q off, b = some ⟨q, off, none⟩ ∧ q < n0 ∧ w.cell? ⟨q, off + f, none⟩ = some (.int .u64 z)) := hb'
 clear ha' hb'
 go_enter Tryz.func24, Tryz.ntmps24
 go_wp2
 go_loopw [5] (fun v5 wr => ∃ (k m : Nat), k ≤ l.length ∧ v5 = .int .i64 k ∧ wr = w.drewN m) (fun v5 _ => l.length - (intOf v5).toNat)
 case atStart => exact ⟨0, 0, Nat.zero_le _, rfl, rfl⟩
 case round =>
  obtain ⟨k, m, hk, rfl, rfl⟩ := hrel
  by_cases hkl : k < l.length
  ·have hki : (k : Int) < (l.length : Int) := by omega
   have hz : l[k]? = some (l[k]'hkl) := List.getElem?_eq_getElem hkl
   generalize l[k]'hkl = z at hz
   obtain ⟨q, off, rfl, -, ca'⟩ := Ha.out k z hz
   obtain ⟨q', off', rfl, -, cb'⟩ := Hb.out k z hz
   clear hz
   go_upto_region 6 with fail
   go_quiet (fail)
   go_wp2
   go_roundw
   case rel => exact ⟨k + 1, m + nq, by omega, by go_num, rfl⟩
   case measure => simp [intOf]; omega
  ·have hki : ¬ (k : Int) < (l.length : Int) := by omega
   go_wp2
   go_ret
   exact ⟨rfl, m, rfl⟩
end Go.Proofs.YtckgcpoheodbcaaGreatDoor
