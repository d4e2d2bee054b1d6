/-
  Images: ImageTorn walked.
-/
import Derived.Test.YtblbiikfipcbcaaDoorIS2
import Derived.Deep.Cut
import Derived.Deep.CutRange
set_option linter.unusedVariables false
set_option maxRecDepth 20000
namespace Go.Proofs.YtblbiikfipcbcaaDoor
open Go.RowKit Go.Shelf

theorem lrd_newsb {n0 m c : Nat} {w : World} {ax : Option Addr} {bs : List Nat} (h : Lrd n0 w (.slice ax m c) .u8 (bs.map Int.ofNat)) : m = (bts bs).length ∧ ∀ (j : Nat) u, (bts bs)[j]? = some u → ∃ ad, ax = some ad ∧ w.cell? (ad.add j) = some u := by
  obtain ⟨a, cap, e, hc, h2⟩ := h.byte
  cases e
  refine ⟨(bts_len bs).symm, fun j u hj => ?_⟩
  unfold bts at hj
  rw [List.getElem?_map] at hj
  obtain ⟨x, hx, rfl⟩ := Option.map_eq_some_iff.1 hj
  obtain ⟨q, off, rfl, -, h3⟩ := h2 j x hx
  exact ⟨_, rfl, by rw [Addr.add_lit]; exact h3⟩

theorem own_new (w : World) : (w.alloc (.cells #[] 5)).ownsRow w.heap.size 5 1 (.slice (some ⟨w.heap.size, 0, none⟩) 0 0) 0 [] :=
  ⟨rfl, .inr ⟨w.heap.size, 0, #[], rfl, Nat.le_refl _, heap_alloc_new w (.cells #[] 5 (0, 0)), Nat.le_refl _, Nat.zero_le _, rfl, rfl⟩⟩

theorem bts_set (l : List Nat) (m z : Nat) : bts (l.set m z) = (bts l).set m (.int .u8 (z : Int)) := by simp [bts, List.map_set]

theorem bts_one (l : List Nat) : ∀ u ∈ bts l, u.oneCell' = true := fun u hu => by
  unfold bts at hu
  obtain ⟨x, -, rfl⟩ := List.mem_map.1 hu
  rfl

set_option maxHeartbeats 8000000 in
theorem torn_any (w : World) (hL : Laid w) (vo vs vh vr vq : Value) (os : List OL) (ts : List (Value × List (Value × List Int))) (g : Im.Gr) (hg : Grd w.heap.size w vo vs vh vr vq os ts g) (hI : Inb os ts g) (hr : ∀ x, x ∈ os → obR x.o)
    (p : Int) (hp : InI p) (y : Nat) (hy : y < 256) (vm : Value) (ms : List Nat) (hm : Lrd w.heap.size w vm .u8 (ms.map Int.ofNat)) (hmb : ∀ x, x ∈ ms → x < 256) (hmn : ms.length ≤ 1000000000000000) :
    Calls Tryd.prog 4 #[.agg (gcs vo vs vh vr vq g.next), .int .i64 p, .int .u8 (y : Int), vm] w fun e w' => e = .returned (.bool true) ∧ Below w.heap.size w w' := by
  have l1 : Below w.heap.size w (w.alloc (.cells (gcs vo vs vh vr vq g.next) 29)) := Below.alloc (Below.refl _ _) (Nat.le_refl _) _
  have hx := heap_alloc_new w (.cells (gcs vo vs vh vr vq g.next) 29 (0, 0))
  generalize hW : w.alloc (.cells (gcs vo vs vh vr vq g.next) 29) = W at *
  have HL : Hid (∀ w', Below w.heap.size w w' → Laid w') := fun w' b' => hL.keep b'
  have HG : Hid (∀ w', Below w.heap.size w w' → Grd w.heap.size w' vo vs vh vr vq os ts g) := fun w' b' => hg.below b'
  have HM : Hid (∀ w', Below w.heap.size w w' → Lrd w.heap.size w' vm .u8 (ms.map Int.ofNat)) := fun w' b' => hm.below b'
  have HX : Hid (∀ w', Below W.heap.size W w' → Below w.heap.size w w' ∧ w'.heap[w.heap.size]? = some (.cells (gcs vo vs vh vr vq g.next) 29 (0, 0))) := fun w' b' => ⟨l1.trans (b'.mono l1.size), (b'.block _ (Kg.heap_lt hx)).trans hx⟩
  have HR : Hid (∀ x, x ∈ os → obR x.o) := hr
  have HI : Hid (Inb os ts g) := hI
  have HMB : Hid (∀ x, x ∈ ms → x < 256) := hmb
  have HP : Hid (InI p ∧ y < 256) := ⟨hp, hy⟩
  obtain ⟨aa, ac, ea, -⟩ := hg.ob
  obtain ⟨ba, bc, eb, -⟩ := hg.sl
  obtain ⟨ca, cc, ec, -, -⟩ := hg.hs
  obtain ⟨da, dc, ed, -, -⟩ := hg.rg
  obtain ⟨qa, qc, eq, -, -⟩ := hg.qu
  obtain ⟨am, cm, em, hcm, -⟩ := hm.byte
  subst ea eb ec ed eq em
  have hK := known16_any W (HL.out W l1)
  clear hg hI hr hL hx l1 hm hmb hp hy
  go_enter Tryd.func4, Tryd.ntmps4
  go_wp2_with fail
  refine hK.mono ?_
  rintro e w1 ⟨rfl, b1⟩
  have B1 : Hid (Below W.heap.size W w1) := b1
  clear hK b1
  obtain ⟨k0, k1, k2, k3, k4, k5⟩ := gcell (HX.out w1 B1.out).2
  have hC := small16_any w.heap.size w1 (HX.out w1 B1.out).1.size _ _ _ _ _ os ts g (HG.out w1 (HX.out w1 B1.out).1) HI.out
  go_wp2_with fail
  refine hC.mono ?_
  rintro e w2 ⟨r, rfl, b2, hrz⟩
  have B2 : Hid (Below W.heap.size W w2) := B1.out.trans (b2.mono B1.out.size)
  clear hC b2 k0 k1 k2 k3 k4 k5 B1
  cases r with
  | false =>
    go_wp2
    go_ret
    exact ⟨rfl, (HX.out _ B2.out).1⟩
  | true =>
    have Hz : Hid (gsz os ts g ≤ 16384) := hrz rfl
    clear hrz
    by_cases hlen : (ms.length : Int) > 131072
    · go_wp2
      go_ret
      exact ⟨rfl, (HX.out _ B2.out).1⟩
    obtain ⟨k0, k1, k2, k3, k4, k5⟩ := gcell (HX.out w2 B2.out).2
    have hC := iWrite_any w.heap.size w2 (HX.out w2 B2.out).1.size (HL.out _ (HX.out w2 B2.out).1) _ _ _ _ _ os ts g (HG.out w2 (HX.out w2 B2.out).1) Hz.out HR.out
    go_wp2_with fail
    refine hC.mono ?_
    rintro e w3 ⟨v, r, rfl, b3, hw⟩
    have B3 : Hid (Below W.heap.size W w3) := B2.out.trans (b3.mono B2.out.size)
    clear hC b3 k0 k1 k2 k3 k4 k5 B2
    rcases hw with ⟨rfl, hm, ho⟩ | ⟨rfl, hm, rfl⟩
    · have hv := Lrd.of_bts (Kg.row_base ho (Nat.zero_le _))
      obtain ⟨av, cv, rfl, hcv, -⟩ := hv.byte
      obtain ⟨q1, q2, q3⟩ := wback (HG.out w (Below.refl _ _)) (by have := Hz.out; omega) HR.out hm
      have HQ : Hid (Im.ngOk (Im.toNG g) ∧ Im.dec (Im.enc (Im.toNG g)) = .ok (Im.toNG g) ∧ Im.wNG (Im.toNG g) = g) := ⟨q1, q2, q3⟩
      have Hm : Hid (MB g) := hm
      have hel := enc_le (HG.out w (Below.refl _ _)) Hz.out hm (wc_of (HG.out w (Below.refl _ _)) Hz.out HR.out hm)
      generalize hE : Im.enc (Im.toNG g) = E at *
      have HE : Hid (Im.enc (Im.toNG g) = E ∧ ∀ x, x ∈ E → x < 256) := ⟨hE, hE ▸ Im.enc_byte _⟩
      have hLn : 8 ≤ E.length ∧ E.length ≤ 100000000000 := by rw [← hE, Im.enc_len]; omega
      have Hv : Hid (Lrd w3.heap.size w3 (.slice av E.length cv) .u8 (E.map Int.ofNat)) := hv
      clear q1 q2 q3 hm hel hv ho hE
      obtain ⟨hL0, hL1⟩ := hLn
      have hLz : ¬ (E.length : Int) = 0 := by omega
      go_wp2_with fail
      refine (num16_any 0 w3).mono ?_
      rintro e wa ⟨rfl, rfl⟩
      go_upto_if 46 with fail
      have hb1 : -(E.length : Int) < p.tmod (E.length : Int) := by
        have h9 := Int.tmod_nonneg (a := -p) (E.length : Int)
        have h8 := Int.tmod_nonneg (a := p) (E.length : Int)
        have h7 := Int.tmod_lt_of_pos (-p) (show (0 : Int) < (E.length : Int) by omega)
        rw [Int.neg_tmod] at h7
        omega
      have hb2 := Int.tmod_lt_of_pos p (show (0 : Int) < (E.length : Int) by omega)
      go_cut [11] from 20 to 115 (fun v11 wq => ∃ m : Nat, v11 = .int .i64 (m : Int) ∧ m < E.length ∧ wq = wa)
      case first =>
        generalize p.tmod (E.length : Int) = q at *
        by_cases hq : q < 0
        · go_wp2
          go_meet
          case rel => exact ⟨(q + E.length).toNat, by congr 1; omega, by omega, rfl⟩
        · go_wp2
          go_meet
          case rel => exact ⟨q.toNat, by congr 1; omega, by omega, rfl⟩
      clear hb1 hb2
      obtain ⟨m, rfl, hmL, hwc⟩ := hcut
      subst hwc
      obtain ⟨w4, hw4⟩ : ∃ w4, w4 = wc := ⟨_, rfl⟩
      subst hw4
      obtain ⟨i0, hi0, hj0, hj1, hj2⟩ := info_parts infoU8
      have HI0 : Hid (Tryd.prog.info? 5 = some i0 ∧ i0.zero = some (.int .u8 0) ∧ i0.size = 1 ∧ i0.bytes = 1) := ⟨hi0, hj0, hj1, hj2⟩
      clear hi0 hj0 hj1 hj2
      go_upto_if 52 with fail
      go_cut [] from 20 to 115 (fun wq => Hid (Below W.heap.size W wq ∧ Lrd wq.heap.size wq (.slice av E.length cv) .u8 (E.map Int.ofNat)))
      case first =>
        by_cases hy0 : (y : Int) = 0
        · have hyb : ((y : Int) != 0) = false := by simp [hy0]
          go_wp2
          go_meet
          case rel => exact ⟨B3.out, Hv.out⟩
        · have hyb : ((y : Int) != 0) = true := by simpa using hy0
          have b5 := Below.alloc (Below.refl w4.heap.size w4) (Nat.le_refl _) (.cells #[] 5)
          have hw5 := own_new w4
          have HN5 : Hid (E.length = (bts E).length ∧ ∀ (j : Nat) u, (bts E)[j]? = some u → ∃ ad, av = some ad ∧ (w4.alloc (.cells #[] 5)).cell? (ad.add j) = some u) := lrd_newsb ((Hv.out.below b5).mono b5.size)
          have HW5 : Hid ((w4.alloc (.cells #[] 5)).ownsRow w4.heap.size 5 1 (.slice (some ⟨w4.heap.size, 0, none⟩) 0 0) 0 []) := hw5
          have B5 : Hid (Below w4.heap.size w4 (w4.alloc (.cells #[] 5))) := b5
          clear hw5 b5
          go_upto_region 15 with (at_builtin; refine Kg.wpList_append_row rfl _ _ 22 rfl w4.heap.size 5 i0 (.int .u8 0) 1 Tryd.underlying22 HI0.out.1 HI0.out.2.1 HI0.out.2.2.1 HI0.out.2.2.2 rfl _ 0 [] rfl HW5.out av E.length cv (bts E) HN5.out.1 rfl HN5.out.2 (bts_one E) (by simp only [maxLen]; omega) (by omega) B5.out.size ?_; intro v5 w5 r5 g5 _ _ _)
          have g5 : (w4.alloc (.cells #[] 5)).grownBy w5 (some w4.heap.size) := g5
          rw [Nat.zero_add, List.nil_append] at r5
          have b5 : Below w4.heap.size w4 w5 := B5.out.trans ((Kg.Touch.grown (F := [w4.heap.size]) g5 (fun k hk => by cases hk; simp)).below B5.out.size (fun k hk => by simp at hk; omega))
          obtain ⟨q, cq, rfl⟩ := Kg.ownsRow_some r5 (by omega)
          have hEm : E[m]? = some (E[m]'hmL) := List.getElem?_eq_getElem hmL
          generalize E[m]'hmL = x at hEm
          have HEm : Hid (E[m]? = some x) := hEm
          have hxb : x < 256 := HE.out.2 x (List.mem_of_getElem? hEm)
          have hyb2 : y < 256 := HP.out.2
          have c5 : w5.cell? ⟨q, m, none⟩ = some (.int .u8 (x : Int)) := by
            have h9 := r5.cells (g := q) rfl m (.int .u8 (x : Int)) (by unfold bts; rw [List.getElem?_map, hEm]; rfl)
            rw [Addr.add_lit, Nat.zero_add] at h9
            exact h9
          have hb5 : w4.heap.size ≤ q ∧ w5.frozen? ⟨q, m, none⟩ = false := by
            rcases r5.2 with ⟨h, _⟩ | ⟨g2, cap2, cur, e2, hbg, hg, _⟩
            · cases h
            · cases e2
              exact ⟨hbg, Kg.heap_frozen hg m⟩
          have f5 := hb5.2
          have Hq5 : Hid (w4.heap.size ≤ q) := hb5.1
          have Hr5 : Hid (w5.ownsRow w4.heap.size 5 1 (.slice (some ⟨q, 0, none⟩) E.length cq) E.length (bts E)) := r5
          have B6 : Hid (Below w4.heap.size w4 w5) := b5
          clear r5 g5 b5 hb5 hEm B5 HW5 HN5
          have hmi : (m : Int) < (E.length : Int) := by omega
          go_upto_region 16 with fail
          have ez : ((x : Int) + (y : Int)) % 256 = (((x + y) % 256 : Nat) : Int) := by omega
          have HZ : Hid ((x + y) % 256 < 256 ∧ x ≠ (x + y) % 256) := ⟨by omega, by omega⟩
          rw [ez]
          generalize (x + y) % 256 = z at *
          have r6 := Kg.row_set Hr5.out m (.int .u8 (z : Int))
          rw [← bts_set] at r6
          have t6 : Kg.Touch [q] w5 (w5.setCell ⟨q, m, none⟩ (.int .u8 (z : Int))) := Kg.Touch.setCell _ _ _ (by simp)
          generalize w5.setCell ⟨q, m, none⟩ (.int .u8 (z : Int)) = w6 at *
          have B7 : Hid (Below w4.heap.size w4 w6) := B6.out.trans (t6.below B6.out.size (fun k hk => by simp at hk; have := Hq5.out; omega))
          have hEL : (E.set m z).length = E.length := by simp
          have hv6 := Lrd.of_bts (bs := E.set m z) (by rw [hEL]; exact Kg.row_base r6 (Nat.zero_le _))
          clear r6 t6 Hr5 Hq5 B6 c5 f5 ez
          have hC := iRead_any hv6 (Nat.le_refl _) (by rw [hEL]; omega) (fun k hk => by
            rcases List.mem_or_eq_of_mem_set hk with h9 | h9
            · exact HE.out.2 k h9
            · rw [h9]; exact HZ.out.1) (HL.out _ (HX.out w6 (B3.out.trans (B7.out.mono B3.out.size))).1)
          clear hv6
          go_wp2_with fail
          refine hC.mono ?_
          rintro e w7 ⟨b7, h7⟩
          have B8 : Hid (Below w4.heap.size w4 w7) := B7.out.trans (b7.mono B7.out.size)
          clear hC b7 B7
          rcases h7.two with ⟨pl, k, rfl, -, hk1, hk2⟩ | ⟨n, hd, -⟩
          case inr => exact absurd hd (by have h9 := HE.out.1; rw [← h9]; exact Im.dec_changed (by rw [h9]; exact HEm.out) HZ.out.1 HZ.out.2 n)
          have hkz : ¬ (k : Int) = 0 := by omega
          have hkb : ((k : Int) == 0) = false := by simpa using hkz
          clear h7
          go_wp2_with fail
          have b8 := Below.alloc (Below.refl w7.heap.size w7) (Nat.le_refl _) (.cells (gcs (.slice none 0 0) (.slice none 0 0) (.slice none 0 0) (.slice none 0 0) (.slice none 0 0) 0) 29)
          change Calls _ _ _ (w7.alloc (.cells (gcs (.slice none 0 0) (.slice none 0 0) (.slice none 0 0) (.slice none 0 0) (.slice none 0 0) 0) 29)) _
          generalize w7.alloc (.cells (gcs (.slice none 0 0) (.slice none 0 0) (.slice none 0 0) (.slice none 0 0) (.slice none 0 0) 0) 29) = w8 at *
          have B9 : Hid (Below w4.heap.size w4 w8) := B8.out.trans (b8.mono B8.out.size)
          refine (num16_any k w8).mono ?_
          rintro e wb ⟨rfl, rfl⟩
          go_wp2
          go_meet
          case rel => exact ⟨B3.out.trans (B9.out.mono B3.out.size), (Hv.out.below B9.out).mono B9.out.size⟩
      clear B3 Hv
      obtain ⟨w5, hw5⟩ : ∃ w5, w5 = wc := ⟨_, rfl⟩
      subst hw5
      have B5 : Hid (Below W.heap.size W w5) := hcut.out.1
      have Hv5 : Hid (Lrd w5.heap.size w5 (.slice av E.length cv) .u8 (E.map Int.ofNat)) := hcut.out.2
      clear hcut
      have hmi : (m : Int) ≤ (cv : Int) := by omega
      have hTL : (E.take m).length = m := by simp; omega
      have hC := iRead_any (lrd_take Hv5.out m (by omega)) (Nat.le_refl _) (by rw [hTL]; omega) (fun k hk => HE.out.2 k (List.mem_of_mem_take hk)) (HL.out _ (HX.out w5 B5.out).1)
      have hd5 : Im.dec (E.take m) = .error (m, 160) := by have h9 := HE.out.1; rw [← h9]; exact Im.dec_cut HQ.out.1 (by rw [h9]; exact hmL)
      go_wp2_with fail
      refine hC.mono ?_
      rintro e w6 ⟨b6, h6⟩
      have B6 : Hid (Below W.heap.size W w6) := B5.out.trans (b6.mono B5.out.size)
      have Hv6 : Hid (Lrd w6.heap.size w6 (.slice av E.length cv) .u8 (E.map Int.ofNat)) := (Hv5.out.below b6).mono b6.size
      clear hC b6 B5 Hv5
      unfold Rres at h6
      rw [hd5] at h6
      simp only at h6
      subst h6
      clear hd5
      go_wp2_with fail
      have b7 := Below.alloc (Below.refl w6.heap.size w6) (Nat.le_refl _) (.cells (gcs (.slice none 0 0) (.slice none 0 0) (.slice none 0 0) (.slice none 0 0) (.slice none 0 0) 0) 29)
      change Calls _ _ _ (w6.alloc (.cells (gcs (.slice none 0 0) (.slice none 0 0) (.slice none 0 0) (.slice none 0 0) (.slice none 0 0) 0) 29)) _
      generalize w6.alloc (.cells (gcs (.slice none 0 0) (.slice none 0 0) (.slice none 0 0) (.slice none 0 0) (.slice none 0 0) 0) 29) = w7 at *
      have B7 : Hid (Below W.heap.size W w7) := B6.out.trans (b7.mono B6.out.size)
      have Hv7 : Hid (Lrd w7.heap.size w7 (.slice av E.length cv) .u8 (E.map Int.ofNat)) := (Hv6.out.below b7).mono b7.size
      clear b7 B6 Hv6
      refine (num16_any 160 w7).mono ?_
      rintro e wb ⟨rfl, rfl⟩
      have b8 := Below.alloc (Below.refl wb.heap.size wb) (Nat.le_refl _) (.cells #[] 5)
      have HN8 : Hid (E.length = (bts E).length ∧ ∀ (j : Nat) u, (bts E)[j]? = some u → ∃ ad, av = some ad ∧ (wb.alloc (.cells #[] 5)).cell? (ad.add j) = some u) := lrd_newsb ((Hv7.out.below b8).mono b8.size)
      have HW8 : Hid ((wb.alloc (.cells #[] 5)).ownsRow wb.heap.size 5 1 (.slice (some ⟨wb.heap.size, 0, none⟩) 0 0) 0 []) := own_new wb
      have B8 : Hid (Below wb.heap.size wb (wb.alloc (.cells #[] 5))) := b8
      clear b8
      have hms : ms.length ≤ 131072 := by omega
      go_upto_region 23 with (at_builtin; first
        | (refine Kg.wpList_append_row rfl _ _ 22 rfl wb.heap.size 5 i0 (.int .u8 0) 1 Tryd.underlying22 HI0.out.1 HI0.out.2.1 HI0.out.2.2.1 HI0.out.2.2.2 rfl _ 0 [] rfl HW8.out av E.length cv (bts E) HN8.out.1 rfl HN8.out.2 (bts_one E) (by simp only [maxLen]; omega) (by omega) B8.out.size ?_
           intro v9 w9 r9 g9 _ _ _
           have g9' : (wb.alloc (.cells #[] 5)).grownBy w9 (some wb.heap.size) := g9
           rw [Nat.zero_add, List.nil_append] at r9
           have b9 : Below wb.heap.size wb w9 := B8.out.trans ((Kg.Touch.grown (F := [wb.heap.size]) g9' (fun k hk => by cases hk; simp)).below B8.out.size (fun k hk => by simp at hk; omega))
           obtain ⟨q, cq, rfl⟩ := Kg.ownsRow_some r9 (by omega)
           have HN9 : Hid (ms.length = (bts ms).length ∧ ∀ (j : Nat) u, (bts ms)[j]? = some u → ∃ ad, am = some ad ∧ w9.cell? (ad.add j) = some u) := lrd_newsb (HM.out w9 (HX.out w9 (B7.out.trans (b9.mono B7.out.size))).1)
           have Hr9 : Hid (w9.ownsRow wb.heap.size 5 1 (.slice (some ⟨q, 0, none⟩) E.length cq) E.length (bts E)) := r9
           have B9 : Hid (Below wb.heap.size wb w9) := b9
           clear r9 g9 g9' b9)
        | (refine Kg.wpList_append_row rfl _ _ 22 rfl wb.heap.size 5 i0 (.int .u8 0) 1 Tryd.underlying22 HI0.out.1 HI0.out.2.1 HI0.out.2.2.1 HI0.out.2.2.2 rfl _ E.length (bts E) rfl Hr9.out am ms.length cm (bts ms) HN9.out.1 rfl HN9.out.2 (bts_one ms) (by simp only [maxLen]; omega) (by omega) B9.out.size ?_
           intro va wa ra ga _ _ _))
      have ga : w9.grownBy wa (some q) := ga
      have hq9 := (Hr9.out.lt q rfl).1
      have ba : Below wb.heap.size wb wa := B9.out.trans ((Kg.Touch.grown (F := [q]) ga (fun k hk => by cases hk; simp)).below B9.out.size (fun k hk => by simp at hk; omega))
      have Ba : Hid (Below W.heap.size W wa) := B7.out.trans (ba.mono B7.out.size)
      have hLe : (E ++ ms).length = E.length + ms.length := List.length_append
      have hva := Lrd.of_bts (w := wa) (v := va) (bs := E ++ ms) (by rw [hLe, bts_append]; exact Kg.row_base ra (Nat.zero_le _))
      obtain ⟨xa, xc, rfl, -, -⟩ := hva.byte
      have hC := iRead_any hva (Nat.le_refl _) (by rw [hLe]; omega) (fun k hk => by
        rcases List.mem_append.1 hk with h9 | h9
        · exact HE.out.2 k h9
        · exact HMB.out k h9) (HL.out _ (HX.out wa Ba.out).1)
      clear ga ba hva ra hq9 HN9 Hr9 B9 HN8 HW8 B8 B7 Hv7 hLe
      generalize (E ++ ms).length = N9 at hC ⊢
      go_wp2_with fail
      refine hC.mono ?_
      rintro e wd ⟨bd, hd⟩
      have Bd' : Hid (Below W.heap.size W wd) := Ba.out.trans (bd.mono Ba.out.size)
      clear hC bd Ba
      unfold Rres at hd
      by_cases hme : ms = []
      · subst hme
        rw [List.append_nil, HQ.out.2.1] at hd
        simp only [HQ.out.2.2] at hd
        rcases hd with ⟨hm5, -⟩ | ⟨-, vo2, vs2, vh2, vr2, vq2, os2, ts2, rfl, -, -⟩
        case inl => exact absurd Hm.out hm5
        go_wp2_with fail
        refine (num16_any 0 wd).mono ?_
        rintro e we ⟨rfl, rfl⟩
        go_wp2
        go_ret
        exact ⟨rfl, (HX.out _ Bd'.out).1⟩
      · have hdm : Im.dec (E ++ ms) = .error (E.length, 162) := by have h9 := HE.out.1; rw [← h9]; exact Im.dec_more HQ.out.1 hme
        rw [hdm] at hd
        simp only at hd
        subst hd
        have hml : ¬ (ms.length : Int) = 0 := by
          have := List.length_pos_iff.2 hme
          omega
        go_wp2_with fail
        refine (num16_any 162 wd).mono ?_
        rintro e we ⟨rfl, rfl⟩
        go_wp2
        go_ret
        exact ⟨by simp, (HX.out _ Bd'.out).1⟩
    · go_wp2_with fail
      refine (num16_any 164 w3).mono ?_
      rintro e wa ⟨rfl, rfl⟩
      go_wp2
      go_ret
      exact ⟨rfl, (HX.out _ B3.out).1⟩

end Go.Proofs.YtblbiikfipcbcaaDoor
