/-
  TenureTwo, walked.
-/
import Derived.Test.YtdcmpilgfkaamaaU5
import Derived.Deep.CutRange
set_option linter.unusedVariables false
namespace Go.Proofs.Ytdcmpilgfkaamaa
open Go.RowKit

/-- Both thresholds are x. -/
theorem Pr.th {w : World} {base tb rb : Nat} {wa : Int} {mo : Nat} {L : List Int} {F : List Nat} (h : Pr w base tb rb wa mo L F) (hlen : L.length < 1000000) : ∃ x : Int,
    Calls Try.prog 14 #[.pointer (some ⟨tb, 0, none⟩)] w (fun e w' => e = .returned (.int .i64 x) ∧ Below w.heap.size w w') ∧
    ∀ w1, Below w.heap.size w w1 → Calls Try.prog 16 #[.pointer (some ⟨rb, 0, none⟩)] w1 (fun e w' => e = .returned (.int .i64 x) ∧ Below w1.heap.size w1 w') := by
  obtain ⟨f, n, h1, h2⟩ := h.t
  exact ⟨f (n - 1), threshold_any h1, fun w1 hb => rthreshold_any (h.r.nil hb) _ (h2.last h1.n0) hlen⟩

/-- Both histories are one list, as sameInts tells. -/
theorem Pr.hist {w : World} {base tb rb : Nat} {wa : Int} {mo : Nat} {L : List Int} {F : List Nat} (h : Pr w base tb rb wa mo L F) (hlen : L.length < 1000000) :
    Calls Try.prog 18 #[.pointer (some ⟨tb, 0, none⟩)] w (fun e w' => ∃ v, e = .returned v ∧ Below w.heap.size w w' ∧
      Calls Try.prog 19 #[.pointer (some ⟨rb, 0, none⟩)] w' (fun e w2 => ∃ v2, e = .returned v2 ∧ Below w'.heap.size w' w2 ∧
        Calls Try.prog 17 #[v, v2] w2 (fun e w3 => e = .returned (.bool true) ∧ Below w2.heap.size w2 w3))) := by
  obtain ⟨f, n, h1, h2⟩ := h.t
  refine (history_any h1).mono ?_
  rintro e w' ⟨k, rfl, hk, hl, hb⟩
  refine ⟨_, rfl, hb, ?_⟩
  refine (rhistory_any (h.r.nil hb) hlen).mono ?_
  rintro e w2 ⟨v2, rfl, hr, hb2⟩
  refine ⟨_, rfl, hb2, ?_⟩
  rw [h2.list] at hl
  have hn := last16_length L n h2.n_
  have hn0 := h1.n0
  rw [hn] at hr
  obtain ⟨g, cap, rfl⟩ : ∃ g cap, v2 = .slice (some ⟨g, 0, none⟩) n cap := by
    rcases hr.2 with ⟨_, h0⟩ | ⟨g, cap, cur, rfl, _⟩
    · omega
    · exact ⟨g, cap, rfl⟩
  have hs := same7_some k 0 n g 0 cap (last16 L) w2 (by rw [hn]; have := h1.n1; omega) (fun j x hj => by
    have hc : w'.cell? ⟨k, j, none⟩ = some (.int .i64 x) := by rw [heap_cell hl]; simp [ints, hj]
    rw [Nat.zero_add, ← hc]
    simp [World.cell?, hb2.block k (World.block_lt_of_cell? _ _ hc)]) (fun j x hj => by
    obtain ⟨g2, cap2, e2, hc⟩ := row_cell hr j x hj
    simp only [Value.slice.injEq, Option.some.injEq, Addr.mk.injEq, true_and, and_true] at e2
    obtain ⟨rfl, rfl⟩ := e2
    rw [Nat.zero_add]; exact hc)
  rw [hn] at hs
  refine hs.mono ?_
  rintro e w3 ⟨rfl, nq, rfl⟩
  exact ⟨rfl, Touch.below (Touch.drewN [] w2 nq) (Nat.le_refl _) (fun k hk => by cases hk)⟩

/-- Two pairs that don't touch one another. -/
structure Duo (w : World) (b1 b2 tb rb ub sb : Nat) (wa wu : Int) (m m2 : Nat) (L L2 : List Int) : Prop where
  ex : ∃ F F2, Pr w b1 tb rb wa m L F ∧ Pr w b2 ub sb wu m2 L2 F2 ∧ Apart (tb :: F) (ub :: F2)

theorem Duo.nil {w w' : World} {b1 b2 tb rb ub sb : Nat} {wa wu : Int} {m m2 : Nat} {L L2 : List Int} (h : Duo w b1 b2 tb rb ub sb wa wu m m2 L L2) (hb : Below w.heap.size w w') : Duo w' b1 b2 tb rb ub sb wa wu m m2 L L2 := by
  obtain ⟨F, F2, h1, h2, h3⟩ := h.ex
  exact ⟨F, F2, h1.nil hb, h2.nil hb, h3⟩

theorem Duo.symm {w : World} {b1 b2 tb rb ub sb : Nat} {wa wu : Int} {m m2 : Nat} {L L2 : List Int} (h : Duo w b1 b2 tb rb ub sb wa wu m m2 L L2) : Duo w b2 b1 ub sb tb rb wu wa m2 m L2 L := by
  obtain ⟨F, F2, h1, h2, h3⟩ := h.ex
  exact ⟨F2, F, h2, h1, h3.symm⟩

/-- A Turn of the first pair: what its two calls do. -/
theorem Duo.go {w : World} {b1 b2 tb rb ub sb : Nat} {wa wu : Int} {m m2 : Nat} {L L2 : List Int} (h : Duo w b1 b2 tb rb ub sb wa wu m m2 L L2) (hb1 : b1 ≤ w.heap.size) (hlen : L.length < 1000000) (ws : Nat → Int) {B : Nat} (hB1 : B ≤ b1) :
    ∃ x e L', L'.length ≤ L.length + 1 ∧ Calls Try.prog 12 #[.pointer (some ⟨tb, 0, none⟩), .agg (av ws)] w (fun ee w1 => ee = .returned (.tuple #[.int .i64 x, .int .i64 e]) ∧ Below B w w1 ∧
      Calls Try.prog 15 #[.pointer (some ⟨rb, 0, none⟩), .agg (av ws)] w1 (fun ee w2 => ee = .returned (.tuple #[.int .i64 x, .int .i64 e]) ∧ Duo w2 b1 b2 tb rb ub sb wa wu m m2 L' L2 ∧ Below B w w2)) := by
  obtain ⟨F, F2, h1, h2, h3⟩ := h.ex
  obtain ⟨x, e, L', G⟩ := h1.goes hlen ws
  refine ⟨x, e, L', G.len, ?_⟩
  refine G.t.mono ?_
  rintro ee w1 ⟨rfl, hTn, ht⟩
  have hlo := h1.lo
  have hBw : Below B w w1 := ht.below (by omega) (fun k hk => by simp at hk; omega)
  refine ⟨rfl, hBw, ?_⟩
  refine (G.r w1 (h1.r.keep ht (fun j hj he => by simp at he; subst he; exact h1.ap hj)) (by have := ht.size; omega)).mono ?_
  rintro ee w2 ⟨rfl, F', hTr, ht3, hnw⟩
  obtain ⟨q1, q2, q3⟩ := h1.turned hTn ht hTr ht3 hnw
  refine ⟨rfl, ⟨F', F2, q1, h2.keep q2 h3.symm, ?_⟩, ?_⟩
  · exact h3.newer q3 (fun k hk => (h2.mem k hk).2)
  · exact q2.below (by omega) (fun k hk => by have := (h1.mem k hk).1; omega)

set_option maxHeartbeats 8000000 in
theorem two_core (s t : Int) (m : Nat) (h : May s t m) (a : Option Addr) (cap : Nat) (T : List (Nat → Int)) (w : World) (hT : LTs w.heap.size w a T) :
    Calls Try.prog 7 #[.int .i64 s, .int .i64 t, .int .i64 m, .slice a T.length cap] w fun e w' => e = .returned (.bool true) ∧ Below w.heap.size w w' := by
  have h1 := begin_yes s t m h w
  have HT : Hid (LTs w.heap.size w a T) := hT
  clear h hT
  go_enter Try.func7, Try.ntmps7
  go_wp2_with fail
  refine h1.mono ?_
  rintro e w1 ⟨tb, rb, F, rfl, hP, hb⟩
  have HP : Hid (Pr w1 w.heap.size tb rb (wan s t) m [(m : Int)] F) := hP
  have HB : Hid (Below w.heap.size w w1) := hb
  have h2 := begin_yes 64 50 4 (by unfold May; decide) w1
  clear h1 hP hb
  generalize wan s t = wa at HP
  go_wp2_with fail
  refine h2.mono ?_
  rintro e w2 ⟨ub, sb, F2, rfl, hP2, hb2⟩
  have HD : Hid (Duo w2 w.heap.size w1.heap.size tb rb ub sb wa (wan 64 50) m 4 [(m : Int)] [4]) := ⟨F, F2, HP.out.nil hb2, hP2, fun k hk hk2 => by
    have := (HP.out.mem k hk).2
    have := (hP2.mem k hk2).1
    omega⟩
  have HB2 : Hid (Below w.heap.size w w2) := HB.out.trans (hb2.mono HB.out.size)
  have HL : Hid (w.heap.size ≤ w1.heap.size) := HB.out.size
  clear h2 hP2 hb2 HP HB
  generalize wan 64 50 = wu at HD
  generalize w1.heap.size = b2 at HD HL
  go_wp2
  go_loopw [15] (fun i wr => ∃ k : Nat, k ≤ T.length ∧ k ≤ 200 ∧ i = .int .i64 k ∧ (∃ L L2, L.length ≤ k + 1 ∧ L2.length ≤ k + 1 ∧ b2 ≤ wr.heap.size ∧ Duo wr w.heap.size b2 tb rb ub sb wa wu m 4 L L2) ∧ Below w.heap.size w wr) (fun i _ => T.length - (intOf i).toNat)
  case atStart =>
    refine ⟨0, Nat.zero_le _, by omega, rfl, ⟨_, _, by simp, by simp, ?_, HD.out⟩, HB2.out⟩
    obtain ⟨_, _, _, q, _⟩ := HD.out.ex
    have := (q.mem ub (by simp))
    omega
  case round =>
    obtain ⟨k, hk, hk200, rfl, ⟨L, L2, hL, hL2, hb2, hD⟩, hbel⟩ := hrel
    clear HD HB2
    by_cases hgo : k < T.length ∧ k < 200
    · obtain ⟨hlt, h200⟩ := hgo
      obtain ⟨ws, hws⟩ : ∃ f, T[k]? = some f := ⟨_, List.getElem?_eq_getElem hlt⟩
      obtain ⟨g, off, ha, hg, hr⟩ := HT.out k ws hws
      subst ha
      have hki : (k : Int) < T.length := by omega
      have hki2 : (k : Int) < 200 := by omega
      have HR : Hid (wr.rangeAt g (off + k * 16) (row16 ws)) := fun j v hv => by
        have := hr j v hv
        rw [← this]; simp [World.cell?, hbel.block g hg]
      have HR' : Hid (∀ w', Below w.heap.size wr w' → w'.rangeAt g (off + k * 16) (row16 ws)) := fun w' hb j v hv => by
        have := HR.out j v hv
        rw [← this]; simp [World.cell?, hb.block g hg]
      have HB : Hid (Below w.heap.size w wr) := hbel
      clear hr hws hg
      go_upto_region 8 with fail
      go_cut [65] from 63 to 65 (fun v wc => v = .bool (decide (k % 3 = 0)) ∧ wr = wc)
      case first =>
        by_cases hm : k % 3 = 0
        · have hm1 : ((k : Int) % 3) = 0 := by omega
          go_wp2_with fail
          go_meet
          simp [hm]
        · have hm1 : ((k : Int) % 3 == 0) = false := by simp; omega
          go_wp2_with fail
          go_meet
          simp [hm]
      case rest =>
      obtain ⟨rfl, rfl⟩ := hcut
      apply_assumption
      go_cut [] from 65 to 89 (fun wc => ∃ L L2, L.length ≤ k + 1 + 1 ∧ L2.length ≤ k + 1 + 1 ∧ b2 ≤ wc.heap.size ∧ Duo wc w.heap.size b2 tb rb ub sb wa wu m 4 L L2 ∧ Below w.heap.size w wc)
      case first =>
        by_cases hm : k % 3 = 0
        · rw [decide_eq_true hm]
          obtain ⟨x, e, L', hlen, hc⟩ := hD.symm.go hb2 (by omega) ws HL.out
          have HLen : Hid (L'.length ≤ L2.length + 1) := hlen
          have HB2 : Hid (b2 ≤ wr.heap.size) := hb2
          clear hD hlen hbel hb2
          go_wp2_with (first
            | refine wpList_load_mid rfl 27 _ rfl g (off + k * 16) rfl _ _ HR.out Try.underlying27 rfl (size_rowl _) ?_)
          refine hc.mono ?_
          rintro ee w3 ⟨rfl, hb3, hc2⟩
          have HR3 : Hid (w3.rangeAt g (off + k * 16) (row16 ws)) := HR'.out w3 hb3
          clear hc hb3
          go_wp2_with (first
            | refine wpList_load_mid rfl 27 _ rfl g (off + k * 16) rfl _ _ HR3.out Try.underlying27 rfl (size_rowl _) ?_)
          refine hc2.mono ?_
          rintro ee w4 ⟨rfl, hD4, hb4⟩
          have HD4 : Hid (Duo w4 w.heap.size b2 tb rb ub sb wa wu m 4 L L') := hD4.symm
          have HB4 : Hid (Below w.heap.size wr w4) := hb4
          clear hc2 hD4 hb4
          go_wp2_with fail
          go_meet
          exact ⟨L, L', by omega, by have := HLen.out; omega, by have := HB2.out; have := HB4.out.size; omega, HD4.out, HB.out.trans HB4.out⟩
        · rw [decide_eq_false hm]
          obtain ⟨x, e, L', hlen, hc⟩ := hD.go (Nat.le_trans HL.out hb2) (by omega) ws (Nat.le_refl _)
          have HLen : Hid (L'.length ≤ L.length + 1) := hlen
          have HB2 : Hid (b2 ≤ wr.heap.size) := hb2
          clear hD hlen hbel hb2
          go_wp2_with (first
            | refine wpList_load_mid rfl 27 _ rfl g (off + k * 16) rfl _ _ HR.out Try.underlying27 rfl (size_rowl _) ?_)
          refine hc.mono ?_
          rintro ee w3 ⟨rfl, hb3, hc2⟩
          have HR3 : Hid (w3.rangeAt g (off + k * 16) (row16 ws)) := HR'.out w3 hb3
          clear hc hb3
          go_wp2_with (first
            | refine wpList_load_mid rfl 27 _ rfl g (off + k * 16) rfl _ _ HR3.out Try.underlying27 rfl (size_rowl _) ?_)
          refine hc2.mono ?_
          rintro ee w4 ⟨rfl, hD4, hb4⟩
          have HD4 : Hid (Duo w4 w.heap.size b2 tb rb ub sb wa wu m 4 L' L2) := hD4
          have HB4 : Hid (Below w.heap.size wr w4) := hb4
          clear hc2 hD4 hb4
          go_wp2_with fail
          go_meet
          exact ⟨L', L2, by have := HLen.out; omega, by omega, by have := HB2.out; have := HB4.out.size; omega, HD4.out, HB.out.trans HB4.out⟩
      case rest =>
      obtain ⟨M, M2, hM, hM2, hb2', hD', hbel'⟩ := hcut
      clear hD hbel hb2 hL hL2 HR HR' HB
      obtain ⟨F, F2, p1, p2, p3⟩ := hD'.ex
      obtain ⟨x, x1, x2⟩ := p1.th (by omega)
      have Hx2 : Hid (∀ w1, Below wc.heap.size wc w1 → Calls Try.prog 16 #[.pointer (some ⟨rb, 0, none⟩)] w1 (fun e w' => e = .returned (.int .i64 x) ∧ Below w1.heap.size w1 w')) := x2
      have Hy : Hid (∀ w1, Below wc.heap.size wc w1 → ∃ y : Int, Calls Try.prog 14 #[.pointer (some ⟨ub, 0, none⟩)] w1 (fun e w' => e = .returned (.int .i64 y) ∧ Below w1.heap.size w1 w') ∧
          ∀ w2, Below w1.heap.size w1 w2 → Calls Try.prog 16 #[.pointer (some ⟨sb, 0, none⟩)] w2 (fun e w' => e = .returned (.int .i64 y) ∧ Below w2.heap.size w2 w')) := fun w1 hb1 => (p2.nil hb1).th (by omega)
      have HD : Hid (Duo wc w.heap.size b2 tb rb ub sb wa wu m 4 M M2) := hD'
      have HB : Hid (Below w.heap.size w wc) := hbel'
      have HM : Hid (M.length ≤ k + 1 + 1 ∧ M2.length ≤ k + 1 + 1 ∧ b2 ≤ wc.heap.size) := ⟨hM, hM2, hb2'⟩
      clear p1 p2 p3 hD' hbel' hM hM2 hb2' x2
      go_wp2_with fail
      refine x1.mono ?_
      rintro e w3 ⟨rfl, hb3⟩
      obtain ⟨y, y1, y2⟩ := Hy.out w3 hb3
      have HB3 : Hid (Below wc.heap.size wc w3) := hb3
      have Hy2 : Hid (∀ w2, Below w3.heap.size w3 w2 → Calls Try.prog 16 #[.pointer (some ⟨sb, 0, none⟩)] w2 (fun e w' => e = .returned (.int .i64 y) ∧ Below w2.heap.size w2 w')) := y2
      clear x1 hb3 Hy y2
      go_wp2_with fail
      refine y1.mono ?_
      rintro e w4 ⟨rfl, hb4⟩
      have HB4 : Hid (Below w3.heap.size w3 w4) := hb4
      have x1 := Hx2.out w4 (HB3.out.trans (hb4.mono HB3.out.size))
      clear y1 hb4
      go_wp2_with fail
      refine x1.mono ?_
      rintro e w5 ⟨rfl, hb5⟩
      have HB5 : Hid (Below w3.heap.size w3 w5) := HB4.out.trans (hb5.mono HB4.out.size)
      have y1 := Hy2.out w5 HB5.out
      clear x1 hb5 HB4
      go_wp2_with fail
      refine y1.mono ?_
      rintro e w6 ⟨rfl, hb6⟩
      have HB6 : Hid (Below wc.heap.size wc w6) := HB3.out.trans ((HB5.out.trans (hb6.mono HB5.out.size)).mono HB3.out.size)
      clear y1 hb6 HB5 HB3
      go_wp2
      go_roundw
      case rel => exact ⟨k + 1, by omega, by omega, by go_num, ⟨M, M2, HM.out.1, HM.out.2.1, Nat.le_trans HM.out.2.2 HB6.out.size, HD.out.nil HB6.out⟩, HB.out.trans (HB6.out.mono HB.out.size)⟩
      case measure => simp [intOf]; omega
    · obtain ⟨F, F2, p1, p2, p3⟩ := hD.ex
      have c1 := p1.hist (by omega)
      have HB : Hid (Below w.heap.size w wr) := hbel
      have Hc2 : Hid (∀ w1, Below wr.heap.size wr w1 → Calls Try.prog 18 #[.pointer (some ⟨ub, 0, none⟩)] w1 (fun e w' => ∃ v, e = .returned v ∧ Below w1.heap.size w1 w' ∧
        Calls Try.prog 19 #[.pointer (some ⟨sb, 0, none⟩)] w' (fun e w2 => ∃ v2, e = .returned v2 ∧ Below w'.heap.size w' w2 ∧
          Calls Try.prog 17 #[v, v2] w2 (fun e w3 => e = .returned (.bool true) ∧ Below w2.heap.size w2 w3)))) := fun w1 hb1 => (p2.nil hb1).hist (by omega)
      clear p1 p2 p3 hD hbel hL hL2 hb2 HT
      go_upto_region 6 with fail
      go_cut [60] from 53 to 60 (fun v wc => v = .bool false ∧ wr = wc)
      case first =>
        by_cases hlt : k < T.length
        · obtain rfl : k = 200 := by omega
          have hki : (200 : Int) < T.length := by omega
          go_wp2_with fail
          go_meet
          exact ⟨rfl, rfl⟩
        · obtain rfl : k = T.length := by omega
          go_wp2_with fail
          go_meet
          exact ⟨rfl, rfl⟩
      case rest =>
      obtain ⟨rfl, rfl⟩ := hcut
      clear hgo
      go_wp2_with fail
      refine c1.mono ?_
      rintro e w3 ⟨v1, rfl, hb3, c2⟩
      have HB3 : Hid (Below wr.heap.size wr w3) := hb3
      clear c1 hb3
      go_wp2_with fail
      refine c2.mono ?_
      rintro e w4 ⟨v2, rfl, hb4, c3⟩
      have HB4 : Hid (Below wr.heap.size wr w4) := HB3.out.trans (hb4.mono HB3.out.size)
      clear c2 hb4 HB3
      go_wp2_with fail
      refine c3.mono ?_
      rintro e w5 ⟨rfl, hb5⟩
      have HB5 : Hid (Below wr.heap.size wr w5) := HB4.out.trans (hb5.mono HB4.out.size)
      have c4 := Hc2.out w5 HB5.out
      clear c3 hb5 HB4 Hc2
      go_wp2_with fail
      refine c4.mono ?_
      rintro e w6 ⟨v3, rfl, hb6, c5⟩
      have HB6 : Hid (Below wr.heap.size wr w6) := HB5.out.trans (hb6.mono HB5.out.size)
      clear c4 hb6 HB5
      go_wp2_with fail
      refine c5.mono ?_
      rintro e w7 ⟨v4, rfl, hb7, c6⟩
      have HB7 : Hid (Below wr.heap.size wr w7) := HB6.out.trans (hb7.mono HB6.out.size)
      clear c5 hb7 HB6
      go_wp2_with fail
      refine c6.mono ?_
      rintro e w8 ⟨rfl, hb8⟩
      have HB8 : Hid (Below wr.heap.size wr w8) := HB7.out.trans (hb8.mono HB7.out.size)
      clear c6 hb8 HB7
      go_wp2
      go_ret
      exact ⟨rfl, HB.out.trans (HB8.out.mono HB.out.size)⟩

set_option maxHeartbeats 2000000 in
theorem two_any (s t m : Int) (a : Option Addr) (cap : Nat) (T : List (Nat → Int)) (w : World) (hT : LTs w.heap.size w a T) :
    Calls Try.prog 7 #[.int .i64 s, .int .i64 t, .int .i64 m, .slice a T.length cap] w fun e w' => e = .returned (.bool true) ∧ Below w.heap.size w w' := by
  by_cases h : May s t m
  · obtain ⟨k, rfl⟩ : ∃ k : Nat, m = k := ⟨m.toNat, by unfold May at h; omega⟩
    exact two_core s t k h a cap T w hT
  · have h1 := begin_no s t m h w
    have h2 := begin_yes 64 50 4 (by unfold May; decide) w
    clear h hT
    go_enter Try.func7, Try.ntmps7
    go_wp2_with fail
    refine h1.mono ?_
    rintro e w' ⟨rfl, rfl⟩
    go_wp2_with fail
    refine h2.mono ?_
    rintro e w2 ⟨ub, sb, F2, rfl, _, hb2⟩
    go_wp2
    go_ret
    exact ⟨rfl, hb2⟩

end Go.Proofs.Ytdcmpilgfkaamaa
