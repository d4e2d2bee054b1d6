/-
  TenureAsks: the loop.
-/
import Derived.Test.YtdcmpilgfkaamaaDoorK15
set_option linter.unusedVariables false
set_option maxRecDepth 20000
namespace Go.Proofs.YtdcmpilgfkaamaaDoor
open Go.RowKit

theorem build_bk0 (w : World) : (Instr.build 43 #[]).run Tryd.prog w = .ok (.agg (bkc bk0)) w := by kernel_rfl

theorem wpList_build0 {P : Program} {ops : Array Oper} {rest : List Oper} {op : Oper} {a : Act} {w : World} {Q : Exit → Act → World → Prop} (hgd : op.guard = none) (ty : TypeId) (v : Value) (ho : op.op = .build ty #[]) (hr : ∀ w, (Instr.build ty #[]).run P w = .ok v w)
    (h : wpList P ops Q rest (a.put op.dst v) w) : wpList P ops Q (op :: rest) a w :=
  wpList_plain hgd fun _ hK => by
    unfold Oper.wp execOp
    simp only [ho]
    simp [hr, Result.andThen]
    exact hK _ _ h

set_option maxHeartbeats 32000000 in
theorem asks_core (s t : Int) (m : Nat) (h : May s t m) (a : Option Addr) (cap : Nat) (T : List (Nat → Int)) (age : Int) (w : World) (hT : LTs w.heap.size w a T) :
    Calls Tryd.prog 3 #[.int .i64 s, .int .i64 t, .int .i64 m, .slice a T.length cap, .int .i64 age] w fun e w' => e = .returned (.bool true) ∧ Below w.heap.size w w' := by
  have h1 := begin_yes s t m h w
  have HT : Hid (LTs w.heap.size w a T) := hT
  have hm1 : 1 ≤ (m : Int) ∧ (m : Int) ≤ 15 := by unfold May at h; omega
  have Hm : Hid (1 ≤ (m : Int) ∧ (m : Int) ≤ 15) := hm1
  clear h hT hm1
  go_enter Tryd.func3, Tryd.ntmps3
  go_wp2_with fail
  refine h1.mono ?_
  rintro e w1 ⟨tb, rb, F, rfl, hP, hb⟩
  have HP : Hid (Pr w1 w.heap.size tb rb (wan s t) m [(m : Int)] F) := hP
  have HB : Hid (Below w.heap.size w w1) := hb
  clear h1 hP hb
  generalize wan s t = wa at HP
  go_upto_region 5 with (first | refine wpList_build0 rfl 43 _ rfl build_bk0 ?_)
  have hbk : Bk (w1.alloc (.cells (bkc bk0) 43)) w1.heap.size bk0 := heap_alloc_new w1 _
  have hb2 := Below.alloc (Below.refl w1.heap.size w1) (Nat.le_refl _) (.cells (bkc bk0) 43)
  have hap : ∀ k, k ∈ tb :: F → ¬ Own w1.heap.size bk0 k ∧ k ∉ ([] : List Nat) := by
    intro k hk
    refine ⟨fun ho => ?_, by simp⟩
    have h3 := (HP.out.mem k hk).2
    rcases ho with rfl | ⟨j, j1, j2, j3⟩
    · omega
    · rw [bk0_row j j1 j2] at j3
      cases j3
  have HA : Hid (All7 (w1.alloc (.cells (bkc bk0) 43)) w.heap.size w1.heap.size tb rb wa m [(m : Int)] 0) := ⟨bk0, _, _, _, _, _, _, F, bok0 hbk HB.out.size, HP.out.nil hb2, hap⟩
  have HB2 : Hid (Below w.heap.size w (w1.alloc (.cells (bkc bk0) 43))) := HB.out.trans (hb2.mono HB.out.size)
  clear hbk hb2 HP HB hap
  generalize (w1.alloc (.cells (bkc bk0) 43)) = w2 at HA HB2 ⊢
  generalize w1.heap.size = b at HA ⊢
  go_wp2
  go_loopw [15] (fun i wr => ∃ k : Nat, k ≤ T.length + 1 ∧ k ≤ 200 ∧ i = .int .i64 k ∧ (∃ L, L.length ≤ k + 1 ∧ (∀ y, y ∈ L → 1 ≤ y ∧ y ≤ 15) ∧ All7 wr w.heap.size b tb rb wa m L (6 * k)) ∧ Below w.heap.size w wr) (fun i _ => T.length + 1 - (intOf i).toNat)
  case atStart => exact ⟨0, by omega, by omega, rfl, ⟨[(m : Int)], by simp, fun y hy => by simp at hy; subst hy; exact Hm.out, HA.out⟩, HB2.out⟩
  case round =>
    obtain ⟨k, hk, hk200, rfl, ⟨L, hL, hY, hA⟩, hbel⟩ := hrel
    clear HA HB2
    have HB : Hid (Below w.heap.size w wr) := hbel
    clear hbel
    by_cases hgo : k ≤ T.length ∧ k < 200
    · obtain ⟨hle, h200⟩ := hgo
      have hki : (k : Int) ≤ T.length := by omega
      have hki2 : (k : Int) < 200 := by omega
      obtain ⟨x, x0, x15, q1, q2, q3, q4⟩ := hA.ask (by omega) hY
      have HA : Hid (All7 wr w.heap.size b tb rb wa m L (6 * k)) := hA
      have HY : Hid (∀ y, y ∈ L → 1 ≤ y ∧ y ≤ 15) := hY
      have Q2 : Hid (∀ w1 age, Below wr.heap.size wr w1 → Calls Tryd.prog 6 #[.pointer (some ⟨tb, 0, none⟩), .int .i64 age] w1 (fun e w' => e = .returned (.bool (decide (x ≤ age))) ∧ Below w1.heap.size w1 w')) := q2
      have Q3 : Hid (∀ w1, Below wr.heap.size wr w1 → Calls Tryd.prog 7 #[.pointer (some ⟨rb, 0, none⟩)] w1 (fun e w' => e = .returned (.int .i64 x) ∧ Below w1.heap.size w1 w')) := q3
      have Q4 : Hid (∀ w1 age, Below wr.heap.size wr w1 → Calls Tryd.prog 8 #[.pointer (some ⟨rb, 0, none⟩), .int .i64 age] w1 (fun e w' => e = .returned (.bool (decide (x ≤ age))) ∧ Below w1.heap.size w1 w')) := q4
      have c := q1 wr (Below.refl _ _)
      clear hA hY q1 q2 q3 q4
      go_wp2_with fail
      refine c.mono ?_
      rintro e w3 ⟨rfl, hb3⟩
      have B3 : Hid (Below wr.heap.size wr w3) := hb3
      clear c hb3
      have c := Q2.out w3 age B3.out
      go_wp2_with fail
      refine c.mono ?_
      rintro e w4 ⟨rfl, hb4⟩
      have B4 : Hid (Below wr.heap.size wr w4) := B3.out.trans (hb4.mono B3.out.size)
      clear c hb4 B3
      have c := Q2.out w4 x B4.out
      rw [decide_eq_true (Int.le_refl x)] at c
      go_wp2_with fail
      refine c.mono ?_
      rintro e w5 ⟨rfl, hb5⟩
      have B5 : Hid (Below wr.heap.size wr w5) := B4.out.trans (hb5.mono B4.out.size)
      clear c hb5 B4
      have c := Q2.out w5 (x - 1) B5.out
      rw [decide_eq_false (show ¬ x ≤ x - 1 by omega)] at c
      go_wp2_with fail
      refine c.mono ?_
      rintro e w6 ⟨rfl, hb6⟩
      have B6 : Hid (Below wr.heap.size wr w6) := B5.out.trans (hb6.mono B5.out.size)
      clear c hb6 B5
      have c := Q3.out w6 B6.out
      go_wp2_with fail
      refine c.mono ?_
      rintro e w7 ⟨rfl, hb7⟩
      have B7 : Hid (Below wr.heap.size wr w7) := B6.out.trans (hb7.mono B6.out.size)
      clear c hb7 B6
      have c := Q4.out w7 age B7.out
      go_wp2_with fail
      refine c.mono ?_
      rintro e w8 ⟨rfl, hb8⟩
      have B8 : Hid (Below wr.heap.size wr w8) := B7.out.trans (hb8.mono B7.out.size)
      have HA8 : Hid (All7 w8 w.heap.size b tb rb wa m L (6 * k)) := HA.out.nil B8.out
      have HB8 : Hid (Below w.heap.size w w8) := HB.out.trans (B8.out.mono HB.out.size)
      clear c hb8 B7 B8 HA HB Q2 Q3 Q4
      go_upto_region 15 with fail
      go_loopw [20] (fun i wr2 => ∃ q : Nat, q ≤ 3 ∧ i = .int .i64 q ∧ All7 wr2 w.heap.size b tb rb wa m L (6 * k + 2 * q) ∧ Below w.heap.size w wr2) (fun i _ => 3 - (intOf i).toNat)
      case atStart => exact ⟨0, by omega, rfl, HA8.out, HB8.out⟩
      case round =>
        obtain ⟨q, hq, rfl, hA, hbel⟩ := hrel
        clear HA8 HB8
        have HB : Hid (Below w.heap.size w wr) := hbel
        have HA : Hid (All7 wr w.heap.size b tb rb wa m L (6 * k + 2 * q)) := hA
        clear hbel hA
        by_cases hq3 : q < 3
        · have hqi : (q : Int) < 3 := by omega
          have c := HA.out.hist (by omega)
          go_wp2_with fail
          refine c.mono ?_
          rintro e w3 ⟨g, l, rfl, hg, hl, hb3, l1, l16, c2⟩
          have HL : Hid (wr.heap.size ≤ g ∧ Lone w3 g l ∧ Below wr.heap.size wr w3 ∧ 1 ≤ l.length ∧ l.length ≤ 16) := ⟨hg, hl, hb3, l1, l16⟩
          clear c hg hl hb3 l1 l16
          go_wp2_with fail
          refine c2.mono ?_
          rintro e w4 ⟨v2, rfl, hb4, c3⟩
          have B4 : Hid (Below w3.heap.size w3 w4) := hb4
          clear c2 hb4
          go_wp2_with fail
          refine c3.mono ?_
          rintro e w5 ⟨rfl, hb5⟩
          have B5 : Hid (Below w3.heap.size w3 w5) := B4.out.trans (hb5.mono B4.out.size)
          clear c3 hb5 B4
          have c := HA.out.put (by omega) HL.out.2.2.1 HL.out.2.1 HL.out.1 HL.out.2.2.2.1 HL.out.2.2.2.2 (100 * (k : Int) + 30 * (q : Int) + 1) (by omega) (by omega) B5.out
          go_wp2_with fail
          refine c.mono ?_
          rintro e w6 ⟨rfl, hA6, hb6⟩
          have HA6 : Hid (All7 w6 w.heap.size b tb rb wa m L (6 * k + 2 * q + 2)) := hA6
          have B6 : Hid (Below w.heap.size w w6) := HB.out.trans hb6
          have c2 := hA6.hold (by omega)
          clear c hA6 hb6 HA HB HL B5
          go_wp2_with fail
          refine c2.mono ?_
          rintro e w7 ⟨rfl, hb7⟩
          have HA7 : Hid (All7 w7 w.heap.size b tb rb wa m L (6 * k + 2 * (q + 1))) := HA6.out.nil hb7
          have B7 : Hid (Below w.heap.size w w7) := B6.out.trans (hb7.mono B6.out.size)
          clear c2 hb7 HA6 B6
          go_wp2
          go_roundw
          case rel => exact ⟨q + 1, by omega, by go_num, HA7.out, B7.out⟩
          case measure => simp [intOf]; omega
        · obtain rfl : q = 3 := by omega
          by_cases hlt : k < T.length
          · obtain ⟨ws, hws⟩ : ∃ f, T[k]? = some f := ⟨_, List.getElem?_eq_getElem hlt⟩
            obtain ⟨g, off, ha, hg, hr⟩ := HT.out k ws hws
            subst ha
            have hkl : (k : Int) < T.length := by omega
            obtain ⟨x9, e9, L', n9, Y9, c⟩ := HA.out.turn (by omega) HY.out ws
            have HR : Hid (∀ w', Below w.heap.size w w' → w'.rangeAt g (off + k * 16) (row16 ws)) := fun w' hb j v hv => by
              have := hr j v hv
              rw [← this]; simp [World.cell?, hb.block g hg]
            have HR1 : Hid (wr.rangeAt g (off + k * 16) (row16 ws)) := HR.out wr HB.out
            have HN : Hid (L'.length ≤ L.length + 1 ∧ ∀ y, y ∈ L' → 1 ≤ y ∧ y ≤ 15) := ⟨n9, Y9⟩
            clear hws hr hg n9 Y9
            go_wp2_with (first
              | refine wpList_load_mid rfl 53 _ rfl g (off + k * 16) rfl _ _ HR1.out Tryd.underlying53 rfl (size_rowl _) ?_)
            refine c.mono ?_
            rintro ee w3 ⟨rfl, hb3, c2⟩
            have HR3 : Hid (w3.rangeAt g (off + k * 16) (row16 ws)) := HR.out w3 (HB.out.trans hb3)
            clear c hb3
            go_wp2_with (first
              | refine wpList_load_mid rfl 53 _ rfl g (off + k * 16) rfl _ _ HR3.out Tryd.underlying53 rfl (size_rowl _) ?_)
            refine c2.mono ?_
            rintro ee w4 ⟨rfl, hA4, hb4⟩
            have HA4 : Hid (All7 w4 w.heap.size b tb rb wa m L' (6 * k + 2 * 3)) := hA4
            have HB4 : Hid (Below w.heap.size w w4) := HB.out.trans hb4
            clear c2 hA4 hb4 HA HB HR HR1 HR3
            go_wp2
            go_roundw
            case rel => exact ⟨k + 1, by omega, by omega, by go_num, ⟨L', by have := HN.out.1; omega, HN.out.2, HA4.out⟩, HB4.out⟩
            case measure => simp [intOf]; omega
          · go_wp2
            go_roundw
            case rel => exact ⟨k + 1, by omega, by omega, by go_num, ⟨L, by omega, HY.out, HA.out⟩, HB.out⟩
            case measure => simp [intOf]; omega
    · go_upto_region 6 with fail
      go_cut [46] from 39 to 46 (fun v wc => v = .bool false ∧ wr = wc)
      case first =>
        by_cases hle : k ≤ T.length
        · obtain rfl : k = 200 := by omega
          have hki : (200 : Int) ≤ T.length := by omega
          go_wp2_with fail
          go_meet
          exact ⟨rfl, rfl⟩
        · have hki : ¬ ((k : Int) ≤ T.length) := by omega
          have hd : decide ((k : Int) ≤ T.length) = false := decide_eq_false hki
          go_wp2_with fail
          go_meet
          exact ⟨rfl, rfl⟩
      case rest =>
      obtain ⟨rfl, rfl⟩ := hcut
      clear hA hY
      go_wp2
      go_ret
      exact ⟨rfl, HB.out⟩

set_option maxHeartbeats 2000000 in
theorem asks_any (s t m : Int) (a : Option Addr) (cap : Nat) (T : List (Nat → Int)) (age : Int) (w : World) (hT : LTs w.heap.size w a T) :
    Calls Tryd.prog 3 #[.int .i64 s, .int .i64 t, .int .i64 m, .slice a T.length cap, .int .i64 age] w fun e w' => e = .returned (.bool true) ∧ Below w.heap.size w w' := by
  by_cases h : May s t m
  · obtain ⟨k, rfl⟩ : ∃ k : Nat, m = k := ⟨m.toNat, by unfold May at h; omega⟩
    exact asks_core s t k h a cap T age w hT
  · have h1 := begin_no s t m h w
    clear h hT
    go_enter Tryd.func3, Tryd.ntmps3
    go_wp2_with fail
    refine h1.mono ?_
    rintro e w' ⟨rfl, rfl⟩
    go_wp2
    go_ret
    exact ⟨rfl, Below.refl _ _⟩

end Go.Proofs.YtdcmpilgfkaamaaDoor
