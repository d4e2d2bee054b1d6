/-
  ArenaSpaces: an arena that is made.
-/
import Derived.Test.YtbdkcelggffneaaDoorS1
set_option linter.unusedVariables false
namespace Go.Proofs.YtbdkcelggffneaaDoor
open Go.RowKit Go.Shelf

/-- The sizes in a block. -/
structure Szs (w : World) (b : Nat) (c : Cfg) : Prop where
  at_ : w.heap[b]? = some (.cells #[.int .i64 0, .int .i64 c.eden, .int .i64 c.surv, .int .i64 c.surv, .int .i64 c.ten] 3 (0, 0))

theorem Szs.lt {w : World} {b : Nat} {c : Cfg} (h : Szs w b c) : b < w.heap.size := (Array.getElem?_eq_some_iff.1 h.at_).1
theorem Szs.below {w w' : World} {b : Nat} {c : Cfg} (h : Szs w b c) (l : Below w.heap.size w w') : Szs w' b c := ⟨(l.block b h.lt).trans h.at_⟩
theorem Szs.cell {w : World} {b : Nat} {c : Cfg} (h : Szs w b c) (s : Int) (hs : 1 ≤ s ∧ s ≤ 4) (n : Nat) (hn : (n : Int) = s) : w.cell? ⟨b, n, none⟩ = some (.int .i64 (szS c s)) := by
  rw [cell_of_row _ _ n _ _ _ h.at_]
  obtain rfl | rfl | rfl | rfl : n = 1 ∨ n = 2 ∨ n = 3 ∨ n = 4 := by omega
  all_goals
    subst hn
    simp [szS, bhd, fst]
    try omega

theorem put_self (x : Tps) (s v : Int) (h : x.top s = v) (hs : 1 ≤ s ∧ s ≤ 4) : x.put s v = x := by
  subst h
  obtain rfl | rfl | rfl | rfl : s = 1 ∨ s = 2 ∨ s = 3 ∨ s = 4 := by omega
  all_goals simp [Tps.put, Tps.top]

theorem put_put (x : Tps) (s v u : Int) : (x.put s v).put s u = x.put s u := by
  unfold Tps.put
  simp only [Tps.mk.injEq]
  refine ⟨?_, ?_, ?_, ?_⟩
  all_goals split <;> simp [*]

set_option maxHeartbeats 400000 in
theorem mod4_any (n : Int) (hn : -9223372036854775808 ≤ n ∧ n ≤ 9223372036854775807) (w : World) :
    Calls Tryd.prog 13 #[.int .i64 n, .int .i64 4] w fun e w' => ∃ m, e = .returned (.int .i64 m) ∧ 0 ≤ m ∧ m < 4 ∧ w = w' := by
  obtain ⟨n0, n1⟩ := hn
  have h1 : -4 < n.tmod 4 := Int.lt_tmod_of_pos n (by decide)
  have h2 : n.tmod 4 < 4 := Int.tmod_lt_of_pos n (by decide)
  go_enter Tryd.func13, Tryd.ntmps13
  go_wp2
  go_ret
  exact ⟨_, rfl, Int.emod_nonneg _ (by decide), Int.emod_lt_of_pos _ (by decide), rfl⟩

/-- A world that has only grown. -/
structure Bel (w : World) where
  v : World
  h : Below w.heap.size w v

theorem region_below {P : Program} {id : Nat} {Q : Exit → Act → World → Prop} {a : Act} {w : World} {l : List Oper} (hm : P.follows .mixedOrders = true) (hB : Region.lexB .any l.toArray = true)
    (h : wpQuiet P l.toArray (fun w' => ∃ p : Bel w, w' = p.v) (fun a' => ∀ w', (∃ p : Bel w, w' = p.v) → Q .normal a' w') l a) : (Code.region id l.toArray true).wp P Q a w :=
  wp_region_quiet (C := fun w' => ∃ p : Bel w, w' = p.v) hm hB ⟨⟨w.drewN 1, below_drewN (Below.refl _ _) 1⟩, rfl⟩ (by simpa using h)

theorem calls_bel {P : Program} {f : FuncId} {args : Array Value} {w : World} {p : Bel w} {v : Value} (h : Calls P f args p.v fun e w' => e = .returned v ∧ Below p.v.heap.size p.v w') : Calls P f args p.v fun e w'' => e = .returned v ∧ ∃ q : Bel w, w'' = q.v :=
  h.mono fun _ w'' ⟨he, l⟩ => ⟨he, ⟨w'', p.h.trans (l.mono p.h.size)⟩, rfl⟩

set_option maxRecDepth 20000 in
set_option maxHeartbeats 8000000 in
theorem spaces_yes (c : Cfg) (hc : c.Ok) (sp cut : Int) (hsp : -9223372036854775808 ≤ sp ∧ sp ≤ 9223372036854775807) (a : Option Addr) (cap : Nat) (xs : List Int) (hxl : xs.length ≤ 9223372036854775807) (w : World) (hL : Laid w) (hx : Lst w a xs) :
    Calls Tryd.prog 3 #[cv c, .int .i64 sp, .slice a xs.length cap, .int .i64 cut] w fun e w' => e = .returned (.bool true) ∧ Below w.heap.size w w' := by
  have b0 : Below w.heap.size w (w.alloc (.cells (ccells c) 23)) := Below.alloc (Below.refl _ _) (Nat.le_refl _) _
  have f0 := Cfd.new w c
  have hk := known3_any _ (hL.keep b0)
  have HC : Hid c.Ok := hc
  have HL : Hid (Laid w) := hL
  have HX : Hid (Lst w a xs) := hx
  clear hL hc hx
  go_enter Tryd.func3, Tryd.ntmps3
  go_wp2_with fail
  refine hk.mono ?_
  rintro e w1 ⟨rfl, b1⟩
  have f1 := f0.below b1
  have b2 := b0.trans (b1.mono b0.size)
  clear hk b0 b1 f0
  have fc := f1.cells
  obtain ⟨k0, k1, k2, k3, k4, k5, k6, k7, k8, k9, k10, k11, k12, k13⟩ := fc
  go_wp2_with fail
  clear k0 k1 k2 k3 k4 k5 k6 k7 k8 k9 k10 k11 k12 k13
  refine (new_yes c HC.out w1).mono ?_
  rintro e w2 ⟨b, g, rfl, a2, b3, hb, hg⟩
  have f2 := f1.below b3
  have b4 := b2.trans (b3.mono b2.size)
  have hb' : w.heap.size ≤ b := Nat.le_trans b2.size hb
  have hg' : w.heap.size ≤ g := Nat.le_trans b2.size hg
  clear b2 b3 f1 hb hg
  have k0 : w2.cell? ⟨w.heap.size, 0, none⟩ = some (.int .i64 c.eden) := f2.cell 0
  have k1 : w2.cell? ⟨w.heap.size, 1, none⟩ = some (.int .i64 c.surv) := f2.cell 1
  have k2 : w2.cell? ⟨w.heap.size, 2, none⟩ = some (.int .i64 c.ten) := f2.cell 2
  go_upto_region 7 with fail
  have s3 : Szs (w2.alloc (.cells #[.int .i64 0, .int .i64 c.eden, .int .i64 c.surv, .int .i64 c.surv, .int .i64 c.ten] 3)) w2.heap.size c := ⟨heap_alloc_new w2 _⟩
  have b5 : Below w2.heap.size w2 (w2.alloc (.cells #[.int .i64 0, .int .i64 c.eden, .int .i64 c.surv, .int .i64 c.surv, .int .i64 c.ten] 3)) := Below.alloc (Below.refl _ _) (Nat.le_refl _) _
  have a3 := a2.below b5
  have b6 := b4.trans (b5.mono b4.size)
  clear k0 k1 k2 f2 a2 b4 b5
  generalize (w2.alloc (.cells #[.int .i64 0, .int .i64 c.eden, .int .i64 c.surv, .int .i64 c.surv, .int .i64 c.ten] 3)) = w3 at *
  generalize w2.heap.size = SB at *
  go_wp2
  go_loopw [12, 13] (fun v u wr => ∃ s : Int, 1 ≤ s ∧ s ≤ 5 ∧ v = .int .i64 (atS c s) ∧ u = .int .i64 s ∧ Ar wr b g c (tops0 c) false (fun _ => 0) ∧ Szs wr SB c ∧ Below w.heap.size w wr) (fun _ u _ => 5 - (intOf u).toNat)
  case atStart => exact ⟨1, by decide, by decide, rfl, rfl, a3, s3, b6⟩
  case round =>
    obtain ⟨s0, hs1, hs5, rfl, rfl, ar, sr, br⟩ := hrel
    obtain ⟨s, rfl⟩ := Int.eq_ofNat_of_zero_le (show 0 ≤ s0 by omega)
    by_cases hs4 : (s : Int) ≤ 4
    · have hs : 1 ≤ (s : Int) ∧ (s : Int) ≤ 4 := ⟨hs1, hs4⟩
      have eat : atS c s = fst c s := by unfold atS; rw [if_pos hs4]
      rw [eat]
      have hbo := bounds_any b g c (tops0 c) false (fun _ => 0) s wr ar
      have HF : Hid (spc c (fst c s) = s ∧ spc c (bhd c s - 1) = s ∧ (tops0 c).top s = fst c s ∧ atS c (s + 1) = bhd c s ∧ szS c s = bhd c s - fst c s) := ⟨spc_first c HC.out s hs, spc_last c HC.out s hs, top0 c s hs, atS_next c s hs, rfl⟩
      obtain ⟨p0, p1, p2, p3⟩ := ar.sub_in s
      have hpos : fst c s < bhd c s := by
        have := HC.out.e0; have := HC.out.s0; have := HC.out.t0
        obtain h | h | h | h : (s : Int) = 1 ∨ (s : Int) = 2 ∨ (s : Int) = 3 ∨ (s : Int) = 4 := by omega
        all_goals rw [h]; simp [fst, bhd]; omega
      have wo := ar.words
      have AR : Hid (Ar wr b g c (tops0 c) false (fun _ => 0)) := ar
      have SR : Hid (Szs wr SB c) := sr
      have e1 := HF.out.1
      have e2 := HF.out.2.1
      have e3 := HF.out.2.2.1
      have e5 := HF.out.2.2.2.2
      have Hnx : Hid (atS c (s + 1) = bhd c s) := HF.out.2.2.2.1
      clear ar sr eat HF
      go_wp2_with fail
      refine hbo.mono ?_
      rintro e w5 ⟨rfl, b7⟩
      have AR5 : Hid (Ar w5 b g c (tops0 c) false (fun _ => 0)) := AR.out.below b7
      have SR5 : Hid (Szs w5 SB c) := SR.out.below b7
      have br5 := br.trans (b7.mono br.size)
      have Hsp : Hid (∀ (p : Bel w5) (i : Int), Calls Tryd.prog 9 #[.pointer (some ⟨b, 0, none⟩), .int .i64 i] p.v fun e w' => e = .returned (.int .i64 (spc c i)) ∧ Below p.v.heap.size p.v w') := fun p i => space_any b g c (tops0 c) false (fun _ => 0) i p.v (AR5.out.below p.h)
      have Hto : Hid (∀ p : Bel w5, Calls Tryd.prog 10 #[.pointer (some ⟨b, 0, none⟩), .int .i64 s] p.v fun e w' => e = .returned (.int .i64 (fst c s)) ∧ Below p.v.heap.size p.v w') := fun p => by
        have := top_any b g c (tops0 c) false (fun _ => 0) s p.v (AR5.out.below p.h)
        rw [e3] at this
        exact this
      have Hfr : Hid (∀ p : Bel w5, Calls Tryd.prog 11 #[.pointer (some ⟨b, 0, none⟩), .int .i64 s] p.v fun e w' => e = .returned (.int .i64 (bhd c s - fst c s)) ∧ Below p.v.heap.size p.v w') := fun p => by
        have := free_any b g c (tops0 c) false (fun _ => 0) s p.v (AR5.out.below p.h)
        rw [e3] at this
        exact this
      have z1 : ∀ p : Bel w5, p.v.cell? ⟨SB, s, none⟩ = some (.int .i64 (bhd c s - fst c s)) := fun p => by
        have := (SR5.out.below p.h).cell s hs s rfl
        rw [e5] at this
        exact this
      clear hbo e3 e5 AR SR b7 br
      generalize fst c s = F, bhd c s = Bh at *
      have hse : F + (Bh - F) = Bh := by omega
      have hsi : (s : Int) < 5 := by omega
      haveI hinh : Inhabited (Bel w5) := ⟨⟨w5, Below.refl _ _⟩⟩
      go_upto_region 12 with fail
      refine region_below mixed (by kernel_rfl) ?_
      repeat (go_big_quiet_step (first | (go_at_call 9; exact calls_bel (Hsp.out _ _)) | (go_at_call 10; exact calls_bel (Hto.out _)) | (go_at_call 11; exact calls_bel (Hfr.out _))))
      refine wpQuiet_nil ?_
      rintro w6 ⟨⟨w6, b8⟩, rfl⟩
      have a6 := AR5.out.below b8
      have s6 := SR5.out.below b8
      have b9 := br5.trans (b8.mono br5.size)
      have HR : Hid (Ar w6 b g c (tops0 c) false (fun _ => 0) ∧ Szs w6 SB c ∧ Below w.heap.size w w6) := ⟨a6, s6, b9⟩
      clear z1 b8 br5 a6 s6 b9 AR5 SR5
      go_wp2
      go_roundw
      case rel => exact ⟨s + 1, by omega, by omega, by rw [Hnx.out], rfl, HR.out.1, HR.out.2.1, HR.out.2.2⟩
      case measure => simp [intOf]; omega
    · obtain rfl : s = 5 := by omega
      have eat : atS c (5 : Nat) = c.words := rfl
      rw [eat]
      have wo := ar.words
      have AR : Hid (Ar wr b g c (tops0 c) false (fun _ => 0)) := ar
      have q0 : spc c 0 = 0 := rfl
      have q1 : spc c (-1) = 0 := rfl
      have q2 : spc c c.words = 0 := by
        have := HC.out.e0; have := HC.out.s0; have := HC.out.t0
        unfold spc Cfg.words
        rw [if_neg (by omega), if_neg (by omega), if_neg (by omega), if_neg (by omega), if_neg (by omega)]
      have Hsp : Hid (∀ w5 i, Below wr.heap.size wr w5 → Calls Tryd.prog 9 #[.pointer (some ⟨b, 0, none⟩), .int .i64 i] w5 fun e w' => e = .returned (.int .i64 (spc c i)) ∧ Below w5.heap.size w5 w') := fun w5 i l => space_any b g c (tops0 c) false (fun _ => 0) i w5 (AR.out.below l)
      have Hyo : Hid (∀ w5 i, Below wr.heap.size wr w5 → spc c i = 0 → Calls Tryd.prog 12 #[.pointer (some ⟨b, 0, none⟩), .int .i64 i] w5 fun e w' => e = .returned (.bool false) ∧ Below w5.heap.size w5 w') := fun w5 i l h => by
        have := young_any b g c (tops0 c) false (fun _ => 0) i w5 (AR.out.below l)
        rw [h] at this
        exact this
      clear ar sr
      go_wp2_with fail
      refine (Hsp.out _ 0 (Below.refl _ _)).mono ?_
      rintro e w5 ⟨rfl, l5⟩
      rw [q0]
      go_wp2_with fail
      refine (Hsp.out _ c.words l5).mono ?_
      rintro e w6 ⟨rfl, l6⟩
      rw [q2]
      have l6 := l5.trans (l6.mono l5.size)
      clear l5
      go_wp2_with fail
      refine (Hsp.out _ (-1) l6).mono ?_
      rintro e w7 ⟨rfl, l7⟩
      rw [q1]
      have l7 := l6.trans (l7.mono l6.size)
      clear l6
      go_wp2_with fail
      refine (Hyo.out _ 0 l7 q0).mono ?_
      rintro e w8 ⟨rfl, l8⟩
      have l8 := l7.trans (l8.mono l7.size)
      clear l7
      go_wp2_with fail
      refine (Hyo.out _ c.words l8 q2).mono ?_
      rintro e w9 ⟨rfl, l9⟩
      have l9 := l8.trans (l9.mono l8.size)
      clear l8 q0 q1 q2 Hsp Hyo
      go_wp2_with fail
      refine (mod4_any sp hsp w9).mono ?_
      rintro e w9' ⟨m, rfl, m0, m4, rfl⟩
      have hS : 1 ≤ 1 + m ∧ 1 + m ≤ 4 := by omega
      have a9 := AR.out.below l9
      have b9 := br.trans (l9.mono br.size)
      clear AR br l9 eat hs1 hs5 hs4
      have hbo := bounds_any b g c (tops0 c) false (fun _ => 0) (1 + m) w9 a9
      obtain ⟨p0, p1, p2, p3⟩ := a9.sub_in (1 + m)
      have a9' : Ar w9 b g c ((tops0 c).put (1 + m) (fst c (1 + m))) false (fun _ => 0) := by
        rw [put_self _ _ _ (top0 c _ hS) hS]; exact a9
      obtain ⟨F, hF⟩ : ∃ F, F = fst c (1 + m) := ⟨_, rfl⟩
      obtain ⟨Bh, hB⟩ : ∃ Bh, Bh = bhd c (1 + m) := ⟨_, rfl⟩
      rw [← hF] at hbo p0 p1 a9'
      rw [← hB] at hbo p2 p3
      have AR : Hid (Ar w9 b g c ((tops0 c).put (1 + m) F) false (fun _ => 0)) := a9'
      have HFB : Hid (fst c (1 + m) = F ∧ bhd c (1 + m) = Bh) := ⟨hF.symm, hB.symm⟩
      clear hF hB a9 a9' m0 m4
      have hFB : F ≤ Bh := by omega
      have hF1 : 1 ≤ F := by
        rw [← HFB.out.1]
        have := HC.out.e0; have := HC.out.s0; have := HC.out.t0
        obtain h | h | h | h : 1 + m = 1 ∨ 1 + m = 2 ∨ 1 + m = 3 ∨ 1 + m = 4 := by omega
        all_goals rw [h]; simp [fst]; try omega
      go_wp2_with fail
      refine hbo.mono ?_
      rintro e w10 ⟨rfl, l10⟩
      have ar0 := AR.out.below l10
      have br0 := b9.trans (l10.mono b9.size)
      clear AR b9 l10 hbo p1 p2
      have Hto : Hid (∀ t ws wq, Ar wq b g c ((tops0 c).put (1 + m) t) false ws → Calls Tryd.prog 10 #[.pointer (some ⟨b, 0, none⟩), .int .i64 (1 + m)] wq fun e w' => e = .returned (.int .i64 t) ∧ Below wq.heap.size wq w') := fun t ws wq h => by
        have := top_any b g c _ false ws (1 + m) wq h
        rw [Tps.top_put _ _ _ hS] at this
        exact this
      have Hfr : Hid (∀ t ws wq, Ar wq b g c ((tops0 c).put (1 + m) t) false ws → Calls Tryd.prog 11 #[.pointer (some ⟨b, 0, none⟩), .int .i64 (1 + m)] wq fun e w' => e = .returned (.int .i64 (Bh - t)) ∧ Below wq.heap.size wq w') := fun t ws wq h => by
        have := free_any b g c _ false ws (1 + m) wq h
        rw [Tps.top_put _ _ _ hS, HFB.out.2] at this
        exact this
      go_wp2
      go_loopw [19, 20] (fun v u wr => ∃ (i : Nat) (t : Int) (ws : Nat → Int), i ≤ xs.length ∧ F ≤ t ∧ t ≤ Bh ∧ v = .int .i64 t ∧ u = .int .i64 i ∧ Ar wr b g c ((tops0 c).put (1 + m) t) false ws ∧ Below w.heap.size w wr) (fun _ u _ => xs.length - (intOf u).toNat)
      case atStart => exact ⟨0, F, _, Nat.zero_le _, Int.le_refl _, hFB, rfl, rfl, ar0, br0⟩
      case round =>
        obtain ⟨i, tp, ws, hi, ht0, ht1, rfl, rfl, ar, br⟩ := hrel
        have wo := ar.words
        by_cases hlt : i < xs.length
        · obtain ⟨u, hu⟩ : ∃ u, xs[i]? = some u := ⟨_, List.getElem?_eq_getElem hlt⟩
          obtain ⟨bb, off, hae, hbb, hcell⟩ := HX.out i u hu
          have hc' : wr.cell? ⟨bb, off + i, none⟩ = some (.int .i64 u) := (br.cell (p := ⟨bb, off + i, none⟩) hbb).trans hcell
          have hli : (i : Int) < (xs.length : Int) := by omega
          rw [hae]
          clear hcell hu
          by_cases hfit : 1 ≤ u ∧ u ≤ Bh - tp
          · obtain ⟨p, rfl⟩ := Int.eq_ofNat_of_zero_le (show 0 ≤ tp by omega)
            obtain ⟨n, rfl⟩ := Int.eq_ofNat_of_zero_le (show 0 ≤ u by omega)
            obtain ⟨hn1, hn2⟩ := hfit
            have hta := take_yes b g c _ false ws (1 + m) p n (Tps.top_put _ _ _ hS) (by omega) (by rw [HFB.out.2]; omega) wr ar
            rw [put_put] at hta
            clear ar
            go_wp2_with fail
            refine hta.mono ?_
            rintro e w11 ⟨rfl, ar, t11⟩
            have br11 : Below w.heap.size w w11 := br.trans (t11.below br.size (fun q hq => by simp at hq; omega))
            have AR : Hid (Ar w11 b g c ((tops0 c).put (1 + m) (p + n)) false (zer ws p n)) := ar
            clear hta t11 br ar hc'
            go_wp2
            go_loopw [25] (fun v wq => ∃ (k : Nat) (ws' : Nat → Int), k ≤ n ∧ v = .int .i64 k ∧ Ar wq b g c ((tops0 c).put (1 + m) (p + n)) false ws' ∧ (∀ j : Int, p + k ≤ j → j < p + n → wat c ws' j = 0) ∧ Below w.heap.size w wq) (fun v _ => n - (intOf v).toNat)
            case atStart => exact ⟨0, zer ws p n, Nat.zero_le _, rfl, AR.out, fun j h1 h2 => by rw [wat_zer, if_pos (by omega)], br11⟩
            case round =>
              obtain ⟨k, ws', hk, rfl, ar, hz, br⟩ := hrel
              by_cases hkn : (k : Int) < n ∧ (k : Int) < 50
              · obtain ⟨hk1, hk2⟩ := hkn
                have hwd := word_any3 b g c _ false ws' ((p : Int) + k) _ ar
                rw [hz _ (Int.le_refl _) (by omega)] at hwd
                have hsw := setWord_yes b g c _ false ws' (p + k) 77 ⟨by decide, by decide⟩ (by omega) (by omega) _ ar
                rw [Int.natCast_add] at hsw
                have HZ : Hid (∀ j : Int, p + k ≤ j → j < p + n → wat c ws' j = 0) := hz
                clear ar hz
                go_wp2_with fail
                refine hwd.mono ?_
                rintro e w' ⟨rfl, rfl⟩
                go_wp2_with fail
                refine hsw.mono ?_
                rintro e w12 ⟨rfl, ar12, t12, -⟩
                have br12 : Below w.heap.size w w12 := br.trans (t12.below br.size (fun q hq => by simp at hq; omega))
                have A12 : Hid (Ar w12 b g c ((tops0 c).put (1 + m) (p + n)) false (upd ws' (p + k) 77)) := ar12
                clear hwd hsw t12 ar12 br
                go_wp2
                go_roundw
                case rel => exact ⟨k + 1, upd ws' (p + k) 77, by omega, by go_num, A12.out, fun j h1 h2 => by rw [wat_upd _ _ _ _ _ (by omega), if_neg (by omega)]; exact HZ.out j (by omega) h2, br12⟩
                case measure => simp [intOf]; omega
              · have hto := Hto.out (p + n) ws' _ ar
                have AR2 : Hid (Ar _ b g c ((tops0 c).put (1 + m) (p + n)) false ws') := ar
                clear ar hz
                have hex : ¬ ((k : Int) < n) ∨ ((k : Int) < n ∧ ¬ ((k : Int) < 50)) := by omega
                rcases hex with hk1 | ⟨hk1, hk2⟩
                · clear hkn
                  go_wp2_with fail
                  refine hto.mono ?_
                  rintro e w12 ⟨rfl, l12⟩
                  go_wp2_with fail
                  refine (Hfr.out (p + n) ws' w12 (AR2.out.below l12)).mono ?_
                  rintro e w13 ⟨rfl, l13⟩
                  have l14 := l12.trans (l13.mono l12.size)
                  have ar14 := AR2.out.below l14
                  have br14 := br.trans (l14.mono br.size)
                  clear hto l12 l13 l14
                  go_wp2
                  go_roundw
                  case rel => exact ⟨i + 1, p + n, ws', hlt, by omega, by omega, rfl, by go_num, ar14, br14⟩
                  case measure => simp [intOf]; omega
                · clear hkn
                  go_wp2_with fail
                  refine hto.mono ?_
                  rintro e w12 ⟨rfl, l12⟩
                  go_wp2_with fail
                  refine (Hfr.out (p + n) ws' w12 (AR2.out.below l12)).mono ?_
                  rintro e w13 ⟨rfl, l13⟩
                  have l14 := l12.trans (l13.mono l12.size)
                  have ar14 := AR2.out.below l14
                  have br14 := br.trans (l14.mono br.size)
                  clear hto l12 l13 l14
                  go_wp2
                  go_roundw
                  case rel => exact ⟨i + 1, p + n, ws', hlt, by omega, by omega, rfl, by go_num, ar14, br14⟩
                  case measure => simp [intOf]; omega
          · have hta := take_no b g c _ false ws (1 + m) u (by rw [Tps.top_put _ _ _ hS, HFB.out.2]; exact hfit) wr ar
            go_wp2_with fail
            refine hta.mono ?_
            rintro e w11 ⟨rfl, l11⟩
            have ar11 := ar.below l11
            have br11 := br.trans (l11.mono br.size)
            have hto := Hto.out tp ws w11 ar11
            have AR : Hid (Ar w11 b g c ((tops0 c).put (1 + m) tp) false ws) := ar11
            clear hta l11 br ar ar11 hc'
            have hup : u < 1 ∨ (1 ≤ u ∧ Bh - tp < u) := by omega
            rcases hup with hu1 | ⟨hu1, hu2⟩
            · clear hfit
              go_wp2_with fail
              refine hto.mono ?_
              rintro e w12 ⟨rfl, l12⟩
              go_wp2_with fail
              refine (Hfr.out tp ws w12 (AR.out.below l12)).mono ?_
              rintro e w13 ⟨rfl, l13⟩
              have l14 := l12.trans (l13.mono l12.size)
              have ar14 := AR.out.below l14
              have br14 := br11.trans (l14.mono br11.size)
              clear hto l12 l13 l14
              go_wp2
              go_roundw
              case rel => exact ⟨i + 1, tp, ws, hlt, ht0, ht1, rfl, by go_num, ar14, br14⟩
              case measure => simp [intOf]; omega
            · clear hfit
              go_wp2_with fail
              refine hto.mono ?_
              rintro e w12 ⟨rfl, l12⟩
              go_wp2_with fail
              refine (Hfr.out tp ws w12 (AR.out.below l12)).mono ?_
              rintro e w13 ⟨rfl, l13⟩
              have l14 := l12.trans (l13.mono l12.size)
              have ar14 := AR.out.below l14
              have br14 := br11.trans (l14.mono br11.size)
              clear hto l12 l13 l14
              go_wp2
              go_roundw
              case rel => exact ⟨i + 1, tp, ws, hlt, ht0, ht1, rfl, by go_num, ar14, br14⟩
              case measure => simp [intOf]; omega
        · obtain rfl : i = xs.length := by omega
          by_cases hcut : F ≤ cut ∧ cut ≤ tp
          · obtain ⟨hc0, hc1⟩ := hcut
            have hcu := cut_yes b g c _ false ws (1 + m) cut hS (by rw [HFB.out.1]; exact hc0) (by rw [Tps.top_put _ _ _ hS]; exact hc1) _ ar
            rw [put_put] at hcu
            clear ar
            go_wp2_with fail
            refine hcu.mono ?_
            rintro e w11 ⟨rfl, ar11, t11⟩
            have br11 : Below w.heap.size w w11 := br.trans (t11.below br.size (fun q hq => by simp at hq; omega))
            have AR : Hid (Ar w11 b g c ((tops0 c).put (1 + m) cut) false ws) := ar11
            clear hcu t11 br ar11
            have hto := Hto.out cut ws w11 AR.out
            go_wp2_with fail
            refine hto.mono ?_
            rintro e w12 ⟨rfl, l12⟩
            go_wp2_with fail
            refine (Hfr.out cut ws w12 (AR.out.below l12)).mono ?_
            rintro e w13 ⟨rfl, l13⟩
            have l14 := l12.trans (l13.mono l12.size)
            have ar13 := AR.out.below l14
            have br13 := br11.trans (l14.mono br11.size)
            clear hto l12 l13 l14 AR br11
            by_cases hq : cut < Bh
            · obtain ⟨p, hp⟩ : ∃ p : Nat, cut = p := Int.eq_ofNat_of_zero_le (by omega)
              obtain ⟨n, hn⟩ : ∃ n : Nat, Bh - cut = n := Int.eq_ofNat_of_zero_le (by omega)
              have hta : Calls Tryd.prog 14 #[.pointer (some ⟨b, 0, none⟩), .int .i64 (1 + m), .int .i64 (Bh - cut)] w13 fun e w' => e = .returned (.tuple #[.int .i64 cut, .bool true]) ∧ Ar w' b g c ((tops0 c).put (1 + m) Bh) false (zer ws p n) ∧ Touch [b, g] w13 w' := by
                rw [hn]
                have h := take_yes b g c _ false ws (1 + m) p n ((Tps.top_put _ _ _ hS).trans hp) (by omega) (by rw [HFB.out.2]; omega) w13 ar13
                rw [put_put, show (p : Int) + n = Bh by omega, ← hp] at h
                exact h
              have HP : Hid (cut = p ∧ Bh - cut = n) := ⟨hp, hn⟩
              clear hp hn ar13
              go_wp2_with fail
              refine hta.mono ?_
              rintro e w14 ⟨rfl, ar14, t14⟩
              have br14 : Below w.heap.size w w14 := br13.trans (t14.below br13.size (fun q hq => by simp at hq; omega))
              have hf14 := Hfr.out Bh _ w14 ar14
              rw [show Bh - Bh = 0 by omega] at hf14
              have A14 : Hid (Ar w14 b g c ((tops0 c).put (1 + m) Bh) false (zer ws p n)) := ar14
              clear hta t14 br13 ar14
              go_wp2_with fail
              refine hf14.mono ?_
              rintro e w15 ⟨rfl, l15⟩
              have hw15 := word_any3 b g c _ false _ (cut) w15 (A14.out.below l15)
              rw [wat_zer, if_pos (by have := HP.out.1; have := HP.out.2; omega)] at hw15
              have br15 := br14.trans (l15.mono br14.size)
              clear hf14 l15 br14
              go_wp2_with fail
              refine hw15.mono ?_
              rintro e w16 ⟨rfl, rfl⟩
              clear hw15
              go_wp2
              go_ret
              refine ⟨?_, br15⟩
              simp
            · have hta := take_no b g c _ false ws (1 + m) (Bh - cut) (by omega) w13 ar13
              clear ar13
              go_wp2_with fail
              refine hta.mono ?_
              rintro e w14 ⟨rfl, l14⟩
              have br14 := br13.trans (l14.mono br13.size)
              clear hta l14 br13
              go_wp2
              go_ret
              refine ⟨?_, br14⟩
              simp [hq]
          · have hcu := cut_no b g c _ false ws (1 + m) cut (by rw [HFB.out.1, Tps.top_put _ _ _ hS]; exact fun h => hcut h.2) _ ar
            have ARr : Hid (Ar _ b g c ((tops0 c).put (1 + m) tp) false ws) := ar
            clear ar
            have hcc : cut < F ∨ (F ≤ cut ∧ tp < cut) := by omega
            rcases hcc with hc0 | ⟨hc0, hc1⟩
            · clear hcut
              go_wp2_with fail
              refine hcu.mono ?_
              rintro e w11 ⟨rfl, l11⟩
              have br11 := br.trans (l11.mono br.size)
              have AR : Hid (Ar w11 b g c ((tops0 c).put (1 + m) tp) false ws) := ARr.out.below l11
              clear hcu l11 br
              have hto := Hto.out tp ws w11 AR.out
              go_wp2_with fail
              refine hto.mono ?_
              rintro e w12 ⟨rfl, l12⟩
              go_wp2_with fail
              refine (Hfr.out tp ws w12 (AR.out.below l12)).mono ?_
              rintro e w13 ⟨rfl, l13⟩
              have l14 := l12.trans (l13.mono l12.size)
              have ar13 := AR.out.below l14
              have br13 := br11.trans (l14.mono br11.size)
              clear hto l12 l13 l14 AR br11
              by_cases hq : tp < Bh
              · obtain ⟨p, hp⟩ : ∃ p : Nat, tp = p := Int.eq_ofNat_of_zero_le (by omega)
                obtain ⟨n, hn⟩ : ∃ n : Nat, Bh - tp = n := Int.eq_ofNat_of_zero_le (by omega)
                have hta : Calls Tryd.prog 14 #[.pointer (some ⟨b, 0, none⟩), .int .i64 (1 + m), .int .i64 (Bh - tp)] w13 fun e w' => e = .returned (.tuple #[.int .i64 tp, .bool true]) ∧ Ar w' b g c ((tops0 c).put (1 + m) Bh) false (zer ws p n) ∧ Touch [b, g] w13 w' := by
                  rw [hn]
                  have h := take_yes b g c _ false ws (1 + m) p n ((Tps.top_put _ _ _ hS).trans hp) (by omega) (by rw [HFB.out.2]; omega) w13 ar13
                  rw [put_put, show (p : Int) + n = Bh by omega, ← hp] at h
                  exact h
                have HP : Hid (tp = p ∧ Bh - tp = n) := ⟨hp, hn⟩
                clear hp hn ar13
                go_wp2_with fail
                refine hta.mono ?_
                rintro e w14 ⟨rfl, ar14, t14⟩
                have br14 : Below w.heap.size w w14 := br13.trans (t14.below br13.size (fun q hq => by simp at hq; omega))
                have hf14 := Hfr.out Bh _ w14 ar14
                rw [show Bh - Bh = 0 by omega] at hf14
                have A14 : Hid (Ar w14 b g c ((tops0 c).put (1 + m) Bh) false (zer ws p n)) := ar14
                clear hta t14 br13 ar14
                go_wp2_with fail
                refine hf14.mono ?_
                rintro e w15 ⟨rfl, l15⟩
                have hw15 := word_any3 b g c _ false _ (tp) w15 (A14.out.below l15)
                rw [wat_zer, if_pos (by have := HP.out.1; have := HP.out.2; omega)] at hw15
                have br15 := br14.trans (l15.mono br14.size)
                clear hf14 l15 br14
                go_wp2_with fail
                refine hw15.mono ?_
                rintro e w16 ⟨rfl, rfl⟩
                clear hw15
                go_wp2
                go_ret
                refine ⟨?_, br15⟩
                simp
              · have hta := take_no b g c _ false ws (1 + m) (Bh - tp) (by omega) w13 ar13
                clear ar13
                go_wp2_with fail
                refine hta.mono ?_
                rintro e w14 ⟨rfl, l14⟩
                have br14 := br13.trans (l14.mono br13.size)
                clear hta l14 br13
                go_wp2
                go_ret
                refine ⟨?_, br14⟩
                simp [hq]
            · clear hcut
              go_wp2_with fail
              refine hcu.mono ?_
              rintro e w11 ⟨rfl, l11⟩
              have br11 := br.trans (l11.mono br.size)
              have AR : Hid (Ar w11 b g c ((tops0 c).put (1 + m) tp) false ws) := ARr.out.below l11
              clear hcu l11 br
              have hto := Hto.out tp ws w11 AR.out
              go_wp2_with fail
              refine hto.mono ?_
              rintro e w12 ⟨rfl, l12⟩
              go_wp2_with fail
              refine (Hfr.out tp ws w12 (AR.out.below l12)).mono ?_
              rintro e w13 ⟨rfl, l13⟩
              have l14 := l12.trans (l13.mono l12.size)
              have ar13 := AR.out.below l14
              have br13 := br11.trans (l14.mono br11.size)
              clear hto l12 l13 l14 AR br11
              by_cases hq : tp < Bh
              · obtain ⟨p, hp⟩ : ∃ p : Nat, tp = p := Int.eq_ofNat_of_zero_le (by omega)
                obtain ⟨n, hn⟩ : ∃ n : Nat, Bh - tp = n := Int.eq_ofNat_of_zero_le (by omega)
                have hta : Calls Tryd.prog 14 #[.pointer (some ⟨b, 0, none⟩), .int .i64 (1 + m), .int .i64 (Bh - tp)] w13 fun e w' => e = .returned (.tuple #[.int .i64 tp, .bool true]) ∧ Ar w' b g c ((tops0 c).put (1 + m) Bh) false (zer ws p n) ∧ Touch [b, g] w13 w' := by
                  rw [hn]
                  have h := take_yes b g c _ false ws (1 + m) p n ((Tps.top_put _ _ _ hS).trans hp) (by omega) (by rw [HFB.out.2]; omega) w13 ar13
                  rw [put_put, show (p : Int) + n = Bh by omega, ← hp] at h
                  exact h
                have HP : Hid (tp = p ∧ Bh - tp = n) := ⟨hp, hn⟩
                clear hp hn ar13
                go_wp2_with fail
                refine hta.mono ?_
                rintro e w14 ⟨rfl, ar14, t14⟩
                have br14 : Below w.heap.size w w14 := br13.trans (t14.below br13.size (fun q hq => by simp at hq; omega))
                have hf14 := Hfr.out Bh _ w14 ar14
                rw [show Bh - Bh = 0 by omega] at hf14
                have A14 : Hid (Ar w14 b g c ((tops0 c).put (1 + m) Bh) false (zer ws p n)) := ar14
                clear hta t14 br13 ar14
                go_wp2_with fail
                refine hf14.mono ?_
                rintro e w15 ⟨rfl, l15⟩
                have hw15 := word_any3 b g c _ false _ (tp) w15 (A14.out.below l15)
                rw [wat_zer, if_pos (by have := HP.out.1; have := HP.out.2; omega)] at hw15
                have br15 := br14.trans (l15.mono br14.size)
                clear hf14 l15 br14
                go_wp2_with fail
                refine hw15.mono ?_
                rintro e w16 ⟨rfl, rfl⟩
                clear hw15
                go_wp2
                go_ret
                refine ⟨?_, br15⟩
                simp
              · have hta := take_no b g c _ false ws (1 + m) (Bh - tp) (by omega) w13 ar13
                clear ar13
                go_wp2_with fail
                refine hta.mono ?_
                rintro e w14 ⟨rfl, l14⟩
                have br14 := br13.trans (l14.mono br13.size)
                clear hta l14 br13
                go_wp2
                go_ret
                refine ⟨?_, br14⟩
                simp [hq]

end Go.Proofs.YtbdkcelggffneaaDoor
