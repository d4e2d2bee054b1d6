/-
  right: the list, Held, the fields.
-/
import Derived.Test.YtfihjmoaibmllaaDoorY26
import Derived.Test.YtfihjmoaibmllaaDoorY20
import Derived.Deep.CutRange
set_option linter.unusedVariables false
set_option maxRecDepth 20000
namespace Go.Proofs.YtfihjmoaibmllaaDoor
open Go.RowKit Go.Shelf

abbrev z7 : Array Value := #[.int .u64 0, .int .i64 0, .int .i64 0, .int .i64 0, .int .i64 0, .int .i64 0, .bool false]

theorem set7_at {w : World} {X : Nat} {cs : Array Value} {t : TypeId} (h : w.heap[X]? = some (.cells cs t)) (j : Nat) (u : Value) : (w.setCell ⟨X, j, none⟩ u).heap[X]? = some (.cells (cs.setIfInBounds j u) t) := by
  rw [setCell_eq_setRow _ _ _ _ _ _ _ h]
  exact setRow_heap _ _ _ _ _ _ h

/-- A head's box is there: its cells may be written. -/
theorem box_facts {w : World} {X : Nat} (h : w.heap[X]? = some (.cells z7 48)) : (w.cell? ⟨X, 0, none⟩ = some (.int .u64 0) ∧ w.cell? ⟨X, 1, none⟩ = some (.int .i64 0) ∧ w.cell? ⟨X, 2, none⟩ = some (.int .i64 0) ∧ w.cell? ⟨X, 3, none⟩ = some (.int .i64 0) ∧ w.cell? ⟨X, 4, none⟩ = some (.int .i64 0) ∧ w.cell? ⟨X, 5, none⟩ = some (.int .i64 0) ∧ w.cell? ⟨X, 6, none⟩ = some (.bool false)) ∧ (w.frozen? ⟨X, 0, none⟩ = false ∧ w.frozen? ⟨X, 1, none⟩ = false ∧ w.frozen? ⟨X, 2, none⟩ = false ∧ w.frozen? ⟨X, 3, none⟩ = false ∧ w.frozen? ⟨X, 4, none⟩ = false ∧ w.frozen? ⟨X, 5, none⟩ = false ∧ w.frozen? ⟨X, 6, none⟩ = false) := by
  have hc := fun j => cell_of_row _ _ j _ _ _ h
  have hf : ∀ j, w.frozen? ⟨X, j, none⟩ = false := fun j => by unfold World.frozen?; simp only [h]; simp
  exact ⟨⟨hc 0, hc 1, hc 2, hc 3, hc 4, hc 5, hc 6⟩, hf 0, hf 1, hf 2, hf 3, hf 4, hf 5, hf 6⟩

/-- The box, written. -/
theorem box_set {w : World} {X : Nat} (h : w.heap[X]? = some (.cells z7 48)) (s k p r a t : Int) (hd : Bool) : (((((((w.setCell ⟨X, 0, none⟩ (.int .u64 s)).setCell ⟨X, 1, none⟩ (.int .i64 k)).setCell ⟨X, 2, none⟩ (.int .i64 p)).setCell ⟨X, 3, none⟩ (.int .i64 r)).setCell ⟨X, 4, none⟩ (.int .i64 a)).setCell ⟨X, 5, none⟩ (.int .i64 t)).setCell ⟨X, 6, none⟩ (.bool hd)).heap[X]? = some (.cells (hcells s k p r a t hd) 48 (0, 0)) := by
  have h7 := set7_at (set7_at (set7_at (set7_at (set7_at (set7_at (set7_at h 0 (.int .u64 s)) 1 (.int .i64 k)) 2 (.int .i64 p)) 3 (.int .i64 r)) 4 (.int .i64 a)) 5 (.int .i64 t)) 6 (.bool hd)
  exact h7.trans (by rfl)

theorem box_below {B : Nat} {v w : World} {X : Nat} (c0 c1 c2 c3 c4 c5 c6 : Value) (l : Below B v w) (hX : B ≤ X) : Below B v (((((((w.setCell ⟨X, 0, none⟩ c0).setCell ⟨X, 1, none⟩ c1).setCell ⟨X, 2, none⟩ c2).setCell ⟨X, 3, none⟩ c3).setCell ⟨X, 4, none⟩ c4).setCell ⟨X, 5, none⟩ c5).setCell ⟨X, 6, none⟩ c6) := by
  have st : ∀ {w : World} (j : Nat) (u : Value), Below B v w → Below B v (w.setCell ⟨X, j, none⟩ u) := fun j u l => Below.setCell (p := ⟨X, j, none⟩) l hX u
  exact st 6 c6 (st 5 c5 (st 4 c4 (st 3 c3 (st 2 c2 (st 1 c1 (st 0 c0 l))))))

/-- The fields by numbers are those of the things. -/
structure Ag (L : List LT) (th : List Tng) (Fs : List (List Int)) : Prop where
  len : Fs.length = L.length
  ps : ∀ T, T ∈ th → ∀ fs, Fs[T.no - 1]? = some fs → T.ps = fs.map (plc L)
  ini : ∀ fs, fs ∈ Fs → ∀ z, z ∈ fs → InI z
  few : ∀ fs, fs ∈ Fs → fs.length ≤ 60

theorem Lrd.own {base n : Nat} {w : World} {v : Value} {xs : List Int} (h : w.ownsRow base 3 1 v n (ints xs)) (hn : n = xs.length) : Lrd w.heap.size w v .i64 xs := Lrd.of_row (e := 3) (by
  subst hn
  exact ⟨h.1, by
    rcases h.2 with hh | ⟨g, cap, cur, e1, -, e2⟩
    · exact .inl hh
    · exact .inr ⟨g, cap, cur, e1, Nat.zero_le _, e2⟩⟩)

theorem Lrd.up {w w' : World} {v : Value} {k : IntKind} {xs : List Int} (h : Lrd w.heap.size w v k xs) (l : Below w.heap.size w w') : Lrd w'.heap.size w' v k xs := (h.below l).mono l.size

section
variable {w1 w : World} {n1 sb b g mb n n2 mm lb : Nat} {lv lv2 fv : Value} {c : Cfg} {x : Tps} {sw : Bool} {ws : Nat → Int} {th : List Tng} {l want : List Int} {S : Int → Bool} {L : List LT} {Fr : List (Nat × List Int)}

set_option maxHeartbeats 8000000 in
theorem right_yes (hM : Mm w mm lb b sb) (hl : Ly n1 w lb c L) (ok : LOk c L) (hR : Rm w1 n1 w sb b g mb lv c x sw ws th l n S) (sk : Sk L th) (hw : Lrd w.heap.size w lv2 .i64 want) (hwi : ∀ z, z ∈ want → InI z) (hwl : want.length ≤ 400) (hF : Fd w n2 fv Fr) (ag : Ag L th (Fr.map (·.2))) (hlist : l = want.map (plc L)) (hh : ∀ T, T ∈ th → T.h = decide ((T.no : Int) ∈ want)) :
    Calls Tryd.prog 17 #[.pointer (some ⟨mm, 0, none⟩), lv2, fv] w fun e w' => e = .returned (.bool true) ∧ Below w.heap.size w w' := by
  have hn1 : n1 ≤ w.heap.size := Nat.le_trans hR.hn hR.bq.be.size
  have hll : l.length ≤ 400 := by rw [hlist, List.length_map]; exact hwl
  have HL : Hid (∀ W, Below w.heap.size w W → Calls Tryd.prog 26 #[.pointer (some ⟨sb, 0, none⟩)] W fun e w' => ∃ v', e = .returned v' ∧ Lrd w'.heap.size w' v' .i64 l ∧ Below W.heap.size W w') := fun W hb => (sList_any (hR.rs.below hb) (by omega)).mono (fun e w' ⟨v', h1, h2, h3⟩ => ⟨v', h1, Lrd.own h2 rfl, h3⟩)
  have HP : Hid (∀ W, Below w.heap.size w W → Calls Tryd.prog 44 #[.pointer (some ⟨lb, 0, none⟩), lv2] W fun e w' => ∃ v', e = .returned v' ∧ Lrd w'.heap.size w' v' .i64 l ∧ Below W.heap.size W w') := fun W hb => (places_any (hl.mono hn1 hb) (Nat.le_trans hn1 hb.size) ok.len lv2 want (hw.up hb) hwi (by omega)).mono (fun e w' ⟨v', h1, h2, h3⟩ => ⟨v', h1, by rw [hlist]; exact Lrd.own h2 rfl, h3⟩)
  have HS : Hid (∀ W u v, Lrd W.heap.size W u .i64 l → Lrd W.heap.size W v .i64 l → Calls Tryd.prog 43 #[u, v] W fun e w' => e = .returned (.bool true) ∧ Below W.heap.size W w') := fun W u v h1 h2 => sameInts6_yes u v l _ W h1 h2 (Nat.le_refl _) (by omega)
  have HM : Hid (∀ W, Below w.heap.size w W → Mm W mm lb b sb) := fun W hb => hM.below hb
  obtain ⟨wa, wcap, hwe, hw2, hw3⟩ := hw
  subst hwe
  have HW : Hid (∀ W, Below w.heap.size w W → Lrd W.heap.size W (.slice wa want.length wcap) .i64 want) := fun W hb => Lrd.up ⟨wa, wcap, rfl, hw2, hw3⟩ hb
  clear hw2 hw3
  obtain ⟨fa, fcap, hfv⟩ := own_sl hF.row
  subst hfv
  have m0 : w.cell? ⟨mm, 0, none⟩ = some (.pointer (some ⟨lb, 0, none⟩)) := hM.cell 0
  have m2 : w.cell? ⟨mm, 2, none⟩ = some (.pointer (some ⟨sb, 0, none⟩)) := hM.cell 2
  have hmm : mm < w.heap.size := hM.lt
  have HR : Hid (Rm w1 n1 w sb b g mb lv c x sw ws th l n S) := hR
  have HLy : Hid (Ly n1 w lb c L ∧ LOk c L ∧ n1 ≤ w.heap.size) := ⟨hl, ok, hn1⟩
  have HF : Hid (Fd w n2 (.slice fa Fr.length fcap) Fr ∧ Ag L th (Fr.map (·.2)) ∧ ∀ T, T ∈ th → T.h = decide ((T.no : Int) ∈ want)) := ⟨hF, ag, hh⟩
  clear hM hl hR hwi hn1 ok hlist hF ag hh
  go_enter Tryd.func17, Tryd.ntmps17
  go_upto_region 1 with fail
  go_cut [25] from 13 to 24 (fun v25 wc => v25 = .bool false ∧ Below w.heap.size w wc)
  case first =>
    have bd : Below w.heap.size w w.drew := below_drewN (Below.refl _ _) 1
    go_region_with (first | (go_at_call 26; refine (HL.out _ (by first | exact bd | assumption)).mono ?_; rintro e wl ⟨vl, rfl, hrl, ll⟩; (first | (have bl : Below w.heap.size w wl := bd.trans ll) | (have bl : Below w.heap.size w wl := bp.trans (ll.mono bp.size); have hrp2 := hrp.up ll)); have ml0 := (HM.out wl bl).cell 0; have ml2 := (HM.out wl bl).cell 2) | (go_at_call 44; refine (HP.out _ (by first | exact bd | assumption)).mono ?_; rintro e wp ⟨vp, rfl, hrp, lp⟩; (first | (have bp : Below w.heap.size w wp := bd.trans lp) | (have bp : Below w.heap.size w wp := bl.trans (lp.mono bl.size); have hrl2 := hrl.up lp)); have mp0 := (HM.out wp bp).cell 0; have mp2 := (HM.out wp bp).cell 2) | (go_at_call 43; refine (HS.out _ _ _ (by first | exact hrl2 | exact hrl) (by first | exact hrp2 | exact hrp)).mono ?_; rintro e wz ⟨rfl, lz⟩; (first | (have bz : Below w.heap.size w wz := bl.trans (lz.mono bl.size)) | (have bz : Below w.heap.size w wz := bp.trans (lz.mono bp.size)))))
    all_goals
      go_wp2_with fail
      go_meet
      exact ⟨rfl, bz⟩
  case rest =>
  obtain ⟨rfl, b1⟩ := hcut
  clear m0 m2
  apply_assumption
  have HB1 : Hid (Below w.heap.size w wc) := b1
  have hNL : L.length ≤ 400 := HLy.out.2.1.len
  obtain ⟨N, hN⟩ : ∃ n, n = L.length := ⟨_, rfl⟩
  have HN : Hid (N = L.length) := hN
  rw [← hN] at hNL
  clear hN b1 HL HP HS
  go_wp2_with fail
  go_loopw [7] (fun v7 wr => ∃ k : Nat, 1 ≤ k ∧ k ≤ N + 1 ∧ v7 = .int .i64 k ∧ Hid (Below w.heap.size w wr)) (fun v7 _ => N + 1 - (intOf v7).toNat)
  case atStart => exact ⟨1, by omega, by omega, rfl, HB1⟩
  case round =>
    obtain ⟨k, hk1, hk, rfl, HBr⟩ := hrel
    clear HB1
    have m0 : wr.cell? ⟨mm, 0, none⟩ = some (.pointer (some ⟨lb, 0, none⟩)) := (HM.out wr HBr.out).cell 0
    have hly := HLy.out.1.below (HBr.out.mono HLy.out.2.2)
    obtain ⟨ta, tcap, ta', tcap', x14, -⟩ := hly.lens
    rw [← HN.out] at x14
    by_cases hkl : k ≤ N
    · have hkI : (k : Int) ≤ (N : Int) := by omega
      have hth := there_any hly (by have := HN.out; omega) (k : Int) (by unfold InI; omega)
      clear hly
      cases hthr : thr L (k : Int)
      · rw [hthr] at hth
        clear hthr
        go_wp2_with fail
        refine hth.mono ?_
        rintro e w5 ⟨rfl, l5⟩
        have HB5 : Hid (Below w.heap.size w w5) := HBr.out.trans (l5.mono HBr.out.size)
        clear hth l5 HBr m0 x14
        go_wp2_with fail
        go_roundw
        case rel => exact ⟨k + 1, by omega, by omega, by go_num, HB5⟩
        case measure => simp [intOf]; omega
      · rw [hthr] at hth
        obtain ⟨o, ho⟩ := thr_iff.1 hthr
        obtain ⟨ti, T, hTi, hTn, hMt⟩ := sk.find ho
        have HT : Hid (th[ti]? = some T ∧ (T.no : Int) = k ∧ Mt T o ∧ plc L (k : Int) = T.at_) := ⟨hTi, hTn, hMt, by rw [plc_some ho, hMt.at_]⟩
        clear hthr ho hTi hTn hMt
        go_wp2_with fail
        refine hth.mono ?_
        rintro e w5 ⟨rfl, l5⟩
        have HB5 : Hid (Below w.heap.size w w5) := HBr.out.trans (l5.mono HBr.out.size)
        clear hth l5 HBr m0 x14
        go_upto_region 7 with fail
        have hTm : T ∈ th := List.mem_of_getElem? HT.out.1
        have HTm : Hid (T ∈ th) := hTm
        have HPl : Hid (∀ W, Below w.heap.size w W → Calls Tryd.prog 13 #[.pointer (some ⟨lb, 0, none⟩), .int .i64 (k : Int)] W fun e w' => e = .returned (.int .i64 T.at_) ∧ Below W.heap.size W w') := fun W hb => by
          have h := place_any (HLy.out.1.below (hb.mono HLy.out.2.2)) (Nat.le_trans HLy.out.2.2 hb.size) HLy.out.2.1.len (k : Int) (by unfold InI; omega)
          rw [HT.out.2.2.2] at h
          exact h
        have HHd : Hid (∀ W, Below w.heap.size w W → Calls Tryd.prog 27 #[.pointer (some ⟨b, 0, none⟩), .int .i64 T.at_] W fun e w' => e = .returned (.tuple #[hv T.s T.k T.p T.r T.a T.t T.h, .bool true]) ∧ Below W.heap.size W w') := fun W hb => (HR.out.below hb).bq.ax.head HTm.out
        have m0 : w5.cell? ⟨mm, 0, none⟩ = some (.pointer (some ⟨lb, 0, none⟩)) := (HM.out w5 HB5.out).cell 0
        have m1 : w5.cell? ⟨mm, 1, none⟩ = some (.pointer (some ⟨b, 0, none⟩)) := (HM.out w5 HB5.out).cell 1
        have hm5 : mm < w5.heap.size := (HM.out w5 HB5.out).lt
        clear hTm
        go_cut [8, 9, 45] from 46 to 58 (fun v8 v9 v45 wq => ∃ X, v8 = .pointer (some ⟨X, 0, none⟩) ∧ v9 = .bool true ∧ Hid (wq.heap[X]? = some (.cells (hcells T.s T.k T.p T.r T.a T.t T.h) 48 (0, 0))) ∧ Hid (Below w.heap.size w wq))
        case first =>
          have bd : Below w.heap.size w w5.drew := HB5.out.trans ((below_drewN (Below.refl w5.heap.size w5) 1).mono HB5.out.size)
          have bd5 : Below w.heap.size w (w5.alloc (.cells z7 48)).drew := HB5.out.trans ((below_drewN (Below.alloc (Below.refl w5.heap.size w5) (Nat.le_refl _) _) 1).mono HB5.out.size)
          have hz5 : (w5.alloc (.cells z7 48)).drew.heap[w5.heap.size]? = some (.cells z7 48) := heap_alloc_new w5 _
          have Hs5 : Hid (w.heap.size ≤ w5.heap.size) := HB5.out.size
          go_region_with (first
            | (go_at_call 13; refine (HPl.out _ (by first | exact bd | exact bd5)).mono ?_; rintro e w6 ⟨rfl, l6⟩; (first | (have b6 : Below w.heap.size w w6 := bd.trans (l6.mono bd.size)) | (have b6 : Below w.heap.size w w6 := bd5.trans (l6.mono bd5.size); have hz6 := (l6.block _ (Array.getElem?_eq_some_iff.1 hz5).1).trans hz5; obtain ⟨⟨y0, y1, y2, y3, y4, y5, y6⟩, g0, g1, g2, g3, g4, g5, g6⟩ := box_facts hz6)); have q0 : w6.cell? ⟨mm, 0, none⟩ = some (.pointer (some ⟨lb, 0, none⟩)) := (HM.out w6 b6).cell 0; have q1 : w6.cell? ⟨mm, 1, none⟩ = some (.pointer (some ⟨b, 0, none⟩)) := (HM.out w6 b6).cell 1; have hm6 : mm < w6.heap.size := (HM.out w6 b6).lt; have b6a : Below w.heap.size w (w6.alloc (.cells z7 48)) := Below.alloc b6 b6.size _; have hz6a : (w6.alloc (.cells z7 48)).heap[w6.heap.size]? = some (.cells z7 48) := heap_alloc_new w6 _)
            | (go_at_call 27; refine (HHd.out _ (by first | exact b6 | exact b6a)).mono ?_; rintro e w7 ⟨rfl, l7⟩; (first | (have b7 : Below w.heap.size w w7 := b6.trans (l7.mono b6.size)) | (have b7 : Below w.heap.size w w7 := b6a.trans (l7.mono b6a.size))); (first | (have hz7 := (l7.block _ (Array.getElem?_eq_some_iff.1 hz6).1).trans hz6; obtain ⟨⟨x0, x1, x2, x3, x4, x5, x6⟩, f0, f1, f2, f3, f4, f5, f6⟩ := box_facts hz7) | (have hz7 := (l7.block _ (Array.getElem?_eq_some_iff.1 hz6a).1).trans hz6a; obtain ⟨⟨x0, x1, x2, x3, x4, x5, x6⟩, f0, f1, f2, f3, f4, f5, f6⟩ := box_facts hz7) | skip)))
          all_goals
            go_wp2_with fail
            go_meet
            first
              | exact ⟨_, rfl, rfl, box_set hz7 T.s T.k T.p T.r T.a T.t T.h, box_below _ _ _ _ _ _ _ b7 (by first | exact b6.size | exact Hs5.out)⟩
              | exact ⟨_, rfl, rfl, heap_alloc_new w7 _, Below.alloc b7 b7.size _⟩
        case rest =>
        obtain ⟨X, rfl, rfl, HX, HB7⟩ := hcut
        clear HPl HHd m0 m1 hm5 HB5 w5
        apply_assumption
        have Hh : Hid (T.h = decide ((k : Int) ∈ want)) := (by rw [← HT.out.2.1]; exact HF.out.2.2 T HTm.out)
        haveI hinh : Inhabited (Bel wc) := ⟨⟨wc, Below.refl _ _⟩⟩
        have hXl : X < wc.heap.size := (Array.getElem?_eq_some_iff.1 HX.out).1
        have x6 : ∀ p : Bel wc, p.v.cell? ⟨X, 6, none⟩ = some (.bool T.h) := fun p => (p.h.cell (p := ⟨X, 6, none⟩) hXl).trans (cell_of_row _ _ 6 _ _ _ HX.out)
        have Ham : Hid (∀ p : Bel wc, Calls Tryd.prog 22 #[.slice wa want.length wcap, .int .i64 (k : Int)] p.v fun e w' => e = .returned (.bool T.h) ∧ Below p.v.heap.size p.v w') := fun p => (among6_any _ want k _ p.v (HW.out p.v (HB7.out.trans (p.h.mono HB7.out.size))) (by omega)).mono (fun e w' h => ⟨by rw [Hh.out]; exact h.1, by rw [h.2]; exact Below.refl _ _⟩)
        clear HX hXl
        go_upto_region 8 with fail
        go_cut [68] from 59 to 67 (fun v68 wq => v68 = .bool false ∧ Hid (Below w.heap.size w wq))
        case first =>
          cases hTh : T.h
          · rw [hTh] at Ham
            simp only [hTh] at x6
            refine region_below mixed (by kernel_rfl) ?_
            repeat (go_big_quiet_step (first | (go_at_call 22; exact calls_bel (Ham.out _))))
            refine wpQuiet_nil ?_
            rintro w8 ⟨⟨w8, b8⟩, rfl⟩
            go_wp2_with fail
            go_meet
            exact ⟨rfl, HB7.out.trans (b8.mono HB7.out.size)⟩
          · rw [hTh] at Ham
            simp only [hTh] at x6
            refine region_below mixed (by kernel_rfl) ?_
            repeat (go_big_quiet_step (first | (go_at_call 22; exact calls_bel (Ham.out _))))
            refine wpQuiet_nil ?_
            rintro w8 ⟨⟨w8, b8⟩, rfl⟩
            go_wp2_with fail
            go_meet
            exact ⟨rfl, HB7.out.trans (b8.mono HB7.out.size)⟩
        case rest =>
        obtain ⟨rfl, HB8⟩ := hcut
        clear HB7 x6 Ham Hh hinh
        apply_assumption
        obtain ⟨j, hj⟩ : ∃ j, k = j + 1 := ⟨k - 1, by omega⟩
        subst hj
        obtain ⟨pr, hpr⟩ : ∃ p, Fr[j]? = some p := ⟨_, List.getElem?_eq_getElem (by have h1 := HF.out.2.1.len; rw [List.length_map] at h1; have := HN.out; omega)⟩
        have hno : T.no - 1 = j := by have := HT.out.2.1; omega
        have hps : T.ps = pr.2.map (plc L) := HF.out.2.1.ps T HTm.out pr.2 (by rw [hno, List.getElem?_map, hpr]; rfl)
        have Hps : Hid (T.ps = pr.2.map (plc L) ∧ Fr[j]? = some pr ∧ pr.2.length ≤ 60 ∧ ∀ z, z ∈ pr.2 → InI z) := ⟨hps, hpr, HF.out.2.1.few pr.2 (List.mem_map.2 ⟨pr, List.mem_of_getElem? hpr, rfl⟩), HF.out.2.1.ini pr.2 (List.mem_map.2 ⟨pr, List.mem_of_getElem? hpr, rfl⟩)⟩
        obtain ⟨nf, hnf⟩ : ∃ n, n = pr.2.length := ⟨_, rfl⟩
        have Hnf : Hid (nf = pr.2.length) := hnf
        have hnfb : nf ≤ 60 := by rw [hnf]; exact Hps.out.2.2.1
        obtain ⟨fq, fc, e1, hfq, -⟩ := HF.out.1.at_ hpr
        simp only [Value.slice.injEq] at e1
        obtain ⟨e1, -, -⟩ := e1
        subst e1
        have Hfq : Hid (fq < w.heap.size) := hfq
        have hfrl : j < Fr.length := (List.getElem?_eq_some_iff.1 hpr).1
        clear hps hpr hno hnf hfq
        go_wp2_with fail
        go_loopw [10] (fun v10 wr => ∃ f : Nat, f ≤ nf ∧ v10 = .int .i64 f ∧ Hid (Below w.heap.size w wr)) (fun v10 _ => nf - (intOf v10).toNat)
        case atStart => exact ⟨0, Nat.zero_le _, rfl, HB8⟩
        case round =>
          obtain ⟨f, hf, rfl, HB9⟩ := hrel
          clear HB8
          have hFw := HF.out.1.below HB9.out
          obtain ⟨fq', fc', e1, hfq', xq⟩ := hFw.at_ Hps.out.2.1
          simp only [Value.slice.injEq] at e1
          obtain ⟨e1, -, -⟩ := e1
          simp only [Option.some.injEq, Addr.mk.injEq] at e1
          obtain ⟨e1, -⟩ := e1
          subst e1
          rw [show fval pr = .slice (some ⟨pr.1, 0, none⟩) nf nf from by rw [Hnf.out]] at xq
          have hprc := (hFw.rows pr (List.mem_of_getElem? Hps.out.2.1)).1
          have Hprc : Hid (wr.heap[pr.1]? = some (.cells (ints pr.2).toArray 3 (0, 0))) := hprc
          clear hFw hprc
          by_cases hfl : f < nf
          · have hfI : (f : Int) < (nf : Int) := by omega
            obtain ⟨z, hz⟩ : ∃ z, pr.2[f]? = some z := ⟨_, List.getElem?_eq_getElem (by have := Hnf.out; omega)⟩
            have Hz : Hid (pr.2[f]? = some z) := hz
            have xz : wr.cell? ⟨pr.1, f, none⟩ = some (.int .i64 z) := by rw [cell_of_row _ _ f _ _ _ Hprc.out]; simp [ints, hz]
            have hprl : pr.1 < wr.heap.size := (Array.getElem?_eq_some_iff.1 Hprc.out).1
            have hTp : T.ps[f]? = some (plc L z) := by rw [Hps.out.1, List.getElem?_map, hz]; rfl
            obtain ⟨pz, hpz⟩ : ∃ p, p = plc L z := ⟨_, rfl⟩
            rw [← hpz] at hTp
            have HPl : Hid (∀ p : Bel wr, Calls Tryd.prog 13 #[.pointer (some ⟨lb, 0, none⟩), .int .i64 ((j : Int) + 1)] p.v fun e w' => e = .returned (.int .i64 T.at_) ∧ Below p.v.heap.size p.v w') := fun p => by
              have hb := HB9.out.trans (p.h.mono HB9.out.size)
              have h := place_any (HLy.out.1.below (hb.mono HLy.out.2.2)) (Nat.le_trans HLy.out.2.2 hb.size) HLy.out.2.1.len ((j + 1 : Nat) : Int) (by unfold InI; omega)
              rw [HT.out.2.2.2] at h
              exact h
            have HPz : Hid (∀ p : Bel wr, Calls Tryd.prog 13 #[.pointer (some ⟨lb, 0, none⟩), .int .i64 z] p.v fun e w' => e = .returned (.int .i64 pz) ∧ Below p.v.heap.size p.v w') := fun p => by
              have hb := HB9.out.trans (p.h.mono HB9.out.size)
              have h := place_any (HLy.out.1.below (hb.mono HLy.out.2.2)) (Nat.le_trans HLy.out.2.2 hb.size) HLy.out.2.1.len z (Hps.out.2.2.2 z (List.mem_of_getElem? Hz.out))
              rw [hpz]
              exact h
            have HPt : Hid (∀ p : Bel wr, Calls Tryd.prog 45 #[.pointer (some ⟨b, 0, none⟩), .int .i64 T.at_, .int .i64 f] p.v fun e w' => e = .returned (.tuple #[.int .i64 pz, .bool true]) ∧ Below p.v.heap.size p.v w') := fun p => (HR.out.below (HB9.out.trans (p.h.mono HB9.out.size))).bq.ax.ptr HTm.out f pz hTp
            have HPz' : Hid (∀ W, Below wr.heap.size wr W → ∀ p : Bel W, Calls Tryd.prog 13 #[.pointer (some ⟨lb, 0, none⟩), .int .i64 z] p.v fun e w' => e = .returned (.int .i64 pz) ∧ Below p.v.heap.size p.v w') := fun W hW p => HPz.out ⟨p.v, hW.trans (p.h.mono hW.size)⟩
            clear hz hTp hpz HPz
            go_upto_region 13 with fail
            clear xq
            haveI hinh : Inhabited (Bel wr) := ⟨⟨wr, Below.refl _ _⟩⟩
            have m0 : ∀ p : Bel wr, p.v.cell? ⟨mm, 0, none⟩ = some (.pointer (some ⟨lb, 0, none⟩)) := fun p => (HM.out p.v (HB9.out.trans (p.h.mono HB9.out.size))).cell 0
            have m1 : ∀ p : Bel wr, p.v.cell? ⟨mm, 1, none⟩ = some (.pointer (some ⟨b, 0, none⟩)) := fun p => (HM.out p.v (HB9.out.trans (p.h.mono HB9.out.size))).cell 1
            refine region_below mixed (by kernel_rfl) ?_
            repeat (go_big_quiet_step (first | (go_at_call 13; exact calls_bel (HPl.out _)) | (go_at_call 45; exact calls_bel (HPt.out _))))
            refine wpQuiet_nil ?_
            rintro w8 ⟨⟨w8, b8⟩, rfl⟩
            have HB10 : Hid (Below w.heap.size w w8) := HB9.out.trans (b8.mono HB9.out.size)
            have HPz : Hid (∀ p : Bel w8, Calls Tryd.prog 13 #[.pointer (some ⟨lb, 0, none⟩), .int .i64 z] p.v fun e w' => e = .returned (.int .i64 pz) ∧ Below p.v.heap.size p.v w') := HPz'.out w8 b8
            have hprl8 : pr.1 < w8.heap.size := Nat.lt_of_lt_of_le hprl b8.size
            have xz8 : w8.cell? ⟨pr.1, f, none⟩ = some (.int .i64 z) := (b8.cell (p := ⟨pr.1, f, none⟩) hprl).trans xz
            clear m0 m1 HPl HPt HPz' hinh xz hprl Hprc HB9 b8
            haveI hinh : Inhabited (Bel w8) := ⟨⟨w8, Below.refl _ _⟩⟩
            have m0 : ∀ p : Bel w8, p.v.cell? ⟨mm, 0, none⟩ = some (.pointer (some ⟨lb, 0, none⟩)) := fun p => (HM.out p.v (HB10.out.trans (p.h.mono HB10.out.size))).cell 0
            have mq : ∀ p : Bel w8, p.v.cell? ⟨fq, j, none⟩ = some (.slice (some ⟨pr.1, 0, none⟩) nf nf) := fun p => by
              obtain ⟨fq', fc', e1, hfq', xq⟩ := (HF.out.1.below (HB10.out.trans (p.h.mono HB10.out.size))).at_ Hps.out.2.1
              simp only [Value.slice.injEq] at e1
              obtain ⟨e1, -, -⟩ := e1
              simp only [Option.some.injEq, Addr.mk.injEq] at e1
              obtain ⟨e1, -⟩ := e1
              subst e1
              rw [show fval pr = .slice (some ⟨pr.1, 0, none⟩) nf nf from by rw [Hnf.out]] at xq
              exact xq
            have mz : ∀ p : Bel w8, p.v.cell? ⟨pr.1, f, none⟩ = some (.int .i64 z) := fun p => (p.h.cell (p := ⟨pr.1, f, none⟩) hprl8).trans xz8
            go_wp2_with fail
            refine region_below mixed (by kernel_rfl) ?_
            repeat (go_big_quiet_step (first | (go_at_call 13; exact calls_bel (HPz.out _))))
            refine wpQuiet_nil ?_
            rintro w9 ⟨⟨w9, b9⟩, rfl⟩
            have HB11 : Hid (Below w.heap.size w w9) := HB10.out.trans (b9.mono HB10.out.size)
            clear m0 mq mz hinh HPz
            go_wp2_with fail
            go_roundw
            case rel => exact ⟨f + 1, by omega, by go_num, HB11⟩
            case measure => simp [intOf]; omega
          · have hfI : ¬ (f : Int) < (nf : Int) := by omega
            go_wp2_with fail
            go_roundw
            case rel => exact ⟨j + 1 + 1, by omega, by omega, by go_num, HB9⟩
            case measure => simp [intOf]; omega
    · have hkI : ¬ (k : Int) ≤ (N : Int) := by omega
      clear hly
      go_wp2_with fail
      go_ret
      exact ⟨rfl, HBr.out⟩
end

end Go.Proofs.YtfihjmoaibmllaaDoor
