/-
  The two arenas side by side: both.walk, behind any stop.
-/
import Derived.Test.YtbdkcelggffneaaGreatDoorB34
set_option linter.unusedVariables false
set_option maxRecDepth 20000
namespace Go.Proofs.YtbdkcelggffneaaGreatDoor
open Go.RowKit Go.Shelf

theorem own_cutA {w : World} {base vc n : Nat} {va : Option Addr} {l : List Int} (h : w.ownsRow base 3 1 (.slice va l.length vc) l.length (l.map (Value.int .i64))) (hn : n ≤ l.length) (hn0 : 0 < n) : w.ownsRow base 3 1 (.slice va n vc) n ((l.take n).map (Value.int .i64)) := by
  obtain ⟨h1, h2⟩ := h
  rcases h2 with ⟨h2, h3⟩ | ⟨q, cap, cur, hv, hb, hg, hc, hm, hs, ht⟩
  · omega
  simp only [Value.slice.injEq] at hv
  obtain ⟨rfl, -, rfl⟩ := hv
  refine ⟨by simp; omega, .inr ⟨q, vc, cur, rfl, hb, hg, by omega, hm, hs, ?_⟩⟩
  rw [List.map_take, ← ht, List.take_take]
  congr 1
  simp
  omega

theorem own_capA {w : World} {base vc : Nat} {va : Option Addr} {l : List Int} (h : w.ownsRow base 3 1 (.slice va l.length vc) l.length (l.map (Value.int .i64))) : l.length ≤ vc ∧ vc ≤ 9223372036854775807 := by
  obtain ⟨h1, h2⟩ := h
  rcases h2 with ⟨h2, h3⟩ | ⟨q, cap, cur, hv, hb, hg, hc, hm, hs, ht⟩
  · simp only [Value.slice.injEq] at h2
    omega
  · simp only [Value.slice.injEq] at hv
    obtain ⟨-, -, rfl⟩ := hv
    exact ⟨hc, by simpa [maxLen] using hm⟩

section
variable (p a h r : Nat) (g : Nat → Nat) (c : Cfg) (x : Tps) (sw : Bool) (ws : Nat → Int)

set_option maxHeartbeats 16000000 in
theorem lwalk_core (s stop : Int) (l L : List Int) (hL : L = Sp.cutS l stop) (hlen : l.length < 1000000) (hat : ∀ y, y ∈ L → At c x ws y)
    (hrw : ∀ w1, Ra w1 r g c x sw ws → Calls Tryz.prog 83 #[.pointer (some ⟨r, 0, none⟩), .int .i64 s] w1 fun e w' => ∃ v z, e = .returned (.tuple #[v, .int .i64 z]) ∧ w'.ownsRow w1.heap.size 3 1 v l.length (l.map (Value.int .i64)) ∧ Below w1.heap.size w1 w')
    (hob : ∀ w1, Ar w1 a h c x sw ws → Laid w1 → Calls Tryz.prog 15 #[.pointer (some ⟨a, 0, none⟩), .int .i64 s, .int .i64 stop, .int .i64 ((L.length : Int) + 1)] w1 fun rr w' => ∃ tb f va vh, rr = .returned (.tuple #[.pointer (some ⟨tb, 0, none⟩), .bool true]) ∧ Tk w' tb 56 6 0 f stop ((L.length : Int) + 1) L (hcl c ws L) va vh (Sp.endS l stop) ∧ Below w1.heap.size w1 w')
    (w : World) (hB : Bo w p a h r g c x sw ws) :
    Calls Tryz.prog 36 #[.pointer (some ⟨p, 0, none⟩), .int .i64 s, .int .i64 stop] w fun e w' => e = .returned (.bool true) ∧ Below w.heap.size w w' := by
  have HB : Hid (Bo w p a h r g c x sw ws) := hB
  have Hat : Hid (∀ y, y ∈ L → At c x ws y) := hat
  have HO : Hid (∀ w1, Ar w1 a h c x sw ws → Laid w1 → Calls Tryz.prog 15 #[.pointer (some ⟨a, 0, none⟩), .int .i64 s, .int .i64 stop, .int .i64 ((L.length : Int) + 1)] w1 fun rr w' => ∃ tb f va vh, rr = .returned (.tuple #[.pointer (some ⟨tb, 0, none⟩), .bool true]) ∧ Tk w' tb 56 6 0 f stop ((L.length : Int) + 1) L (hcl c ws L) va vh (Sp.endS l stop) ∧ Below w1.heap.size w1 w') := hob
  have c1 := hB.c1
  have hr := hrw w hB.ra
  clear hB hat hob hrw
  have hLl : L.length ≤ l.length := by rw [hL]; exact Sp.cutS_le l stop
  go_enter Tryz.func36, Tryz.ntmps36
  go_wp2_with fail
  refine hr.mono ?_
  rintro e w1 ⟨v, z, rfl, hrow, l1⟩
  clear hr c1
  obtain ⟨va, vc, rfl⟩ := own_sl hrow
  obtain ⟨hcp, hcm⟩ := own_capA hrow
  have c0 := (HB.out.below l1).c0
  have HB1 : Hid (Bo w1 p a h r g c x sw ws) := HB.out.below l1
  have L1 : Hid (Below w.heap.size w w1) := l1
  clear l1 HB
  go_upto_region 2 with fail
  go_cut [30] from 23 to 30 (fun v30 wq => ∃ b : Bool, v30 = .bool b ∧ b = decide (0 < stop ∧ stop < (l.length : Int)) ∧ wq = w1)
  case first =>
    by_cases hs1 : 0 < stop
    · by_cases hs2 : stop < (l.length : Int)
      · have hd : decide (0 < stop ∧ stop < (l.length : Int)) = true := decide_eq_true ⟨hs1, hs2⟩
        clear hL
        go_wp2_with fail
        go_meet
        exact ⟨_, rfl, by rw [hd], rfl⟩
      · have hd1 : decide (stop < (l.length : Int)) = false := decide_eq_false hs2
        have hd : decide (0 < stop ∧ stop < (l.length : Int)) = false := decide_eq_false (fun e => hs2 e.2)
        clear hL
        go_wp2_with fail
        go_meet
        exact ⟨_, rfl, by rw [hd], rfl⟩
    · have hd1 : decide (0 < stop) = false := decide_eq_false hs1
      have hd : decide (0 < stop ∧ stop < (l.length : Int)) = false := decide_eq_false (fun e => hs1 e.1)
      clear hL
      go_wp2_with fail
      go_meet
      exact ⟨_, rfl, by rw [hd], rfl⟩
  case rest =>
  obtain ⟨b30, rfl, hb30, hwc⟩ := hcut
  subst hwc
  apply_assumption
  go_cut [7] from 31 to 33 (fun v7 wq => v7 = .slice va L.length vc ∧ wq = wc ∧ Hid (wc.ownsRow w.heap.size 3 1 (.slice va L.length vc) L.length (L.map (Value.int .i64))))
  case first =>
    by_cases hs : 0 < stop ∧ stop < (l.length : Int)
    · have hd : decide (0 < stop ∧ stop < (l.length : Int)) = true := decide_eq_true hs
      obtain rfl : b30 = true := hb30.trans hd
      obtain ⟨n, rfl⟩ : ∃ n : Nat, stop = n := ⟨stop.toNat, by omega⟩
      have hn : L = l.take n := by rw [hL]; unfold Sp.cutS; rw [if_pos (by omega)]; simp
      have hn2 : L.length = n := by rw [hn, List.length_take]; omega
      have hrw2 := own_cutA hrow (n := n) (by omega) (by omega)
      have hnc : n ≤ vc := by omega
      have hnci : (n : Int) ≤ (vc : Int) := by omega
      have Hw : Hid (wc.ownsRow w.heap.size 3 1 (.slice va L.length vc) L.length (L.map (Value.int .i64))) := by rw [hn2, hn]; exact hrw2
      have hnz : ¬ (n : Int) < 0 := by omega
      have Hn2 : Hid (L.length = n) := hn2
      clear hrow hrw2 hn hn2 hL hd hs hb30
      go_wp2_with fail
      go_meet
      exact ⟨by rw [Hn2.out], rfl, Hw⟩
    · have hd : decide (0 < stop ∧ stop < (l.length : Int)) = false := decide_eq_false hs
      obtain rfl : b30 = false := hb30.trans hd
      have hn : L = l := by
        rw [hL]
        unfold Sp.cutS
        split
        · have : stop.toNat = l.length := by omega
          rw [this, List.take_length]
        · rfl
      subst hn
      have Hw : Hid (wc.ownsRow w.heap.size 3 1 (.slice va L.length vc) L.length (L.map (Value.int .i64))) := hrow
      clear hrow hL hd hs hb30
      go_wp2_with fail
      go_meet
      exact ⟨rfl, rfl, Hw⟩
  case rest =>
  obtain ⟨rfl, hwc, Hw⟩ := hcut
  subst hwc
  clear hrow hL hb30
  go_upto_region 4 with fail
  go_wp2_with fail
  refine (HO.out wc HB1.out.ar HB1.out.la).mono ?_
  rintro e w2 ⟨tb, f, ta, th, rfl, k, l2⟩
  have HC : Hid (Cmp c ws w2 L va vc tb) := Cmp.of (row_keep Hw.out (fun q hq => l2.block q (row_lt Hw.out q hq))) k
  have HB2 : Hid (Bo w2 p a h r g c x sw ws) := HB1.out.below l2
  have L2 : Hid (Below w.heap.size w w2) := L1.out.trans (l2.mono L1.out.size)
  obtain ⟨a1, cc1, u1, -⟩ := HC.out.t0
  have BS : Hid (Below w2.heap.size w2 w2) := Below.refl _ _
  clear HO k l2 HB1 L1 c0 Hw
  go_upto_region 5 with fail
  go_wp2
  clear u1
  go_loopw [11] (fun v wr => ∃ i : Nat, i ≤ L.length ∧ v = .int .i64 i ∧ Hid (Below w2.heap.size w2 wr)) (fun v _ => L.length - (intOf v).toNat)
  case atStart => exact ⟨0, Nat.zero_le _, rfl, BS.out⟩
  case round =>
    obtain ⟨i, hi, rfl, bl⟩ := hrel
    by_cases hlt : i < L.length
    · obtain ⟨y, hy⟩ : ∃ y, L[i]? = some y := ⟨_, List.getElem?_eq_getElem hlt⟩
      have hli : (i : Int) < (L.length : Int) := by omega
      have hBr := HB2.out.below bl.out
      have kc := HC.out.below bl.out
      obtain ⟨q1, rfl, d1⟩ := kc.li i y hy
      obtain ⟨a1, cc1, u1, x1⟩ := kc.t0
      obtain ⟨q2, rfl, x2⟩ := x1 i y hy
      obtain ⟨q3, m3, u3, x3⟩ := kc.t1 i y hy
      have c1 := hBr.c1
      have hym : At c x ws y := Hat.out y (List.mem_of_getElem? hy)
      have hrh : ∀ w1, Bo w1 p a h r g c x sw ws → Calls Tryz.prog 30 #[.pointer (some ⟨r, 0, none⟩), .int .i64 y] w1 fun e w' => e = .returned (.tuple #[hdv c ws y, .bool true]) ∧ Below w1.heap.size w1 w' := fun w1 hw => rhead_at r g c x sw ws y hym (hw.ar.wat_wd _) w1 hw.ra
      simp only [hdv] at hrh
      clear kc x1 hym hy
      generalize wat c ws (y + 1) = sr, kdOf (wat c ws y) = K, ptOf (wat c ws y) = P, rwOf (wat c ws y) = R, agOf (wat c ws y) = A, stOf (wat c ws y) = T, hdOf (wat c ws y) = H at x3 hrh
      have n0 : wr.cell? ⟨q3, i * 7, none⟩ = some (.int .u64 sr) := x3 0 (by decide)
      have n1 : wr.cell? ⟨q3, i * 7 + 1, none⟩ = some (.int .i64 K) := x3 1 (by decide)
      have n2 : wr.cell? ⟨q3, i * 7 + 2, none⟩ = some (.int .i64 P) := x3 2 (by decide)
      have n3 : wr.cell? ⟨q3, i * 7 + 3, none⟩ = some (.int .i64 R) := x3 3 (by decide)
      have n4 : wr.cell? ⟨q3, i * 7 + 4, none⟩ = some (.int .i64 A) := x3 4 (by decide)
      have n5 : wr.cell? ⟨q3, i * 7 + 5, none⟩ = some (.int .i64 T) := x3 5 (by decide)
      have n6 : wr.cell? ⟨q3, i * 7 + 6, none⟩ = some (.bool H) := x3 6 (by decide)
      have HN : Hid ((wr.cell? ⟨q1, i, none⟩ = some (.int .i64 y) ∧ wr.cell? ⟨tb, 0, none⟩ = some (.slice (some ⟨q2, 0, none⟩) L.length cc1) ∧ wr.cell? ⟨q2, i, none⟩ = some (.int .i64 y) ∧ wr.cell? ⟨tb, 1, none⟩ = some (.slice (some ⟨q3, 0, none⟩) L.length m3)) ∧ wr.cell? ⟨q3, i * 7, none⟩ = some (.int .u64 sr) ∧ wr.cell? ⟨q3, i * 7 + 1, none⟩ = some (.int .i64 K) ∧ wr.cell? ⟨q3, i * 7 + 2, none⟩ = some (.int .i64 P) ∧ wr.cell? ⟨q3, i * 7 + 3, none⟩ = some (.int .i64 R) ∧ wr.cell? ⟨q3, i * 7 + 4, none⟩ = some (.int .i64 A) ∧ wr.cell? ⟨q3, i * 7 + 5, none⟩ = some (.int .i64 T) ∧ wr.cell? ⟨q3, i * 7 + 6, none⟩ = some (.bool H)) := ⟨⟨d1, u1, x2, u3⟩, n0, n1, n2, n3, n4, n5, n6⟩
      have H2 : Hid (∀ w1, Bo w1 p a h r g c x sw ws → Calls Tryz.prog 30 #[.pointer (some ⟨r, 0, none⟩), .int .i64 y] w1 fun e w' => e = .returned (.tuple #[hv sr K P R A T H, .bool true]) ∧ Below w1.heap.size w1 w') := hrh
      have HBr : Hid (Bo wr p a h r g c x sw ws) := hBr
      clear n0 n1 n2 n3 n4 n5 n6 u1 x2 u3 x3 hrh hBr
      have d1a : (wr.alloc (.cells #[.int .u64 0, .int .i64 0, .int .i64 0, .int .i64 0, .int .i64 0, .int .i64 0, .bool false] 31)).cell? ⟨q1, i, none⟩ = some (.int .i64 y) := Lib.cell?_alloc_some _ d1
      have c1a : (wr.alloc (.cells #[.int .u64 0, .int .i64 0, .int .i64 0, .int .i64 0, .int .i64 0, .int .i64 0, .bool false] 31)).cell? ⟨p, 1, none⟩ = some (.pointer (some ⟨r, 0, none⟩)) := Lib.cell?_alloc_some _ c1
      have bd : Below wr.heap.size wr wr.drew := below_drewN (Below.refl _ _) 1
      have bd1 : ∀ o', Below wr.heap.size wr (wr.alloc o').drew := fun o' => below_drewN (Below.alloc (Below.refl _ _) (Nat.le_refl _) o') 1
      go_upto_region 10 with fail
      go_cut [12, 13] from 65 to 76 (fun v12 v13 wq => ∃ X, v12 = .pointer (some ⟨X, 0, none⟩) ∧ v13 = .bool true ∧ Box wq X (.int .u64 sr) (.int .i64 K) (.int .i64 P) (.int .i64 R) (.int .i64 A) (.int .i64 T) (.bool H) ∧ Below wr.heap.size wr wq)
      case first =>
        go_region_with (go_at_call 30; refine (H2.out _ (by first | exact HBr.out.below bd | exact HBr.out.below (bd1 _))).mono ?_; rintro e w1 ⟨rfl, l1⟩; (first | (have lb : Below wr.heap.size wr w1 := bd.trans (l1.mono bd.size)) | (obtain ⟨hz, ⟨y0, y1, y2, y3, y4, y5, y6, f0, f1, f2, f3, f4, f5, f6⟩, lb⟩ := box_over l1)))
        all_goals (go_wp2_with fail; go_meet; first | (have q1 := seven_box (.int .u64 sr) (.int .i64 K) (.int .i64 P) (.int .i64 R) (.int .i64 A) (.int .i64 T) (.bool H) hz.out; have q2 := seven_below (.int .u64 sr) (.int .i64 K) (.int .i64 P) (.int .i64 R) (.int .i64 A) (.int .i64 T) (.bool H) lb (Nat.le_refl _); exact ⟨_, rfl, rfl, q1, q2⟩) | exact ⟨_, rfl, rfl, Box.new _ _ _ _ _ _ _ _ _, Below.alloc lb lb.size _⟩)
      case rest =>
      obtain ⟨X, rfl, rfl, hX, bb⟩ := hcut
      clear d1 d1a c1 c1a bd bd1 H2 HBr
      have cl : ∀ {q : Addr} {u : Value}, wr.cell? q = some u → wc.cell? q = some u := fun hq => (bb.cell (World.block_lt_of_cell? _ _ hq)).trans hq
      obtain ⟨⟨g1, g2, g3, g4⟩, g5, g6, g7, g8, g9, g10, g11⟩ := HN.out
      have d1 := cl g1
      have u1 := cl g2
      have x2 := cl g3
      have u3 := cl g4
      have n0 := cl g5
      have n1 := cl g6
      have n2 := cl g7
      have n3 := cl g8
      have n4 := cl g9
      have n5 := cl g10
      have n6 := cl g11
      clear g1 g2 g3 g4 g5 g6 g7 g8 g9 g10 g11 HN cl
      obtain ⟨o0, o1, o2, o3, o4, o5, o6, -, -, -, -, -, -, -⟩ := hX
      have BB : Hid (Below w2.heap.size w2 wc) := bl.out.trans (bb.mono bl.out.size)
      clear bb bl
      go_upto_region 11 with fail
      refine quiet_tail 21 mixed (by kernel_rfl) ?_
      simp only [List.take_succ_cons, List.take_zero, List.drop_succ_cons, List.drop_zero]
      repeat (go_big_quiet_step (fail))
      refine wpQuiet_nil ?_
      clear d1 u1 x2 u3 n0 n1 n2 n3 n4 n5 n6 o0 o1 o2 o3 o4 o5 o6
      go_wp2_with fail
      refine (sameHead_same sr K P R A T H _).mono ?_
      rintro e w7 ⟨rfl, b7⟩
      have b8 : Hid (Below w2.heap.size w2 w7) := BB.out.trans ((Below.trans (below_drewN (Below.refl _ wc) 1) b7).mono BB.out.size)
      clear b7 BB
      go_wp2
      go_roundw
      case rel => exact ⟨i + 1, hlt, by go_num, b8⟩
      case measure => simp [intOf]; omega
    · obtain rfl : i = L.length := by omega
      go_wp2
      go_ret
      exact ⟨rfl, L2.out.trans (bl.out.mono L2.out.size)⟩

/-- both.walk: whatever the space and the stop. -/
theorem lwalk_any (s stop : Int) (w : World) (hB : Bo w p a h r g c x sw ws) :
    Calls Tryz.prog 36 #[.pointer (some ⟨p, 0, none⟩), .int .i64 s, .int .i64 stop] w fun e w' => e = .returned (.bool true) ∧ Below w.heap.size w w' := by
  obtain ⟨l, ⟨⟨q, e, hp, hw⟩, hlen, hat⟩, hrw⟩ := gone_ex p a h r g c x sw ws s w hB
  have hsub : ∀ y, y ∈ Sp.cutS l stop → y ∈ l := fun y hy => by
    unfold Sp.cutS at hy
    split at hy
    · exact List.mem_of_mem_take hy
    · exact hy
  exact lwalk_core p a h r g c x sw ws s stop l _ rfl hlen (fun y hy => hat y (hsub y hy)) hrw (fun w1 hA hLd => Sp.objects3_any a h c x sw ws s l q e hp hw stop _ (by omega) hlen w1 hA hLd) w hB
end

end Go.Proofs.YtbdkcelggffneaaGreatDoor
