/-
  CellBack: the walk.
-/
import Derived.Test.YtoanmgnoonmkbaaDoorCCel
import Derived.Deep.CutRange
import Derived.Deep.RegionWith
set_option linter.unusedVariables false
namespace Go.Proofs.YtoanmgnoonmkbaaDoor
open Go.RowKit

set_option maxRecDepth 20000 in
set_option maxHeartbeats 4000000 in
theorem back_any (kind ptrs raws age site : Int) (held : Bool) (serial other : Int)
    (i1 : -9223372036854775808 ≤ kind ∧ kind ≤ 9223372036854775807) (i2 : -9223372036854775808 ≤ ptrs ∧ ptrs ≤ 9223372036854775807) (i3 : -9223372036854775808 ≤ raws ∧ raws ≤ 9223372036854775807)
    (i4 : -9223372036854775808 ≤ age ∧ age ≤ 9223372036854775807) (i5 : -9223372036854775808 ≤ site ∧ site ≤ 9223372036854775807) (i6 : -9223372036854775808 ≤ other ∧ other ≤ 9223372036854775807) (w : World) (hL : Laid w) :
    Calls Tryd.prog 7 #[.int .i64 kind, .int .i64 ptrs, .int .i64 raws, .int .i64 age, .int .i64 site, .bool held, .int .u64 serial, .int .i64 other] w fun e w' => e = .returned (.bool true) ∧ Below w.heap.size w w' := by
  have h1 := fun w => among_any kind 4 i1 (by decide) (by decide) w
  have h2 := fun w => among_any ptrs 4096 i2 (by decide) (by decide) w
  have h3 := fun w => among_any raws 65536 i3 (by decide) (by decide) w
  have h4 := fun w => among_any age 16 i4 (by decide) (by decide) w
  have h5 := fun w => among_any site 256 i5 (by decide) (by decide) w
  have h6 := fun w => among_any other 16 i6 (by decide) (by decide) w
  have h7 := fun w => among_any other 4 i6 (by decide) (by decide) w
  have h8 := fun w => among_any other 1099511627776 i6 (by decide) (by decide) w
  clear i1 i2 i3 i4 i5 i6
  have hkn := known2_any w hL
  go_enter Tryd.func7, Tryd.ntmps7
  go_wp2_with fail
  refine hkn.mono ?_
  rintro e w1 ⟨rfl, b1⟩
  have hL1 := hL.keep b1
  clear hkn
  go_wp2_with fail
  refine (h1 _).mono ?_
  rintro e w' ⟨kk, rfl, k0, k1, rfl⟩
  clear h1
  go_wp2_with fail
  refine (h2 _).mono ?_
  rintro e w' ⟨pp, rfl, p0, p1, rfl⟩
  clear h2
  go_upto_region 5 with fail
  go_cut [41] from 36 to 41 (fun c w' => c = .bool (decide (kk = 1 ∨ kk = 2)) ∧ w1 = w')
  case first =>
    obtain rfl | rfl | rfl | rfl : kk = 0 ∨ kk = 1 ∨ kk = 2 ∨ kk = 3 := by omega
    all_goals
      go_wp2
      go_meet
      exact ⟨rfl, rfl⟩
  case rest =>
  obtain ⟨rfl, rfl⟩ := hcut
  go_upto_if 41 with fail
  go_cut [18] from 41 to 45 (fun v w' => ∃ p, v = .int .i64 p ∧ 0 ≤ p ∧ p ≤ 4095 ∧ ¬ (1 + kk = 2 ∧ p < 1) ∧ ¬ (1 + kk = 3 ∧ p < 2) ∧ w1 = w')
  case first =>
    by_cases c : kk = 1 ∨ kk = 2
    · rw [decide_eq_true c]
      by_cases d : pp < kk
      · go_wp2
        all_goals (go_meet; exact ⟨_, rfl, by omega, by omega, by omega, by omega, rfl⟩)
      · go_wp2
        all_goals (go_meet; exact ⟨_, rfl, by omega, by omega, by omega, by omega, rfl⟩)
    · rw [decide_eq_false c]
      go_wp2
      go_meet
      exact ⟨pp, rfl, p0, by omega, by omega, by omega, rfl⟩
  case rest =>
  obtain ⟨p, rfl, q0, q1, q2, q3, rfl⟩ := hcut
  clear p0 p1
  obtain ⟨k, hk⟩ : ∃ k, 1 + kk = k := ⟨_, rfl⟩
  have j0 : 1 ≤ k := by omega
  have j1 : k ≤ 4 := by omega
  rw [hk] at q2 q3 ⊢
  clear hk k0 k1
  go_wp2_with fail
  refine (h3 _).mono ?_
  rintro e w' ⟨r, rfl, r0, r1, rfl⟩
  go_wp2_with fail
  refine (h4 _).mono ?_
  rintro e w' ⟨a, rfl, a0, a1, rfl⟩
  go_wp2_with fail
  refine (h5 _).mono ?_
  rintro e w' ⟨t, rfl, t0, t1, rfl⟩
  have M : May k p r a t := ⟨j0, j1, q2, q3, q0, q1, r0, by omega, a0, by omega, t0, by omega⟩
  have c1 := Cel.new w1 serial k p r a t held
  have b2 := Below.alloc b1 b1.size (.cells (hcells serial k p r a t held) 25)
  have hb0 := b1.size
  clear h3 h4 h5 q2 q3 b1
  go_upto_region 8 with fail
  generalize hbb : w1.heap.size = b at c1 hb0 ⊢
  generalize (w1.alloc (.cells (hcells serial k p r a t held) 25)) = w2 at c1 b2 ⊢
  clear hbb hL1
  have hp := pack_any serial k p r a t held w2 (hL.keep b2)
  rw [M.flt, show pck k p r a t held = wrd k p r a t held by unfold pck; rw [if_pos M.flt]] at hp
  have x := c1.box
  obtain ⟨x0, x1, x2, x3, x4, x5, x6, -, -, -, -, -, -, -⟩ := x
  go_wp2_with fail
  clear x0 x1 x2 x3 x4 x5 x6
  refine hp.mono ?_
  rintro e w3 ⟨rfl, b3⟩
  have c3 := c1.keep b3 c1.lt
  have b4 := b2.trans (b3.mono b2.size)
  clear c1 b2 b3 hp
  go_upto_region 9 with fail
  have c5 := c3.set0 0
  have b5 := Below.setCell b4 hb0 (p := ⟨b, 0, none⟩) (.int .u64 0)
  have x := c3.box
  obtain ⟨x0, -, -, -, -, -, -, f0, -, -, -, -, -, -⟩ := x
  go_upto_region 10 with fail
  clear x0 f0 c3 b4
  generalize (w3.setCell ⟨b, 0, none⟩ (.int .u64 0)) = w5 at c5 b5 ⊢
  have hu := unpack_wrd (h := held) M w5 (hL.keep b5)
  go_wp2_with fail
  refine hu.mono ?_
  rintro e w6 ⟨rfl, b6⟩
  have c6 := c5.keep b6 c5.lt
  have b7 := b5.trans (b6.mono b5.size)
  clear c5 b5 hu b6
  have c7 := c6.keep (Below.alloc (Below.refl _ _) (Nat.le_refl _) (.cells (hcells 0 k p r a t held) 25)) c6.lt
  have d7 := Cel.new w6 0 k p r a t held
  have b8 := Below.alloc b7 b7.size (.cells (hcells 0 k p r a t held) 25)
  have hne : b ≠ w6.heap.size := Nat.ne_of_lt c6.lt
  have hc0 := b7.size
  go_upto_region 11 with fail
  generalize w6.heap.size = c at d7 hne hc0 ⊢
  generalize (w6.alloc (.cells (hcells 0 k p r a t held) 25)) = w7 at c7 d7 b8 ⊢
  clear c6 b7
  have hs : ∀ w, Laid w → Calls Tryd.prog 15 #[.int .u64 (wrd k p r a t held)] w fun e w' => e = .returned (.int .i64 (2 + p + r)) ∧ Below w.heap.size w w' := fun w hL => by
    have h := size_any (wrd k p r a t held) (wrd_wd M) w hL
    rw [siz_wrd M] at h
    exact h
  go_cut [89] from 68 to 89 (fun v w' => v = .bool false ∧ Cel w' b 0 k p r a t held ∧ Cel w' c 0 k p r a t held ∧ Below w.heap.size w w')
  case first =>
    have hL8 := (hL.keep b8).drewN 1
    have c8 : Cel (w7.drewN 1) b 0 k p r a t held := ⟨c7.at_⟩
    have d8 : Cel (w7.drewN 1) c 0 k p r a t held := ⟨d7.at_⟩
    have b9 := below_drewN b8 1
    have x := c7.box
    obtain ⟨x0, x1, x2, x3, x4, x5, x6, -, -, -, -, -, -, -⟩ := x
    have y := d7.box
    obtain ⟨y0, y1, y2, y3, y4, y5, y6, -, -, -, -, -, -, -⟩ := y
    go_region_with (go_at_call 15; refine (hs _ hL8).mono ?_; rintro e w8 ⟨rfl, l8⟩; have e8 := c8.keep l8 c8.lt; have g8 := d8.keep l8 d8.lt; have z2 := e8.box.h2; have z3 := e8.box.h3)
    all_goals (go_wp2_with fail; go_meet; exact ⟨size_sum q0 q1 r0 r1, e8, g8, b9.trans (l8.mono b9.size)⟩)
  case rest =>
  obtain ⟨rfl, c9, d9, b9⟩ := hcut
  clear c7 d7 b8 hs
  generalize wc = w9 at *
  have o9 := Cel.new w9 0 k p r a t held
  have c10 := c9.keep (Below.alloc (Below.refl _ _) (Nat.le_refl _) (.cells (hcells 0 k p r a t held) 25)) c9.lt
  have d10 := d9.keep (Below.alloc (Below.refl _ _) (Nat.le_refl _) (.cells (hcells 0 k p r a t held) 25)) d9.lt
  have b10 := Below.alloc b9 b9.size (.cells (hcells 0 k p r a t held) 25)
  have hob : b ≠ w9.heap.size := Nat.ne_of_lt c9.lt
  have hoc : c ≠ w9.heap.size := Nat.ne_of_lt d9.lt
  have ho0 := b9.size
  have x := c9.box
  obtain ⟨x0, x1, x2, x3, x4, x5, x6, -, -, -, -, -, -, -⟩ := x
  go_upto_region 14 with fail
  clear x0 x1 x2 x3 x4 x5 x6 c9 d9 b9
  generalize w9.heap.size = o at o9 hob hoc ho0 ⊢
  generalize (w9.alloc (.cells (hcells 0 k p r a t held) 25)) = w10 at o9 c10 d10 b10 ⊢
  go_wp2_with fail
  refine (h6 _).mono ?_
  rintro e w' ⟨x, rfl, i0, i1, rfl⟩
  clear h6
  have c11 := c10.set4 x
  have d11 := d10.other hne.symm 4 (.int .i64 x)
  have o11 := o9.other hob.symm 4 (.int .i64 x)
  have b11 := Below.setCell b10 hb0 (p := ⟨b, 4, none⟩) (.int .i64 x)
  have x4 := c10.box.h4
  have f4 := c10.box.f4
  go_upto_region 15 with fail
  clear x4 f4 c10 d10 b10 o9
  generalize (w10.setCell ⟨b, 4, none⟩ (.int .i64 x)) = w11 at o11 c11 d11 b11 ⊢
  have M2 : May k p r x t := ⟨j0, j1, M.weak, M.eph, q0, q1, r0, by omega, i0, by omega, t0, by omega⟩
  have hwa := withage_any (wrd k p r a t held) (wrd_wd M) x w11 (hL.keep b11)
  rw [wage_wrd M M2] at hwa
  have x4 := c11.box.h4
  go_wp2_with fail
  clear x4
  refine hwa.mono ?_
  rintro e w12 ⟨rfl, l12⟩
  have c12 := c11.keep l12 c11.lt
  have d12 := d11.keep l12 d11.lt
  have o12 := o11.keep l12 o11.lt
  have b12 := b11.trans (l12.mono b11.size)
  clear hwa c11 d11 o11 b11 l12
  have hu := unpack_wrd (h := held) M2 w12 (hL.keep b12)
  go_wp2_with fail
  refine hu.mono ?_
  rintro e w13 ⟨rfl, l13⟩
  have c13 := c12.keep l13 c12.lt
  have d13 := d12.keep l13 d12.lt
  have o13 := o12.keep l13 o12.lt
  have b13 := b12.trans (l13.mono b12.size)
  clear hu c12 d12 o12 b12 l13
  have c14 := c13.putOther hne 0 k p r x t held
  have d14 := d13.put 0 k p r x t held
  have o14 := o13.putOther hoc.symm 0 k p r x t held
  have b14 := below_put b13 hc0 0 k p r x t held
  have y := d13.box
  obtain ⟨y0, y1, y2, y3, y4, y5, y6, f0, f1, f2, f3, f4, f5, f6⟩ := y
  go_upto_region 16 with fail
  clear y0 y1 y2 y3 y4 y5 y6 f0 f1 f2 f3 f4 f5 f6 c13 d13 o13 b13
  rw [put7_eq]
  generalize put7 w13 c 0 k p r x t held = w14 at c14 d14 o14 b14 ⊢
  have x := c14.box
  obtain ⟨x0, x1, x2, x3, x4, x5, x6, -, -, -, -, -, -, -⟩ := x
  have y := d14.box
  obtain ⟨y0, y1, y2, y3, y4, y5, y6, -, -, -, -, -, -, -⟩ := y
  go_upto_region 18 with fail
  clear x0 x1 x2 x3 x4 x5 x6 y0 y1 y2 y3 y4 y5 y6
  have c15 := c14.put 0 k p r a t held
  have d15 := d14.putOther hne.symm 0 k p r a t held
  have o15 := o14.putOther hob.symm 0 k p r a t held
  have b15 := below_put b14 hb0 0 k p r a t held
  have y := o14.box
  obtain ⟨y0, y1, y2, y3, y4, y5, y6, -, -, -, -, -, -, -⟩ := y
  have x := c14.box
  obtain ⟨x0, x1, x2, x3, x4, x5, x6, f0, f1, f2, f3, f4, f5, f6⟩ := x
  go_upto_region 19 with fail
  clear x0 x1 x2 x3 x4 x5 x6 y0 y1 y2 y3 y4 y5 y6 f0 f1 f2 f3 f4 f5 f6 c14 d14 o14 b14 M2 i0 i1
  rw [put7_eq]
  generalize put7 w14 b 0 k p r a t held = w15 at c15 d15 o15 b15 ⊢
  have c16 := c15.set6 (!held)
  have d16 := d15.other hne.symm 6 (.bool (!held))
  have o16 := o15.other hob.symm 6 (.bool (!held))
  have b16 := Below.setCell b15 hb0 (p := ⟨b, 6, none⟩) (.bool (!held))
  have x6 := c15.box.h6
  have f6 := c15.box.f6
  go_upto_region 20 with fail
  clear x6 f6 c15 d15 o15 b15
  generalize (w15.setCell ⟨b, 6, none⟩ (.bool (!held))) = w16 at c16 d16 o16 b16 ⊢
  have hwa := withheld_any (wrd k p r a t held) (wrd_wd M) (!held) w16 (hL.keep b16)
  rw [wheld_wrd M] at hwa
  go_wp2_with fail
  refine hwa.mono ?_
  rintro e w17 ⟨rfl, l17⟩
  have c17 := c16.keep l17 c16.lt
  have d17 := d16.keep l17 d16.lt
  have o17 := o16.keep l17 o16.lt
  have b17 := b16.trans (l17.mono b16.size)
  clear hwa c16 d16 o16 b16 l17
  have hu := unpack_wrd (h := !held) M w17 (hL.keep b17)
  go_wp2_with fail
  refine hu.mono ?_
  rintro e w18 ⟨rfl, l18⟩
  have c18 := c17.keep l18 c17.lt
  have d18 := d17.keep l18 d17.lt
  have o18 := o17.keep l18 o17.lt
  have b18 := b17.trans (l18.mono b17.size)
  clear hu c17 d17 o17 b17 l18
  have c19 := c18.putOther hne 0 k p r a t (!held)
  have d19 := d18.put 0 k p r a t (!held)
  have o19 := o18.putOther hoc.symm 0 k p r a t (!held)
  have b19 := below_put b18 hc0 0 k p r a t (!held)
  have y := d18.box
  obtain ⟨y0, y1, y2, y3, y4, y5, y6, f0, f1, f2, f3, f4, f5, f6⟩ := y
  go_upto_region 21 with fail
  clear y0 y1 y2 y3 y4 y5 y6 f0 f1 f2 f3 f4 f5 f6 c18 d18 o18 b18
  rw [put7_eq]
  generalize put7 w18 c 0 k p r a t (!held) = w19 at c19 d19 o19 b19 ⊢
  have x := c19.box
  obtain ⟨x0, x1, x2, x3, x4, x5, x6, -, -, -, -, -, -, -⟩ := x
  have y := d19.box
  obtain ⟨y0, y1, y2, y3, y4, y5, y6, -, -, -, -, -, -, -⟩ := y
  go_upto_region 23 with fail
  clear x0 x1 x2 x3 x4 x5 x6 y0 y1 y2 y3 y4 y5 y6
  have c20 := c19.put 0 k p r a t held
  have d20 := d19.putOther hne.symm 0 k p r a t held
  have o20 := o19.putOther hob.symm 0 k p r a t held
  have b20 := below_put b19 hb0 0 k p r a t held
  have y := o19.box
  obtain ⟨y0, y1, y2, y3, y4, y5, y6, -, -, -, -, -, -, -⟩ := y
  have x := c19.box
  obtain ⟨x0, x1, x2, x3, x4, x5, x6, f0, f1, f2, f3, f4, f5, f6⟩ := x
  go_upto_region 24 with fail
  clear x0 x1 x2 x3 x4 x5 x6 y0 y1 y2 y3 y4 y5 y6 f0 f1 f2 f3 f4 f5 f6 c19 d19 o19 b19
  rw [put7_eq]
  generalize put7 w19 b 0 k p r a t held = w20 at c20 d20 o20 b20 ⊢
  go_wp2_with fail
  refine (h7 _).mono ?_
  rintro e w' ⟨y, rfl, i0, i1, rfl⟩
  clear h7
  have c21 := c20.set1 (1 + y)
  have d21 := d20.other hne.symm 1 (.int .i64 (1 + y))
  have o21 := o20.other hob.symm 1 (.int .i64 (1 + y))
  have b21 := Below.setCell b20 hb0 (p := ⟨b, 1, none⟩) (.int .i64 (1 + y))
  have x1 := c20.box.h1
  have f1 := c20.box.f1
  go_upto_region 25 with fail
  clear x1 f1 c20 d20 o20 b20
  generalize (w20.setCell ⟨b, 1, none⟩ (.int .i64 (1 + y))) = w21 at c21 d21 o21 b21 ⊢
  obtain ⟨kx, hkx, Mx, hor⟩ : ∃ kx, wkind (wrd k p r a t held) (1 + y) = wrd kx p r a t held ∧ May kx p r a t ∧ ((((1 + y = 2 ∧ p < 1) ∨ (1 + y = 3 ∧ p < 2)) ∧ kx = k) ∨ (¬ ((1 + y = 2 ∧ p < 1) ∨ (1 + y = 3 ∧ p < 2)) ∧ kx = 1 + y)) := by
    by_cases bad : (1 + y = 2 ∧ p < 1) ∨ (1 + y = 3 ∧ p < 2)
    · exact ⟨k, wkind_no M bad, M, .inl ⟨bad, rfl⟩⟩
    · have My : May (1 + y) p r a t := ⟨by omega, by omega, fun h => bad (.inl h), fun h => bad (.inr h), q0, q1, r0, by omega, a0, by omega, t0, by omega⟩
      exact ⟨1 + y, wkind_wrd M My, My, .inr ⟨bad, rfl⟩⟩
  have Hor : Hid ((((1 + y = 2 ∧ p < 1) ∨ (1 + y = 3 ∧ p < 2)) ∧ kx = k) ∨ (¬ ((1 + y = 2 ∧ p < 1) ∨ (1 + y = 3 ∧ p < 2)) ∧ kx = 1 + y)) := hor
  clear hor
  have hwa := withkind_any (wrd k p r a t held) (wrd_wd M) (1 + y) w21 (hL.keep b21)
  rw [hkx] at hwa
  clear hkx
  have x1 := c21.box.h1
  go_wp2_with fail
  clear x1
  refine hwa.mono ?_
  rintro e w22 ⟨rfl, l22⟩
  have c22 := c21.keep l22 c21.lt
  have d22 := d21.keep l22 d21.lt
  have o22 := o21.keep l22 o21.lt
  have b22 := b21.trans (l22.mono b21.size)
  clear hwa c21 d21 o21 b21 l22
  have hu := unpack_wrd (h := held) Mx w22 (hL.keep b22)
  go_wp2_with fail
  refine hu.mono ?_
  rintro e w23 ⟨rfl, l23⟩
  have c23 := c22.keep l23 c22.lt
  have d23 := d22.keep l23 d22.lt
  have o23 := o22.keep l23 o22.lt
  have b23 := b22.trans (l23.mono b22.size)
  clear hu c22 d22 o22 b22 l23
  have c24 := c23.putOther hne 0 kx p r a t held
  have d24 := d23.put 0 kx p r a t held
  have o24 := o23.putOther hoc.symm 0 kx p r a t held
  have b24 := below_put b23 hc0 0 kx p r a t held
  have yy := d23.box
  obtain ⟨y0, y1, y2, y3, y4, y5, y6, f0, f1, f2, f3, f4, f5, f6⟩ := yy
  go_upto_region 26 with fail
  clear y0 y1 y2 y3 y4 y5 y6 f0 f1 f2 f3 f4 f5 f6 c23 d23 o23 b23
  rw [put7_eq]
  generalize put7 w23 c 0 kx p r a t held = w24 at c24 d24 o24 b24 ⊢
  go_cut [156] from 141 to 156 (fun v w' => v = .bool (decide ((1 + y = 2 ∧ p < 1) ∨ (1 + y = 3 ∧ p < 2))) ∧ w24 = w')
  case first =>
    clear Hor
    have x1 := c24.box.h1
    obtain rfl | rfl | rfl | rfl : y = 0 ∨ y = 1 ∨ y = 2 ∨ y = 3 := by omega
    · go_wp2
      go_meet
      exact ⟨by simp, rfl⟩
    · by_cases hp1 : p < 1
      · go_wp2
        go_meet
        exact ⟨by simp [hp1], rfl⟩
      · go_wp2
        go_meet
        exact ⟨by simp; omega, rfl⟩
    · by_cases hp1 : p < 2
      · go_wp2
        go_meet
        exact ⟨by simp [hp1], rfl⟩
      · go_wp2
        go_meet
        exact ⟨by simp; omega, rfl⟩
    · go_wp2
      go_meet
      exact ⟨by simp, rfl⟩
  case rest =>
  obtain ⟨rfl, rfl⟩ := hcut
  go_upto_if 156 with fail
  go_cut [] from 156 to 157 (fun w' => Cel w' b 0 kx p r a t held ∧ Cel w' c 0 kx p r a t held ∧ Below w.heap.size w w')
  case first =>
    have hor := Hor.out
    by_cases bad : (1 + y = 2 ∧ p < 1) ∨ (1 + y = 3 ∧ p < 2)
    · rw [decide_eq_true bad]
      obtain rfl : kx = k := by omega
      clear bad hor Hor
      have c25 := c24.put 0 kx p r a t held
      have d25 := d24.putOther hne.symm 0 kx p r a t held
      have b25 := below_put b24 hb0 0 kx p r a t held
      have yy := o24.box
      obtain ⟨y0, y1, y2, y3, y4, y5, y6, -, -, -, -, -, -, -⟩ := yy
      have x := c24.box
      obtain ⟨x0, x1, x2, x3, x4, x5, x6, f0, f1, f2, f3, f4, f5, f6⟩ := x
      go_wp2
      go_meet
      exact ⟨c25, d25, b25⟩
    · rw [decide_eq_false bad]
      obtain rfl : kx = 1 + y := by omega
      clear bad hor Hor
      go_wp2
      go_meet
      exact ⟨c24, d24, b24⟩
  case rest =>
  obtain ⟨c26, d26, b26⟩ := hcut
  clear c24 d24 o24 b24 Hor i0 i1
  generalize wc = w26 at *
  have x := c26.box
  obtain ⟨x0, x1, x2, x3, x4, x5, x6, -, -, -, -, -, -, -⟩ := x
  have y := d26.box
  obtain ⟨y0, y1, y2, y3, y4, y5, y6, -, -, -, -, -, -, -⟩ := y
  go_upto_region 30 with fail
  clear x0 x1 x2 x3 x4 x5 x6 y0 y1 y2 y3 y4 y5 y6 c26 d26 hne hc0 hob hoc ho0
  go_wp2_with fail
  refine (h8 _).mono ?_
  rintro e w' ⟨z, rfl, i0, i1, rfl⟩
  clear h8
  obtain ⟨n, hn⟩ : ∃ n, 1 + z = n := ⟨_, rfl⟩
  have n0 : 1 ≤ n := by omega
  have n1 : n ≤ 1099511627776 := by omega
  go_upto_region 31 with fail
  clear hn i0 i1
  have hL26 := hL.keep b26
  have g1 := forwarded_any (tg 2 n) (tg_wd n0 n1 (by decide) (by decide)) w26 hL26.b
  rw [tn_tg n0 n1 (by decide) (by decide), show decide (IsTag 2 (tg 2 n)) = true from decide_eq_true (tg_tag n0 n1 (by decide) (by decide))] at g1
  have g2 : ∀ i, _ := fun i => filled_any (tg 3 n) (tg_wd n0 n1 (by decide) (by decide)) (w26.drewN i) (hL26.b.drewN i)
  rw [tn_tg n0 n1 (by decide) (by decide), show decide (IsTag 3 (tg 3 n)) = true from decide_eq_true (tg_tag n0 n1 (by decide) (by decide))] at g2
  have g3 : ∀ i, _ := fun i => withage_any (tg 2 n) (tg_wd n0 n1 (by decide) (by decide)) 3 (w26.drewN i) (hL26.drewN i)
  rw [wage_tg n0 n1] at g3
  have g4 := forward_any n
  have g5 := filler_any n
  generalize tg 2 n = f at g1 g3 g4
  generalize tg 3 n = g at g2 g5
  go_wp2_with fail
  refine (g4 _).mono ?_
  rintro e w' ⟨rfl, rfl⟩
  go_wp2_with fail
  refine g1.mono ?_
  rintro e w' ⟨rfl, i, rfl⟩
  go_wp2_with fail
  refine (g5 _).mono ?_
  rintro e w' ⟨rfl, rfl⟩
  go_wp2_with fail
  refine (g2 _).mono ?_
  rintro e w' ⟨rfl, j, rfl⟩
  go_wp2_with fail
  refine (g4 _).mono ?_
  rintro e w' ⟨rfl, rfl⟩
  go_wp2_with fail
  refine (g3 _).mono ?_
  rintro e w27 ⟨rfl, l27⟩
  have b27 := (below_drewN b26 (i + j)).trans (l27.mono (below_drewN b26 (i + j)).size)
  go_wp2_with fail
  refine (g4 _).mono ?_
  rintro e w' ⟨rfl, rfl⟩
  go_wp2
  go_ret
  exact ⟨by first | rfl | simp, b27⟩

end Go.Proofs.YtoanmgnoonmkbaaDoor
