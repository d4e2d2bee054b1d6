import Derived.Test.YtlkengnefhhppaaGreatDoorPYd
set_option linter.unusedVariables false
set_option maxHeartbeats 8000000
set_option maxRecDepth 20000
namespace Go.Proofs.YtlkengnefhhppaaGreatDoor
open Go.RowKit Go.Shelf
structure Rx (w : World) (b : Nat) (g : Nat → Nat) (c : Cfg) (x : Tps) (sw : Bool) (ws : Nat → Int) (th : List Tng) : Prop where
 ra : Ra w b g c x sw ws
 hp : Hp c x ws th
section
variable {w w' : World} {b : Nat} {g : Nat → Nat} {c : Cfg} {x : Tps} {sw : Bool} {ws : Nat → Int} {th : List Tng}
theorem Rx.below (H : Rx w b g c x sw ws th) (l : Below w.heap.size w w') : Rx w' b g c x sw ws th := ⟨H.ra.below l, H.hp⟩
theorem Hp.wat_wd (H : Hp c x ws th) (a : Int) : Wd (wat c ws a) := by
 unfold wat
 split
 ·exact H.wd _
 ·exact ⟨by decide, by decide⟩
theorem Rx.head (H : Rx w b g c x sw ws th) {T : Tng} (hT : T ∈ th) : Calls Tryz.prog 75 #[.pointer (some ⟨b, 0, none⟩), .int .i64 T.at_] w fun e w' => e = .returned (.tuple #[hv T.s T.k T.p T.r T.a T.t T.h, .bool true]) ∧ Below w.heap.size w w' := by
 obtain ⟨-, -, -, -, -, -, -, hat, -, -, hw⟩ := H.hp.pos w hT
 obtain ⟨e1, e2, e3, e4, e5, e6, e7⟩ := H.hp.hl.hds T hT
 have := rhead_at b g c x sw ws T.at_ hat hw w H.ra
 simp only [hdv, e1, e2, e3, e4, e5, e6, e7] at this
 exact this
theorem Rx.head_not (H : Rx w b g c x sw ws th) (a : Int) (hn : ¬ At c x ws a) : Calls Tryz.prog 75 #[.pointer (some ⟨b, 0, none⟩), .int .i64 a] w fun e w' => e = .returned (.tuple #[hv 0 0 0 0 0 0 false, .bool false]) ∧ Below w.heap.size w w' :=
 rhead_nat b g c x sw ws a hn (H.hp.wat_wd a) w H.ra
theorem Rx.ptr (H : Rx w b g c x sw ws th) {T : Tng} (hT : T ∈ th) (f : Nat) (z : Int) (hz : T.ps[f]? = some z) : Calls Tryz.prog 132 #[.pointer (some ⟨b, 0, none⟩), .int .i64 T.at_, .int .i64 f] w fun e w' => e = .returned (.tuple #[.int .i64 z, .bool true]) ∧ Below w.heap.size w w' := by
 obtain ⟨-, -, -, -, -, -, -, hat, e1, -, hw⟩ := H.hp.pos w hT
 obtain ⟨h1, h2⟩ := H.hp.hl.psv T hT f z hz
 have hf := (List.getElem?_eq_some_iff.1 hz).1
 have hn := H.hp.hl.psn T hT
 have := rptr_yes b g c x sw ws T.at_ f hat (by omega) (by rw [e1]; omega) (by rw [h1]; exact h2) H.hp.wat_wd w H.ra
 rw [h1] at this
 exact this
theorem Rx.setHead (H : Rx w b g c x sw ws th) (i : Nat) (T : Tng) (hTi : th[i]? = some T) (h : Bool) : Calls Tryz.prog 162 #[.pointer (some ⟨b, 0, none⟩), .int .i64 T.at_, hv T.s T.k T.p T.r T.a T.t h] w fun e w' => e = .returned (.bool true) ∧ Touch (rft b g) w w' ∧ Rx w' b g c x sw (upd (upd ws T.at_.toNat (wrd T.k T.p T.r T.a T.t h)) (T.at_.toNat + 1) T.s) (th.set i { T with h := h }) := by
 have hp := H.hp.head w i T hTi h
 have hm := List.mem_of_getElem? hTi
 obtain ⟨p1, -, -, -, -, -, -, hat, e1, e2, hw⟩ := H.hp.pos w hm
 obtain ⟨hfl, hsd⟩ := H.hp.may w hm
 have := rsetHead_yes b g c x sw ws T.at_ T.s T.k T.a T.t h hat (by rw [e1, e2]; exact hfl) hw w H.ra
 rw [e1, e2, show (T.at_ + 1).toNat = T.at_.toNat + 1 by omega] at this
 refine this.mono ?_
 rintro e w' ⟨rfl, hA, t⟩
 exact ⟨rfl, t, hA, hp⟩
theorem r6Holds_at (H : Rx w b g c x sw ws th) {T : Tng} (hT : T ∈ th) : Calls Tryz.prog 67 #[.pointer (some ⟨b, 0, none⟩), .int .i64 T.at_] w fun e w' => e = .returned (.bool (hyT c sw T)) ∧ Below w.heap.size w w' := by
 have hh := H.head hT
 have HR : Hid (Rx w b g c x sw ws th) := H
 have hpn := H.hp.hl.psn T hT
 have hps := H.hp.pos w hT
 have HT : Hid (T ∈ th) := hT
 have HP : Hid ((T.ps.length : Int) = T.p ∧ T.p ≤ 4095) := ⟨hpn, hps.2.2.2.2.1⟩
 have hp0 : 0 ≤ T.p ∧ T.p ≤ 4095 := ⟨hps.2.2.1, hps.2.2.2.2.1⟩
 clear H hT hpn hps
 go_enter Tryz.func67, Tryz.ntmps67
 go_wp2_with fail
 refine hh.mono ?_
 rintro e w2 ⟨rfl, l2⟩
 clear hh
 go_upto_region 2 with fail
 have l3 := Below.alloc l2 l2.size (.cells (hcells T.s T.k T.p T.r T.a T.t T.h) 38)
 have hy : (w2.alloc (.cells (hcells T.s T.k T.p T.r T.a T.t T.h) 38)).cell? ⟨w2.heap.size, 2, none⟩ = some (.int .i64 T.p) := cell_of_row _ _ 2 _ _ _ (heap_alloc_new w2 (.cells (hcells T.s T.k T.p T.r T.a T.t T.h) 38 (0, 0)))
 generalize w2.alloc (.cells (hcells T.s T.k T.p T.r T.a T.t T.h) 38) = w3 at *
 generalize w2.heap.size = R at *
 clear l2
 have HY3 : Hid (Below w3.heap.size w3 w3) := Below.refl _ _
 go_wp2
 go_loopw [7] (fun v7 wr => ∃ k : Nat, (k : Int) ≤ T.p ∧ v7 = .int .i64 k ∧ Hid (∀ f z, f < k → T.ps[f]? = some z → yg c sw z = false) ∧ Below w.heap.size w wr ∧ wr.cell? ⟨R, 2, none⟩ = some (.int .i64 T.p)) (fun v7 _ => T.p.toNat - (intOf v7).toNat)
 case atStart => exact ⟨0, by omega, rfl, (fun f z hf => by omega : ∀ f z, f < 0 → T.ps[f]? = some z → yg c sw z = false), l3, hy⟩
 case round =>
  obtain ⟨k, hk, rfl, HY, lr, hr⟩ := hrel
  clear l3 hy HY3
  have HR2 : Hid (Rx wr b g c x sw ws th) := HR.out.below lr
  by_cases hkl : (k : Int) < T.p
  ·have hkl2 : k < T.ps.length := by have := HP.out; omega
   have hzk : T.ps[k]? = some (T.ps[k]'hkl2) := List.getElem?_eq_getElem hkl2
   generalize T.ps[k]'hkl2 = z at hzk
   have Hzk : Hid (T.ps[k]? = some z) := hzk
   have hp := HR2.out.ptr HT.out k z hzk
   clear hzk hkl2
   go_wp2_with fail
   refine hp.mono ?_
   rintro e w5 ⟨rfl, l5⟩
   have HR5 : Hid (Rx w5 b g c x sw ws th) := HR2.out.below l5
   have lr5 := lr.trans (l5.mono lr.size)
   have hr5 := (l5.cell (World.block_lt_of_cell? _ _ hr)).trans hr
   clear hp HR2 l5 lr hr
   have hyo := ryoung_any b g c x sw ws z w5 HR5.out.ra
   have hyo' : Calls Tryz.prog 114 #[.pointer (some ⟨b, 0, none⟩), .int .i64 z] w5 fun e w' => e = .returned (.bool (yg c sw z)) ∧ Below w5.heap.size w5 w' := hyo
   clear hyo
   cases hyz : yg c sw z
   ·rw [hyz] at hyo'
    have HY2 : Hid (∀ f z, f < k + 1 → T.ps[f]? = some z → yg c sw z = false) := fun f y hf hy => by
     by_cases e : f = k
     ·subst e
      rw [Hzk.out] at hy
      simp at hy
      rw [← hy]
      exact hyz
     ·exact HY.out f y (by omega) hy
    clear hyz HY Hzk
    go_wp2_with fail
    refine hyo'.mono ?_
    rintro e w6 ⟨rfl, l6⟩
    have lr6 := lr5.trans (l6.mono lr5.size)
    have hr6 := (l6.cell (World.block_lt_of_cell? _ _ hr5)).trans hr5
    clear hyo' HR5 l6 lr5 hr5
    go_wp2
    go_roundw
    case rel => exact ⟨k + 1, by omega, by go_num, HY2, lr6, hr6⟩
    case measure => simp [intOf]; omega
   ·rw [hyz] at hyo'
    have HE : Hid (hyT c sw T = true) := by
     show hyT c sw T = true
     unfold hyT
     rw [List.any_eq_true]
     exact ⟨z, List.mem_of_getElem? Hzk.out, hyz⟩
    clear hyz HY Hzk
    go_wp2_with fail
    refine hyo'.mono ?_
    rintro e w6 ⟨rfl, l6⟩
    have lr6 := lr5.trans (l6.mono lr5.size)
    clear hyo' HR5 l6 lr5 hr5
    go_wp2
    go_ret
    exact ⟨by rw [HE.out]; rfl, lr6⟩
  ·have HE : Hid (hyT c sw T = false) := by
    show hyT c sw T = false
    unfold hyT
    rw [List.any_eq_false]
    intro z hz
    obtain ⟨f, hf⟩ := List.getElem?_of_mem hz
    have := (List.getElem?_eq_some_iff.1 hf).1
    rw [HY.out f z (by have := HP.out; omega) hf]
    simp
   clear HY
   go_wp2
   go_ret
   exact ⟨by rw [HE.out]; rfl, lr⟩
theorem r6Holds_not (H : Rx w b g c x sw ws th) (a : Int) (hn : ¬ At c x ws a) : Calls Tryz.prog 67 #[.pointer (some ⟨b, 0, none⟩), .int .i64 a] w fun e w' => e = .returned (.bool false) ∧ Below w.heap.size w w' := by
 have hh := H.head_not a hn
 clear H hn
 go_enter Tryz.func67, Tryz.ntmps67
 go_wp2_with fail
 refine hh.mono ?_
 rintro e w2 ⟨rfl, l2⟩
 clear hh
 go_upto_region 2 with fail
 have l3 := Below.alloc l2 l2.size (.cells (hcells 0 0 0 0 0 0 false) 38)
 have hy : (w2.alloc (.cells (hcells 0 0 0 0 0 0 false) 38)).cell? ⟨w2.heap.size, 2, none⟩ = some (.int .i64 0) := cell_of_row _ _ 2 _ _ _ (heap_alloc_new w2 (.cells (hcells 0 0 0 0 0 0 false) 38 (0, 0)))
 generalize w2.alloc (.cells (hcells 0 0 0 0 0 0 false) 38) = w3 at *
 generalize w2.heap.size = R at *
 clear l2
 go_wp2
 go_loopw [7] (fun v7 wr => v7 = .int .i64 0 ∧ wr = w3) (fun _ _ => 0)
 case atStart => exact ⟨rfl, rfl⟩
 case round =>
  obtain ⟨rfl, rfl⟩ := hrel
  go_wp2
  go_ret
  exact ⟨rfl, l3⟩
end
theorem r6has_any (n1 : Nat) (v : Value) (xs : List Int) (a : Int) (w : World) (h : Lrd n1 w v .i64 xs) (hl : xs.length < 8796093022208) : Calls Tryz.prog 70 #[v, .int .i64 a] w fun e w' => e = .returned (.bool (decide (a ∈ xs))) ∧ w' = w := by
 obtain ⟨av, cap, rfl, hcap, hcells⟩ := h
 go_enter Tryz.func70, Tryz.ntmps70
 go_wp2
 go_loopw [5] (fun v5 wr => ∃ k : Nat, k ≤ xs.length ∧ v5 = .int .i64 k ∧ Hid (∀ j y, j < k → xs[j]? = some y → y ≠ a) ∧ wr = w) (fun v5 _ => xs.length - (intOf v5).toNat)
 case atStart => exact ⟨0, Nat.zero_le _, rfl, (fun j y hj => by omega : ∀ j y, j < 0 → xs[j]? = some y → y ≠ a), rfl⟩
 case round =>
  obtain ⟨k, hk, rfl, HN, rfl⟩ := hrel
  by_cases hkl : k < xs.length
  ·have hz := List.getElem?_eq_getElem hkl
   generalize xs[k]'hkl = z at hz
   obtain ⟨q, o, rfl, hq, hc⟩ := hcells k z hz
   have Hz : Hid (xs[k]? = some z) := hz
   have hkI : (k : Int) < (xs.length : Int) := by omega
   by_cases e : z = a
   ·have HE : Hid (decide (a ∈ xs) = true) := by
     show decide (a ∈ xs) = true
     rw [decide_eq_true_eq, ← e]
     exact List.mem_of_getElem? Hz.out
    have e' : (z == a) = true := by simpa using e
    clear hz hcells
    go_wp2
    go_ret
    exact by rw [HE.out]; exact ⟨rfl, rfl⟩
   ·have HN2 : Hid (∀ j y, j < k + 1 → xs[j]? = some y → y ≠ a) := fun j y hj hy => by
     by_cases e2 : j = k
     ·subst e2
      rw [Hz.out] at hy
      simp at hy
      rw [← hy]
      exact e
     ·exact HN.out j y (by omega) hy
    have e' : (z == a) = false := by simpa using e
    clear hz
    go_wp2
    go_roundw
    case rel => exact ⟨k + 1, by omega, by go_num, HN2, trivial⟩
    case measure => simp [intOf]; omega
  ·have hkI : ¬ (k : Int) < (xs.length : Int) := by omega
   have HE : Hid (decide (a ∈ xs) = false) := by
    show decide (a ∈ xs) = false
    rw [decide_eq_false_iff_not]
    intro hm
    obtain ⟨j, hj⟩ := List.getElem?_of_mem hm
    exact HN.out j a (by have := (List.getElem?_eq_some_iff.1 hj).1; omega) hj rfl
   clear hcells
   go_wp2
   go_ret
   exact by rw [HE.out]; exact ⟨rfl, rfl⟩
structure Dx (w : World) (vb b : Nat) (g : Nat → Nat) (lv : Value) (c : Cfg) (x : Tps) (sw : Bool) (ws : Nat → Int) (th : List Tng) (l : List Int) : Prop where
 rx : Rx w b g c x sw ws th
 own : w.heap[vb]? = some (.cells #[.pointer (some ⟨b, 0, none⟩), lv] 110 (0, 0))
 row : w.ownsRow 0 3 1 lv l.length (ints l)
section
variable {w w' : World} {vb b : Nat} {g : Nat → Nat} {lv : Value} {c : Cfg} {x : Tps} {sw : Bool} {ws : Nat → Int} {th : List Tng} {l : List Int}
theorem Dx.cell (H : Dx w vb b g lv c x sw ws th l) (j : Nat) : w.cell? ⟨vb, j, none⟩ = (#[.pointer (some ⟨b, 0, none⟩), lv] : Array Value)[j]? := cell_of_row _ _ j _ _ _ H.own
theorem Dx.lt (H : Dx w vb b g lv c x sw ws th l) : vb < w.heap.size := (Array.getElem?_eq_some_iff.1 H.own).1
theorem Dx.below (H : Dx w vb b g lv c x sw ws th l) (l0 : Below w.heap.size w w') : Dx w' vb b g lv c x sw ws th l :=
 ⟨H.rx.below l0, (l0.block vb H.lt).trans H.own, row_keep H.row (fun q hq => l0.block q (row_lt H.row q hq))⟩
theorem Dx.apart (H : Dx w vb b g lv c x sw ws th l) : vb ∉ rft b g ∧ ∀ q, lv.ownBlock = some q → q ∉ rft b g := by
 obtain ⟨cs, h0, -, -⟩ := H.rx.ra.own
 obtain ⟨d1, h1, -, -⟩ := H.rx.ra.row 1 (by omega) (by omega)
 obtain ⟨d2, h2, -, -⟩ := H.rx.ra.row 2 (by omega) (by omega)
 obtain ⟨d3, h3, -, -⟩ := H.rx.ra.row 3 (by omega) (by omega)
 obtain ⟨d4, h4, -, -⟩ := H.rx.ra.row 4 (by omega) (by omega)
 simp only [rft, List.mem_cons, List.not_mem_nil, or_false, not_or]
 refine ⟨⟨heap_ty_ne H.own h0 (by decide), heap_ty_ne H.own h1 (by decide), heap_ty_ne H.own h2 (by decide), heap_ty_ne H.own h3 (by decide), heap_ty_ne H.own h4 (by decide)⟩, fun q hq => ⟨fun e => row_ne h0 H.row (by decide) (by rw [← e]; exact hq.symm), fun e => row_ne h1 H.row (by decide) (by rw [← e]; exact hq.symm), fun e => row_ne h2 H.row (by decide) (by rw [← e]; exact hq.symm), fun e => row_ne h3 H.row (by decide) (by rw [← e]; exact hq.symm), fun e => row_ne h4 H.row (by decide) (by rw [← e]; exact hq.symm)⟩⟩
theorem Dx.next {x' : Tps} {sw' : Bool} {ws' : Nat → Int} {th' : List Tng} (H : Dx w vb b g lv c x sw ws th l) (t : Touch (rft b g) w w') (hR : Rx w' b g c x' sw' ws' th') : Dx w' vb b g lv c x' sw' ws' th' l :=
 ⟨hR, (t.block vb H.lt H.apart.1).trans H.own, row_keep H.row (fun q hq => t.block q (row_lt H.row q hq) (H.apart.2 q hq))⟩
theorem r6mark_at (H : Dx w vb b g lv c x sw ws th l) (i : Nat) (T : Tng) (hTi : th[i]? = some T) (d : Bool) : Calls Tryz.prog 115 #[.pointer (some ⟨vb, 0, none⟩), .int .i64 T.at_, .bool d] w fun e w' => e = .returned (.tuple #[]) ∧ Touch (rft b g) w w' ∧ Dx w' vb b g lv c x sw (upd (upd ws T.at_.toNat (wrd T.k T.p T.r T.a T.t d)) (T.at_.toNat + 1) T.s) (th.set i { T with h := d }) l := by
 have hT := List.mem_of_getElem? hTi
 have k0 : w.cell? ⟨vb, 0, none⟩ = some (.pointer (some ⟨b, 0, none⟩)) := H.cell 0
 have hh := H.rx.head hT
 have HR : Hid (Dx w vb b g lv c x sw ws th l) := H
 have HT : Hid (th[i]? = some T) := hTi
 clear H hT hTi
 go_enter Tryz.func115, Tryz.ntmps115
 go_wp2_with fail
 refine hh.mono ?_
 rintro e w2 ⟨rfl, l2⟩
 clear hh k0
 go_upto_region 1 with fail
 have l3 := Below.alloc l2 l2.size (.cells (hcells T.s T.k T.p T.r T.a T.t T.h) 38)
 have hX := Box.new w2 38 (.int .u64 T.s) (.int .i64 T.k) (.int .i64 T.p) (.int .i64 T.r) (.int .i64 T.a) (.int .i64 T.t) (.bool T.h)
 have hRge : w.heap.size ≤ w2.heap.size := l2.size
 generalize w2.alloc (.cells (hcells T.s T.k T.p T.r T.a T.t T.h) 38) = w4 at *
 generalize w2.heap.size = R at *
 clear l2
 have l5 : Below w.heap.size w (w4.setCell ⟨R, 6, none⟩ (.bool d)) := Below.setCell (p := ⟨R, 6, none⟩) l3 hRge _
 have HR5 : Hid (Dx (w4.setCell ⟨R, 6, none⟩ (.bool d)) vb b g lv c x sw ws th l) := HR.out.below l5
 have L5 : Hid (Below w.heap.size w (w4.setCell ⟨R, 6, none⟩ (.bool d))) := l5
 obtain ⟨x0, x1, x2, x3, x4, x5, x6, f0, f1, f2, f3, f4, f5, f6⟩ := hX
 have hne : ∀ j : Nat, j ≠ 6 → (w4.setCell ⟨R, 6, none⟩ (.bool d)).cell? ⟨R, j, none⟩ = w4.cell? ⟨R, j, none⟩ := fun j hj => by
  refine World.cell?_setCell_other _ _ _ _ (fun e => hj ?_)
  injection e with _ e2
  exact e2.symm
 have y0 := (hne 0 (by decide)).trans x0
 have y1 := (hne 1 (by decide)).trans x1
 have y2 := (hne 2 (by decide)).trans x2
 have y3 := (hne 3 (by decide)).trans x3
 have y4 := (hne 4 (by decide)).trans x4
 have y5 := (hne 5 (by decide)).trans x5
 have y6 : (w4.setCell ⟨R, 6, none⟩ (.bool d)).cell? ⟨R, 6, none⟩ = some (.bool d) := World.cell?_setCell_same _ _ _ x6
 clear hne l3 x0 x1 x2 x3 x4 x5 f0 f1 f2 f3 f4 f5 l5
 go_upto_region 3 with fail
 clear x6 f6
 generalize w4.setCell ⟨R, 6, none⟩ (.bool d) = w5 at *
 have k0 : w5.cell? ⟨vb, 0, none⟩ = some (.pointer (some ⟨b, 0, none⟩)) := HR5.out.cell 0
 have bd : Below w5.heap.size w5 w5.drew := below_drewN (Below.refl _ _) 1
 have HR6 : Hid (Dx w5.drew vb b g lv c x sw ws th l) := HR5.out.below bd
 have hc := HR6.out.rx.setHead i T HT.out d
 have L6 : Hid (Touch (rft b g) w w5.drew) := Touch.of_below (L5.out.trans (bd.mono L5.out.size)) _
 clear bd HR5 HR L5
 refine quiet_tail 6 mixed (by kernel_rfl) ?_
 simp only [List.take_succ_cons, List.take_zero, List.drop_succ_cons, List.drop_zero]
 repeat (go_big_quiet_step (fail))
 refine wpQuiet_nil ?_
 go_wp2_with fail
 refine hc.mono ?_
 rintro e w6 ⟨rfl, t6, R6⟩
 have HR7 : Hid (Dx w6 vb b g lv c x sw (upd (upd ws T.at_.toNat (wrd T.k T.p T.r T.a T.t d)) (T.at_.toNat + 1) T.s) (th.set i { T with h := d }) l) := HR6.out.next t6 R6
 clear hc k0 y0 y1 y2 y3 y4 y5 y6
 go_wp2
 go_end0
 exact ⟨rfl, L6.out.trans t6, HR7.out⟩
theorem r6mark_not (H : Dx w vb b g lv c x sw ws th l) (a : Int) (hn : ¬ At c x ws a) (d : Bool) : Calls Tryz.prog 115 #[.pointer (some ⟨vb, 0, none⟩), .int .i64 a, .bool d] w fun e w' => e = .returned (.tuple #[]) ∧ Below w.heap.size w w' := by
 have k0 : w.cell? ⟨vb, 0, none⟩ = some (.pointer (some ⟨b, 0, none⟩)) := H.cell 0
 have hh := H.rx.head_not a hn
 clear H hn
 go_enter Tryz.func115, Tryz.ntmps115
 go_wp2_with fail
 refine hh.mono ?_
 rintro e w2 ⟨rfl, l2⟩
 clear hh k0
 go_upto_region 1 with fail
 have l3 := Below.alloc l2 l2.size (.cells (hcells 0 0 0 0 0 0 false) 38)
 generalize w2.alloc (.cells (hcells 0 0 0 0 0 0 false) 38) = w3 at *
 go_wp2
 go_end0
 exact ⟨rfl, l3⟩
theorem r6New_any (H : Rx w b g c x sw ws th) : Calls Tryz.prog 18 #[.pointer (some ⟨b, 0, none⟩)] w fun e w' => ∃ vb, e = .returned (.pointer (some ⟨vb, 0, none⟩)) ∧ w.heap.size ≤ vb ∧ Below w.heap.size w w' ∧ Dx w' vb b g (.slice none 0 0) c x sw ws th [] := by
 have HR : Hid (Rx w b g c x sw ws th) := H
 have b0 := Below.alloc (Below.refl w.heap.size w) (Nat.le_refl _) (.cells #[.pointer (some ⟨b, 0, none⟩), .slice none 0 0] 110)
 clear H
 go_enter Tryz.func18, Tryz.ntmps18
 go_wp2
 go_ret
 exact ⟨_, rfl, Nat.le_refl _, b0, HR.out.below b0, heap_alloc_new w _, ⟨by simp, .inl ⟨rfl, rfl⟩⟩⟩
end
def Kh (th : List Tng) (ws ws' : Nat → Int) : Prop := ∀ y : Nat, (∀ T, T ∈ th → (y : Int) ≠ T.at_) → ws' y = ws y
theorem Kh.refl (th : List Tng) (ws : Nat → Int) : Kh th ws ws := fun _ _ => rfl
theorem Kh.trans {th : List Tng} {a b d : Nat → Int} (h : Kh th a b) (k : Kh th b d) : Kh th a d := fun y hy => (k y hy).trans (h y hy)
theorem Kh.keep {c : Cfg} {x : Tps} {ws0 ws ws' : Nat → Int} {th : List Tng} (h : Kh th ws ws') (H : Hp c x ws0 th) (w : World) : Keep th ws ws' := fun y hy => h y fun T hT e => by
 have := H.pos w hT
 rcases hy T hT with h1 | h1 <;> omega
theorem Kh.wat {c : Cfg} {ws ws' : Nat → Int} {th : List Tng} (h : Kh th ws ws') (a : Int) (ha : ∀ T, T ∈ th → T.at_ ≠ a) : wat c ws' a = wat c ws a := by
 unfold Go.Proofs.YtlkengnefhhppaaGreatDoor.wat
 split
 ·rename_i hc
  exact h _ fun T hT e => ha T hT (by omega)
 ·rfl
theorem Kh.not {c : Cfg} {x : Tps} {ws ws' : Nat → Int} {th : List Tng} (h : Kh th ws ws') (a : Int) (ha : ∀ T, T ∈ th → T.at_ ≠ a) (hn : ¬ At c x ws a) : ¬ At c x ws' a := by
 intro k
 apply hn
 obtain ⟨k1, k2, k3⟩ := k
 refine ⟨k1, k2, ?_⟩
 unfold Stands osz at k3 ⊢
 rw [h.wat a ha] at k3
 exact k3
theorem kh_head {c : Cfg} {x : Tps} {ws : Nat → Int} {th th' : List Tng} (H : Hp c x ws th) (w : World) {T : Tng} (hT : T ∈ th) (hT' : ∃ U, U ∈ th' ∧ U.at_ = T.at_) (m : Int) : Kh th' ws (upd (upd ws T.at_.toNat m) (T.at_.toNat + 1) T.s) := fun y hy => by
 have p := H.pos w hT
 have hs := (H.hl.hds T hT).1
 obtain ⟨U, hU, hUa⟩ := hT'
 unfold upd
 by_cases e : y = T.at_.toNat + 1
 ·rw [if_pos e, e, ← hs, show T.at_ + 1 = ((T.at_.toNat + 1 : Nat) : Int) by omega, wat_in (by omega)]
 ·rw [if_neg e, if_neg]
  intro e2
  exact hy U hU (by omega)
theorem mk_mem {q : Int → Bool} {ns : List Int} {th : List Tng} {T : Tng} (h : T ∈ mk_ q ns th) : ∃ U, U ∈ th ∧ U.at_ = T.at_ := by
 unfold mk_ at h
 obtain ⟨U, hU, rfl⟩ := List.mem_map.1 h
 exact ⟨U, hU, by split <;> rfl⟩
theorem mk_out (q : Int → Bool) (ns : List Int) (th : List Tng) (a : Int) (ha : ∀ T, T ∈ th → T.at_ ≠ a) : mk_ q (ns ++ [a]) th = mk_ q ns th := by
 unfold mk_
 apply List.map_congr_left
 intro T hT
 have := ha T hT
 simp [this]
theorem mk_ats {q : Int → Bool} {ns : List Int} {th : List Tng} {T : Tng} (h : T ∈ th) : ∃ U, U ∈ mk_ q ns th ∧ U.at_ = T.at_ :=
 ⟨_, List.mem_map.2 ⟨T, h, rfl⟩, by split <;> rfl⟩
theorem Kh.of_mk {q : Int → Bool} {ns : List Int} {th : List Tng} {a d : Nat → Int} (h : Kh (mk_ q ns th) a d) : Kh th a d := fun y hy => h y fun T hT => by
 obtain ⟨U, hU, e⟩ := mk_mem hT
 rw [← e]
 exact hy U hU
def Adr (c : Cfg) (x : Tps) (ws : Nat → Int) (th : List Tng) (a : Int) : Prop := (∃ T, T ∈ th ∧ T.at_ = a) ∨ ((∀ T, T ∈ th → T.at_ ≠ a) ∧ ¬ At c x ws a)
theorem Adr.kh {c : Cfg} {x : Tps} {ws ws' : Nat → Int} {th : List Tng} {a : Int} (h : Adr c x ws th a) (k : Kh th ws ws') : Adr c x ws' th a := by
 rcases h with h | ⟨h1, h2⟩
 ·exact .inl h
 ·exact .inr ⟨h1, k.not a h1 h2⟩
theorem Adr.mk {c : Cfg} {x : Tps} {ws : Nat → Int} {th : List Tng} {a : Int} (h : Adr c x ws th a) (q : Int → Bool) (ns : List Int) : Adr c x ws (mk_ q ns th) a := by
 rcases h with ⟨T, hT, rfl⟩ | ⟨h1, h2⟩
 ·obtain ⟨U, hU, e⟩ := mk_ats (q := q) (ns := ns) hT
  exact .inl ⟨U, hU, e⟩
 ·exact .inr ⟨fun T hT => by obtain ⟨U, hU, e⟩ := mk_mem hT; rw [← e]; exact h1 U hU, h2⟩
section
variable {w w' : World} {vb b : Nat} {g : Nat → Nat} {lv : Value} {c : Cfg} {x : Tps} {sw : Bool} {ws ws0 : Nat → Int} {th : List Tng} {l : List Int}
theorem r6mark_mk (H0 : Hp c x ws0 th) (q : Int → Bool) (ns : List Int) (H : Dx w vb b g lv c x sw ws (mk_ q ns th) l) (a : Int) (ha : Adr c x ws th a) : Calls Tryz.prog 115 #[.pointer (some ⟨vb, 0, none⟩), .int .i64 a, .bool (q a)] w fun e w' => e = .returned (.tuple #[]) ∧ Touch (rft b g) w w' ∧ ∃ ws', Kh th ws ws' ∧ Dx w' vb b g lv c x sw ws' (mk_ q (ns ++ [a]) th) l := by
 rcases ha with ⟨T, hT, rfl⟩ | ⟨h1, h2⟩
 ·obtain ⟨i, hi⟩ := List.getElem?_of_mem hT
  have hU : (mk_ q ns th)[i]? = some (if T.at_ ∈ ns then { T with h := q T.at_ } else T) := by rw [mk_at, hi]; rfl
  generalize hUe : (if T.at_ ∈ ns then { T with h := q T.at_ } else T) = U at hU
  have hUa : U.at_ = T.at_ := by rw [← hUe]; split <;> rfl
  have hset := mk_snoc H0.hl q ns i T U hi hU
  have hmk := r6mark_at H i U hU (q T.at_)
  have hkh := kh_head (th' := th) H.rx.hp w (List.mem_of_getElem? hU) ⟨T, hT, hUa.symm⟩ (wrd U.k U.p U.r U.a U.t (q T.at_))
  rw [hset, hUa] at hmk
  rw [hUa] at hkh
  refine hmk.mono ?_
  rintro e w' ⟨h3, h4, h5⟩
  exact ⟨h3, h4, _, hkh, h5⟩
 ·refine (r6mark_not H a h2 (q a)).mono ?_
  rintro e w' ⟨h3, h4⟩
  refine ⟨h3, Touch.of_below h4 _, ws, Kh.refl _ _, ?_⟩
  rw [mk_out q ns th a h1]
  exact H.below h4
theorem Dx.setL {nv : Value} {l' : List Int} (H : Dx w vb b g lv c x sw ws th l) (hr : w.ownsRow 0 3 1 nv l'.length (ints l')) : Dx (w.setCell ⟨vb, 1, none⟩ nv) vb b g nv c x sw ws th l' ∧ Touch [vb] w (w.setCell ⟨vb, 1, none⟩ nv) := by
 have t : Touch [vb] w (w.setCell ⟨vb, 1, none⟩ nv) := Touch.setCell _ _ _ (by simp)
 have hap := H.apart.1
 refine ⟨⟨⟨H.rx.ra.touch t (fun q hq hm => hap (by simp at hm; rw [← hm]; exact hq)), H.rx.hp⟩, ?_, row_keep hr (fun q hq => t.block q (row_lt hr q hq) (by simp; exact fun e => row_ne H.own hr (by decide) (by rw [← e]; exact hq.symm)))⟩, t⟩
 simp [World.setCell, Array.getElem?_modify, H.own]
theorem r6laid_any (H : Dx w vb b g lv c x sw ws th l) (nv ov : Value) (nl os : List Int) (hr : w.ownsRow 0 3 1 nv nl.length (ints nl)) (ho : w.ownsRow 0 3 1 ov os.length (ints os)) (hnl : ∀ a, a ∈ nl → Adr c x ws th a) (hos : ∀ a, a ∈ os → Adr c x ws th a) (h1 : nl.length < 4398046511104) (h2 : os.length < 4398046511104) :
  Calls Tryz.prog 68 #[.pointer (some ⟨vb, 0, none⟩), nv, ov] w fun e w' => e = .returned (.tuple #[]) ∧ Touch (vb :: rft b g) w w' ∧ ∃ ws', Kh th ws ws' ∧ Dx w' vb b g nv c x sw ws' (mk_ (fun _ => true) nl (mk_ (fun _ => false) (os.filter (fun a => !decide (a ∈ nl))) th)) nl := by
 have H0 : Hid (Hp c x ws th) := H.rx.hp
 obtain ⟨D1, t1⟩ := H.setL hr
 have HD1 : Hid (Dx (w.setCell ⟨vb, 1, none⟩ nv) vb b g nv c x sw ws th nl) := D1
 have HT1 : Hid (Touch (vb :: rft b g) w (w.setCell ⟨vb, 1, none⟩ nv)) := t1.wide (fun y hy => by simp at hy; simp [hy])
 have Hr1 : Hid ((w.setCell ⟨vb, 1, none⟩ nv).ownsRow 0 3 1 ov os.length (ints os)) := row_keep ho (fun q hq => t1.block q (row_lt ho q hq) (by simp; exact fun e => row_ne H.own ho (by decide) (by rw [← e]; exact hq.symm)))
 have k1 : w.cell? ⟨vb, 1, none⟩ = some lv := H.cell 1
 have f1 : w.frozen? ⟨vb, 1, none⟩ = false := by
  unfold World.frozen?
  simp only [H.own]
  simp
 have Hnl : Hid (∀ a, a ∈ nl → Adr c x ws th a) := hnl
 have Hos : Hid (∀ a, a ∈ os → Adr c x ws th a) := hos
 obtain ⟨av, cap, hov, hcap, -⟩ := row_at ho (by decide)
 obtain ⟨an, capn, hnv, hcapn, -⟩ := row_at hr (by decide)
 subst hov hnv
 clear H D1 t1 hr ho hnl hos
 go_enter Tryz.func68, Tryz.ntmps68
 go_upto_region 1 with fail
 clear k1 f1
 have hs0 : (w.setCell ⟨vb, 1, none⟩ (.slice an nl.length capn)).heap.size = w.heap.size := by simp [World.setCell]
 generalize w.setCell ⟨vb, 1, none⟩ (.slice an nl.length capn) = w0 at *
 have Hlk : Hid (∀ wr ws' th', Dx wr vb b g (.slice an nl.length capn) c x sw ws' th' nl → ∀ a, Calls Tryz.prog 70 #[.slice an nl.length capn, .int .i64 a] wr fun e w' => e = .returned (.bool (decide (a ∈ nl))) ∧ w' = wr) := fun wr ws' th' hD a => r6has_any _ _ nl a wr (Lrd.of_row hD.row) (by omega)
 clear hs0
 go_wp2
 go_loopw [6] (fun v6 wr => ∃ j : Nat, j ≤ os.length ∧ v6 = .int .i64 j ∧ ∃ ws', Hid (Kh th ws ws') ∧ Hid (Dx wr vb b g (.slice an nl.length capn) c x sw ws' (mk_ (fun _ => false) ((os.take j).filter (fun a => !decide (a ∈ nl))) th) nl) ∧ Hid (wr.ownsRow 0 3 1 (.slice av os.length cap) os.length (ints os)) ∧ Hid (Touch (vb :: rft b g) w wr)) (fun v6 _ => os.length - (intOf v6).toNat)
 case atStart => exact ⟨0, Nat.zero_le _, rfl, ws, Kh.refl th ws, (by
   show Dx _ _ _ _ _ _ _ _ _ _ _
   rw [List.take_zero, List.filter_nil, mk_nil]
   exact HD1.out), Hr1, HT1⟩
 case round =>
  obtain ⟨j, hj, rfl, ws1, HK, HD, Hr, HT⟩ := hrel
  clear HD1 Hr1 HT1
  by_cases hjl : j < os.length
  ·have haj : os[j]? = some (os[j]'hjl) := List.getElem?_eq_getElem hjl
   generalize os[j]'hjl = a at haj
   have ham := List.mem_of_getElem? haj
   obtain ⟨qa, ea, ca⟩ : ∃ qa, av = some ⟨qa, 0, none⟩ ∧ wr.cell? ⟨qa, j, none⟩ = some (.int .i64 a) := by
    obtain ⟨a0, cp, h1, -, h3⟩ := row_at Hr.out (by decide)
    simp at h1
    obtain ⟨y, h4, -, h5⟩ := h3 j (.int .i64 a) (by rw [List.getElem?_map, haj]; rfl)
    exact ⟨y, by rw [h1.1, h4], h5⟩
   subst ea
   have htk : os.take (j + 1) = os.take j ++ [a] := by rw [List.take_add_one, haj]; rfl
   have hjI : (j : Int) < (os.length : Int) := by omega
   have hh := Hlk.out wr _ _ HD.out a
   by_cases hm : a ∈ nl
   ·have HD2 : Hid (Dx wr vb b g (.slice an nl.length capn) c x sw ws1 (mk_ (fun _ => false) ((os.take (j + 1)).filter (fun a => !decide (a ∈ nl))) th) nl) := by
     show Dx _ _ _ _ _ _ _ _ _ _ _
     rw [htk, List.filter_append, List.filter_cons_of_neg (by simp [hm]), List.filter_nil, List.append_nil]
     exact HD.out
    rw [decide_eq_true hm] at hh
    clear htk ham haj hm HD
    go_wp2_with fail
    refine hh.mono ?_
    rintro e w2 ⟨rfl, rfl⟩
    clear hh
    go_wp2
    go_roundw
    case rel => exact ⟨j + 1, by omega, by go_num, ws1, HK, HD2, Hr, HT⟩
    case measure => simp [intOf]; omega
   ·have hmk := r6mark_mk H0.out (fun _ => false) _ HD.out a ((Hos.out a ham).kh HK.out)
    have hf : (os.take j).filter (fun a => !decide (a ∈ nl)) ++ [a] = (os.take (j + 1)).filter (fun a => !decide (a ∈ nl)) := by rw [htk, List.filter_append, List.filter_cons_of_pos (by simp [hm]), List.filter_nil]
    rw [hf] at hmk
    rw [decide_eq_false hm] at hh
    have hap := HD.out.apart
    have Hnt : Hid (∀ w7, Touch (rft b g) wr w7 → w7.ownsRow 0 3 1 (.slice (some ⟨qa, 0, none⟩) os.length cap) os.length (ints os)) := fun w7 t7 => row_keep Hr.out (fun y hy => t7.block y (row_lt Hr.out y hy) (by
     obtain ⟨cs, g0, -, -⟩ := HD.out.rx.ra.own
     obtain ⟨d1, g1, -, -⟩ := HD.out.rx.ra.row 1 (by omega) (by omega)
     obtain ⟨d2, g2, -, -⟩ := HD.out.rx.ra.row 2 (by omega) (by omega)
     obtain ⟨d3, g3, -, -⟩ := HD.out.rx.ra.row 3 (by omega) (by omega)
     obtain ⟨d4, g4, -, -⟩ := HD.out.rx.ra.row 4 (by omega) (by omega)
     simp only [rft, List.mem_cons, List.not_mem_nil, or_false, not_or]
     exact ⟨fun e => row_ne g0 Hr.out (by decide) (by rw [← e]; exact hy.symm), fun e => row_ne g1 Hr.out (by decide) (by rw [← e]; exact hy.symm), fun e => row_ne g2 Hr.out (by decide) (by rw [← e]; exact hy.symm), fun e => row_ne g3 Hr.out (by decide) (by rw [← e]; exact hy.symm), fun e => row_ne g4 Hr.out (by decide) (by rw [← e]; exact hy.symm)⟩))
    clear htk ham haj hm HD hf hap Hr
    go_wp2_with fail
    refine hh.mono ?_
    rintro e w2 ⟨rfl, rfl⟩
    clear hh
    go_wp2_with fail
    refine hmk.mono ?_
    rintro e w7 ⟨rfl, t7, ws7, K7, D7⟩
    have HK7 : Hid (Kh th ws ws7) := HK.out.trans K7
    have HD7 : Hid (Dx w7 vb b g (.slice an nl.length capn) c x sw ws7 (mk_ (fun _ => false) ((os.take (j + 1)).filter (fun a => !decide (a ∈ nl))) th) nl) := D7
    have Hr7 : Hid (w7.ownsRow 0 3 1 (.slice (some ⟨qa, 0, none⟩) os.length cap) os.length (ints os)) := Hnt.out w7 t7
    have HT7 : Hid (Touch (vb :: rft b g) w w7) := HT.out.trans (t7.wide (fun y hy => List.mem_cons_of_mem _ hy))
    clear hmk t7 K7 D7 Hnt HK HT ca
    go_wp2
    go_roundw
    case rel => exact ⟨j + 1, by omega, by go_num, ws7, HK7, HD7, Hr7, HT7⟩
    case measure => simp [intOf]; omega
  ·have hje : j = os.length := by omega
   have HD2 : Hid (Dx wr vb b g (.slice an nl.length capn) c x sw ws1 (mk_ (fun _ => false) (os.filter (fun a => !decide (a ∈ nl))) th) nl) := by
    have := HD.out
    rw [hje, List.take_length] at this
    exact this
   have hjn : ¬ (j : Int) < (os.length : Int) := by omega
   clear HD Hr
   go_wp2
   clear hjn hje hjl hj
   have HA1 : Hid (∀ a, a ∈ nl → ∀ ws', Kh th ws ws' → Adr c x ws' (mk_ (fun _ => false) (os.filter (fun a => !decide (a ∈ nl))) th) a) := fun a ha ws' k => ((Hnl.out a ha).kh k).mk _ _
   have HKm : Hid (∀ a d, Kh (mk_ (fun _ => false) (os.filter (fun a => !decide (a ∈ nl))) th) a d → Kh th a d) := fun a d h => h.of_mk
   obtain ⟨th1, hth⟩ : ∃ th1, th1 = mk_ (fun _ => false) (os.filter (fun a => !decide (a ∈ nl))) th := ⟨_, rfl⟩
   rw [← hth] at HD2 HA1 HKm
   have Hth : Hid (th1 = mk_ (fun _ => false) (os.filter (fun a => !decide (a ∈ nl))) th) := hth
   clear hth
   have H1 : Hid (Hp c x ws1 th1) := HD2.out.rx.hp
   clear Hos Hnl H0 Hlk
   go_loopw [7] (fun v7 wr => ∃ j : Nat, j ≤ nl.length ∧ v7 = .int .i64 j ∧ ∃ ws', Hid (Kh th ws ws') ∧ Hid (Dx wr vb b g (.slice an nl.length capn) c x sw ws' (mk_ (fun _ => true) (nl.take j) th1) nl) ∧ Hid (Touch (vb :: rft b g) w wr)) (fun v7 _ => nl.length - (intOf v7).toNat)
   case atStart => exact ⟨0, Nat.zero_le _, rfl, ws1, HK, (by
     show Dx _ _ _ _ _ _ _ _ _ _ _
     rw [List.take_zero, mk_nil]
     exact HD2.out), HT⟩
   case round =>
    obtain ⟨j, hj, rfl, ws2, HK2, HD3, HT2⟩ := hrel
    clear HD2 HK HT
    by_cases hjl : j < nl.length
    ·have haj : nl[j]? = some (nl[j]'hjl) := List.getElem?_eq_getElem hjl
     generalize nl[j]'hjl = a at haj
     have ham := List.mem_of_getElem? haj
     obtain ⟨qa, ea, ca⟩ : ∃ qa, an = some ⟨qa, 0, none⟩ ∧ wr.cell? ⟨qa, j, none⟩ = some (.int .i64 a) := by
      obtain ⟨a0, cp, h1, -, h3⟩ := row_at HD3.out.row (by decide)
      simp at h1
      obtain ⟨y, h4, -, h5⟩ := h3 j (.int .i64 a) (by rw [List.getElem?_map, haj]; rfl)
      exact ⟨y, by rw [h1.1, h4], h5⟩
     subst ea
     have htk : nl.take j ++ [a] = nl.take (j + 1) := by rw [List.take_add_one, haj]; rfl
     have hjI : (j : Int) < (nl.length : Int) := by omega
     have hmk := r6mark_mk H1.out (fun _ => true) _ HD3.out a (HA1.out a ham ws2 HK2.out)
     rw [htk] at hmk
     clear htk ham haj HD3
     go_wp2_with fail
     refine hmk.mono ?_
     rintro e w7 ⟨rfl, t7, ws7, K7, D7⟩
     have HK7 : Hid (Kh th ws ws7) := HK2.out.trans (HKm.out _ _ K7)
     have HD7 : Hid (Dx w7 vb b g (.slice (some ⟨qa, 0, none⟩) nl.length capn) c x sw ws7 (mk_ (fun _ => true) (nl.take (j + 1)) th1) nl) := D7
     have HT7 : Hid (Touch (vb :: rft b g) w w7) := HT2.out.trans (t7.wide (fun y hy => List.mem_cons_of_mem _ hy))
     clear hmk t7 K7 D7 HK2 HT2 ca
     go_wp2
     go_roundw
     case rel => exact ⟨j + 1, by omega, by go_num, ws7, HK7, HD7, HT7⟩
     case measure => simp [intOf]; omega
    ·have hje : j = nl.length := by omega
     have HD4 : Hid (Dx wr vb b g (.slice an nl.length capn) c x sw ws2 (mk_ (fun _ => true) nl th1) nl) := by
      have := HD3.out
      rw [hje, List.take_length] at this
      exact this
     have hjn : ¬ (j : Int) < (nl.length : Int) := by omega
     clear HD3
     go_wp2
     go_end0
     exact ⟨rfl, HT2.out, ws2, HK2.out, by rw [← Hth.out]; exact HD4.out⟩
end
end Go.Proofs.YtlkengnefhhppaaGreatDoor
