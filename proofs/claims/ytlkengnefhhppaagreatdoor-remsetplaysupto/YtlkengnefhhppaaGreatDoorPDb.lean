import Derived.Test.YtlkengnefhhppaaGreatDoorPDa
set_option linter.unusedVariables false
set_option maxHeartbeats 8000000
set_option maxRecDepth 20000
namespace Go.Proofs.YtlkengnefhhppaaGreatDoor
open Go.RowKit Go.Shelf
section
variable {w w' : World} {vb b : Nat} {g : Nat → Nat} {lv : Value} {c : Cfg} {x : Tps} {sw : Bool} {ws ws0 : Nat → Int} {th : List Tng} {l : List Int}
theorem r6Store_not (H : Dx w vb b g lv c x sw ws th l) (a : Int) (hn : ¬ At c x ws a) (f z : Int) : Calls Tryz.prog 59 #[.pointer (some ⟨vb, 0, none⟩), .int .i64 a, .int .i64 f, .int .i64 z] w fun e w' => e = .returned (.int .i64 60) ∧ Below w.heap.size w w' := by
 have k0 : w.cell? ⟨vb, 0, none⟩ = some (.pointer (some ⟨b, 0, none⟩)) := H.cell 0
 have hh := H.rx.head_not a hn
 clear H hn
 go_enter Tryz.func59, Tryz.ntmps59
 go_wp2_with fail
 refine hh.mono ?_
 rintro e w2 ⟨rfl, l2⟩
 clear hh k0
 go_upto_region 2 with fail
 have l3 := Below.alloc l2 l2.size (.cells (hcells 0 0 0 0 0 0 false) 38)
 generalize w2.alloc (.cells (hcells 0 0 0 0 0 0 false) 38) = w3 at *
 go_wp2
 go_ret
 exact ⟨rfl, l3⟩
theorem r6Store_field (H : Dx w vb b g lv c x sw ws th l) {T : Tng} (hT : T ∈ th) (f : Int) (hf : ¬ (0 ≤ f ∧ f < T.ps.length)) (z : Int) : Calls Tryz.prog 59 #[.pointer (some ⟨vb, 0, none⟩), .int .i64 T.at_, .int .i64 f, .int .i64 z] w fun e w' => e = .returned (.int .i64 61) ∧ Below w.heap.size w w' := by
 have k0 : w.cell? ⟨vb, 0, none⟩ = some (.pointer (some ⟨b, 0, none⟩)) := H.cell 0
 have hh := H.rx.head hT
 have hpn := H.rx.hp.hl.psn T hT
 rw [hpn] at hf
 clear H hT hpn
 go_enter Tryz.func59, Tryz.ntmps59
 go_wp2_with fail
 refine hh.mono ?_
 rintro e w2 ⟨rfl, l2⟩
 clear hh k0
 go_upto_region 2 with fail
 have l3 := Below.alloc l2 l2.size (.cells (hcells T.s T.k T.p T.r T.a T.t T.h) 38)
 have hy : (w2.alloc (.cells (hcells T.s T.k T.p T.r T.a T.t T.h) 38)).cell? ⟨w2.heap.size, 2, none⟩ = some (.int .i64 T.p) := cell_of_row _ _ 2 _ _ _ (heap_alloc_new w2 (.cells (hcells T.s T.k T.p T.r T.a T.t T.h) 38 (0, 0)))
 generalize w2.alloc (.cells (hcells T.s T.k T.p T.r T.a T.t T.h) 38) = w3 at *
 generalize w2.heap.size = R at *
 clear l2
 by_cases h0 : f < 0
 ·have h0' : decide (f < 0) = true := by simpa using h0
  go_wp2
  go_ret
  exact ⟨rfl, l3⟩
 ·have h0' : decide (f < 0) = false := by simpa using h0
  have h1 : T.p ≤ f := by omega
  have h1' : decide (T.p ≤ f) = true := by simpa using h1
  go_wp2
  go_ret
  exact ⟨rfl, l3⟩
theorem r6Store_target (H : Dx w vb b g lv c x sw ws th l) {T : Tng} (hT : T ∈ th) (f : Nat) (hf : f < T.ps.length) (z : Int) (hz : z ≠ 0) (hn : ¬ At c x ws z) : Calls Tryz.prog 59 #[.pointer (some ⟨vb, 0, none⟩), .int .i64 T.at_, .int .i64 f, .int .i64 z] w fun e w' => e = .returned (.int .i64 62) ∧ Below w.heap.size w w' := by
 have k0 : w.cell? ⟨vb, 0, none⟩ = some (.pointer (some ⟨b, 0, none⟩)) := H.cell 0
 have hh := H.rx.head hT
 have hpn := H.rx.hp.hl.psn T hT
 have HD : Hid (Dx w vb b g lv c x sw ws th l) := H
 have Hn : Hid (¬ At c x ws z) := hn
 have hfp : (f : Int) < T.p := by omega
 have h1 : ¬ T.p ≤ (f : Int) := by omega
 clear H hT hpn hn hf
 go_enter Tryz.func59, Tryz.ntmps59
 go_wp2_with fail
 refine hh.mono ?_
 rintro e w2 ⟨rfl, l2⟩
 clear hh k0
 go_upto_region 2 with fail
 have l3 := Below.alloc l2 l2.size (.cells (hcells T.s T.k T.p T.r T.a T.t T.h) 38)
 have hy : (w2.alloc (.cells (hcells T.s T.k T.p T.r T.a T.t T.h) 38)).cell? ⟨w2.heap.size, 2, none⟩ = some (.int .i64 T.p) := cell_of_row _ _ 2 _ _ _ (heap_alloc_new w2 (.cells (hcells T.s T.k T.p T.r T.a T.t T.h) 38 (0, 0)))
 generalize w2.alloc (.cells (hcells T.s T.k T.p T.r T.a T.t T.h) 38) = w3 at *
 generalize w2.heap.size = R at *
 clear l2
 have HD3 : Hid (Dx w3 vb b g lv c x sw ws th l) := HD.out.below l3
 have k0 : w3.cell? ⟨vb, 0, none⟩ = some (.pointer (some ⟨b, 0, none⟩)) := HD3.out.cell 0
 have hh := HD3.out.rx.head_not z Hn.out
 have hzb : (z != 0) = true := by simpa using hz
 go_wp2_with fail
 refine hh.mono ?_
 rintro e w4 ⟨rfl, l4⟩
 have l5 := l3.trans (l4.mono l3.size)
 clear hh k0 l4 l3 HD3 hy
 go_upto_region 7 with fail
 have l6 := Below.alloc l5 l5.size (.cells (hcells 0 0 0 0 0 0 false) 38)
 generalize w4.alloc (.cells (hcells 0 0 0 0 0 0 false) 38) = w6 at *
 go_wp2
 go_ret
 exact ⟨rfl, l6⟩
theorem Rx.setPtr (H : Rx w b g c x sw ws th) (i : Nat) (T : Tng) (hTi : th[i]? = some T) (f : Nat) (z : Int) (hf : f < T.ps.length) (z0 : 0 ≤ z) (z1 : z < c.words) :
  Calls Tryz.prog 29 #[.pointer (some ⟨b, 0, none⟩), .int .i64 T.at_, .int .i64 f, .int .i64 z] w fun e w' => e = .returned (.bool true) ∧ Touch (rft b g) w w' ∧ Rx w' b g c x sw (upd ws (T.at_.toNat + 2 + f) z) (th.set i { T with ps := T.ps.set f z }) := by
 have hp := H.hp.ptr w i T hTi f z hf z0 z1
 have hm := List.mem_of_getElem? hTi
 obtain ⟨p1, p2, p3, p4, p5, p6, p7, hat, e1, e2, hw⟩ := H.hp.pos w hm
 have hpn := H.hp.hl.psn T hm
 refine (rsetPtr_yes b g c x sw ws T.at_ f z hat (by omega) (by rw [e1]; omega) z0 z1 hw w H.ra).mono ?_
 rintro e w' ⟨rfl, hA', t'⟩
 rw [show (T.at_ + 2 + f).toNat = T.at_.toNat + 2 + f by omega] at hA'
 exact ⟨rfl, t', hA', hp⟩
end
section
variable {w w' : World} {vb b : Nat} {g : Nat → Nat} {lv : Value} {c : Cfg} {x : Tps} {sw : Bool} {ws ws0 : Nat → Int} {th : List Tng} {l : List Int}
theorem at_zero (c : Cfg) (x : Tps) (ws : Nat → Int) : ¬ At c x ws 0 := fun h => h.1 (by unfold spc; rw [if_pos (by omega)])
theorem Rx.head_or (H : Rx w b g c x sw ws th) (z : Int) (hz : z = 0 ∨ ∃ U, U ∈ th ∧ U.at_ = z) : ∃ s k p r a t h fl, (z = 0 ∨ fl = true) ∧ Calls Tryz.prog 75 #[.pointer (some ⟨b, 0, none⟩), .int .i64 z] w fun e w' => e = .returned (.tuple #[hv s k p r a t h, .bool fl]) ∧ Below w.heap.size w w' := by
 rcases hz with rfl | ⟨U, hU, rfl⟩
 ·exact ⟨0, 0, 0, 0, 0, 0, false, false, .inl rfl, H.head_not 0 (at_zero c x ws)⟩
 ·exact ⟨_, _, _, _, _, _, _, true, .inr rfl, H.head hU⟩
theorem Dx.grow {nv : Value} {l' : List Int} (H : Dx w vb b g lv c x sw ws th l) (t : Touch lv.ownBlock.toList w w') (hr : w'.ownsRow 0 3 1 nv l'.length (ints l')) : Dx (w'.setCell ⟨vb, 1, none⟩ nv) vb b g nv c x sw ws th l' ∧ Touch (vb :: lv.ownBlock.toList) w (w'.setCell ⟨vb, 1, none⟩ nv) ∧ w'.heap[vb]? = w.heap[vb]? := by
 have hv : w'.heap[vb]? = w.heap[vb]? := t.block vb H.lt (fun hm => by
  rw [Option.mem_toList] at hm
  exact row_ne H.own H.row (by decide) hm.symm)
 have hown := hv.trans H.own
 have t2 : Touch [vb] w' (w'.setCell ⟨vb, 1, none⟩ nv) := Touch.setCell _ _ _ (by simp)
 have hap := H.apart
 have hra := H.rx.ra.touch t (fun q hq hm => by rw [Option.mem_toList] at hm; exact hap.2 q hm hq)
 refine ⟨⟨⟨hra.touch t2 (fun q hq hm => hap.1 (by simp at hm; rw [← hm]; exact hq)), H.rx.hp⟩, ?_, row_keep hr (fun q hq => t2.block q (row_lt hr q hq) (by simp; exact fun e => row_ne hown hr (by decide) (by rw [← e]; exact hq.symm)))⟩, (t.wide (fun y hy => List.mem_cons_of_mem _ hy)).trans (t2.wide (fun y hy => by simp at hy; simp [hy])), hv⟩
 simp [World.setCell, Array.getElem?_modify, hown]
def Sto6 (w' : World) (vb b : Nat) (g : Nat → Nat) (lv' : Value) (c : Cfg) (x : Tps) (sw : Bool) (ws : Nat → Int) (th : List Tng) (l : List Int) (i : Nat) (T : Tng) (f : Nat) (z : Int) : Prop :=
 if stl c sw l T.at_ z = true then Dx w' vb b g lv' c x sw (upd (upd (upd ws (T.at_.toNat + 2 + f) z) T.at_.toNat (wrd T.k T.p T.r T.a T.t true)) (T.at_.toNat + 1) T.s) (th.set i { T with ps := T.ps.set f z, h := true }) (l ++ [T.at_])
  else Dx w' vb b g lv' c x sw (upd ws (T.at_.toNat + 2 + f) z) (th.set i { T with ps := T.ps.set f z }) l
theorem r6Store_yes (H : Dx w vb b g lv c x sw ws th l) (i : Nat) (T : Tng) (hTi : th[i]? = some T) (f : Nat) (hf : f < T.ps.length) (z : Int) (hz : z = 0 ∨ ∃ U, U ∈ th ∧ U.at_ = z) (hl : l.length < 1099511627776) :
  Calls Tryz.prog 59 #[.pointer (some ⟨vb, 0, none⟩), .int .i64 T.at_, .int .i64 f, .int .i64 z] w fun e w' => e = .returned (.int .i64 0) ∧ Touch (vb :: (lv.ownBlock.toList ++ rft b g)) w w' ∧ ∃ lv', (∀ q, lv'.ownBlock = some q → lv.ownBlock = some q ∨ w.heap.size ≤ q) ∧
   Sto6 w' vb b g lv' c x sw ws th l i T f z := by
 have hT := List.mem_of_getElem? hTi
 have k0 : w.cell? ⟨vb, 0, none⟩ = some (.pointer (some ⟨b, 0, none⟩)) := H.cell 0
 have hh := H.rx.head hT
 have hpn := H.rx.hp.hl.psn T hT
 have HD : Hid (Dx w vb b g lv c x sw ws th l) := H
 have HT : Hid (th[i]? = some T ∧ f < T.ps.length) := ⟨hTi, hf⟩
 have Hz : Hid (z = 0 ∨ ∃ U, U ∈ th ∧ U.at_ = z) := hz
 have Hzi : Hid (0 ≤ z ∧ z < c.words) := by
  show 0 ≤ z ∧ z < c.words
  rcases hz with rfl | ⟨U, hU, rfl⟩
  ·have := H.rx.hp.pos w hT; omega
  ·have := H.rx.hp.pos w hU; omega
 have hfp : (f : Int) < T.p := by omega
 have h1 : ¬ T.p ≤ (f : Int) := by omega
 have Hl : Hid (l.length < 1099511627776) := hl
 clear H hT hpn hTi hf hz hl
 go_enter Tryz.func59, Tryz.ntmps59
 go_wp2_with fail
 refine hh.mono ?_
 rintro e w2 ⟨rfl, l2⟩
 clear hh k0
 go_upto_region 2 with fail
 have l3 := Below.alloc l2 l2.size (.cells (hcells T.s T.k T.p T.r T.a T.t T.h) 38)
 have hy : (w2.alloc (.cells (hcells T.s T.k T.p T.r T.a T.t T.h) 38)).cell? ⟨w2.heap.size, 2, none⟩ = some (.int .i64 T.p) := cell_of_row _ _ 2 _ _ _ (heap_alloc_new w2 (.cells (hcells T.s T.k T.p T.r T.a T.t T.h) 38 (0, 0)))
 generalize w2.alloc (.cells (hcells T.s T.k T.p T.r T.a T.t T.h) 38) = w3 at *
 generalize w2.heap.size = R at *
 clear l2
 have HD3 : Hid (Dx w3 vb b g lv c x sw ws th l) := HD.out.below l3
 have k0 : w3.cell? ⟨vb, 0, none⟩ = some (.pointer (some ⟨b, 0, none⟩)) := HD3.out.cell 0
 obtain ⟨s, k, p, r, a, t, h, fl, hfl, hh⟩ := HD3.out.rx.head_or z Hz.out
 go_wp2_with fail
 refine hh.mono ?_
 rintro e w4 ⟨rfl, l4⟩
 have l5 := l3.trans (l4.mono l3.size)
 clear hh k0 l4 l3 HD3 hy
 go_upto_region 7 with fail
 have l6 := Below.alloc l5 l5.size (.cells (hcells s k p r a t h) 38)
 generalize w4.alloc (.cells (hcells s k p r a t h) 38) = w6 at *
 have HD6 : Hid (Dx w6 vb b g lv c x sw ws th l) := HD.out.below l6
 have L6 : Hid (Below w.heap.size w w6) := l6
 have k0 : w6.cell? ⟨vb, 0, none⟩ = some (.pointer (some ⟨b, 0, none⟩)) := HD6.out.cell 0
 have hsp := HD6.out.rx.setPtr i T HT.out.1 f z HT.out.2 Hzi.out.1 Hzi.out.2
 clear l5 l6
 have hcase : ((z != 0) = true ∧ fl = true) ∨ (z != 0) = false := by
  rcases hfl with rfl | h
  ·exact .inr rfl
  ·cases e : (z != 0)
   ·exact .inr rfl
   ·exact .inl ⟨rfl, h⟩
 clear hfl
 rcases hcase with ⟨hz0, rfl⟩ | hz0
 all_goals
  go_wp2_with fail
  refine hsp.mono ?_
  rintro e w7 ⟨rfl, t7, R7⟩
  have HD7 : Hid (Dx w7 vb b g lv c x sw (upd ws (T.at_.toNat + 2 + f) z) (th.set i { T with ps := T.ps.set f z }) l) := HD6.out.next t7 R7
  have HT7 : Hid (Touch (vb :: (lv.ownBlock.toList ++ rft b g)) w w7) := (Touch.of_below L6.out _).trans (t7.wide (fun y hy => List.mem_cons_of_mem _ (List.mem_append.2 (.inr hy))))
  clear hsp k0 t7 R7 HD6 L6 hz0
  have k0 : w7.cell? ⟨vb, 0, none⟩ = some (.pointer (some ⟨b, 0, none⟩)) := HD7.out.cell 0
  have hs := rspaceof_any b g c x sw _ T.at_ w7 HD7.out.rx.ra
  have hlvs : ∃ ad nn cp, lv = .slice ad nn cp := row_slice HD7.out.row
  obtain ⟨ad, nn, cp, rfl⟩ := hlvs
  by_cases c4 : spc c T.at_ = 4
  ·rw [c4] at hs
   go_wp2_with fail
   refine hs.mono ?_
   rintro e w8 ⟨rfl, l8⟩
   have HD8 : Hid (Dx w8 vb b g (.slice ad nn cp) c x sw (upd ws (T.at_.toNat + 2 + f) z) (th.set i { T with ps := T.ps.set f z }) l) := HD7.out.below l8
   have HT8 : Hid (Touch (vb :: ((Value.slice ad nn cp).ownBlock.toList ++ rft b g)) w w8) := HT7.out.trans (Touch.of_below l8 _)
   clear hs k0 l8 HD7 HT7
   have k0 : w8.cell? ⟨vb, 0, none⟩ = some (.pointer (some ⟨b, 0, none⟩)) := HD8.out.cell 0
   have hyo := ryoung_any b g c x sw _ z w8 HD8.out.rx.ra
   have hyo' : Calls Tryz.prog 114 #[.pointer (some ⟨b, 0, none⟩), .int .i64 z] w8 fun e w' => e = .returned (.bool (yg c sw z)) ∧ Below w8.heap.size w8 w' := hyo
   clear hyo
   cases hyz : yg c sw z
   ·have HE : Hid (stl c sw l T.at_ z = false) := by
     show stl c sw l T.at_ z = false
     unfold stl
     rw [hyz]
     simp
    rw [hyz] at hyo'
    clear hyz
    go_wp2_with fail
    refine hyo'.mono ?_
    rintro e w9 ⟨rfl, l9⟩
    have HD9 : Hid (Dx w9 vb b g (.slice ad nn cp) c x sw (upd ws (T.at_.toNat + 2 + f) z) (th.set i { T with ps := T.ps.set f z }) l) := HD8.out.below l9
    have HT9 : Hid (Touch (vb :: ((Value.slice ad nn cp).ownBlock.toList ++ rft b g)) w w9) := HT8.out.trans (Touch.of_below l9 _)
    clear hyo' k0 l9 HD8 HT8
    go_wp2
    go_ret
    exact ⟨rfl, HT9.out, _, fun q hq => .inl hq, by unfold Sto6; rw [if_neg (by rw [HE.out]; simp)]; exact HD9.out⟩
   ·rw [hyz] at hyo'
    have Hyz : Hid (yg c sw z = true) := hyz
    clear hyz
    go_wp2_with fail
    refine hyo'.mono ?_
    rintro e w9 ⟨rfl, l9⟩
    have HD9 : Hid (Dx w9 vb b g (.slice ad nn cp) c x sw (upd ws (T.at_.toNat + 2 + f) z) (th.set i { T with ps := T.ps.set f z }) l) := HD8.out.below l9
    have HT9 : Hid (Touch (vb :: ((Value.slice ad nn cp).ownBlock.toList ++ rft b g)) w w9) := HT8.out.trans (Touch.of_below l9 _)
    clear hyo' k0 l9 HD8 HT8
    have k1 : w9.cell? ⟨vb, 1, none⟩ = some (.slice ad nn cp) := HD9.out.cell 1
    have hha := r6has_any _ _ l T.at_ w9 (Lrd.of_row HD9.out.row) (by have := Hl.out; omega)
    by_cases hm : T.at_ ∈ l
    ·have HE : Hid (stl c sw l T.at_ z = false) := by
      show stl c sw l T.at_ z = false
      unfold stl
      simp [hm]
     rw [decide_eq_true hm] at hha
     clear hm
     go_wp2_with fail
     refine hha.mono ?_
     rintro e wa ⟨rfl, rfl⟩
     clear hha k1
     go_wp2
     go_ret
     exact ⟨rfl, HT9.out, _, fun q hq => .inl hq, by unfold Sto6; rw [if_neg (by rw [HE.out]; simp)]; exact HD9.out⟩
    ·have HE : Hid (stl c sw l T.at_ z = true) := by
      show stl c sw l T.at_ z = true
      unfold stl
      rw [Hyz.out]
      simp [hm, c4]
     rw [decide_eq_false hm] at hha
     clear hm
     go_wp2_with fail
     refine hha.mono ?_
     rintro e wa ⟨rfl, rfl⟩
     clear hha
     obtain ⟨i0, hi0, hj0, hj1, hj2⟩ := info_parts Tryz.infoInt
     have HI : Hid (Tryz.prog.info? 3 = some i0 ∧ i0.zero = some (.int .i64 0) ∧ i0.size = 1 ∧ i0.bytes = 8) := ⟨hi0, hj0, hj1, hj2⟩
     have Hrow : Hid (wa.ownsRow 0 3 1 (.slice ad nn cp) l.length (ints l)) := HD9.out.row
     clear hi0 hj0 hj1 hj2
     have hll := Hl.out
     go_wp2_with (at_builtin; refine wpList_append_own_at _ rfl _ _ 32 rfl 0 3 i0 (.int .i64 0) 1 8 Tryz.underlying32 HI.out.1 HI.out.2.1 HI.out.2.2.1 HI.out.2.2.2 rfl (by decide) _ _ _ rfl (Hrow.out.alloc _) ⟨wa.heap.size, 0, none⟩ 1 1 [.int .i64 T.at_] rfl rfl (cell_one_new _ _ _) (by simp [Value.oneCell']) (by simp [maxLen]; omega) (by omega) (by omega) ?_)
     intro v' w2' hown' hgrow _ hat
     have t2 : Touch (Value.slice ad nn cp).ownBlock.toList wa w2' := ⟨hgrow.os, hgrow.tape, hgrow.output, by have := hgrow.size; simp at this; omega, fun k hk hn => (hgrow.block k (by simp; omega) (fun e => hn (by rw [Option.mem_toList]; exact e.symm))).trans (Below.heap_alloc _ _ _ hk)⟩
     have Hat : Hid (∀ q, v'.ownBlock = some q → (Value.slice ad nn cp).ownBlock = some q ∨ w.heap.size ≤ q) := fun q hq => by
      rcases hat with h | h
      ·exact .inl (h.symm.trans hq)
      ·have := HT9.out.size
       rw [h] at hq
       simp at hq
       exact .inr (by omega)
     obtain ⟨a3, c3, n3, hv3⟩ := row_slice hown'
     subst hv3
     obtain ⟨DG, tG, hvb⟩ := HD9.out.grow t2 (l' := l ++ [T.at_]) (by simpa [ints] using hown')
     have HDG : Hid (Dx (w2'.setCell ⟨vb, 1, none⟩ (.slice a3 c3 n3)) vb b g (.slice a3 c3 n3) c x sw (upd ws (T.at_.toNat + 2 + f) z) (th.set i { T with ps := T.ps.set f z }) (l ++ [T.at_])) := DG
     have HTG : Hid (Touch (vb :: ((Value.slice ad nn cp).ownBlock.toList ++ rft b g)) w (w2'.setCell ⟨vb, 1, none⟩ (.slice a3 c3 n3))) := HT9.out.trans (tG.wide (fun y hy => by
      rw [List.mem_cons] at hy ⊢
      rcases hy with h | h
      ·exact .inl h
      ·exact .inr (List.mem_append.2 (.inl h))))
     have c1 : w2'.cell? ⟨vb, 1, none⟩ = some (.slice ad nn cp) := (World.cell?_of_block (w := wa) hvb).trans k1
     have f1 : w2'.frozen? ⟨vb, 1, none⟩ = false := by
      unfold World.frozen?
      simp only [hvb, HD9.out.own]
      simp
     clear hown' hgrow hat t2 DG tG hvb k1 HD9 HT9 Hrow HI hll
     go_upto_region 12 with fail
     clear c1 f1
     generalize w2'.setCell ⟨vb, 1, none⟩ (.slice a3 c3 n3) = wb at *
     have hmk := r6mark_at HDG.out i { T with ps := T.ps.set f z } (by rw [List.getElem?_set, if_pos rfl, if_pos (List.getElem?_eq_some_iff.1 HT.out.1).1]) true
     have HM : Hid (∀ wc, Dx wc vb b g (.slice a3 c3 n3) c x sw (upd (upd (upd ws (T.at_.toNat + 2 + f) z) T.at_.toNat (wrd T.k T.p T.r T.a T.t true)) (T.at_.toNat + 1) T.s) ((th.set i { T with ps := T.ps.set f z }).set i { T with ps := T.ps.set f z, h := true }) (l ++ [T.at_]) → Sto6 wc vb b g (.slice a3 c3 n3) c x sw ws th l i T f z) := fun wc h => by
      unfold Sto6
      rw [if_pos HE.out]
      rw [List.set_set] at h
      exact h
     clear HDG HE
     go_wp2_with fail
     refine hmk.mono ?_
     rintro e wc ⟨rfl, tc, Dc⟩
     have HS : Hid (Sto6 wc vb b g (.slice a3 c3 n3) c x sw ws th l i T f z) := HM.out wc Dc
     have HTc : Hid (Touch (vb :: ((Value.slice ad nn cp).ownBlock.toList ++ rft b g)) w wc) := HTG.out.trans (tc.wide (fun y hy => List.mem_cons_of_mem _ (List.mem_append.2 (.inr hy))))
     clear hmk HM tc Dc HTG
     go_wp2
     go_ret
     exact ⟨rfl, HTc.out, _, Hat.out, HS.out⟩
  ·have HE : Hid (stl c sw l T.at_ z = false) := by
    show stl c sw l T.at_ z = false
    unfold stl
    rw [decide_eq_false c4]
    simp
   generalize spc c T.at_ = sp at *
   have c4' : (sp == 4) = false := by simpa using c4
   go_wp2_with fail
   refine hs.mono ?_
   rintro e w8 ⟨rfl, l8⟩
   have HD8 : Hid (Dx w8 vb b g (.slice ad nn cp) c x sw (upd ws (T.at_.toNat + 2 + f) z) (th.set i { T with ps := T.ps.set f z }) l) := HD7.out.below l8
   have HT8 : Hid (Touch (vb :: ((Value.slice ad nn cp).ownBlock.toList ++ rft b g)) w w8) := HT7.out.trans (Touch.of_below l8 _)
   clear hs k0 l8 HD7 HT7
   go_wp2
   go_ret
   exact ⟨rfl, HT8.out, _, fun q hq => .inl hq, by unfold Sto6; rw [if_neg (by rw [HE.out]; simp)]; exact HD8.out⟩
end
end Go.Proofs.YtlkengnefhhppaaGreatDoor
