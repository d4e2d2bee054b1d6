import Derived.Test.YtlkengnefhhppaaGreatDoorUPQ11
import Derived.Test.YtlkengnefhhppaaGreatDoorPQg
set_option linter.unusedVariables false
set_option maxHeartbeats 8000000
set_option maxRecDepth 20000
namespace Go.Proofs.YtlkengnefhhppaaGreatDoor
open Go.RowKit Go.Shelf
section
variable {w1 w w' : World} {n1 pb lb sb b g mb n n' : Nat} {lv lv' : Value} {c : Cfg} {L : List LT} {x x' : Tps} {sw sw' : Bool} {ws ws' : Nat → Int} {th th' : List Tng} {l l' : List Int} {vb rb bb m : Nat} {rg : Nat → Nat} {rl rl' : Value}
theorem step6_ptr (S : Ps w1 n1 w pb lb sb b g mb vb rb rg bb c L m n) (hn : n ≤ 288230376151711744) (hm : m < 200000000) (oA oB oC : Int) (oM : Value) (oL : List Int) (hok : (⟨8, oA, oB, oC, oM, oL⟩ : Op6).Ok n1 w) :
  Calls Tryz.prog 6 #[.pointer (some ⟨pb, 0, none⟩), .agg (ocl 8 oA oB oC oM)] w fun e w' => e = .returned (.bool true) ∧ ∃ m', m' ≤ m + 3 ∧ Ps w1 n1 w' pb lb sb b g mb vb rb rg bb c L m' (n + 4194304) := by
 obtain ⟨lv, rl, x, sw, ws, th, l, P⟩ := S
 have b0 : Below w.heap.size w (w.alloc (.cells (ocl 8 oA oB oC oM) 34)) := Below.alloc (Below.refl _ _) (Nat.le_refl _) _
 have hX := heap_alloc_new w (.cells (ocl 8 oA oB oC oM) 34 (0, 0))
 have HP : Hid (Px w1 (w.alloc (.cells (ocl 8 oA oB oC oM) 34)) n1 bb m (aF pb sb b g mb lv vb rb rg rl) (fun w => Pm w1 n1 w pb lb sb b g mb lv vb rb rg rl bb c L x sw ws th l n (1000 * (m : Int))) [none]) := P.below b0
 have HF : Hid (∀ q, q ∈ aF pb sb b g mb lv vb rb rg rl → q < w.heap.size) := P.s.lt _ P.p
 obtain ⟨⟨ca, cm⟩, rfl⟩ : ∃ z : Option Addr × Nat, oM = .slice z.1 oL.length z.2 := by obtain ⟨a, cap, h, -⟩ := hok.mo; exact ⟨⟨a, cap⟩, h⟩
 have Hok : Hid ((⟨8, oA, oB, oC, .slice ca oL.length cm, oL⟩ : Op6).Ok n1 (w.alloc (.cells (ocl 8 oA oB oC (.slice ca oL.length cm)) 34))) := hok.below (b0.mono P.hb)
 clear P b0 hok
 go_enter Tryz.func6, Tryz.ntmps6
 go_upto_region 1 with fail
 generalize w.alloc (.cells (ocl 8 oA oB oC (.slice ca oL.length cm)) 34) = v at *
 obtain ⟨X, hXe⟩ : ∃ X, X = w.heap.size := ⟨_, rfl⟩
 rw [← hXe] at hX HF ⊢
 clear hXe
 have x0 : v.cell? ⟨X, 0, none⟩ = some (.int .i64 8) := cell_of_row _ _ 0 _ _ _ hX
 have x1 : v.cell? ⟨X, 1, none⟩ = some (.int .i64 oA) := cell_of_row _ _ 1 _ _ _ hX
 have x2 : v.cell? ⟨X, 2, none⟩ = some (.int .i64 oB) := cell_of_row _ _ 2 _ _ _ hX
 have x3 : v.cell? ⟨X, 3, none⟩ = some (.int .i64 oC) := cell_of_row _ _ 3 _ _ _ hX
 have x4 : v.cell? ⟨X, 4, none⟩ = some (.slice ca oL.length cm) := cell_of_row _ _ 4 _ _ _ hX
 have hXl : X < v.heap.size := (Array.getElem?_eq_some_iff.1 hX).1
 go_upto_region 21 with fail
 haveI hinh : Inhabited (Kg.Bel v) := ⟨⟨v, Below.refl _ _⟩⟩
 have hpl : pb < v.heap.size := HP.out.p.lt
 have z0 : ∀ p : Kg.Bel v, p.v.cell? ⟨pb, 0, none⟩ = some (.pointer (some ⟨lb, 0, none⟩)) := fun p => (p.h.cell (p := ⟨pb, 0, none⟩) hpl).trans (HP.out.p.cell 0)
 have z1 : ∀ p : Kg.Bel v, p.v.cell? ⟨pb, 1, none⟩ = some (.pointer (some ⟨b, 0, none⟩)) := fun p => (p.h.cell (p := ⟨pb, 1, none⟩) hpl).trans (HP.out.p.cell 1)
 have y1 : ∀ p : Kg.Bel v, p.v.cell? ⟨X, 1, none⟩ = some (.int .i64 oA) := fun p => (p.h.cell (p := ⟨X, 1, none⟩) hXl).trans x1
 have y2 : ∀ p : Kg.Bel v, p.v.cell? ⟨X, 2, none⟩ = some (.int .i64 oB) := fun p => (p.h.cell (p := ⟨X, 2, none⟩) hXl).trans x2
 have y3 : ∀ p : Kg.Bel v, p.v.cell? ⟨X, 3, none⟩ = some (.int .i64 oC) := fun p => (p.h.cell (p := ⟨X, 3, none⟩) hXl).trans x3
 have HPa : Hid (∀ p : Kg.Bel v, Calls Tryz.prog 13 #[.pointer (some ⟨lb, 0, none⟩), .int .i64 oA] p.v fun e w' => e = .returned (.int .i64 (plc L oA)) ∧ Below p.v.heap.size p.v w') := fun p => place_any (HP.out.p.below p.h).ly (HP.out.p.below p.h).bo.rm.hsz HP.out.p.lok.len oA Hok.out.a
 have HPc : Hid (∀ p : Kg.Bel v, Calls Tryz.prog 13 #[.pointer (some ⟨lb, 0, none⟩), .int .i64 oC] p.v fun e w' => e = .returned (.int .i64 (plc L oC)) ∧ Below p.v.heap.size p.v w') := fun p => place_any (HP.out.p.below p.h).ly (HP.out.p.below p.h).bo.rm.hsz HP.out.p.lok.len oC Hok.out.c
 have hz0 := HP.out.p.pz oA
 have hz2 := HP.out.p.pz oC
 have Hly : Hid (∀ w5, Touch (pF sb b g mb lv) v w5 → Ly n1 w5 lb c L) := fun w5 t5 => HP.out.p.ly.below (t5.below HP.out.p.bo.rm.hsz HP.out.p.bo.rm.lo_pF)
 have Hlen : Hid (L.length ≤ 400 ∧ n1 ≤ v.heap.size ∧ InI oA ∧ InI oC) := ⟨HP.out.p.lok.len, HP.out.p.bo.rm.hsz, Hok.out.a, Hok.out.c⟩
 have Hnp : Hid (pb ∉ pF sb b g mb lv ++ dF vb rb rg rl) := HP.out.p.np
 have HXn : Hid (X ∉ pF sb b g mb lv) := fun hm => by have := HF.out X (List.mem_cons_of_mem _ (List.mem_append.2 (.inl hm))); omega
 have k0 : v.cell? ⟨pb, 0, none⟩ = some (.pointer (some ⟨lb, 0, none⟩)) := HP.out.p.cell 0
 have k3 : v.cell? ⟨pb, 3, none⟩ = some (.pointer (some ⟨rb, 0, none⟩)) := HP.out.p.cell 3
 refine Kg.below_call 20 Kg.mixed (by kernel_rfl) ?_
 simp only [List.take_succ_cons, List.take_zero, List.drop_succ_cons, List.drop_zero]
 repeat (go_big_quiet_step (first | with_reducible exact Kg.calls_bel (HPa.out _) | with_reducible exact Kg.calls_bel (HPc.out _)))
 refine wpQuiet_nil ?_
 rintro v4 ⟨⟨_, b4⟩, rfl⟩
 have HP4 : Hid (Px w1 v4 n1 bb m (aF pb sb b g mb lv vb rb rg rl) (fun w => Pm w1 n1 w pb lb sb b g mb lv vb rb rg rl bb c L x sw ws th l n (1000 * (m : Int))) [none]) := HP.out.below b4
 have hst := HP4.out.p.bo.setPtr (plc L oA) oB (plc L oC) hz0 hz2
 have L4 : Hid (Below v.heap.size v v4) := b4
 clear z0 z1 y1 y2 y3 hinh HPa HPc b4
 go_wp2_with fail
 refine hst.mono ?_
 rintro e w5 ⟨d, rfl, t5, hd⟩
 have T5 : Hid (Touch (pF sb b g mb lv) v w5) := (Touch.of_below L4.out _).trans t5
 have Hd : Hid (∀ wb, Below w5.heap.size w5 wb → Calls Tryz.prog 29 #[.pointer (some ⟨rb, 0, none⟩), .int .i64 (plc L oA), .int .i64 oB, .int .i64 (plc L oC)] wb fun e wc => e = .returned (.bool d) ∧ Nz6 w1 n1 v4 sb b g mb lv vb rb rg rl c th n wc) := hd
 clear hst t5 hd
 go_wp2_with fail
 refine Kg.thenQuiet_mk ?_
 repeat (go_big_quiet_step (fail))
 refine wpQuiet_nil ?_
 go_upto_region 22 with fail
 have hb5 : ∀ q, q ∉ pF sb b g mb lv → q < v.heap.size → ∀ (j : Nat) u, v.cell? ⟨q, j, none⟩ = some u → ∀ p : Kg.Bel w5, p.v.cell? ⟨q, j, none⟩ = some u := fun q h1 h2 j u hu p => ((p.h.cell (p := ⟨q, j, none⟩) (Nat.lt_of_lt_of_le h2 T5.out.size)).trans (World.cell?_of_block (w := v) (T5.out.block q h2 h1))).trans hu
 have hpn : pb ∉ pF sb b g mb lv := fun hm => Hnp.out (List.mem_append.2 (.inl hm))
 have z0 := hb5 pb hpn hpl 0 _ k0
 have z3 := hb5 pb hpn hpl 3 _ k3
 have y1 := hb5 X HXn.out hXl 1 _ x1
 have y2 := hb5 X HXn.out hXl 2 _ x2
 have y3 := hb5 X HXn.out hXl 3 _ x3
 haveI hinh : Inhabited (Kg.Bel w5) := ⟨⟨w5, Below.refl _ _⟩⟩
 have HPa : Hid (∀ p : Kg.Bel w5, Calls Tryz.prog 13 #[.pointer (some ⟨lb, 0, none⟩), .int .i64 oA] p.v fun e w' => e = .returned (.int .i64 (plc L oA)) ∧ Below p.v.heap.size p.v w') := fun p => place_any ((Hly.out w5 T5.out).below (p.h.mono (Nat.le_trans Hlen.out.2.1 T5.out.size))) (Nat.le_trans Hlen.out.2.1 (Nat.le_trans T5.out.size p.h.size)) Hlen.out.1 oA Hlen.out.2.2.1
 have HPc : Hid (∀ p : Kg.Bel w5, Calls Tryz.prog 13 #[.pointer (some ⟨lb, 0, none⟩), .int .i64 oC] p.v fun e w' => e = .returned (.int .i64 (plc L oC)) ∧ Below p.v.heap.size p.v w') := fun p => place_any ((Hly.out w5 T5.out).below (p.h.mono (Nat.le_trans Hlen.out.2.1 T5.out.size))) (Nat.le_trans Hlen.out.2.1 (Nat.le_trans T5.out.size p.h.size)) Hlen.out.1 oC Hlen.out.2.2.2
 clear hb5 hpn k0 k3 x0 x1 x2 x3 x4
 refine Kg.float_tail 21 0 { dst := some 135, op := Op.move (Operand.tmp 9), type := 4, pos := "exact.go:208", after := #[], guard := none } rfl Kg.mixed (by kernel_rfl) ?_
 simp only [List.take_succ_cons, List.take_zero, List.drop_succ_cons, List.drop_zero, Nat.reduceAdd]
 refine wpQuiet_nil ⟨.bool d, .inl ⟨rfl, fun w => ?_⟩, ?_⟩
 ·simp [execOp, go_sem]
 simp only [Act.put, List.setIfInBounds_toArray, List.set_cons_succ, List.set_cons_zero]
 repeat (go_big_quiet_step (first | with_reducible exact Kg.calls_bel (HPa.out _) | with_reducible exact Kg.calls_bel (HPc.out _)))
 refine wpQuiet_nil ?_
 rintro v6 ⟨⟨_, b6⟩, rfl⟩
 have hd6 := Hd.out v6 b6
 clear z0 z3 y1 y2 y3 hinh HPa HPc b6
 go_wp2_with fail
 refine hd6.mono ?_
 rintro e w7 ⟨rfl, hN⟩
 have SE : Hid (Ps w1 n1 w7 pb lb sb b g mb vb rb rg bb c L m (n + 4194304)) := (HP4.out.nz hN).mono (by omega)
 clear hd6 hN
 have hdd : (d == d) = true := by cases d <;> rfl
 go_wp2_with fail
 refine NoPanic.normal ?_
 go_wp2
 go_ret
 exact ⟨rfl, m, by omega, SE.out⟩
end
section
variable {w1 w w' : World} {n1 pb lb sb b g mb n n' : Nat} {lv lv' : Value} {c : Cfg} {L : List LT} {x x' : Tps} {sw sw' : Bool} {ws ws' : Nat → Int} {th th' : List Tng} {l l' : List Int} {vb rb bb m : Nat} {rg : Nat → Nat} {rl rl' : Value}
theorem step6_put (S : Ps w1 n1 w pb lb sb b g mb vb rb rg bb c L m n) (hn : n ≤ 288230376151711744) (hm : m < 200000000) (oA oB oC : Int) (oM : Value) (oL : List Int) (hok : (⟨10, oA, oB, oC, oM, oL⟩ : Op6).Ok n1 w) :
  Calls Tryz.prog 6 #[.pointer (some ⟨pb, 0, none⟩), .agg (ocl 10 oA oB oC oM)] w fun e w' => e = .returned (.bool true) ∧ ∃ m', m' ≤ m + 3 ∧ Ps w1 n1 w' pb lb sb b g mb vb rb rg bb c L m' (n + 4194304) := by
 obtain ⟨lv, rl, x, sw, ws, th, l, P⟩ := S
 have b0 : Below w.heap.size w (w.alloc (.cells (ocl 10 oA oB oC oM) 34)) := Below.alloc (Below.refl _ _) (Nat.le_refl _) _
 have hX := heap_alloc_new w (.cells (ocl 10 oA oB oC oM) 34 (0, 0))
 have HP : Hid (Px w1 (w.alloc (.cells (ocl 10 oA oB oC oM) 34)) n1 bb m (aF pb sb b g mb lv vb rb rg rl) (fun w => Pm w1 n1 w pb lb sb b g mb lv vb rb rg rl bb c L x sw ws th l n (1000 * (m : Int))) [none]) := P.below b0
 have HF : Hid (∀ q, q ∈ aF pb sb b g mb lv vb rb rg rl → q < w.heap.size) := P.s.lt _ P.p
 obtain ⟨⟨ca, cm⟩, rfl⟩ : ∃ z : Option Addr × Nat, oM = .slice z.1 oL.length z.2 := by obtain ⟨a, cap, h, -⟩ := hok.mo; exact ⟨⟨a, cap⟩, h⟩
 have Hok : Hid ((⟨10, oA, oB, oC, .slice ca oL.length cm, oL⟩ : Op6).Ok n1 (w.alloc (.cells (ocl 10 oA oB oC (.slice ca oL.length cm)) 34))) := hok.below (b0.mono P.hb)
 clear P b0 hok
 go_enter Tryz.func6, Tryz.ntmps6
 go_upto_region 1 with fail
 generalize w.alloc (.cells (ocl 10 oA oB oC (.slice ca oL.length cm)) 34) = v at *
 obtain ⟨X, hXe⟩ : ∃ X, X = w.heap.size := ⟨_, rfl⟩
 rw [← hXe] at hX HF ⊢
 clear hXe
 have x0 : v.cell? ⟨X, 0, none⟩ = some (.int .i64 10) := cell_of_row _ _ 0 _ _ _ hX
 have x1 : v.cell? ⟨X, 1, none⟩ = some (.int .i64 oA) := cell_of_row _ _ 1 _ _ _ hX
 have x2 : v.cell? ⟨X, 2, none⟩ = some (.int .i64 oB) := cell_of_row _ _ 2 _ _ _ hX
 have x3 : v.cell? ⟨X, 3, none⟩ = some (.int .i64 oC) := cell_of_row _ _ 3 _ _ _ hX
 have x4 : v.cell? ⟨X, 4, none⟩ = some (.slice ca oL.length cm) := cell_of_row _ _ 4 _ _ _ hX
 have hXl : X < v.heap.size := (Array.getElem?_eq_some_iff.1 hX).1
 go_upto_region 27 with fail
 have b2 : Below v.heap.size v (v.alloc (.cells (hcells 99999 1 oA 0 0 0 false) 38)) := Below.alloc (Below.refl _ _) (Nat.le_refl _) _
 have hY := heap_alloc_new v (.cells (hcells 99999 1 oA 0 0 0 false) 38 (0, 0))
 have HP2 : Hid (Px w1 (v.alloc (.cells (hcells 99999 1 oA 0 0 0 false) 38)) n1 bb m (aF pb sb b g mb lv vb rb rg rl) (fun w => Pm w1 n1 w pb lb sb b g mb lv vb rb rg rl bb c L x sw ws th l n (1000 * (m : Int))) [none]) := HP.out.below b2
 have HYF : Hid (∀ q, q ∈ aF pb sb b g mb lv vb rb rg rl → q < v.heap.size) := fun q hq => Nat.lt_trans (HF.out q hq) hXl
 clear x0 x1 x2 x3 x4 hX hXl HP b2
 generalize v.alloc (.cells (hcells 99999 1 oA 0 0 0 false) 38) = v2 at *
 obtain ⟨Y, hYe⟩ : ∃ Y, Y = v.heap.size := ⟨_, rfl⟩
 rw [← hYe] at hY HYF ⊢
 clear hYe
 have hYl : Y < v2.heap.size := (Array.getElem?_eq_some_iff.1 hY).1
 have hpl : pb < v2.heap.size := HP2.out.p.lt
 have HY : Hid (v2.heap[Y]? = some (.cells (hcells 99999 1 oA 0 0 0 false) 38 (0, 0))) := hY
 have hYc : ∀ (p : Kg.Bel v2) (j : Nat), p.v.cell? ⟨Y, j, none⟩ = (hcells 99999 1 oA 0 0 0 false)[j]? := fun p j => (p.h.cell (p := ⟨Y, j, none⟩) hYl).trans (cell_of_row _ _ j _ _ _ hY)
 have y0 : ∀ p : Kg.Bel v2, p.v.cell? ⟨Y, 0, none⟩ = some (.int .u64 99999) := fun p => hYc p 0
 have y1 : ∀ p : Kg.Bel v2, p.v.cell? ⟨Y, 1, none⟩ = some (.int .i64 1) := fun p => hYc p 1
 have y2 : ∀ p : Kg.Bel v2, p.v.cell? ⟨Y, 2, none⟩ = some (.int .i64 oA) := fun p => hYc p 2
 have y3 : ∀ p : Kg.Bel v2, p.v.cell? ⟨Y, 3, none⟩ = some (.int .i64 0) := fun p => hYc p 3
 have y4 : ∀ p : Kg.Bel v2, p.v.cell? ⟨Y, 4, none⟩ = some (.int .i64 0) := fun p => hYc p 4
 have y5 : ∀ p : Kg.Bel v2, p.v.cell? ⟨Y, 5, none⟩ = some (.int .i64 0) := fun p => hYc p 5
 have y6 : ∀ p : Kg.Bel v2, p.v.cell? ⟨Y, 6, none⟩ = some (.bool false) := fun p => hYc p 6
 haveI hinh : Inhabited (Kg.Bel v2) := ⟨⟨v2, Below.refl _ _⟩⟩
 have z1 : ∀ p : Kg.Bel v2, p.v.cell? ⟨pb, 1, none⟩ = some (.pointer (some ⟨b, 0, none⟩)) := fun p => (p.h.cell (p := ⟨pb, 1, none⟩) hpl).trans (HP2.out.p.cell 1)
 have k3 : v2.cell? ⟨pb, 3, none⟩ = some (.pointer (some ⟨rb, 0, none⟩)) := HP2.out.p.cell 3
 have Hnp : Hid (pb ∉ pF sb b g mb lv ++ dF vb rb rg rl) := HP2.out.p.np
 have HYn : Hid (Y ∉ pF sb b g mb lv) := fun hm => by have := HYF.out Y (List.mem_cons_of_mem _ (List.mem_append.2 (.inl hm))); omega
 clear hYc hY HYF
 refine Kg.below_call 5 Kg.mixed (by kernel_rfl) ?_
 simp only [List.take_succ_cons, List.take_zero, List.drop_succ_cons, List.drop_zero]
 repeat (go_big_quiet_step (fail))
 refine wpQuiet_nil ?_
 rintro v4 ⟨⟨_, b4⟩, rfl⟩
 have HP4 : Hid (Px w1 v4 n1 bb m (aF pb sb b g mb lv vb rb rg rl) (fun w => Pm w1 n1 w pb lb sb b g mb lv vb rb rg rl bb c L x sw ws th l n (1000 * (m : Int))) [none]) := HP2.out.below b4
 have hst := HP4.out.p.bo.put oA
 have L4 : Hid (Below v2.heap.size v2 v4) := b4
 clear z1 y0 y1 y2 y3 y4 y5 y6 hinh b4
 go_wp2_with fail
 refine hst.mono ?_
 rintro e w5 ⟨r, d, rfl, t5, hd⟩
 have T5 : Hid (Touch (pF sb b g mb lv) v2 w5) := (Touch.of_below L4.out _).trans t5
 have Hd : Hid (∀ wb, Below w5.heap.size w5 wb → Calls Tryz.prog 31 #[.pointer (some ⟨rb, 0, none⟩), .int .i64 4, hv 99999 1 oA 0 0 0 false] wb fun e wc => e = .returned (.tuple #[.int .i64 r, .bool d]) ∧ Nz6 w1 n1 v4 sb b g mb lv vb rb rg rl c th n wc) := hd
 clear hst t5 hd
 go_wp2_with fail
 refine Kg.thenQuiet_mk ?_
 repeat (go_big_quiet_step (fail))
 refine wpQuiet_nil ?_
 go_upto_region 28 with fail
 have hpn : pb ∉ pF sb b g mb lv := fun hm => Hnp.out (List.mem_append.2 (.inl hm))
 have hY5 : w5.heap[Y]? = some (.cells (hcells 99999 1 oA 0 0 0 false) 38 (0, 0)) := (T5.out.block Y hYl HYn.out).trans HY.out
 have hYl5 : Y < w5.heap.size := (Array.getElem?_eq_some_iff.1 hY5).1
 have hYc : ∀ (p : Kg.Bel w5) (j : Nat), p.v.cell? ⟨Y, j, none⟩ = (hcells 99999 1 oA 0 0 0 false)[j]? := fun p j => (p.h.cell (p := ⟨Y, j, none⟩) hYl5).trans (cell_of_row _ _ j _ _ _ hY5)
 have y0 : ∀ p : Kg.Bel w5, p.v.cell? ⟨Y, 0, none⟩ = some (.int .u64 99999) := fun p => hYc p 0
 have y1 : ∀ p : Kg.Bel w5, p.v.cell? ⟨Y, 1, none⟩ = some (.int .i64 1) := fun p => hYc p 1
 have y2 : ∀ p : Kg.Bel w5, p.v.cell? ⟨Y, 2, none⟩ = some (.int .i64 oA) := fun p => hYc p 2
 have y3 : ∀ p : Kg.Bel w5, p.v.cell? ⟨Y, 3, none⟩ = some (.int .i64 0) := fun p => hYc p 3
 have y4 : ∀ p : Kg.Bel w5, p.v.cell? ⟨Y, 4, none⟩ = some (.int .i64 0) := fun p => hYc p 4
 have y5 : ∀ p : Kg.Bel w5, p.v.cell? ⟨Y, 5, none⟩ = some (.int .i64 0) := fun p => hYc p 5
 have y6 : ∀ p : Kg.Bel w5, p.v.cell? ⟨Y, 6, none⟩ = some (.bool false) := fun p => hYc p 6
 have hpl5 : pb < w5.heap.size := Nat.lt_of_lt_of_le hpl T5.out.size
 have k35 : w5.cell? ⟨pb, 3, none⟩ = some (.pointer (some ⟨rb, 0, none⟩)) := (World.cell?_of_block (w := v2) (T5.out.block pb hpl hpn)).trans k3
 have z3 : ∀ p : Kg.Bel w5, p.v.cell? ⟨pb, 3, none⟩ = some (.pointer (some ⟨rb, 0, none⟩)) := fun p => (p.h.cell (p := ⟨pb, 3, none⟩) hpl5).trans k35
 haveI hinh : Inhabited (Kg.Bel w5) := ⟨⟨w5, Below.refl _ _⟩⟩
 clear hYc hY5 hpn k3 k35
 refine Kg.below_call 5 Kg.mixed (by kernel_rfl) ?_
 simp only [List.take_succ_cons, List.take_zero, List.drop_succ_cons, List.drop_zero]
 repeat (go_big_quiet_step (fail))
 refine wpQuiet_nil ?_
 rintro v6 ⟨⟨_, b6⟩, rfl⟩
 have hd6 := Hd.out v6 b6
 clear z3 y0 y1 y2 y3 y4 y5 y6 hinh b6
 go_wp2_with fail
 refine hd6.mono ?_
 rintro e w7 ⟨rfl, hN⟩
 have SE : Hid (Ps w1 n1 w7 pb lb sb b g mb vb rb rg bb c L m (n + 4194304)) := (HP4.out.nz hN).mono (by omega)
 clear hd6 hN
 have hdd : (d == d) = true := by cases d <;> rfl
 go_wp2_with fail
 refine Kg.thenQuiet_mk ?_
 repeat (go_big_quiet_step (fail))
 refine wpQuiet_nil ?_
 go_wp2
 go_ret
 exact ⟨rfl, m, by omega, SE.out⟩
end
end Go.Proofs.YtlkengnefhhppaaGreatDoor
