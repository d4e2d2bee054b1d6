import Derived.Test.YtlkengnefhhppaaGreatDoorPQe
import Derived.Test.YtlkengnefhhppaaGreatDoorPQf
set_option linter.unusedVariables false
set_option maxHeartbeats 8000000
set_option maxRecDepth 20000
namespace Go.Proofs.YtlkengnefhhppaaGreatDoor
open Go.RowKit Go.Shelf
structure Op6 where
 k : Int
 a : Int
 b : Int
 c : Int
 mv : Value
 more : List Int
abbrev ocl (k a b c : Int) (mv : Value) : Array Value := #[.int .i64 k, .int .i64 a, .int .i64 b, .int .i64 c, mv]
structure Op6.Ok (n1 : Nat) (w : World) (o : Op6) : Prop where
 a : InI o.a
 b : InI o.b
 c : InI o.c
 mo : Lrd n1 w o.mv .i64 o.more
 mi : ∀ z, z ∈ o.more → InI z
 ml : o.more.length ≤ 1048576
theorem Op6.Ok.below {n1 : Nat} {w w' : World} {o : Op6} (h : o.Ok n1 w) (l : Below n1 w w') : o.Ok n1 w' := ⟨h.a, h.b, h.c, h.mo.below l, h.mi, h.ml⟩
section
variable {w1 w w' : World} {n1 pb lb sb b g mb n n' : Nat} {lv lv' : Value} {c : Cfg} {L : List LT} {x x' : Tps} {sw sw' : Bool} {ws ws' : Nat → Int} {th th' : List Tng} {l l' : List Int} {vb rb bb m : Nat} {rg : Nat → Nat} {rl rl' : Value}
theorem Px.nz (h : Px w1 w n1 bb m (aF pb sb b g mb lv vb rb rg rl) (fun w => Pm w1 n1 w pb lb sb b g mb lv vb rb rg rl bb c L x sw ws th l n (1000 * (m : Int))) [none]) (hN : Nz6 w1 n1 w sb b g mb lv vb rb rg rl c th n w') : Ps w1 n1 w' pb lb sb b g mb vb rb rg bb c L m n := by
 obtain ⟨x', sw', ws', th', l', B, t, hat⟩ := hN
 exact ⟨lv, rl, x', sw', ws', th', l', h.next B t (Kg.Newer.refl _ _) hat⟩
theorem Lrd.frd {w : World} {F : List Nat} {v : Value} {xs : List Int} (h : Lrd n1 w v .i64 xs) (hn : n1 ≤ w.heap.size) (hF : ∀ q, q ∈ F → n1 ≤ q) : Frd w F v xs := by
 obtain ⟨a, cap, h1, h2, h3⟩ := h
 refine ⟨a, cap, h1, h2, fun f z hz => ?_⟩
 obtain ⟨q, off, e1, e2, e3⟩ := h3 f z hz
 exact ⟨q, off, e1, by omega, fun hm => by have := hF q hm; omega, e3⟩
theorem row_frd {w : World} {F : List Nat} {v : Value} {xs : List Int} {B : Nat} (h : w.ownsRow B 3 1 v xs.length (ints xs)) (hF : ∀ q, q ∈ F → q < B) : Frd w F v xs := by
 obtain ⟨a, cap, h1, h2, h3⟩ := row_at (row_zero0 h) (by decide)
 refine ⟨a, cap, h1, h2, fun f z hz => ?_⟩
 obtain ⟨q, e1, e2, e3⟩ := h3 f (.int .i64 z) (by rw [List.getElem?_map, hz]; rfl)
 refine ⟨q, 0, e1, e2, fun hm => ?_, by rw [Nat.zero_add]; exact e3⟩
 have hB := row_ge h q (by rw [h1, e1]; rfl)
 have := hF q hm
 omega
theorem plc_in_p2 {mark : Int} (H : Pm w1 n1 w pb lb sb b g mb lv vb rb rg rl bb c L x sw ws th l n mark) (z : Int) : 0 ≤ plc L z ∧ plc L z < 1000000 := by
 rcases H.pz z with h | ⟨T, h1, h2⟩
 ·omega
 ·have := H.bo.dx.rx.hp.pos w h1
  omega
theorem step6_none (S : Ps w1 n1 w pb lb sb b g mb vb rb rg bb c L m n) (hn : n ≤ 288230376151711744) (hm : m < 200000000) (oK oA oB oC : Int) (oM : Value) (oL : List Int) (hok : (⟨oK, oA, oB, oC, oM, oL⟩ : Op6).Ok n1 w) (h1 : oK ≠ 1) (h2 : oK ≠ 2) (h3 : oK ≠ 3) (h4 : oK ≠ 4) (h5 : oK ≠ 5) (h6 : oK ≠ 6) (h7 : oK ≠ 7) (h8 : oK ≠ 8) (h9 : oK ≠ 9) (h10 : oK ≠ 10) :
  Calls Tryz.prog 6 #[.pointer (some ⟨pb, 0, none⟩), .agg (ocl oK oA oB oC oM)] w fun e w' => e = .returned (.bool true) ∧ ∃ m', m' ≤ m + 3 ∧ Ps w1 n1 w' pb lb sb b g mb vb rb rg bb c L m' (n + 4194304) := by
 obtain ⟨lv, rl, x, sw, ws, th, l, P⟩ := S
 have b0 : Below w.heap.size w (w.alloc (.cells (ocl oK oA oB oC oM) 34)) := Below.alloc (Below.refl _ _) (Nat.le_refl _) _
 have hX := heap_alloc_new w (.cells (ocl oK oA oB oC oM) 34 (0, 0))
 have HP : Hid (Px w1 (w.alloc (.cells (ocl oK oA oB oC oM) 34)) n1 bb m (aF pb sb b g mb lv vb rb rg rl) (fun w => Pm w1 n1 w pb lb sb b g mb lv vb rb rg rl bb c L x sw ws th l n (1000 * (m : Int))) [none]) := P.below b0
 have HF : Hid (∀ q, q ∈ aF pb sb b g mb lv vb rb rg rl → q < w.heap.size) := P.s.lt _ P.p
 obtain ⟨⟨ca, cm⟩, rfl⟩ : ∃ z : Option Addr × Nat, oM = .slice z.1 oL.length z.2 := by obtain ⟨a, cap, h, -⟩ := hok.mo; exact ⟨⟨a, cap⟩, h⟩
 have Hok : Hid ((⟨oK, oA, oB, oC, .slice ca oL.length cm, oL⟩ : Op6).Ok n1 (w.alloc (.cells (ocl oK oA oB oC (.slice ca oL.length cm)) 34))) := hok.below (b0.mono P.hb)
 clear P b0 hok
 go_enter Tryz.func6, Tryz.ntmps6
 go_upto_region 1 with fail
 generalize w.alloc (.cells (ocl oK oA oB oC (.slice ca oL.length cm)) 34) = v at *
 obtain ⟨X, hXe⟩ : ∃ X, X = w.heap.size := ⟨_, rfl⟩
 rw [← hXe] at hX HF ⊢
 clear hXe
 have x0 : v.cell? ⟨X, 0, none⟩ = some (.int .i64 oK) := cell_of_row _ _ 0 _ _ _ hX
 have x1 : v.cell? ⟨X, 1, none⟩ = some (.int .i64 oA) := cell_of_row _ _ 1 _ _ _ hX
 have x2 : v.cell? ⟨X, 2, none⟩ = some (.int .i64 oB) := cell_of_row _ _ 2 _ _ _ hX
 have x3 : v.cell? ⟨X, 3, none⟩ = some (.int .i64 oC) := cell_of_row _ _ 3 _ _ _ hX
 have x4 : v.cell? ⟨X, 4, none⟩ = some (.slice ca oL.length cm) := cell_of_row _ _ 4 _ _ _ hX
 have hXl : X < v.heap.size := (Array.getElem?_eq_some_iff.1 hX).1
 have SE : Hid (Ps w1 n1 v pb lb sb b g mb vb rb rg bb c L m (n + 4194304)) := Ps.mono ⟨lv, rl, x, sw, ws, th, l, HP.out⟩ (by omega)
 have e1 : (oK == 1) = false := by simpa using h1
 have e2 : (oK == 2) = false := by simpa using h2
 have e3 : (oK == 3) = false := by simpa using h3
 have e4 : (oK == 4) = false := by simpa using h4
 have e5 : (oK == 5) = false := by simpa using h5
 have e6 : (oK == 6) = false := by simpa using h6
 have e7 : (oK == 7) = false := by simpa using h7
 have e8 : (oK == 8) = false := by simpa using h8
 have e9 : (oK == 9) = false := by simpa using h9
 have e10 : (oK == 10) = false := by simpa using h10
 clear h1 h2 h3 h4 h5 h6 h7 h8 h9 h10
 go_wp2
 go_ret
 exact ⟨rfl, m, by omega, SE.out⟩
theorem step6_store (S : Ps w1 n1 w pb lb sb b g mb vb rb rg bb c L m n) (hn : n ≤ 288230376151711744) (hm : m < 200000000) (oA oB oC : Int) (oM : Value) (oL : List Int) (hok : (⟨1, oA, oB, oC, oM, oL⟩ : Op6).Ok n1 w) :
  Calls Tryz.prog 6 #[.pointer (some ⟨pb, 0, none⟩), .agg (ocl 1 oA oB oC oM)] w fun e w' => e = .returned (.bool true) ∧ ∃ m', m' ≤ m + 3 ∧ Ps w1 n1 w' pb lb sb b g mb vb rb rg bb c L m' (n + 4194304) := by
 obtain ⟨lv, rl, x, sw, ws, th, l, P⟩ := S
 have b0 : Below w.heap.size w (w.alloc (.cells (ocl 1 oA oB oC oM) 34)) := Below.alloc (Below.refl _ _) (Nat.le_refl _) _
 have hX := heap_alloc_new w (.cells (ocl 1 oA oB oC oM) 34 (0, 0))
 have HP : Hid (Px w1 (w.alloc (.cells (ocl 1 oA oB oC oM) 34)) n1 bb m (aF pb sb b g mb lv vb rb rg rl) (fun w => Pm w1 n1 w pb lb sb b g mb lv vb rb rg rl bb c L x sw ws th l n (1000 * (m : Int))) [none]) := P.below b0
 have HF : Hid (∀ q, q ∈ aF pb sb b g mb lv vb rb rg rl → q < w.heap.size) := P.s.lt _ P.p
 obtain ⟨⟨ca, cm⟩, rfl⟩ : ∃ z : Option Addr × Nat, oM = .slice z.1 oL.length z.2 := by obtain ⟨a, cap, h, -⟩ := hok.mo; exact ⟨⟨a, cap⟩, h⟩
 have Hok : Hid ((⟨1, oA, oB, oC, .slice ca oL.length cm, oL⟩ : Op6).Ok n1 (w.alloc (.cells (ocl 1 oA oB oC (.slice ca oL.length cm)) 34))) := hok.below (b0.mono P.hb)
 clear P b0 hok
 go_enter Tryz.func6, Tryz.ntmps6
 go_upto_region 1 with fail
 generalize w.alloc (.cells (ocl 1 oA oB oC (.slice ca oL.length cm)) 34) = v at *
 obtain ⟨X, hXe⟩ : ∃ X, X = w.heap.size := ⟨_, rfl⟩
 rw [← hXe] at hX HF ⊢
 clear hXe
 have x0 : v.cell? ⟨X, 0, none⟩ = some (.int .i64 1) := cell_of_row _ _ 0 _ _ _ hX
 have x1 : v.cell? ⟨X, 1, none⟩ = some (.int .i64 oA) := cell_of_row _ _ 1 _ _ _ hX
 have x2 : v.cell? ⟨X, 2, none⟩ = some (.int .i64 oB) := cell_of_row _ _ 2 _ _ _ hX
 have x3 : v.cell? ⟨X, 3, none⟩ = some (.int .i64 oC) := cell_of_row _ _ 3 _ _ _ hX
 have x4 : v.cell? ⟨X, 4, none⟩ = some (.slice ca oL.length cm) := cell_of_row _ _ 4 _ _ _ hX
 have hXl : X < v.heap.size := (Array.getElem?_eq_some_iff.1 hX).1
 go_upto_region 3 with fail
 haveI hinh : Inhabited (Kg.Bel v) := ⟨⟨v, Below.refl _ _⟩⟩
 have hpl : pb < v.heap.size := HP.out.p.lt
 have z0 : ∀ p : Kg.Bel v, p.v.cell? ⟨pb, 0, none⟩ = some (.pointer (some ⟨lb, 0, none⟩)) := fun p => (p.h.cell (p := ⟨pb, 0, none⟩) hpl).trans (HP.out.p.cell 0)
 have z1 : ∀ p : Kg.Bel v, p.v.cell? ⟨pb, 1, none⟩ = some (.pointer (some ⟨b, 0, none⟩)) := fun p => (p.h.cell (p := ⟨pb, 1, none⟩) hpl).trans (HP.out.p.cell 1)
 have y1 : ∀ p : Kg.Bel v, p.v.cell? ⟨X, 1, none⟩ = some (.int .i64 oA) := fun p => (p.h.cell (p := ⟨X, 1, none⟩) hXl).trans x1
 have y2 : ∀ p : Kg.Bel v, p.v.cell? ⟨X, 2, none⟩ = some (.int .i64 oB) := fun p => (p.h.cell (p := ⟨X, 2, none⟩) hXl).trans x2
 have y3 : ∀ p : Kg.Bel v, p.v.cell? ⟨X, 3, none⟩ = some (.int .i64 oC) := fun p => (p.h.cell (p := ⟨X, 3, none⟩) hXl).trans x3
 have HPa : Hid (∀ p : Kg.Bel v, Calls Tryz.prog 13 #[.pointer (some ⟨lb, 0, none⟩), .int .i64 oA] p.v fun e w' => e = .returned (.int .i64 (plc L oA)) ∧ Below p.v.heap.size p.v w') := fun p => place_any (HP.out.p.below p.h).ly (HP.out.p.below p.h).bo.rm.hsz HP.out.p.lok.len oA Hok.out.a
 have HPc : Hid (∀ p : Kg.Bel v, Calls Tryz.prog 13 #[.pointer (some ⟨lb, 0, none⟩), .int .i64 oC] p.v fun e w' => e = .returned (.int .i64 (plc L oC)) ∧ Below p.v.heap.size p.v w') := fun p => place_any (HP.out.p.below p.h).ly (HP.out.p.below p.h).bo.rm.hsz HP.out.p.lok.len oC Hok.out.c
 clear x0 x1 x2 x3 x4 hX
 refine Kg.below_call 17 Kg.mixed (by kernel_rfl) ?_
 simp only [List.take_succ_cons, List.take_zero, List.drop_succ_cons, List.drop_zero]
 repeat (go_big_quiet_step (first | with_reducible exact Kg.calls_bel (HPa.out _) | with_reducible exact Kg.calls_bel (HPc.out _)))
 refine wpQuiet_nil ?_
 rintro v4 ⟨⟨_, b4⟩, rfl⟩
 have hst := store6_any ⟨lv, rl, x, sw, ws, th, l, HP.out.below b4⟩ (by omega) (plc L oA) oB (plc L oC)
 clear z0 z1 y1 y2 y3 hinh HPa HPc b4
 go_wp2_with fail
 refine hst.mono ?_
 rintro e w5 ⟨rfl, S5⟩
 have SE : Hid (Ps w1 n1 w5 pb lb sb b g mb vb rb rg bb c L m (n + 4194304)) := S5.mono (by omega)
 clear hst S5
 go_wp2_with fail
 refine Kg.thenQuiet_mk ?_
 repeat (go_big_quiet_step (fail))
 refine wpQuiet_nil ?_
 go_wp2
 go_ret
 exact ⟨rfl, m, by omega, SE.out⟩
theorem step6_at (S : Ps w1 n1 w pb lb sb b g mb vb rb rg bb c L m n) (hn : n ≤ 288230376151711744) (hm : m < 200000000) (oA oB oC : Int) (oM : Value) (oL : List Int) (hok : (⟨2, oA, oB, oC, oM, oL⟩ : Op6).Ok n1 w) :
  Calls Tryz.prog 6 #[.pointer (some ⟨pb, 0, none⟩), .agg (ocl 2 oA oB oC oM)] w fun e w' => e = .returned (.bool true) ∧ ∃ m', m' ≤ m + 3 ∧ Ps w1 n1 w' pb lb sb b g mb vb rb rg bb c L m' (n + 4194304) := by
 obtain ⟨lv, rl, x, sw, ws, th, l, P⟩ := S
 have b0 : Below w.heap.size w (w.alloc (.cells (ocl 2 oA oB oC oM) 34)) := Below.alloc (Below.refl _ _) (Nat.le_refl _) _
 have hX := heap_alloc_new w (.cells (ocl 2 oA oB oC oM) 34 (0, 0))
 have HP : Hid (Px w1 (w.alloc (.cells (ocl 2 oA oB oC oM) 34)) n1 bb m (aF pb sb b g mb lv vb rb rg rl) (fun w => Pm w1 n1 w pb lb sb b g mb lv vb rb rg rl bb c L x sw ws th l n (1000 * (m : Int))) [none]) := P.below b0
 have HF : Hid (∀ q, q ∈ aF pb sb b g mb lv vb rb rg rl → q < w.heap.size) := P.s.lt _ P.p
 obtain ⟨⟨ca, cm⟩, rfl⟩ : ∃ z : Option Addr × Nat, oM = .slice z.1 oL.length z.2 := by obtain ⟨a, cap, h, -⟩ := hok.mo; exact ⟨⟨a, cap⟩, h⟩
 have Hok : Hid ((⟨2, oA, oB, oC, .slice ca oL.length cm, oL⟩ : Op6).Ok n1 (w.alloc (.cells (ocl 2 oA oB oC (.slice ca oL.length cm)) 34))) := hok.below (b0.mono P.hb)
 clear P b0 hok
 go_enter Tryz.func6, Tryz.ntmps6
 go_upto_region 1 with fail
 generalize w.alloc (.cells (ocl 2 oA oB oC (.slice ca oL.length cm)) 34) = v at *
 obtain ⟨X, hXe⟩ : ∃ X, X = w.heap.size := ⟨_, rfl⟩
 rw [← hXe] at hX HF ⊢
 clear hXe
 have x0 : v.cell? ⟨X, 0, none⟩ = some (.int .i64 2) := cell_of_row _ _ 0 _ _ _ hX
 have x1 : v.cell? ⟨X, 1, none⟩ = some (.int .i64 oA) := cell_of_row _ _ 1 _ _ _ hX
 have x2 : v.cell? ⟨X, 2, none⟩ = some (.int .i64 oB) := cell_of_row _ _ 2 _ _ _ hX
 have x3 : v.cell? ⟨X, 3, none⟩ = some (.int .i64 oC) := cell_of_row _ _ 3 _ _ _ hX
 have x4 : v.cell? ⟨X, 4, none⟩ = some (.slice ca oL.length cm) := cell_of_row _ _ 4 _ _ _ hX
 have hXl : X < v.heap.size := (Array.getElem?_eq_some_iff.1 hX).1
 have hst := store6_any ⟨lv, rl, x, sw, ws, th, l, HP.out⟩ (by omega) oA oB oC
 go_wp2_with fail
 refine hst.mono ?_
 rintro e w5 ⟨rfl, S5⟩
 have SE : Hid (Ps w1 n1 w5 pb lb sb b g mb vb rb rg bb c L m (n + 4194304)) := S5.mono (by omega)
 clear hst S5
 go_wp2
 go_ret
 exact ⟨rfl, m, by omega, SE.out⟩
theorem step6_list (S : Ps w1 n1 w pb lb sb b g mb vb rb rg bb c L m n) (hn : n ≤ 288230376151711744) (hm : m < 200000000) (oA oB oC : Int) (oM : Value) (oL : List Int) (hok : (⟨3, oA, oB, oC, oM, oL⟩ : Op6).Ok n1 w) :
  Calls Tryz.prog 6 #[.pointer (some ⟨pb, 0, none⟩), .agg (ocl 3 oA oB oC oM)] w fun e w' => e = .returned (.bool true) ∧ ∃ m', m' ≤ m + 3 ∧ Ps w1 n1 w' pb lb sb b g mb vb rb rg bb c L m' (n + 4194304) := by
 obtain ⟨lv, rl, x, sw, ws, th, l, P⟩ := S
 have b0 : Below w.heap.size w (w.alloc (.cells (ocl 3 oA oB oC oM) 34)) := Below.alloc (Below.refl _ _) (Nat.le_refl _) _
 have hX := heap_alloc_new w (.cells (ocl 3 oA oB oC oM) 34 (0, 0))
 have HP : Hid (Px w1 (w.alloc (.cells (ocl 3 oA oB oC oM) 34)) n1 bb m (aF pb sb b g mb lv vb rb rg rl) (fun w => Pm w1 n1 w pb lb sb b g mb lv vb rb rg rl bb c L x sw ws th l n (1000 * (m : Int))) [none]) := P.below b0
 have HF : Hid (∀ q, q ∈ aF pb sb b g mb lv vb rb rg rl → q < w.heap.size) := P.s.lt _ P.p
 obtain ⟨⟨ca, cm⟩, rfl⟩ : ∃ z : Option Addr × Nat, oM = .slice z.1 oL.length z.2 := by obtain ⟨a, cap, h, -⟩ := hok.mo; exact ⟨⟨a, cap⟩, h⟩
 have Hok : Hid ((⟨3, oA, oB, oC, .slice ca oL.length cm, oL⟩ : Op6).Ok n1 (w.alloc (.cells (ocl 3 oA oB oC (.slice ca oL.length cm)) 34))) := hok.below (b0.mono P.hb)
 clear P b0 hok
 go_enter Tryz.func6, Tryz.ntmps6
 go_upto_region 1 with fail
 generalize w.alloc (.cells (ocl 3 oA oB oC (.slice ca oL.length cm)) 34) = v at *
 obtain ⟨X, hXe⟩ : ∃ X, X = w.heap.size := ⟨_, rfl⟩
 rw [← hXe] at hX HF ⊢
 clear hXe
 have x0 : v.cell? ⟨X, 0, none⟩ = some (.int .i64 3) := cell_of_row _ _ 0 _ _ _ hX
 have x1 : v.cell? ⟨X, 1, none⟩ = some (.int .i64 oA) := cell_of_row _ _ 1 _ _ _ hX
 have x2 : v.cell? ⟨X, 2, none⟩ = some (.int .i64 oB) := cell_of_row _ _ 2 _ _ _ hX
 have x3 : v.cell? ⟨X, 3, none⟩ = some (.int .i64 oC) := cell_of_row _ _ 3 _ _ _ hX
 have x4 : v.cell? ⟨X, 4, none⟩ = some (.slice ca oL.length cm) := cell_of_row _ _ 4 _ _ _ hX
 have hXl : X < v.heap.size := (Array.getElem?_eq_some_iff.1 hX).1
 have hst := list6_any ⟨lv, rl, x, sw, ws, th, l, HP.out⟩ (by omega)
 go_wp2_with fail
 refine hst.mono ?_
 rintro e w5 ⟨rfl, S5⟩
 have SE : Hid (Ps w1 n1 w5 pb lb sb b g mb vb rb rg bb c L (m + 3) (n + 4194304)) := S5.mono (by omega)
 clear hst S5
 go_wp2
 go_ret
 exact ⟨rfl, m + 3, by omega, SE.out⟩
theorem step6_rebuild (S : Ps w1 n1 w pb lb sb b g mb vb rb rg bb c L m n) (hn : n ≤ 288230376151711744) (hm : m < 200000000) (oA oB oC : Int) (oM : Value) (oL : List Int) (hok : (⟨5, oA, oB, oC, oM, oL⟩ : Op6).Ok n1 w) :
  Calls Tryz.prog 6 #[.pointer (some ⟨pb, 0, none⟩), .agg (ocl 5 oA oB oC oM)] w fun e w' => e = .returned (.bool true) ∧ ∃ m', m' ≤ m + 3 ∧ Ps w1 n1 w' pb lb sb b g mb vb rb rg bb c L m' (n + 4194304) := by
 obtain ⟨lv, rl, x, sw, ws, th, l, P⟩ := S
 have b0 : Below w.heap.size w (w.alloc (.cells (ocl 5 oA oB oC oM) 34)) := Below.alloc (Below.refl _ _) (Nat.le_refl _) _
 have hX := heap_alloc_new w (.cells (ocl 5 oA oB oC oM) 34 (0, 0))
 have HP : Hid (Px w1 (w.alloc (.cells (ocl 5 oA oB oC oM) 34)) n1 bb m (aF pb sb b g mb lv vb rb rg rl) (fun w => Pm w1 n1 w pb lb sb b g mb lv vb rb rg rl bb c L x sw ws th l n (1000 * (m : Int))) [none]) := P.below b0
 have HF : Hid (∀ q, q ∈ aF pb sb b g mb lv vb rb rg rl → q < w.heap.size) := P.s.lt _ P.p
 obtain ⟨⟨ca, cm⟩, rfl⟩ : ∃ z : Option Addr × Nat, oM = .slice z.1 oL.length z.2 := by obtain ⟨a, cap, h, -⟩ := hok.mo; exact ⟨⟨a, cap⟩, h⟩
 have Hok : Hid ((⟨5, oA, oB, oC, .slice ca oL.length cm, oL⟩ : Op6).Ok n1 (w.alloc (.cells (ocl 5 oA oB oC (.slice ca oL.length cm)) 34))) := hok.below (b0.mono P.hb)
 clear P b0 hok
 go_enter Tryz.func6, Tryz.ntmps6
 go_upto_region 1 with fail
 generalize w.alloc (.cells (ocl 5 oA oB oC (.slice ca oL.length cm)) 34) = v at *
 obtain ⟨X, hXe⟩ : ∃ X, X = w.heap.size := ⟨_, rfl⟩
 rw [← hXe] at hX HF ⊢
 clear hXe
 have x0 : v.cell? ⟨X, 0, none⟩ = some (.int .i64 5) := cell_of_row _ _ 0 _ _ _ hX
 have x1 : v.cell? ⟨X, 1, none⟩ = some (.int .i64 oA) := cell_of_row _ _ 1 _ _ _ hX
 have x2 : v.cell? ⟨X, 2, none⟩ = some (.int .i64 oB) := cell_of_row _ _ 2 _ _ _ hX
 have x3 : v.cell? ⟨X, 3, none⟩ = some (.int .i64 oC) := cell_of_row _ _ 3 _ _ _ hX
 have x4 : v.cell? ⟨X, 4, none⟩ = some (.slice ca oL.length cm) := cell_of_row _ _ 4 _ _ _ hX
 have hXl : X < v.heap.size := (Array.getElem?_eq_some_iff.1 hX).1
 have k2 : v.cell? ⟨pb, 2, none⟩ = some (.pointer (some ⟨sb, 0, none⟩)) := HP.out.p.cell 2
 have k4 : v.cell? ⟨pb, 4, none⟩ = some (.pointer (some ⟨vb, 0, none⟩)) := HP.out.p.cell 4
 have Hnp : Hid (pb ∉ pF sb b g mb lv ++ dF vb rb rg rl ∧ pb < v.heap.size) := ⟨HP.out.p.np, HP.out.p.lt⟩
 have hst := HP.out.p.bo.rebuild
 go_wp2_with fail
 refine hst.mono ?_
 rintro e w5 ⟨rfl, t5, hd⟩
 have k4' : w5.cell? ⟨pb, 4, none⟩ = some (.pointer (some ⟨vb, 0, none⟩)) := (World.cell?_of_block (w := v) (t5.block pb Hnp.out.2 (fun hm => Hnp.out.1 (List.mem_append.2 (.inl hm))))).trans k4
 have hd5 := hd w5 (Below.refl _ _)
 clear hst k2 k4 hd t5
 go_wp2_with fail
 refine hd5.mono ?_
 rintro e w6 ⟨rfl, hN⟩
 have SE : Hid (Ps w1 n1 w6 pb lb sb b g mb vb rb rg bb c L m (n + 4194304)) := (HP.out.nx hN).mono (by omega)
 clear hd5 hN
 go_wp2
 go_ret
 exact ⟨rfl, m, by omega, SE.out⟩
theorem step6_missing (S : Ps w1 n1 w pb lb sb b g mb vb rb rg bb c L m n) (hn : n ≤ 288230376151711744) (hm : m < 200000000) (oA oB oC : Int) (oM : Value) (oL : List Int) (hok : (⟨6, oA, oB, oC, oM, oL⟩ : Op6).Ok n1 w) :
  Calls Tryz.prog 6 #[.pointer (some ⟨pb, 0, none⟩), .agg (ocl 6 oA oB oC oM)] w fun e w' => e = .returned (.bool true) ∧ ∃ m', m' ≤ m + 3 ∧ Ps w1 n1 w' pb lb sb b g mb vb rb rg bb c L m' (n + 4194304) := by
 obtain ⟨lv, rl, x, sw, ws, th, l, P⟩ := S
 have b0 : Below w.heap.size w (w.alloc (.cells (ocl 6 oA oB oC oM) 34)) := Below.alloc (Below.refl _ _) (Nat.le_refl _) _
 have hX := heap_alloc_new w (.cells (ocl 6 oA oB oC oM) 34 (0, 0))
 have HP : Hid (Px w1 (w.alloc (.cells (ocl 6 oA oB oC oM) 34)) n1 bb m (aF pb sb b g mb lv vb rb rg rl) (fun w => Pm w1 n1 w pb lb sb b g mb lv vb rb rg rl bb c L x sw ws th l n (1000 * (m : Int))) [none]) := P.below b0
 have HF : Hid (∀ q, q ∈ aF pb sb b g mb lv vb rb rg rl → q < w.heap.size) := P.s.lt _ P.p
 obtain ⟨⟨ca, cm⟩, rfl⟩ : ∃ z : Option Addr × Nat, oM = .slice z.1 oL.length z.2 := by obtain ⟨a, cap, h, -⟩ := hok.mo; exact ⟨⟨a, cap⟩, h⟩
 have Hok : Hid ((⟨6, oA, oB, oC, .slice ca oL.length cm, oL⟩ : Op6).Ok n1 (w.alloc (.cells (ocl 6 oA oB oC (.slice ca oL.length cm)) 34))) := hok.below (b0.mono P.hb)
 clear P b0 hok
 go_enter Tryz.func6, Tryz.ntmps6
 go_upto_region 1 with fail
 generalize w.alloc (.cells (ocl 6 oA oB oC (.slice ca oL.length cm)) 34) = v at *
 obtain ⟨X, hXe⟩ : ∃ X, X = w.heap.size := ⟨_, rfl⟩
 rw [← hXe] at hX HF ⊢
 clear hXe
 have x0 : v.cell? ⟨X, 0, none⟩ = some (.int .i64 6) := cell_of_row _ _ 0 _ _ _ hX
 have x1 : v.cell? ⟨X, 1, none⟩ = some (.int .i64 oA) := cell_of_row _ _ 1 _ _ _ hX
 have x2 : v.cell? ⟨X, 2, none⟩ = some (.int .i64 oB) := cell_of_row _ _ 2 _ _ _ hX
 have x3 : v.cell? ⟨X, 3, none⟩ = some (.int .i64 oC) := cell_of_row _ _ 3 _ _ _ hX
 have x4 : v.cell? ⟨X, 4, none⟩ = some (.slice ca oL.length cm) := cell_of_row _ _ 4 _ _ _ hX
 have hXl : X < v.heap.size := (Array.getElem?_eq_some_iff.1 hX).1
 have k2 : v.cell? ⟨pb, 2, none⟩ = some (.pointer (some ⟨sb, 0, none⟩)) := HP.out.p.cell 2
 have k4 : v.cell? ⟨pb, 4, none⟩ = some (.pointer (some ⟨vb, 0, none⟩)) := HP.out.p.cell 4
 have hpl : pb < v.heap.size := HP.out.p.lt
 have hst := HP.out.p.bo.missing
 go_wp2_with fail
 refine hst.mono ?_
 rintro e w5 ⟨r, d, rfl, l5, hd⟩
 have k4' : w5.cell? ⟨pb, 4, none⟩ = some (.pointer (some ⟨vb, 0, none⟩)) := (l5.cell (p := ⟨pb, 4, none⟩) hpl).trans k4
 have hd5 := hd w5 (Below.refl _ _)
 have L5 : Hid (Below v.heap.size v w5) := l5
 clear hst k2 k4 hd l5
 go_wp2_with fail
 refine hd5.mono ?_
 rintro e w6 ⟨rfl, l6⟩
 have SE : Hid (Ps w1 n1 w6 pb lb sb b g mb vb rb rg bb c L m (n + 4194304)) := Ps.mono ⟨lv, rl, x, sw, ws, th, l, HP.out.below (L5.out.trans (l6.mono L5.out.size))⟩ (by omega)
 clear hd5 l6
 go_wp2
 go_ret
 exact ⟨rfl, m, by omega, SE.out⟩
theorem step6_swap (S : Ps w1 n1 w pb lb sb b g mb vb rb rg bb c L m n) (hn : n ≤ 288230376151711744) (hm : m < 200000000) (oA oB oC : Int) (oM : Value) (oL : List Int) (hok : (⟨7, oA, oB, oC, oM, oL⟩ : Op6).Ok n1 w) :
  Calls Tryz.prog 6 #[.pointer (some ⟨pb, 0, none⟩), .agg (ocl 7 oA oB oC oM)] w fun e w' => e = .returned (.bool true) ∧ ∃ m', m' ≤ m + 3 ∧ Ps w1 n1 w' pb lb sb b g mb vb rb rg bb c L m' (n + 4194304) := by
 obtain ⟨lv, rl, x, sw, ws, th, l, P⟩ := S
 have b0 : Below w.heap.size w (w.alloc (.cells (ocl 7 oA oB oC oM) 34)) := Below.alloc (Below.refl _ _) (Nat.le_refl _) _
 have hX := heap_alloc_new w (.cells (ocl 7 oA oB oC oM) 34 (0, 0))
 have HP : Hid (Px w1 (w.alloc (.cells (ocl 7 oA oB oC oM) 34)) n1 bb m (aF pb sb b g mb lv vb rb rg rl) (fun w => Pm w1 n1 w pb lb sb b g mb lv vb rb rg rl bb c L x sw ws th l n (1000 * (m : Int))) [none]) := P.below b0
 have HF : Hid (∀ q, q ∈ aF pb sb b g mb lv vb rb rg rl → q < w.heap.size) := P.s.lt _ P.p
 obtain ⟨⟨ca, cm⟩, rfl⟩ : ∃ z : Option Addr × Nat, oM = .slice z.1 oL.length z.2 := by obtain ⟨a, cap, h, -⟩ := hok.mo; exact ⟨⟨a, cap⟩, h⟩
 have Hok : Hid ((⟨7, oA, oB, oC, .slice ca oL.length cm, oL⟩ : Op6).Ok n1 (w.alloc (.cells (ocl 7 oA oB oC (.slice ca oL.length cm)) 34))) := hok.below (b0.mono P.hb)
 clear P b0 hok
 go_enter Tryz.func6, Tryz.ntmps6
 go_upto_region 1 with fail
 generalize w.alloc (.cells (ocl 7 oA oB oC (.slice ca oL.length cm)) 34) = v at *
 obtain ⟨X, hXe⟩ : ∃ X, X = w.heap.size := ⟨_, rfl⟩
 rw [← hXe] at hX HF ⊢
 clear hXe
 have x0 : v.cell? ⟨X, 0, none⟩ = some (.int .i64 7) := cell_of_row _ _ 0 _ _ _ hX
 have x1 : v.cell? ⟨X, 1, none⟩ = some (.int .i64 oA) := cell_of_row _ _ 1 _ _ _ hX
 have x2 : v.cell? ⟨X, 2, none⟩ = some (.int .i64 oB) := cell_of_row _ _ 2 _ _ _ hX
 have x3 : v.cell? ⟨X, 3, none⟩ = some (.int .i64 oC) := cell_of_row _ _ 3 _ _ _ hX
 have x4 : v.cell? ⟨X, 4, none⟩ = some (.slice ca oL.length cm) := cell_of_row _ _ 4 _ _ _ hX
 have hXl : X < v.heap.size := (Array.getElem?_eq_some_iff.1 hX).1
 have k1 : v.cell? ⟨pb, 1, none⟩ = some (.pointer (some ⟨b, 0, none⟩)) := HP.out.p.cell 1
 have k3 : v.cell? ⟨pb, 3, none⟩ = some (.pointer (some ⟨rb, 0, none⟩)) := HP.out.p.cell 3
 have Hnp : Hid (pb ∉ pF sb b g mb lv ++ dF vb rb rg rl ∧ pb < v.heap.size) := ⟨HP.out.p.np, HP.out.p.lt⟩
 have hst := HP.out.p.bo.swap
 go_wp2_with fail
 refine hst.mono ?_
 rintro e w5 ⟨rfl, t5, hd⟩
 have k3' : w5.cell? ⟨pb, 3, none⟩ = some (.pointer (some ⟨rb, 0, none⟩)) := (World.cell?_of_block (w := v) (t5.block pb Hnp.out.2 (fun hm => Hnp.out.1 (List.mem_append.2 (.inl hm))))).trans k3
 have hd5 := hd w5 (Below.refl _ _)
 clear hst k1 k3 hd t5
 go_wp2_with fail
 refine hd5.mono ?_
 rintro e w6 ⟨rfl, hN⟩
 have SE : Hid (Ps w1 n1 w6 pb lb sb b g mb vb rb rg bb c L m (n + 4194304)) := (HP.out.nz hN).mono (by omega)
 clear hd5 hN
 go_wp2
 go_ret
 exact ⟨rfl, m, by omega, SE.out⟩
theorem step6_prune (S : Ps w1 n1 w pb lb sb b g mb vb rb rg bb c L m n) (hn : n ≤ 288230376151711744) (hm : m < 200000000) (oA oB oC : Int) (oM : Value) (oL : List Int) (hok : (⟨9, oA, oB, oC, oM, oL⟩ : Op6).Ok n1 w) :
  Calls Tryz.prog 6 #[.pointer (some ⟨pb, 0, none⟩), .agg (ocl 9 oA oB oC oM)] w fun e w' => e = .returned (.bool true) ∧ ∃ m', m' ≤ m + 3 ∧ Ps w1 n1 w' pb lb sb b g mb vb rb rg bb c L m' (n + 4194304) := by
 obtain ⟨lv, rl, x, sw, ws, th, l, P⟩ := S
 have b0 : Below w.heap.size w (w.alloc (.cells (ocl 9 oA oB oC oM) 34)) := Below.alloc (Below.refl _ _) (Nat.le_refl _) _
 have hX := heap_alloc_new w (.cells (ocl 9 oA oB oC oM) 34 (0, 0))
 have HP : Hid (Px w1 (w.alloc (.cells (ocl 9 oA oB oC oM) 34)) n1 bb m (aF pb sb b g mb lv vb rb rg rl) (fun w => Pm w1 n1 w pb lb sb b g mb lv vb rb rg rl bb c L x sw ws th l n (1000 * (m : Int))) [none]) := P.below b0
 have HF : Hid (∀ q, q ∈ aF pb sb b g mb lv vb rb rg rl → q < w.heap.size) := P.s.lt _ P.p
 obtain ⟨⟨ca, cm⟩, rfl⟩ : ∃ z : Option Addr × Nat, oM = .slice z.1 oL.length z.2 := by obtain ⟨a, cap, h, -⟩ := hok.mo; exact ⟨⟨a, cap⟩, h⟩
 have Hok : Hid ((⟨9, oA, oB, oC, .slice ca oL.length cm, oL⟩ : Op6).Ok n1 (w.alloc (.cells (ocl 9 oA oB oC (.slice ca oL.length cm)) 34))) := hok.below (b0.mono P.hb)
 clear P b0 hok
 go_enter Tryz.func6, Tryz.ntmps6
 go_upto_region 1 with fail
 generalize w.alloc (.cells (ocl 9 oA oB oC (.slice ca oL.length cm)) 34) = v at *
 obtain ⟨X, hXe⟩ : ∃ X, X = w.heap.size := ⟨_, rfl⟩
 rw [← hXe] at hX HF ⊢
 clear hXe
 have x0 : v.cell? ⟨X, 0, none⟩ = some (.int .i64 9) := cell_of_row _ _ 0 _ _ _ hX
 have x1 : v.cell? ⟨X, 1, none⟩ = some (.int .i64 oA) := cell_of_row _ _ 1 _ _ _ hX
 have x2 : v.cell? ⟨X, 2, none⟩ = some (.int .i64 oB) := cell_of_row _ _ 2 _ _ _ hX
 have x3 : v.cell? ⟨X, 3, none⟩ = some (.int .i64 oC) := cell_of_row _ _ 3 _ _ _ hX
 have x4 : v.cell? ⟨X, 4, none⟩ = some (.slice ca oL.length cm) := cell_of_row _ _ 4 _ _ _ hX
 have hXl : X < v.heap.size := (Array.getElem?_eq_some_iff.1 hX).1
 have hst := prune6_px HP.out (Lrd.frd Hok.out.mo HP.out.p.bo.rm.hsz HP.out.l) Hok.out.mi Hok.out.ml hn
 go_wp2_with fail
 refine hst.mono ?_
 rintro e w5 ⟨rfl, S5⟩
 have SE : Hid (Ps w1 n1 w5 pb lb sb b g mb vb rb rg bb c L m (n + 4194304)) := S5
 clear hst S5
 go_wp2
 go_ret
 exact ⟨rfl, m, by omega, SE.out⟩
end
end Go.Proofs.YtlkengnefhhppaaGreatDoor
