/-
  Walks that are left behind a stop: within one another.
-/
import Derived.Test.YtbdkcelggffneaaGreatDoorAS1
set_option linter.unusedVariables false
namespace Go.Proofs.YtbdkcelggffneaaGreatDoor.Sp
open Go.RowKit Go.Shelf

/-- The second taker's cells are laid anew. -/
def fresh7 (f : Nat → Value) (st mo : Int) : Nat → Value := fun j => if j = 12 then .bool false else if j = 11 then .bool false else if j = 10 then .int .i64 mo else if j = 9 then .int .i64 st else if j = 8 then nilS else if j = 7 then nilS else f j

def lay6 (w : World) (wb : Nat) (st mo : Int) : World := ((((((w.setCell ⟨wb, 7, none⟩ nilS).setCell ⟨wb, 8, none⟩ nilS).setCell ⟨wb, 9, none⟩ (.int .i64 st)).setCell ⟨wb, 10, none⟩ (.int .i64 mo)).setCell ⟨wb, 11, none⟩ (.bool false)).setCell ⟨wb, 12, none⟩ (.bool false)).drew

theorem lay6_eq (w : World) (wb : Nat) (st mo : Int) : ((((((w.setCell ⟨wb, 7, none⟩ nilS).setCell ⟨wb, 8, none⟩ nilS).setCell ⟨wb, 9, none⟩ (.int .i64 st)).setCell ⟨wb, 10, none⟩ (.int .i64 mo)).setCell ⟨wb, 11, none⟩ (.bool false)).setCell ⟨wb, 12, none⟩ (.bool false)).drew = lay6 w wb st mo := rfl

theorem lay6_row {w : World} {wb T N : Nat} {f : Nat → Value} (st mo : Int) (h : w.rowIs wb T N f) : (lay6 w wb st mo).rowIs wb T N (fresh7 f st mo) := by
  have h6 := (((((h.set 7 nilS).set 8 nilS).set 9 (.int .i64 st)).set 10 (.int .i64 mo)).set 11 (.bool false)).set 12 (.bool false)
  have h7 := h6.congr (g := fresh7 f st mo) (fun j _ => by simp only [fresh7])
  unfold lay6
  exact World.rowIs.drew h7

theorem lay6_other (w : World) {wb q : Nat} (st mo : Int) (hq : q ≠ wb) : (lay6 w wb st mo).heap[q]? = w.heap[q]? := by
  have k : ∀ (w : World) (j : Nat) (u : Value), (w.setCell ⟨wb, j, none⟩ u).heap[q]? = w.heap[q]? := fun w j u => Below.heap_setCell _ _ _ _ hq
  unfold lay6
  rw [drew_heap]
  rw [k, k, k, k, k, k]

theorem lay6_touch (w : World) (wb : Nat) (st mo : Int) : Touch [wb] w (lay6 w wb st mo) := by
  have k : ∀ (w : World) (j : Nat) (u : Value), Touch [wb] w (w.setCell ⟨wb, j, none⟩ u) := fun w j u => Touch.setCell _ _ _ (by simp)
  have d : ∀ w : World, Touch [wb] w w.drew := fun w => ⟨rfl, rfl, rfl, Nat.le_refl _, fun _ _ _ => rfl⟩
  unfold lay6
  exact ((((((k w 7 _).trans (k _ 8 _)).trans (k _ 9 _)).trans (k _ 10 _)).trans (k _ 11 _)).trans (k _ 12 _)).trans (d _)

set_option maxRecDepth 4000 in
set_option maxHeartbeats 4000000 in
theorem wtake_first (b g ca cs : Nat) (c : Cfg) (x : Tps) (sw : Bool) (ws : Nat → Int) (S : Int) (l : List Int) (p e : Int) (hp : Past c ws (x.top S) (fst c S) p) (hwk : Walk c ws (x.top S) p l e) (wb : Nat) (f : Nat → Value) (st mo a s k pp r ag t : Int) (h : Bool) (d : Bool) (hd : Hid (d = decide (st = 1))) (hl : ((cutS l st).length : Int) ≤ mo) (hl2 : l.length < 1000000) (hm : 1 ≤ mo)
    (W : World) (hI : It W b g ca cs c x sw ws S) (hO : Off [wb] b g ca cs) (hT : Tk W wb 101 13 1 f st mo [] [] nilS nilS false) (hf0 : f 0 = .func (.func 85) #[] #[.pointer (some ⟨ca, 0, none⟩), .pointer (some ⟨cs, 0, none⟩)])
    (m0 : f 7 = nilS) (m1 : f 8 = nilS) (m2 : f 9 = .int .i64 0) (m3 : f 10 = .int .i64 0) (m4 : f 11 = .bool false) (m5 : f 12 = .bool false) :
    Calls Tryz.prog 53 #[.pointer (some ⟨wb, 0, none⟩), .int .i64 a, hv s k pp r ag t h] W fun r1 W' => r1 = .returned (.bool (!d)) ∧ ∃ f' va vh va2 vh2, Tk W' wb 101 13 1 f' st mo [a] (hcells s k pp r ag t h).toList va vh d ∧ Tk W' wb 101 13 7 f' st mo (cutS l st) (hcl c ws (cutS l st)) va2 vh2 (endS l st) ∧ f' 0 = f 0 ∧ Touch [wb] W W' ∧
      (∀ q, va.ownBlock = some q → W.heap.size ≤ q) ∧ (∀ q, vh.ownBlock = some q → W.heap.size ≤ q) ∧ (∀ q, va2.ownBlock = some q → W.heap.size ≤ q ∧ va.ownBlock ≠ some q) ∧ (∀ q, vh2.ownBlock = some q → W.heap.size ≤ q ∧ vh.ownBlock ≠ some q) := by
  have row0 := hT.row.alloc (.cells (hcells s k pp r ag t h) 31)
  have hb0 : Hb (W.alloc (.cells (hcells s k pp r ag t h) 31)) W.heap.size (hcells s k pp r ag t h) := ⟨heap_alloc_new W _⟩
  have t0 : Below W.heap.size W (W.alloc (.cells (hcells s k pp r ag t h) 31)) := Below.alloc (Below.refl _ _) (Nat.le_refl _) _
  have HT : Hid (Tk W wb 101 13 1 f st mo [] [] nilS nilS false) := hT
  have HI : Hid (It W b g ca cs c x sw ws S) := hI
  have f1 := hT.f0
  have f3 := hT.f2
  have f4 := hT.f3
  simp only [Nat.reduceAdd] at f3 f4
  have hwbl := hT.row.lt
  clear hT hI
  go_enter Tryz.func53, Tryz.ntmps53
  go_upto_region 1 with fail
  generalize (W.alloc (.cells (hcells s k pp r ag t h) 31)) = w0 at *
  have c1 : w0.cell? ⟨wb, 1, none⟩ = some nilS := by rw [row0.cell (i := 1) (by decide), f1]
  have c3 : w0.cell? ⟨wb, 3, none⟩ = some (.int .i64 st) := by rw [row0.cell (i := 3) (by decide), f3]
  have c4 : w0.cell? ⟨wb, 4, none⟩ = some (.int .i64 mo) := by rw [row0.cell (i := 4) (by decide), f4]
  have d7 : w0.cell? ⟨wb, 7, none⟩ = some nilS := by rw [row0.cell (i := 7) (by decide), m0]
  have d8 : w0.cell? ⟨wb, 8, none⟩ = some nilS := by rw [row0.cell (i := 8) (by decide), m1]
  have d9 : w0.cell? ⟨wb, 9, none⟩ = some (.int .i64 0) := by rw [row0.cell (i := 9) (by decide), m2]
  have d10 : w0.cell? ⟨wb, 10, none⟩ = some (.int .i64 0) := by rw [row0.cell (i := 10) (by decide), m3]
  have d11 : w0.cell? ⟨wb, 11, none⟩ = some (.bool false) := by rw [row0.cell (i := 11) (by decide), m4]
  have d12 : w0.cell? ⟨wb, 12, none⟩ = some (.bool false) := by rw [row0.cell (i := 12) (by decide), m5]
  have z7 := row0.frozen 7
  have z8 := row0.frozen 8
  have z9 := row0.frozen 9
  have z10 := row0.frozen 10
  have z11 := row0.frozen 11
  have z12 := row0.frozen 12
  go_upto_region 2 with fail
  refine quiet_tail 14 mixed (by kernel_rfl) ?_
  simp only [List.take_succ_cons, List.take_zero, List.drop_succ_cons, List.drop_zero]
  repeat (go_big_quiet_step (fail))
  refine wpQuiet_nil ?_
  go_upto_region 3 with fail
  have hbw : W.heap.size ≠ wb := by omega
  have hch := lay6_eq w0 wb st mo
  rw [hch]
  clear hch
  have row2 := lay6_row st mo row0
  have hb2 : Hb (lay6 w0 wb st mo) W.heap.size (hcells s k pp r ag t h) := ⟨(lay6_other w0 st mo hbw).trans hb0.at_⟩
  have t2 : Touch [wb] W (lay6 w0 wb st mo) := (Touch.of_below t0 [wb]).trans (lay6_touch w0 wb st mo)
  clear c1 c3 c4 d7 d8 d9 d10 d11 d12 z7 z8 z9 z10 z11 z12 row0 hb0 t0
  generalize lay6 w0 wb st mo = w2 at *
  have c0 : w2.cell? ⟨wb, 0, none⟩ = some (.func (.func 85) #[] #[.pointer (some ⟨ca, 0, none⟩), .pointer (some ⟨cs, 0, none⟩)]) := by rw [row2.cell (i := 0) (by decide), ← hf0]; rfl
  have i2 := (HI.out.touch hO t2).below (below_drewN (Below.refl _ _) 1)
  have k7 : Tk (w2.drewN 1) wb 101 13 7 (fresh7 f st mo) st mo [] [] nilS nilS false := ⟨row2, by decide, rfl, rfl, rfl, rfl, rfl, rfl, World.ownsRow_nil _ _ _ _, World.ownsRow_nil _ _ _ _, by decide, by decide⟩
  have hwt := walk_taker b g ca cs c x sw ws S l p e hp hwk (w2.drewN 1) i2 wb 101 13 7 (fresh7 f st mo) st mo hl hl2 k7 hO
  refine quiet_tail 8 mixed (by kernel_rfl) ?_
  simp only [List.take_succ_cons, List.take_zero, List.drop_succ_cons, List.drop_zero]
  repeat (go_big_quiet_step (fail))
  refine wpQuiet_nil ?_
  go_wp2_with fail
  refine hwt.mono ?_
  rintro r1 w3 ⟨rfl, f3', va2, vh2, k3, hout, t3, hn2, hn3⟩
  clear hwt k7 i2 c0
  have t4 : Touch [wb] w2 w3 := ⟨t3.os, t3.tape, t3.output, t3.size, t3.block⟩
  have hw23 : W.heap.size ≤ w2.heap.size := t2.size
  have hb3 : Hb w3 W.heap.size (hcells s k pp r ag t h) := ⟨(t4.block _ ((Array.getElem?_eq_some_iff.1 hb2.at_).1) (by simp; omega)).trans hb2.at_⟩
  have t5 := t2.trans t4
  have g0 : f3' 0 = f 0 := hout 0 (by omega)
  have k1 : Tk w3 wb 101 13 1 f3' st mo [] [] nilS nilS false := ⟨k3.row, by decide, (hout 1 (by omega)).trans HT.out.f0, (hout 2 (by omega)).trans HT.out.f1, (hout 3 (by omega)).trans HT.out.f2, (hout 4 (by omega)).trans HT.out.f3, (hout 5 (by omega)).trans HT.out.f4, (hout 6 (by omega)).trans HT.out.f5, World.ownsRow_nil _ _ _ _, World.ownsRow_nil _ _ _ _, by decide, by decide⟩
  have K3 : Hid (Tk w3 wb 101 13 7 f3' st mo (cutS l st) (hcl c ws (cutS l st)) va2 vh2 (endS l st)) := k3
  have hbl : W.heap.size < w3.heap.size := (Array.getElem?_eq_some_iff.1 hb3.at_).1
  clear t2 t3 hb2 row2 k3
  go_upto_region 4 with fail
  have x0 : w3.cell? ⟨W.heap.size, 0, none⟩ = some (.int .u64 s) := cell_of_row _ _ 0 _ _ _ hb3.at_
  have x1 : w3.cell? ⟨W.heap.size, 1, none⟩ = some (.int .i64 k) := cell_of_row _ _ 1 _ _ _ hb3.at_
  have x2 : w3.cell? ⟨W.heap.size, 2, none⟩ = some (.int .i64 pp) := cell_of_row _ _ 2 _ _ _ hb3.at_
  have x3 : w3.cell? ⟨W.heap.size, 3, none⟩ = some (.int .i64 r) := cell_of_row _ _ 3 _ _ _ hb3.at_
  have x4 : w3.cell? ⟨W.heap.size, 4, none⟩ = some (.int .i64 ag) := cell_of_row _ _ 4 _ _ _ hb3.at_
  have x5 : w3.cell? ⟨W.heap.size, 5, none⟩ = some (.int .i64 t) := cell_of_row _ _ 5 _ _ _ hb3.at_
  have x6 : w3.cell? ⟨W.heap.size, 6, none⟩ = some (.bool h) := cell_of_row _ _ 6 _ _ _ hb3.at_
  refine quiet_tail 5 mixed (by kernel_rfl) ?_
  simp only [List.take_succ_cons, List.take_zero, List.drop_succ_cons, List.drop_zero]
  repeat (go_big_quiet_step (fail))
  refine wpQuiet_nil ?_
  go_wp2_with fail
  have k1d : Tk (w3.drewN 1) wb 101 13 1 f3' st mo [] [] nilS nilS false := k1.keep (fun _ _ => rfl)
  refine (take_any wb 101 13 1 f3' st mo [] [] nilS nilS a s k pp r ag t h d (by
    show d = decide _
    rw [hd.out]
    congr 1
    simp
    omega) (w3.drewN 1) k1d (by simp)).mono ?_
  rintro r1 w4 ⟨rfl, va, vh, k4, t6, hn4, hn5⟩
  clear x0 x1 x2 x3 x4 x5 x6 hb3 k1 k1d
  have t7 : Touch [wb] w3 w4 := ⟨t6.os, t6.tape, t6.output, t6.size, t6.block⟩
  have K4 : Hid (Tk w4 wb 101 13 1 _ st mo ([] ++ [a]) ([] ++ (hcells s k pp r ag t h).toList) va vh d) := k4
  clear k4 t6
  go_wp2
  go_ret
  have hva : ∀ q, va.ownBlock = some q → w3.heap.size ≤ q := fun q hq => (hn4 q hq).resolve_left (by simp [Value.ownBlock])
  have hvh : ∀ q, vh.ownBlock = some q → w3.heap.size ≤ q := fun q hq => (hn5 q hq).resolve_left (by simp [Value.ownBlock])
  have kk := K3.out
  have hneA : ∀ q, va2.ownBlock = some q → q ∉ [wb] := fun q hq hm => by
    simp at hm
    obtain ⟨cs', hcs', -, -⟩ := kk.row
    exact row_ne hcs' kk.ra (by decide) (by rw [hq, hm])
  have hneH : ∀ q, vh2.ownBlock = some q → q ∉ [wb] := fun q hq hm => by
    simp at hm
    obtain ⟨cs', hcs', -, -⟩ := kk.row
    exact row_ne hcs' kk.rh (by decide) (by rw [hq, hm])
  have hla := row_lt kk.ra
  have hlh := row_lt kk.rh
  refine ⟨rfl, _, va, vh, va2, vh2, K4.out, ⟨K4.out.row, by decide, ?_, ?_, ?_, ?_, ?_, ?_, ?_, ?_, by decide, by decide⟩, ?_, t5.trans t7, ?_, ?_, ?_, ?_⟩
  · exact kk.f0
  · exact kk.f1
  · exact kk.f2
  · exact kk.f3
  · exact kk.f4
  · exact kk.f5
  · exact row_keep kk.ra (fun q hq => t7.block q (hla q hq) (hneA q hq))
  · exact row_keep kk.rh (fun q hq => t7.block q (hlh q hq) (hneH q hq))
  · exact g0
  · exact fun q hq => by have := hva q hq; omega
  · exact fun q hq => by have := hvh q hq; omega
  · exact fun q hq => ⟨Nat.le_trans hw23 (hn2 q hq), fun e => by have := hva q e; have := hla q hq; omega⟩
  · exact fun q hq => ⟨Nat.le_trans hw23 (hn3 q hq), fun e => by have := hvh q e; have := hlh q hq; omega⟩

set_option maxRecDepth 4000 in
set_option maxHeartbeats 4000000 in
theorem wtake_more (wb : Nat) (f : Nat → Value) (st mo a s k pp r ag t : Int) (h : Bool) (d : Bool) (pre : List Int) (hs : List Value) (va vh : Value) (hne : pre ≠ []) (hl2 : pre.length < 1000000) (hm : (pre.length : Int) + 1 ≤ mo) (hd : Hid (d = decide ((pre.length : Int) + 1 = st))) (W : World) (hT : Tk W wb 101 13 1 f st mo pre hs va vh false) :
    Calls Tryz.prog 53 #[.pointer (some ⟨wb, 0, none⟩), .int .i64 a, hv s k pp r ag t h] W fun r1 W' => r1 = .returned (.bool (!d)) ∧ ∃ va' vh', Tk W' wb 101 13 1 (fun j => if j = 1 + 4 then .bool d else if j = 1 + 1 then vh' else if j = 1 then va' else f j) st mo (pre ++ [a]) (hs ++ (hcells s k pp r ag t h).toList) va' vh' d ∧ Touch (Tk.foot wb va vh) W W' ∧
      (∀ q, va'.ownBlock = some q → va.ownBlock = some q ∨ W.heap.size ≤ q) ∧ (∀ q, vh'.ownBlock = some q → vh.ownBlock = some q ∨ W.heap.size ≤ q) := by
  have b0 : Below W.heap.size W (W.alloc (.cells (hcells s k pp r ag t h) 31)) := Below.alloc (Below.refl _ _) (Nat.le_refl _) _
  have k0 := hT.below b0
  have hb0 : Hb (W.alloc (.cells (hcells s k pp r ag t h) 31)) W.heap.size (hcells s k pp r ag t h) := ⟨heap_alloc_new W _⟩
  obtain ⟨ad, cap, hva⟩ := hT.va
  have hpos : 0 < pre.length := List.length_pos_iff.2 hne
  clear hT
  go_enter Tryz.func53, Tryz.ntmps53
  go_upto_region 1 with fail
  generalize (W.alloc (.cells (hcells s k pp r ag t h) 31)) = w0 at *
  have c1 : w0.cell? ⟨wb, 1, none⟩ = some (.slice ad pre.length cap) := by rw [k0.row.cell (i := 1) (by decide), k0.f0, hva]
  have x0 : w0.cell? ⟨W.heap.size, 0, none⟩ = some (.int .u64 s) := cell_of_row _ _ 0 _ _ _ hb0.at_
  have x1 : w0.cell? ⟨W.heap.size, 1, none⟩ = some (.int .i64 k) := cell_of_row _ _ 1 _ _ _ hb0.at_
  have x2 : w0.cell? ⟨W.heap.size, 2, none⟩ = some (.int .i64 pp) := cell_of_row _ _ 2 _ _ _ hb0.at_
  have x3 : w0.cell? ⟨W.heap.size, 3, none⟩ = some (.int .i64 r) := cell_of_row _ _ 3 _ _ _ hb0.at_
  have x4 : w0.cell? ⟨W.heap.size, 4, none⟩ = some (.int .i64 ag) := cell_of_row _ _ 4 _ _ _ hb0.at_
  have x5 : w0.cell? ⟨W.heap.size, 5, none⟩ = some (.int .i64 t) := cell_of_row _ _ 5 _ _ _ hb0.at_
  have x6 : w0.cell? ⟨W.heap.size, 6, none⟩ = some (.bool h) := cell_of_row _ _ 6 _ _ _ hb0.at_
  have hpi : (0 : Int) < (pre.length : Int) := by omega
  have K0 : Hid (Tk w0 wb 101 13 1 f st mo pre hs va vh false) := k0
  have Hva : Hid (va = .slice ad pre.length cap) := hva
  clear k0 hva hb0
  go_upto_region 4 with fail
  refine quiet_tail 5 mixed (by kernel_rfl) ?_
  simp only [List.take_succ_cons, List.take_zero, List.drop_succ_cons, List.drop_zero]
  repeat (go_big_quiet_step (fail))
  refine wpQuiet_nil ?_
  go_wp2_with fail
  have k1d : Tk (w0.drewN 1) wb 101 13 1 f st mo pre hs va vh false := K0.out.keep (fun _ _ => rfl)
  refine (take_any wb 101 13 1 f st mo pre hs va vh a s k pp r ag t h d (by
    show d = decide _
    have hmo : ¬ mo < (pre.length : Int) + 1 := by omega
    rw [hd.out]
    simp [hmo]) (w0.drewN 1) k1d hl2).mono ?_
  rintro r1 w4 ⟨rfl, va', vh', k4, t6, hn4, hn5⟩
  clear x0 x1 x2 x3 x4 x5 x6 k1d c1
  have t7 : Touch (Tk.foot wb va vh) W w4 := (Touch.of_below b0 _).trans ⟨t6.os, t6.tape, t6.output, t6.size, t6.block⟩
  have hs0 : W.heap.size ≤ w0.heap.size := b0.size
  have K4 : Hid (Tk w4 wb 101 13 1 (fun j => if j = 1 + 4 then .bool d else if j = 1 + 1 then vh' else if j = 1 then va' else f j) st mo (pre ++ [a]) (hs ++ (hcells s k pp r ag t h).toList) va' vh' d) := k4
  have hn4' : ∀ q, va'.ownBlock = some q → va.ownBlock = some q ∨ w0.heap.size ≤ q := hn4
  have hn5' : ∀ q, vh'.ownBlock = some q → vh.ownBlock = some q ∨ w0.heap.size ≤ q := hn5
  have HN : Hid ((∀ q, va'.ownBlock = some q → va.ownBlock = some q ∨ w0.heap.size ≤ q) ∧ (∀ q, vh'.ownBlock = some q → vh.ownBlock = some q ∨ w0.heap.size ≤ q)) := ⟨hn4', hn5'⟩
  clear k4 t6 hn4 hn5 hn4' hn5'
  go_wp2
  go_ret
  refine ⟨rfl, va', vh', K4.out, t7, fun q hq => ?_, fun q hq => ?_⟩
  · rcases HN.out.1 q hq with h | h
    · exact .inl h
    · exact .inr (by omega)
  · rcases HN.out.2 q hq with h | h
    · exact .inl h
    · exact .inr (by omega)

set_option maxHeartbeats 2000000 in
theorem walk_within (b g ca cs : Nat) (c : Cfg) (x : Tps) (sw : Bool) (ws : Nat → Int) (S : Int) (l : List Int) (p e : Int) (hp : Past c ws (x.top S) (fst c S) p) (hwk : Walk c ws (x.top S) p l e)
    (W0 : World) (hI : It W0 b g ca cs c x sw ws S) (wb : Nat) (f0 : Nat → Value) (st mo : Int) (hl : ((cutS l st).length : Int) ≤ mo) (hl2 : l.length < 1000000) (hT : Tk W0 wb 101 13 1 f0 st mo [] [] nilS nilS false) (hO : Off [wb] b g ca cs)
    (hf0 : f0 0 = .func (.func 85) #[] #[.pointer (some ⟨ca, 0, none⟩), .pointer (some ⟨cs, 0, none⟩)]) (m0 : f0 7 = nilS) (m1 : f0 8 = nilS) (m2 : f0 9 = .int .i64 0) (m3 : f0 10 = .int .i64 0) (m4 : f0 11 = .bool false) (m5 : f0 12 = .bool false) :
    Calls Tryz.prog 85 #[.func (.func 53) #[.pointer (some ⟨wb, 0, none⟩)] #[], .pointer (some ⟨ca, 0, none⟩), .pointer (some ⟨cs, 0, none⟩)] W0 fun r W' => r = .returned (.tuple #[]) ∧ Touch [wb] W0 W' ∧
      ((cutS l st = [] ∧ Tk W' wb 101 13 1 f0 st mo [] [] nilS nilS false) ∨ (∃ f va vh va2 vh2 d1 d2, Tk W' wb 101 13 1 f st mo (cutS l st) (hcl c ws (cutS l st)) va vh d1 ∧ Tk W' wb 101 13 7 f st mo (cutS l st) (hcl c ws (cutS l st)) va2 vh2 d2)) := by
  have hw := walk_any b g ca cs c x sw ws S l p e hp hwk W0 hI 53 (.pointer (some ⟨wb, 0, none⟩))
    (fun F pre W => ¬ (0 < st ∧ st ≤ (pre.length : Int)) ∧ ((pre = [] ∧ F = [wb] ∧ It W b g ca cs c x sw ws S ∧ Tk W wb 101 13 1 f0 st mo [] [] nilS nilS false) ∨ (pre ≠ [] ∧ ∃ f va vh va2 vh2, F = Tk.foot wb va vh ∧ Tk W wb 101 13 1 f st mo pre (hcl c ws pre) va vh false ∧ Tk W wb 101 13 7 f st mo (cutS l st) (hcl c ws (cutS l st)) va2 vh2 (endS l st) ∧ (∀ q, va2.ownBlock = some q → va.ownBlock ≠ some q) ∧ (∀ q, vh2.ownBlock = some q → vh.ownBlock ≠ some q))))
    (fun pre W => (pre.length : Int) = st ∧ ∃ f va vh va2 vh2, Tk W wb 101 13 1 f st mo pre (hcl c ws pre) va vh true ∧ Tk W wb 101 13 7 f st mo (cutS l st) (hcl c ws (cutS l st)) va2 vh2 (endS l st)) wtake_enters
    (by
      rintro F pre W ⟨-, ⟨-, rfl, -, h⟩ | ⟨-, f, va, vh, va2, vh2, rfl, h, -⟩⟩ q hq
      · simp at hq; subst hq; exact h.row.lt
      · exact h.footLt q hq)
    (by
      rintro F pre W W' ⟨hns, ⟨hp, hF, hi, h⟩ | ⟨hp, f, va, vh, va2, vh2, hF, h, h2, h3, h4⟩⟩ l
      · exact ⟨hns, .inl ⟨hp, hF, hi.below l, h.below l⟩⟩
      · exact ⟨hns, .inr ⟨hp, f, va, vh, va2, vh2, hF, h.below l, h2.below l, h3, h4⟩⟩)
    (by
      rintro F pre a W ⟨hns, ⟨rfl, rfl, hi, h⟩ | ⟨hpn, f, va, vh, va2, vh2, rfl, h, h2, h3, h4⟩⟩ hpre
      · have hlen := pre_len hpre
        have hcl1 := cutS_len hlen hns
        simp at hcl1
        refine (wtake_first b g ca cs c x sw ws S l p e hp hwk wb f0 st mo a _ _ _ _ _ _ _ (decide (st = 1)) rfl hl hl2 (by omega) W hi hO h hf0 m0 m1 m2 m3 m4 m5).mono ?_
        rintro r W' ⟨rfl, f', va, vh, va2, vh2, k1, k7, -, ht, n1, n2, n3, n4⟩
        refine ⟨ht, ?_⟩
        by_cases he : st = 1
        · have hde : decide (st = 1) = true := decide_eq_true he
          rw [hde] at k1
          refine .inr ⟨by rw [hde]; rfl, by simp [he], f', va, vh, va2, vh2, ?_, k7⟩
          rw [hcl_snoc]
          exact k1
        · have hde : decide (st = 1) = false := decide_eq_false he
          rw [hde] at k1
          refine .inl ⟨by rw [hde]; rfl, Tk.foot wb va vh, ?_, by simp; omega, .inr ⟨by simp, f', va, vh, va2, vh2, rfl, ?_, k7, fun q hq => (n3 q hq).2, fun q hq => (n4 q hq).2⟩⟩
          · intro q hq
            simp only [Tk.foot, List.mem_cons, List.mem_append, Option.mem_toList] at hq
            rcases hq with rfl | hq | hq
            · exact .inl (by simp)
            · exact .inr (n1 q hq)
            · exact .inr (n2 q hq)
          · rw [hcl_snoc]
            exact k1
      · have hlen := pre_len hpre
        have hcl1 := cutS_len hlen hns
        refine (wtake_more wb f st mo a _ _ _ _ _ _ _ (decide ((pre.length : Int) + 1 = st)) pre (hcl c ws pre) va vh hpn (by omega) (by omega) rfl W h).mono ?_
        rintro r W' ⟨rfl, va', vh', k1, ht, n1, n2⟩
        have k7 : Tk W' wb 101 13 7 (fun j => if j = 1 + 4 then .bool (decide ((pre.length : Int) + 1 = st)) else if j = 1 + 1 then vh' else if j = 1 then va' else f j) st mo (cutS l st) (hcl c ws (cutS l st)) va2 vh2 (endS l st) := by
          refine ⟨k1.row, by decide, h2.f0, h2.f1, h2.f2, h2.f3, h2.f4, h2.f5, ?_, ?_, by decide, by decide⟩
          · refine row_keep h2.ra (fun q hq => ht.block q (row_lt h2.ra q hq) (fun hm => ?_))
            simp only [Tk.foot, List.mem_cons, List.mem_append, Option.mem_toList] at hm
            rcases hm with rfl | hm | hm
            · obtain ⟨cs', hcs', -, -⟩ := h2.row
              exact row_ne hcs' h2.ra (by decide) hq.symm
            · exact h3 q hq hm
            · exact rows_ne h2.ra h.rh (by decide) q hq hm
          · refine row_keep h2.rh (fun q hq => ht.block q (row_lt h2.rh q hq) (fun hm => ?_))
            simp only [Tk.foot, List.mem_cons, List.mem_append, Option.mem_toList] at hm
            rcases hm with rfl | hm | hm
            · obtain ⟨cs', hcs', -, -⟩ := h2.row
              exact row_ne hcs' h2.rh (by decide) hq.symm
            · exact rows_ne h2.rh h.ra (by decide) q hq hm
            · exact h4 q hq hm
        refine ⟨ht, ?_⟩
        by_cases he : (pre.length : Int) + 1 = st
        · have hde : decide ((pre.length : Int) + 1 = st) = true := decide_eq_true he
          rw [hde] at k1 k7
          refine .inr ⟨by rw [hde]; rfl, by simp [he], _, va', vh', va2, vh2, ?_, k7⟩
          rw [hcl_snoc]
          exact k1
        · have hde : decide ((pre.length : Int) + 1 = st) = false := decide_eq_false he
          rw [hde] at k1 k7
          refine .inl ⟨by rw [hde]; rfl, Tk.foot wb va' vh', foot_newer n1 n2, by simp; omega, .inr ⟨by simp, _, va', vh', va2, vh2, rfl, ?_, k7, ?_, ?_⟩⟩
          · rw [hcl_snoc]
            exact k1
          · intro q hq e
            rcases n1 q e with h' | h'
            · exact h3 q hq h'
            · have := row_lt h2.ra q hq; omega
          · intro q hq e
            rcases n2 q e with h' | h'
            · exact h4 q hq h'
            · have := row_lt h2.rh q hq; omega)
    [wb] hO ⟨fun hh => absurd hh.1 (by have := hh.2; simp at this; omega), .inl ⟨rfl, rfl, hI, hT⟩⟩
  refine hw.mono ?_
  rintro r W' ⟨rfl, ht, ⟨F', -, hns, ⟨rfl, -, -, h⟩ | ⟨hne, f, va, vh, va2, vh2, -, h1, h2, -⟩⟩ | ⟨pre, hpl, hpn, hst, f, va, vh, va2, vh2, h1, h2⟩⟩
  · exact ⟨rfl, ht, .inl ⟨(cutS_no hns).1, h⟩⟩
  · have e := (cutS_no hns).1
    exact ⟨rfl, ht, .inr ⟨f, va, vh, va2, vh2, _, _, by rw [e]; exact h1, h2⟩⟩
  · have e := (cutS_yes hpl hst hpn).1
    exact ⟨rfl, ht, .inr ⟨f, va, vh, va2, vh2, _, _, by rw [e]; exact h1, h2⟩⟩

end Go.Proofs.YtbdkcelggffneaaGreatDoor.Sp
