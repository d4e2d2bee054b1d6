/-
  A walk within a walk.
-/
import Derived.Test.YtbdkcelggffneaaDoorA12
set_option linter.unusedVariables false
namespace Go.Proofs.YtbdkcelggffneaaDoor
open Go.RowKit Go.Shelf

theorem Tk.va {w : World} {tb T N o : Nat} {f : Nat → Value} {st mo : Int} {xs : List Int} {hs : List Value} {va vh : Value} {dn : Bool} (h : Tk w tb T N o f st mo xs hs va vh dn) : ∃ a cap, va = .slice a xs.length cap := by
  rcases h.ra.2 with ⟨rfl, h0⟩ | ⟨g, cap, cur, rfl, _⟩
  · exact ⟨none, 0, by rw [h0]⟩
  · exact ⟨_, _, rfl⟩

/-- The second taker's cells are laid anew. -/
def fresh7 (f : Nat → Value) (mo : Int) : Nat → Value := fun j => if j = 12 then .bool false else if j = 11 then .bool false else if j = 10 then .int .i64 mo else if j = 9 then .int .i64 0 else if j = 8 then nilS else if j = 7 then nilS else f j

def lay6 (w : World) (wb : Nat) (mo : Int) : World := ((((((w.setCell ⟨wb, 7, none⟩ nilS).setCell ⟨wb, 8, none⟩ nilS).setCell ⟨wb, 9, none⟩ (.int .i64 0)).setCell ⟨wb, 10, none⟩ (.int .i64 mo)).setCell ⟨wb, 11, none⟩ (.bool false)).setCell ⟨wb, 12, none⟩ (.bool false)).drew

theorem lay6_eq (w : World) (wb : Nat) (mo : Int) : ((((((w.setCell ⟨wb, 7, none⟩ nilS).setCell ⟨wb, 8, none⟩ nilS).setCell ⟨wb, 9, none⟩ (.int .i64 0)).setCell ⟨wb, 10, none⟩ (.int .i64 mo)).setCell ⟨wb, 11, none⟩ (.bool false)).setCell ⟨wb, 12, none⟩ (.bool false)).drew = lay6 w wb mo := rfl

theorem drew_heap (w : World) : w.drew.heap = w.heap := rfl

theorem lay6_row {w : World} {wb T N : Nat} {f : Nat → Value} (mo : Int) (h : w.rowIs wb T N f) : (lay6 w wb mo).rowIs wb T N (fresh7 f mo) := by
  have h6 := (((((h.set 7 nilS).set 8 nilS).set 9 (.int .i64 0)).set 10 (.int .i64 mo)).set 11 (.bool false)).set 12 (.bool false)
  have h7 := h6.congr (g := fresh7 f mo) (fun j _ => by simp only [fresh7])
  unfold lay6
  exact World.rowIs.drew h7

theorem lay6_other (w : World) {wb q : Nat} (mo : Int) (hq : q ≠ wb) : (lay6 w wb mo).heap[q]? = w.heap[q]? := by
  have k : ∀ (w : World) (j : Nat) (u : Value), (w.setCell ⟨wb, j, none⟩ u).heap[q]? = w.heap[q]? := fun w j u => Below.heap_setCell _ _ _ _ hq
  unfold lay6
  rw [drew_heap]
  rw [k, k, k, k, k, k]

theorem lay6_touch (w : World) (wb : Nat) (mo : Int) : Touch [wb] w (lay6 w wb mo) := by
  have k : ∀ (w : World) (j : Nat) (u : Value), Touch [wb] w (w.setCell ⟨wb, j, none⟩ u) := fun w j u => Touch.setCell _ _ _ (by simp)
  have d : ∀ w : World, Touch [wb] w w.drew := fun w => ⟨rfl, rfl, rfl, Nat.le_refl _, fun _ _ _ => rfl⟩
  unfold lay6
  exact ((((((k w 7 _).trans (k _ 8 _)).trans (k _ 9 _)).trans (k _ 10 _)).trans (k _ 11 _)).trans (k _ 12 _)).trans (d _)

set_option maxRecDepth 4000 in
set_option maxHeartbeats 4000000 in
theorem wtake_first (b g ca cs : Nat) (c : Cfg) (x : Tps) (sw : Bool) (ws : Nat → Int) (S : Int) (l : List Int) (p e : Int) (hp : Past c ws (x.top S) (fst c S) p) (hwk : Walk c ws (x.top S) p l e) (wb : Nat) (f : Nat → Value) (mo a s k pp r ag t : Int) (h : Bool) (hl : (l.length : Int) ≤ mo) (hl2 : l.length < 1000000) (hm : 1 ≤ mo)
    (W : World) (hI : It W b g ca cs c x sw ws S) (hO : Off [wb] b g ca cs) (hT : Tk W wb 100 13 1 f 0 mo [] [] nilS nilS false) (hf0 : f 0 = .func (.func 58) #[] #[.pointer (some ⟨ca, 0, none⟩), .pointer (some ⟨cs, 0, none⟩)])
    (m0 : f 7 = nilS) (m1 : f 8 = nilS) (m2 : f 9 = .int .i64 0) (m3 : f 10 = .int .i64 0) (m4 : f 11 = .bool false) (m5 : f 12 = .bool false) :
    Calls Tryd.prog 49 #[.pointer (some ⟨wb, 0, none⟩), .int .i64 a, hv s k pp r ag t h] W fun r1 W' => r1 = .returned (.bool true) ∧ ∃ f' va vh va2 vh2, Tk W' wb 100 13 1 f' 0 mo [a] (hcells s k pp r ag t h).toList va vh false ∧ Tk W' wb 100 13 7 f' 0 mo l (hcl c ws l) va2 vh2 false ∧ f' 0 = f 0 ∧ Touch [wb] W W' ∧
      (∀ q, va.ownBlock = some q → W.heap.size ≤ q) ∧ (∀ q, vh.ownBlock = some q → W.heap.size ≤ q) ∧ (∀ q, va2.ownBlock = some q → W.heap.size ≤ q ∧ va.ownBlock ≠ some q) ∧ (∀ q, vh2.ownBlock = some q → W.heap.size ≤ q ∧ vh.ownBlock ≠ some q) := by
  have row0 := hT.row.alloc (.cells (hcells s k pp r ag t h) 46)
  have hb0 : Hb (W.alloc (.cells (hcells s k pp r ag t h) 46)) W.heap.size (hcells s k pp r ag t h) := ⟨heap_alloc_new W _⟩
  have t0 : Below W.heap.size W (W.alloc (.cells (hcells s k pp r ag t h) 46)) := Below.alloc (Below.refl _ _) (Nat.le_refl _) _
  have HT : Hid (Tk W wb 100 13 1 f 0 mo [] [] nilS nilS false) := hT
  have HI : Hid (It W b g ca cs c x sw ws S) := hI
  have f1 := hT.f0
  have f3 := hT.f2
  have f4 := hT.f3
  simp only [Nat.reduceAdd] at f3 f4
  have hwbl := hT.row.lt
  clear hT hI
  go_enter Tryd.func49, Tryd.ntmps49
  go_upto_region 1 with fail
  generalize (W.alloc (.cells (hcells s k pp r ag t h) 46)) = w0 at *
  have c1 : w0.cell? ⟨wb, 1, none⟩ = some nilS := by rw [row0.cell (i := 1) (by decide), f1]
  have c3 : w0.cell? ⟨wb, 3, none⟩ = some (.int .i64 0) := by rw [row0.cell (i := 3) (by decide), f3]
  have c4 : w0.cell? ⟨wb, 4, none⟩ = some (.int .i64 mo) := by rw [row0.cell (i := 4) (by decide), f4]
  have d7 : w0.cell? ⟨wb, 7, none⟩ = some nilS := by rw [row0.cell (i := 7) (by decide), m0]
  have d8 : w0.cell? ⟨wb, 8, none⟩ = some nilS := by rw [row0.cell (i := 8) (by decide), m1]
  have d9 : w0.cell? ⟨wb, 9, none⟩ = some (.int .i64 0) := by rw [row0.cell (i := 9) (by decide), m2]
  have d10 : w0.cell? ⟨wb, 10, none⟩ = some (.int .i64 0) := by rw [row0.cell (i := 10) (by decide), m3]
  have d11 : w0.cell? ⟨wb, 11, none⟩ = some (.bool false) := by rw [row0.cell (i := 11) (by decide), m4]
  have d12 : w0.cell? ⟨wb, 12, none⟩ = some (.bool false) := by rw [row0.cell (i := 12) (by decide), m5]
  have z7 := row0.frozen 7
  have z8 := row0.frozen 8
  have z9 := row0.frozen 9
  have z10 := row0.frozen 10
  have z11 := row0.frozen 11
  have z12 := row0.frozen 12
  go_upto_region 2 with fail
  refine quiet_tail 14 mixed (by kernel_rfl) ?_
  simp only [List.take_succ_cons, List.take_zero, List.drop_succ_cons, List.drop_zero]
  repeat (go_big_quiet_step (fail))
  refine wpQuiet_nil ?_
  go_upto_region 3 with fail
  have hbw : W.heap.size ≠ wb := by omega
  have hch := lay6_eq w0 wb mo
  rw [hch]
  clear hch
  have row2 := lay6_row mo row0
  have hb2 : Hb (lay6 w0 wb mo) W.heap.size (hcells s k pp r ag t h) := ⟨(lay6_other w0 mo hbw).trans hb0.at_⟩
  have t2 : Touch [wb] W (lay6 w0 wb mo) := (Touch.of_below t0 [wb]).trans (lay6_touch w0 wb mo)
  clear c1 c3 c4 d7 d8 d9 d10 d11 d12 z7 z8 z9 z10 z11 z12 row0 hb0 t0
  generalize lay6 w0 wb mo = w2 at *
  have c0 : w2.cell? ⟨wb, 0, none⟩ = some (.func (.func 58) #[] #[.pointer (some ⟨ca, 0, none⟩), .pointer (some ⟨cs, 0, none⟩)]) := by rw [row2.cell (i := 0) (by decide), ← hf0]; rfl
  have i2 := (HI.out.touch hO t2).below (below_drewN (Below.refl _ _) 1)
  have k7 : Tk (w2.drewN 1) wb 100 13 7 (fresh7 f mo) 0 mo [] [] nilS nilS false := ⟨row2, by decide, rfl, rfl, rfl, rfl, rfl, rfl, World.ownsRow_nil _ _ _ _, World.ownsRow_nil _ _ _ _, by decide, by decide⟩
  have hwt := walk_taker b g ca cs c x sw ws S l p e hp hwk (w2.drewN 1) i2 wb 100 13 7 (fresh7 f mo) mo hl hl2 k7 hO
  refine quiet_tail 8 mixed (by kernel_rfl) ?_
  simp only [List.take_succ_cons, List.take_zero, List.drop_succ_cons, List.drop_zero]
  repeat (go_big_quiet_step (fail))
  refine wpQuiet_nil ?_
  go_wp2_with fail
  refine hwt.mono ?_
  rintro r1 w3 ⟨rfl, f3', va2, vh2, k3, hout, t3, hn2, hn3⟩
  clear hwt k7 i2 c0
  have t4 : Touch [wb] w2 w3 := ⟨t3.os, t3.tape, t3.output, t3.size, t3.block⟩
  have hw23 : W.heap.size ≤ w2.heap.size := t2.size
  have hb3 : Hb w3 W.heap.size (hcells s k pp r ag t h) := ⟨(t4.block _ ((Array.getElem?_eq_some_iff.1 hb2.at_).1) (by simp; omega)).trans hb2.at_⟩
  have t5 := t2.trans t4
  have g0 : f3' 0 = f 0 := hout 0 (by omega)
  have k1 : Tk w3 wb 100 13 1 f3' 0 mo [] [] nilS nilS false := ⟨k3.row, by decide, (hout 1 (by omega)).trans HT.out.f0, (hout 2 (by omega)).trans HT.out.f1, (hout 3 (by omega)).trans HT.out.f2, (hout 4 (by omega)).trans HT.out.f3, (hout 5 (by omega)).trans HT.out.f4, (hout 6 (by omega)).trans HT.out.f5, World.ownsRow_nil _ _ _ _, World.ownsRow_nil _ _ _ _, by decide, by decide⟩
  have K3 : Hid (Tk w3 wb 100 13 7 f3' 0 mo l (hcl c ws l) va2 vh2 false) := k3
  have hbl : W.heap.size < w3.heap.size := (Array.getElem?_eq_some_iff.1 hb3.at_).1
  clear t2 t3 hb2 row2 k3
  go_upto_region 4 with fail
  have x0 : w3.cell? ⟨W.heap.size, 0, none⟩ = some (.int .u64 s) := cell_of_row _ _ 0 _ _ _ hb3.at_
  have x1 : w3.cell? ⟨W.heap.size, 1, none⟩ = some (.int .i64 k) := cell_of_row _ _ 1 _ _ _ hb3.at_
  have x2 : w3.cell? ⟨W.heap.size, 2, none⟩ = some (.int .i64 pp) := cell_of_row _ _ 2 _ _ _ hb3.at_
  have x3 : w3.cell? ⟨W.heap.size, 3, none⟩ = some (.int .i64 r) := cell_of_row _ _ 3 _ _ _ hb3.at_
  have x4 : w3.cell? ⟨W.heap.size, 4, none⟩ = some (.int .i64 ag) := cell_of_row _ _ 4 _ _ _ hb3.at_
  have x5 : w3.cell? ⟨W.heap.size, 5, none⟩ = some (.int .i64 t) := cell_of_row _ _ 5 _ _ _ hb3.at_
  have x6 : w3.cell? ⟨W.heap.size, 6, none⟩ = some (.bool h) := cell_of_row _ _ 6 _ _ _ hb3.at_
  refine quiet_tail 5 mixed (by kernel_rfl) ?_
  simp only [List.take_succ_cons, List.take_zero, List.drop_succ_cons, List.drop_zero]
  repeat (go_big_quiet_step (fail))
  refine wpQuiet_nil ?_
  go_wp2_with fail
  have k1d : Tk (w3.drewN 1) wb 100 13 1 f3' 0 mo [] [] nilS nilS false := k1.keep (fun _ _ => rfl)
  refine (take_any wb 100 13 1 f3' 0 mo [] [] nilS nilS a s k pp r ag t h false (by
    show false = decide _
    rw [eq_comm, decide_eq_false_iff_not]
    simp
    omega) (w3.drewN 1) k1d (by simp)).mono ?_
  rintro r1 w4 ⟨rfl, va, vh, k4, t6, hn4, hn5⟩
  clear x0 x1 x2 x3 x4 x5 x6 hb3 k1 k1d
  have t7 : Touch [wb] w3 w4 := ⟨t6.os, t6.tape, t6.output, t6.size, t6.block⟩
  have K4 : Hid (Tk w4 wb 100 13 1 _ 0 mo ([] ++ [a]) ([] ++ (hcells s k pp r ag t h).toList) va vh false) := k4
  clear k4 t6
  go_wp2
  go_ret
  have hva : ∀ q, va.ownBlock = some q → w3.heap.size ≤ q := fun q hq => (hn4 q hq).resolve_left (by simp [Value.ownBlock])
  have hvh : ∀ q, vh.ownBlock = some q → w3.heap.size ≤ q := fun q hq => (hn5 q hq).resolve_left (by simp [Value.ownBlock])
  have kk := K3.out
  have hneA : ∀ q, va2.ownBlock = some q → q ∉ [wb] := fun q hq hm => by
    simp at hm
    obtain ⟨cs', hcs', -, -⟩ := kk.row
    exact row_ne hcs' kk.ra (by decide) (by rw [hq, hm])
  have hneH : ∀ q, vh2.ownBlock = some q → q ∉ [wb] := fun q hq hm => by
    simp at hm
    obtain ⟨cs', hcs', -, -⟩ := kk.row
    exact row_ne hcs' kk.rh (by decide) (by rw [hq, hm])
  have hla := row_lt kk.ra
  have hlh := row_lt kk.rh
  refine ⟨rfl, _, va, vh, va2, vh2, K4.out, ⟨K4.out.row, by decide, ?_, ?_, ?_, ?_, ?_, ?_, ?_, ?_, by decide, by decide⟩, ?_, t5.trans t7, ?_, ?_, ?_, ?_⟩
  · exact kk.f0
  · exact kk.f1
  · exact kk.f2
  · exact kk.f3
  · exact kk.f4
  · exact kk.f5
  · exact row_keep kk.ra (fun q hq => t7.block q (hla q hq) (hneA q hq))
  · exact row_keep kk.rh (fun q hq => t7.block q (hlh q hq) (hneH q hq))
  · exact g0
  · exact fun q hq => by have := hva q hq; omega
  · exact fun q hq => by have := hvh q hq; omega
  · exact fun q hq => ⟨Nat.le_trans hw23 (hn2 q hq), fun e => by have := hva q e; have := hla q hq; omega⟩
  · exact fun q hq => ⟨Nat.le_trans hw23 (hn3 q hq), fun e => by have := hvh q e; have := hlh q hq; omega⟩

end Go.Proofs.YtbdkcelggffneaaDoor
