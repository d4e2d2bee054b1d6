import Derived.Test.YtlkengnefhhppaaGreatDoorPAb
import Derived.Deep.CutRange
set_option linter.unusedVariables false
set_option maxHeartbeats 8000000
namespace Go.Proofs.YtlkengnefhhppaaGreatDoor
open Go.RowKit
theorem Laid.blocks {w w' : World} (h : Laid w) (h0 : w'.heap[1]? = w.heap[1]?) (h1 : w'.heap[0]? = w.heap[0]?) : Laid w' := by
 have k0 : ∀ j v, w.cell? ⟨1, j, none⟩ = some v → w'.cell? ⟨1, j, none⟩ = some v := fun j v hc => (World.cell?_of_block (w := w) (by exact h0)).trans hc
 have k1 : ∀ j v, w.cell? ⟨0, j, none⟩ = some v → w'.cell? ⟨0, j, none⟩ = some v := fun j v hc => (World.cell?_of_block (w := w) (by exact h1)).trans hc
 obtain ⟨⟨a0, a1, a2, a3, a4, a5, a6, a7, a8⟩, ⟨b0, b1, b2, b3, b4, b5, b6, b7, b8, b9⟩⟩ := h
 exact ⟨⟨k0 _ _ a0, k0 _ _ a1, k0 _ _ a2, k0 _ _ a3, k0 _ _ a4, k0 _ _ a5, k0 _ _ a6, k0 _ _ a7, k0 _ _ a8⟩, ⟨k1 _ _ b0, k1 _ _ b1, k1 _ _ b2, k1 _ _ b3, k1 _ _ b4, k1 _ _ b5, k1 _ _ b6, k1 _ _ b7, k1 _ _ b8, k1 _ _ b9⟩⟩
theorem Laid.lt0 {w : World} (h : Laid w) : 1 < w.heap.size := World.block_lt_of_cell? _ _ h.b.1
theorem Laid.lt1 {w : World} (h : Laid w) : 0 < w.heap.size := World.block_lt_of_cell? _ _ h.k.1
theorem Laid.touch {w w' : World} {F : List Nat} (h : Laid w) (t : Touch F w w') (h0 : 1 ∉ F) (h1 : 0 ∉ F) : Laid w' :=
 h.blocks (t.block _ h.lt0 h0) (t.block _ h.lt1 h1)
theorem size_any3 (s k p r a t : Int) (h : Bool) (p0 : 0 ≤ p) (p1 : p ≤ 4095) (r0 : 0 ≤ r) (r1 : r ≤ 65535) (w : World) :
  Calls Tryz.prog 79 #[hv s k p r a t h] w fun e w' => e = .returned (.int .i64 (2 + p + r)) ∧ w' = w.alloc (.cells (hcells s k p r a t h) 38) := by
 go_enter Tryz.func79, Tryz.ntmps79
 go_wp2
 go_ret
 exact ⟨rfl, rfl⟩
theorem write_any (b g : Nat) (c : Cfg) (x : Tps) (sw : Bool) (ws : Nat → Int) (p : Nat) (m s : Int) (hm : Wd m) (hs : Wd s) (hp : (p : Int) + 1 < c.words) (w : World) (h : Ar w b g c x sw ws) :
  Calls Tryz.prog 80 #[.pointer (some ⟨b, 0, none⟩), .int .i64 p, .int .u64 m, .int .u64 s] w fun e w' => e = .returned (.tuple #[]) ∧ Ar w' b g c x sw (upd (upd ws p m) (p + 1) s) ∧ Touch [g] w w' := by
 have k := h.cell14
 have q := h.words
 have hA := (h.set p m hm).set (p + 1) s hs
 have hT : Touch [g] w ((w.setCell ⟨g, p, none⟩ (.int .u64 m)).setCell ⟨g, p + 1, none⟩ (.int .u64 s)) := (Touch.setCell _ _ _ (by simp)).trans (Touch.setCell _ _ _ (by simp))
 have c0 : w.cell? ⟨g, p, none⟩ = some (.int .u64 (ws p)) := h.row.cell (by omega)
 have c1 : w.cell? ⟨g, p + 1, none⟩ = some (.int .u64 (ws (p + 1))) := h.row.cell (by omega)
 have z0 := h.row.frozen p
 have z1 := h.row.frozen (p + 1)
 have d1 : (w.setCell ⟨g, p, none⟩ (.int .u64 m)).cell? ⟨g, p + 1, none⟩ = some (.int .u64 (ws (p + 1))) := by
  have := (h.set p m hm).row.cell (i := p + 1) (by omega)
  rw [this]; unfold upd; rw [if_neg (by omega)]
 have y1 := (h.set p m hm).row.frozen (p + 1)
 have k' := (h.set p m hm).cell14
 have hN : (c.words.toNat : Int) = c.words := Int.toNat_of_nonneg (by omega)
 generalize c.words.toNat = N at k k' hN
 generalize ws p = v0, ws (p + 1) = v1 at c0 c1 d1
 have Hr : Hid (Ar ((w.setCell ⟨g, p, none⟩ (.int .u64 m)).setCell ⟨g, p + 1, none⟩ (.int .u64 s)) b g c x sw (upd (upd ws p m) (p + 1) s) ∧ Touch [g] w ((w.setCell ⟨g, p, none⟩ (.int .u64 m)).setCell ⟨g, p + 1, none⟩ (.int .u64 s))) := ⟨hA, hT⟩
 clear h hA hT
 go_enter Tryz.func80, Tryz.ntmps80
 go_region
 go_returns
 exact ⟨rfl, Hr.out.1.keep rfl rfl, ⟨Hr.out.2.os, Hr.out.2.tape, Hr.out.2.output, Hr.out.2.size, Hr.out.2.block⟩⟩
def osz (c : Cfg) (ws : Nat → Int) (a : Int) : Int := 2 + ptOf (wat c ws a) + rwOf (wat c ws a)
def Stands (c : Cfg) (ws : Nat → Int) (top a : Int) : Prop := IsHead (wat c ws a) ∧ osz c ws a ≤ top - a
theorem pt_in (m : Int) : 0 ≤ ptOf m ∧ ptOf m ≤ 4095 := by unfold ptOf; omega
theorem rw_in (m : Int) : 0 ≤ rwOf m ∧ rwOf m ≤ 65535 := by unfold rwOf; omega
theorem osz_in (c : Cfg) (ws : Nat → Int) (a : Int) : 2 ≤ osz c ws a ∧ osz c ws a ≤ 69632 := by
 have := pt_in (wat c ws a); have := rw_in (wat c ws a)
 unfold osz; omega
abbrev hdv (c : Cfg) (ws : Nat → Int) (a : Int) : Value := hv (wat c ws (a + 1)) (kdOf (wat c ws a)) (ptOf (wat c ws a)) (rwOf (wat c ws a)) (agOf (wat c ws a)) (stOf (wat c ws a)) (hdOf (wat c ws a))
abbrev ocells (s k p r a t : Int) (h : Bool) (v : Value) : Array Value := #[.int .u64 s, .int .i64 k, .int .i64 p, .int .i64 r, .int .i64 a, .int .i64 t, .bool h, v]
abbrev ov (s k p r a t : Int) (h : Bool) (v : Value) : Value := .agg (ocells s k p r a t h v)
abbrev obv (c : Cfg) (g : Nat) (ws : Nat → Int) (a : Int) : Value :=
 ov (wat c ws (a + 1)) (kdOf (wat c ws a)) (ptOf (wat c ws a)) (rwOf (wat c ws a)) (agOf (wat c ws a)) (stOf (wat c ws a)) (hdOf (wat c ws a)) (.slice (some ⟨g, a.toNat, none⟩) (osz c ws a).toNat (osz c ws a).toNat)
theorem below_above (b g : Nat) (top a : Int) (ha : top ≤ a) (w : World) :
  Calls Tryz.prog 109 #[.pointer (some ⟨b, 0, none⟩), .int .i64 top, .int .i64 a] w fun e w' => e = .returned (.tuple #[ov 0 0 0 0 0 0 false (.slice none 0 0), .bool false]) ∧ Below w.heap.size w w' := by
 go_enter Tryz.func109, Tryz.ntmps109
 go_wp2
 go_returns
 refine ⟨rfl, ?_⟩
 go_grown
theorem results_cell2 {P : Program} {fn : Func} {p u : Tmp} {ty : TypeId} (h : fn.results = #[.cell p ty, .tmp u]) {tmps : Array Value} {w : World} {v : Value} {A : Addr} (ha : tmps.getD p undef = .pointer (some A)) (hl : (loadVar ty A).run P w = .ok v w) :
  (results fn tmps).run P w = .ok (.tuple #[v, tmps.getD u undef]) w := by
 have ha' : tmps[p]?.getD undef = .pointer (some A) := by simpa using ha
 simp [results, h, ha', asAddr, hl]
theorem below_setRow {B : Nat} {w w' : World} (l : Below B w w') {R : Nat} (hR : B ≤ R) (cs : Array Value) : Below B w (w'.setRow R cs) :=
 ⟨l.os, l.tape, l.output, by have := l.size; simpa using this, fun k hk => (setRow_other _ _ _ _ (by omega)).trans (l.block k hk)⟩
theorem oinfo : (Tryz.prog.info? 104).map (·.size) = some 8 := by kernel_rfl
structure Oc (w : World) (R : Nat) (cs : Array Value) : Prop where
 at_ : w.heap[R]? = some (.cells cs 104 (0, 0))
theorem Oc.new (w : World) (cs : Array Value) : Oc (w.alloc (.cells cs 104)) w.heap.size cs := ⟨heap_alloc_new w _⟩
theorem Oc.lt {w : World} {R : Nat} {cs : Array Value} (h : Oc w R cs) : R < w.heap.size := (Array.getElem?_eq_some_iff.1 h.at_).1
theorem Oc.below {w w' : World} {R : Nat} {cs : Array Value} (h : Oc w R cs) (l : Below w.heap.size w w') : Oc w' R cs := ⟨(l.block R h.lt).trans h.at_⟩
theorem Oc.load {w : World} {R : Nat} {s k p r a t : Int} {h : Bool} {v : Value} (o : Oc w R (ocells s k p r a t h v)) : (loadVar 104 ⟨R, 0, none⟩).run Tryz.prog w = .ok (ov s k p r a t h v) w :=
 run_loadVar_row w R 104 104 _ (0, 0) _ o.at_ Tryz.underlying104 rfl oinfo
abbrev ozero : Array Value := ocells 0 0 0 0 0 0 false (.slice none 0 0)
theorem below_no (b g : Nat) (c : Cfg) (x : Tps) (sw : Bool) (ws : Nat → Int) (top a : Int) (h0 : 0 ≤ a) (h1 : a < top) (h2 : top ≤ c.words) (hn : ¬ Stands c ws top a) (w : World) (h : Ar w b g c x sw ws) (hL : Laid w) :
  Calls Tryz.prog 109 #[.pointer (some ⟨b, 0, none⟩), .int .i64 top, .int .i64 a] w fun e w' => e = .returned (.tuple #[ov 0 0 0 0 0 0 false (.slice none 0 0), .bool false]) ∧ Below w.heap.size w w' := by
 obtain ⟨p, rfl⟩ := Int.eq_ofNat_of_zero_le h0
 have b0 : Below w.heap.size w (w.alloc (.cells ozero 104)) := Below.alloc (Below.refl _ _) (Nat.le_refl _) _
 have k14 := (h.below b0).cell14
 have kw := (h.below b0).cellW p h0 (by omega) p rfl
 have hL1 := hL.keep b0
 have o0 := Oc.new w ozero
 have q := h.words
 have wd := h.wat_wd (p : Int)
 unfold Stands osz at hn
 generalize wat c ws (p : Int) = m at kw hn wd
 have hN : (c.words.toNat : Int) = c.words := Int.toNat_of_nonneg (by omega)
 generalize c.words.toNat = N at k14 hN
 clear h hL
 by_cases hd : IsHead m
 ·have hu := unpack_yes m wd hd _ hL1
  obtain ⟨p0, p1⟩ := pt_in m
  obtain ⟨r0, r1⟩ := rw_in m
  have hsz : ¬ 2 + ptOf m + rwOf m ≤ top - p := fun e => hn ⟨hd, e⟩
  clear hn hd
  generalize kdOf m = K, ptOf m = P, rwOf m = R, agOf m = A, stOf m = T, hdOf m = H at hu p0 p1 r0 r1 hsz
  go_enter Tryz.func109, Tryz.ntmps109
  go_wp2_with fail
  refine hu.mono ?_
  rintro e w1 ⟨rfl, b1⟩
  have o1 := o0.below b1
  have b2 := b0.trans (b1.mono b0.size)
  clear hu b0 b1 k14 kw hL1 o0
  go_wp2_with fail
  refine (size_any3 0 K P R A T H p0 p1 r0 r1 _).mono ?_
  rintro e w' ⟨rfl, hw⟩
  obtain ⟨w2, rfl, o2, b3⟩ : ∃ w2, w' = w2 ∧ Oc w2 w.heap.size ozero ∧ Below w.heap.size w w2 := by
   refine ⟨w', rfl, ?_, ?_⟩
   ·rw [hw]; exact (o1.below (Below.alloc (Below.refl _ _) (Nat.le_refl _) _)).below (Below.alloc (Below.refl _ _) (Nat.le_refl _) _)
   ·rw [hw]; exact Below.alloc (Below.alloc b2 b2.size _) (by have := b2.size; simp; omega) _
  clear hw o1 b2
  go_wp2_with (refine wpList_store_row rfl 104 _ _ rfl w.heap.size ozero rfl rfl 104 ozero o2.at_ oinfo rfl (by kernel_rfl) ?_)
  have o3 : Oc (w'.setRow w.heap.size ozero) w.heap.size ozero := ⟨setRow_heap _ _ _ _ _ _ o2.at_⟩
  have b4 := below_setRow b3 (Nat.le_refl _) ozero
  generalize w'.setRow w.heap.size ozero = w3 at *
  clear o2 b3
  go_wp2
  refine bodyPost_ret (results_cell2 Tryz.results109 rfl o3.load) rfl ?_
  exact ⟨rfl, b4⟩
 ·have hu := unpack_no m wd hd _ hL1
  clear hn hd
  go_enter Tryz.func109, Tryz.ntmps109
  go_wp2_with fail
  refine hu.mono ?_
  rintro e w1 ⟨rfl, b1⟩
  have o1 := o0.below b1
  have b2 := b0.trans (b1.mono b0.size)
  clear hu b0 b1 k14 kw hL1 o0
  go_wp2_with fail
  refine (size_any3 0 0 0 0 0 0 false (by decide) (by decide) (by decide) (by decide) _).mono ?_
  rintro e w' ⟨rfl, hw⟩
  obtain ⟨w2, rfl, o2, b3⟩ : ∃ w2, w' = w2 ∧ Oc w2 w.heap.size ozero ∧ Below w.heap.size w w2 := by
   refine ⟨w', rfl, ?_, ?_⟩
   ·rw [hw]; exact (o1.below (Below.alloc (Below.refl _ _) (Nat.le_refl _) _)).below (Below.alloc (Below.refl _ _) (Nat.le_refl _) _)
   ·rw [hw]; exact Below.alloc (Below.alloc b2 b2.size _) (by have := b2.size; simp; omega) _
  clear hw o1 b2
  go_wp2_with (refine wpList_store_row rfl 104 _ _ rfl w.heap.size ozero rfl rfl 104 ozero o2.at_ oinfo rfl (by kernel_rfl) ?_)
  have o3 : Oc (w'.setRow w.heap.size ozero) w.heap.size ozero := ⟨setRow_heap _ _ _ _ _ _ o2.at_⟩
  have b4 := below_setRow b3 (Nat.le_refl _) ozero
  generalize w'.setRow w.heap.size ozero = w3 at *
  clear o2 b3
  go_wp2
  refine bodyPost_ret (results_cell2 Tryz.results109 rfl o3.load) rfl ?_
  exact ⟨rfl, b4⟩
theorem piece_cell (b g N p n : Nat) (hp : (p : Int) + n ≤ N) (hN : (N : Int) ≤ 262145) (w : World) (k : w.cell? ⟨b, 14, none⟩ = some (.slice (some ⟨g, 0, none⟩) N N)) (hn : 0 < n) :
  Calls Tryz.prog 138 #[.pointer (some ⟨b, 0, none⟩), .int .i64 p, .int .i64 n] w fun e w' => e = .returned (.slice (some ⟨g, p, none⟩) n n) ∧ w = w' := by
 go_enter Tryz.func138, Tryz.ntmps138
 go_wp2
 go_ret
 refine ⟨?_, rfl⟩
 simp
theorem below_core (b g N p n : Nat) (m sr K P R A T : Int) (H : Bool) (top : Int) (h1 : (p : Int) < top) (h2 : top ≤ N) (hN : (N : Int) ≤ 262145) (hsz : 2 + P + R = n) (hle : (n : Int) ≤ top - p) (p0 : 0 ≤ P) (p1 : P ≤ 4095) (r0 : 0 ≤ R) (r1 : R ≤ 65535) (w : World)
  (hb : b < w.heap.size) (hg : g < w.heap.size) (c14 : w.cell? ⟨b, 14, none⟩ = some (.slice (some ⟨g, 0, none⟩) N N)) (cm : w.cell? ⟨g, p, none⟩ = some (.int .u64 m)) (cs : w.cell? ⟨g, p + 1, none⟩ = some (.int .u64 sr))
  (hu : ∀ w', Below w.heap.size w w' → Calls Tryz.prog 159 #[.int .u64 m] w' fun e w'' => e = .returned (.tuple #[hv 0 K P R A T H, .bool true]) ∧ Below w'.heap.size w' w'') :
  Calls Tryz.prog 109 #[.pointer (some ⟨b, 0, none⟩), .int .i64 top, .int .i64 p] w fun e w' => e = .returned (.tuple #[ov sr K P R A T H (.slice (some ⟨g, p, none⟩) n n), .bool true]) ∧ Below w.heap.size w w' := by
 have b0 : Below w.heap.size w (w.alloc (.cells ozero 104)) := Below.alloc (Below.refl _ _) (Nat.le_refl _) _
 have o0 := Oc.new w ozero
 have k14 := (b0.cell (p := ⟨b, 14, none⟩) hb).trans c14
 have km := (b0.cell (p := ⟨g, p, none⟩) hg).trans cm
 have hu0 := hu _ b0
 clear hu
 go_enter Tryz.func109, Tryz.ntmps109
 go_wp2_with fail
 refine hu0.mono ?_
 rintro e w1 ⟨rfl, b1⟩
 have o1 := o0.below b1
 have b2 := b0.trans (b1.mono b0.size)
 clear hu0 b0 b1 k14 km o0
 go_wp2_with fail
 refine (size_any3 0 K P R A T H p0 p1 r0 r1 _).mono ?_
 rintro e w' ⟨rfl, hw⟩
 have x1 := Box.new w1 38 (.int .u64 0) (.int .i64 K) (.int .i64 P) (.int .i64 R) (.int .i64 A) (.int .i64 T) (.bool H)
 obtain ⟨w2, rfl, o2, b3, x2⟩ : ∃ w2, w' = w2 ∧ Oc w2 w.heap.size ozero ∧ Below w.heap.size w w2 ∧ Box w2 w1.heap.size (.int .u64 0) (.int .i64 K) (.int .i64 P) (.int .i64 R) (.int .i64 A) (.int .i64 T) (.bool H) := by
  refine ⟨w', rfl, ?_, ?_, ?_⟩
  ·rw [hw]; exact (o1.below (Below.alloc (Below.refl _ _) (Nat.le_refl _) _)).below (Below.alloc (Below.refl _ _) (Nat.le_refl _) _)
  ·rw [hw]; exact Below.alloc (Below.alloc b2 b2.size _) (by have := b2.size; simp; omega) _
  ·rw [hw]; exact x1.keep (Below.alloc (Below.refl _ _) (Nat.le_refl _) _) x1.lt
 have hR1 := o1.lt
 clear hw o1 b2 x1
 have k14 := (b3.cell (p := ⟨b, 14, none⟩) hb).trans c14
 have ks := (b3.cell (p := ⟨g, p + 1, none⟩) hg).trans cs
 have hxl := x2.lt
 have hsz' : 2 + P + R = (n : Int) := hsz
 rw [hsz']
 go_upto_region 7 with fail
 obtain ⟨y0, y1, y2, y3, y4, y5, y6, -, -, -, -, -, -, -⟩ := x2
 generalize w1.heap.size = B1 at *
 go_cut [11] from 39 to 44 (fun v wq => v = .pointer (some ⟨w'.heap.size, 0, none⟩) ∧ wq = (w'.alloc (.cells (ocells 0 K P R A T H (.slice (some ⟨g, p, none⟩) n n)) 104)).drew)
 case first =>
  go_region_with (go_at_call 138; refine (piece_cell b g N p n (by omega) hN _ (by first | exact k14 | exact Lib.cell?_alloc_some _ k14) (by omega)).mono ?_; rintro e Wx ⟨rfl, rfl⟩)
  all_goals (go_wp2_with fail; go_meet; exact ⟨rfl, rfl⟩)
 case rest =>
 obtain ⟨rfl, hwq⟩ := hcut
 clear y0 y1 y2 y3 y4 y5 y6
 have q1 : Oc wc w'.heap.size (ocells 0 K P R A T H (.slice (some ⟨g, p, none⟩) n n)) := by rw [hwq]; exact ⟨(Oc.new w' _).at_⟩
 have q2 : Oc wc w.heap.size ozero := by rw [hwq]; exact ⟨(o2.below (Below.alloc (Below.refl _ _) (Nat.le_refl _) _)).at_⟩
 have q3 : Below w.heap.size w wc := by rw [hwq]; exact below_drewN (Below.alloc b3 b3.size _) 1
 have q4 : wc.cell? ⟨g, p + 1, none⟩ = some (.int .u64 sr) := (q3.cell (p := ⟨g, p + 1, none⟩) hg).trans cs
 have hne : w.heap.size ≠ w'.heap.size := Nat.ne_of_lt o2.lt
 have hle3 := b3.size
 clear hwq o2 b3 k14 ks
 generalize w'.heap.size = B3 at *
 have z0 := cell_of_row _ _ 0 _ _ _ q1.at_
 have z7 := cell_of_row _ _ 7 _ _ _ q1.at_
 have zf : wc.frozen? ⟨B3, 0, none⟩ = false := by unfold World.frozen?; simp only [q1.at_]; simp
 simp only [List.getElem?_toArray, List.getElem?_cons_zero, List.getElem?_cons_succ] at z0 z7
 have r1 : Oc (wc.setCell ⟨B3, 0, none⟩ (.int .u64 sr)) B3 (ocells sr K P R A T H (.slice (some ⟨g, p, none⟩) n n)) := ⟨by simp [World.setCell, Array.getElem?_modify, q1.at_]⟩
 have r2 : Oc (wc.setCell ⟨B3, 0, none⟩ (.int .u64 sr)) w.heap.size ozero := ⟨(Below.heap_setCell _ _ _ _ hne).trans q2.at_⟩
 have r3 : Below w.heap.size w (wc.setCell ⟨B3, 0, none⟩ (.int .u64 sr)) := Below.setCell q3 hle3 _
 have hn2 : 2 ≤ n := by omega
 go_upto_region 9 with fail
 clear q1 q2 q3 q4 z0 z7 zf
 generalize wc.setCell ⟨B3, 0, none⟩ (.int .u64 sr) = w4 at *
 have hld : (Instr.loadAt 104 (.pointer (some ⟨B3, 0, none⟩))).run Tryz.prog w4 = .ok (ov sr K P R A T H (.slice (some ⟨g, p, none⟩) n n)) w4 := by
  simp only [Instr.loadAt, Instr.sureAddr, Sem.run_bind, Sem.run_pure, Result.andThen]
  exact r1.load
 go_wp2_with (first | (refine wpList_load_row rfl 104 _ rfl B3 rfl 104 _ (0, 0) _ r1.at_ Tryz.underlying104 rfl oinfo ?_) | (refine wpList_store_row rfl 104 _ _ rfl w.heap.size (ocells sr K P R A T H (.slice (some ⟨g, p, none⟩) n n)) rfl rfl 104 ozero r2.at_ oinfo rfl (by kernel_rfl) ?_))
 have o3 : Oc (w4.setRow w.heap.size (ocells sr K P R A T H (.slice (some ⟨g, p, none⟩) n n))) w.heap.size (ocells sr K P R A T H (.slice (some ⟨g, p, none⟩) n n)) := ⟨setRow_heap _ _ _ _ _ _ r2.at_⟩
 have b4 := below_setRow r3 (Nat.le_refl _) (ocells sr K P R A T H (.slice (some ⟨g, p, none⟩) n n))
 generalize w4.setRow w.heap.size (ocells sr K P R A T H (.slice (some ⟨g, p, none⟩) n n)) = w5 at *
 clear r1 r2 r3 hld
 go_wp2
 refine bodyPost_ret (results_cell2 Tryz.results109 rfl o3.load) rfl ?_
 exact ⟨rfl, b4⟩
theorem below_yes (b g : Nat) (c : Cfg) (x : Tps) (sw : Bool) (ws : Nat → Int) (top a : Int) (h0 : 0 ≤ a) (h1 : a < top) (h2 : top ≤ c.words) (hs : Stands c ws top a) (w : World) (h : Ar w b g c x sw ws) (hL : Laid w) :
  Calls Tryz.prog 109 #[.pointer (some ⟨b, 0, none⟩), .int .i64 top, .int .i64 a] w fun e w' => e = .returned (.tuple #[obv c g ws a, .bool true]) ∧ Below w.heap.size w w' := by
 obtain ⟨p, rfl⟩ := Int.eq_ofNat_of_zero_le h0
 have q := h.words
 have z := osz_in c ws p
 obtain ⟨hd, hle⟩ := hs
 have hN : (c.words.toNat : Int) = c.words := Int.toNat_of_nonneg (by omega)
 have hz : ((osz c ws p).toNat : Int) = osz c ws p := Int.toNat_of_nonneg (by omega)
 have k := below_core b g c.words.toNat p (osz c ws p).toNat (wat c ws p) (wat c ws ((p : Int) + 1)) (kdOf (wat c ws p)) (ptOf (wat c ws p)) (rwOf (wat c ws p)) (agOf (wat c ws p)) (stOf (wat c ws p)) (hdOf (wat c ws p)) top h1 (by omega) (by omega) (by rw [hz]; rfl) (by omega) (pt_in _).1 (pt_in _).2 (rw_in _).1 (rw_in _).2 w h.own.lt h.row.lt h.cell14
  (h.cellW p h0 (by omega) p rfl) (h.cellW ((p : Int) + 1) (by omega) (by omega) (p + 1) (by omega)) (fun w' l => unpack_yes _ (h.wat_wd _) hd w' (hL.keep l))
 exact k
inductive Past (c : Cfg) (ws : Nat → Int) (top : Int) : Int → Int → Prop
 | done {a : Int} (h : top ≤ a ∨ ¬ (IsTag 3 (wat c ws a) ∧ wat c ws a / 4 ≤ top - a)) : Past c ws top a a
 | step {a e : Int} (h : a < top) (ht : IsTag 3 (wat c ws a)) (hl : wat c ws a / 4 ≤ top - a) (r : Past c ws top (a + wat c ws a / 4) e) : Past c ws top a e
theorem Past.ge {c : Cfg} {ws : Nat → Int} {top a e : Int} (h : Past c ws top a e) : a ≤ e := by
 induction h with
 | done => exact Int.le_refl _
 | step h ht hl r ih => have := ht.2.1; omega
theorem past_any (b g : Nat) (c : Cfg) (x : Tps) (sw : Bool) (ws : Nat → Int) (top a e : Int) (h0 : 0 ≤ a) (h2 : top ≤ c.words) (hp : Past c ws top a e) (w : World) (h : Ar w b g c x sw ws) (hL : Laid w) :
  Calls Tryz.prog 128 #[.pointer (some ⟨b, 0, none⟩), .int .i64 top, .int .i64 a] w fun r w' => r = .returned (.int .i64 e) ∧ Below w.heap.size w w' := by
 have q := h.words
 have hN : (c.words.toNat : Int) = c.words := Int.toNat_of_nonneg (by omega)
 have Hh : Hid (Ar w b g c x sw ws) := h
 clear h
 go_enter Tryz.func128, Tryz.ntmps128
 go_wp2
 go_loopw [2] (fun v wr => ∃ i : Int, 0 ≤ i ∧ v = .int .i64 i ∧ Past c ws top i e ∧ ∃ n, wr = w.drewN n) (fun v _ => (top - intOf v).toNat)
 case atStart => exact ⟨a, h0, rfl, hp, 0, rfl⟩
 case round =>
  obtain ⟨i, hi, rfl, hr, n, rfl⟩ := hrel
  by_cases hlt : i < top
  ·obtain ⟨p, rfl⟩ := Int.eq_ofNat_of_zero_le hi
   have k14 : (w.drewN n).cell? ⟨b, 14, none⟩ = _ := Hh.out.cell14
   have kw : (w.drewN n).cell? ⟨g, p, none⟩ = _ := Hh.out.cellW p hi (by omega) p rfl
   have wd := Hh.out.wat_wd (p : Int)
   have hf := filled_any (wat c ws p) wd (w.drewN n) hL.b
   have Hr : Hid (Past c ws top p e) := hr
   clear hr
   by_cases ht : IsTag 3 (wat c ws p) ∧ wat c ws p / 4 ≤ top - p
   ·have hnx : Past c ws top (p + wat c ws p / 4) e := by
     rcases Hr.out with ⟨hd⟩ | ⟨_, _, _, r⟩
     ·rcases hd with hd | hd
      ·omega
      ·exact absurd ht hd
     ·exact r
    have e1 : tn 3 (wat c ws p) = wat c ws p / 4 := by unfold tn; rw [if_pos ht.1]
    have g1 := ht.1.2.1
    have g2 := ht.2
    rw [e1, decide_eq_true ht.1] at hf
    have Hnx : Hid (Past c ws top (p + wat c ws p / 4) e) := hnx
    clear ht hnx e1
    generalize hmm : wat c ws p / 4 = t at hf g1 g2
    have Hm : Hid (wat c ws p / 4 = t) := hmm
    clear hmm
    generalize c.words.toNat = N at *
    go_wp2_with fail
    refine hf.mono ?_
    rintro r w' ⟨rfl, n', rfl⟩
    go_wp2
    go_roundw
    case rel => exact ⟨p + t, by omega, rfl, by rw [← Hm.out]; exact Hnx.out, n + n', rfl⟩
    case measure => simp [intOf]; omega
   ·have he : e = p := by
     rcases Hr.out with ⟨_⟩ | ⟨_, h1, h2, r⟩
     ·rfl
     ·exact absurd ⟨h1, h2⟩ ht
    subst he
    by_cases ht1 : IsTag 3 (wat c ws p)
    ·have g2 : ¬ wat c ws p / 4 ≤ top - p := fun e => ht ⟨ht1, e⟩
     have e1 : tn 3 (wat c ws p) = wat c ws p / 4 := by unfold tn; rw [if_pos ht1]
     rw [e1, decide_eq_true ht1] at hf
     clear ht ht1 e1 Hr
     generalize wat c ws p / 4 = t at hf g2
     generalize c.words.toNat = N at *
     go_wp2_with fail
     refine hf.mono ?_
     rintro r w' ⟨rfl, n', rfl⟩
     go_wp2
     go_ret
     exact ⟨rfl, below_drewN (Below.refl _ _) _⟩
    ·rw [decide_eq_false ht1] at hf
     clear ht ht1 Hr
     generalize tn 3 (wat c ws p) = t at hf
     generalize c.words.toNat = N at *
     go_wp2_with fail
     refine hf.mono ?_
     rintro r w' ⟨rfl, n', rfl⟩
     go_wp2
     go_ret
     exact ⟨rfl, below_drewN (Below.refl _ _) _⟩
  ·have he : e = i := by
    rcases hr with ⟨_⟩ | ⟨h1, _, _, _⟩
    ·rfl
    ·omega
   subst he
   clear hr hp
   go_wp2
   go_ret
   exact ⟨rfl, below_drewN (Below.refl _ _) _⟩
theorem pck_ok {k p r a t : Int} {h : Bool} (hf : flt k p r a t = 0) : pck k p r a t h = wrd k p r a t h := by unfold pck; rw [if_pos hf]
theorem wrd_wd {k p r a t : Int} {h : Bool} (m : May k p r a t) : Wd (wrd k p r a t h) := by
 have := m.k1; have := m.k4; have := m.p0; have := m.p1; have := m.r0; have := m.r1; have := m.a0; have := m.a1; have := m.s0; have := m.s1
 unfold wrd Wd
 split <;> omega
theorem put_bad (b g : Nat) (S s k p r a t : Int) (h : Bool) (hf : flt k p r a t ≠ 0) (w : World) (hL : Laid w) :
  Calls Tryz.prog 30 #[.pointer (some ⟨b, 0, none⟩), .int .i64 S, hv s k p r a t h] w fun e w' => e = .returned (.tuple #[.int .i64 0, .bool false]) ∧ Below w.heap.size w w' := by
 have b0 : Below w.heap.size w (w.alloc (.cells (hcells s k p r a t h) 38)) := Below.alloc (Below.refl _ _) (Nat.le_refl _) _
 have hp := pack_any s k p r a t h _ (hL.keep b0)
 generalize flt k p r a t = f, pck k p r a t h = m at hf hp
 go_enter Tryz.func30, Tryz.ntmps30
 go_wp2_with fail
 refine hp.mono ?_
 rintro e w1 ⟨rfl, b1⟩
 have b2 := b0.trans (b1.mono b0.size)
 go_wp2
 go_ret2
 exact ⟨rfl, b2⟩
theorem put_full (b g : Nat) (c : Cfg) (x : Tps) (sw : Bool) (ws : Nat → Int) (S s k p r a t : Int) (h : Bool) (hf : flt k p r a t = 0) (hn : ¬ 2 + p + r ≤ bhd c S - x.top S) (w : World) (hA : Ar w b g c x sw ws) (hL : Laid w) :
  Calls Tryz.prog 30 #[.pointer (some ⟨b, 0, none⟩), .int .i64 S, hv s k p r a t h] w fun e w' => e = .returned (.tuple #[.int .i64 0, .bool false]) ∧ Below w.heap.size w w' := by
 have b0 : Below w.heap.size w (w.alloc (.cells (hcells s k p r a t h) 38)) := Below.alloc (Below.refl _ _) (Nat.le_refl _) _
 have hp := pack_any s k p r a t h _ (hL.keep b0)
 have x0 := Box.new w 38 (.int .u64 s) (.int .i64 k) (.int .i64 p) (.int .i64 r) (.int .i64 a) (.int .i64 t) (.bool h)
 have m := May.of hf
 rw [hf] at hp
 generalize pck k p r a t h = wd at hp
 have p0 := m.p0; have p1 := m.p1; have r0 := m.r0; have r1 := m.r1
 have Hm : Hid (May k p r a t) := m
 clear hf m
 have Ht : Hid (∀ w, Ar w b g c x sw ws → Calls Tryz.prog 78 #[.pointer (some ⟨b, 0, none⟩), .int .i64 S, .int .i64 (2 + p + r)] w fun e w' => e = .returned (.tuple #[.int .i64 0, .bool false]) ∧ Below w.heap.size w w') := fun w hw => take_no b g c x sw ws S _ (fun hh => hn hh.2) w hw
 have HA : Hid (Ar w b g c x sw ws) := hA
 clear hA hn
 go_enter Tryz.func30, Tryz.ntmps30
 go_wp2_with fail
 refine hp.mono ?_
 rintro e w1 ⟨rfl, b1⟩
 have b2 := b0.trans (b1.mono b0.size)
 have x1 := x0.keep b1 x0.lt
 clear b0 b1 hp x0
 obtain ⟨y0, y1, y2, y3, y4, y5, y6, -, -, -, -, -, -, -⟩ := x1
 go_wp2_with fail
 refine (size_any3 s k p r a t h p0 p1 r0 (by omega) _).mono ?_
 rintro e w2 ⟨rfl, hw2⟩
 have b3 : Below w.heap.size w w2 := by rw [hw2]; exact Below.alloc b2 b2.size _
 clear hw2 b2 y0 y1 y2 y3 y4 y5 y6
 go_wp2_with fail
 refine (Ht.out w2 (HA.out.below b3)).mono ?_
 rintro e w3 ⟨rfl, b4⟩
 have b5 := b3.trans (b4.mono b3.size)
 clear b3 b4
 go_wp2
 go_ret2
 exact ⟨rfl, b5⟩
def putw (ws : Nat → Int) (q n : Nat) (m s : Int) : Nat → Int := upd (upd (zer ws q n) q m) (q + 1) s
theorem put_yes (b g : Nat) (c : Cfg) (x : Tps) (sw : Bool) (ws : Nat → Int) (S s k p r a t : Int) (h : Bool) (hs : Wd s) (hf : flt k p r a t = 0) (q n : Nat) (hq : x.top S = q) (hn : (n : Int) = 2 + p + r) (hle : (q : Int) + n ≤ bhd c S) (w : World) (hA : Ar w b g c x sw ws) (hL : Laid w) :
  Calls Tryz.prog 30 #[.pointer (some ⟨b, 0, none⟩), .int .i64 S, hv s k p r a t h] w fun e w' => e = .returned (.tuple #[.int .i64 q, .bool true]) ∧ Ar w' b g c (x.put S (q + n)) sw (putw ws q n (wrd k p r a t h) s) ∧ Touch [b, g] w w' := by
 have b0 : Below w.heap.size w (w.alloc (.cells (hcells s k p r a t h) 38)) := Below.alloc (Below.refl _ _) (Nat.le_refl _) _
 have hp := pack_any s k p r a t h _ (hL.keep b0)
 have x0 := Box.new w 38 (.int .u64 s) (.int .i64 k) (.int .i64 p) (.int .i64 r) (.int .i64 a) (.int .i64 t) (.bool h)
 have m := May.of hf
 rw [hf, pck_ok hf] at hp
 have hwd := wrd_wd (h := h) m
 generalize wrd k p r a t h = wd at hp hwd ⊢
 have p0 := m.p0; have p1 := m.p1; have r0 := m.r0; have r1 := m.r1
 have wo := hA.words
 have bo := (hA.sub_in S).2.2.2
 have Ht : Hid (∀ w, Ar w b g c x sw ws → Calls Tryz.prog 78 #[.pointer (some ⟨b, 0, none⟩), .int .i64 S, .int .i64 (2 + p + r)] w fun e w' => e = .returned (.tuple #[.int .i64 q, .bool true]) ∧ Ar w' b g c (x.put S (q + n)) sw (zer ws q n) ∧ Touch [b, g] w w') := fun w hw => by
  rw [← hn]
  exact take_yes b g c x sw ws S q n hq (by omega) hle w hw
 have Hw : Hid (∀ w, Ar w b g c (x.put S (q + n)) sw (zer ws q n) → Calls Tryz.prog 80 #[.pointer (some ⟨b, 0, none⟩), .int .i64 q, .int .u64 wd, .int .u64 s] w fun e w' => e = .returned (.tuple #[]) ∧ Ar w' b g c (x.put S (q + n)) sw (putw ws q n wd s) ∧ Touch [g] w w') := fun w hw => write_any b g c _ sw _ q wd s hwd hs (by omega) w hw
 have HA : Hid (Ar w b g c x sw ws) := hA
 have hbl := hA.own.lt
 have hgl := hA.row.lt
 clear hA hf m hn hle bo
 go_enter Tryz.func30, Tryz.ntmps30
 go_wp2_with fail
 refine hp.mono ?_
 rintro e w1 ⟨rfl, b1⟩
 have b2 := b0.trans (b1.mono b0.size)
 have x1 := x0.keep b1 x0.lt
 clear b0 b1 hp x0
 have x1' := x1
 obtain ⟨y0, y1, y2, y3, y4, y5, y6, -, -, -, -, -, -, -⟩ := x1
 go_wp2_with fail
 refine (size_any3 s k p r a t h p0 p1 r0 (by omega) _).mono ?_
 rintro e w2 ⟨rfl, hw2⟩
 have b3 : Below w.heap.size w w2 := by rw [hw2]; exact Below.alloc b2 b2.size _
 have x2 : w2.cell? ⟨w.heap.size, 0, none⟩ = some (.int .u64 s) := by
  rw [hw2]; exact (x1'.keep (Below.alloc (Below.refl _ _) (Nat.le_refl _) _) x1'.lt).h0
 have hwl : w.heap.size < w2.heap.size := World.block_lt_of_cell? _ _ x2
 clear hw2 b2 y0 y1 y2 y3 y4 y5 y6 x1'
 go_wp2_with fail
 refine (Ht.out w2 (HA.out.below b3)).mono ?_
 rintro e w3 ⟨rfl, hA3, t3⟩
 have x3 : w3.cell? ⟨w.heap.size, 0, none⟩ = some (.int .u64 s) := by
  rw [World.cell?_of_block (w := w2) (t3.block _ hwl (by simp; omega))]; exact x2
 have t4 : Touch [b, g] w w3 := (Touch.of_below b3 _).trans t3
 have HA3 : Hid (Ar w3 b g c (x.put S (q + n)) sw (zer ws q n)) := hA3
 clear hA3 t3 b3 x2
 go_wp2_with fail
 refine (Hw.out w3 HA3.out).mono ?_
 rintro e w4 ⟨rfl, hA4, t5⟩
 have HA4 : Hid (Ar w4 b g c (x.put S (q + n)) sw (putw ws q n wd s)) := hA4
 have t6 := t4.then t5 (fun x h => .inl (by simp at h; simp [h]))
 clear hA4 t5 t4 x3
 go_wp2
 go_ret2
 exact ⟨rfl, HA4.out, t6⟩
inductive Walk (c : Cfg) (ws : Nat → Int) (top : Int) : Int → List Int → Int → Prop
 | done {a : Int} (h : top ≤ a) : Walk c ws top a [] a
 | fail {a : Int} (h : a < top) (hn : ¬ Stands c ws top a) : Walk c ws top a [] a
 | obj {a a' e : Int} {l : List Int} (h : a < top) (hs : Stands c ws top a) (hp : Past c ws top (a + osz c ws a) a') (r : Walk c ws top a' l e) : Walk c ws top a (a :: l) e
def Newer (n : Nat) (F F' : List Nat) : Prop := ∀ k, k ∈ F' → k ∈ F ∨ n ≤ k
theorem Newer.refl (n : Nat) (F : List Nat) : Newer n F F := fun _ h => .inl h
theorem objects_any (b : Nat) (S : Int) (w : World) :
  Calls Tryz.prog 64 #[.pointer (some ⟨b, 0, none⟩), .int .i64 S] w fun e w' => e = .returned (.func (.func 126) #[] #[.pointer (some ⟨w.heap.size, 0, none⟩), .pointer (some ⟨w.heap.size + 1, 0, none⟩)]) ∧ w' = (w.alloc (.cells #[.pointer (some ⟨b, 0, none⟩)] 44)).alloc (.cells #[.int .i64 S] 3) := by
 go_enter Tryz.func64, Tryz.ntmps64
 go_wp2
 go_ret
 exact ⟨rfl, rfl⟩
structure It (w : World) (b g ca cs : Nat) (c : Cfg) (x : Tps) (sw : Bool) (ws : Nat → Int) (S : Int) : Prop where
 ar : Ar w b g c x sw ws
 laid : Laid w
 ca : w.cell? ⟨ca, 0, none⟩ = some (.pointer (some ⟨b, 0, none⟩))
 cs : w.cell? ⟨cs, 0, none⟩ = some (.int .i64 S)
structure Off (F : List Nat) (b g ca cs : Nat) : Prop where
 b : b ∉ F
 g : g ∉ F
 ca : ca ∉ F
 cs : cs ∉ F
 k0 : 1 ∉ F
 k1 : 0 ∉ F
theorem It.touch {w w' : World} {b g ca cs : Nat} {c : Cfg} {x : Tps} {sw : Bool} {ws : Nat → Int} {S : Int} {F : List Nat} (h : It w b g ca cs c x sw ws S) (o : Off F b g ca cs) (t : Touch F w w') : It w' b g ca cs c x sw ws S :=
 ⟨h.ar.touch t o.b o.g, h.laid.touch t o.k0 o.k1, (World.cell?_of_block (w := w) (t.block _ (World.block_lt_of_cell? _ _ h.ca) o.ca)).trans h.ca, (World.cell?_of_block (w := w) (t.block _ (World.block_lt_of_cell? _ _ h.cs) o.cs)).trans h.cs⟩
theorem It.below {w w' : World} {b g ca cs : Nat} {c : Cfg} {x : Tps} {sw : Bool} {ws : Nat → Int} {S : Int} (h : It w b g ca cs c x sw ws S) (l : Below w.heap.size w w') : It w' b g ca cs c x sw ws S :=
 h.touch (F := []) ⟨by simp, by simp, by simp, by simp, by simp, by simp⟩ (Touch.of_below l [])
structure Ec (w : World) (R : Nat) (f q t : Int) : Prop where
 at_ : w.heap[R]? = some (.cells (ecells f q t) 126 (0, 0))
theorem Ec.lt {w : World} {R : Nat} {f q t : Int} (h : Ec w R f q t) : R < w.heap.size := (Array.getElem?_eq_some_iff.1 h.at_).1
theorem Ec.below {w w' : World} {R : Nat} {f q t : Int} (h : Ec w R f q t) (l : Below w.heap.size w w') : Ec w' R f q t := ⟨(l.block R h.lt).trans h.at_⟩
theorem Ec.c0 {w : World} {R : Nat} {f q t : Int} (h : Ec w R f q t) : w.cell? ⟨R, 0, none⟩ = some (.int .i64 f) := cell_of_row _ _ 0 _ _ _ h.at_
theorem Ec.c2 {w : World} {R : Nat} {f q t : Int} (h : Ec w R f q t) : w.cell? ⟨R, 2, none⟩ = some (.int .i64 t) := cell_of_row _ _ 2 _ _ _ h.at_
theorem Oc.cell {w : World} {R : Nat} {cs : Array Value} (h : Oc w R cs) (j : Nat) : w.cell? ⟨R, j, none⟩ = cs[j]? := cell_of_row _ _ j _ _ _ h.at_
end Go.Proofs.YtlkengnefhhppaaGreatDoor
