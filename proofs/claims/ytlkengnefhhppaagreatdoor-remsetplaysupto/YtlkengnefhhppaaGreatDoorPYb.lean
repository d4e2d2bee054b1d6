import Derived.Test.YtlkengnefhhppaaGreatDoorPYa
import Derived.Maps.OwnSet
import Derived.StillTailTactics
import Derived.BigQuiet
import Derived.Deep.RegionLaw
import Derived.StillTail
set_option linter.unusedVariables false
set_option maxHeartbeats 8000000
set_option maxRecDepth 20000
namespace Go.Proofs.YtlkengnefhhppaaGreatDoor
open Go.RowKit Go.Shelf
theorem Ly.thing {n1 : Nat} {w : World} {lb : Nat} {c : Cfg} {L : List LT} (h : Ly n1 w lb c L) {i : Nat} {T : LT} (hT : L[i]? = some T) : ∃ q off cap q' off' cap', w.cell? ⟨lb, 14, none⟩ = some (.slice (some ⟨q, off, none⟩) L.length cap) ∧ w.cell? ⟨lb, 15, none⟩ = some (.slice (some ⟨q', off', none⟩) L.length cap') ∧ (∀ j, j < 11 → w.cell? ⟨q, off + i * 11 + j, none⟩ = T.cells[j]?) ∧ w.cell? ⟨q', off' + i, none⟩ = some (.int .i64 T.at_) ∧ q < n1 ∧ q' < n1 ∧ L.length ≤ cap' := by
 obtain ⟨v, h1, a, cap, rfl, h2⟩ := h.things
 obtain ⟨u, h3, a', cap', h4, hcp, h5⟩ := h.ats
 obtain ⟨-, -, -, q, off, rfl, h7, h8⟩ := h2 i T hT
 obtain ⟨q', off', rfl, h9, h10⟩ := h5 i T.at_ (by rw [List.getElem?_map, hT]; rfl)
 rw [List.length_map] at h4 hcp
 subst h4
 exact ⟨q, off, cap, q', off', cap', h1, h3, h8, h10, h7, h9, hcp⟩
theorem Ly.lens {n1 : Nat} {w : World} {lb : Nat} {c : Cfg} {L : List LT} (h : Ly n1 w lb c L) : ∃ a cap a' cap', w.cell? ⟨lb, 14, none⟩ = some (.slice a L.length cap) ∧ w.cell? ⟨lb, 15, none⟩ = some (.slice a' L.length cap') := by
 obtain ⟨v, h1, a, cap, rfl, h2⟩ := h.things
 obtain ⟨u, h3, a', cap', h4, -, h5⟩ := h.ats
 rw [List.length_map] at h4
 subst h4
 exact ⟨a, cap, a', cap', h1, h3⟩
theorem thr_low {L : List LT} {z : Int} (h : z < 1 ∨ (L.length : Int) < z) : thr L z = false := by
 cases e : thr L z
 ·rfl
 ·obtain ⟨T, hT⟩ := thr_iff.1 e
  obtain ⟨h1, h2, -⟩ := ob_some.1 hT
  have := (List.getElem?_eq_some_iff.1 h2).1
  omega
theorem thr_at {L : List LT} {i : Nat} {T : LT} (h : L[i]? = some T) : thr L ((i : Int) + 1) = decide (0 < T.at_ ∧ T.fill = 0) := by
 have e : ((i : Int) + 1 - 1).toNat = i := by omega
 unfold thr ob
 rw [if_pos (by omega), e, h]
 by_cases hh : 0 < T.at_ ∧ T.fill = 0
 ·simp [Option.filter, hh]
 ·simp [Option.filter, hh]
theorem there_any {n1 : Nat} {w : World} {lb : Nat} {c : Cfg} {L : List LT} (h : Ly n1 w lb c L) (hlen : L.length ≤ 400) (z : Int) (hz : InI z) :
  Calls Tryz.prog 43 #[.pointer (some ⟨lb, 0, none⟩), .int .i64 z] w fun e w' => e = .returned (.bool (thr L z)) ∧ Below w.heap.size w w' := by
 by_cases h1 : z < 1
 ·rw [thr_low (.inl h1)]
  have g1 : decide (1 ≤ z) = false := by simp; omega
  clear h
  go_enter Tryz.func43, Tryz.ntmps43
  go_wp2
  go_ret
  exact ⟨rfl, by go_grown⟩
 ·obtain ⟨a, cap, a', cap', k14, k15⟩ := h.lens
  by_cases h2 : (L.length : Int) < z
  ·rw [thr_low (.inr h2)]
   have g1 : decide (1 ≤ z) = true := by simp; omega
   have g2 : decide (z ≤ (L.length : Int)) = false := by simp; omega
   clear h
   go_enter Tryz.func43, Tryz.ntmps43
   go_wp2
   go_ret
   exact ⟨rfl, by go_grown⟩
  ·obtain ⟨i, rfl⟩ : ∃ i : Nat, z = (i : Int) + 1 := ⟨(z - 1).toNat, by omega⟩
   have hi : i < L.length := by omega
   have hT : L[i]? = some (L[i]'hi) := List.getElem?_eq_getElem hi
   generalize L[i]'hi = T at hT
   obtain ⟨q, off, cap2, q', off', cap2', l14, l15, hc, ka, -, -, hcp⟩ := h.thing hT
   have kf : w.cell? ⟨q, off + i * 11 + 10, none⟩ = some (.int .i64 T.fill) := hc 10 (by decide)
   rw [thr_at hT]
   generalize L.length = N at *
   clear h hT hc k14 k15 a cap a' cap'
   generalize T.at_ = A at *
   generalize T.fill = F at *
   by_cases hA : 0 < A
   ·by_cases hF : F = 0
    ·subst hF
     go_enter Tryz.func43, Tryz.ntmps43
     go_wp2
     go_ret
     exact ⟨by simp, by go_grown⟩
    ·have hF' : (F == 0) = false := by simpa using hF
     go_enter Tryz.func43, Tryz.ntmps43
     go_wp2
     go_ret
     exact ⟨by simp, by go_grown⟩
   ·have hA' : decide (A > 0) = false := by simpa using hA
    go_enter Tryz.func43, Tryz.ntmps43
    go_wp2
    go_ret
    exact ⟨by simp, by go_grown⟩
structure Bq (w1 : World) (n1 : Nat) (w : World) (b g : Nat) (c : Cfg) (x : Tps) (sw : Bool) (ws : Nat → Int) (th : List Tng) : Prop where
 ax : Ax w b g c x sw ws th
 be : Below n1 w1 w
 lb : n1 ≤ b
 lg : n1 ≤ g
 t0 : 1 < n1
 t1 : 0 < n1
theorem Bq.below {w1 : World} {n1 : Nat} {w w' : World} {b g : Nat} {c : Cfg} {x : Tps} {sw : Bool} {ws : Nat → Int} {th : List Tng} (H : Bq w1 n1 w b g c x sw ws th) (hn : n1 ≤ w1.heap.size) (l : Below w.heap.size w w') : Bq w1 n1 w' b g c x sw ws th :=
 ⟨H.ax.below l, H.be.trans (l.mono (Nat.le_trans hn H.be.size)), H.lb, H.lg, H.t0, H.t1⟩
theorem Bq.next {w1 : World} {n1 : Nat} {w w' : World} {b g : Nat} {c : Cfg} {x x' : Tps} {sw sw' : Bool} {ws ws' : Nat → Int} {th th' : List Tng} (H : Bq w1 n1 w b g c x sw ws th) (hn : n1 ≤ w1.heap.size) (t : Touch [b, g] w w') (hA : Ar w' b g c x' sw' ws') (hH : Hld c x' ws' th') : Bq w1 n1 w' b g c x' sw' ws' th' := by
 have hs := H.be.size
 have t0 := H.t0
 have t1 := H.t1
 have lb := H.lb
 have lg := H.lg
 refine ⟨⟨hA, H.ax.la.touch t (by simp; omega) (by simp; omega), hH⟩, H.be.trans (t.below (by omega) (fun k hk => ?_)), H.lb, H.lg, H.t0, H.t1⟩
 simp at hk
 rcases hk with rfl | rfl
 ·exact lb
 ·exact lg
theorem Touch.one {b g : Nat} {w w' : World} (t : Touch [g] w w') : Touch [b, g] w w' := ⟨t.os, t.tape, t.output, t.size, fun k hk hn => t.block k hk (by simp at hn ⊢; exact hn.2)⟩
def Fl (L : List LT) (i kp kr : Nat) (T : Tng) : Prop := ∀ o, L[T.no - 1]? = some o → T.h = o.h ∧ (T.no ≤ i → T.ps = o.ps.map (plc L) ∧ T.rs = o.rs) ∧ (T.no = i + 1 → (∀ f, f < kp → T.ps[f]? = (o.ps.map (plc L))[f]?) ∧ ∀ f, f < kr → T.rs[f]? = o.rs[f]?)
theorem Fl.zero {L : List LT} {i : Nat} {T : Tng} (h : ∀ o, L[T.no - 1]? = some o → T.h = o.h) (hi : 0 < T.no) (h0 : i = 0) : Fl L i 0 0 T := fun o ho => ⟨h o ho, fun hn => by omega, fun _ => ⟨fun f hf => by omega, fun f hf => by omega⟩⟩
def Full (L : List LT) (T : Tng) : Prop := ∀ o, ob L T.no = some o → T.ps = o.ps.map (plc L) ∧ T.rs = o.rs ∧ T.h = o.h
theorem Fl.next {L : List LT} {th : List Tng} (S : Sk L th) {i kp kr : Nat} (h : ∀ T, T ∈ th → Fl L i kp kr T) (hp : ∀ o, L[i]? = some o → 0 < o.at_ → o.fill = 0 → o.ps.length ≤ kp ∧ o.rs.length ≤ kr) : ∀ T, T ∈ th → Fl L (i + 1) 0 0 T := fun T hT o ho => by
 obtain ⟨h1, h2, h3⟩ := h T hT o ho
 refine ⟨h1, fun hn => ?_, fun _ => ⟨fun f hf => by omega, fun f hf => by omega⟩⟩
 by_cases e : T.no ≤ i
 ·exact h2 e
 ·obtain ⟨n, y, e1, e2, e3, e4, e5⟩ := S.of T hT
  have en : n = i := by omega
  subst en
  have eo : y = o := by
   rw [e1] at ho
   simp at ho
   rw [ho] at e2
   simpa using e2.symm
  subst eo
  obtain ⟨p1, p2⟩ := hp y e2 e3 e4
  obtain ⟨q1, q2⟩ := h3 (by omega)
  constructor
  ·apply List.ext_getElem?
   intro f
   by_cases hf : f < kp
   ·exact q1 f hf
   ·rw [List.getElem?_eq_none (by rw [e5.pl]; omega), List.getElem?_eq_none (by rw [List.length_map]; omega)]
  ·apply List.ext_getElem?
   intro f
   by_cases hf : f < kr
   ·exact q2 f hf
   ·rw [List.getElem?_eq_none (by rw [e5.rl]; omega), List.getElem?_eq_none (by omega)]
theorem Fl.full {L : List LT} {th : List Tng} (S : Sk L th) {kp kr : Nat} (h : ∀ T, T ∈ th → Fl L L.length kp kr T) : ∀ T, T ∈ th → Full L T := fun T hT o ho => by
 obtain ⟨h1, h2, h3, h4⟩ := ob_some.1 ho
 have e : ((T.no : Int) - 1).toNat = T.no - 1 := by omega
 rw [e] at h2
 obtain ⟨q1, q2, -⟩ := h T hT o h2
 have := (List.getElem?_eq_some_iff.1 h2).1
 obtain ⟨r1, r2⟩ := q2 (by omega)
 exact ⟨r1, r2, q1⟩
theorem Fl.ptr {L : List LT} {th : List Tng} (S : Sk L th) {i k : Nat} (h : ∀ T, T ∈ th → Fl L i k 0 T) (j : Nat) (T : Tng) (hj : th[j]? = some T) (hn : T.no = i + 1) (o : LT) (ho : L[i]? = some o) (z : Int) (hz : o.ps[k]? = some z) (hl : k < T.ps.length) : ∀ V, V ∈ th.set j { T with ps := T.ps.set k (plc L z) } → Fl L i (k + 1) 0 V := fun V hV y hy => by
 obtain ⟨m, hm⟩ := List.getElem?_of_mem hV
 rcases set_at_of hm with ⟨rfl, rfl⟩ | ⟨hne, hm2⟩
 ·have hy' : L[T.no - 1]? = some y := hy
  obtain ⟨h1, h2, h3⟩ := h T (List.mem_of_getElem? hj) y hy'
  refine ⟨h1, fun e => ?_, fun _ => ⟨fun f hf => ?_, fun f hf => by omega⟩⟩
  ·have e' : T.no ≤ i := e
   omega
  ·have e0 : y = o := by
    rw [hn] at hy'
    simp at hy'
    rw [ho] at hy'
    simpa using hy'.symm
   subst e0
   show (T.ps.set k (plc L z))[f]? = _
   rw [List.getElem?_set]
   by_cases e : k = f
   ·subst e
    rw [if_pos rfl, if_pos hl, List.getElem?_map, hz]
    rfl
   ·rw [if_neg e]
    exact (h3 hn).1 f (by omega)
 ·obtain ⟨h1, h2, h3⟩ := h V (List.mem_of_getElem? hm2) y hy
  refine ⟨h1, h2, fun e => ?_⟩
  have hV2 := List.mem_of_getElem? hm2
  have := S.uniq hV2 (List.mem_of_getElem? hj) (by omega)
  subst this
  exfalso
  have hp := List.pairwise_iff_getElem.1 S.ord
  obtain ⟨i1, i2⟩ := List.getElem?_eq_some_iff.1 hm2
  obtain ⟨j1, j2⟩ := List.getElem?_eq_some_iff.1 hj
  rcases Nat.lt_or_gt_of_ne hne with g | g
  ·have := hp m j i1 j1 g
   rw [i2, j2] at this
   omega
  ·have := hp j m j1 i1 g
   rw [i2, j2] at this
   omega
theorem Fl.raw {L : List LT} {th : List Tng} (S : Sk L th) {i kp k : Nat} (h : ∀ T, T ∈ th → Fl L i kp k T) (j : Nat) (T : Tng) (hj : th[j]? = some T) (hn : T.no = i + 1) (o : LT) (ho : L[i]? = some o) (z : Int) (hz : o.rs[k]? = some z) (hl : k < T.rs.length) : ∀ V, V ∈ th.set j { T with rs := T.rs.set k z } → Fl L i kp (k + 1) V := fun V hV y hy => by
 obtain ⟨m, hm⟩ := List.getElem?_of_mem hV
 rcases set_at_of hm with ⟨rfl, rfl⟩ | ⟨hne, hm2⟩
 ·have hy' : L[T.no - 1]? = some y := hy
  obtain ⟨h1, h2, h3⟩ := h T (List.mem_of_getElem? hj) y hy'
  refine ⟨h1, fun e => ?_, fun _ => ⟨fun f hf => ?_, fun f hf => ?_⟩⟩
  ·have e' : T.no ≤ i := e
   omega
  ·exact (h3 hn).1 f hf
  ·have e0 : y = o := by
    rw [hn] at hy'
    simp at hy'
    rw [ho] at hy'
    simpa using hy'.symm
   subst e0
   show (T.rs.set k z)[f]? = _
   rw [List.getElem?_set]
   by_cases e : k = f
   ·subst e
    rw [if_pos rfl, if_pos hl, hz]
   ·rw [if_neg e]
    exact (h3 hn).2 f (by omega)
 ·obtain ⟨h1, h2, h3⟩ := h V (List.mem_of_getElem? hm2) y hy
  refine ⟨h1, h2, fun e => ?_⟩
  have hV2 := List.mem_of_getElem? hm2
  have := S.uniq hV2 (List.mem_of_getElem? hj) (by omega)
  subst this
  exfalso
  have hp := List.pairwise_iff_getElem.1 S.ord
  obtain ⟨i1, i2⟩ := List.getElem?_eq_some_iff.1 hm2
  obtain ⟨j1, j2⟩ := List.getElem?_eq_some_iff.1 hj
  rcases Nat.lt_or_gt_of_ne hne with g | g
  ·have := hp m j i1 j1 g
   rw [i2, j2] at this
   omega
  ·have := hp j m j1 i1 g
   rw [i2, j2] at this
   omega
theorem Mt.ptr {T : Tng} {o : LT} (h : Mt T o) (f : Nat) (z : Int) : Mt { T with ps := T.ps.set f z } o := ⟨h.at_, h.sp, h.s, h.k, h.p, h.r, h.a, h.t, by simpa using h.pl, h.rl⟩
theorem Mt.raw {T : Tng} {o : LT} (h : Mt T o) (f : Nat) (z : Int) : Mt { T with rs := T.rs.set f z } o := ⟨h.at_, h.sp, h.s, h.k, h.p, h.r, h.a, h.t, h.pl, by simpa using h.rl⟩
theorem plc_in {L : List LT} {th : List Tng} (S : Sk L th) {w : World} {b g : Nat} {c : Cfg} {x : Tps} {sw : Bool} {ws : Nat → Int} (H : Ax w b g c x sw ws th) (z : Int) : 0 ≤ plc L z ∧ plc L z < c.words := by
 cases e : thr L z
 ·rw [plc_none e]
  have := H.ar.words
  omega
 ·obtain ⟨o, ho⟩ := thr_iff.1 e
  obtain ⟨i, T, hi, -, hm⟩ := S.find ho
  have := H.pos (List.mem_of_getElem? hi)
  rw [plc_some ho, ← hm.at_]
  omega
structure Lc (w : World) (R : Nat) (T : LT) : Prop where
 at_ : w.heap[R]? = some (.cells T.cells 41 (0, 0))
theorem Lc.new (w : World) (T : LT) : Lc (w.alloc (.cells T.cells 41)) w.heap.size T := ⟨heap_alloc_new w _⟩
theorem Lc.lt {w : World} {R : Nat} {T : LT} (h : Lc w R T) : R < w.heap.size := (Array.getElem?_eq_some_iff.1 h.at_).1
theorem Lc.below {w w' : World} {R : Nat} {T : LT} (h : Lc w R T) (l : Below w.heap.size w w') : Lc w' R T := ⟨(l.block R h.lt).trans h.at_⟩
theorem Lc.cell {w : World} {R : Nat} {T : LT} (h : Lc w R T) (j : Nat) : w.cell? ⟨R, j, none⟩ = T.cells[j]? := cell_of_row _ _ j _ _ _ h.at_
theorem Lc.touch {w w' : World} {R : Nat} {T : LT} (h : Lc w R T) {b g : Nat} {c : Cfg} {x : Tps} {sw : Bool} {ws : Nat → Int} (hA : Ar w b g c x sw ws) (t : Touch [b, g] w w') : Lc w' R T := ⟨(t.block R h.lt (by
 obtain ⟨⟨gs, hgs⟩, bs, hbs⟩ := hA.rowTy
 simp only [List.mem_cons, List.not_mem_nil, or_false, not_or]
 exact ⟨heap_ty_ne h.at_ hbs (by decide), heap_ty_ne h.at_ hgs (by decide)⟩)).trans h.at_⟩
theorem place_any {n1 : Nat} {w : World} {lb : Nat} {c : Cfg} {L : List LT} (h : Ly n1 w lb c L) (hn1 : n1 ≤ w.heap.size) (hlen : L.length ≤ 400) (z : Int) (hz : InI z) :
  Calls Tryz.prog 13 #[.pointer (some ⟨lb, 0, none⟩), .int .i64 z] w fun e w' => e = .returned (.int .i64 (plc L z)) ∧ Below w.heap.size w w' := by
 have hth := there_any h hlen z hz
 cases e : thr L z
 ·rw [plc_none e]
  rw [e] at hth
  clear h e
  go_enter Tryz.func13, Tryz.ntmps13
  go_wp2_with fail
  refine hth.mono ?_
  rintro e w1 ⟨rfl, l1⟩
  go_wp2
  go_ret
  exact ⟨rfl, l1⟩
 ·rw [e] at hth
  obtain ⟨T, hT⟩ := thr_iff.1 e
  rw [plc_some hT]
  obtain ⟨h1, h2, h3, h4⟩ := ob_some.1 hT
  obtain ⟨i, rfl⟩ : ∃ i : Nat, z = (i : Int) + 1 := ⟨(z - 1).toNat, by omega⟩
  have ei : ((i : Int) + 1 - 1).toNat = i := by omega
  rw [ei] at h2
  have hi := (List.getElem?_eq_some_iff.1 h2).1
  have HL : Hid (Ly n1 w lb c L) := h
  clear h e hT
  go_enter Tryz.func13, Tryz.ntmps13
  go_wp2_with fail
  refine hth.mono ?_
  rintro e w1 ⟨rfl, l1⟩
  obtain ⟨q, off, cap2, q', off', cap2', l14, l15, hc, ka, -, -, hcp⟩ := (HL.out.below (l1.mono hn1)).thing h2
  clear hth hc l14
  generalize L.length = N at *
  go_wp2
  go_ret
  exact ⟨rfl, l1⟩
theorem Tryz.keyed : Maps.Keyed Tryz.prog 3 := Maps.int_keyed Tryz.underlying3
theorem Tryz.zeroU (w : World) : (zeroValue 148).run Tryz.prog w = .ok (.agg #[]) w := by kernel_rfl
theorem wf_of {a : Int} (h : InI a) : (Lit.int .i64 a).wf = true := by
 simp [Lit.wf, IntKind.min, IntKind.max, IntKind.signed, IntKind.bits]
 exact h
theorem key_of {a : Int} (h : InI a) : keyOf Tryz.prog 3 (.int .i64 a) = some (.int .i64 a) := Maps.keyOf_int_mk Tryz.underlying3 (wf_of h)
theorem keyLit (a : Int) : WideAt.IsKeyLit (.int .i64 a) := by simp [WideAt.IsKeyLit]
def Ms (w : World) (mb n : Nat) (S : Int → Bool) : Prop := ∃ D : DataW Nat, w.ownsMap Tryz.prog 3 unitElem mb n D ∧ ∀ a, InI a → Maps.has D (.int .i64 a) = S a
section
variable {w w' : World} {mb n : Nat} {S : Int → Bool}
theorem Ms.is (h : Ms w mb n S) : ∃ es cl, w.heap[mb]? = some (.map es cl) := by
 obtain ⟨D, ⟨es, cl, h1, -⟩, -⟩ := h
 exact ⟨es, cl, h1⟩
theorem Ms.lt (h : Ms w mb n S) : mb < w.heap.size := by
 obtain ⟨es, cl, h1⟩ := h.is
 exact (Array.getElem?_eq_some_iff.1 h1).1
theorem Ms.keep (h : Ms w mb n S) (k : w'.heap[mb]? = w.heap[mb]?) : Ms w' mb n S := by
 obtain ⟨D, ⟨es, cl, h1, h2⟩, h3⟩ := h
 exact ⟨D, ⟨es, cl, k.trans h1, h2⟩, h3⟩
theorem Ms.below (h : Ms w mb n S) (l : Below w.heap.size w w') : Ms w' mb n S := h.keep (l.block _ h.lt)
theorem Ms.mono (h : Ms w mb n S) {m : Nat} (l : n ≤ m) : Ms w mb m S := by
 obtain ⟨D, h1, h2⟩ := h
 exact ⟨D, h1.mono l, h2⟩
theorem Ms.made (w : World) : Ms (w.alloc (.map #[] 0)) w.heap.size 0 (fun _ => false) :=
 ⟨.map [], World.ownsMap_made w _ _ _, fun a _ => by simp [Maps.has]⟩
theorem Ms.ne {b t : Nat} {cs : Array Value} {z : Nat × Nat} (h : Ms w mb n S) (k : w.heap[b]? = some (.cells cs t z)) : b ≠ mb := by
 rintro rfl
 obtain ⟨es, cl, h1⟩ := h.is
 rw [h1] at k
 simp at k
theorem turned_touch {b : Nat} (h : w.mapTurned w' b) : Touch [b] w w' := by
 obtain ⟨es, cl, es', cl', h1, rfl⟩ := h
 refine ⟨rfl, rfl, rfl, by simp [ChangeMaps.setBlock], fun k hk hn => ?_⟩
 simp at hn
 simp [ChangeMaps.setBlock, Array.getElem?_setIfInBounds]
 intro e
 exact absurd e.symm hn
theorem Ms.put {D : DataW Nat} {a : Int} (ha : InI a) (h0 : w.ownsMap Tryz.prog 3 unitElem mb n D) (hS : ∀ a, InI a → Maps.has D (.int .i64 a) = S a) (h : w'.ownsMap Tryz.prog 3 unitElem mb (n + 1) (D.put (.int .i64 a) (.agg []))) : Ms w' mb (n + 1) (fun y => decide (y = a) || S y) := by
 refine ⟨_, h, fun y hy => ?_⟩
 by_cases e : y = a
 ·subst e
  rw [Maps.has_put_same h0.isMap (keyLit y)]
  simp
 ·rw [Maps.has_put_other (by intro h; exact e (by simpa using h)), hS y hy]
  simp [e]
theorem Ms.del {D : DataW Nat} {a : Int} (hS : ∀ a, InI a → Maps.has D (.int .i64 a) = S a) (h : w'.ownsMap Tryz.prog 3 unitElem mb n (D.del (.int .i64 a))) : Ms w' mb n (fun y => !decide (y = a) && S y) := by
 refine ⟨_, h, fun y hy => ?_⟩
 by_cases e : y = a
 ·subst e
  rw [Maps.has_del_same]
  simp
 ·rw [Maps.has_del_other (by intro h; exact e (by simpa using h)), hS y hy]
  simp [e]
theorem Ms.congr {S' : Int → Bool} (h : Ms w mb n S) (e : ∀ a, InI a → S a = S' a) : Ms w mb n S' := by
 obtain ⟨D, h1, h2⟩ := h
 exact ⟨D, h1, fun a ha => (h2 a ha).trans (e a ha)⟩
end
end Go.Proofs.YtlkengnefhhppaaGreatDoor
namespace Go.Proofs.YtlkengnefhhppaaGreatDoor
open Go.RowKit
theorem still_tail {P : Program} {id : Nat} {Q : Exit → Act → World → Prop} {a : Act} {w : World} {l : List Oper} (n : Nat) (hm : P.follows .mixedOrders = true) (hB : Region.lexTailB .any l.toArray n = true)
  (h : wpStill P l.toArray w.drew (fun a' => wpList P l.toArray Q (l.drop n) a' w.drew) (l.take n) a) : (Code.region id l.toArray true).wp P Q a w := wp_region_still_tail n hm hB h
theorem still_of_quiet {P : Program} {ops : Array Oper} {w0 : World} {Q : Act → Prop} : ∀ (l : List Oper) (a : Act), wpQuiet P ops (fun w' => w' = w0) Q l a → wpStill P ops w0 Q l a
 | [], _, h => h
 | o :: rest, a, h => by
  unfold wpQuiet at h
  unfold wpStill
  by_cases hw : Region.wanted o (yielded ops a.tmps) = true
  ·rw [if_pos hw] at h ⊢
   obtain ⟨v, h1, h2⟩ := h
   have h3 := h1 w0 rfl
   have h4 := still_of_quiet rest _ h2
   unfold Oper.quietAt at h3
   unfold Oper.still
   cases hr : (execOp a.eval o).run P w0 with
   | ok x w' =>
    rw [hr] at h3
    cases x with
    | value u => exact ⟨h3.1, by rw [h3.2]; exact h4⟩
    | skip => exact ⟨h3.1, by rw [← h3.2]; exact h4⟩
    | enter f args => exact ⟨h3.1, v, h3.2, h4⟩
    | _ => exact h3.elim
   | _ => rw [hr] at h3; exact h3.elim
  ·rw [if_neg hw] at h ⊢
   exact still_of_quiet rest _ h
theorem quiet_tail {P : Program} {id : Nat} {Q : Exit → Act → World → Prop} {a : Act} {w : World} {l : List Oper} (n : Nat) (hm : P.follows .mixedOrders = true) (hB : Region.lexTailB .any l.toArray n = true)
  (h : wpQuiet P l.toArray (fun w' => w' = w.drew) (fun a' => wpList P l.toArray Q (l.drop n) a' w.drew) (l.take n) a) : (Code.region id l.toArray true).wp P Q a w := still_tail n hm hB (still_of_quiet _ _ h)
theorem mixed : Tryz.prog.follows .mixedOrders = true := by kernel_rfl
theorem cells_new (w : World) (cs : Array Value) (t : TypeId) : ∀ (j : Nat) u, cs.toList[j]? = some u → (w.alloc (.cells cs t)).cell? ((⟨w.heap.size, 0, none⟩ : Addr).add j) = some u := by
 intro j u hj
 have hadd : (⟨w.heap.size, 0, none⟩ : Addr).add j = ⟨w.heap.size, j, none⟩ := by unfold Addr.add; split <;> simp_all
 rw [hadd, cell_of_row _ _ j cs t (0, 0) (heap_alloc_new w _)]
 simpa using hj
def lateB (md : Region.Mode) (ops : Array Oper) (n : Nat) : Bool :=
 (List.range ops.size).all fun t => decide (t ≤ n) || (List.range t).any fun u => decide (n ≤ u) && Region.waitsFor md ops t u
def partB (md : Region.Mode) (ops : Array Oper) (n : Nat) : Nat → Nat → Array Bool → Bool
 | 0, _, listed => decide (Region.ready md ops listed = [n]) && Region.lexFrom md ops (ops.size - (n + 1)) (n + 1) (listed.setIfInBounds n true)
 | f + 1, k, listed => (Region.ready md ops listed).contains k && Region.free md ops listed k && partB md ops n f (k + 1) (listed.setIfInBounds k true)
def callB (md : Region.Mode) (ops : Array Oper) (n : Nat) : Bool :=
 Region.noSelect ops && decide (n < ops.size) && Region.sinkB md ops n && lateB md ops n && partB md ops n n 0 (Array.replicate ops.size false)
theorem late_waits {md : Region.Mode} {ops : Array Oper} {n : Nat} {listed : Array Bool} (hs : Region.sinkB md ops n = true) (hl : lateB md ops n = true) (inv : HeadInv md ops n listed) {i : Nat} (hi : i < n) (hun : listed.getD i true = false) {t : Nat} (ht : n ≤ t) : t ∉ Region.ready md ops listed := by
 intro hr
 obtain ⟨_, ot, hot, hall⟩ := mem_ready.1 hr
 have htl : t < ops.size := (Array.getElem?_eq_some_iff.1 hot).1
 rcases Nat.lt_or_ge n t with h | h
 ·have h1 := List.all_eq_true.1 hl t (List.mem_range.2 htl)
  simp only [Bool.or_eq_true, decide_eq_true_eq] at h1
  rcases h1 with h1 | h1
  ·omega
  ·obtain ⟨u, hu, hu2⟩ := List.any_eq_true.1 h1
   simp only [Bool.and_eq_true, decide_eq_true_eq] at hu2
   have hut := List.mem_range.1 hu
   obtain ⟨o', ho', e, he, hb, hon⟩ := Region.waitsFor_spec hu2.2
   cases Option.some.inj (ho'.symm.trans hot)
   have h2 := hall e he hb
   rw [hon, getD_both (inv.tail u hu2.1 (by omega))] at h2
   cases h2
 ·obtain rfl : t = n := by omega
  clear ht h
  -- the last of the head that isn't listed
  have key : ∀ d i, t - i = d → i < t → listed.getD i true = false → False := by
   intro d
   induction d using Nat.strongRecOn with
   | _ d ih =>
    intro i hd hi hun
    obtain ⟨j, hj, hj2⟩ := List.any_eq_true.1 (List.all_eq_true.1 hs i (List.mem_range.2 hi))
    simp only [Bool.and_eq_true, decide_eq_true_eq] at hj2
    have hjt := List.mem_range.1 hj
    obtain ⟨oj, hoj, e, he, hb, hon⟩ := Region.waitsFor_spec hj2.2
    rcases Nat.lt_or_ge j t with h | h
    ·cases hlj : listed.getD j false with
     | true =>
      have h2 := inv.closed j oj hoj hlj e he hb
      rw [hon, getD_both hun] at h2
      cases h2
     | false => exact ih (t - j) (by omega) j rfl h (getD_in (by rw [inv.size]; omega) hlj)
    ·obtain rfl : j = t := by omega
     cases Option.some.inj (hoj.symm.trans hot)
     have h2 := hall e he hb
     rw [hon, getD_both hun] at h2
     cases h2
  exact key _ i rfl hi hun
section
variable {P : Program} {ops : Array Oper} {md : Region.Mode} {w : World}
theorem headL_first {n i : Nat} {oi : Oper} {v : Value} {L : Array Bool → Act → Prop} (hi : ops[i]? = some oi) (hsel : ∀ (j : Nat) (o : Oper) cs b, ops[j]? = some o → o.op ≠ .select cs b)
  (hs : Region.sinkB md ops n = true) (hl : lateB md ops n = true) (hin : i < n) (hdone : ∀ listed a, L listed a → ∀ j ∈ Region.ready md ops listed, n ≤ j) :
  ∀ (f : Nat) (listed : Array Bool) (a : Act), HeadInv md ops n listed →
   (∀ j oj, ops[j]? = some oj → j ≠ i → listed.getD j true = false → (∀ e ∈ oj.after, Region.binds md e = true → e.on ≠ i) → oi.apart ops oj = true) →
   i ∈ Region.ready md ops listed → YieldsAt P ops w oi v a →
   wpAnyL P md ops w n L f (listed.setIfInBounds i true) (a.put oi.dst v) → wpAnyL P md ops w n L (f + 1) listed a
 | f, listed, a, inv, hfree, hr, hy, H => by
  have hun := (mem_ready.1 hr).1
  refine ⟨fun h => (by rw [h] at hr; cases hr), fun j hj => ?_⟩
  have hjn : j < n := Nat.lt_of_not_le fun h => late_waits hs hl inv hin hun h hj
  refine ⟨hjn, ?_⟩
  by_cases hji : j = i
  ·subst hji; exact hy.stOp hi H
  ·match f, H with
   | 0, H => have := hdone _ _ H j (ready_mono hj hji); omega
   | f + 1, H =>
    have h1 := (H.2 j (ready_mono hj hji)).2
    obtain ⟨hjun, oj, hoj, hall⟩ := mem_ready.1 hj
    have hnot : ∀ e ∈ oj.after, Region.binds md e = true → e.on ≠ i := fun e he hb heq => by
     have h1 := hall e he hb
     rw [heq, getD_both hun] at h1
     cases h1
    refine stOp_mono (fun a' h3 => headL_first hi hsel hs hl hin hdone f (listed.setIfInBounds j true) a' (inv.set hj hjn) (fun k ok hk hki hun' hno => ?_) (ready_mono hr (Ne.symm hji)) h3.1 ?_)
     (stOp_put hoj (hfree j oj hoj hji hjun hnot) (fun cs b => hsel i oi cs b hi) (fun cs b => hsel j oj cs b hoj) hy h1)
    ·refine hfree k ok hk hki ?_ hno
     by_cases hjk : j = k
     ·subst hjk; exact hjun
     ·rwa [getD_set_ne true hjk] at hun'
    ·rw [Array.setIfInBounds_comm _ _ hji]
     exact h3.2
theorem headL_lex {n : Nat} {Lq : Act → Prop} (hsel : Region.noSelect ops = true) (hs : Region.sinkB md ops n = true) (hl : lateB md ops n = true) :
  ∀ (l : List Oper) (k : Nat) (listed : Array Bool) (a : Act), (∀ j, j < l.length → l[j]? = ops[k + j]?) → k + l.length = n → HeadInv md ops n listed → partB md ops n l.length k listed = true → wpStill P ops w Lq l a →
  wpAnyL P md ops w n (fun listed' a' => (Region.ready md ops listed' = [n] ∧ Region.lexFrom md ops (ops.size - (n + 1)) (n + 1) (listed'.setIfInBounds n true) = true) ∧ Lq a') l.length listed a
 | [], k, listed, a, _, _, _, hB, h => by
  simp only [List.length_nil, partB, Bool.and_eq_true, decide_eq_true_eq] at hB
  exact ⟨hB, h⟩
 | o :: l, k, listed, a, hll, hk, inv, hB, h => by
  have h0 : ops[k]? = some o := by simpa using (hll 0 (by simp)).symm
  simp only [List.length_cons, partB, Bool.and_eq_true] at hB
  obtain ⟨⟨hr, hf⟩, hB'⟩ := hB
  have hkn : k < n := by simp only [List.length_cons] at hk; omega
  have hr' : k ∈ Region.ready md ops listed := by simpa using hr
  have hst : stOp P ops w k (wpStill P ops w Lq l) a := by unfold stOp; simp only [h0]; exact h
  obtain ⟨v, hy, hK⟩ := yieldsAt_of_stOp h0 hst
  exact headL_first h0 (Region.noSelect_spec hsel) hs hl hkn (fun listed' a' hL j hj => by rw [hL.1.1] at hj; simp at hj; omega) l.length listed a inv (Region.free_spec h0 hf) hr' hy
   (headL_lex hsel hs hl l (k + 1) _ _ (fun j hj => by have := hll (j + 1) (by simp; omega); simpa [Nat.add_assoc, Nat.add_comm 1 j] using this) (by simp only [List.length_cons] at hk; omega) (inv.set hr' hkn) hB' hK)
end
def thenQuiet (P : Program) (ops : Array Oper) (rest : List Oper) (Q : Exit → Act → World → Prop) : Exit → Act → World → Prop
 | .normal, a, w => wpQuiet P ops (fun w' => w' = w) (fun a' => Q .normal a' w) rest a
 | e, a, w => Q e a w
theorem thenQuiet_mk {P : Program} {ops : Array Oper} {rest : List Oper} {Q : Exit → Act → World → Prop} {a : Act} {w : World} (h : wpQuiet P ops (fun w' => w' = w) (fun a' => Q .normal a' w) rest a) : thenQuiet P ops rest Q .normal a w := h
theorem op_then {P : Program} {ops rops : Array Oper} {rest : List Oper} {o : Oper} {Q : Exit → Act → World → Prop} {K : Act → World → Prop} {a : Act} {w : World} (hq : ∀ a w, thenQuiet P rops rest Q .normal a w → K a w) {i : Nat} (hi : ops[i]? = some o)
  (h : wpList P ops (thenQuiet P rops rest Q) [o] a w) : wpOp P ops Q i K a w := by
 have hlo : LetsOut (thenQuiet P rops rest Q) → LetsOut Q := fun ⟨a, w, h⟩ => ⟨a, w, h⟩
 unfold wpOp
 simp only [hi]
 unfold wpList at h
 split
 ·rename_i hw
  simp only [hw, if_true] at h
  rcases h with h | ⟨h1, h2⟩
  ·left
   unfold Oper.wp at h ⊢
   generalize (execOp a.eval o).run P w = r at *
   cases r with
   | ok n w' =>
    cases n <;> simp only [Oper.upon] at h ⊢
    case value u => exact hq _ _ h
    case skip => exact hq _ _ h
    case defer d => exact hq _ _ h
    case enter f args =>
     refine Calls.mono h fun e w'' he => ?_
     cases e with
     | returned u => exact hq _ _ he
     | panicked c => exact he
     | outgrown => exact hlo he
    case row row args => exact Rows.mono h fun u w'' he => hq _ _ he
   | halt x w' =>
    cases x <;> simp only [Oper.upon] at h ⊢
    case panic u => exact h
  ·exact .inr ⟨h1, hlo h2⟩
 ·rename_i hw
  simp only [hw] at h
  exact hq _ _ h
theorem quiet_call {P : Program} {id : Nat} {Q : Exit → Act → World → Prop} {a : Act} {w : World} {l : List Oper} (n : Nat) (hm : P.follows .mixedOrders = true) (hB : callB .any l.toArray n = true)
  (h : wpQuiet P l.toArray (fun w' => w' = w.drew) (fun a' => wpList P l.toArray (thenQuiet P l.toArray (l.drop (n + 1)) Q) ((l.drop n).take 1) a' w.drew) (l.take n) a) : (Code.region id l.toArray true).wp P Q a w := by
 simp only [callB, Bool.and_eq_true, decide_eq_true_eq] at hB
 obtain ⟨⟨⟨⟨hsel, hn⟩, hs⟩, hl⟩, hp⟩ := hB
 have hn' : n < l.length := by simpa using hn
 have htl : (l.take n).length = n := by simp; omega
 obtain ⟨o, ho⟩ : ∃ o, l[n]? = some o := ⟨_, List.getElem?_eq_getElem hn'⟩
 have hd1 : (l.drop n).take 1 = [o] := by
  rw [List.drop_eq_getElem_cons hn', List.take_succ_cons, List.take_zero]
  rw [List.getElem?_eq_getElem hn'] at ho
  rw [Option.some.inj ho]
 have inv0 : HeadInv .any l.toArray n (Array.replicate l.toArray.size false) :=
  ⟨by simp, fun j oj _ hl => (by rw [getD_replicate_false] at hl; cases hl), fun t _ ht => getD_in (by simpa using ht) (getD_replicate_false _ _)⟩
 have H := headL_lex (md := .any) hsel hs hl (l.take n) 0 _ a (fun j hj => by
  have hj' : j < n := by rw [htl] at hj; exact hj
  simp [hj']) (by simpa using htl) inv0 (by rw [htl]; exact hp) (still_of_quiet _ _ h)
 refine wp_region_any hm ?_
 have hlen : (l.drop (n + 1)).length = l.toArray.size - (n + 1) := by simp
 have := wpAny_of_head (Q' := Q) (g := (l.toArray.size - (n + 1)) + 1) (fun listed a' hL => by
  obtain ⟨⟨h1, h2⟩, h3⟩ := hL
  rw [hd1] at h3
  refine ⟨fun h0 => (by rw [h1] at h0; cases h0), fun i hi => ?_⟩
  rw [h1] at hi
  obtain rfl : i = n := by simpa using hi
  refine op_then (fun a2 w2 hq => ?_) (by simpa using ho) h3
  have hq' : wpQuiet P l.toArray (fun w' => w' = w2) (fun a' => Q .normal a' w2) (l.drop (i + 1)) a2 := hq
  have := wpAnyQ_lex (md := .any) hsel (l.drop (i + 1)) (i + 1) (listed.setIfInBounds i true) a2 (fun j => by simp [List.getElem?_drop]) (by rw [hlen]; exact h2) hq'
  rw [hlen] at this
  exact wpAny_of_quiet (C := fun w' => w' = w2) (fun a3 w3 hw hq3 => by rw [hw]; exact hq3) _ _ _ _ rfl this) _ _ _ H
 rw [htl, show n + (l.toArray.size - (n + 1) + 1) = l.toArray.size by omega] at this
 exact this
structure Bel (w : World) where
 v : World
 h : Below w.heap.size w v
theorem region_below {P : Program} {id : Nat} {Q : Exit → Act → World → Prop} {a : Act} {w : World} {l : List Oper} (hm : P.follows .mixedOrders = true) (hB : Region.lexB .any l.toArray = true)
  (h : wpQuiet P l.toArray (fun w' => ∃ p : Bel w, w' = p.v) (fun a' => ∀ w', (∃ p : Bel w, w' = p.v) → Q .normal a' w') l a) : (Code.region id l.toArray true).wp P Q a w :=
 wp_region_quiet (C := fun w' => ∃ p : Bel w, w' = p.v) hm hB ⟨⟨w.drewN 1, below_drewN (Below.refl _ _) 1⟩, rfl⟩ (by simpa using h)
theorem calls_bel {P : Program} {f : FuncId} {args : Array Value} {w : World} {p : Bel w} {v : Value} (h : Calls P f args p.v fun e w' => e = .returned v ∧ Below p.v.heap.size p.v w') : Calls P f args p.v fun e w'' => e = .returned v ∧ ∃ q : Bel w, w'' = q.v :=
 h.mono fun _ w'' ⟨he, l⟩ => ⟨he, ⟨w'', p.h.trans (l.mono p.h.size)⟩, rfl⟩
end Go.Proofs.YtlkengnefhhppaaGreatDoor
namespace Go.Proofs.YtlkengnefhhppaaGreatDoor
open Go.RowKit Go.Shelf
theorem Tryz.infoInt : (Tryz.prog.info? 3).map (fun i => (i.zero, i.size, i.bytes)) = some (some (.int .i64 0), 1, 8) := by kernel_rfl
structure Rs (w : World) (sb b : Nat) (lv : Value) (l : List Int) (mb n : Nat) (S : Int → Bool) : Prop where
 own : w.heap[sb]? = some (.cells #[.pointer (some ⟨b, 0, none⟩), lv, .map (some mb)] 101 (0, 0))
 row : w.ownsRow 0 3 1 lv l.length (ints l)
 map : Ms w mb n S
section
variable {w w' : World} {sb b mb n : Nat} {lv : Value} {l : List Int} {S : Int → Bool}
theorem Rs.cell (H : Rs w sb b lv l mb n S) (j : Nat) : w.cell? ⟨sb, j, none⟩ = (#[.pointer (some ⟨b, 0, none⟩), lv, .map (some mb)] : Array Value)[j]? := cell_of_row _ _ j _ _ _ H.own
theorem Rs.lt (H : Rs w sb b lv l mb n S) : sb < w.heap.size := (Array.getElem?_eq_some_iff.1 H.own).1
theorem Rs.keep (H : Rs w sb b lv l mb n S) (h1 : w'.heap[sb]? = w.heap[sb]?) (h2 : w'.heap[mb]? = w.heap[mb]?) (h3 : ∀ q, lv.ownBlock = some q → w'.heap[q]? = w.heap[q]?) : Rs w' sb b lv l mb n S :=
 ⟨h1.trans H.own, row_keep H.row h3, H.map.keep h2⟩
theorem Rs.below (H : Rs w sb b lv l mb n S) (l0 : Below w.heap.size w w') : Rs w' sb b lv l mb n S :=
 H.keep (l0.block _ H.lt) (l0.block _ H.map.lt) (fun q hq => l0.block q (row_lt H.row q hq))
theorem Rs.touch (H : Rs w sb b lv l mb n S) {F : List Nat} (t : Touch F w w') (h1 : sb ∉ F) (h2 : mb ∉ F) (h3 : ∀ q, lv.ownBlock = some q → q ∉ F) : Rs w' sb b lv l mb n S :=
 H.keep (t.block _ H.lt h1) (t.block _ H.map.lt h2) (fun q hq => t.block q (row_lt H.row q hq) (h3 q hq))
theorem Rs.arena (H : Rs w sb b lv l mb n S) {g : Nat} {c : Cfg} {x : Tps} {sw : Bool} {ws : Nat → Int} (hA : Ar w b g c x sw ws) (t : Touch [b, g] w w') : Rs w' sb b lv l mb n S := by
 obtain ⟨⟨gs, hgs⟩, bs, hbs⟩ := hA.rowTy
 refine H.touch t ?_ ?_ (fun q hq => ?_)
 ·simp only [List.mem_cons, List.not_mem_nil, or_false, not_or]
  exact ⟨heap_ty_ne H.own hbs (by decide), heap_ty_ne H.own hgs (by decide)⟩
 ·simp only [List.mem_cons, List.not_mem_nil, or_false, not_or]
  exact ⟨fun e => H.map.ne hbs e.symm, fun e => H.map.ne hgs e.symm⟩
 ·simp only [List.mem_cons, List.not_mem_nil, or_false, not_or]
  exact ⟨fun e => row_ne hbs H.row (by decide) (by rw [← e]; exact hq.symm), fun e => row_ne hgs H.row (by decide) (by rw [← e]; exact hq.symm)⟩
theorem sNew_any (b : Nat) (w : World) : Calls Tryz.prog 11 #[.pointer (some ⟨b, 0, none⟩)] w fun e w' => e = .returned (.pointer (some ⟨w.heap.size + 1, 0, none⟩)) ∧ Rs w' (w.heap.size + 1) b (.slice none 0 0) [] w.heap.size 0 (fun _ => false) ∧ Below w.heap.size w w' := by
 have hmm := @run_makeMap Tryz.prog
 go_enter Tryz.func11, Tryz.ntmps11
 go_wp2
 go_ret
 refine ⟨rfl, ⟨?_, World.ownsRow_nil _ _ _ _, ?_⟩, by go_grown⟩
 ·have := heap_alloc_new (w.alloc (.map #[] 0)) (.cells #[.pointer (some ⟨b, 0, none⟩), .slice none 0 0, .map (some w.heap.size)] 101 (0, 0))
  simpa using this
 ·exact (Ms.made w).keep (Below.heap_alloc _ _ _ (by simp))
theorem sHas_any (H : Rs w sb b lv l mb n S) (a : Int) (ha : InI a) : Calls Tryz.prog 50 #[.pointer (some ⟨sb, 0, none⟩), .int .i64 a] w fun e w' => e = .returned (.bool (S a)) ∧ Below w.heap.size w w' := by
 have k2 : w.cell? ⟨sb, 2, none⟩ = some (.map (some mb)) := H.cell 2
 obtain ⟨D, hown, hS⟩ := H.map
 have hkey := key_of ha
 rw [← hS a ha]
 clear H hS ha
 go_enter Tryz.func50, Tryz.ntmps50
 go_wp2_with (at_lookup; refine wpList_lookup_own_unit _ rfl _ _ 99 rfl 3 148 Tryz.keyed Tryz.underlying99 (Tryz.zeroU _) mb n D rfl hown _ _ rfl hkey ?_)
 go_ret
 exact ⟨rfl, by go_grown⟩
theorem sTenured_any (H : Rs w sb b lv l mb n S) {g : Nat} {c : Cfg} {x : Tps} {sw : Bool} {ws : Nat → Int} (hA : Ar w b g c x sw ws) (a : Int) : Calls Tryz.prog 48 #[.pointer (some ⟨sb, 0, none⟩), .int .i64 a] w fun e w' => e = .returned (.bool (decide (spc c a = 4))) ∧ Below w.heap.size w w' := by
 have k0 : w.cell? ⟨sb, 0, none⟩ = some (.pointer (some ⟨b, 0, none⟩)) := H.cell 0
 have hs := space_any b g c x sw ws a w hA
 generalize spc c a = s at *
 clear H hA
 go_enter Tryz.func48, Tryz.ntmps48
 go_wp2_with fail
 refine hs.mono ?_
 rintro e w1 ⟨rfl, l1⟩
 clear hs k0
 go_wp2
 go_ret
 exact ⟨by congr 1, l1⟩
end
def yg (c : Cfg) (sw : Bool) (z : Int) : Bool := decide (spc c z = 1 ∨ spc c z = if sw = true then 3 else 2)
def hyT (c : Cfg) (sw : Bool) (T : Tng) : Bool := T.ps.any (yg c sw)
structure Rm (w1 : World) (n1 : Nat) (w : World) (sb b g mb : Nat) (lv : Value) (c : Cfg) (x : Tps) (sw : Bool) (ws : Nat → Int) (th : List Tng) (l : List Int) (n : Nat) (S : Int → Bool) : Prop where
 bq : Bq w1 n1 w b g c x sw ws th
 rs : Rs w sb b lv l mb n S
 ls : n1 ≤ sb
 lm : n1 ≤ mb
 lv_ : ∀ q, lv.ownBlock = some q → n1 ≤ q
 hn : n1 ≤ w1.heap.size
section
variable {w1 w w' : World} {n1 sb b g mb n : Nat} {lv : Value} {c : Cfg} {x : Tps} {sw : Bool} {ws : Nat → Int} {th : List Tng} {l : List Int} {S : Int → Bool}
theorem Rm.below (H : Rm w1 n1 w sb b g mb lv c x sw ws th l n S) (l0 : Below w.heap.size w w') : Rm w1 n1 w' sb b g mb lv c x sw ws th l n S :=
 ⟨H.bq.below H.hn l0, H.rs.below l0, H.ls, H.lm, H.lv_, H.hn⟩
theorem Rm.next {x' : Tps} {sw' : Bool} {ws' : Nat → Int} {th' : List Tng} (H : Rm w1 n1 w sb b g mb lv c x sw ws th l n S) (t : Touch [b, g] w w') (hA : Ar w' b g c x' sw' ws') (hH : Hld c x' ws' th') : Rm w1 n1 w' sb b g mb lv c x' sw' ws' th' l n S :=
 ⟨H.bq.next H.hn t hA hH, H.rs.arena H.bq.ax.ar t, H.ls, H.lm, H.lv_, H.hn⟩
theorem Rm.set {lv' : Value} {l' : List Int} {n' : Nat} {S' : Int → Bool} {F : List Nat} (H : Rm w1 n1 w sb b g mb lv c x sw ws th l n S) (t : Touch F w w') (hF : ∀ q, q ∈ F → q = sb ∨ q = mb ∨ lv.ownBlock = some q) (hr : Rs w' sb b lv' l' mb n' S') (hv : ∀ q, lv'.ownBlock = some q → n1 ≤ q) : Rm w1 n1 w' sb b g mb lv' c x sw ws th l' n' S' := by
 obtain ⟨⟨gs, hgs⟩, bs, hbs⟩ := H.bq.ax.ar.rowTy
 have lo : ∀ q, q ∈ F → n1 ≤ q := fun q hq => by
  rcases hF q hq with rfl | rfl | h
  ·exact H.ls
  ·exact H.lm
  ·exact H.lv_ q h
 have nb : ∀ y cs t, w.heap[y]? = some (.cells cs t (0, 0)) → t ≠ 101 → t ≠ 3 → y ∉ F := fun y cs t hy h1 h2 hm => by
  rcases hF y hm with e | e | e
  ·exact heap_ty_ne hy H.rs.own h1 e
  ·exact H.rs.map.ne hy e
  ·exact row_ne hy H.rs.row h2 e.symm
 have t0 := H.bq.t0
 have t1 := H.bq.t1
 exact ⟨⟨H.bq.ax.touch t (nb _ _ _ hbs (by decide) (by decide)) (nb _ _ _ hgs (by decide) (by decide)) (fun hm => by have := lo _ hm; omega) (fun hm => by have := lo _ hm; omega), H.bq.be.trans (t.below (Nat.le_trans H.hn H.bq.be.size) lo), H.bq.lb, H.bq.lg, H.bq.t0, H.bq.t1⟩, hr, H.ls, H.lm, hv, H.hn⟩
theorem holdsYoung_any (H : Rm w1 n1 w sb b g mb lv c x sw ws th l n S) {T : Tng} (hT : T ∈ th) : Calls Tryz.prog 69 #[.pointer (some ⟨sb, 0, none⟩), .int .i64 T.at_] w fun e w' => e = .returned (.bool (hyT c sw T)) ∧ Below w.heap.size w w' := by
 have k0 : w.cell? ⟨sb, 0, none⟩ = some (.pointer (some ⟨b, 0, none⟩)) := H.rs.cell 0
 have hh := H.bq.ax.head hT
 have HR : Hid (Rm w1 n1 w sb b g mb lv c x sw ws th l n S) := H
 have hpn := H.bq.ax.hl.psn T hT
 have hps := H.bq.ax.pos hT
 have HT : Hid (T ∈ th) := hT
 have HP : Hid ((T.ps.length : Int) = T.p ∧ T.p ≤ 4095) := ⟨hpn, hps.2.2.2.2.1⟩
 have hp0 : 0 ≤ T.p ∧ T.p ≤ 4095 := ⟨hps.2.2.1, hps.2.2.2.2.1⟩
 clear H hT hpn hps
 go_enter Tryz.func69, Tryz.ntmps69
 go_wp2_with fail
 refine hh.mono ?_
 rintro e w2 ⟨rfl, l2⟩
 clear hh k0
 go_upto_region 2 with fail
 have l3 := Below.alloc l2 l2.size (.cells (hcells T.s T.k T.p T.r T.a T.t T.h) 38)
 have hy : (w2.alloc (.cells (hcells T.s T.k T.p T.r T.a T.t T.h) 38)).cell? ⟨w2.heap.size, 2, none⟩ = some (.int .i64 T.p) := cell_of_row _ _ 2 _ _ _ (heap_alloc_new w2 (.cells (hcells T.s T.k T.p T.r T.a T.t T.h) 38 (0, 0)))
 generalize w2.alloc (.cells (hcells T.s T.k T.p T.r T.a T.t T.h) 38) = w3 at *
 generalize w2.heap.size = R at *
 clear l2
 go_wp2
 clear hy
 go_loopw [21] (fun v21 wr => ∃ k : Nat, (k : Int) ≤ T.p ∧ v21 = .int .i64 k ∧ Hid (∀ f z, f < k → T.ps[f]? = some z → yg c sw z = false) ∧ Below w.heap.size w wr) (fun v21 _ => T.p.toNat - (intOf v21).toNat)
 case atStart => exact ⟨0, by omega, rfl, (fun f z hf => by omega : ∀ f z, f < 0 → T.ps[f]? = some z → yg c sw z = false), l3⟩
 case round =>
  obtain ⟨k, hk, rfl, HY, lr⟩ := hrel
  clear l3
  have HR2 : Hid (Rm w1 n1 wr sb b g mb lv c x sw ws th l n S) := HR.out.below lr
  by_cases hkl : (k : Int) < T.p
  ·have hkl2 : k < T.ps.length := by have := HP.out; omega
   have hzk : T.ps[k]? = some (T.ps[k]'hkl2) := List.getElem?_eq_getElem hkl2
   generalize T.ps[k]'hkl2 = z at hzk
   have Hzk : Hid (T.ps[k]? = some z) := hzk
   have k0 : wr.cell? ⟨sb, 0, none⟩ = some (.pointer (some ⟨b, 0, none⟩)) := HR2.out.rs.cell 0
   have hp := HR2.out.bq.ax.ptr HT.out k z hzk
   clear hzk hkl2
   go_wp2_with fail
   refine hp.mono ?_
   rintro e w5 ⟨rfl, l5⟩
   have HR5 : Hid (Rm w1 n1 w5 sb b g mb lv c x sw ws th l n S) := HR2.out.below l5
   have lr5 := lr.trans (l5.mono lr.size)
   clear hp k0 HR2 l5 lr
   have k0 : w5.cell? ⟨sb, 0, none⟩ = some (.pointer (some ⟨b, 0, none⟩)) := HR5.out.rs.cell 0
   have hyo := young_any b g c x sw ws z w5 HR5.out.bq.ax.ar
   have hyo' : Calls Tryz.prog 49 #[.pointer (some ⟨b, 0, none⟩), .int .i64 z] w5 fun e w' => e = .returned (.bool (yg c sw z)) ∧ Below w5.heap.size w5 w' := hyo
   clear hyo
   cases hyz : yg c sw z
   ·rw [hyz] at hyo'
    have HY2 : Hid (∀ f z, f < k + 1 → T.ps[f]? = some z → yg c sw z = false) := fun f y hf hy => by
     by_cases e : f = k
     ·subst e
      rw [Hzk.out] at hy
      simp at hy
      rw [← hy]
      exact hyz
     ·exact HY.out f y (by omega) hy
    clear hyz HY Hzk
    go_wp2_with fail
    refine hyo'.mono ?_
    rintro e w6 ⟨rfl, l6⟩
    have lr6 := lr5.trans (l6.mono lr5.size)
    clear hyo' k0 HR5 l6 lr5
    go_wp2
    go_roundw
    case rel => exact ⟨k + 1, by omega, by go_num, HY2, lr6⟩
    case measure => simp [intOf]; omega
   ·rw [hyz] at hyo'
    have HE : Hid (hyT c sw T = true) := by
     show hyT c sw T = true
     unfold hyT
     rw [List.any_eq_true]
     exact ⟨z, List.mem_of_getElem? Hzk.out, hyz⟩
    clear hyz HY Hzk
    go_wp2_with fail
    refine hyo'.mono ?_
    rintro e w6 ⟨rfl, l6⟩
    have lr6 := lr5.trans (l6.mono lr5.size)
    clear hyo' k0 HR5 l6 lr5
    go_wp2
    go_ret
    exact ⟨by rw [HE.out]; rfl, lr6⟩
  ·have HE : Hid (hyT c sw T = false) := by
    show hyT c sw T = false
    unfold hyT
    rw [List.any_eq_false]
    intro z hz
    obtain ⟨f, hf⟩ := List.getElem?_of_mem hz
    have := (List.getElem?_eq_some_iff.1 hf).1
    rw [HY.out f z (by have := HP.out; omega) hf]
    simp
   clear HY
   go_wp2
   go_ret
   exact ⟨by rw [HE.out]; rfl, lr⟩
theorem sAdd_any (H : Rm w1 n1 w sb b g mb lv c x sw ws th l n S) (a : Int) (ha : InI a) (hl : l.length ≤ 4398046511104) (hn : n ≤ 1152921504606846976) : Calls Tryz.prog 51 #[.pointer (some ⟨sb, 0, none⟩), .int .i64 a] w fun e w' => e = .returned (.tuple #[]) ∧ ∃ lv', Rm w1 n1 w' sb b g mb lv' c x sw ws th (l ++ [a]) (n + 1) (fun y => decide (y = a) || S y) ∧ Touch (sb :: mb :: lv.ownBlock.toList) w w' ∧ (lv'.ownBlock = lv.ownBlock ∨ ∃ y, lv'.ownBlock = some y ∧ w.heap.size ≤ y) := by
 have k1 : w.cell? ⟨sb, 1, none⟩ = some lv := H.rs.cell 1
 obtain ⟨i0, hi0, hz0, hz1, hz2⟩ := info_parts Tryz.infoInt
 have HI : Hid (Tryz.prog.info? 3 = some i0 ∧ i0.zero = some (.int .i64 0) ∧ i0.size = 1 ∧ i0.bytes = 8) := ⟨hi0, hz0, hz1, hz2⟩
 have HR : Hid (Rm w1 n1 w sb b g mb lv c x sw ws th l n S) := H
 have Hrow : Hid (w.ownsRow 0 3 1 lv l.length (ints l)) := H.rs.row
 have hkey := key_of ha
 have Ha : Hid (InI a) := ha
 obtain ⟨ad, nn, cap, rfl⟩ := row_slice H.rs.row
 clear H hi0 hz0 hz1 hz2 ha
 go_enter Tryz.func51, Tryz.ntmps51
 go_wp2_with (at_builtin; refine wpList_append_own_at _ rfl _ _ 32 rfl 0 3 i0 (.int .i64 0) 1 8 Tryz.underlying32 HI.out.1 HI.out.2.1 HI.out.2.2.1 HI.out.2.2.2 rfl (by decide) _ _ _ rfl (Hrow.out.alloc _) ⟨w.heap.size, 0, none⟩ 1 1 [.int .i64 a] rfl rfl (cell_one_new _ _ _) (by simp [Value.oneCell']) (by simp [maxLen]; omega) (by omega) (by omega) ?_)
 intro v' w2 hown' hgrow _ hat
 have t2 : Touch (Value.slice ad nn cap).ownBlock.toList w w2 := ⟨hgrow.os, hgrow.tape, hgrow.output, by have := hgrow.size; simp at this; omega, fun k hk hn => (hgrow.block k (by simp; omega) (fun e => hn (by rw [Option.mem_toList]; exact e.symm))).trans (Below.heap_alloc _ _ _ hk)⟩
 have hs2 : w2.heap[sb]? = w.heap[sb]? := t2.block sb HR.out.rs.lt (by
  intro hm
  rw [Option.mem_toList] at hm
  exact row_ne HR.out.rs.own HR.out.rs.row (by decide) hm.symm)
 have c1 : w2.cell? ⟨sb, 1, none⟩ = some (.slice ad nn cap) := (World.cell?_of_block (w := w) hs2).trans k1
 have f1 : w2.frozen? ⟨sb, 1, none⟩ = false := by
  unfold World.frozen?
  simp only [hs2, HR.out.rs.own]
  simp
 have hm2 : w2.heap[mb]? = w.heap[mb]? := t2.block mb HR.out.rs.map.lt (by
  intro hm
  rw [Option.mem_toList] at hm
  obtain ⟨cs, hc⟩ : ∃ cs, w.heap[mb]? = some (.cells cs 3 (0, 0)) := by
   rcases HR.out.rs.row.2 with ⟨e, _⟩ | ⟨q, cap, cur, e, _, hq, _⟩
   ·rw [e] at hm; simp [Value.ownBlock] at hm
   ·rw [e] at hm
    simp [Value.ownBlock] at hm
    subst hm
    exact ⟨_, hq⟩
  exact HR.out.rs.map.ne hc rfl)
 have Hat : Hid (v'.ownBlock = (Value.slice ad nn cap).ownBlock ∨ v'.ownBlock = some (w.heap.size + 1)) := by
  rcases hat with h | h
  ·exact .inl h
  ·exact .inr (h.trans (by simp))
 have hlt2 : w.heap.size ≤ w2.heap.size := t2.size
 have Hr2 : Hid (w2.ownsRow 0 3 1 v' (l ++ [a]).length (ints (l ++ [a]))) := by
  show w2.ownsRow 0 3 1 v' (l ++ [a]).length (ints (l ++ [a]))
  have := hown'
  simpa [ints] using this
 have Hs2 : Hid (w2.heap[sb]? = w.heap[sb]?) := hs2
 have Hm2 : Hid (w2.heap[mb]? = w.heap[mb]?) := hm2
 have HT2 : Hid (Touch (Value.slice ad nn cap).ownBlock.toList w w2) := t2
 obtain ⟨a3, c3, n3, hv3⟩ := row_slice hown'
 subst hv3
 clear hown' hgrow hat k1 hs2 hm2 t2
 go_upto_region 1 with fail
 obtain ⟨w3, hw3⟩ : ∃ w3, w3 = w2.setCell ⟨sb, 1, none⟩ (.slice a3 c3 n3) := ⟨_, rfl⟩
 have hb3 : ∀ k, k ≠ sb → w3.heap[k]? = w2.heap[k]? := fun k hk => by rw [hw3]; exact Below.heap_setCell _ _ _ _ hk
 have hsb3 : w3.heap[sb]? = some (.cells #[.pointer (some ⟨b, 0, none⟩), .slice a3 c3 n3, .map (some mb)] 101 (0, 0)) := by
  rw [hw3]
  simp [World.setCell, Array.getElem?_modify, Hs2.out, HR.out.rs.own]
 have hsz3 : w3.heap.size = w2.heap.size := by rw [hw3]; simp [World.setCell]
 have hne : ∀ q, (Value.slice a3 c3 n3).ownBlock = some q → q ≠ sb := fun q hq e => by
  subst e
  have h1 : w2.heap[q]? = some (.cells #[.pointer (some ⟨b, 0, none⟩), .slice ad nn cap, .map (some mb)] 101 (0, 0)) := Hs2.out.trans HR.out.rs.own
  exact row_ne h1 Hr2.out (by decide) hq.symm
 have hmne : mb ≠ sb := fun e => HR.out.rs.map.ne HR.out.rs.own e.symm
 have r3 : Rs w3 sb b (.slice a3 c3 n3) (l ++ [a]) mb n S := ⟨hsb3, row_keep Hr2.out (fun q hq => hb3 q (hne q hq)), HR.out.rs.map.keep ((hb3 mb hmne).trans Hm2.out)⟩
 have HW3 : Hid (w3.os = w.os ∧ w3.tape = w.tape ∧ w3.output = w.output) := by
  rw [hw3]
  exact ⟨HT2.out.os, HT2.out.tape, HT2.out.output⟩
 rw [← hw3]
 have k2 : w3.cell? ⟨sb, 2, none⟩ = some (.map (some mb)) := r3.cell 2
 obtain ⟨D, hown3, hS3⟩ := r3.map
 have HR3 : Hid (Rs w3 sb b (.slice a3 c3 n3) (l ++ [a]) mb n S) := r3
 have HS3 : Hid (∀ a, InI a → Maps.has D (.int .i64 a) = S a) := hS3
 have Hb3 : Hid (∀ k, k ≠ sb → w3.heap[k]? = w2.heap[k]?) := hb3
 clear hw3 hsb3 r3 hS3 c1 f1 hb3
 go_wp2_with (at_mapUpdate; refine wpList_mapUpdate_in _ rfl _ _ _ 99 rfl 3 148 Tryz.keyed Tryz.underlying99 unitElem mb n D rfl hown3 (by unfold maxLen; omega) _ _ _ rfl rfl hkey (.agg []) [] unitElem_mk ?_; intro w4 hown4 hturn4)
 go_end0
 have t4 := turned_touch hturn4
 refine ⟨rfl, .slice a3 c3 n3, ?_⟩
 have T4 : Touch (sb :: mb :: (Value.slice ad nn cap).ownBlock.toList) w w4 := by
  refine ⟨t4.os.trans HW3.out.1, t4.tape.trans HW3.out.2.1, t4.output.trans HW3.out.2.2, by have := t4.size; omega, fun k hk hn => ?_⟩
  simp only [List.mem_cons, not_or] at hn
  rw [t4.block k (by omega) (by simp; exact hn.2.1), Hb3.out k hn.1, HT2.out.block k hk hn.2.2]
 have hR4 : Rs w4 sb b (.slice a3 c3 n3) (l ++ [a]) mb (n + 1) (fun y => decide (y = a) || S y) := by
  refine ⟨?_, ?_, ?_⟩
  ·rw [t4.block sb HR3.out.lt (by simp; exact fun e => hmne e.symm)]
   exact HR3.out.own
  ·refine row_keep HR3.out.row (fun q hq => t4.block q (row_lt HR3.out.row q hq) ?_)
   simp
   intro e
   subst e
   rcases HR3.out.row.2 with ⟨e, _⟩ | ⟨y, cp, cur, e, _, hy, _⟩
   ·rw [e] at hq; simp [Value.ownBlock] at hq
   ·rw [e] at hq
    simp [Value.ownBlock] at hq
    subst hq
    exact HR3.out.map.ne hy rfl
  ·exact Ms.put Ha.out hown3 HS3.out hown4
 refine ⟨HR.out.set T4 (fun q hq => ?_) hR4 (fun q hq => ?_), T4, ?_⟩
 ·simp only [List.mem_cons, Option.mem_toList] at hq
  exact hq
 ·rcases Hat.out with h | h
  ·exact HR.out.lv_ q (by rw [← h]; exact hq)
  ·rw [h] at hq
   simp at hq
   have := HR.out.hn
   have := HR.out.bq.be.size
   omega
 ·rcases Hat.out with h | h
  ·exact .inl h
  ·exact .inr ⟨_, h, by omega⟩
theorem sMark_ex (H : Rm w1 n1 w sb b g mb lv c x sw ws th l n S) (i : Nat) (T : Tng) (hTi : th[i]? = some T) : Calls Tryz.prog 52 #[.pointer (some ⟨sb, 0, none⟩), .int .i64 T.at_] w fun e w' => e = .returned (.tuple #[]) ∧ Touch [b, g] w w' ∧ ∃ ws', ws' = upd (upd ws T.at_.toNat (wrd T.k T.p T.r T.a T.t (S T.at_))) (T.at_.toNat + 1) T.s ∧ Rm w1 n1 w' sb b g mb lv c x sw ws' (th.set i { T with h := S T.at_ }) l n S := by
 have hT := List.mem_of_getElem? hTi
 have k0 : w.cell? ⟨sb, 0, none⟩ = some (.pointer (some ⟨b, 0, none⟩)) := H.rs.cell 0
 have hh := H.bq.ax.head hT
 have HR : Hid (Rm w1 n1 w sb b g mb lv c x sw ws th l n S) := H
 have hps := H.bq.ax.pos hT
 have Ha : Hid (InI T.at_) := by show InI T.at_; unfold InI; omega
 have HT : Hid (th[i]? = some T) := hTi
 clear H hT hTi hps
 go_enter Tryz.func52, Tryz.ntmps52
 go_wp2_with fail
 refine hh.mono ?_
 rintro e w2 ⟨rfl, l2⟩
 clear hh k0
 go_upto_region 1 with fail
 have l3 := Below.alloc l2 l2.size (.cells (hcells T.s T.k T.p T.r T.a T.t T.h) 38)
 have hX := Box.new w2 38 (.int .u64 T.s) (.int .i64 T.k) (.int .i64 T.p) (.int .i64 T.r) (.int .i64 T.a) (.int .i64 T.t) (.bool T.h)
 have hRge : w.heap.size ≤ w2.heap.size := l2.size
 generalize w2.alloc (.cells (hcells T.s T.k T.p T.r T.a T.t T.h) 38) = w3 at *
 generalize w2.heap.size = R at *
 have HR3 : Hid (Rm w1 n1 w3 sb b g mb lv c x sw ws th l n S) := HR.out.below l3
 have hh := sHas_any HR3.out.rs T.at_ Ha.out
 clear l2
 obtain ⟨d, hd⟩ : ∃ d, d = S T.at_ := ⟨_, rfl⟩
 rw [← hd] at hh
 have Hd : Hid (d = S T.at_) := hd
 clear hd
 go_wp2_with fail
 refine hh.mono ?_
 rintro e w4 ⟨rfl, l4⟩
 have hX4 := hX.keep l4 hX.lt
 have b4 := l3.trans (l4.mono l3.size)
 have l5 : Below w.heap.size w (w4.setCell ⟨R, 6, none⟩ (.bool d)) := Below.setCell (p := ⟨R, 6, none⟩) b4 hRge _
 have HR5 : Hid (Rm w1 n1 (w4.setCell ⟨R, 6, none⟩ (.bool d)) sb b g mb lv c x sw ws th l n S) := HR.out.below l5
 have L5 : Hid (Below w.heap.size w (w4.setCell ⟨R, 6, none⟩ (.bool d))) := l5
 obtain ⟨x0, x1, x2, x3, x4, x5, x6, f0, f1, f2, f3, f4, f5, f6⟩ := hX4
 have hne : ∀ j : Nat, j ≠ 6 → (w4.setCell ⟨R, 6, none⟩ (.bool d)).cell? ⟨R, j, none⟩ = w4.cell? ⟨R, j, none⟩ := fun j hj => by
  refine World.cell?_setCell_other _ _ _ _ (fun e => hj ?_)
  injection e with _ e2
  exact e2.symm
 have y0 := (hne 0 (by decide)).trans x0
 have y1 := (hne 1 (by decide)).trans x1
 have y2 := (hne 2 (by decide)).trans x2
 have y3 := (hne 3 (by decide)).trans x3
 have y4 := (hne 4 (by decide)).trans x4
 have y5 := (hne 5 (by decide)).trans x5
 have y6 : (w4.setCell ⟨R, 6, none⟩ (.bool d)).cell? ⟨R, 6, none⟩ = some (.bool d) := World.cell?_setCell_same _ _ _ x6
 clear hne hh hX l3 l4 b4 HR3 x0 x1 x2 x3 x4 x5 f0 f1 f2 f3 f4 f5 l5
 go_upto_region 3 with fail
 clear x6 f6
 generalize w4.setCell ⟨R, 6, none⟩ (.bool d) = w5 at *
 have k0 : w5.cell? ⟨sb, 0, none⟩ = some (.pointer (some ⟨b, 0, none⟩)) := HR5.out.rs.cell 0
 have bd : Below w5.heap.size w5 w5.drew := below_drewN (Below.refl _ _) 1
 have HR6 : Hid (Rm w1 n1 w5.drew sb b g mb lv c x sw ws th l n S) := HR5.out.below bd
 have hc := HR6.out.bq.ax.setHead_ex i T HT.out d
 have L6 : Hid (Touch [b, g] w w5.drew) := Touch.of_below (L5.out.trans (bd.mono L5.out.size)) _
 clear bd HR5 HR L5
 refine quiet_tail 6 mixed (by kernel_rfl) ?_
 simp only [List.take_succ_cons, List.take_zero, List.drop_succ_cons, List.drop_zero]
 repeat (go_big_quiet_step (fail))
 refine wpQuiet_nil ?_
 go_wp2_with fail
 refine hc.mono ?_
 rintro e w6 ⟨rfl, t6, ws6, E6, A6, H6⟩
 have HE6 : Hid (ws6 = upd (upd ws T.at_.toNat (wrd T.k T.p T.r T.a T.t d)) (T.at_.toNat + 1) T.s) := E6
 clear E6
 have HR7 : Hid (Rm w1 n1 w6 sb b g mb lv c x sw ws6 (th.set i { T with h := d }) l n S) := HR6.out.next t6.one A6 H6
 clear hc k0 y0 y1 y2 y3 y4 y5 y6
 go_wp2
 go_end0
 exact ⟨rfl, L6.out.trans t6.one, ws6, by rw [← Hd.out]; exact HE6.out, by rw [← Hd.out]; exact HR7.out⟩
theorem sMark_any (H : Rm w1 n1 w sb b g mb lv c x sw ws th l n S) (i : Nat) (T : Tng) (hTi : th[i]? = some T) : Calls Tryz.prog 52 #[.pointer (some ⟨sb, 0, none⟩), .int .i64 T.at_] w fun e w' => e = .returned (.tuple #[]) ∧ Touch [b, g] w w' ∧ ∃ ws', Rm w1 n1 w' sb b g mb lv c x sw ws' (th.set i { T with h := S T.at_ }) l n S := by
 refine (sMark_ex H i T hTi).mono ?_
 rintro e w' ⟨h1, h2, ws', -, h3⟩
 exact ⟨h1, h2, ws', h3⟩
end
def hta (c : Cfg) (sw : Bool) (th : List Tng) (a : Int) : Bool := decide (spc c a = 4) && th.any (fun T => decide (T.at_ = a) && hyT c sw T)
theorem Hld.inj {c : Cfg} {x : Tps} {ws : Nat → Int} {th : List Tng} (H : Hld c x ws th) {i j : Nat} {T U : Tng} (hi : th[i]? = some T) (hj : th[j]? = some U) (h : T.at_ = U.at_) : i = j := by
 by_cases e : i = j
 ·exact e
 ·exfalso
  have hT := List.mem_of_getElem? hi
  have hU := List.mem_of_getElem? hj
  have h1 := H.psn T hT
  have h2 := H.rsn T hT
  have h3 := H.psn U hU
  have h4 := H.rsn U hU
  rcases H.dis i j T U hi hj e with h | h <;> omega
theorem hta_at {c : Cfg} {x : Tps} {ws : Nat → Int} {th : List Tng} (H : Hld c x ws th) (sw : Bool) {T : Tng} (hT : T ∈ th) : hta c sw th T.at_ = (decide (spc c T.at_ = 4) && hyT c sw T) := by
 unfold hta
 congr 1
 cases e : hyT c sw T
 ·rw [List.any_eq_false]
  intro U hU
  obtain ⟨i, hi⟩ := List.getElem?_of_mem hT
  obtain ⟨j, hj⟩ := List.getElem?_of_mem hU
  by_cases h : U.at_ = T.at_
  ·have := H.inj hj hi h
   subst this
   rw [hi] at hj
   simp at hj
   subst hj
   simp [e]
  ·simp [h]
 ·rw [List.any_eq_true]
  exact ⟨T, hT, by simp [e]⟩
def inS' (q S : Int → Bool) (ns : List Int) (a : Int) : Bool := if a ∈ ns then q a else S a
def mk_ (q : Int → Bool) (ns : List Int) (th : List Tng) : List Tng := th.map (fun T => if T.at_ ∈ ns then { T with h := q T.at_ } else T)
theorem mk_nil (q : Int → Bool) (th : List Tng) : mk_ q [] th = th := by
 unfold mk_
 conv => rhs; rw [← List.map_id th]
 apply List.map_congr_left
 intro T _
 simp
theorem mk_at (q : Int → Bool) (ns : List Int) (th : List Tng) (i : Nat) : (mk_ q ns th)[i]? = (th[i]?).map (fun T => if T.at_ ∈ ns then { T with h := q T.at_ } else T) := by
 unfold mk_
 rw [List.getElem?_map]
theorem mk_snoc {c : Cfg} {x : Tps} {ws : Nat → Int} {th : List Tng} (H : Hld c x ws th) (q : Int → Bool) (ns : List Int) (i : Nat) (T U : Tng) (hi : th[i]? = some T) (hU : (mk_ q ns th)[i]? = some U) : (mk_ q ns th).set i { U with h := q T.at_ } = mk_ q (ns ++ [T.at_]) th := by
 apply List.ext_getElem?
 intro j
 rw [List.getElem?_set, mk_at, mk_at]
 have hil := (List.getElem?_eq_some_iff.1 hU).1
 rw [mk_at, hi] at hU
 simp at hU
 by_cases e : i = j
 ·subst e
  rw [if_pos rfl, if_pos hil, hi]
  simp only [Option.map_some]
  congr 1
  rw [if_pos (by simp), ← hU]
  split <;> rfl
 ·rw [if_neg e]
  cases hj : th[j]? with
  | none => rfl
  | some V =>
   simp only [Option.map_some]
   congr 1
   have hne : V.at_ ≠ T.at_ := fun h => e (H.inj hi hj h.symm)
   by_cases h : V.at_ ∈ ns
   ·rw [if_pos h, if_pos (by simp [h])]
   ·rw [if_neg h, if_neg (by simp [h, hne])]
section
variable {w1 w w' : World} {n1 sb b g mb n : Nat} {lv : Value} {c : Cfg} {x : Tps} {sw : Bool} {ws : Nat → Int} {th : List Tng} {l : List Int} {S : Int → Bool}
theorem Rm.congr {S' : Int → Bool} (H : Rm w1 n1 w sb b g mb lv c x sw ws th l n S) (h : ∀ a, InI a → S a = S' a) : Rm w1 n1 w sb b g mb lv c x sw ws th l n S' :=
 ⟨H.bq, ⟨H.rs.own, H.rs.row, H.rs.map.congr h⟩, H.ls, H.lm, H.lv_, H.hn⟩
theorem inS'_put (q S : Int → Bool) (ns : List Int) (a : Int) (h : q a = true) : ∀ y, (decide (y = a) || inS' q S ns y) = inS' q S (ns ++ [a]) y := fun y => by
 unfold inS'
 by_cases e : y = a
 ·subst e
  simp [h]
 ·simp [e]
theorem inS'_del (q S : Int → Bool) (ns : List Int) (a : Int) (h : q a = false) : ∀ y, (!decide (y = a) && inS' q S ns y) = inS' q S (ns ++ [a]) y := fun y => by
 unfold inS'
 by_cases e : y = a
 ·subst e
  simp [h]
 ·simp [e]
theorem del_rm (H : Rm w1 n1 w sb b g mb lv c x sw ws th l n S) {D : DataW Nat} (hS : ∀ a, InI a → Maps.has D (.int .i64 a) = S a) {a : Int} (hown : w'.ownsMap Tryz.prog 3 unitElem mb n (D.del (.int .i64 a))) (ht : w.mapTurned w' mb) : Rm w1 n1 w' sb b g mb lv c x sw ws th l n (fun y => !decide (y = a) && S y) := by
 have t := turned_touch ht
 have hmne : sb ≠ mb := fun e => H.rs.map.ne H.rs.own e
 refine H.set t (fun q hq => .inr (.inl (by simpa using hq))) ⟨?_, ?_, Ms.del hS hown⟩ H.lv_
 ·rw [t.block sb H.rs.lt (by simpa using hmne)]
  exact H.rs.own
 ·refine row_keep H.rs.row (fun q hq => t.block q (row_lt H.rs.row q hq) ?_)
  simp
  intro e
  subst e
  rcases H.rs.row.2 with ⟨e, _⟩ | ⟨y, cp, cur, e, _, hy, _⟩
  ·rw [e] at hq; simp [Value.ownBlock] at hq
  ·rw [e] at hq
   simp [Value.ownBlock] at hq
   subst hq
   exact H.rs.map.ne hy rfl
theorem Touch.wide {F G : List Nat} {w w' : World} (t : Touch F w w') (h : ∀ x, x ∈ F → x ∈ G) : Touch G w w' := ⟨t.os, t.tape, t.output, t.size, fun k hk hn => t.block k hk (fun hm => hn (h k hm))⟩
theorem Rm.mono {m : Nat} (H : Rm w1 n1 w sb b g mb lv c x sw ws th l n S) (h : n ≤ m) : Rm w1 n1 w sb b g mb lv c x sw ws th l m S :=
 ⟨H.bq, ⟨H.rs.own, H.rs.row, H.rs.map.mono h⟩, H.ls, H.lm, H.lv_, H.hn⟩
theorem setList_rs (H : Rm w1 n1 w sb b g mb lv c x sw ws th l n S) : Rm w1 n1 (w.setCell ⟨sb, 1, none⟩ (.slice none 0 0)) sb b g mb (.slice none 0 0) c x sw ws th [] n S ∧ Touch [sb] w (w.setCell ⟨sb, 1, none⟩ (.slice none 0 0)) := by
 have t : Touch [sb] w (w.setCell ⟨sb, 1, none⟩ (.slice none 0 0)) := Touch.setCell _ _ _ (by simp)
 have hmne : mb ≠ sb := fun e => H.rs.map.ne H.rs.own e.symm
 refine ⟨H.set t (fun q hq => .inl (by simpa using hq)) ⟨?_, World.ownsRow_nil _ _ _ _, H.rs.map.keep (Below.heap_setCell _ _ _ _ hmne)⟩ (fun q hq => by simp [Value.ownBlock] at hq), t⟩
 simp [World.setCell, Array.getElem?_modify, H.rs.own]
end
section
variable {w1 w w' : World} {n1 sb b g mb n : Nat} {lv : Value} {c : Cfg} {x : Tps} {sw : Bool} {ws : Nat → Int} {th : List Tng} {l : List Int} {S : Int → Bool}
theorem stands_yes (H : Rm w1 n1 w sb b g mb lv c x sw ws th l n S) {T : Tng} (hT : T ∈ th) : Calls Tryz.prog 105 #[.pointer (some ⟨sb, 0, none⟩), .int .i64 T.at_] w fun e w' => e = .returned (.bool true) ∧ Below w.heap.size w w' := by
 have k0 : w.cell? ⟨sb, 0, none⟩ = some (.pointer (some ⟨b, 0, none⟩)) := H.rs.cell 0
 have hh := H.bq.ax.head hT
 clear H hT
 go_enter Tryz.func105, Tryz.ntmps105
 go_wp2_with fail
 refine hh.mono ?_
 rintro e w2 ⟨rfl, l2⟩
 clear hh k0
 have l3 := Below.alloc l2 l2.size (.cells (hcells T.s T.k T.p T.r T.a T.t T.h) 38)
 go_wp2
 go_ret
 exact ⟨rfl, l3⟩
theorem fault_no (H : Rm w1 n1 w sb b g mb lv c x sw ws th l n S) {T : Tng} (hT : T ∈ th) (f : Nat) (hf : f < T.ps.length) (z : Int) (hz : z = 0 ∨ ∃ U, U ∈ th ∧ U.at_ = z) : Calls Tryz.prog 47 #[.pointer (some ⟨sb, 0, none⟩), .int .i64 T.at_, .int .i64 f, .int .i64 z] w fun e w' => e = .returned (.int .i64 0) ∧ Below w.heap.size w w' := by
 have k0 : w.cell? ⟨sb, 0, none⟩ = some (.pointer (some ⟨b, 0, none⟩)) := H.rs.cell 0
 have hh := H.bq.ax.head hT
 have HR : Hid (Rm w1 n1 w sb b g mb lv c x sw ws th l n S) := H
 have hpn := H.bq.ax.hl.psn T hT
 have hfI : ¬ (f : Int) < 0 := by omega
 have hfp : ¬ T.p ≤ (f : Int) := by omega
 have gfp : decide (T.p ≤ (f : Int)) = false := decide_eq_false hfp
 clear H hT hpn
 go_enter Tryz.func47, Tryz.ntmps47
 go_wp2_with fail
 refine hh.mono ?_
 rintro e w2 ⟨rfl, l2⟩
 clear hh k0
 go_upto_region 2 with fail
 have l3 := Below.alloc l2 l2.size (.cells (hcells T.s T.k T.p T.r T.a T.t T.h) 38)
 have hy : (w2.alloc (.cells (hcells T.s T.k T.p T.r T.a T.t T.h) 38)).cell? ⟨w2.heap.size, 2, none⟩ = some (.int .i64 T.p) := cell_of_row _ _ 2 _ _ _ (heap_alloc_new w2 (.cells (hcells T.s T.k T.p T.r T.a T.t T.h) 38 (0, 0)))
 generalize w2.alloc (.cells (hcells T.s T.k T.p T.r T.a T.t T.h) 38) = w3 at *
 generalize w2.heap.size = R at *
 clear l2
 rcases hz with rfl | ⟨U, hU, rfl⟩
 ·go_wp2
  go_ret
  exact ⟨rfl, l3⟩
 ·have hst := stands_yes (HR.out.below l3) hU
  have hpos := HR.out.bq.ax.pos hU
  have hne : (U.at_ == 0) = false := by simp; omega
  have hne2 : (U.at_ != 0) = true := by simp; omega
  clear hU
  go_wp2_with fail
  refine hst.mono ?_
  rintro e w4 ⟨rfl, l4⟩
  have l5 := l3.trans (l4.mono l3.size)
  clear hst l4 l3 hy
  go_wp2
  go_ret
  exact ⟨rfl, l5⟩
def stl (c : Cfg) (sw : Bool) (l : List Int) (a z : Int) : Bool := decide (spc c a = 4) && (yg c sw z && !decide (a ∈ l))
theorem store_any (H : Rm w1 n1 w sb b g mb lv c x sw ws th l n (fun a => decide (a ∈ l))) (i : Nat) (T : Tng) (hTi : th[i]? = some T) (f : Nat) (hf : f < T.ps.length) (z : Int) (hz : z = 0 ∨ ∃ U, U ∈ th ∧ U.at_ = z) (hl : l.length ≤ 100000) (hn : n ≤ 100000) :
  Calls Tryz.prog 12 #[.pointer (some ⟨sb, 0, none⟩), .int .i64 T.at_, .int .i64 f, .int .i64 z] w fun e w' => e = .returned (.int .i64 0) ∧ ∃ lv' ws',
   (stl c sw l T.at_ z = false → Rm w1 n1 w' sb b g mb lv' c x sw ws' (th.set i { T with ps := T.ps.set f z }) l n (fun a => decide (a ∈ l))) ∧
   (stl c sw l T.at_ z = true → Rm w1 n1 w' sb b g mb lv' c x sw ws' (th.set i { T with ps := T.ps.set f z, h := true }) (l ++ [T.at_]) (n + 1) (fun a => decide (a ∈ l ++ [T.at_]))) := by
 have hT := List.mem_of_getElem? hTi
 have hfa := fault_no H hT f hf z hz
 have HR : Hid (Rm w1 n1 w sb b g mb lv c x sw ws th l n (fun a => decide (a ∈ l))) := H
 have HT : Hid (th[i]? = some T) := hTi
 have hpos := H.bq.ax.pos hT
 have Ha : Hid (InI T.at_) := by show InI T.at_; unfold InI; omega
 have Hzw : Hid (0 ≤ z ∧ z < c.words) := by
  rcases hz with rfl | ⟨U, hU, rfl⟩
  ·show _ ∧ _; omega
  ·have := H.bq.ax.pos hU; show _ ∧ _; omega
 have Hf : Hid (f < T.ps.length) := hf
 clear H hT hTi hpos hz hf
 go_enter Tryz.func12, Tryz.ntmps12
 go_wp2_with fail
 refine hfa.mono ?_
 rintro e w2 ⟨rfl, l2⟩
 have HR2 : Hid (Rm w1 n1 w2 sb b g mb lv c x sw ws th l n (fun a => decide (a ∈ l))) := HR.out.below l2
 have k0 : w2.cell? ⟨sb, 0, none⟩ = some (.pointer (some ⟨b, 0, none⟩)) := HR2.out.rs.cell 0
 have hsp := HR2.out.bq.ax.setPtr i T HT.out f z Hf.out Hzw.out.1 Hzw.out.2
 clear hfa l2 HR
 go_wp2_with fail
 refine hsp.mono ?_
 rintro e w3 ⟨rfl, t3, ws3, A3, H3⟩
 have HR3 : Hid (Rm w1 n1 w3 sb b g mb lv c x sw ws3 (th.set i { T with ps := T.ps.set f z }) l n (fun a => decide (a ∈ l))) := HR2.out.next t3.one A3 H3
 have HT3 : Hid ((th.set i { T with ps := T.ps.set f z })[i]? = some { T with ps := T.ps.set f z }) := by
  show _ = _
  rw [List.getElem?_set, if_pos rfl, if_pos (List.getElem?_eq_some_iff.1 HT.out).1]
 clear hsp k0 t3 A3 H3 HR2
 have ht := sTenured_any HR3.out.rs HR3.out.bq.ax.ar T.at_
 by_cases h4 : spc c T.at_ = 4
 ·rw [decide_eq_true h4] at ht
  go_wp2_with fail
  refine ht.mono ?_
  rintro e w4 ⟨rfl, l4⟩
  have HR4 : Hid (Rm w1 n1 w4 sb b g mb lv c x sw ws3 (th.set i { T with ps := T.ps.set f z }) l n (fun a => decide (a ∈ l))) := HR3.out.below l4
  have k0 : w4.cell? ⟨sb, 0, none⟩ = some (.pointer (some ⟨b, 0, none⟩)) := HR4.out.rs.cell 0
  have hyo : Calls Tryz.prog 49 #[.pointer (some ⟨b, 0, none⟩), .int .i64 z] w4 fun e w' => e = .returned (.bool (yg c sw z)) ∧ Below w4.heap.size w4 w' := young_any b g c x sw ws3 z w4 HR4.out.bq.ax.ar
  clear ht l4 HR3
  cases hy : yg c sw z
  ·rw [hy] at hyo
   have HE : Hid (stl c sw l T.at_ z = false) := by show _ = _; unfold stl; rw [hy]; simp
   clear hy h4
   go_wp2_with fail
   refine hyo.mono ?_
   rintro e w5 ⟨rfl, l5⟩
   have HR5 : Hid (Rm w1 n1 w5 sb b g mb lv c x sw ws3 (th.set i { T with ps := T.ps.set f z }) l n (fun a => decide (a ∈ l))) := HR4.out.below l5
   clear hyo l5 HR4 k0
   go_wp2
   go_ret
   exact ⟨rfl, lv, ws3, fun _ => HR5.out, fun e => by rw [HE.out] at e; simp at e⟩
  ·rw [hy] at hyo
   have Hy : Hid (yg c sw z = true) := hy
   have H4 : Hid (spc c T.at_ = 4) := h4
   clear hy h4
   go_wp2_with fail
   refine hyo.mono ?_
   rintro e w5 ⟨rfl, l5⟩
   have HR5 : Hid (Rm w1 n1 w5 sb b g mb lv c x sw ws3 (th.set i { T with ps := T.ps.set f z }) l n (fun a => decide (a ∈ l))) := HR4.out.below l5
   have hh := sHas_any HR5.out.rs T.at_ Ha.out
   clear hyo l5 HR4 k0
   by_cases hm : T.at_ ∈ l
   ·rw [decide_eq_true hm] at hh
    have HE : Hid (stl c sw l T.at_ z = false) := by show _ = _; unfold stl; simp [hm]
    clear hm
    go_wp2_with fail
    refine hh.mono ?_
    rintro e w6 ⟨rfl, l6⟩
    have HR6 : Hid (Rm w1 n1 w6 sb b g mb lv c x sw ws3 (th.set i { T with ps := T.ps.set f z }) l n (fun a => decide (a ∈ l))) := HR5.out.below l6
    clear hh l6 HR5
    go_wp2
    go_ret
    exact ⟨rfl, lv, ws3, fun _ => HR6.out, fun e => by rw [HE.out] at e; simp at e⟩
   ·rw [decide_eq_false hm] at hh
    have HE : Hid (stl c sw l T.at_ z = true) := by show _ = _; unfold stl; simp [hm, Hy.out, H4.out]
    clear hm
    go_wp2_with fail
    refine hh.mono ?_
    rintro e w6 ⟨rfl, l6⟩
    have HR6 : Hid (Rm w1 n1 w6 sb b g mb lv c x sw ws3 (th.set i { T with ps := T.ps.set f z }) l n (fun a => decide (a ∈ l))) := HR5.out.below l6
    clear hh l6 HR5
    have had := sAdd_any HR6.out T.at_ Ha.out (by omega) (by omega)
    go_wp2_with fail
    refine had.mono ?_
    rintro e w7 ⟨rfl, lv7, R7, -, -⟩
    have R7' := R7.congr (S' := fun a => decide (a ∈ l ++ [T.at_])) (fun y _ => by by_cases e : y = T.at_ <;> simp [e])
    have hmk := sMark_any R7' i _ HT3.out
    have Hset : Hid ((th.set i { T with ps := T.ps.set f z }).set i { T with ps := T.ps.set f z, h := true } = th.set i { T with ps := T.ps.set f z, h := true }) := List.set_set _
    have hd : decide (T.at_ ∈ l ++ [T.at_]) = true := by simp
    simp only [hd] at hmk
    clear had R7 R7' HR6 hd
    go_wp2_with fail
    refine hmk.mono ?_
    rintro e w8 ⟨rfl, -, ws8, R8⟩
    have HR8 : Hid (Rm w1 n1 w8 sb b g mb lv7 c x sw ws8 (th.set i { T with ps := T.ps.set f z, h := true }) (l ++ [T.at_]) (n + 1) (fun a => decide (a ∈ l ++ [T.at_]))) := by
     have := R8
     rw [Hset.out] at this
     exact this
    clear hmk R8
    go_wp2
    go_ret
    exact ⟨rfl, lv7, ws8, fun e => by rw [HE.out] at e; simp at e, fun _ => HR8.out⟩
 ·rw [decide_eq_false h4] at ht
  have HE : Hid (stl c sw l T.at_ z = false) := by show _ = _; unfold stl; simp [h4]
  go_wp2_with fail
  refine ht.mono ?_
  rintro e w4 ⟨rfl, l4⟩
  have HR4 : Hid (Rm w1 n1 w4 sb b g mb lv c x sw ws3 (th.set i { T with ps := T.ps.set f z }) l n (fun a => decide (a ∈ l))) := HR3.out.below l4
  clear ht l4 HR3 h4
  go_wp2
  go_ret
  exact ⟨rfl, lv, ws3, fun _ => HR4.out, fun e => by rw [HE.out] at e; simp at e⟩
end
end Go.Proofs.YtlkengnefhhppaaGreatDoor
