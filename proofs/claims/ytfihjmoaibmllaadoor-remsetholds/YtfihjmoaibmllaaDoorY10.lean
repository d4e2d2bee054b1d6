/-
  What Build keeps.
-/
import Derived.Test.YtfihjmoaibmllaaDoorPYa
import Derived.Test.YtfihjmoaibmllaaDoorY6
import Derived.Test.YtfihjmoaibmllaaDoorY8
set_option linter.unusedVariables false
set_option maxRecDepth 20000
namespace Go.Proofs.YtfihjmoaibmllaaDoor
open Go.RowKit Go.Shelf

/-- An arena that is being built out of a lay. -/
structure Bq (w1 : World) (n1 : Nat) (w : World) (b g : Nat) (c : Cfg) (x : Tps) (sw : Bool) (ws : Nat → Int) (th : List Tng) : Prop where
  ax : Ax w b g c x sw ws th
  be : Below n1 w1 w
  lb : n1 ≤ b
  lg : n1 ≤ g
  t0 : 1 < n1
  t1 : 0 < n1

theorem Bq.below {w1 : World} {n1 : Nat} {w w' : World} {b g : Nat} {c : Cfg} {x : Tps} {sw : Bool} {ws : Nat → Int} {th : List Tng} (H : Bq w1 n1 w b g c x sw ws th) (hn : n1 ≤ w1.heap.size) (l : Below w.heap.size w w') : Bq w1 n1 w' b g c x sw ws th :=
  ⟨H.ax.below l, H.be.trans (l.mono (Nat.le_trans hn H.be.size)), H.lb, H.lg, H.t0, H.t1⟩

theorem Bq.next {w1 : World} {n1 : Nat} {w w' : World} {b g : Nat} {c : Cfg} {x x' : Tps} {sw sw' : Bool} {ws ws' : Nat → Int} {th th' : List Tng} (H : Bq w1 n1 w b g c x sw ws th) (hn : n1 ≤ w1.heap.size) (t : Touch [b, g] w w') (hA : Ar w' b g c x' sw' ws') (hH : Hld c x' ws' th') : Bq w1 n1 w' b g c x' sw' ws' th' := by
  have hs := H.be.size
  have t0 := H.t0
  have t1 := H.t1
  have lb := H.lb
  have lg := H.lg
  refine ⟨⟨hA, H.ax.la.touch t (by simp; omega) (by simp; omega), hH⟩, H.be.trans (t.below (by omega) (fun k hk => ?_)), H.lb, H.lg, H.t0, H.t1⟩
  simp at hk
  rcases hk with rfl | rfl
  · exact lb
  · exact lg

theorem Touch.one {b g : Nat} {w w' : World} (t : Touch [g] w w') : Touch [b, g] w w' := ⟨t.os, t.tape, t.output, t.size, fun k hk hn => t.block k hk (by simp at hn ⊢; exact hn.2)⟩

/-- The fields of a thing, as far as they have been written. -/
def Fl (L : List LT) (i kp kr : Nat) (T : Tng) : Prop := ∀ o, L[T.no - 1]? = some o → T.h = o.h ∧ (T.no ≤ i → T.ps = o.ps.map (plc L) ∧ T.rs = o.rs) ∧ (T.no = i + 1 → (∀ f, f < kp → T.ps[f]? = (o.ps.map (plc L))[f]?) ∧ ∀ f, f < kr → T.rs[f]? = o.rs[f]?)

theorem Fl.zero {L : List LT} {i : Nat} {T : Tng} (h : ∀ o, L[T.no - 1]? = some o → T.h = o.h) (hi : 0 < T.no) (h0 : i = 0) : Fl L i 0 0 T := fun o ho => ⟨h o ho, fun hn => by omega, fun _ => ⟨fun f hf => by omega, fun f hf => by omega⟩⟩

/-- The thing is whole. -/
def Full (L : List LT) (T : Tng) : Prop := ∀ o, ob L T.no = some o → T.ps = o.ps.map (plc L) ∧ T.rs = o.rs ∧ T.h = o.h

theorem Fl.next {L : List LT} {th : List Tng} (S : Sk L th) {i kp kr : Nat} (h : ∀ T, T ∈ th → Fl L i kp kr T) (hp : ∀ o, L[i]? = some o → 0 < o.at_ → o.fill = 0 → o.ps.length ≤ kp ∧ o.rs.length ≤ kr) : ∀ T, T ∈ th → Fl L (i + 1) 0 0 T := fun T hT o ho => by
  obtain ⟨h1, h2, h3⟩ := h T hT o ho
  refine ⟨h1, fun hn => ?_, fun _ => ⟨fun f hf => by omega, fun f hf => by omega⟩⟩
  by_cases e : T.no ≤ i
  · exact h2 e
  · obtain ⟨n, y, e1, e2, e3, e4, e5⟩ := S.of T hT
    have en : n = i := by omega
    subst en
    have eo : y = o := by
      rw [e1] at ho
      simp at ho
      rw [ho] at e2
      simpa using e2.symm
    subst eo
    obtain ⟨p1, p2⟩ := hp y e2 e3 e4
    obtain ⟨q1, q2⟩ := h3 (by omega)
    constructor
    · apply List.ext_getElem?
      intro f
      by_cases hf : f < kp
      · exact q1 f hf
      · rw [List.getElem?_eq_none (by rw [e5.pl]; omega), List.getElem?_eq_none (by rw [List.length_map]; omega)]
    · apply List.ext_getElem?
      intro f
      by_cases hf : f < kr
      · exact q2 f hf
      · rw [List.getElem?_eq_none (by rw [e5.rl]; omega), List.getElem?_eq_none (by omega)]

theorem Fl.full {L : List LT} {th : List Tng} (S : Sk L th) {kp kr : Nat} (h : ∀ T, T ∈ th → Fl L L.length kp kr T) : ∀ T, T ∈ th → Full L T := fun T hT o ho => by
  obtain ⟨h1, h2, h3, h4⟩ := ob_some.1 ho
  have e : ((T.no : Int) - 1).toNat = T.no - 1 := by omega
  rw [e] at h2
  obtain ⟨q1, q2, -⟩ := h T hT o h2
  have := (List.getElem?_eq_some_iff.1 h2).1
  obtain ⟨r1, r2⟩ := q2 (by omega)
  exact ⟨r1, r2, q1⟩

/-- A pointer field is written. -/
theorem Fl.ptr {L : List LT} {th : List Tng} (S : Sk L th) {i k : Nat} (h : ∀ T, T ∈ th → Fl L i k 0 T) (j : Nat) (T : Tng) (hj : th[j]? = some T) (hn : T.no = i + 1) (o : LT) (ho : L[i]? = some o) (z : Int) (hz : o.ps[k]? = some z) (hl : k < T.ps.length) : ∀ V, V ∈ th.set j { T with ps := T.ps.set k (plc L z) } → Fl L i (k + 1) 0 V := fun V hV y hy => by
  obtain ⟨m, hm⟩ := List.getElem?_of_mem hV
  rcases set_at_of hm with ⟨rfl, rfl⟩ | ⟨hne, hm2⟩
  · have hy' : L[T.no - 1]? = some y := hy
    obtain ⟨h1, h2, h3⟩ := h T (List.mem_of_getElem? hj) y hy'
    refine ⟨h1, fun e => ?_, fun _ => ⟨fun f hf => ?_, fun f hf => by omega⟩⟩
    · have e' : T.no ≤ i := e
      omega
    · have e0 : y = o := by
        rw [hn] at hy'
        simp at hy'
        rw [ho] at hy'
        simpa using hy'.symm
      subst e0
      show (T.ps.set k (plc L z))[f]? = _
      rw [List.getElem?_set]
      by_cases e : k = f
      · subst e
        rw [if_pos rfl, if_pos hl, List.getElem?_map, hz]
        rfl
      · rw [if_neg e]
        exact (h3 hn).1 f (by omega)
  · obtain ⟨h1, h2, h3⟩ := h V (List.mem_of_getElem? hm2) y hy
    refine ⟨h1, h2, fun e => ?_⟩
    have hV2 := List.mem_of_getElem? hm2
    have := S.uniq hV2 (List.mem_of_getElem? hj) (by omega)
    subst this
    exfalso
    have hp := List.pairwise_iff_getElem.1 S.ord
    obtain ⟨i1, i2⟩ := List.getElem?_eq_some_iff.1 hm2
    obtain ⟨j1, j2⟩ := List.getElem?_eq_some_iff.1 hj
    rcases Nat.lt_or_gt_of_ne hne with g | g
    · have := hp m j i1 j1 g
      rw [i2, j2] at this
      omega
    · have := hp j m j1 i1 g
      rw [i2, j2] at this
      omega

/-- A raw field is written. -/
theorem Fl.raw {L : List LT} {th : List Tng} (S : Sk L th) {i kp k : Nat} (h : ∀ T, T ∈ th → Fl L i kp k T) (j : Nat) (T : Tng) (hj : th[j]? = some T) (hn : T.no = i + 1) (o : LT) (ho : L[i]? = some o) (z : Int) (hz : o.rs[k]? = some z) (hl : k < T.rs.length) : ∀ V, V ∈ th.set j { T with rs := T.rs.set k z } → Fl L i kp (k + 1) V := fun V hV y hy => by
  obtain ⟨m, hm⟩ := List.getElem?_of_mem hV
  rcases set_at_of hm with ⟨rfl, rfl⟩ | ⟨hne, hm2⟩
  · have hy' : L[T.no - 1]? = some y := hy
    obtain ⟨h1, h2, h3⟩ := h T (List.mem_of_getElem? hj) y hy'
    refine ⟨h1, fun e => ?_, fun _ => ⟨fun f hf => ?_, fun f hf => ?_⟩⟩
    · have e' : T.no ≤ i := e
      omega
    · exact (h3 hn).1 f hf
    · have e0 : y = o := by
        rw [hn] at hy'
        simp at hy'
        rw [ho] at hy'
        simpa using hy'.symm
      subst e0
      show (T.rs.set k z)[f]? = _
      rw [List.getElem?_set]
      by_cases e : k = f
      · subst e
        rw [if_pos rfl, if_pos hl, hz]
      · rw [if_neg e]
        exact (h3 hn).2 f (by omega)
  · obtain ⟨h1, h2, h3⟩ := h V (List.mem_of_getElem? hm2) y hy
    refine ⟨h1, h2, fun e => ?_⟩
    have hV2 := List.mem_of_getElem? hm2
    have := S.uniq hV2 (List.mem_of_getElem? hj) (by omega)
    subst this
    exfalso
    have hp := List.pairwise_iff_getElem.1 S.ord
    obtain ⟨i1, i2⟩ := List.getElem?_eq_some_iff.1 hm2
    obtain ⟨j1, j2⟩ := List.getElem?_eq_some_iff.1 hj
    rcases Nat.lt_or_gt_of_ne hne with g | g
    · have := hp m j i1 j1 g
      rw [i2, j2] at this
      omega
    · have := hp j m j1 i1 g
      rw [i2, j2] at this
      omega

theorem Mt.ptr {T : Tng} {o : LT} (h : Mt T o) (f : Nat) (z : Int) : Mt { T with ps := T.ps.set f z } o := ⟨h.at_, h.sp, h.s, h.k, h.p, h.r, h.a, h.t, by simpa using h.pl, h.rl⟩
theorem Mt.raw {T : Tng} {o : LT} (h : Mt T o) (f : Nat) (z : Int) : Mt { T with rs := T.rs.set f z } o := ⟨h.at_, h.sp, h.s, h.k, h.p, h.r, h.a, h.t, h.pl, by simpa using h.rl⟩
theorem Mt.held {T : Tng} {o : LT} (h : Mt T o) (b : Bool) : Mt { T with h := b } o := ⟨h.at_, h.sp, h.s, h.k, h.p, h.r, h.a, h.t, h.pl, h.rl⟩

/-- Where a number's object is: within the array. -/
theorem plc_in {L : List LT} {th : List Tng} (S : Sk L th) {w : World} {b g : Nat} {c : Cfg} {x : Tps} {sw : Bool} {ws : Nat → Int} (H : Ax w b g c x sw ws th) (z : Int) : 0 ≤ plc L z ∧ plc L z < c.words := by
  cases e : thr L z
  · rw [plc_none e]
    have := H.ar.words
    omega
  · obtain ⟨o, ho⟩ := thr_iff.1 e
    obtain ⟨i, T, hi, -, hm⟩ := S.find ho
    have := H.pos (List.mem_of_getElem? hi)
    rw [plc_some ho, ← hm.at_]
    omega

/-- A thing in a block of its own. -/
structure Lc (w : World) (R : Nat) (T : LT) : Prop where
  at_ : w.heap[R]? = some (.cells T.cells 51 (0, 0))
theorem Lc.new (w : World) (T : LT) : Lc (w.alloc (.cells T.cells 51)) w.heap.size T := ⟨heap_alloc_new w _⟩
theorem Lc.lt {w : World} {R : Nat} {T : LT} (h : Lc w R T) : R < w.heap.size := (Array.getElem?_eq_some_iff.1 h.at_).1
theorem Lc.below {w w' : World} {R : Nat} {T : LT} (h : Lc w R T) (l : Below w.heap.size w w') : Lc w' R T := ⟨(l.block R h.lt).trans h.at_⟩
theorem Lc.cell {w : World} {R : Nat} {T : LT} (h : Lc w R T) (j : Nat) : w.cell? ⟨R, j, none⟩ = T.cells[j]? := cell_of_row _ _ j _ _ _ h.at_
theorem Lc.touch {w w' : World} {R : Nat} {T : LT} (h : Lc w R T) {b g : Nat} {c : Cfg} {x : Tps} {sw : Bool} {ws : Nat → Int} (hA : Ar w b g c x sw ws) (t : Touch [b, g] w w') : Lc w' R T := ⟨(t.block R h.lt (by
  obtain ⟨⟨gs, hgs⟩, bs, hbs⟩ := hA.rowTy
  simp only [List.mem_cons, List.not_mem_nil, or_false, not_or]
  exact ⟨heap_ty_ne h.at_ hbs (by decide), heap_ty_ne h.at_ hgs (by decide)⟩)).trans h.at_⟩

theorem place_any {n1 : Nat} {w : World} {lb : Nat} {c : Cfg} {L : List LT} (h : Ly n1 w lb c L) (hn1 : n1 ≤ w.heap.size) (hlen : L.length ≤ 400) (z : Int) (hz : InI z) :
    Calls Tryd.prog 13 #[.pointer (some ⟨lb, 0, none⟩), .int .i64 z] w fun e w' => e = .returned (.int .i64 (plc L z)) ∧ Below w.heap.size w w' := by
  have hth := there_any h hlen z hz
  cases e : thr L z
  · rw [plc_none e]
    rw [e] at hth
    clear h e
    go_enter Tryd.func13, Tryd.ntmps13
    go_wp2_with fail
    refine hth.mono ?_
    rintro e w1 ⟨rfl, l1⟩
    go_wp2
    go_ret
    exact ⟨rfl, l1⟩
  · rw [e] at hth
    obtain ⟨T, hT⟩ := thr_iff.1 e
    rw [plc_some hT]
    obtain ⟨h1, h2, h3, h4⟩ := ob_some.1 hT
    obtain ⟨i, rfl⟩ : ∃ i : Nat, z = (i : Int) + 1 := ⟨(z - 1).toNat, by omega⟩
    have ei : ((i : Int) + 1 - 1).toNat = i := by omega
    rw [ei] at h2
    have hi := (List.getElem?_eq_some_iff.1 h2).1
    have HL : Hid (Ly n1 w lb c L) := h
    clear h e hT
    go_enter Tryd.func13, Tryd.ntmps13
    go_wp2_with fail
    refine hth.mono ?_
    rintro e w1 ⟨rfl, l1⟩
    obtain ⟨q, off, cap2, q', off', cap2', l14, l15, hc, ka, -, -, hcp⟩ := (HL.out.below (l1.mono hn1)).thing h2
    clear hth hc l14
    generalize L.length = N at *
    go_wp2
    go_ret
    exact ⟨rfl, l1⟩

end Go.Proofs.YtfihjmoaibmllaaDoor
