import Derived.Test.YtckgcpoheodbcaaDoorDR2
import Derived.Test.YtckgcpoheodbcaaDoorPLs
import Derived.Test.YtckgcpoheodbcaaDoorPLd
import Derived.Deep.CutBlock
/-
  Dominators by the document: the rows of truths, how many; its list.
-/
set_option linter.unusedVariables false
set_option maxRecDepth 20000
namespace Go.Proofs.YtckgcpoheodbcaaDoor
open Go.RowKit Go.Shelf Go.Proofs.YtckgcpoheodbcaaDoor.Lt

/-- Do ways lead to x, none of them through d? -/
noncomputable def rvb (W : Nat → List Nat) (d x : Nat) : Bool := @decide (Rv W d x) (Classical.propDecidable _)

theorem rvb_iff {W : Nat → List Nat} {d x : Nat} : rvb W d x = true ↔ Rv W d x := by
  unfold rvb
  exact @decide_eq_true_iff _ (Classical.propDecidable _)

theorem rvb_eq {W : Nat → List Nat} {d : Nat} {ins : Nat → Bool} (h : ∀ x, ins x = true ↔ Rv W d x) : ins = rvb W d := by
  funext x
  rw [Bool.eq_iff_iff, h, rvb_iff]

theorem rv_ne0 {W : Nat → List Nat} {x : Nat} (h : Rv W 0 x) : x ≠ 0 := by
  cases h with
  | root _ h => exact h
  | step _ _ h => exact h

/-- d stands on every way to x. -/
noncomputable def ovW (W : Nat → List Nat) : Nat → Nat → Bool := ovb (rvb W 0) (rvb W)

theorem ovW_zero (W : Nat → List Nat) (d : Nat) : ovW W d 0 = false := by
  have h : rvb W 0 0 = false := by
    rw [← Bool.not_eq_true, rvb_iff]
    exact fun h => rv_ne0 h rfl
  unfold ovW ovb
  rw [h]
  simp

theorem mny_zero (W : Nat → List Nat) (k : Nat) : mny (ovW W) k 0 = 0 := by
  unfold mny
  rw [List.length_eq_zero_iff, List.filter_eq_nil_iff]
  intro e _
  rw [ovW_zero]
  simp

/-- What the document answers. -/
def Dm17 (g : Im.Gr) (l : List Int) : Prop := l.length = g.obs.length ∧ ∀ (i : Nat) z, l[i]? = some z → (Rv (wy17 g) 0 (i + 1) ∧ ∃ b : Nat, z = b ∧ Ids (wy17 g) b (i + 1)) ∨ (¬ Rv (wy17 g) 0 (i + 1) ∧ z = -1)

theorem Dm17.uniq {g : Im.Gr} {l l' : List Int} (h : Dm17 g l) (h' : Dm17 g l') : l = l' := by
  refine List.ext_getElem? (fun i => ?_)
  rcases Nat.lt_or_ge i l.length with h1 | h1
  · have h2 : i < l'.length := by have := h.1; have := h'.1; omega
    obtain ⟨z, hz⟩ : ∃ z, l[i]? = some z := ⟨_, List.getElem?_eq_getElem h1⟩
    obtain ⟨z', hz'⟩ : ∃ z, l'[i]? = some z := ⟨_, List.getElem?_eq_getElem h2⟩
    rw [hz, hz']
    congr 1
    rcases h.2 i z hz with ⟨a1, b, rfl, a2⟩ | ⟨a1, a2⟩ <;> rcases h'.2 i z' hz' with ⟨c1, b', rfl, c2⟩ | ⟨c1, c2⟩
    · rw [a2.uniq c2]
    · exact absurd a1 c1
    · exact absurd c1 a1
    · rw [a2, c2]
  · rw [List.getElem?_eq_none h1, List.getElem?_eq_none (by have := h.1; have := h'.1; omega)]

theorem infoB17 : (Tryd.prog.info? 57).map (fun i => (i.zero, i.size, i.bytes)) = some (some (.slice none 0 0), 1, 24) := by kernel_rfl

theorem make_bools17 (m : Nat) (hm : m ≤ 1000000000001) : ∀ w, (Instr.makeSlice 59 (.int .i64 (m : Int)) (.int .i64 (m : Int))).run Tryd.prog w = .ok (.slice (some ⟨w.heap.size, 0, none⟩) m m) (w.alloc (.cells (madeCells #[.slice none 0 0] m) 57)) := fun w => by
  obtain ⟨i0, hi0, hz0, hz1, hz2⟩ := info_p17 infoB17
  have := run_make (P := Tryd.prog) w 59 57 i0 (.slice none 0 0) Tryd.underlying59 hi0 hz0 .i64 .i64 m m (by omega) (Int.le_refl _) (by rw [hz2]; omega) (by omega)
  rw [hz1, Nat.mul_one] at this
  exact this

/-- Rows of truths, those below k. -/
structure Ovs (w : World) (ob m k : Nat) (rb : Nat → Nat) (ov : Nat → Nat → Bool) : Prop where
  h : ∃ cs, w.heap[ob]? = some (.cells cs 57 (0, 0)) ∧ cs.size = m ∧ ∀ i, i < m → cs[i]? = some (if 1 ≤ i ∧ i < k then .slice (some ⟨rb i, 0, none⟩) m m else .slice none 0 0)
  r : ∀ i, 1 ≤ i → i < k → Fb w (rb i) m (ov i)

theorem Ovs.lt {w : World} {ob m k : Nat} {rb : Nat → Nat} {ov : Nat → Nat → Bool} (h : Ovs w ob m k rb ov) : ob < w.heap.size := by
  obtain ⟨cs, h1, -⟩ := h.h
  exact Kg.heap_lt h1

theorem Ovs.cell {w : World} {ob m k : Nat} {rb : Nat → Nat} {ov : Nat → Nat → Bool} (h : Ovs w ob m k rb ov) {i : Nat} (hi : i < m) : w.cell? ⟨ob, i, none⟩ = some (if 1 ≤ i ∧ i < k then .slice (some ⟨rb i, 0, none⟩) m m else .slice none 0 0) := by
  obtain ⟨cs, h1, -, h2⟩ := h.h
  exact (Kg.heap_cell h1 i).trans (h2 i hi)

theorem Ovs.frozen {w : World} {ob m k : Nat} {rb : Nat → Nat} {ov : Nat → Nat → Bool} (h : Ovs w ob m k rb ov) (i : Nat) : w.frozen? ⟨ob, i, none⟩ = false := by
  obtain ⟨cs, h1, -⟩ := h.h
  exact Kg.heap_frozen h1 i

theorem Ovs.touch {w w' : World} {ob m k : Nat} {rb : Nat → Nat} {ov : Nat → Nat → Bool} {F : List Nat} (h : Ovs w ob m k rb ov) (ht : Kg.Touch F w w') (h1 : ob ∉ F) (h2 : ∀ i, 1 ≤ i → i < k → rb i ∉ F) : Ovs w' ob m k rb ov := by
  obtain ⟨cs, k1, k2, k3⟩ := h.h
  exact ⟨⟨cs, (ht.block _ (Kg.heap_lt k1) h1).trans k1, k2, k3⟩, fun i i1 i2 => (h.r i i1 i2).touch ht (h2 i i1 i2)⟩

theorem Ovs.new (w : World) (m : Nat) (rb : Nat → Nat) (ov : Nat → Nat → Bool) : Ovs (w.alloc (.cells (madeCells #[.slice none 0 0] m) 57)) w.heap.size m 1 rb ov :=
  ⟨⟨_, heap_alloc_new w _, by simp [madeCells], fun i hi => by rw [if_neg (by omega)]; simp [madeCells, hi, Nat.mod_one]⟩, fun i h1 h2 => by omega⟩

/-- One row more is laid there. -/
theorem Ovs.lay {w : World} {ob m k : Nat} {rb : Nat → Nat} {ov : Nat → Nat → Bool} (h : Ovs w ob m k rb ov) (h1 : 1 ≤ k) (hk : k < m) {b : Nat} (hne : b ≠ ob) {f : Nat → Bool} (hb : Fb w b m f) (hr : ∀ i, 1 ≤ i → i < k → rb i ≠ ob) :
    (∃ cs, (w.setCell ⟨ob, k, none⟩ (.slice (some ⟨b, 0, none⟩) m m)).heap[ob]? = some (.cells cs 57 (0, 0)) ∧ cs.size = m ∧ ∀ i, i < m → cs[i]? = some (if 1 ≤ i ∧ i < k + 1 then .slice (some ⟨(if i = k then b else rb i), 0, none⟩) m m else .slice none 0 0)) ∧ (∀ i, 1 ≤ i → i < k → Fb (w.setCell ⟨ob, k, none⟩ (.slice (some ⟨b, 0, none⟩) m m)) (rb i) m (ov i)) ∧ Fb (w.setCell ⟨ob, k, none⟩ (.slice (some ⟨b, 0, none⟩) m m)) b m f := by
  obtain ⟨cs, k1, k2, k3⟩ := h.h
  have tS : Kg.Touch [ob] w (w.setCell ⟨ob, k, none⟩ (.slice (some ⟨b, 0, none⟩) m m)) := Kg.Touch.setCell _ _ _ (by simp)
  refine ⟨⟨cs.setIfInBounds k (.slice (some ⟨b, 0, none⟩) m m), Kg.heap_set k1 k _, by simpa using k2, fun i hi => ?_⟩, fun i i1 i2 => (h.r i i1 i2).touch tS (by simpa using hr i i1 i2), hb.touch tS (by simpa using hne)⟩
  rw [Array.getElem?_setIfInBounds]
  by_cases e : k = i
  · subst e
    rw [if_pos rfl, if_pos (by omega), if_pos ⟨h1, by omega⟩, if_pos rfl]
  · rw [if_neg e, k3 i hi]
    by_cases e2 : 1 ≤ i ∧ i < k
    · rw [if_pos e2, if_pos ⟨e2.1, by omega⟩, if_neg (fun h => e h.symm)]
    · rw [if_neg e2, if_neg (by omega)]

end Go.Proofs.YtckgcpoheodbcaaDoor

/-
  Dominators by the document: what lies in memory while the rows are made.
-/
set_option linter.unusedVariables false
set_option maxRecDepth 20000
namespace Go.Proofs.YtckgcpoheodbcaaDoor
open Go.RowKit Go.Shelf Go.Proofs.YtckgcpoheodbcaaDoor.Lt

/-- Between two rows. -/
structure Dq (W : Nat → List Nat) (m B : Nat) (wr : World) (bb ob mb k : Nat) (rb : Nat → Nat) : Prop where
  a : Fb wr bb m (rvb W 0)
  o : Ovs wr ob m k rb (ovW W)
  c : Fw wr mb m (mny (ovW W) k)
  ne : bb ≠ ob ∧ bb ≠ mb ∧ ob ≠ mb
  rn : ∀ i, 1 ≤ i → i < k → rb i ≠ ob ∧ rb i ≠ mb
  lo : B ≤ bb ∧ B ≤ ob ∧ B ≤ mb

/-- Within a row. -/
structure Dr (W : Nat → List Nat) (m B : Nat) (wr : World) (bb ob mb k : Nat) (rb : Nat → Nat) (nb lb x : Nat) : Prop where
  a : Fb wr bb m (rvb W 0)
  h : ∃ cs, wr.heap[ob]? = some (.cells cs 57 (0, 0)) ∧ cs.size = m ∧ ∀ i, i < m → cs[i]? = some (if 1 ≤ i ∧ i < k + 1 then .slice (some ⟨(if i = k then nb else rb i), 0, none⟩) m m else .slice none 0 0)
  r : ∀ i, 1 ≤ i → i < k → Fb wr (rb i) m (ovW W i)
  nw : Fb wr nb m (fun y => decide (y < x) && ovW W k y)
  l : Fb wr lb m (rvb W k)
  c : Fw wr mb m (fun y => if y < x then mny (ovW W) (k + 1) y else mny (ovW W) k y)
  ne : bb ≠ ob ∧ bb ≠ mb ∧ ob ≠ mb
  nn : nb ≠ bb ∧ nb ≠ ob ∧ nb ≠ mb ∧ nb ≠ lb
  nl : lb ≠ mb
  rn : ∀ i, 1 ≤ i → i < k → rb i ≠ ob ∧ rb i ≠ mb ∧ rb i ≠ nb
  lo : B ≤ bb ∧ B ≤ ob ∧ B ≤ mb ∧ B ≤ nb

variable {W : Nat → List Nat} {m B : Nat} {w w' : World} {bb ob mb k nb lb x : Nat} {rb : Nat → Nat}

theorem Fw.touchF {w w' : World} {fb m : Nat} {fa : Nat → Nat} {F : List Nat} (h : Fw w fb m fa) (ht : Kg.Touch F w w') (hF : fb ∉ F) : Fw w' fb m fa := by
  obtain ⟨cs, h1, h2, h3⟩ := h.ex
  exact ⟨cs, (ht.block _ (Kg.heap_lt h1) hF).trans h1, h2, h3⟩

theorem Fw.congrF {w : World} {fb m : Nat} {fa fa' : Nat → Nat} (h : Fw w fb m fa) (e : ∀ x, x < m → fa' x = fa x) : Fw w fb m fa' := by
  obtain ⟨cs, h1, h2, h3⟩ := h.ex
  exact ⟨cs, h1, h2, fun x hx => by rw [e x hx]; exact h3 x hx⟩

theorem Dq.keep (h : Dq W m B w bb ob mb k rb) (ht : Kg.Touch [] w w') : Dq W m B w' bb ob mb k rb :=
  ⟨h.a.touch ht (by simp), h.o.touch ht (by simp) (fun _ _ _ => by simp), h.c.touchF ht (by simp), h.ne, h.rn, h.lo⟩

theorem Dr.start {w1 : World} (h : Dq W m B w bb ob mb k rb) (hk1 : 1 ≤ k) (hkm : k < m) (hl : Fb w1 lb m (rvb W k)) (hb : Below w.heap.size w w1) (hlb : w.heap.size ≤ lb) (hB : B ≤ w.heap.size) :
    Dr W m B ((w1.alloc (.cells (madeCells #[.bool false] m) 4)).setCell ⟨ob, k, none⟩ (.slice (some ⟨w1.heap.size, 0, none⟩) m m)) bb ob mb k rb w1.heap.size lb 1 := by
  have t1 : Kg.Touch [] w w1 := Kg.Touch.of_below hb []
  have h1 := h.keep t1
  have t2 : Kg.Touch [] w1 (w1.alloc (.cells (madeCells #[.bool false] m) 4)) := Kg.Touch.alloc _ _ _
  have h2 := h1.keep t2
  have hw := hb.size
  have ha := h.a.lt
  have ho := h.o.lt
  have hm := h.c.lt
  have hll := hl.lt
  have hr : ∀ i, 1 ≤ i → i < k → rb i < w.heap.size := fun i i1 i2 => (h.o.r i i1 i2).lt
  have hn := Fb.new w1 m
  obtain ⟨l1, l2, l3⟩ := h2.o.lay hk1 hkm (b := w1.heap.size) (by omega) hn (fun i i1 i2 => (h.rn i i1 i2).1)
  have tS : Kg.Touch [ob] (w1.alloc (.cells (madeCells #[.bool false] m) 4)) ((w1.alloc (.cells (madeCells #[.bool false] m) 4)).setCell ⟨ob, k, none⟩ (.slice (some ⟨w1.heap.size, 0, none⟩) m m)) := Kg.Touch.setCell _ _ _ (by simp)
  refine ⟨h2.a.touch tS (by simpa using h.ne.1), l1, l2, l3.congr (fun y _ => ?_), (hl.touch t2 (by simp)).touch tS (by simp; omega), (h2.c.touchF tS (by simpa using h.ne.2.2.symm)).congrF (fun y _ => ?_), h.ne, ⟨by omega, by omega, by omega, by omega⟩, by omega, fun i i1 i2 => ⟨(h.rn i i1 i2).1, (h.rn i i1 i2).2, by have := hr i i1 i2; omega⟩, h.lo.1, h.lo.2.1, h.lo.2.2, by omega⟩
  · by_cases e : y = 0
    · rw [e, ovW_zero]; simp
    · rw [decide_eq_false (by omega)]; rfl
  · by_cases e : y = 0
    · rw [e, mny_zero, mny_zero]; simp
    · rw [if_neg (by omega)]

theorem Dr.no (h : Dr W m B w bb ob mb k rb nb lb x) (hk : 1 ≤ k) (ho : ovW W k x = false) : Dr W m B w bb ob mb k rb nb lb (x + 1) := by
  refine ⟨h.a, h.h, h.r, h.nw.congr (fun y _ => ?_), h.l, h.c.congrF (fun y _ => ?_), h.ne, h.nn, h.nl, h.rn, h.lo⟩
  · by_cases e : y = x
    · rw [e, ho]; simp
    · by_cases e2 : y < x
      · rw [decide_eq_true (show y < x + 1 by omega), decide_eq_true e2]
      · rw [decide_eq_false (show ¬ y < x + 1 by omega), decide_eq_false e2]
  · by_cases e : y = x
    · rw [e, if_pos (by omega), if_neg (by omega), mny_step _ hk, ho]
      simp
    · by_cases e2 : y < x
      · rw [if_pos (by omega), if_pos e2]
      · rw [if_neg (by omega), if_neg e2]

theorem Dr.yes (h : Dr W m B w bb ob mb k rb nb lb x) (hk : 1 ≤ k) (hx : x < m) (ho : ovW W k x = true) : Dr W m B ((w.setCell ⟨nb, x, none⟩ (.bool true)).setCell ⟨mb, x, none⟩ (.int .i64 (mny (ovW W) k x + 1 : Nat))) bb ob mb k rb nb lb (x + 1) := by
  have t1 : Kg.Touch [nb] w (w.setCell ⟨nb, x, none⟩ (.bool true)) := Kg.Touch.setCell _ _ _ (by simp)
  have t2 : Kg.Touch [mb] (w.setCell ⟨nb, x, none⟩ (.bool true)) ((w.setCell ⟨nb, x, none⟩ (.bool true)).setCell ⟨mb, x, none⟩ (.int .i64 (mny (ovW W) k x + 1 : Nat))) := Kg.Touch.setCell _ _ _ (by simp)
  obtain ⟨cs, k1, k2, k3⟩ := h.h
  obtain ⟨n1, n2, n3, n4⟩ := h.nn
  refine ⟨(h.a.touch t1 (by simpa using n1.symm)).touch t2 (by simpa using h.ne.2.1), ⟨cs, ?_, k2, k3⟩, fun i i1 i2 => ((h.r i i1 i2).touch t1 (by simpa using (h.rn i i1 i2).2.2)).touch t2 (by simpa using (h.rn i i1 i2).2.1), ((h.nw.set hx true).touch t2 (by simpa using n3)).congr (fun y _ => ?_), (h.l.touch t1 (by simpa using n4.symm)).touch t2 (by simpa using h.nl), ((h.c.touchF t1 (by simpa using n3.symm)).set hx (mny (ovW W) k x + 1)).congrF (fun y _ => ?_), h.ne, h.nn, h.nl, h.rn, h.lo⟩
  · have h1 := (t1.block ob (Kg.heap_lt k1) (by simpa using n2.symm)).trans k1
    exact (t2.block ob (Kg.heap_lt h1) (by simpa using h.ne.2.2)).trans h1
  · by_cases e : y = x
    · rw [e, if_pos rfl, ho]; simp
    · rw [if_neg e]
      by_cases e2 : y < x
      · rw [decide_eq_true (show y < x + 1 by omega), decide_eq_true e2]
      · rw [decide_eq_false (show ¬ y < x + 1 by omega), decide_eq_false e2]
  · by_cases e : y = x
    · rw [e, if_pos (by omega), if_pos rfl, mny_step _ hk, ho]
      simp
    · rw [if_neg e]
      by_cases e2 : y < x
      · rw [if_pos (by omega), if_pos e2]
      · rw [if_neg (by omega), if_neg e2]

theorem Dr.done (h : Dr W m B w bb ob mb k rb nb lb m) (hk : 1 ≤ k) : Dq W m B w bb ob mb (k + 1) (fun i => if i = k then nb else rb i) := by
  obtain ⟨cs, k1, k2, k3⟩ := h.h
  refine ⟨h.a, ⟨⟨cs, k1, k2, fun i hi => by rw [k3 i hi]⟩, fun i i1 i2 => ?_⟩, h.c.congrF (fun y hy => by rw [if_pos hy]), h.ne, fun i i1 i2 => ?_, h.lo.1, h.lo.2.1, h.lo.2.2.1⟩
  · by_cases e : i = k
    · subst e
      show Fb w (if i = i then nb else rb i) m (ovW W i)
      rw [if_pos rfl]
      exact h.nw.congr (fun y hy => by rw [decide_eq_true hy]; simp)
    · show Fb w (if i = k then nb else rb i) m (ovW W i)
      rw [if_neg e]
      exact h.r i i1 (by omega)
  · by_cases e : i = k
    · show (if i = k then nb else rb i) ≠ ob ∧ (if i = k then nb else rb i) ≠ mb
      rw [if_pos e]
      exact ⟨h.nn.2.1, h.nn.2.2.1⟩
    · show (if i = k then nb else rb i) ≠ ob ∧ (if i = k then nb else rb i) ≠ mb
      rw [if_neg e]
      exact ⟨(h.rn i i1 (by omega)).1, (h.rn i i1 (by omega)).2.1⟩

end Go.Proofs.YtckgcpoheodbcaaDoor

