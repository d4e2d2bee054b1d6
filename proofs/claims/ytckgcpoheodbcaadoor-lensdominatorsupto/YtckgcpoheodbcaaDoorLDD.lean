/-
  Dominators: the program's Dominators.
-/
import Derived.Test.YtckgcpoheodbcaaDoorDR6
set_option linter.unusedVariables false
set_option maxRecDepth 20000
namespace Go.Proofs.YtckgcpoheodbcaaDoor
open Go.RowKit Go.Shelf Go.Proofs.YtckgcpoheodbcaaDoor.Lt

theorem wys_of {g : Im.Gr} (hm : MB g) {w : World} {n1 m : Nat} {v : Value} {rs : List Value} (h0 : 1 ≤ m) (hr : w.ownsRow n1 24 1 v m rs) (hW : Wrd w.heap.size w g rs) : Wys w.heap.size w v m (wz17 g) := by
  have hl : rs.length = m := by have := hr.1; omega
  obtain ⟨a, cap, e, -, hc⟩ := row_at (Kg.row_base hr (Nat.zero_le _)) (by decide)
  obtain ⟨u0, hu0⟩ : ∃ u, rs[0]? = some u := ⟨_, List.getElem?_eq_getElem (by omega)⟩
  obtain ⟨q, hq1, hq2, -⟩ := hc 0 u0 hu0
  subst hq1
  refine ⟨q, cap, e, hq2, fun i hi => ?_⟩
  obtain ⟨u, hu⟩ : ∃ u, rs[i]? = some u := ⟨_, List.getElem?_eq_getElem (by omega)⟩
  obtain ⟨q', h1, h2, h3⟩ := hc i u hu
  cases h1
  refine ⟨u, h3, ?_⟩
  rw [← wz_rw hm]
  exact hW i u hu

theorem tree_field (a b : Option Addr) (n c m d : Nat) (w : World) : (Instr.field 53 (.agg #[.slice a n c, .slice b m d]) 1).run Tryd.prog w = .ok (.slice b m d) w := by kernel_rfl

set_option maxHeartbeats 4000000 in
theorem lDominators_any (n0 : Nat) (w : World) (vo vs vh vr vq : Value) (os : List OL) (ts : List (Value × List (Value × List Int))) (g : Im.Gr) (hg : Grd n0 w vo vs vh vr vq os ts g) (hn : n0 ≤ w.heap.size) (hL : Laid w) (hb : Big18 os ts g) :
    Calls Tryd.prog 5 #[.agg (gcs vo vs vh vr vq g.next)] w fun e w' => ∃ (v : Value) (l : List Int) (er : Int), e = .returned (.tuple #[v, .int .i64 er]) ∧ Lrd w'.heap.size w' v .i64 l ∧ Below w.heap.size w w' ∧ Pd17 g l er := by
  have hol : Hid (g.obs.length = os.length) := by show _ = _; rw [hg.eo, List.length_map]
  have l1 : Below w.heap.size w (w.alloc (.cells (gcs vo vs vh vr vq g.next) 27)) := Below.alloc (Below.refl _ _) (Nat.le_refl _) _
  have hx := heap_alloc_new w (.cells (gcs vo vs vh vr vq g.next) 27 (0, 0))
  obtain ⟨oa, oc, eo, -⟩ := id hg.ob
  subst eo
  generalize hW : w.alloc (.cells (gcs (.slice oa os.length oc) vs vh vr vq g.next) 27) = W at *
  have HL1 : Hid (Below w.heap.size w W) := l1
  have HG : Hid (∀ w', Below W.heap.size W w' → w'.heap[w.heap.size]? = some (.cells (gcs (.slice oa os.length oc) vs vh vr vq g.next) 27 (0, 0)) ∧ Below w.heap.size w w' ∧ Grd n0 w' (.slice oa os.length oc) vs vh vr vq os ts g) := fun w' b' => ⟨(b'.block _ (Kg.heap_lt hx)).trans hx, l1.trans (b'.mono l1.size), hg.below ((l1.trans (b'.mono l1.size)).mono hn)⟩
  have q := mayBe_any n0 W (.slice oa os.length oc) vs vh vr vq os ts g (hg.below (l1.mono hn)) (Nat.le_trans hn l1.size) (hL.keep l1) hb.l
  have y0 : W.cell? ⟨w.heap.size, 0, none⟩ = some (.slice oa os.length oc) := Kg.heap_cell hx 0
  have y1 : W.cell? ⟨w.heap.size, 1, none⟩ = some vs := Kg.heap_cell hx 1
  have y2 : W.cell? ⟨w.heap.size, 2, none⟩ = some vh := Kg.heap_cell hx 2
  have y3 : W.cell? ⟨w.heap.size, 3, none⟩ = some vr := Kg.heap_cell hx 3
  have y4 : W.cell? ⟨w.heap.size, 4, none⟩ = some vq := Kg.heap_cell hx 4
  have y5 : W.cell? ⟨w.heap.size, 5, none⟩ = some (.int .u64 (g.next : Int)) := Kg.heap_cell hx 5
  have HBg : Hid (Big18 os ts g) := hb
  have HEO : Hid (g.obs = os.map (·.o)) := hg.eo
  clear hg hx l1 hL hb
  go_enter Tryd.func5, Tryd.ntmps5
  go_wp2_with fail
  refine q.mono ?_
  rintro e w1 ⟨r, rfl, b1, hr⟩
  have HB1 : Hid (Below W.heap.size W w1) := b1
  have HR : Hid (r = true ↔ MB g) := hr
  clear q b1 hr y0 y1 y2 y3 y4 y5
  cases r with
  | false =>
    have hm : ¬ MB g := fun h => by have := HR.out.2 h; cases this
    have HM : Hid (¬ MB g) := hm
    have HBo := HG.out w1 HB1.out
    have HB2 : Hid (Below w.heap.size w w1) := HBo.2.1
    clear hm HBo
    go_wp2
    go_ret2
    exact ⟨_, [], 171, rfl, Il.lrd (base := 0) (World.ownsRow_nil _ _ _ _), HB2.out, .inl ⟨HM.out, rfl, rfl⟩⟩
  | true =>
    have HM : Hid (MB g) := HR.out.1 rfl
    have HB2 : Hid (Below w.heap.size w w1) := (HG.out w1 HB1.out).2.1
    have hoI := HBg.out.o
    have q := waysOf_any n0 w1 _ vs vh vr vq os ts g (HG.out w1 HB1.out).2.2 (Nat.le_trans (Nat.le_trans hn HL1.out.size) HB1.out.size) HM.out (by omega) HBg.out.s (by have := HBg.out.e; rw [List.length_append]; omega)
    have y0 : w1.cell? ⟨w.heap.size, 0, none⟩ = some (.slice oa os.length oc) := Kg.heap_cell (HG.out w1 HB1.out).1 0
    have y1 : w1.cell? ⟨w.heap.size, 1, none⟩ = some vs := Kg.heap_cell (HG.out w1 HB1.out).1 1
    have y2 : w1.cell? ⟨w.heap.size, 2, none⟩ = some vh := Kg.heap_cell (HG.out w1 HB1.out).1 2
    have y3 : w1.cell? ⟨w.heap.size, 3, none⟩ = some vr := Kg.heap_cell (HG.out w1 HB1.out).1 3
    have y4 : w1.cell? ⟨w.heap.size, 4, none⟩ = some vq := Kg.heap_cell (HG.out w1 HB1.out).1 4
    have y5 : w1.cell? ⟨w.heap.size, 5, none⟩ = some (.int .u64 (g.next : Int)) := Kg.heap_cell (HG.out w1 HB1.out).1 5
    go_wp2_with fail
    refine q.mono ?_
    rintro e w2 ⟨vw, rs, rfl, r2, hw2, b2⟩
    have HB3 : Hid (Below w.heap.size w w2) := HB2.out.trans (b2.mono HB2.out.size)
    obtain ⟨m, hmm⟩ : ∃ m, m = os.length + 1 := ⟨_, rfl⟩
    have HMM : Hid (m = g.obs.length + 1) := by show _ = _; rw [hmm, hol.out]
    rw [← hmm] at r2
    have q1 : 1 ≤ m := by omega
    have q2 : m ≤ 2000000 := by omega
    have q3 : ∀ i, i < m → ∀ y, y ∈ wz17 g i → y < m := fun i _ y hy => by have := wz_lt HM.out i y hy; rw [HMM.out]; exact this
    have q4 : ((List.range m).map (fun a => (wz17 g a).length)).sum ≤ 1000000000 := by rw [hmm]; exact wz_sum HBg.out HEO.out
    have q5 : Wys w2.heap.size w2 vw m (wz17 g) := wys_of HM.out q1 r2 hw2
    obtain ⟨T, hT⟩ : ∃ T, T = 1000000000 := ⟨_, rfl⟩
    rw [← hT] at q4
    have q := treeOf_any w2.heap.size m T (by omega) q1 q2 (wz17 g) q3 q4 vw w2 q5 (Nat.le_refl _)
    clear q3 q4 q5 hT hmm
    obtain ⟨aw, cw, rfl⟩ := own_sl17 r2
    clear r2 hw2 b2 y0 y1 y2 y3 y4 y5
    go_wp2_with fail
    refine q.mono ?_
    rintro e w3 ⟨v0, ab, rfl, hab, b3, ord, f, hI, hF, hT⟩
    obtain ⟨a0, c0, e0⟩ := own_sl17 hI
    subst e0
    have HE : Hid (Below w.heap.size w w3) := HB3.out.trans (b3.mono HB3.out.size)
    have HF : Hid (Fy w3 ab m f) := hF
    have HDm : Hid (Dm17 g ((List.range' 1 g.obs.length).map f)) := hT.dm HM.out HMM.out
    clear q hab b3 hF hT hI
    have hm1 : 1 ≤ m := by omega
    have hfl := tree_field a0 (some ⟨ab, 0, none⟩) ord.length c0 m m
    have HLen : Hid (((List.range' 1 g.obs.length).map f).length = m - 1) := by
      show _ = _
      rw [List.length_map, List.length_range', HMM.out]
      omega
    have HLr : Hid (Lrd w3.heap.size w3 (.slice (some ⟨ab, 1, none⟩) (m - 1) (m - 1)) .i64 ((List.range' 1 g.obs.length).map f)) := by
      refine ⟨some ⟨ab, 1, none⟩, m - 1, by rw [HLen.out], by rw [HLen.out]; exact Nat.le_refl _, fun i z hz => ?_⟩
      have hi := (List.getElem?_eq_some_iff.1 hz).1
      rw [HLen.out] at hi
      rw [List.getElem?_map, List.getElem?_range' (by have := HMM.out; omega)] at hz
      simp only [Option.map_some, Option.some.injEq] at hz
      refine ⟨ab, 1, rfl, HF.out.lt, ?_⟩
      have h9 := HF.out.cell (x := 1 + i) (by omega)
      rw [h9, ← hz]
      simp
    by_cases hm9 : m = 1
    · have HL0 : Hid (Lrd w3.heap.size w3 (.slice (some ⟨ab, 0, none⟩) 0 0) .i64 ((List.range' 1 g.obs.length).map f)) := by
        have e : (List.range' 1 g.obs.length).map f = [] := List.eq_nil_of_length_eq_zero (by rw [HLen.out, hm9])
        show Lrd _ _ _ _ _
        rw [e]
        exact ⟨some ⟨ab, 0, none⟩, 0, rfl, Nat.le_refl _, fun i z hz => by simp at hz⟩
      subst hm9
      go_wp2
      go_ret2
      exact ⟨_, _, 0, rfl, HL0.out, HE.out, .inr ⟨HM.out, rfl, HDm.out⟩⟩
    · go_wp2
      go_ret2
      exact ⟨_, _, 0, rfl, HLr.out, HE.out, .inr ⟨HM.out, rfl, HDm.out⟩⟩

end Go.Proofs.YtckgcpoheodbcaaDoor
