/-
  The program's tenure and the document's, side by side; begin.
-/
import Derived.Test.YtdcmpilgfkaamaaDoorU3
set_option linter.unusedVariables false
set_option maxRecDepth 20000
namespace Go.Proofs.YtdcmpilgfkaamaaDoor
open Go.RowKit

/-- A past of n thresholds f, the last ones of L. -/
structure Hs (f : Nat → Int) (n : Nat) (L : List Int) : Prop where
  n_ : n = min 16 L.length
  at_ : ∀ i, i < n → L[L.length - n + i]? = some (f i)

theorem Hs.step {f : Nat → Int} {n : Nat} {L : List Int} (h : Hs f n L) (x : Int) : Hs (wf f n x) (wn n) (L ++ [x]) := by
  have hn := h.n_
  by_cases h16 : n = 16
  · have hl : 16 ≤ L.length := by omega
    refine ⟨by simp [wn, h16]; omega, fun i hi => ?_⟩
    simp only [wn, h16, if_true] at hi ⊢
    simp only [wf, if_true, List.length_append, List.length_cons, List.length_nil]
    by_cases h15 : i = 15
    · subst h15
      rw [List.getElem?_append_right (by omega)]
      rw [show L.length + (0 + 1) - 16 + 15 - L.length = 0 by omega]
      simp
    · rw [List.getElem?_append_left (by omega), if_neg h15, ← h.at_ (i + 1) (by omega), h16]
      congr 1
      omega
  · have hl : n = L.length := by omega
    refine ⟨by simp [wn, h16]; omega, fun i hi => ?_⟩
    simp only [wn, h16, if_false] at hi ⊢
    simp only [wf, if_neg h16, List.length_append, List.length_cons, List.length_nil]
    rw [show L.length + (0 + 1) - (n + 1) + i = i by omega]
    by_cases hin : i = n
    · subst hin
      rw [List.getElem?_append_right (by omega), hl]
      simp
    · rw [List.getElem?_append_left (by omega), if_neg hin, ← h.at_ i (by omega)]
      congr 1
      omega

theorem Hs.last {f : Nat → Int} {n : Nat} {L : List Int} (h : Hs f n L) (h1 : 1 ≤ n) : L[L.length - 1]? = some (f (n - 1)) := by
  have hn := h.n_
  rw [← h.at_ (n - 1) (by omega)]
  congr 1
  omega

theorem Hs.list {f : Nat → Int} {n : Nat} {L : List Int} (h : Hs f n L) : (List.range n).map f = last16 L := by
  have hn := h.n_
  apply List.ext_getElem?
  intro i
  by_cases hi : i < n
  · rw [last16, List.getElem?_drop, List.getElem?_map, List.getElem?_range hi, show L.length - 16 + i = L.length - n + i by omega, h.at_ i hi]
    rfl
  · rw [List.getElem?_eq_none (by simp; omega), List.getElem?_eq_none (by simp [last16]; omega)]

theorem last16_length (L : List Int) (n : Nat) (h : n = min 16 L.length) : (last16 L).length = n := by simp [last16]; omega

/-- Both, side by side. -/
structure Pr (w : World) (base tb rb : Nat) (wa : Int) (mo : Nat) (L : List Int) (F : List Nat) : Prop where
  t : ∃ f n, Tn w tb wa mo f n ∧ Hs f n L
  r : Tr w base rb wa mo L F
  lo : base ≤ tb
  ap : tb ∉ F

theorem Pr.keep {w w' : World} {base tb rb : Nat} {wa : Int} {mo : Nat} {L : List Int} {F G : List Nat} (h : Pr w base tb rb wa mo L F) (ht : Touch G w w') (ha : Apart (tb :: F) G) : Pr w' base tb rb wa mo L F := by
  obtain ⟨f, n, h1, h2⟩ := h.t
  exact ⟨⟨f, n, h1.touch ht (ha tb (by simp)), h2⟩, h.r.keep ht (fun k hk => ha k (by simp [hk])), h.lo, h.ap⟩

theorem Pr.nil {w w' : World} {base tb rb : Nat} {wa : Int} {mo : Nat} {L : List Int} {F : List Nat} (h : Pr w base tb rb wa mo L F) (hb : Below w.heap.size w w') : Pr w' base tb rb wa mo L F := h.keep (Touch.of_below hb []) (fun k _ h => by cases h)

theorem Pr.mem {w : World} {base tb rb : Nat} {wa : Int} {mo : Nat} {L : List Int} {F : List Nat} (h : Pr w base tb rb wa mo L F) : ∀ k, k ∈ tb :: F → base ≤ k ∧ k < w.heap.size := by
  intro k hk
  rcases List.mem_cons.1 hk with rfl | hk
  · obtain ⟨f, n, h1, _⟩ := h.t
    exact ⟨h.lo, heap_lt h1.at_⟩
  · exact h.r.mem k hk

/-- What a Turn of both does: the answers x, e, all thresholds L' behind it. -/
structure Goes (w : World) (base tb rb : Nat) (wa : Int) (mo : Nat) (L : List Int) (F : List Nat) (ws : Nat → Int) (x e : Int) (L' : List Int) : Prop where
  t : Calls Tryd.prog 14 #[.pointer (some ⟨tb, 0, none⟩), .agg (av ws)] w fun ee w' => ee = .returned (.tuple #[.int .i64 x, .int .i64 e]) ∧ (∃ f n, Tn w' tb wa mo f n ∧ Hs f n L') ∧ Touch [tb] w w'
  r : ∀ w1, Tr w1 base rb wa mo L F → base ≤ w1.heap.size → Calls Tryd.prog 15 #[.pointer (some ⟨rb, 0, none⟩), .agg (av ws)] w1 fun ee w' => ee = .returned (.tuple #[.int .i64 x, .int .i64 e]) ∧ ∃ F', Tr w' base rb wa mo L' F' ∧ Touch F w1 w' ∧ Newer w1.heap.size F F'
  len : L'.length ≤ L.length + 1

theorem Pr.goes {w : World} {base tb rb : Nat} {wa : Int} {mo : Nat} {L : List Int} {F : List Nat} (h : Pr w base tb rb wa mo L F) (hlen : L.length < 1000000) (ws : Nat → Int) : ∃ x e L', Goes w base tb rb wa mo L F ws x e L' := by
  obtain ⟨f, n, h1, h2⟩ := h.t
  by_cases hw : Wk ws
  · obtain ⟨r, hr⟩ : ∃ r, IsNext wa mo ws r := by
      have := isnext_ex wa ws (mo - 1)
      rwa [show mo - 1 + 1 = mo by have := h1.m0; omega] at this
    refine ⟨r, 0, L ++ [(r : Int)], ?_, ?_, by simp⟩
    · refine (turn_is h1 ws hw r hr).mono ?_
      rintro e w' ⟨rfl, h3, h4⟩
      exact ⟨rfl, ⟨_, _, h3, h2.step r⟩, h4⟩
    · intro w1 h3 h4
      exact rturn_ok h3 h4 hlen ws hw r hr
  · refine ⟨0, 71, L, ?_, ?_, by omega⟩
    · refine (turn_bad _ w ws hw).mono ?_
      rintro e w' ⟨rfl, h3⟩
      exact ⟨rfl, ⟨_, _, h1.below h3, h2⟩, Touch.of_below h3 _⟩
    · intro w1 h3 h4
      refine (rturn_bad _ w1 ws hw).mono ?_
      rintro e w' ⟨rfl, h5⟩
      exact ⟨rfl, F, h3.nil h5, Touch.of_below h5 _, Newer.refl _ _⟩

set_option maxHeartbeats 4000000 in
theorem begin_no (s t m : Int) (h : ¬ May s t m) (w : World) :
    Calls Tryd.prog 4 #[.int .i64 s, .int .i64 t, .int .i64 m] w fun e w' => e = .returned (.tuple #[.pointer none, .pointer none, .bool true]) ∧ w = w' := by
  have h1 := new_no s t m h w
  have h2 := rnew_no s t m h w
  have h3 := num_any 70 w
  clear h
  go_enter Tryd.func4, Tryd.ntmps4
  go_wp2_with fail
  refine h1.mono ?_
  rintro e w' ⟨rfl, rfl⟩
  go_wp2_with fail
  refine h2.mono ?_
  rintro e w' ⟨rfl, rfl⟩
  go_wp2_with fail
  refine h3.mono ?_
  rintro e w' ⟨rfl, rfl⟩
  go_wp2
  go_ret3
  exact ⟨rfl, rfl⟩

set_option maxHeartbeats 4000000 in
theorem begin_yes (s t : Int) (m : Nat) (h : May s t m) (w : World) :
    Calls Tryd.prog 4 #[.int .i64 s, .int .i64 t, .int .i64 m] w fun e w' => ∃ tb rb F, e = .returned (.tuple #[.pointer (some ⟨tb, 0, none⟩), .pointer (some ⟨rb, 0, none⟩), .bool true]) ∧ Pr w' w.heap.size tb rb (wan s t) m [(m : Int)] F ∧ Below w.heap.size w w' := by
  have h1 := new_yes s t m h w
  have HM : Hid (May s t m) := h
  clear h
  go_enter Tryd.func4, Tryd.ntmps4
  go_wp2_with fail
  refine h1.mono ?_
  rintro e w1 ⟨rfl, ⟨f, hf, H⟩, hb⟩
  have h2 := rnew_yes s t m HM.out w1
  have HT : Hid (Tn w1 w.heap.size (wan s t) m f 1) := H
  have HB : Hid (Below w.heap.size w w1) := hb
  have HF : Hid (f 0 = m) := hf
  clear h1 H hb hf
  go_wp2_with fail
  refine h2.mono ?_
  rintro e w2 ⟨rb, F, rfl, HR, hb2⟩
  have HT2 : Hid (Tn w2 w.heap.size (wan s t) m f 1) := HT.out.below hb2
  have HB2 : Hid (Below w.heap.size w w2) := HB.out.trans (hb2.mono HB.out.size)
  have HR2 : Hid (Tr w2 w1.heap.size rb (wan s t) m [(m : Int)] F) := HR
  have HL : Hid (w.heap.size < w1.heap.size) := heap_lt HT.out.at_
  have h3 := num_any 0 w2
  have h4 := threshold_any HT2.out
  simp only [show (1 : Nat) - 1 = 0 from rfl, HF.out] at h4
  clear h2 HR hb2 HT HB
  go_wp2_with fail
  refine h3.mono ?_
  rintro e w' ⟨rfl, rfl⟩
  go_wp2_with fail
  refine h4.mono ?_
  rintro e w3 ⟨rfl, hb3⟩
  have HT3 : Hid (Tn w3 w.heap.size (wan s t) m f 1) := HT2.out.below hb3
  have HB3 : Hid (Below w.heap.size w w3) := HB2.out.trans (hb3.mono HB2.out.size)
  have HR3 : Hid (Tr w3 w1.heap.size rb (wan s t) m [(m : Int)] F) := HR2.out.nil hb3
  have h5 := rthreshold_any HR3.out m rfl (by simp)
  clear h3 h4 hb3 HT2 HR2 HB2
  go_wp2_with fail
  refine h5.mono ?_
  rintro e w4 ⟨rfl, hb4⟩
  have HT4 : Hid (Tn w4 w.heap.size (wan s t) m f 1) := HT3.out.below hb4
  have HB4 : Hid (Below w.heap.size w w4) := HB3.out.trans (hb4.mono HB3.out.size)
  have HR4 : Hid (Tr w4 w1.heap.size rb (wan s t) m [(m : Int)] F) := HR3.out.nil hb4
  clear hb4 h5 HT3 HR3 HB3
  go_wp2
  go_ret3
  refine ⟨w.heap.size, rb, F, rfl, ⟨⟨f, 1, HT4.out, ⟨rfl, fun i hi => ?_⟩⟩, ?_, Nat.le_refl _, fun hm => ?_⟩, HB4.out⟩
  · obtain rfl : i = 0 := by omega
    simp [HF.out]
  · obtain ⟨v, hh, hbb, hr, hF⟩ := HR4.out.row
    have := HL.out
    exact ⟨⟨v, hh, by omega, row_base hr (by omega), hF⟩, HR4.out.w0, HR4.out.w1, HR4.out.m0, HR4.out.m1, HR4.out.l0⟩
  · have := (HR4.out.mem _ hm).1
    have := HL.out
    omega

end Go.Proofs.YtdcmpilgfkaamaaDoor
