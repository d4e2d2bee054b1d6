/-
  Growth by site: growths that are the same; the sites there are.
-/
import Derived.Test.YtckcdahjajmddaaLG8
set_option linter.unusedVariables false
set_option maxRecDepth 20000
namespace Go.Proofs.Ytckcdahjajmddaa
open Go.RowKit Go.Maps Go.Sort Go.Shelf

theorem rise_of : ∀ s : List Int, ∃ cs : List Int, cs.Pairwise (· < ·) ∧ ∀ x, x ∈ cs ↔ x ∈ s
  | [] => ⟨[], List.Pairwise.nil, fun x => Iff.rfl⟩
  | y :: s => by
    obtain ⟨cs, h1, h2⟩ := rise_of s
    refine ⟨cs.filter (fun z => decide (z < y)) ++ y :: cs.filter (fun z => decide (y < z)), List.pairwise_append.2 ⟨h1.filter _, List.pairwise_cons.2 ⟨fun z hz => ?_, h1.filter _⟩, fun z hz t ht => ?_⟩, fun x => ?_⟩
    · have := (List.mem_filter.1 hz).2
      simpa using this
    · have h3 := (List.mem_filter.1 hz).2
      simp only [decide_eq_true_eq] at h3
      rcases List.mem_cons.1 ht with rfl | ht
      · exact h3
      · have h4 := (List.mem_filter.1 ht).2
        simp only [decide_eq_true_eq] at h4
        omega
    · rw [List.mem_append, List.mem_cons, List.mem_filter, List.mem_filter, List.mem_cons, h2]
      simp only [decide_eq_true_eq]
      constructor
      · rintro (⟨h, -⟩ | h | ⟨h, -⟩)
        · exact .inr h
        · exact .inl h
        · exact .inr h
      · rintro (h | h)
        · exact .inr (.inl h)
        · rcases Int.lt_trichotomy x y with h5 | h5 | h5
          · exact .inl ⟨h, h5⟩
          · exact .inr (.inl h5)
          · exact .inr (.inr ⟨h, h5⟩)

theorem rise_ex (l : List (Int × Nat)) : ∃ cs, Rise l cs := by
  obtain ⟨cs, h1, h2⟩ := rise_of (l.map (·.1))
  refine ⟨cs, h1, fun x => ?_⟩
  rw [h2, Lg.at_iff, List.mem_map]

theorem sites_ex (b a : List (Int × Nat)) : ∃ rs, Sites b a rs := by
  obtain ⟨cs, hc⟩ := rise_ex (b ++ a)
  exact ⟨cs, hc.r, fun x => by rw [hc.m x]; unfold Lg.at'; rw [List.any_append]⟩

theorem gcl_at : ∀ (l : List (Int × Int × Int)) (i : Nat) (x : Int × Int × Int), l[i]? = some x → (gcl l)[i * 3]? = some (.int .i64 x.1) ∧ (gcl l)[i * 3 + 1]? = some (.int .i64 x.2.1) ∧ (gcl l)[i * 3 + 2]? = some (.int .i64 x.2.2)
  | [], i, x, h => by simp at h
  | y :: l, 0, x, h => by
    simp at h
    subst h
    exact ⟨rfl, rfl, rfl⟩
  | y :: l, i + 1, x, h => by
    have e : gcl (y :: l) = [.int .i64 y.1, .int .i64 y.2.1, .int .i64 y.2.2] ++ gcl l := rfl
    obtain ⟨h1, h2, h3⟩ := gcl_at l i x (by simpa using h)
    refine ⟨?_, ?_, ?_⟩
    · rw [e, List.getElem?_append_right (by simp; omega)]
      have : (i + 1) * 3 - 3 = i * 3 := by omega
      simpa [this] using h1
    · rw [e, List.getElem?_append_right (by simp; omega)]
      have : (i + 1) * 3 + 1 - 3 = i * 3 + 1 := by omega
      simpa [this] using h2
    · rw [e, List.getElem?_append_right (by simp; omega)]
      have : (i + 1) * 3 + 2 - 3 = i * 3 + 2 := by omega
      simpa [this] using h3

set_option maxHeartbeats 4000000 in
theorem sameGrown_yes (w : World) (b1 b2 : Nat) (v u : Value) (l : List (Int × Int × Int)) (hv : Gl w b1 v l) (hu : Gl w b2 u l) (hl : l.length ≤ 1000000000000) :
    Calls Try.prog 9 #[v, u] w fun e w' => e = .returned (.bool true) ∧ Below w.heap.size w w' := by
  have HF : ∀ (b : Nat) (v : Value), Gl w b v l → ∃ a c, v = .slice a l.length c ∧ ∀ (i : Nat) x, l[i]? = some x → ∃ q, a = some ⟨q, 0, none⟩ ∧ q < w.heap.size ∧ w.cell? ⟨q, i * 3, none⟩ = some (.int .i64 x.1) ∧ w.cell? ⟨q, i * 3 + 1, none⟩ = some (.int .i64 x.2.1) ∧ w.cell? ⟨q, i * 3 + 2, none⟩ = some (.int .i64 x.2.2) := fun b v h => by
    obtain ⟨a, c, rfl⟩ := own_slI h
    refine ⟨a, c, rfl, fun i x hx => ?_⟩
    obtain ⟨a', cap', h1, h2, h3⟩ := row_at (Kg.row_base h (Nat.zero_le _)) (by decide)
    cases h1
    obtain ⟨e1, e2, e3⟩ := gcl_at l i x hx
    obtain ⟨q, k1, k2, k3⟩ := h3 (i * 3) _ e1
    obtain ⟨q', k1', k2', k3'⟩ := h3 (i * 3 + 1) _ e2
    obtain ⟨q'', k1'', k2'', k3''⟩ := h3 (i * 3 + 2) _ e3
    rw [k1] at k1' k1''
    cases k1'
    cases k1''
    exact ⟨q, k1, k2, k3, k3', k3''⟩
  obtain ⟨a1, c1, rfl, h1⟩ := HF b1 v hv
  obtain ⟨a2, c2, rfl, h2⟩ := HF b2 u hu
  have H1 : Hid (∀ (i : Nat) x, l[i]? = some x → ∃ q, a1 = some ⟨q, 0, none⟩ ∧ q < w.heap.size ∧ w.cell? ⟨q, i * 3, none⟩ = some (.int .i64 x.1) ∧ w.cell? ⟨q, i * 3 + 1, none⟩ = some (.int .i64 x.2.1) ∧ w.cell? ⟨q, i * 3 + 2, none⟩ = some (.int .i64 x.2.2)) := h1
  have H2 : Hid (∀ (i : Nat) x, l[i]? = some x → ∃ q, a2 = some ⟨q, 0, none⟩ ∧ q < w.heap.size ∧ w.cell? ⟨q, i * 3, none⟩ = some (.int .i64 x.1) ∧ w.cell? ⟨q, i * 3 + 1, none⟩ = some (.int .i64 x.2.1) ∧ w.cell? ⟨q, i * 3 + 2, none⟩ = some (.int .i64 x.2.2)) := h2
  clear HF hv hu h1 h2
  go_enter Try.func9, Try.ntmps9
  go_wp2
  go_loopw [5] (fun v5 wr => ∃ i : Nat, i ≤ l.length ∧ v5 = .int .i64 i ∧ Hid (Below w.heap.size w wr)) (fun v5 _ => l.length - (intOf v5).toNat)
  case atStart => exact ⟨0, Nat.zero_le _, rfl, Below.refl _ _⟩
  case round =>
    obtain ⟨i, hi, rfl, HB⟩ := hrel
    by_cases hil : i < l.length
    · have hiI : (i : Int) < (l.length : Int) := by omega
      have hz : l[i]? = some (l[i]'hil) := List.getElem?_eq_getElem hil
      generalize l[i]'hil = x at hz
      obtain ⟨q1, rfl, hq1, d0, d1, d2⟩ := H1.out i x hz
      obtain ⟨q2, rfl, hq2, e0, e1, e2⟩ := H2.out i x hz
      go_upto_region 6 with fail
      haveI hinh : Inhabited (Kg.Bel wr) := ⟨⟨wr, Below.refl _ _⟩⟩
      have tr : ∀ (u : Kg.Bel wr) (q j : Nat), q < w.heap.size → u.v.cell? ⟨q, j, none⟩ = w.cell? ⟨q, j, none⟩ := fun u q j hq => (u.h.cell (p := ⟨q, j, none⟩) (Nat.lt_of_lt_of_le hq HB.out.size)).trans (HB.out.cell (p := ⟨q, j, none⟩) hq)
      have z0 : ∀ u : Kg.Bel wr, u.v.cell? ⟨q1, i * 3, none⟩ = some (.int .i64 x.1) := fun u => (tr u _ _ hq1).trans d0
      have z1 : ∀ u : Kg.Bel wr, u.v.cell? ⟨q1, i * 3 + 1, none⟩ = some (.int .i64 x.2.1) := fun u => (tr u _ _ hq1).trans d1
      have z2 : ∀ u : Kg.Bel wr, u.v.cell? ⟨q1, i * 3 + 2, none⟩ = some (.int .i64 x.2.2) := fun u => (tr u _ _ hq1).trans d2
      have y0 : ∀ u : Kg.Bel wr, u.v.cell? ⟨q2, i * 3, none⟩ = some (.int .i64 x.1) := fun u => (tr u _ _ hq2).trans e0
      have y1 : ∀ u : Kg.Bel wr, u.v.cell? ⟨q2, i * 3 + 1, none⟩ = some (.int .i64 x.2.1) := fun u => (tr u _ _ hq2).trans e1
      have y2 : ∀ u : Kg.Bel wr, u.v.cell? ⟨q2, i * 3 + 2, none⟩ = some (.int .i64 x.2.2) := fun u => (tr u _ _ hq2).trans e2
      clear tr d0 d1 d2 e0 e1 e2
      refine Kg.region_below Kg.mixed (by kernel_rfl) ?_
      repeat (go_big_quiet_step (fail))
      refine wpQuiet_nil ?_
      rintro w5 ⟨⟨w5, b5⟩, rfl⟩
      have H5 : Hid (Below w.heap.size w w5) := HB.out.trans (b5.mono HB.out.size)
      clear z0 z1 z2 y0 y1 y2 hinh b5
      go_wp2
      go_roundw
      case rel => exact ⟨i + 1, by omega, by go_num, H5⟩
      case measure => simp [intOf]; omega
    · have hiI : ¬ (i : Int) < (l.length : Int) := by omega
      go_wp2
      go_ret
      exact ⟨rfl, HB.out⟩

end Go.Proofs.Ytckcdahjajmddaa
