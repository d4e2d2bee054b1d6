import Derived.Test.YtkekaifiahjljaaGreatDoorC14
import Derived.Test.YtkekaifiahjljaaGreatDoorC39
import Derived.Test.YtkekaifiahjljaaGreatDoorC27
import Derived.Test.YtkekaifiahjljaaGreatDoorC38
set_option linter.unusedVariables false
set_option maxHeartbeats 8000000
set_option maxRecDepth 20000
namespace Go.Proofs.YtkekaifiahjljaaGreatDoor.Lt
theorem Gt.gthle {W : Nat → List Nat} {ord : List Nat} {F : Nat → Nat} (h : Gt W ord F) (w : Nat → Nat) (l pre : List Nat) (hp : pre ++ l = ord) (x : Nat) : Lt.gth w F l x ≤ (ord.map w).sum := by
  by_cases hx : x ∈ ord
  · have h1 := h.gth w l pre hp x
    have h2 := h.sum w hx
    have h3 := sm_le (w := w) (p := Dn W x) ord
    have h4 : ((l.filter (fun c => decide (c ≠ 0 ∧ F c = x))).map (fun c => sm w (Dn W c) ord)).sum ≤ ((below ord F x).map (fun c => sm w (Dn W c) ord)).sum := by
      unfold below
      rw [← hp, List.filter_append, List.map_append, List.sum_append]
      omega
    have h5 : (if x ∈ l then w x else 0) ≤ w x := by split <;> omega
    omega
  · have h1 := h.gth w l pre hp x
    have h2 : l.filter (fun c => decide (c ≠ 0 ∧ F c = x)) = [] := by
      rw [List.filter_eq_nil_iff]
      intro c hc hk
      obtain ⟨a, b⟩ := of_decide_eq_true hk
      exact hx (by rw [← b]; exact (h.fx (by rw [← hp]; exact List.mem_append_right _ hc) a).2.1)
    rw [h2, if_neg (fun k => hx (by rw [← hp]; exact List.mem_append_right _ k))] at h1
    rw [h1]
    exact Nat.zero_le _
end Go.Proofs.YtkekaifiahjljaaGreatDoor.Lt
namespace Go.Proofs.YtkekaifiahjljaaGreatDoor
open Go.RowKit Go.Shelf Go.Proofs.YtkekaifiahjljaaGreatDoor.Lt
attribute [local go_sem] Oper.semAt_some
structure Gh (w : World) (wd F : Nat → Nat) (ord : List Nat) (A D C m ab : Nat) (v0 vw : Value) (S : Nat → Prop) (pre : List (Nat × Int)) (W : World) : Prop where
  a : W.heap[A]? = some (.cells #[v0, .slice (some ⟨ab, 0, none⟩) m m] 72 (0, 0))
  b : W.heap[A + 1]? = some (.cells #[vw] 24 (0, 0))
  d : W.heap[D]? = some (.cells #[.slice (some ⟨C, 0, none⟩) m m] 24 (0, 0))
  f : Fy W C m (fun x => (gth wd F (ord.drop (ord.length - pre.length)) x : Nat))
  off : ¬ S C
  lt : ∀ k, S k → k < W.heap.size
  bel : Below w.heap.size w W
theorem gh_own {w : World} {wd F : Nat → Nat} {ord : List Nat} {A D C m ab : Nat} {v0 vw : Value} (B : Nat) (hA : A + 1 < B) (hD : D < B) (hC : C < B) (hB : w.heap.size ≤ B) : Kg.OwnS B (Gh w wd F ord A D C m ab v0 vw) := by
  intro S s W W' row h hg hr
  have keep : ∀ k o, k < B → W.heap[k]? = some o → W'.heap[k]? = some o := fun k o hk ho => (hg.block k (Array.getElem?_eq_some_iff.1 ho).1 (fun e => by have := (hr k e.symm).1; omega)).trans ho
  obtain ⟨cs, f1, f2, f3⟩ := h.f.ex
  refine ⟨keep _ _ (by omega) h.a, keep _ _ hA h.b, keep _ _ hD h.d, ⟨cs, keep _ _ hC f1, f2, f3⟩, fun hs => ?_, fun k hk => ?_, h.bel.grown hg h.bel.size (fun r e => by have := (hr r e).1; omega)⟩
  · rcases hs with h1 | h1
    · exact h.off h1
    · have := Kg.heap_lt f1
      omega
  · have hsz : W.heap.size ≤ W'.heap.size := hg.size
    rcases hk with h1 | h1
    · have := h.lt k h1
      omega
    · exact h1.2
def goesOnC (w : World) (wd F : Nat → Nat) (ord : List Nat) (A D C m ab : Nat) (v0 vw : Value) (S : Nat → Prop) (xs : List (Nat × Int)) (W W' : World) : Prop :=
  (∀ k, S k → W'.heap[k]? = W.heap[k]?) ∧ Below w.heap.size W W' ∧ Gh w wd F ord A D C m ab v0 vw S xs W'
set_option maxHeartbeats 16000000 in
theorem gathered_any (n1 : Nat) (w : World) (Wx : Nat → List Nat) (wd F : Nat → Nat) (ord : List Nat) (m ab : Nat) (f : Nat → Int) (v0 vw : Value) (B : Nat) (hg : Gt Wx ord F) (ho : Il w B v0 (ord.map Int.ofNat)) (hf : Fy w ab m f) (hF : ∀ x, x ∈ ord → x ≠ 0 → f x = (F x : Nat)) (hFm : ∀ x, x ∈ ord → x ≠ 0 → F x < m) (hom : ∀ y, y ∈ ord → y < m) (hw : Lrd n1 w vw .i64 ((List.range m).map (fun x => (wd x : Int)))) (hn1 : n1 ≤ w.heap.size) (hwd : ∀ x, wd x ≤ 2000000) (hm : m ≤ 2000000) (hol : ord.length ≤ 2000000) :
    Calls Tryz.prog 71 #[.agg #[v0, .slice (some ⟨ab, 0, none⟩) m m], vw] w fun e w' => ∃ C, e = .returned (.slice (some ⟨C, 0, none⟩) m m) ∧ w.heap.size ≤ C ∧ Fy w' C m (fun x => (gth wd F ord x : Nat)) ∧ Below w.heap.size w w' := by
  have h0o : 0 ∈ ord := List.mem_of_getElem? hg.z
  have h0m := hom 0 h0o
  obtain ⟨wa, wc, ew, -, hwc⟩ := hw
  rw [List.length_map, List.length_range] at ew
  subst ew
  obtain ⟨wq, off, rfl, hwq, -⟩ := hwc 0 (wd 0 : Int) (by rw [List.getElem?_map, List.getElem?_range h0m]; rfl)
  have HWC : Hid (∀ W', Below w.heap.size w W' → ∀ x, x < m → W'.cell? ⟨wq, off + x, none⟩ = some (.int .i64 (wd x : Nat))) := fun W' b x hx => by
    obtain ⟨q', off', e1, e2, e3⟩ := hwc x (wd x : Int) (by rw [List.getElem?_map, List.getElem?_range hx]; rfl)
    cases e1
    exact (b.cell (p := ⟨wq, off + x, none⟩) (Nat.lt_of_lt_of_le e2 hn1)).trans e3
  have HAB : Hid (∀ W', Below w.heap.size w W' → Fy W' ab m f) := fun W' b => hf.touch (Kg.Touch.of_below b []) (List.not_mem_nil)
  have hol0 : ord ≠ [] := fun e => by rw [e] at h0o; cases h0o
  obtain ⟨oq, oc, rfl, hoq, hof⟩ := Il.fy ho (by simpa using hol0) (f := fun x => ((ord[x]?).getD 0 : Nat)) (fun x z hz => by
    rw [List.getElem?_map, Option.map_eq_some_iff] at hz
    obtain ⟨y, hy, rfl⟩ := hz
    simp [hy])
  have HG : Hid (Gt Wx ord F) := hg
  have HF : Hid (∀ x, x ∈ ord → x ≠ 0 → f x = (F x : Nat)) := hF
  have HFm : Hid (∀ x, x ∈ ord → x ≠ 0 → F x < m) := hFm
  have HOm : Hid (∀ y, y ∈ ord → y < m) := hom
  have HWd : Hid ((ord.map wd).sum ≤ 4000000000000) := by
    have h1 : ∀ l : List Nat, (l.map wd).sum ≤ l.length * 2000000 := fun l => by
      induction l with
      | nil => exact Nat.zero_le _
      | cons x r ih =>
        rw [List.map_cons, List.sum_cons, List.length_cons, Nat.succ_mul]
        have := hwd x
        omega
    have h2 := h1 ord
    have h3 : ord.length * 2000000 ≤ 2000000 * 2000000 := Nat.mul_le_mul_right _ hol
    show _ ≤ _
    omega
  have hofl := hof.lt
  have hofc : ∀ (j : Nat) z, (ord.map Int.ofNat)[j]? = some z → w.cell? ⟨oq, 0 + j, none⟩ = some (.int .i64 z) := fun j z hz => by
    have hj := (List.getElem?_eq_some_iff.1 hz).1
    have h9 := hof.cell hj
    rw [List.getElem?_map, Option.map_eq_some_iff] at hz
    obtain ⟨y, hy, rfl⟩ := hz
    rw [Nat.zero_add, h9, hy]
    rfl
  have HOc : Hid (∀ (j : Nat) z, (ord.map Int.ofNat)[j]? = some z → w.cell? ⟨oq, 0 + j, none⟩ = some (.int .i64 z)) := hofc
  rw [List.length_map]
  clear hg hF hFm hom ho hf hwc h0o hol0 hwd hof hofc
  have mkT := make_ints17 m (by omega)
  refine (callsIn_wide (n := 9)).1 ?_
  refine callsIn_of_wp_marks Tryz.func71 rfl trivial ?_ rfl
  simp only [Tryz.ntmps71, List.size_toArray, List.length_cons, List.length_nil, Nat.reduceAdd, Nat.reduceSub, Array.replicate_succ, Array.replicate_zero, List.push_toArray, List.append_toArray, List.nil_append, List.cons_append]
  gi_wp2
  obtain ⟨A, hA⟩ : ∃ A, A = w.heap.size := ⟨_, rfl⟩
  obtain ⟨W4, hW4⟩ : ∃ W4, W4 = ((((w.alloc (.cells #[.slice (some ⟨oq, 0, none⟩) ord.length oc, .slice (some ⟨ab, 0, none⟩) m m] 72)).alloc (.cells #[.slice (some ⟨wq, off, none⟩) m wc] 24)).alloc (.cells (madeCells #[.int .i64 0] m) 3)).alloc (.cells #[.slice (some ⟨w.heap.size + 1 + 1, 0, none⟩) m m] 24)) := ⟨_, rfl⟩
  rw [← hW4, ← hA]
  have hsz : W4.heap.size = A + 4 := by rw [hW4, hA]; simp
  have b4 : Below w.heap.size w W4 := by rw [hW4]; exact (((Below.alloc (Below.refl _ _) (Nat.le_refl _) _).alloc (by simp) _).alloc (by simp; omega) _).alloc (by simp; omega) _
  have e1 : W4.heap[A]? = some (.cells #[.slice (some ⟨oq, 0, none⟩) ord.length oc, .slice (some ⟨ab, 0, none⟩) m m] 72 (0, 0)) := by
    rw [hW4, hA]
    exact (Below.heap_alloc _ _ _ (by simp; omega)).trans ((Below.heap_alloc _ _ _ (by simp; omega)).trans ((Below.heap_alloc _ _ _ (by simp)).trans (heap_alloc_new w _)))
  have e2 : W4.heap[A + 1]? = some (.cells #[.slice (some ⟨wq, off, none⟩) m wc] 24 (0, 0)) := by
    have h9 := heap_alloc_new (w.alloc (.cells #[.slice (some ⟨oq, 0, none⟩) ord.length oc, .slice (some ⟨ab, 0, none⟩) m m] 72)) (.cells #[.slice (some ⟨wq, off, none⟩) m wc] 24 (0, 0))
    rw [World.size_alloc] at h9
    rw [hW4, hA]
    exact (Below.heap_alloc _ _ _ (by simp)).trans ((Below.heap_alloc _ _ _ (by simp)).trans h9)
  have e3 : Fy W4 (A + 1 + 1) m (fun _ => ((0 : Nat) : Int)) := by
    obtain ⟨cs, f1, f2, f3⟩ := (Fw.new ((w.alloc (.cells #[.slice (some ⟨oq, 0, none⟩) ord.length oc, .slice (some ⟨ab, 0, none⟩) m m] 72)).alloc (.cells #[.slice (some ⟨wq, off, none⟩) m wc] 24)) m).ex
    rw [World.size_alloc, World.size_alloc] at f1
    refine ⟨cs, ?_, by omega, f3⟩
    rw [hW4, hA]
    exact (Below.heap_alloc _ _ _ (by simp)).trans f1
  have e4 : W4.heap[A + 1 + 1 + 1]? = some (.cells #[.slice (some ⟨A + 1 + 1, 0, none⟩) m m] 24 (0, 0)) := by
    have h9 := heap_alloc_new (((w.alloc (.cells #[.slice (some ⟨oq, 0, none⟩) ord.length oc, .slice (some ⟨ab, 0, none⟩) m m] 72)).alloc (.cells #[.slice (some ⟨wq, off, none⟩) m wc] 24)).alloc (.cells (madeCells #[.int .i64 0] m) 3)) (.cells #[.slice (some ⟨w.heap.size + 1 + 1, 0, none⟩) m m] 24 (0, 0))
    rw [World.size_alloc, World.size_alloc, World.size_alloc] at h9
    rw [hW4, hA]
    exact h9
  obtain ⟨C, hC⟩ : ∃ C, C = A + 1 + 1 := ⟨_, rfl⟩
  obtain ⟨D, hD⟩ : ∃ D, D = A + 1 + 1 + 1 := ⟨_, rfl⟩
  rw [← hD, ← hC] at e4
  rw [← hC] at e3
  rw [← hD, ← hC]
  clear hW4 mkT
  refine ⟨trivial, (callsIn_wide.2 (Kg.backI_any _ _ _ _)).mono ?_⟩
  rintro r W5 ⟨rfl, rfl⟩
  have l5 : Below W4.heap.size W4 (W4.alloc (.cells #[.slice (some ⟨oq, 0, none⟩) ord.length oc] 24)) := Below.alloc (Below.refl _ _) (Nat.le_refl _) _
  have b5 : Below w.heap.size w (W4.alloc (.cells #[.slice (some ⟨oq, 0, none⟩) ord.length oc] 24)) := b4.trans (l5.mono b4.size)
  have hE := Kg.heap_cell (heap_alloc_new W4 (.cells #[.slice (some ⟨oq, 0, none⟩) ord.length oc] 24 (0, 0))) 0
  have hGh : Gh w wd F ord A D C m ab (.slice (some ⟨oq, 0, none⟩) ord.length oc) (.slice (some ⟨wq, off, none⟩) m wc) (fun k => k = W4.heap.size) [] (W4.alloc (.cells #[.slice (some ⟨oq, 0, none⟩) ord.length oc] 24)) :=
    ⟨(l5.block _ (Kg.heap_lt e1)).trans e1, (l5.block _ (Kg.heap_lt e2)).trans e2, (l5.block _ (Kg.heap_lt e4)).trans e4, (e3.touch (Kg.Touch.of_below l5 []) (List.not_mem_nil)).congr (fun x _ => by simp [Lt.gth]), by omega, fun k hk => by rw [hk]; simp, b5⟩
  have hs5 : (W4.alloc (.cells #[.slice (some ⟨oq, 0, none⟩) ord.length oc] 24)).heap.size = A + 5 := by rw [World.size_alloc, hsz]
  have hseq := Kg.backI_full W4.heap.size w.heap.size (.slice (some ⟨oq, 0, none⟩) ord.length oc) (ord.map Int.ofNat) (W4.alloc (.cells #[.slice (some ⟨oq, 0, none⟩) ord.length oc] 24)) (by simp) (by omega) (by rw [List.length_map]; omega) hE (.inr ⟨oq, 0, oc, by rw [List.length_map], hofl, fun j z hz => (b5.cell (p := ⟨oq, 0 + j, none⟩) hofl).trans (HOc.out j z hz)⟩)
  have hE4 : W4.heap.size = A + 1 + 1 + 1 + 1 := by omega
  rw [hE4] at hseq hGh ⊢
  clear hE e1 e2 e3 e4 l5 b4 hE4
  generalize W4.alloc (.cells #[.slice (some ⟨oq, 0, none⟩) ord.length oc] 24) = W5 at *
  have HE : Hid (A = w.heap.size ∧ C = A + 1 + 1 ∧ D = A + 1 + 1 + 1 ∧ W5.heap.size = A + 5) := ⟨hA, hC, hD, hs5⟩
  clear hA hC hD hs5 hsz
  gi_wp2
  refine Kg.range_full (S0 := fun k => k = A + 1 + 1 + 1 + 1) (Own := fun k => k = A + 1 + 1 + 1 + 1) (gf := 165) (lb := #[.pointer (some ⟨A + 1 + 1 + 1 + 1, 0, none⟩)]) (w0 := W5) (n0 := w.heap.size) (xs := Kg.bkw (ord.map Int.ofNat)) rfl (enters_of Tryz.func165 (by kernel_rfl) rfl)
    hseq (fun k h => h) (Below.refl _ _) b5.size (fun _ => rfl)
    (Gh w wd F ord A D C m ab (.slice (some ⟨oq, 0, none⟩) ord.length oc) (.slice (some ⟨wq, off, none⟩) m wc)) (gh_own _ (by have := HE.out; omega) (by have := HE.out; omega) (by have := HE.out; omega) b5.size) hGh
    (fun x => { tmps := #[.agg #[.slice (some ⟨oq, 0, none⟩) ord.length oc, .slice (some ⟨ab, 0, none⟩) m m], .slice (some ⟨wq, off, none⟩) m wc, .pointer (some ⟨A, 0, none⟩), .pointer (some ⟨A + 1, 0, none⟩), .slice none 0 0, .pointer (some ⟨D, 0, none⟩), undef, .int .i64 x.2, .slice (some ⟨wq, off, none⟩) m wc, .int .i64 (m : Nat), .slice (some ⟨C, 0, none⟩) m m, .pointer (some ⟨A, 0, none⟩), .slice (some ⟨oq, 0, none⟩) ord.length oc, .func (.func 165) #[] #[.pointer (some ⟨A + 1 + 1 + 1 + 1, 0, none⟩)], .int .i64 (x.1 : Int), .int .i64 x.2, undef, undef, undef, undef, undef, undef, undef, undef, undef, undef, undef, undef, undef, undef, undef, undef, undef, undef, undef, undef, undef, undef, undef, undef, undef, undef, undef], defers := [] }) ?assign ?body ?done
  case assign =>
    intro lp x W K mm hK
    gi_wp2
    exact hK
  case body =>
    rintro lp S pre ⟨xi, xv⟩ W mm hI hpre
    obtain ⟨k, hk⟩ : ∃ k, k = pre.length := ⟨_, rfl⟩
    have hkl : k < ord.length := by
      have h1 := hpre.length_le
      rw [List.length_append, Kg.bkw_length, List.length_map, List.length_singleton] at h1
      omega
    obtain ⟨n, hn⟩ : ∃ n, ord[ord.length - 1 - k]? = some n := ⟨_, List.getElem?_eq_getElem (by omega)⟩
    have hx : (xi, xv) = (ord.length - 1 - k, (n : Int)) := by
      have h1 := Kg.bkw_get (ord.map Int.ofNat) k (by rw [List.length_map]; exact hkl) (n : Int) (by rw [List.length_map, List.getElem?_map, hn]; rfl)
      obtain ⟨t, ht⟩ := hpre
      rw [← ht, List.append_assoc, List.getElem?_append_right (by omega), hk, Nat.sub_self] at h1
      rw [List.length_map] at h1
      rw [hk]
      simpa using h1
    simp only [Prod.mk.injEq] at hx
    obtain ⟨rfl, rfl⟩ := hx
    have hno := List.mem_of_getElem? hn
    have hnm := HOm.out n hno
    obtain ⟨l, hl⟩ : ∃ l, l = ord.drop (ord.length - k) := ⟨_, rfl⟩
    have hl2 : ord.drop (ord.length - (k + 1)) = n :: l := by
      obtain ⟨h1, h2⟩ := List.getElem?_eq_some_iff.1 hn
      have e1 : ord.length - (k + 1) = ord.length - 1 - k := by omega
      rw [e1, List.drop_eq_getElem_cons h1, h2, hl]
      have e2 : ord.length - 1 - k + 1 = ord.length - k := by omega
      rw [e2]
    obtain ⟨a, ha⟩ : ∃ a : Nat → Nat, a = Lt.gth wd F l := ⟨_, rfl⟩
    have hgn : ∀ y, Lt.gth wd F (n :: l) y = gst wd F n a y := fun y => by rw [ha]; rfl
    have hbd : ∀ y, gst wd F n a y ≤ 4000000000000 := fun y => by
      rw [← hgn]
      exact Nat.le_trans (HG.out.gthle wd (n :: l) (ord.take (ord.length - (k + 1))) (by rw [← hl2, List.take_append_drop]) y) HWd.out
    have hf0 : Fy W C m (fun x => (a x : Nat)) := by
      have h1 := hI.f
      rw [← hk, ← hl, ← ha] at h1
      exact h1
    have c1 : W.cell? ⟨A, 1, none⟩ = some (.slice (some ⟨ab, 0, none⟩) m m) := Kg.heap_cell hI.a 1
    have c2 : W.cell? ⟨A + 1, 0, none⟩ = some (.slice (some ⟨wq, off, none⟩) m wc) := Kg.heap_cell hI.b 0
    have c3 : W.cell? ⟨D, 0, none⟩ = some (.slice (some ⟨C, 0, none⟩) m m) := Kg.heap_cell hI.d 0
    have c4 := hf0.cell hnm
    have c5 := HWC.out W hI.bel n hnm
    have hnI : (n : Int) < (m : Int) := by omega
    have hbn : a n + wd n ≤ 4000000000000 := by
      have h1 := hbd n
      unfold gst at h1
      by_cases h0 : n = 0
      · rw [if_pos h0, if_pos rfl] at h1
        exact h1
      · rw [if_neg h0] at h1
        simp only [if_true] at h1
        split at h1
        · rename_i e
          have h9 := (HG.out.fx hno h0).2.2
          exact absurd e.symm h9
        · exact h1
    have HI : Hid (Gh w wd F ord A D C m ab (.slice (some ⟨oq, 0, none⟩) ord.length oc) (.slice (some ⟨wq, off, none⟩) m wc) S pre W) := hI
    have HF0 : Hid (Fy W C m (fun x => (a x : Nat))) := hf0
    have HGn : Hid (k = pre.length ∧ ord.drop (ord.length - (k + 1)) = n :: l ∧ (∀ y, Lt.gth wd F (n :: l) y = gst wd F n a y)) := ⟨hk, hl2, hgn⟩
    have HBd : Hid (∀ y, gst wd F n a y ≤ 4000000000000) := hbd
    have HLk : Hid (k < ord.length) := hkl
    clear hI hf0 hpre hn hl ha hk hl2 hgn hbd hseq hGh b5
    gi_wp2
    refine Mr.qtail_round 10 Kg.mixed (by kernel_rfl) (by kernel_rfl) (by rintro ⟨_, _, h⟩; exact h) ?_
    simp only [List.take_succ_cons, List.take_zero, List.drop_succ_cons, List.drop_zero]
    repeat (go_big_quiet_step (fail))
    refine wpQuiet_nil ?_
    have z4 : W.drew.frozen? ⟨C, n, none⟩ = false := HF0.out.frozen n
    have t4 : Kg.Touch [C] W (W.setCell ⟨C, n, none⟩ (.int .i64 ((a n + wd n : Nat) : Int))).drew := (Kg.Touch.setCell _ _ _ (by simp)).trans (Kg.Touch.drew _ _)
    have HF1 : Hid (Fy (W.setCell ⟨C, n, none⟩ (.int .i64 ((a n + wd n : Nat) : Int))).drew C m (fun y => if y = n then ((a n + wd n : Nat) : Int) else (a y : Nat))) := (HF0.out.set hnm _).touch (Kg.Touch.drew [] _) (List.not_mem_nil)
    have HT4 : Hid (Kg.Touch [C] W (W.setCell ⟨C, n, none⟩ (.int .i64 ((a n + wd n : Nat) : Int))).drew) := t4
    clear t4
    go_wp2_with fail
    have hcast : (a n : Int) + (wd n : Int) = ((a n + wd n : Nat) : Int) := by omega
    rw [hcast]
    clear hcast
    obtain ⟨w4, hw4⟩ : ∃ w4, w4 = (W.setCell ⟨C, n, none⟩ (.int .i64 ((a n + wd n : Nat) : Int))).drew := ⟨_, rfl⟩
    rw [← hw4] at HF1 HT4 ⊢
    have HAB4 : Hid (A + 1 < C ∧ C < D ∧ w.heap.size ≤ C) := by have := HE.out; show _ ∧ _ ∧ _; omega
    have c1 : w4.cell? ⟨A, 1, none⟩ = some (.slice (some ⟨ab, 0, none⟩) m m) := (touch_cell HT4.out (Kg.heap_lt HI.out.a) (by have := HAB4.out; simp; omega) 1).trans c1
    have c3 : w4.cell? ⟨D, 0, none⟩ = some (.slice (some ⟨C, 0, none⟩) m m) := (touch_cell HT4.out (Kg.heap_lt HI.out.d) (by have := HAB4.out; simp; omega) 0).trans c3
    have HB4 : Hid (Below w.heap.size w w4) := HI.out.bel.trans (HT4.out.below HI.out.bel.size (fun k hk => by rw [List.mem_singleton.1 hk]; exact HAB4.out.2.2))
    have HEnd : Hid (∀ w6, Kg.Touch [C] W w6 → Fy w6 C m (fun y => (gst wd F n a y : Nat)) → goesOnC w wd F ord A D C m ab (.slice (some ⟨oq, 0, none⟩) ord.length oc) (.slice (some ⟨wq, off, none⟩) m wc) S (pre ++ [(ord.length - 1 - k, (n : Int))]) W w6) := fun w6 t6 f6 => by
      obtain ⟨h1, h2, h3⟩ := HAB4.out
      have b6 : Below w.heap.size W w6 := t6.below HI.out.bel.size (fun k hk => by rw [List.mem_singleton.1 hk]; exact h3)
      refine ⟨fun x hx => t6.block x (HI.out.lt x hx) (fun hm => HI.out.off (by rw [← List.mem_singleton.1 hm]; exact hx)), b6, ⟨(t6.block _ (Kg.heap_lt HI.out.a) (by simp; omega)).trans HI.out.a, (t6.block _ (Kg.heap_lt HI.out.b) (by simp; omega)).trans HI.out.b, (t6.block _ (Kg.heap_lt HI.out.d) (by simp; omega)).trans HI.out.d, ?_, HI.out.off, fun x hx => Nat.lt_of_lt_of_le (HI.out.lt x hx) t6.size, HI.out.bel.trans b6⟩⟩
      obtain ⟨g1, g2, g3⟩ := HGn.out
      rw [List.length_append, List.length_singleton, ← g1, g2]
      exact f6.congr (fun y _ => by rw [g3])
    clear c2 c4 c5 z4 hw4
    by_cases h0 : n = 0
    · have hg0 : ((n : Int) != 0) = false := by rw [h0]; rfl
      have HFin : Hid (Fy w4 C m (fun y => (gst wd F n a y : Nat))) := HF1.out.congr (fun y _ => by
        unfold gst
        rw [if_pos h0]
        show ((if y = n then a n + wd n else a y : Nat) : Int) = _
        split <;> rfl)
      clear h0
      gi_wp2
      exact HEnd.out w4 HT4.out HFin.out
    · have hg0 : ((n : Int) != 0) = true := bne_iff_ne.2 (by omega)
      obtain ⟨fn, hfn⟩ : ∃ fn, fn = F n := ⟨_, rfl⟩
      have hfnm : fn < m := by rw [hfn]; exact HFm.out n hno h0
      have hfnn : fn ≠ n := by rw [hfn]; exact (HG.out.fx hno h0).2.2
      have c6 : w4.cell? ⟨ab, n, none⟩ = some (.int .i64 (fn : Nat)) := by
        have h9 := (HAB.out w4 HB4.out).cell hnm
        rw [HF.out n hno h0, ← hfn] at h9
        exact h9
      have c7 : w4.cell? ⟨C, n, none⟩ = some (.int .i64 ((a n + wd n : Nat) : Int)) := by
        have h9 := HF1.out.cell hnm
        rw [if_pos rfl] at h9
        exact h9
      have c8 : w4.cell? ⟨C, fn, none⟩ = some (.int .i64 (a fn : Nat)) := by
        have h9 := HF1.out.cell hfnm
        rw [if_neg hfnn] at h9
        exact h9
      have z8 : w4.frozen? ⟨C, fn, none⟩ = false := HF1.out.frozen fn
      have hfI : (fn : Int) < (m : Int) := by omega
      obtain ⟨a1, ha1⟩ : ∃ a1, a1 = a n + wd n := ⟨_, rfl⟩
      have hbf : a fn + a1 ≤ 4000000000000 := by
        have h1 := HBd.out fn
        unfold gst at h1
        rw [if_neg h0] at h1
        simp only [← hfn, if_true, if_neg hfnn] at h1
        omega
      rw [← ha1] at c7
      have HFin : Hid (Fy (w4.setCell ⟨C, fn, none⟩ (.int .i64 ((a fn + a1 : Nat) : Int))).drew C m (fun y => (gst wd F n a y : Nat))) := ((HF1.out.set hfnm ((a fn + a1 : Nat) : Int)).touch (Kg.Touch.drew [] _) (List.not_mem_nil)).congr (fun y _ => by
        unfold gst
        rw [if_neg h0, ← hfn, ha1]
        by_cases e : y = fn
        · rw [if_pos e, if_pos e]
          simp only [if_neg hfnn, if_true]
        · rw [if_neg e, if_neg e]
          show ((if y = n then a n + wd n else a y : Nat) : Int) = _
          split <;> rfl)
      have HTin : Hid (Kg.Touch [C] W (w4.setCell ⟨C, fn, none⟩ (.int .i64 ((a fn + a1 : Nat) : Int))).drew) := (HT4.out.trans (Kg.Touch.setCell _ _ _ (by simp))).trans (Kg.Touch.drew _ _)
      have z9 : w4.drew.frozen? ⟨C, fn, none⟩ = false := z8
      clear h0 hfn hfnn ha1
      gi_wp2
      refine Mr.qtail_round 14 Kg.mixed (by kernel_rfl) (by kernel_rfl) (by rintro ⟨_, _, h⟩; exact h) ?_
      simp only [List.take_succ_cons, List.take_zero, List.drop_succ_cons, List.drop_zero]
      repeat (go_big_quiet_step (fail))
      refine wpQuiet_nil ?_
      go_wp2_with fail
      have hcast : (a fn : Int) + (a1 : Int) = ((a fn + a1 : Nat) : Int) := by omega
      rw [hcast]
      exact HEnd.out _ HTin.out HFin.out
  case done =>
    rintro Df S W hDf hI hK
    have c3 : W.cell? ⟨D, 0, none⟩ = some (.slice (some ⟨C, 0, none⟩) m m) := Kg.heap_cell hI.d 0
    have hF := hI.f
    rw [Kg.bkw_length, List.length_map, Nat.sub_self, List.drop_zero] at hF
    have HFe : Hid (Fy W C m (fun x => (gth wd F ord x : Nat))) := hF
    have HBe : Hid (Below w.heap.size w W) := hI.bel
    have HK : Hid (W.heap[Df]? = some (.deferred (some []))) := hK
    have hCw : w.heap.size ≤ C := by have := HE.out; omega
    have hD5 : w.heap.size ≤ Df := by have := b5.size; omega
    clear hI hF hK hseq hGh
    gi_wp2
    refine ⟨by simp, .inl ⟨_, _, rfl, run_takeDeferred HK.out, ?_⟩⟩
    refine ⟨_, results_tmp rfl _ _ _, C, rfl, hCw, ?_, HBe.out.trans (belowK_b (w := w) (Nat.le_refl _) W Df _ _ hD5 HK.out rfl rfl)⟩
    obtain ⟨cs, f1, f2, f3⟩ := HFe.out.ex
    refine ⟨cs, (World.putObj_heap_other (fun e => ?_)).trans f1, f2, f3⟩
    rw [e, HK.out] at f1
    cases f1
end Go.Proofs.YtkekaifiahjljaaGreatDoor
namespace Go.Proofs.YtkekaifiahjljaaGreatDoor
open Go.RowKit Go.Shelf Go.Proofs.YtkekaifiahjljaaGreatDoor.Lt Go.Proofs.YtkekaifiahjljaaGreatDoor.Lp
theorem pe_ok {g : Im.Gr} (hm : MB g) {m : Nat} (hmm : m = g.obs.length + 1) : ∀ e, e ∈ pe17 g → (e.1 ≠ 0 ∧ e.1 < m) ∧ (e.2.1 ≠ 0 ∧ e.2.1 < m) ∧ e.2.2 ≠ 0 ∧ e.2.2 < m := fun e he => by
  obtain ⟨i, k, v⟩ := e
  have := pe_in hm he
  simp only
  omega
theorem wz_len {os : List OL} {ts : List (Value × List (Value × List Int))} {g : Im.Gr} (hb : Big19 os ts g) (eo : g.obs = os.map (·.o)) (i : Nat) : (wz17 g i).length ≤ 3000000 := by
  unfold wz17
  rw [List.length_map]
  cases i with
  | zero =>
    unfold rw17
    refine Nat.le_trans (List.length_filter_le _ _) ?_
    have := hb.e
    simp only [List.length_append]
    omega
  | succ i =>
    cases ho : g.obs[i]? with
    | none =>
      simp only [rw17, ho, List.length_nil]
      omega
    | some o =>
      have ho2 := ho
      rw [eo, List.getElem?_map, Option.map_eq_some_iff] at ho2
      obtain ⟨x, hx, rfl⟩ := ho2
      have h1 := hb.r x (List.mem_of_getElem? hx)
      simp only [rw17, ho, List.length_drop]
      omega
theorem wmore_sum {os : List OL} {ts : List (Value × List (Value × List Int))} {g : Im.Gr} (hb : Big19 os ts g) (eo : g.obs = os.map (·.o)) (H : List Ep) (hH : H.length ≤ 2000000) : ((List.range (os.length + 1)).map (fun a => (wmore (wz17 g) H a).length)).sum ≤ 1000000000 := by
  have h1 := obs_sum eo (fun x => (wmore (wz17 g) H x).length) (fun i o ho => by
    simp only [wmore, if_neg (Nat.succ_ne_zero i), wz17, rw17, ho, List.length_map, List.length_drop]
    omega)
  have h2 : (wmore (wz17 g) H 0).length ≤ 5000000 := by
    unfold wmore
    rw [if_pos rfl, List.length_append, List.length_map]
    have := wz_len hb eo 0
    omega
  have h3 : List.range (os.length + 1) = 0 :: List.range' 1 os.length := by rw [List.range_eq_range', List.range'_succ]
  rw [h3, List.map_cons, List.sum_cons]
  have := hb.p
  omega
section
variable {g : Im.Gr} {m : Nat} {seq N ord : List Nat} {by' : Nat → Nat} {f : Nat → Int}
theorem wmore_lt (hm : MB g) (hmm : m = g.obs.length + 1) (H : List Ep) (hH : ∀ e, e ∈ H → e ∈ pe17 g) : ∀ i, i < m → ∀ y, y ∈ wmore (wz17 g) H i → y < m := fun i _ y hy => by
  unfold wmore at hy
  by_cases h0 : i = 0
  · rw [if_pos h0] at hy
    rcases List.mem_append.1 hy with h1 | h1
    · have := wz_lt hm 0 y h1
      omega
    · obtain ⟨e, he, rfl⟩ := List.mem_map.1 h1
      exact (pe_ok hm hmm e (hH e he)).2.2.2
  · rw [if_neg h0] at hy
    have := wz_lt hm i y hy
    omega
theorem hold_mem {e : Ep} : e ∈ (pe17 g).filter (hold (byv seq by')) ↔ e ∈ pe17 g ∧ e.1 ∈ seq ∧ e.2.1 ∈ seq := by
  rw [List.mem_filter, hold_iff]
theorem rt_of (hm : MB g) (hrx : Rx (wy17 g) (pe17 g) 0 seq seq.length by') (hN1 : ∀ x, x ∈ N → x ∈ seq) (hN2 : ∀ x, x ∈ N → by' x ≠ 0 → by' x ∈ N) (hN3 : ∀ e, e ∈ (pe17 g).filter (hold (byv seq by')) → e.1 ∈ N ∧ e.2.1 ∈ N) (hT : Tre (wmore (wz17 g) ((pe17 g).filter (hold (byv seq by')))) m ord f) : Rt (wy17 g) (wmore (wz17 g) ((pe17 g).filter (hold (byv seq by')))) (pe17 g) g.obs.length seq by' ((pe17 g).filter (hold (byv seq by'))) N ord (fun x => (f x).toNat) := by
  refine ⟨hrx, fun e => hold_mem, fun x y hy => wy_in hm x y hy, fun i k v h => (pe_in hm h).2.2, ⟨hN1, hN2, fun i κ v h h1 h2 => hN3 (i, κ, v) (hold_mem.2 ⟨h, h1, h2⟩)⟩, fun x y => ?_, ?_⟩
  · unfold wwith wmore
    by_cases h0 : x = 0
    · rw [if_pos h0, if_pos h0, List.mem_append, List.mem_append, wy_wz hm 0 y]
      constructor
      · rintro (h1 | h1)
        · exact ⟨.inl h1.1, h1.2⟩
        · refine ⟨.inr h1, ?_⟩
          obtain ⟨e, he, rfl⟩ := List.mem_map.1 h1
          exact (pe_ok hm rfl e (hold_mem.1 he).1).2.2.1
      · rintro ⟨h1 | h1, h2⟩
        · exact .inl ⟨h1, h2⟩
        · exact .inr h1
    · rw [if_neg h0, if_neg h0]
      exact wy_wz hm x y
  · obtain ⟨par, S, I, hD, hS, hI, -, hf⟩ := hT.d
    exact ⟨par, S, I, hD, hS, hI, fun v x i h1 h2 => by show (f x).toNat = i; rw [hf v x i h1 h2]; simp⟩
theorem tre_nn {W : Nat → List Nat} (hT : Tre W m ord f) {x : Nat} (hx : x ∈ ord) : f x = ((f x).toNat : Nat) ∧ (f x).toNat < m := by
  obtain ⟨par, S, I, hD, hS, hI, hI0, hf⟩ := hT.d
  obtain ⟨v, hv⟩ := List.getElem?_of_mem hx
  have hvl := (List.getElem?_eq_some_iff.1 hv).1
  have h9 : I v < ord.length := by
    by_cases h0 : v = 0
    · rw [h0, hI0]; omega
    · have h1 := (hD.d.idom hS hI v h0 hvl).1
      obtain ⟨h2, -⟩ := hD.d.sem_anc hS h0 hvl
      have h3 := hD.d.le (by omega) h1
      omega
  have hid : ord[I v]? = some (ord[I v]'h9) := List.getElem?_eq_getElem h9
  rw [hf v x _ hv hid]
  exact ⟨by simp, by simpa using hT.o _ (List.mem_of_getElem? hid)⟩
theorem tre_len {W : Nat → List Nat} (hT : Tre W m ord f) : ord.length ≤ m := by
  obtain ⟨par, S, I, hD, -⟩ := hT.d
  have h1 := List.Nodup.length_le_of_subset hD.nd (fun x hx => List.mem_range.2 (hT.o x hx))
  rw [List.length_range] at h1
  exact h1
theorem rx_closed {W : Nat → List Nat} {P : List Ep} {d k : Nat} (h : Rx W P d seq k by') : ∀ x, x ∈ seq → by' x ≠ 0 → by' x ∈ seq := fun x hx h0 => by
  obtain ⟨j, hj⟩ := List.getElem?_of_mem hx
  rcases h.src j x hj with ⟨h1, -⟩ | ⟨h1, -⟩ | ⟨κ, -, h1, -⟩
  · exact absurd h1 h0
  · exact List.mem_of_mem_take h1
  · exact List.mem_of_mem_take h1
theorem dr_of {W' : Nat → List Nat} {H : List Ep} {F : Nat → Nat} (hR : Rt (wy17 g) W' (pe17 g) g.obs.length seq by' H N ord F) (z : Nat → Int) (hz1 : ∀ x, x ∈ N → z x = (rs (wd17 g) (wy17 g) (pe17 g) g.obs.length 0 : Int) - (rs (wd17 g) (wy17 g) (pe17 g) g.obs.length x : Int)) (hz2 : ∀ x, x ∉ N → z x = (gth (wd17 g) F ord x : Nat)) : Dr17 g ((List.range' 1 g.obs.length).map z) := by
  refine ⟨by simp, fun i y hy => ?_⟩
  rw [List.getElem?_map] at hy
  have hi : i < g.obs.length := by
    rcases Nat.lt_or_ge i g.obs.length with h1 | h1
    · exact h1
    · rw [List.getElem?_eq_none (by simpa using h1)] at hy; cases hy
  rw [List.getElem?_range' hi] at hy
  simp only [Option.map_some, Option.some.injEq] at hy
  have e1 : 1 + 1 * i = i + 1 := by omega
  rw [e1] at hy
  by_cases hN : i + 1 ∈ N
  · exact .inl ⟨(hR.rx.done (i + 1)).1 (hR.nd.i _ hN), hy.symm.trans (hz1 _ hN)⟩
  · obtain ⟨h1, h2⟩ := hR.told (wd17 g) (n := i + 1) (by omega) hN
    rw [hz2 _ hN] at hy
    by_cases hr : Re (wy17 g) (pe17 g) 0 (i + 1)
    · refine .inl ⟨hr, ?_⟩
      have := h1 hr
      omega
    · refine .inr ⟨hr, ?_⟩
      rw [h2 hr] at hy
      omega
theorem met_rs {d : Nat} (hrx : Rx (wy17 g) (pe17 g) d seq seq.length by') (hmm : m = g.obs.length + 1) : sm0 (wd17 g) (fun x => byv seq by' x != -1) m = rs (wd17 g) (wy17 g) (pe17 g) g.obs.length d := by
  rw [hmm, sm0_smb (by unfold wd17; rw [if_pos rfl]), smb_sm (p := Re (wy17 g) (pe17 g) d) (fun x => ?_)]
  · rfl
  · show (byv seq by' x != -1) = true ↔ _
    rw [bne_iff_ne, ne_eq, byv_neg, Classical.not_not]
    exact hrx.done x
end
end Go.Proofs.YtkekaifiahjljaaGreatDoor
