import Derived.Test.YtkekaifiahjljaaGreatDoorW41
import Derived.Test.YtkekaifiahjljaaGreatDoorW28
import Derived.Test.YtkekaifiahjljaaGreatDoorW11
import Derived.Test.YtkekaifiahjljaaGreatDoorW10
import Derived.Test.YtkekaifiahjljaaGreatDoorW32
import Derived.Test.YtkekaifiahjljaaGreatDoorW29
set_option linter.unusedVariables false
set_option maxHeartbeats 8000000
set_option maxRecDepth 20000
namespace Go.Proofs.YtkekaifiahjljaaGreatDoor
open Go.RowKit Go.Shelf Go.Proofs.YtkekaifiahjljaaGreatDoor.Lt
theorem lRetained_any (n0 : Nat) (w : World) (vo vs vh vr vq : Value) (os : List OL) (ts : List (Value × List (Value × List Int))) (g : Im.Gr) (hg : Grd n0 w vo vs vh vr vq os ts g) (hn : n0 ≤ w.heap.size) (hL : Laid w) (hb : Big19 os ts g) :
    Calls Tryz.prog 14 #[.agg (gcs vo vs vh vr vq g.next)] w fun e w' => ∃ (v : Value) (l : List Int) (er : Int), e = .returned (.tuple #[v, .int .i64 er]) ∧ Lrd w'.heap.size w' v .i64 l ∧ Below w.heap.size w w' ∧ Pr18 g l er := by
  have hol : Hid (g.obs.length = os.length) := by show _ = _; rw [hg.eo, List.length_map]
  have l1 : Below w.heap.size w (w.alloc (.cells (gcs vo vs vh vr vq g.next) 27)) := Below.alloc (Below.refl _ _) (Nat.le_refl _) _
  have hx := heap_alloc_new w (.cells (gcs vo vs vh vr vq g.next) 27 (0, 0))
  obtain ⟨oa, oc, eo, -⟩ := id hg.ob
  subst eo
  generalize hW : w.alloc (.cells (gcs (.slice oa os.length oc) vs vh vr vq g.next) 27) = W at *
  have HL1 : Hid (Below w.heap.size w W) := l1
  have HG : Hid (∀ w', Below W.heap.size W w' → w'.heap[w.heap.size]? = some (.cells (gcs (.slice oa os.length oc) vs vh vr vq g.next) 27 (0, 0)) ∧ Below w.heap.size w w' ∧ Grd n0 w' (.slice oa os.length oc) vs vh vr vq os ts g) := fun w' b' => ⟨(b'.block _ (Kg.heap_lt hx)).trans hx, l1.trans (b'.mono l1.size), hg.below ((l1.trans (b'.mono l1.size)).mono hn)⟩
  have q := mayBe_any n0 W (.slice oa os.length oc) vs vh vr vq os ts g (hg.below (l1.mono hn)) (Nat.le_trans hn l1.size) (hL.keep l1) hb.l
  have y0 : W.cell? ⟨w.heap.size, 0, none⟩ = some (.slice oa os.length oc) := Kg.heap_cell hx 0
  have y1 : W.cell? ⟨w.heap.size, 1, none⟩ = some vs := Kg.heap_cell hx 1
  have y2 : W.cell? ⟨w.heap.size, 2, none⟩ = some vh := Kg.heap_cell hx 2
  have y3 : W.cell? ⟨w.heap.size, 3, none⟩ = some vr := Kg.heap_cell hx 3
  have y4 : W.cell? ⟨w.heap.size, 4, none⟩ = some vq := Kg.heap_cell hx 4
  have y5 : W.cell? ⟨w.heap.size, 5, none⟩ = some (.int .u64 (g.next : Int)) := Kg.heap_cell hx 5
  have HBg : Hid (Big19 os ts g) := hb
  have HEO : Hid (g.obs = os.map (·.o)) := hg.eo
  clear hg hx l1 hL hb
  go_enter Tryz.func14, Tryz.ntmps14
  go_wp2_with fail
  refine q.mono ?_
  rintro e w1 ⟨r, rfl, b1, hr⟩
  have HB1 : Hid (Below W.heap.size W w1) := b1
  have HR : Hid (r = true ↔ MB g) := hr
  clear q b1 hr y0 y1 y2 y3 y4 y5
  cases r with
  | false =>
    have hm : ¬ MB g := fun h => by have := HR.out.2 h; cases this
    have HM : Hid (¬ MB g) := hm
    have HBo := HG.out w1 HB1.out
    have HB2 : Hid (Below w.heap.size w w1) := HBo.2.1
    clear hm HBo
    go_wp2
    go_ret2
    exact ⟨_, [], 171, rfl, Il.lrd (base := 0) (World.ownsRow_nil _ _ _ _), HB2.out, .inl ⟨HM.out, rfl, rfl⟩⟩
  | true =>
    have HM : Hid (MB g) := HR.out.1 rfl
    have HB2 : Hid (Below w.heap.size w w1) := (HG.out w1 HB1.out).2.1
    have hoI := HBg.out.o
    obtain ⟨m, hmm⟩ : ∃ m, m = os.length + 1 := ⟨_, rfl⟩
    have HMM : Hid (m = g.obs.length + 1) := by show _ = _; rw [hmm, hol.out]
    have q := retained_any n0 w1 _ vs vh vr vq os ts g (HG.out w1 HB1.out).2.2 (Nat.le_trans (Nat.le_trans hn HL1.out.size) HB1.out.size) HM.out HBg.out m hmm
    have y0 : w1.cell? ⟨w.heap.size, 0, none⟩ = some (.slice oa os.length oc) := Kg.heap_cell (HG.out w1 HB1.out).1 0
    have y1 : w1.cell? ⟨w.heap.size, 1, none⟩ = some vs := Kg.heap_cell (HG.out w1 HB1.out).1 1
    have y2 : w1.cell? ⟨w.heap.size, 2, none⟩ = some vh := Kg.heap_cell (HG.out w1 HB1.out).1 2
    have y3 : w1.cell? ⟨w.heap.size, 3, none⟩ = some vr := Kg.heap_cell (HG.out w1 HB1.out).1 3
    have y4 : w1.cell? ⟨w.heap.size, 4, none⟩ = some vq := Kg.heap_cell (HG.out w1 HB1.out).1 4
    have y5 : w1.cell? ⟨w.heap.size, 5, none⟩ = some (.int .u64 (g.next : Int)) := Kg.heap_cell (HG.out w1 HB1.out).1 5
    have hm1 : 1 ≤ m := by omega
    clear hmm
    go_wp2_with fail
    refine q.mono ?_
    rintro e w3 ⟨ab, f, rfl, hF, b3, hD⟩
    have HE : Hid (Below w.heap.size w w3) := HB2.out.trans (b3.mono HB2.out.size)
    have HF : Hid (Fy w3 ab m f) := hF
    have HDm : Hid (Dr17 g ((List.range' 1 g.obs.length).map f)) := hD
    clear q b3 hF hD y0 y1 y2 y3 y4 y5
    have HLen : Hid (((List.range' 1 g.obs.length).map f).length = m - 1) := by
      show _ = _
      rw [List.length_map, List.length_range', HMM.out]
      omega
    have HLr : Hid (Lrd w3.heap.size w3 (.slice (some ⟨ab, 1, none⟩) (m - 1) (m - 1)) .i64 ((List.range' 1 g.obs.length).map f)) := by
      refine ⟨some ⟨ab, 1, none⟩, m - 1, by rw [HLen.out], by rw [HLen.out]; exact Nat.le_refl _, fun i z hz => ?_⟩
      have hi := (List.getElem?_eq_some_iff.1 hz).1
      rw [HLen.out] at hi
      rw [List.getElem?_map, List.getElem?_range' (by have := HMM.out; omega)] at hz
      simp only [Option.map_some, Option.some.injEq] at hz
      refine ⟨ab, 1, rfl, HF.out.lt, ?_⟩
      have h9 := HF.out.cell (x := 1 + i) (by omega)
      rw [h9, ← hz]
      simp
    by_cases hm9 : m = 1
    · have HL0 : Hid (Lrd w3.heap.size w3 (.slice (some ⟨ab, 0, none⟩) 0 0) .i64 ((List.range' 1 g.obs.length).map f)) := by
        have e : (List.range' 1 g.obs.length).map f = [] := List.eq_nil_of_length_eq_zero (by rw [HLen.out, hm9])
        show Lrd _ _ _ _ _
        rw [e]
        exact ⟨some ⟨ab, 0, none⟩, 0, rfl, Nat.le_refl _, fun i z hz => by simp at hz⟩
      subst hm9
      go_wp2
      go_ret2
      exact ⟨_, _, 0, rfl, HL0.out, HE.out, .inr ⟨HM.out, rfl, HDm.out⟩⟩
    · go_wp2
      go_ret2
      exact ⟨_, _, 0, rfl, HLr.out, HE.out, .inr ⟨HM.out, rfl, HDm.out⟩⟩
end Go.Proofs.YtkekaifiahjljaaGreatDoor
namespace Go.Proofs.YtkekaifiahjljaaGreatDoor.Lp
open Go.Proofs.YtkekaifiahjljaaGreatDoor.Lt
variable {W : Nat → List Nat} {t : Nat}
theorem dis_of {x e : Nat} : Pth W t e x → ∃ d, d ≤ e ∧ Dis W t x d := by
  induction e using Nat.strongRecOn with
  | _ e ih =>
    intro h
    by_cases k : ∃ e', e' < e ∧ Pth W t e' x
    · obtain ⟨e', h1, h2⟩ := k
      obtain ⟨d, h3, h4⟩ := ih e' h1 h2
      exact ⟨d, by omega, h4⟩
    · exact ⟨e, Nat.le_refl _, h, fun e' h' => Nat.le_of_not_lt fun hl => k ⟨e', hl, h'⟩⟩
theorem gd_dis {x : Nat} {l : List Nat} (h : Gd W t x l) : Dis W t x l.length := by
  induction h with
  | nil => exact ⟨rfl, fun _ _ => Nat.zero_le _⟩
  | @cons x y d l hne hy hd hmin _ ih =>
    have e := hd.uniq ih
    subst e
    refine ⟨⟨y, hy, ih.1⟩, fun e he => ?_⟩
    cases e with
    | zero => exact absurd he hne
    | succ e =>
      obtain ⟨z, hz, hp⟩ := he
      obtain ⟨d', h1, h2⟩ := dis_of hp
      have := (hmin z d' hz h2).1
      rw [List.length_cons]
      omega
theorem gd_at {x : Nat} {l : List Nat} (h : Gd W t x l) : ∀ (i : Nat) y, l[i]? = some y → Dis W t y (l.length - 1 - i) := by
  induction h with
  | nil => intro i y hy; simp at hy
  | @cons x y d l hne hy hd hmin hg ih =>
    intro i z hz
    cases i with
    | zero =>
      simp only [List.getElem?_cons_zero, Option.some.injEq] at hz
      subst hz
      have := gd_dis hg
      rw [List.length_cons]
      exact this
    | succ i =>
      simp only [List.getElem?_cons_succ] at hz
      have h1 := ih i z hz
      have h2 := (List.getElem?_eq_some_iff.1 hz).1
      rw [List.length_cons, show l.length + 1 - 1 - (i + 1) = l.length - 1 - i by omega]
      exact h1
theorem gd_next {x : Nat} {l : List Nat} (h : Gd W t x l) : ∀ (i : Nat) y z, l[i]? = some y → l[i + 1]? = some z → z ∈ W y := by
  induction h with
  | nil => intro i y z hy; simp at hy
  | @cons x y d l hne hy hd hmin hg ih =>
    intro i a b ha hb
    cases i with
    | zero =>
      simp only [List.getElem?_cons_zero, Option.some.injEq] at ha
      subst ha
      simp only [List.getElem?_cons_succ] at hb
      cases hg with
      | nil => simp at hb
      | cons _ h2 _ _ _ =>
        simp only [List.getElem?_cons_zero, Option.some.injEq] at hb
        rw [← hb]
        exact h2
    | succ i =>
      simp only [List.getElem?_cons_succ] at ha hb
      exact ih i a b ha hb
theorem gd_first {x y : Nat} {l : List Nat} (h : Gd W t x l) (hy : l[0]? = some y) : y ∈ W x := by
  cases h with
  | nil => simp at hy
  | cons _ h2 _ _ _ =>
    simp only [List.getElem?_cons_zero, Option.some.injEq] at hy
    rw [← hy]
    exact h2
theorem gd_last {x : Nat} {l : List Nat} (h : Gd W t x l) : l ≠ [] → l[l.length - 1]? = some t := by
  induction h with
  | nil => intro h; exact absurd rfl h
  | @cons x y d l hne hy hd hmin hg ih =>
    intro _
    by_cases e : l = []
    · subst e
      cases hg with
      | nil => rfl
    · have h1 := ih e
      have h2 : l.length ≠ 0 := fun k => e (List.eq_nil_of_length_eq_zero k)
      rw [List.length_cons, show l.length + 1 - 1 = (l.length - 1) + 1 by omega, List.getElem?_cons_succ]
      exact h1
theorem gd_rv {l : List Nat} (h : Gd W t 0 l) {d : Nat} (hd : ∀ y, y ∈ l → y ≠ d) : ∀ (i : Nat) y, l[i]? = some y → Rv W d y := by
  intro i
  induction i with
  | zero => intro y hy; exact .root (gd_first h hy) (hd y (List.mem_of_getElem? hy))
  | succ i ih =>
    intro y hy
    have h1 := (List.getElem?_eq_some_iff.1 hy).1
    have h2 : l[i]? = some (l[i]'(by omega)) := List.getElem?_eq_getElem (by omega)
    exact .step (ih _ h2) (gd_next h i _ y h2 hy) (hd y (List.mem_of_getElem? hy))
theorem gd_root {l : List Nat} (h : Gd W t 0 l) {i y : Nat} (hi : l[i]? = some y) : y ∈ W 0 ↔ i = 0 := by
  constructor
  · intro hy
    have h1 := gd_dis h
    have h2 := gd_at h i y hi
    have h3 := h1.2 (l.length - 1 - i + 1) ⟨y, hy, h2.1⟩
    have h4 := (List.getElem?_eq_some_iff.1 hi).1
    omega
  · rintro rfl
    exact gd_first h hi
theorem gd_held {l : List Nat} (h : Gd W t 0 l) {i k y z : Nat} (hi : l[i]? = some y) (hk : l[k]? = some z) (hik : i < k) : z ∈ W y ↔ k = i + 1 := by
  constructor
  · intro hz
    have h1 := gd_at h i y hi
    have h2 := gd_at h k z hk
    have h3 := h1.2 (l.length - 1 - k + 1) ⟨z, hz, h2.1⟩
    have h4 := (List.getElem?_eq_some_iff.1 hk).1
    omega
  · rintro rfl
    exact gd_next h i y z hi hk
theorem gd_inj {l : List Nat} (h : Gd W t 0 l) {i k y : Nat} (hi : l[i]? = some y) (hk : l[k]? = some y) : i = k := by
  have h1 := (gd_at h i y hi).uniq (gd_at h k y hk)
  have h2 := (List.getElem?_eq_some_iff.1 hi).1
  have h3 := (List.getElem?_eq_some_iff.1 hk).1
  omega
theorem gd_ov {l : List Nat} (h : Gd W t 0 l) (hl : l ≠ []) {d : Nat} (hd : Ov W d t) : d ∈ l := by
  by_cases hm : d ∈ l
  · exact hm
  · exact absurd (gd_rv h (d := d) (fun y hy e => hm (by rw [← e]; exact hy)) _ t (gd_last h hl)) hd.2.2.2.2.2
theorem pth_snoc {u y : Nat} (hy : y ∈ W u) : ∀ (e x : Nat), Pth W u e x → Pth W y (e + 1) x
  | 0, x, h => by
    have h : x = u := h
    subst h
    exact ⟨y, hy, rfl⟩
  | e + 1, x, ⟨z, hz, hp⟩ => ⟨z, hz, pth_snoc hy e z hp⟩
theorem rv_pth {d x : Nat} (h : Rv W d x) : ∃ e, Pth W x e 0 := by
  induction h with
  | root h1 _ => exact ⟨1, _, h1, rfl⟩
  | step _ h1 _ ih =>
    obtain ⟨e, he⟩ := ih
    exact ⟨e + 1, pth_snoc h1 e 0 he⟩
theorem row_none {d : Nat} (h : ∀ e, ¬ Pth W t e 0) : ¬ Rv W d t := fun k => by
  obtain ⟨e, he⟩ := rv_pth k
  exact h e he
end Go.Proofs.YtkekaifiahjljaaGreatDoor.Lp
namespace Go.Proofs.YtkekaifiahjljaaGreatDoor.Lt
section
variable {W W' : Nat → List Nat} {P P' : List (Nat × Nat × Nat)} {n M : Nat} {w : Nat → Nat}
end
end Go.Proofs.YtkekaifiahjljaaGreatDoor.Lt
namespace Go.Proofs.YtkekaifiahjljaaGreatDoor
end Go.Proofs.YtkekaifiahjljaaGreatDoor
namespace Go.Proofs.YtkekaifiahjljaaGreatDoor
open Go.RowKit Go.Shelf
theorem same17_eq (n0 : Nat) (va vb : Value) (l : List Int) (w : World) (ha : Lrd n0 w va .i64 l) (hb : Lrd n0 w vb .i64 l) (hl : l.length ≤ 4611686018427387904) :
    Calls Tryz.prog 23 #[va, vb] w fun e w' => e = .returned (.bool true) ∧ ∃ nq, w' = w.drewN nq := by
  obtain ⟨a, ca, rfl, -, ha'⟩ := ha
  obtain ⟨b, cb, rfl, -, hb'⟩ := hb
  have Ha : Hid (∀ (f : Nat) z, l[f]? = some z → ∃ q off, a = some ⟨q, off, none⟩ ∧ q < n0 ∧ w.cell? ⟨q, off + f, none⟩ = some (.int .i64 z)) := ha'
  have Hb : Hid (∀ (f : Nat) z, l[f]? = some z → ∃ q off, b = some ⟨q, off, none⟩ ∧ q < n0 ∧ w.cell? ⟨q, off + f, none⟩ = some (.int .i64 z)) := hb'
  clear ha' hb'
  go_enter Tryz.func23, Tryz.ntmps23
  go_wp2
  go_loopw [5] (fun v5 wr => ∃ (k m : Nat), k ≤ l.length ∧ v5 = .int .i64 k ∧ wr = w.drewN m) (fun v5 _ => l.length - (intOf v5).toNat)
  case atStart => exact ⟨0, 0, Nat.zero_le _, rfl, rfl⟩
  case round =>
    obtain ⟨k, m, hk, rfl, rfl⟩ := hrel
    by_cases hkl : k < l.length
    · have hki : (k : Int) < (l.length : Int) := by omega
      have hz : l[k]? = some (l[k]'hkl) := List.getElem?_eq_getElem hkl
      generalize l[k]'hkl = z at hz
      obtain ⟨q, off, rfl, -, ca'⟩ := Ha.out k z hz
      obtain ⟨q', off', rfl, -, cb'⟩ := Hb.out k z hz
      clear hz
      go_upto_region 6 with fail
      go_quiet (fail)
      go_wp2
      go_roundw
      case rel => exact ⟨k + 1, m + nq, by omega, by go_num, rfl⟩
      case measure => simp [intOf]; omega
    · have hki : ¬ (k : Int) < (l.length : Int) := by omega
      go_wp2
      go_ret
      exact ⟨rfl, m, rfl⟩
end Go.Proofs.YtkekaifiahjljaaGreatDoor
namespace Go.Proofs.YtkekaifiahjljaaGreatDoor
open Go.RowKit Go.Shelf Go.Proofs.YtkekaifiahjljaaGreatDoor.Lt Go.Proofs.YtkekaifiahjljaaGreatDoor.Lp
theorem ex_big (B : Nat) : Big19 (exOs B) (exTs B) gEx := by
  refine big19_of ?_ rfl rfl
  simp [gsz, szs, osum, tsum, fsum, exOs, exTs, gEx]
theorem Big19.big17 {os : List OL} {ts : List (Value × List (Value × List Int))} {g : Im.Gr} (h : Big19 os ts g) : Big17 os ts g := ⟨h.l, h.s, h.o, h.e⟩
theorem known17_any (w : World) (hL : Laid w) : Calls Tryz.prog 7 #[] w fun e w' => e = .returned (.bool true) ∧ Below w.heap.size w w' := by
  have HL : Hid (∀ w', Below w.heap.size w w' → Laid w') := fun w' b' => hL.keep b'
  have q := example17_any w
  obtain ⟨B5, hB5⟩ : ∃ b, b = w.heap.size + 5 := ⟨_, rfl⟩
  obtain ⟨B8, hB8⟩ : ∃ b, b = w.heap.size + 8 := ⟨_, rfl⟩
  obtain ⟨os, hos⟩ : ∃ os, os = exOs w.heap.size := ⟨_, rfl⟩
  obtain ⟨ts, hts⟩ : ∃ os, os = exTs w.heap.size := ⟨_, rfl⟩
  have HBG : Hid (Big19 os ts gEx) := by
    show Big19 _ _ _
    rw [hos, hts]
    exact ex_big _
  rw [← hB5, ← hB8, ← hos, ← hts] at q
  clear hB5 hB8 hos hts hL
  go_enter Tryz.func7, Tryz.ntmps7
  go_wp2_with fail
  refine q.mono ?_
  rintro e w1 ⟨rfl, hg, b1⟩
  have hx := heap_alloc_new w1 (.cells (gcs (.slice (some ⟨B5, 0, none⟩) 6 6) (.slice (some ⟨B8, 0, none⟩) 1 1) (.slice none 0 0) (.slice none 0 0) (.slice none 0 0) gEx.next) 27 (0, 0))
  have b2 : Below w1.heap.size w1 (w1.alloc (.cells (gcs (.slice (some ⟨B5, 0, none⟩) 6 6) (.slice (some ⟨B8, 0, none⟩) 1 1) (.slice none 0 0) (.slice none 0 0) (.slice none 0 0) gEx.next) 27)) := Below.alloc (Below.refl _ _) (Nat.le_refl _) _
  have h9 := hg.below b2
  have HX : Hid (∀ w', Below (w1.alloc (.cells (gcs (.slice (some ⟨B5, 0, none⟩) 6 6) (.slice (some ⟨B8, 0, none⟩) 1 1) (.slice none 0 0) (.slice none 0 0) (.slice none 0 0) gEx.next) 27)).heap.size (w1.alloc (.cells (gcs (.slice (some ⟨B5, 0, none⟩) 6 6) (.slice (some ⟨B8, 0, none⟩) 1 1) (.slice none 0 0) (.slice none 0 0) (.slice none 0 0) gEx.next) 27)) w' → Below w.heap.size w w' ∧ w1.heap.size ≤ w'.heap.size ∧ Grd w1.heap.size w' (.slice (some ⟨B5, 0, none⟩) 6 6) (.slice (some ⟨B8, 0, none⟩) 1 1) (.slice none 0 0) (.slice none 0 0) (.slice none 0 0) os ts gEx ∧ ∀ j v, (gcs (.slice (some ⟨B5, 0, none⟩) 6 6) (.slice (some ⟨B8, 0, none⟩) 1 1) (.slice none 0 0) (.slice none 0 0) (.slice none 0 0) gEx.next)[j]? = some v → w'.cell? ⟨w1.heap.size, j, none⟩ = some v) := fun w' b' => by
    have b3 := b2.trans (b'.mono b2.size)
    exact ⟨b1.trans (b3.mono b1.size), b3.size, hg.below b3, fun j v h => (Kg.heap_cell ((b'.block _ (Kg.heap_lt hx)).trans hx) j).trans h⟩
  clear q hg b1 b2 hx h9
  go_upto_region 2 with fail
  change Code.wp _ _ _ _ (w1.alloc (.cells (gcs (.slice (some ⟨B5, 0, none⟩) 6 6) (.slice (some ⟨B8, 0, none⟩) 1 1) (.slice none 0 0) (.slice none 0 0) (.slice none 0 0) gEx.next) 27))
  generalize w1.alloc (.cells (gcs (.slice (some ⟨B5, 0, none⟩) 6 6) (.slice (some ⟨B8, 0, none⟩) 1 1) (.slice none 0 0) (.slice none 0 0) (.slice none 0 0) gEx.next) 27) = W at *
  obtain ⟨A, hA⟩ : ∃ A, A = w1.heap.size := ⟨_, rfl⟩
  rw [← hA] at HX ⊢
  clear hA
  have HBr : Hid (Below W.heap.size W W) := Below.refl _ _
  obtain ⟨bw, hn, hg, hc⟩ := HX.out W HBr.out
  have y0 := hc 0 _ rfl
  have y1 := hc 1 _ rfl
  have y2 := hc 2 _ rfl
  have y3 := hc 3 _ rfl
  have y4 := hc 4 _ rfl
  have y5 := hc 5 _ rfl
  have q := lDominators_any A W _ _ _ _ _ os ts gEx hg hn (HL.out _ bw) HBG.out
  clear bw hn hg hc
  go_wp2_with fail
  refine q.mono ?_
  rintro e w2 ⟨v2, l2, e2, rfl, o2, c2, p2⟩
  have hu := p2.uniq (.inr ⟨ex_mb, rfl, ex_dm⟩)
  obtain ⟨rfl, rfl⟩ := hu
  have HB2 : Hid (Below W.heap.size W w2) := c2
  have HO2 : Hid (Lrd w2.heap.size w2 v2 .i64 [0, 1, 1, 1, 3, -1]) := o2
  clear q o2 c2 p2 y0 y1 y2 y3 y4 y5
  obtain ⟨bw, hn, hg, hc⟩ := HX.out w2 HB2.out
  have y0 := hc 0 _ rfl
  have y1 := hc 1 _ rfl
  have y2 := hc 2 _ rfl
  have y3 := hc 3 _ rfl
  have y4 := hc 4 _ rfl
  have y5 := hc 5 _ rfl
  have q := lRetained_any A w2 _ _ _ _ _ os ts gEx hg hn (HL.out _ bw) HBG.out
  clear bw hn hg hc
  go_wp2_with fail
  refine q.mono ?_
  rintro e w3 ⟨v3, l3, e3, rfl, o3, c3, p3⟩
  have hu := p3.uniq (.inr ⟨ex_mb, rfl, ex_dr⟩)
  obtain ⟨rfl, rfl⟩ := hu
  have HB3 : Hid (Below W.heap.size W w3) := HB2.out.trans (c3.mono HB2.out.size)
  have HO2' : Hid (Lrd w3.heap.size w3 v2 .i64 [0, 1, 1, 1, 3, -1]) := (HO2.out.below c3).mono c3.size
  have HO3 : Hid (Lrd w3.heap.size w3 v3 .i64 [19, 5, 10, 2, 6, 2]) := o3
  clear q o3 c3 p3 y0 y1 y2 y3 y4 y5 HO2 HB2
  obtain ⟨bw, hn, hg, hc⟩ := HX.out w3 HB3.out
  have y0 := hc 0 _ rfl
  have y1 := hc 1 _ rfl
  have y2 := hc 2 _ rfl
  have y3 := hc 3 _ rfl
  have y4 := hc 4 _ rfl
  have y5 := hc 5 _ rfl
  have q := lPath_any A w3 _ _ _ _ _ os ts gEx hg hn (HL.out _ bw) HBG.out.big17 5 (by unfold InI; decide)
  clear bw hn hg hc
  go_wp2_with fail
  refine q.mono ?_
  rintro e w4 ⟨v4, l4, e4, rfl, o4, c4, p4⟩
  have hu := p4.uniq (.inr (.inr ⟨ex_mb, by decide, by decide, rfl, ex_row⟩))
  obtain ⟨rfl, rfl⟩ := hu
  have HB4 : Hid (Below W.heap.size W w4) := HB3.out.trans (c4.mono HB3.out.size)
  have HO2 : Hid (Lrd w4.heap.size w4 v2 .i64 [0, 1, 1, 1, 3, -1]) := (HO2'.out.below c4).mono c4.size
  have HO3' : Hid (Lrd w4.heap.size w4 v3 .i64 [19, 5, 10, 2, 6, 2]) := (HO3.out.below c4).mono c4.size
  have HO4 : Hid (Lrd w4.heap.size w4 v4 .i64 [1, 3, 5]) := o4.lrd
  clear q o4 c4 p4 y0 y1 y2 y3 y4 y5 HO2' HO3 HB3
  go_upto_region 6 with fail
  have a5 : Below w4.heap.size w4 (w4.alloc (.cells #[.int .i64 0, .int .i64 1, .int .i64 1, .int .i64 1, .int .i64 3, .int .i64 (-1)] 3)) := Below.alloc (Below.refl _ _) (Nat.le_refl _) _
  have r5 : Lrd (w4.alloc (.cells #[.int .i64 0, .int .i64 1, .int .i64 1, .int .i64 1, .int .i64 3, .int .i64 (-1)] 3)).heap.size (w4.alloc (.cells #[.int .i64 0, .int .i64 1, .int .i64 1, .int .i64 1, .int .i64 3, .int .i64 (-1)] 3)) (.slice (some ⟨w4.heap.size, 0, none⟩) 6 6) .i64 [0, 1, 1, 1, 3, -1] := ex_lrd (heap_alloc_new w4 (.cells #[.int .i64 0, .int .i64 1, .int .i64 1, .int .i64 1, .int .i64 3, .int .i64 (-1)] 3 (0, 0))) (by simp) [0, 1, 1, 1, 3, -1] rfl
  have q := same17_eq (w4.alloc (.cells #[.int .i64 0, .int .i64 1, .int .i64 1, .int .i64 1, .int .i64 3, .int .i64 (-1)] 3)).heap.size _ _ _ _ ((HO2.out.below a5).mono a5.size) r5 (by decide)
  have HBa5 : Hid (Below W.heap.size W (w4.alloc (.cells #[.int .i64 0, .int .i64 1, .int .i64 1, .int .i64 1, .int .i64 3, .int .i64 (-1)] 3))) := HB4.out.trans (a5.mono HB4.out.size)
  have HO3'5 : Hid (Lrd (w4.alloc (.cells #[.int .i64 0, .int .i64 1, .int .i64 1, .int .i64 1, .int .i64 3, .int .i64 (-1)] 3)).heap.size (w4.alloc (.cells #[.int .i64 0, .int .i64 1, .int .i64 1, .int .i64 1, .int .i64 3, .int .i64 (-1)] 3)) v3 .i64 [19, 5, 10, 2, 6, 2]) := (HO3'.out.below a5).mono a5.size
  have HO45 : Hid (Lrd (w4.alloc (.cells #[.int .i64 0, .int .i64 1, .int .i64 1, .int .i64 1, .int .i64 3, .int .i64 (-1)] 3)).heap.size (w4.alloc (.cells #[.int .i64 0, .int .i64 1, .int .i64 1, .int .i64 1, .int .i64 3, .int .i64 (-1)] 3)) v4 .i64 [1, 3, 5]) := (HO4.out.below a5).mono a5.size
  clear r5 a5
  go_wp2_with fail
  refine q.mono ?_
  rintro e w5 ⟨rfl, nq5, rfl⟩
  have HB5 : Hid (Below W.heap.size W ((w4.alloc (.cells #[.int .i64 0, .int .i64 1, .int .i64 1, .int .i64 1, .int .i64 3, .int .i64 (-1)] 3)).drewN nq5)) := below_drewN HBa5.out nq5
  have HO3'z5 : Hid (Lrd ((w4.alloc (.cells #[.int .i64 0, .int .i64 1, .int .i64 1, .int .i64 1, .int .i64 3, .int .i64 (-1)] 3)).drewN nq5).heap.size ((w4.alloc (.cells #[.int .i64 0, .int .i64 1, .int .i64 1, .int .i64 1, .int .i64 3, .int .i64 (-1)] 3)).drewN nq5) v3 .i64 [19, 5, 10, 2, 6, 2]) := (HO3'5.out.below (below_drewN (Below.refl (w4.alloc (.cells #[.int .i64 0, .int .i64 1, .int .i64 1, .int .i64 1, .int .i64 3, .int .i64 (-1)] 3)).heap.size (w4.alloc (.cells #[.int .i64 0, .int .i64 1, .int .i64 1, .int .i64 1, .int .i64 3, .int .i64 (-1)] 3))) nq5)).mono (below_drewN (Below.refl (w4.alloc (.cells #[.int .i64 0, .int .i64 1, .int .i64 1, .int .i64 1, .int .i64 3, .int .i64 (-1)] 3)).heap.size (w4.alloc (.cells #[.int .i64 0, .int .i64 1, .int .i64 1, .int .i64 1, .int .i64 3, .int .i64 (-1)] 3))) nq5).size
  have HO4z5 : Hid (Lrd ((w4.alloc (.cells #[.int .i64 0, .int .i64 1, .int .i64 1, .int .i64 1, .int .i64 3, .int .i64 (-1)] 3)).drewN nq5).heap.size ((w4.alloc (.cells #[.int .i64 0, .int .i64 1, .int .i64 1, .int .i64 1, .int .i64 3, .int .i64 (-1)] 3)).drewN nq5) v4 .i64 [1, 3, 5]) := (HO45.out.below (below_drewN (Below.refl (w4.alloc (.cells #[.int .i64 0, .int .i64 1, .int .i64 1, .int .i64 1, .int .i64 3, .int .i64 (-1)] 3)).heap.size (w4.alloc (.cells #[.int .i64 0, .int .i64 1, .int .i64 1, .int .i64 1, .int .i64 3, .int .i64 (-1)] 3))) nq5)).mono (below_drewN (Below.refl (w4.alloc (.cells #[.int .i64 0, .int .i64 1, .int .i64 1, .int .i64 1, .int .i64 3, .int .i64 (-1)] 3)).heap.size (w4.alloc (.cells #[.int .i64 0, .int .i64 1, .int .i64 1, .int .i64 1, .int .i64 3, .int .i64 (-1)] 3))) nq5).size
  generalize (w4.alloc (.cells #[.int .i64 0, .int .i64 1, .int .i64 1, .int .i64 1, .int .i64 3, .int .i64 (-1)] 3)).drewN nq5 = w5 at *
  clear q
  have a6 : Below w5.heap.size w5 (w5.alloc (.cells #[.int .i64 19, .int .i64 5, .int .i64 10, .int .i64 2, .int .i64 6, .int .i64 2] 3)) := Below.alloc (Below.refl _ _) (Nat.le_refl _) _
  have r6 : Lrd (w5.alloc (.cells #[.int .i64 19, .int .i64 5, .int .i64 10, .int .i64 2, .int .i64 6, .int .i64 2] 3)).heap.size (w5.alloc (.cells #[.int .i64 19, .int .i64 5, .int .i64 10, .int .i64 2, .int .i64 6, .int .i64 2] 3)) (.slice (some ⟨w5.heap.size, 0, none⟩) 6 6) .i64 [19, 5, 10, 2, 6, 2] := ex_lrd (heap_alloc_new w5 (.cells #[.int .i64 19, .int .i64 5, .int .i64 10, .int .i64 2, .int .i64 6, .int .i64 2] 3 (0, 0))) (by simp) [19, 5, 10, 2, 6, 2] rfl
  have q := same17_eq (w5.alloc (.cells #[.int .i64 19, .int .i64 5, .int .i64 10, .int .i64 2, .int .i64 6, .int .i64 2] 3)).heap.size _ _ _ _ ((HO3'z5.out.below a6).mono a6.size) r6 (by decide)
  have HBa6 : Hid (Below W.heap.size W (w5.alloc (.cells #[.int .i64 19, .int .i64 5, .int .i64 10, .int .i64 2, .int .i64 6, .int .i64 2] 3))) := HB5.out.trans (a6.mono HB5.out.size)
  have HO4z56 : Hid (Lrd (w5.alloc (.cells #[.int .i64 19, .int .i64 5, .int .i64 10, .int .i64 2, .int .i64 6, .int .i64 2] 3)).heap.size (w5.alloc (.cells #[.int .i64 19, .int .i64 5, .int .i64 10, .int .i64 2, .int .i64 6, .int .i64 2] 3)) v4 .i64 [1, 3, 5]) := (HO4z5.out.below a6).mono a6.size
  clear r6 a6
  go_wp2_with fail
  refine q.mono ?_
  rintro e w6 ⟨rfl, nq6, rfl⟩
  have HB6 : Hid (Below W.heap.size W ((w5.alloc (.cells #[.int .i64 19, .int .i64 5, .int .i64 10, .int .i64 2, .int .i64 6, .int .i64 2] 3)).drewN nq6)) := below_drewN HBa6.out nq6
  have HO4z5z6 : Hid (Lrd ((w5.alloc (.cells #[.int .i64 19, .int .i64 5, .int .i64 10, .int .i64 2, .int .i64 6, .int .i64 2] 3)).drewN nq6).heap.size ((w5.alloc (.cells #[.int .i64 19, .int .i64 5, .int .i64 10, .int .i64 2, .int .i64 6, .int .i64 2] 3)).drewN nq6) v4 .i64 [1, 3, 5]) := (HO4z56.out.below (below_drewN (Below.refl (w5.alloc (.cells #[.int .i64 19, .int .i64 5, .int .i64 10, .int .i64 2, .int .i64 6, .int .i64 2] 3)).heap.size (w5.alloc (.cells #[.int .i64 19, .int .i64 5, .int .i64 10, .int .i64 2, .int .i64 6, .int .i64 2] 3))) nq6)).mono (below_drewN (Below.refl (w5.alloc (.cells #[.int .i64 19, .int .i64 5, .int .i64 10, .int .i64 2, .int .i64 6, .int .i64 2] 3)).heap.size (w5.alloc (.cells #[.int .i64 19, .int .i64 5, .int .i64 10, .int .i64 2, .int .i64 6, .int .i64 2] 3))) nq6).size
  generalize (w5.alloc (.cells #[.int .i64 19, .int .i64 5, .int .i64 10, .int .i64 2, .int .i64 6, .int .i64 2] 3)).drewN nq6 = w6 at *
  clear q
  have a7 : Below w6.heap.size w6 (w6.alloc (.cells #[.int .i64 1, .int .i64 3, .int .i64 5] 3)) := Below.alloc (Below.refl _ _) (Nat.le_refl _) _
  have r7 : Lrd (w6.alloc (.cells #[.int .i64 1, .int .i64 3, .int .i64 5] 3)).heap.size (w6.alloc (.cells #[.int .i64 1, .int .i64 3, .int .i64 5] 3)) (.slice (some ⟨w6.heap.size, 0, none⟩) 3 3) .i64 [1, 3, 5] := ex_lrd (heap_alloc_new w6 (.cells #[.int .i64 1, .int .i64 3, .int .i64 5] 3 (0, 0))) (by simp) [1, 3, 5] rfl
  have q := same17_eq (w6.alloc (.cells #[.int .i64 1, .int .i64 3, .int .i64 5] 3)).heap.size _ _ _ _ ((HO4z5z6.out.below a7).mono a7.size) r7 (by decide)
  have HBa7 : Hid (Below W.heap.size W (w6.alloc (.cells #[.int .i64 1, .int .i64 3, .int .i64 5] 3))) := HB6.out.trans (a7.mono HB6.out.size)
  clear r7 a7
  go_wp2_with fail
  refine q.mono ?_
  rintro e w7 ⟨rfl, nq7, rfl⟩
  have HB7 : Hid (Below W.heap.size W ((w6.alloc (.cells #[.int .i64 1, .int .i64 3, .int .i64 5] 3)).drewN nq7)) := below_drewN HBa7.out nq7
  generalize (w6.alloc (.cells #[.int .i64 1, .int .i64 3, .int .i64 5] 3)).drewN nq7 = w7 at *
  clear q
  have HE : Hid (Below w.heap.size w w7) := (HX.out w7 HB7.out).1
  go_wp2
  go_ret
  exact ⟨rfl, HE.out⟩
end Go.Proofs.YtkekaifiahjljaaGreatDoor
