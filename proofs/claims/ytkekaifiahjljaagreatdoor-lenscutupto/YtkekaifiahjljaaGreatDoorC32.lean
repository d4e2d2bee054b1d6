import Derived.Test.YtkekaifiahjljaaGreatDoorC29
import Derived.Test.YtkekaifiahjljaaGreatDoorC31
import Derived.Test.YtkekaifiahjljaaGreatDoorC28
import Derived.Test.YtkekaifiahjljaaGreatDoorC17
import Derived.Test.YtkekaifiahjljaaGreatDoorC15
set_option linter.unusedVariables false
set_option maxHeartbeats 8000000
set_option maxRecDepth 20000
namespace Go.Proofs.YtkekaifiahjljaaGreatDoor
open Go.RowKit Go.Shelf Go.Proofs.YtkekaifiahjljaaGreatDoor.Lp
def Pr17 (g : Im.Gr) (t : Int) (l : List Nat) (e : Int) : Prop :=
  (¬ MB g ∧ l = [] ∧ e = 171) ∨ (MB g ∧ ¬ (1 ≤ t ∧ t ≤ g.obs.length) ∧ l = [] ∧ e = 170) ∨ (MB g ∧ 1 ≤ t ∧ t ≤ g.obs.length ∧ e = 0 ∧ Row17 (wy17 g) t.toNat l)
theorem Pr17.uniq {g : Im.Gr} {t : Int} {l l' : List Nat} {e e' : Int} (h : Pr17 g t l e) (h' : Pr17 g t l' e') : l = l' ∧ e = e' := by
  rcases h with ⟨h1, h2, h3⟩ | ⟨h1, h2, h3, h4⟩ | ⟨h1, h2, h3, h4, h5⟩ <;> rcases h' with ⟨k1, k2, k3⟩ | ⟨k1, k2, k3, k4⟩ | ⟨k1, k2, k3, k4, k5⟩
  · exact ⟨h2.trans k2.symm, h3.trans k3.symm⟩
  · exact absurd k1 h1
  · exact absurd k1 h1
  · exact absurd h1 k1
  · exact ⟨h3.trans k3.symm, h4.trans k4.symm⟩
  · exact absurd ⟨k2, k3⟩ h2
  · exact absurd h1 k1
  · exact absurd ⟨h2, h3⟩ k2
  · exact ⟨h5.uniq k5 (by omega), h4.trans k4.symm⟩
structure Big17 (os : List OL) (ts : List (Value × List (Value × List Int))) (g : Im.Gr) : Prop where
  l : Gln os ts g
  s : Sln ts
  o : os.length ≤ 1048576
  e : (slotsF g.slots).length + g.hs.length + g.qu.length + g.rg.length ≤ 1048576 * 2
theorem lPath_any (n0 : Nat) (w : World) (vo vs vh vr vq : Value) (os : List OL) (ts : List (Value × List (Value × List Int))) (g : Im.Gr) (hg : Grd n0 w vo vs vh vr vq os ts g) (hn : n0 ≤ w.heap.size) (hL : Laid w) (hb : Big17 os ts g) (t : Int) (hti : InI t) :
    Calls Tryz.prog 8 #[.agg (gcs vo vs vh vr vq g.next), .int .i64 t] w fun e w' => ∃ (v : Value) (l : List Nat) (er : Int), e = .returned (.tuple #[v, .int .i64 er]) ∧ Il w' w.heap.size v (l.map Int.ofNat) ∧ Below w.heap.size w w' ∧ Pr17 g t l er := by
  have hol : Hid (g.obs.length = os.length) := by show _ = _; rw [hg.eo, List.length_map]
  have l1 : Below w.heap.size w (w.alloc (.cells (gcs vo vs vh vr vq g.next) 27)) := Below.alloc (Below.refl _ _) (Nat.le_refl _) _
  have hx := heap_alloc_new w (.cells (gcs vo vs vh vr vq g.next) 27 (0, 0))
  obtain ⟨oa, oc, eo, -⟩ := id hg.ob
  subst eo
  generalize hW : w.alloc (.cells (gcs (.slice oa os.length oc) vs vh vr vq g.next) 27) = W at *
  have HL1 : Hid (Below w.heap.size w W) := l1
  have HG : Hid (∀ w', Below W.heap.size W w' → w'.heap[w.heap.size]? = some (.cells (gcs (.slice oa os.length oc) vs vh vr vq g.next) 27 (0, 0)) ∧ Below w.heap.size w w' ∧ Grd n0 w' (.slice oa os.length oc) vs vh vr vq os ts g) := fun w' b' => ⟨(b'.block _ (Kg.heap_lt hx)).trans hx, l1.trans (b'.mono l1.size), hg.below ((l1.trans (b'.mono l1.size)).mono hn)⟩
  have q := mayBe_any n0 W (.slice oa os.length oc) vs vh vr vq os ts g (hg.below (l1.mono hn)) (Nat.le_trans hn l1.size) (hL.keep l1) hb.l
  have y0 : W.cell? ⟨w.heap.size, 0, none⟩ = some (.slice oa os.length oc) := Kg.heap_cell hx 0
  have y1 : W.cell? ⟨w.heap.size, 1, none⟩ = some vs := Kg.heap_cell hx 1
  have y2 : W.cell? ⟨w.heap.size, 2, none⟩ = some vh := Kg.heap_cell hx 2
  have y3 : W.cell? ⟨w.heap.size, 3, none⟩ = some vr := Kg.heap_cell hx 3
  have y4 : W.cell? ⟨w.heap.size, 4, none⟩ = some vq := Kg.heap_cell hx 4
  have y5 : W.cell? ⟨w.heap.size, 5, none⟩ = some (.int .u64 (g.next : Int)) := Kg.heap_cell hx 5
  have HBg : Hid (Big17 os ts g) := hb
  clear hg hx l1 hL hb
  go_enter Tryz.func8, Tryz.ntmps8
  go_wp2_with fail
  refine q.mono ?_
  rintro e w1 ⟨r, rfl, b1, hr⟩
  have HB1 : Hid (Below W.heap.size W w1) := b1
  have HR : Hid (r = true ↔ MB g) := hr
  clear q b1 hr y0 y1 y2 y3 y4 y5
  cases r with
  | false =>
    have hm : ¬ MB g := fun h => by have := HR.out.2 h; cases this
    have HM : Hid (¬ MB g) := hm
    have HBo := HG.out w1 HB1.out
    have HB2 : Hid (Below w.heap.size w w1) := HBo.2.1
    clear hm HBo
    go_wp2
    go_ret2
    exact ⟨_, [], 171, rfl, World.ownsRow_nil _ _ _ _, HB2.out, .inl ⟨HM.out, rfl, rfl⟩⟩
  | true =>
    have HM : Hid (MB g) := HR.out.1 rfl
    have y0 : w1.cell? ⟨w.heap.size, 0, none⟩ = some (.slice oa os.length oc) := Kg.heap_cell (HG.out w1 HB1.out).1 0
    have HB2 : Hid (Below w.heap.size w w1) := (HG.out w1 HB1.out).2.1
    have hoI : Hid (os.length ≤ 1048576) := HBg.out.o
    by_cases ht1 : t < 1
    · have g1 : decide (t < 1) = true := decide_eq_true ht1
      go_wp2
      go_ret2
      exact ⟨_, [], 170, rfl, World.ownsRow_nil _ _ _ _, HB2.out, .inr (.inl ⟨HM.out, by omega, rfl, rfl⟩)⟩
    · have g1 : decide (t < 1) = false := decide_eq_false ht1
      by_cases ht2 : (os.length : Int) < t
      · have g2 : decide ((os.length : Int) < t) = true := decide_eq_true ht2
        go_wp2
        go_ret2
        exact ⟨_, [], 170, rfl, World.ownsRow_nil _ _ _ _, HB2.out, .inr (.inl ⟨HM.out, by rw [hol.out]; omega, rfl, rfl⟩)⟩
      · have g2 : decide ((os.length : Int) < t) = false := decide_eq_false ht2
        obtain ⟨tn, rfl⟩ : ∃ tn : Nat, t = (tn : Int) := ⟨t.toNat, by omega⟩
        have q := waysOf_any n0 w1 _ vs vh vr vq os ts g (HG.out w1 HB1.out).2.2 (Nat.le_trans (Nat.le_trans hn HL1.out.size) HB1.out.size) HM.out (by have := hoI.out; omega) HBg.out.s (by have := HBg.out.e; rw [List.length_append]; omega)
        have y1 : w1.cell? ⟨w.heap.size, 1, none⟩ = some vs := Kg.heap_cell (HG.out w1 HB1.out).1 1
        have y2 : w1.cell? ⟨w.heap.size, 2, none⟩ = some vh := Kg.heap_cell (HG.out w1 HB1.out).1 2
        have y3 : w1.cell? ⟨w.heap.size, 3, none⟩ = some vr := Kg.heap_cell (HG.out w1 HB1.out).1 3
        have y4 : w1.cell? ⟨w.heap.size, 4, none⟩ = some vq := Kg.heap_cell (HG.out w1 HB1.out).1 4
        have y5 : w1.cell? ⟨w.heap.size, 5, none⟩ = some (.int .u64 (g.next : Int)) := Kg.heap_cell (HG.out w1 HB1.out).1 5
        go_wp2_with fail
        refine q.mono ?_
        rintro e w2 ⟨vw, rs, rfl, r2, hw2, b2⟩
        have HB3 : Hid (Below w.heap.size w w2) := HB2.out.trans (b2.mono HB2.out.size)
        have HRT : Hid (1 ≤ tn ∧ tn ≤ os.length) := ⟨by omega, by omega⟩
        have q := shortest_any w2 g HM.out (os.length + 1) (by rw [hol.out]) (by have := hoI.out; omega) w1.heap.size vw rs r2 hw2 (fun i => ?_) tn HRT.out.1 (by have := HRT.out.2; omega)
        · obtain ⟨aw, cw, rfl⟩ := own_sl17 r2
          clear r2 hw2 b2 y0 y1 y2 y3 y4 y5
          go_wp2_with fail
          refine q.mono ?_
          rintro e w3 ⟨v3, l, rfl, o1, o2, o3⟩
          have HE : Hid (Il w3 w.heap.size v3 (l.map Int.ofNat) ∧ Below w.heap.size w w3 ∧ Pr17 g (tn : Int) l 0) := ⟨Kg.row_base o1 HB3.out.size, HB3.out.trans (o2.mono HB3.out.size), .inr (.inr ⟨HM.out, by have := HRT.out.1; omega, by rw [hol.out]; have := HRT.out.2; omega, rfl, by rw [Int.toNat_natCast]; exact o3⟩)⟩
          clear q o1 o2 o3
          go_wp2
          go_ret2
          exact ⟨v3, l, 0, rfl, HE.out.1, HE.out.2.1, HE.out.2.2⟩
        · cases i with
          | zero =>
            unfold rw17
            refine Nat.le_trans (List.length_filter_le _ _) ?_
            have := HBg.out.e
            simp only [List.length_append]
            omega
          | succ i =>
            cases ho : g.obs[i]? with
            | none => simp [rw17, ho]
            | some o =>
              simp only [rw17, ho]
              rw [List.length_drop]
              have := (fst_le HM.out (List.mem_of_getElem? ho)).2
              omega
end Go.Proofs.YtkekaifiahjljaaGreatDoor
namespace Go.Proofs.YtkekaifiahjljaaGreatDoor
open Go.RowKit Go.Shelf Go.Proofs.YtkekaifiahjljaaGreatDoor.Lt
theorem tree_field (a b : Option Addr) (n c m d : Nat) (w : World) : (Instr.field 72 (.agg #[.slice a n c, .slice b m d]) 1).run Tryz.prog w = .ok (.slice b m d) w := by kernel_rfl
theorem lDominators_any (n0 : Nat) (w : World) (vo vs vh vr vq : Value) (os : List OL) (ts : List (Value × List (Value × List Int))) (g : Im.Gr) (hg : Grd n0 w vo vs vh vr vq os ts g) (hn : n0 ≤ w.heap.size) (hL : Laid w) (hb : Big19 os ts g) :
    Calls Tryz.prog 9 #[.agg (gcs vo vs vh vr vq g.next)] w fun e w' => ∃ (v : Value) (l : List Int) (er : Int), e = .returned (.tuple #[v, .int .i64 er]) ∧ Lrd w'.heap.size w' v .i64 l ∧ Below w.heap.size w w' ∧ Pd17 g l er := by
  have hol : Hid (g.obs.length = os.length) := by show _ = _; rw [hg.eo, List.length_map]
  have l1 : Below w.heap.size w (w.alloc (.cells (gcs vo vs vh vr vq g.next) 27)) := Below.alloc (Below.refl _ _) (Nat.le_refl _) _
  have hx := heap_alloc_new w (.cells (gcs vo vs vh vr vq g.next) 27 (0, 0))
  obtain ⟨oa, oc, eo, -⟩ := id hg.ob
  subst eo
  generalize hW : w.alloc (.cells (gcs (.slice oa os.length oc) vs vh vr vq g.next) 27) = W at *
  have HL1 : Hid (Below w.heap.size w W) := l1
  have HG : Hid (∀ w', Below W.heap.size W w' → w'.heap[w.heap.size]? = some (.cells (gcs (.slice oa os.length oc) vs vh vr vq g.next) 27 (0, 0)) ∧ Below w.heap.size w w' ∧ Grd n0 w' (.slice oa os.length oc) vs vh vr vq os ts g) := fun w' b' => ⟨(b'.block _ (Kg.heap_lt hx)).trans hx, l1.trans (b'.mono l1.size), hg.below ((l1.trans (b'.mono l1.size)).mono hn)⟩
  have q := mayBe_any n0 W (.slice oa os.length oc) vs vh vr vq os ts g (hg.below (l1.mono hn)) (Nat.le_trans hn l1.size) (hL.keep l1) hb.l
  have y0 : W.cell? ⟨w.heap.size, 0, none⟩ = some (.slice oa os.length oc) := Kg.heap_cell hx 0
  have y1 : W.cell? ⟨w.heap.size, 1, none⟩ = some vs := Kg.heap_cell hx 1
  have y2 : W.cell? ⟨w.heap.size, 2, none⟩ = some vh := Kg.heap_cell hx 2
  have y3 : W.cell? ⟨w.heap.size, 3, none⟩ = some vr := Kg.heap_cell hx 3
  have y4 : W.cell? ⟨w.heap.size, 4, none⟩ = some vq := Kg.heap_cell hx 4
  have y5 : W.cell? ⟨w.heap.size, 5, none⟩ = some (.int .u64 (g.next : Int)) := Kg.heap_cell hx 5
  have HBg : Hid (Big19 os ts g) := hb
  have HEO : Hid (g.obs = os.map (·.o)) := hg.eo
  clear hg hx l1 hL hb
  go_enter Tryz.func9, Tryz.ntmps9
  go_wp2_with fail
  refine q.mono ?_
  rintro e w1 ⟨r, rfl, b1, hr⟩
  have HB1 : Hid (Below W.heap.size W w1) := b1
  have HR : Hid (r = true ↔ MB g) := hr
  clear q b1 hr y0 y1 y2 y3 y4 y5
  cases r with
  | false =>
    have hm : ¬ MB g := fun h => by have := HR.out.2 h; cases this
    have HM : Hid (¬ MB g) := hm
    have HBo := HG.out w1 HB1.out
    have HB2 : Hid (Below w.heap.size w w1) := HBo.2.1
    clear hm HBo
    go_wp2
    go_ret2
    exact ⟨_, [], 171, rfl, Il.lrd (base := 0) (World.ownsRow_nil _ _ _ _), HB2.out, .inl ⟨HM.out, rfl, rfl⟩⟩
  | true =>
    have HM : Hid (MB g) := HR.out.1 rfl
    have HB2 : Hid (Below w.heap.size w w1) := (HG.out w1 HB1.out).2.1
    have hoI := HBg.out.o
    have q := waysOf_any n0 w1 _ vs vh vr vq os ts g (HG.out w1 HB1.out).2.2 (Nat.le_trans (Nat.le_trans hn HL1.out.size) HB1.out.size) HM.out (by omega) HBg.out.s (by have := HBg.out.e; rw [List.length_append]; omega)
    have y0 : w1.cell? ⟨w.heap.size, 0, none⟩ = some (.slice oa os.length oc) := Kg.heap_cell (HG.out w1 HB1.out).1 0
    have y1 : w1.cell? ⟨w.heap.size, 1, none⟩ = some vs := Kg.heap_cell (HG.out w1 HB1.out).1 1
    have y2 : w1.cell? ⟨w.heap.size, 2, none⟩ = some vh := Kg.heap_cell (HG.out w1 HB1.out).1 2
    have y3 : w1.cell? ⟨w.heap.size, 3, none⟩ = some vr := Kg.heap_cell (HG.out w1 HB1.out).1 3
    have y4 : w1.cell? ⟨w.heap.size, 4, none⟩ = some vq := Kg.heap_cell (HG.out w1 HB1.out).1 4
    have y5 : w1.cell? ⟨w.heap.size, 5, none⟩ = some (.int .u64 (g.next : Int)) := Kg.heap_cell (HG.out w1 HB1.out).1 5
    go_wp2_with fail
    refine q.mono ?_
    rintro e w2 ⟨vw, rs, rfl, r2, hw2, b2⟩
    have HB3 : Hid (Below w.heap.size w w2) := HB2.out.trans (b2.mono HB2.out.size)
    obtain ⟨m, hmm⟩ : ∃ m, m = os.length + 1 := ⟨_, rfl⟩
    have HMM : Hid (m = g.obs.length + 1) := by show _ = _; rw [hmm, hol.out]
    rw [← hmm] at r2
    have q1 : 1 ≤ m := by omega
    have q2 : m ≤ 2000000 := by omega
    have q3 : ∀ i, i < m → ∀ y, y ∈ wz17 g i → y < m := fun i _ y hy => by have := wz_lt HM.out i y hy; rw [HMM.out]; exact this
    have q4 : ((List.range m).map (fun a => (wz17 g a).length)).sum ≤ 1000000000 := by rw [hmm]; exact wz_sum HBg.out HEO.out
    have q5 : Wys w2.heap.size w2 vw m (wz17 g) := wys_of HM.out q1 r2 hw2
    obtain ⟨T, hT⟩ : ∃ T, T = 1000000000 := ⟨_, rfl⟩
    rw [← hT] at q4
    have q := treeOf_any w2.heap.size m T (by omega) q1 q2 (wz17 g) q3 q4 vw w2 q5 (Nat.le_refl _)
    clear q3 q4 q5 hT hmm
    obtain ⟨aw, cw, rfl⟩ := own_sl17 r2
    clear r2 hw2 b2 y0 y1 y2 y3 y4 y5
    go_wp2_with fail
    refine q.mono ?_
    rintro e w3 ⟨v0, ab, rfl, hab, b3, ord, f, hI, hF, hT⟩
    obtain ⟨a0, c0, e0⟩ := own_sl17 hI
    subst e0
    have HE : Hid (Below w.heap.size w w3) := HB3.out.trans (b3.mono HB3.out.size)
    have HF : Hid (Fy w3 ab m f) := hF
    have HDm : Hid (Dm17 g ((List.range' 1 g.obs.length).map f)) := hT.dm HM.out HMM.out
    clear q hab b3 hF hT hI
    have hm1 : 1 ≤ m := by omega
    have hfl := tree_field a0 (some ⟨ab, 0, none⟩) ord.length c0 m m
    have HLen : Hid (((List.range' 1 g.obs.length).map f).length = m - 1) := by
      show _ = _
      rw [List.length_map, List.length_range', HMM.out]
      omega
    have HLr : Hid (Lrd w3.heap.size w3 (.slice (some ⟨ab, 1, none⟩) (m - 1) (m - 1)) .i64 ((List.range' 1 g.obs.length).map f)) := by
      refine ⟨some ⟨ab, 1, none⟩, m - 1, by rw [HLen.out], by rw [HLen.out]; exact Nat.le_refl _, fun i z hz => ?_⟩
      have hi := (List.getElem?_eq_some_iff.1 hz).1
      rw [HLen.out] at hi
      rw [List.getElem?_map, List.getElem?_range' (by have := HMM.out; omega)] at hz
      simp only [Option.map_some, Option.some.injEq] at hz
      refine ⟨ab, 1, rfl, HF.out.lt, ?_⟩
      have h9 := HF.out.cell (x := 1 + i) (by omega)
      rw [h9, ← hz]
      simp
    by_cases hm9 : m = 1
    · have HL0 : Hid (Lrd w3.heap.size w3 (.slice (some ⟨ab, 0, none⟩) 0 0) .i64 ((List.range' 1 g.obs.length).map f)) := by
        have e : (List.range' 1 g.obs.length).map f = [] := List.eq_nil_of_length_eq_zero (by rw [HLen.out, hm9])
        show Lrd _ _ _ _ _
        rw [e]
        exact ⟨some ⟨ab, 0, none⟩, 0, rfl, Nat.le_refl _, fun i z hz => by simp at hz⟩
      subst hm9
      go_wp2
      go_ret2
      exact ⟨_, _, 0, rfl, HL0.out, HE.out, .inr ⟨HM.out, rfl, HDm.out⟩⟩
    · go_wp2
      go_ret2
      exact ⟨_, _, 0, rfl, HLr.out, HE.out, .inr ⟨HM.out, rfl, HDm.out⟩⟩
def sm0 (wd : Nat → Nat) (ins : Nat → Bool) : Nat → Nat
  | 0 => 0
  | k + 1 => sm0 wd ins k + (if ins k = true then wd k else 0)
theorem sm0_smb {wd : Nat → Nat} {ins : Nat → Bool} (h : wd 0 = 0) : ∀ k, sm0 wd ins (k + 1) = smb wd ins k
  | 0 => by
    show 0 + _ = 0
    rw [h]
    split <;> rfl
  | k + 1 => by
    have ih := sm0_smb (ins := ins) h k
    show sm0 wd ins (k + 1) + _ = smb wd ins k + _
    rw [ih]
theorem sm0_le {wd : Nat → Nat} {ins : Nat → Bool} {c : Nat} (hc : ∀ x, wd x ≤ c) : ∀ k, sm0 wd ins k ≤ k * c
  | 0 => Nat.zero_le _
  | k + 1 => by
    have ih := sm0_le (ins := ins) hc k
    have h1 := hc k
    show sm0 wd ins k + _ ≤ _
    rw [Nat.succ_mul]
    split <;> omega
theorem met_any (m : Nat) (hm : m ≤ 2000001) (wd : Nat → Nat) (hwd : ∀ x, wd x ≤ 2000000) (n0 : Nat) (w : World) (vw : Value) (hw : Lrd n0 w vw .i64 ((List.range m).map (fun x => (wd x : Int)))) (bb : Nat) (f : Nat → Int) (hb : Fy w bb m f) :
    Calls Tryz.prog 74 #[vw, .slice (some ⟨bb, 0, none⟩) m m] w fun e w' => e = .returned (.int .i64 (sm0 wd (fun x => f x != -1) m : Nat)) ∧ w' = w := by
  obtain ⟨wa, wc, ew, -, hp⟩ := hw
  rw [List.length_map, List.length_range] at ew
  subst ew
  have HP : Hid (∀ x, x < m → ∃ q off, wa = some ⟨q, off, none⟩ ∧ w.cell? ⟨q, off + x, none⟩ = some (.int .i64 (wd x : Nat))) := fun x hx => by
    obtain ⟨q, off, h1, -, h2⟩ := hp x (wd x : Int) (by rw [List.getElem?_map, List.getElem?_range hx]; rfl)
    exact ⟨q, off, h1, h2⟩
  have HB : Hid (∀ x, x < m → w.cell? ⟨bb, x, none⟩ = some (.int .i64 (f x))) := fun x hx => hb.cell hx
  have HWd : Hid (∀ x, wd x ≤ 2000000) := hwd
  clear hp hb hwd
  go_enter Tryz.func74, Tryz.ntmps74
  go_wp2
  go_loopw [5, 6, 7, 10] (fun v5 _ _ v10 wr => ∃ k : Nat, v10 = .int .i64 (k : Nat) ∧ k ≤ m ∧ v5 = .int .i64 (sm0 wd (fun x => f x != -1) k : Nat) ∧ wr = w) (fun _ _ _ v10 _ => m - (intOf v10).toNat)
  case atStart => exact ⟨0, rfl, Nat.zero_le _, rfl, rfl⟩
  case round =>
    obtain ⟨k, rfl, hk, rfl, rfl⟩ := hrel
    by_cases hkm : k < m
    · have hki : (k : Int) < (m : Int) := by omega
      have cb := HB.out k hkm
      obtain ⟨q, off, rfl, cw⟩ := HP.out k hkm
      have hsb := sm0_le (ins := fun x => f x != -1) HWd.out k
      have hsB : sm0 wd (fun x => f x != -1) k ≤ 5000000000000 := by
        have : k * 2000000 ≤ 2000001 * 2000000 := Nat.mul_le_mul_right _ (by omega)
        omega
      have hwk := HWd.out k
      by_cases hf : f k = -1
      · have g1 : (f k != -1) = false := by rw [hf]; rfl
        have HN : Hid (sm0 wd (fun x => f x != -1) (k + 1) = sm0 wd (fun x => f x != -1) k) := by
          show sm0 wd (fun x => f x != -1) k + (if (f k != -1) = true then wd k else 0) = _
          rw [g1]
          rfl
        clear hf
        go_wp2
        go_roundw
        case rel => exact ⟨k + 1, by go_num, by omega, by rw [HN.out], trivial⟩
        case measure => simp [intOf]; omega
      · have g1 : (f k != -1) = true := bne_iff_ne.2 hf
        have HN : Hid (sm0 wd (fun x => f x != -1) (k + 1) = sm0 wd (fun x => f x != -1) k + wd k) := by
          show sm0 wd (fun x => f x != -1) k + (if (f k != -1) = true then wd k else 0) = _
          rw [g1]
          rfl
        clear hf
        generalize sm0 wd (fun x => f x != -1) k = sk at *
        go_wp2
        go_roundw
        case rel => exact ⟨k + 1, by go_num, by omega, by rw [HN.out]; go_num, trivial⟩
        case measure => simp [intOf]; omega
    · have hki : ¬ (k : Int) < (m : Int) := by omega
      have e9 : k = m := by omega
      subst e9
      go_wp2
      go_ret
      exact ⟨rfl, rfl⟩
theorem lsize_any (a b c : Int) (pa ra : Option Addr) (pl pc rl rc : Nat) (hp : pl ≤ 2000000) (hr : rl ≤ 2000000) (w : World) :
    Calls Tryz.prog 75 #[.agg (ocs a b c (.slice pa pl pc) (.slice ra rl rc))] w fun e w' => e = .returned (.int .i64 ((2 + pl + rl : Nat) : Int)) ∧ Below w.heap.size w w' := by
  have l1 : Below w.heap.size w (w.alloc (.cells (ocs a b c (.slice pa pl pc) (.slice ra rl rc)) 39)) := Below.alloc (Below.refl _ _) (Nat.le_refl _) _
  have h1 := heap_alloc_new w (.cells (ocs a b c (.slice pa pl pc) (.slice ra rl rc)) 39 (0, 0))
  have HL : Hid (Below w.heap.size w (w.alloc (.cells (ocs a b c (.slice pa pl pc) (.slice ra rl rc)) 39))) := l1
  generalize hW : w.alloc (.cells (ocs a b c (.slice pa pl pc) (.slice ra rl rc)) 39) = W at *
  have c3 : W.cell? ⟨w.heap.size, 3, none⟩ = some (.slice pa pl pc) := Kg.heap_cell h1 3
  have c4 : W.cell? ⟨w.heap.size, 4, none⟩ = some (.slice ra rl rc) := Kg.heap_cell h1 4
  clear l1 h1
  go_enter Tryz.func75, Tryz.ntmps75
  go_wp2
  go_ret
  refine ⟨?_, HL.out⟩
  congr 2
def wl17 (g : Im.Gr) (m : Nat) : List Int := (List.range m).map (fun x => (wd17 g x : Int))
theorem wordsOf_any (n0 : Nat) (w : World) (vo vs vh vr vq : Value) (os : List OL) (ts : List (Value × List (Value × List Int))) (g : Im.Gr) (hg : Grd n0 w vo vs vh vr vq os ts g) (hn : n0 ≤ w.heap.size) (hw : ∀ x, wd17 g x ≤ 2000000) (hol : os.length ≤ 2000000) :
    Calls Tryz.prog 66 #[.agg (gcs vo vs vh vr vq g.next)] w fun e w' => ∃ v, e = .returned v ∧ Il w' w.heap.size v (wl17 g (os.length + 1)) ∧ Below w.heap.size w w' := by
  have HO : Hid (∀ (i : Nat) x, os[i]? = some x → wd17 g (i + 1) = 2 + x.o.ps.length + x.o.rs.length) := fun i x hx => by
    unfold wd17
    rw [if_neg (by omega), Nat.add_sub_cancel, hg.eo, List.getElem?_map, hx]
    rfl
  have l1 : Below w.heap.size w (w.alloc (.cells (gcs vo vs vh vr vq g.next) 27)) := Below.alloc (Below.refl _ _) (Nat.le_refl _) _
  have hx := heap_alloc_new w (.cells (gcs vo vs vh vr vq g.next) 27 (0, 0))
  obtain ⟨oa, oc, eo, -⟩ := id hg.ob
  subst eo
  generalize hW : w.alloc (.cells (gcs (.slice oa os.length oc) vs vh vr vq g.next) 27) = W at *
  have HL1 : Hid (Below w.heap.size w W) := l1
  have HXB : Hid (∀ w', Below W.heap.size W w' → w'.heap[w.heap.size]? = some (.cells (gcs (.slice oa os.length oc) vs vh vr vq g.next) 27 (0, 0)) ∧ Below w.heap.size w w' ∧ Grd n0 w' (.slice oa os.length oc) vs vh vr vq os ts g) := fun w' b' => ⟨(b'.block _ (Kg.heap_lt hx)).trans hx, l1.trans (b'.mono l1.size), hg.below ((l1.trans (b'.mono l1.size)).mono hn)⟩
  have HWc : Hid (∀ x, wd17 g x ≤ 2000000) := hw
  clear hg hx l1 hw
  obtain ⟨i0, hi0, hj0, hj1, hj2⟩ := info_p17 infoI17
  have HI : Hid (Tryz.prog.info? 3 = some i0 ∧ i0.zero = some (.int .i64 0) ∧ i0.size = 1 ∧ i0.bytes = 8) := ⟨hi0, hj0, hj1, hj2⟩
  clear hi0 hj0 hj1 hj2
  have b1 : Below W.heap.size W (W.alloc (.cells #[.int .i64 0] 3)) := Below.alloc (Below.refl _ _) (Nat.le_refl _) _
  have HB1 : Hid (Below W.heap.size W (W.alloc (.cells #[.int .i64 0] 3))) := b1
  have HI1 : Hid (Il (W.alloc (.cells #[.int .i64 0] 3)) W.heap.size (.slice (some ⟨W.heap.size, 0, none⟩) 1 1) [0]) := row_one W (.int .i64 0) 3
  have y0 : (W.alloc (.cells #[.int .i64 0] 3)).cell? ⟨w.heap.size, 0, none⟩ = some (.slice oa os.length oc) := Kg.heap_cell (HXB.out _ b1).1 0
  clear b1
  go_enter Tryz.func66, Tryz.ntmps66
  go_upto_region 2 with fail
  obtain ⟨B, hB⟩ : ∃ B, B = W.heap.size := ⟨_, rfl⟩
  rw [← hB] at HI1 ⊢
  have HBW : Hid (W.heap.size ≤ B ∧ B < (W.alloc (.cells #[.int .i64 0] 3)).heap.size ∧ w.heap.size ≤ B) := ⟨by omega, by rw [hB]; simp, by rw [hB]; exact HL1.out.size⟩
  clear hB
  generalize W.alloc (.cells #[.int .i64 0] 3) = w1 at *
  go_wp2
  go_loopw [3, 10] (fun v3 v10 wr => ∃ (k : Nat) (a : Option Addr) (c : Nat), v10 = .int .i64 (k : Nat) ∧ k ≤ os.length ∧ v3 = .slice a (k + 1) c ∧ Hid (Il wr B (.slice a (k + 1) c) ((List.range (k + 1)).map (fun x => (wd17 g x : Int)))) ∧ Hid (Below W.heap.size W wr) ∧ Hid (B ≤ wr.heap.size)) (fun _ v10 _ => os.length - (intOf v10).toNat)
  case atStart => exact ⟨0, _, 1, rfl, Nat.zero_le _, rfl, HI1.out, HB1.out, Nat.le_of_lt HBW.out.2.1⟩
  case round =>
    obtain ⟨k, a3, c3, rfl, hk, rfl, R1, R2, R3⟩ := hrel
    clear y0
    by_cases hkl : k < os.length
    · have hki : (k : Int) < (os.length : Int) := by omega
      have hz : os[k]? = some (os[k]'hkl) := List.getElem?_eq_getElem hkl
      generalize os[k]'hkl = o at hz
      obtain ⟨hgb, -, gr⟩ := HXB.out wr R2.out
      obtain ⟨oa', oc', eo, hob⟩ := gr.ob
      simp only [Value.slice.injEq] at eo
      obtain ⟨rfl, -, rfl⟩ := eo
      obtain ⟨lp, lr, qo, off, rfl, hqo, hco⟩ := hob k o hz
      have HWk : Hid (wd17 g (k + 1) = 2 + o.o.ps.length + o.o.rs.length) := HO.out k o hz
      have hwk : 2 + o.o.ps.length + o.o.rs.length ≤ 2000000 := by rw [← HWk.out]; exact HWc.out _
      have c0 := (hco 0 (by omega)).trans (show _ = some (Value.int .u64 (o.o.ser : Int)) from rfl)
      have c1 := (hco 1 (by omega)).trans (show _ = some (Value.int .i64 o.o.kind) from rfl)
      have c2 := (hco 2 (by omega)).trans (show _ = some (Value.int .i64 o.o.site) from rfl)
      have c3' := (hco 3 (by omega)).trans (show _ = some o.vp from rfl)
      have c4 := (hco 4 (by omega)).trans (show _ = some o.vr from rfl)
      rw [Nat.add_zero] at c0
      obtain ⟨pa, pc, ep, -, -⟩ := id lp
      obtain ⟨ra, rc, er, -, -⟩ := id lr
      rw [List.length_map] at er
      rw [ep] at c3'
      rw [er] at c4
      have b5 := Below.alloc (Below.refl wr.heap.size wr) (Nat.le_refl _) (.cells (ocs o.o.ser o.o.kind o.o.site (.slice pa o.o.ps.length pc) (.slice ra o.o.rs.length rc)) 39 (0, 0))
      have h5 := heap_alloc_new wr (.cells (ocs o.o.ser o.o.kind o.o.site (.slice pa o.o.ps.length pc) (.slice ra o.o.rs.length rc)) 39 (0, 0))
      clear hob hco hz gr lp lr hgb ep er
      go_upto_region 5 with fail
      obtain ⟨X, hX⟩ : ∃ X, X = wr.heap.size := ⟨_, rfl⟩
      have B5 : Hid (Below W.heap.size W (wr.alloc (.cells (ocs o.o.ser o.o.kind o.o.site (.slice pa o.o.ps.length pc) (.slice ra o.o.rs.length rc)) 39))) := R2.out.trans (b5.mono R2.out.size)
      have I5 : Hid (Il (wr.alloc (.cells (ocs o.o.ser o.o.kind o.o.site (.slice pa o.o.ps.length pc) (.slice ra o.o.rs.length rc)) 39)) B (.slice a3 (k + 1) c3) ((List.range (k + 1)).map (fun x => (wd17 g x : Int)))) := R1.out.below b5
      have S5 : Hid (B ≤ (wr.alloc (.cells (ocs o.o.ser o.o.kind o.o.site (.slice pa o.o.ps.length pc) (.slice ra o.o.rs.length rc)) 39)).heap.size) := Nat.le_trans R3.out b5.size
      have H5 : Hid ((wr.alloc (.cells (ocs o.o.ser o.o.kind o.o.site (.slice pa o.o.ps.length pc) (.slice ra o.o.rs.length rc)) 39)).heap[X]? = some (.cells (ocs o.o.ser o.o.kind o.o.site (.slice pa o.o.ps.length pc) (.slice ra o.o.rs.length rc)) 39 (0, 0))) := by rw [hX]; exact h5
      change Code.wp _ _ _ _ (wr.alloc (.cells (ocs o.o.ser o.o.kind o.o.site (.slice pa o.o.ps.length pc) (.slice ra o.o.rs.length rc)) 39))
      rw [← hX]
      clear c0 c1 c2 c3' c4 b5 h5 hX R1 R2 R3
      generalize wr.alloc (.cells (ocs o.o.ser o.o.kind o.o.site (.slice pa o.o.ps.length pc) (.slice ra o.o.rs.length rc)) 39) = w5 at *
      have x0 := (Kg.heap_cell H5.out 0).trans (show _ = some (Value.int .u64 (o.o.ser : Int)) from rfl)
      have x1 := (Kg.heap_cell H5.out 1).trans (show _ = some (Value.int .i64 o.o.kind) from rfl)
      have x2 := (Kg.heap_cell H5.out 2).trans (show _ = some (Value.int .i64 o.o.site) from rfl)
      have x3 := (Kg.heap_cell H5.out 3).trans (show _ = some (Value.slice pa o.o.ps.length pc) from rfl)
      have x4 := (Kg.heap_cell H5.out 4).trans (show _ = some (Value.slice ra o.o.rs.length rc) from rfl)
      have q := lsize_any o.o.ser o.o.kind o.o.site pa ra o.o.ps.length pc o.o.rs.length rc (by omega) (by omega) w5
      rw [← HWk.out] at q
      go_wp2_with fail
      refine q.mono ?_
      rintro e w6 ⟨rfl, b6⟩
      have B6 : Hid (Below W.heap.size W w6) := B5.out.trans (b6.mono B5.out.size)
      have I6 : Hid (Il w6 B (.slice a3 (k + 1) c3) ((List.range (k + 1)).map (fun x => (wd17 g x : Int)))) := I5.out.below b6
      have S6 : Hid (B ≤ w6.heap.size) := Nat.le_trans S5.out b6.size
      clear q b6 x0 x1 x2 x3 x4 B5 I5 S5 H5 hwk
      obtain ⟨wk, hwk⟩ : ∃ wk, wk = wd17 g (k + 1) := ⟨_, rfl⟩
      have HKW : Hid (wk = wd17 g (k + 1)) := hwk
      rw [← hwk]
      clear hwk
      have HRow : Hid ((w6.alloc (.cells #[.int .i64 (wk : Nat)] 3)).ownsRow B 3 1 (.slice a3 (k + 1) c3) (k + 1) (Kg.ints ((List.range (k + 1)).map (fun x => (wd17 g x : Int))))) := by
        have h9 := Il.below I6.out (Below.alloc (Below.refl w6.heap.size w6) (Nat.le_refl _) (.cells #[.int .i64 (wk : Nat)] 3))
        unfold Il at h9
        rw [List.length_map, List.length_range] at h9
        exact h9
      go_wp2_with (at_builtin; refine wpList_append_own_at _ rfl _ _ 24 rfl B 3 i0 (.int .i64 0) 1 8 Tryz.underlying24 HI.out.1 HI.out.2.1 HI.out.2.2.1 HI.out.2.2.2 rfl (by decide) _ _ _ rfl HRow.out ⟨w6.heap.size, 0, none⟩ 1 1 [.int .i64 (wk : Nat)] rfl rfl (cell_one17 _ _ _) (by simp [Value.oneCell']) (by simp only [maxLen]; omega) (by omega) (by have := S6.out; simp; omega) ?_; intro v8 w8 h8 g8 _ _)
      go_roundw
      case rel =>
        obtain ⟨y1, y2, y3⟩ := Il.snoc (x := (wk : Nat)) I6.out (by rw [List.length_map, List.length_range]; exact h8) g8 S6.out
        obtain ⟨a8, c8, rfl⟩ := own_sl17 h8
        have e9 : (List.range (k + 1 + 1)).map (fun x => (wd17 g x : Int)) = (List.range (k + 1)).map (fun x => (wd17 g x : Int)) ++ [(wk : Int)] := by
          rw [List.range_succ, List.map_append, HKW.out]
          rfl
        refine ⟨k + 1, a8, c8, by go_num, by omega, rfl, ?_, B6.out.trans (y3.mono HBW.out.1), ?_⟩
        · show Il _ _ _ _
          rw [e9]
          exact y1
        · have h1 := y3.size
          have h2 := S6.out
          show _ ≤ _
          omega
      case measure => simp [intOf]; omega
    · have hki : ¬ (k : Int) < (os.length : Int) := by omega
      have e9 : k = os.length := by omega
      subst e9
      have HE : Hid (Below w.heap.size w wr ∧ Il wr w.heap.size (.slice a3 (os.length + 1) c3) (wl17 g (os.length + 1))) := ⟨(HXB.out wr R2.out).2.1, Kg.row_base R1.out HBW.out.2.2⟩
      clear R1 R2 R3
      go_wp2
      go_ret
      exact ⟨_, rfl, HE.out.2, HE.out.1⟩
end Go.Proofs.YtkekaifiahjljaaGreatDoor
