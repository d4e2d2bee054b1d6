/-
  Shortest paths: both Paths.
-/
import Derived.Test.YtckgcpoheodbcaaGreatDoorLP9
import Derived.Test.YtckgcpoheodbcaaGreatDoorLPF
set_option linter.unusedVariables false
set_option maxRecDepth 20000
namespace Go.Proofs.YtckgcpoheodbcaaGreatDoor
open Go.RowKit Go.Shelf Go.Proofs.YtckgcpoheodbcaaGreatDoor.Lp

/-- What Path answers. -/
def Pr17 (g : Im.Gr) (t : Int) (l : List Nat) (e : Int) : Prop :=
  (¬ MB g ∧ l = [] ∧ e = 171) ∨ (MB g ∧ ¬ (1 ≤ t ∧ t ≤ g.obs.length) ∧ l = [] ∧ e = 170) ∨ (MB g ∧ 1 ≤ t ∧ t ≤ g.obs.length ∧ e = 0 ∧ Row17 (wy17 g) t.toNat l)

theorem Pr17.uniq {g : Im.Gr} {t : Int} {l l' : List Nat} {e e' : Int} (h : Pr17 g t l e) (h' : Pr17 g t l' e') : l = l' ∧ e = e' := by
  rcases h with ⟨h1, h2, h3⟩ | ⟨h1, h2, h3, h4⟩ | ⟨h1, h2, h3, h4, h5⟩ <;> rcases h' with ⟨k1, k2, k3⟩ | ⟨k1, k2, k3, k4⟩ | ⟨k1, k2, k3, k4, k5⟩
  · exact ⟨h2.trans k2.symm, h3.trans k3.symm⟩
  · exact absurd k1 h1
  · exact absurd k1 h1
  · exact absurd h1 k1
  · exact ⟨h3.trans k3.symm, h4.trans k4.symm⟩
  · exact absurd ⟨k2, k3⟩ h2
  · exact absurd h1 k1
  · exact absurd ⟨h2, h3⟩ k2
  · exact ⟨h5.uniq k5 (by omega), h4.trans k4.symm⟩

/-- How much a graph may be. -/
structure Big17 (os : List OL) (ts : List (Value × List (Value × List Int))) (g : Im.Gr) : Prop where
  l : Gln os ts g
  s : Sln ts
  o : os.length ≤ 1048576
  e : (slotsF g.slots).length + g.hs.length + g.qu.length + g.rg.length ≤ 1048576 * 2

theorem r17Path_any (n0 : Nat) (w : World) (vo vs vh vr vq : Value) (os : List OL) (ts : List (Value × List (Value × List Int))) (g : Im.Gr) (hg : Grd n0 w vo vs vh vr vq os ts g) (hn : n0 ≤ w.heap.size) (hb : Big17 os ts g) (t : Int) :
    Calls Tryz.prog 7 #[.agg (gcs vo vs vh vr vq g.next), .int .i64 t] w fun e w' => ∃ (v : Value) (l : List Nat) (er : Int), e = .returned (.tuple #[v, .int .i64 er]) ∧ Il w' w.heap.size v (l.map Int.ofNat) ∧ Below w.heap.size w w' ∧ Pr17 g t l er := by
  have hol : g.obs.length = os.length := by rw [hg.eo, List.length_map]
  by_cases hm : MB g
  · by_cases ht : 1 ≤ t ∧ t ≤ os.length
    · obtain ⟨tn, rfl⟩ : ∃ tn : Nat, t = (tn : Int) := ⟨t.toNat, by omega⟩
      refine (r17Path_yes n0 w vo vs vh vr vq os ts g hg hn hb.l hm tn (by omega) (by omega) (by have := hb.o; omega) hb.s (by have := hb.e; omega) (fun x hx => ?_) (wy17 g) (wy_root hm) (fun i x hx => wy_obj hm (by rw [hg.eo, List.getElem?_map, hx]; rfl)) (fun z y hy => by have := wy_in hm z y hy; omega)).mono ?_
      · have := (fst_le hm (o := x.o) (by rw [hg.eo]; exact List.mem_map_of_mem hx)).2
        omega
      · rintro e w' ⟨v, l, rfl, h1, h2, h3⟩
        exact ⟨v, l, 0, rfl, h1, h2, .inr (.inr ⟨hm, by omega, by omega, rfl, by rw [Int.toNat_natCast]; exact h3⟩)⟩
    · refine (r17Path_out n0 w vo vs vh vr vq os ts g hg hn hb.l hm t ht).mono ?_
      rintro e w' ⟨rfl, h2⟩
      exact ⟨_, [], 170, rfl, World.ownsRow_nil _ _ _ _, h2, .inr (.inl ⟨hm, by rw [hol]; exact ht, rfl, rfl⟩)⟩
  · refine (r17Path_no n0 w vo vs vh vr vq os ts g hg hn hb.l hm t).mono ?_
    rintro e w' ⟨rfl, h2⟩
    exact ⟨_, [], 171, rfl, World.ownsRow_nil _ _ _ _, h2, .inl ⟨hm, rfl, rfl⟩⟩

set_option maxHeartbeats 4000000 in
theorem lPath_any (n0 : Nat) (w : World) (vo vs vh vr vq : Value) (os : List OL) (ts : List (Value × List (Value × List Int))) (g : Im.Gr) (hg : Grd n0 w vo vs vh vr vq os ts g) (hn : n0 ≤ w.heap.size) (hL : Laid w) (hb : Big17 os ts g) (t : Int) (hti : InI t) :
    Calls Tryz.prog 6 #[.agg (gcs vo vs vh vr vq g.next), .int .i64 t] w fun e w' => ∃ (v : Value) (l : List Nat) (er : Int), e = .returned (.tuple #[v, .int .i64 er]) ∧ Il w' w.heap.size v (l.map Int.ofNat) ∧ Below w.heap.size w w' ∧ Pr17 g t l er := by
  have hol : Hid (g.obs.length = os.length) := by show _ = _; rw [hg.eo, List.length_map]
  have l1 : Below w.heap.size w (w.alloc (.cells (gcs vo vs vh vr vq g.next) 27)) := Below.alloc (Below.refl _ _) (Nat.le_refl _) _
  have hx := heap_alloc_new w (.cells (gcs vo vs vh vr vq g.next) 27 (0, 0))
  obtain ⟨oa, oc, eo, -⟩ := id hg.ob
  subst eo
  generalize hW : w.alloc (.cells (gcs (.slice oa os.length oc) vs vh vr vq g.next) 27) = W at *
  have HL1 : Hid (Below w.heap.size w W) := l1
  have HG : Hid (∀ w', Below W.heap.size W w' → w'.heap[w.heap.size]? = some (.cells (gcs (.slice oa os.length oc) vs vh vr vq g.next) 27 (0, 0)) ∧ Below w.heap.size w w' ∧ Grd n0 w' (.slice oa os.length oc) vs vh vr vq os ts g) := fun w' b' => ⟨(b'.block _ (Kg.heap_lt hx)).trans hx, l1.trans (b'.mono l1.size), hg.below ((l1.trans (b'.mono l1.size)).mono hn)⟩
  have q := mayBe_any n0 W (.slice oa os.length oc) vs vh vr vq os ts g (hg.below (l1.mono hn)) (Nat.le_trans hn l1.size) (hL.keep l1) hb.l
  have y0 : W.cell? ⟨w.heap.size, 0, none⟩ = some (.slice oa os.length oc) := Kg.heap_cell hx 0
  have y1 : W.cell? ⟨w.heap.size, 1, none⟩ = some vs := Kg.heap_cell hx 1
  have y2 : W.cell? ⟨w.heap.size, 2, none⟩ = some vh := Kg.heap_cell hx 2
  have y3 : W.cell? ⟨w.heap.size, 3, none⟩ = some vr := Kg.heap_cell hx 3
  have y4 : W.cell? ⟨w.heap.size, 4, none⟩ = some vq := Kg.heap_cell hx 4
  have y5 : W.cell? ⟨w.heap.size, 5, none⟩ = some (.int .u64 (g.next : Int)) := Kg.heap_cell hx 5
  have HBg : Hid (Big17 os ts g) := hb
  clear hg hx l1 hL hb
  go_enter Tryz.func6, Tryz.ntmps6
  go_wp2_with fail
  refine q.mono ?_
  rintro e w1 ⟨r, rfl, b1, hr⟩
  have HB1 : Hid (Below W.heap.size W w1) := b1
  have HR : Hid (r = true ↔ MB g) := hr
  clear q b1 hr y0 y1 y2 y3 y4 y5
  cases r with
  | false =>
    have hm : ¬ MB g := fun h => by have := HR.out.2 h; cases this
    have HM : Hid (¬ MB g) := hm
    have HBo := HG.out w1 HB1.out
    have HB2 : Hid (Below w.heap.size w w1) := HBo.2.1
    clear hm HBo
    go_wp2
    go_ret2
    exact ⟨_, [], 171, rfl, World.ownsRow_nil _ _ _ _, HB2.out, .inl ⟨HM.out, rfl, rfl⟩⟩
  | true =>
    have HM : Hid (MB g) := HR.out.1 rfl
    have y0 : w1.cell? ⟨w.heap.size, 0, none⟩ = some (.slice oa os.length oc) := Kg.heap_cell (HG.out w1 HB1.out).1 0
    have HB2 : Hid (Below w.heap.size w w1) := (HG.out w1 HB1.out).2.1
    have hoI : Hid (os.length ≤ 1048576) := HBg.out.o
    by_cases ht1 : t < 1
    · have g1 : decide (t < 1) = true := decide_eq_true ht1
      go_wp2
      go_ret2
      exact ⟨_, [], 170, rfl, World.ownsRow_nil _ _ _ _, HB2.out, .inr (.inl ⟨HM.out, by omega, rfl, rfl⟩)⟩
    · have g1 : decide (t < 1) = false := decide_eq_false ht1
      by_cases ht2 : (os.length : Int) < t
      · have g2 : decide ((os.length : Int) < t) = true := decide_eq_true ht2
        go_wp2
        go_ret2
        exact ⟨_, [], 170, rfl, World.ownsRow_nil _ _ _ _, HB2.out, .inr (.inl ⟨HM.out, by rw [hol.out]; omega, rfl, rfl⟩)⟩
      · have g2 : decide ((os.length : Int) < t) = false := decide_eq_false ht2
        obtain ⟨tn, rfl⟩ : ∃ tn : Nat, t = (tn : Int) := ⟨t.toNat, by omega⟩
        have q := waysOf_any n0 w1 _ vs vh vr vq os ts g (HG.out w1 HB1.out).2.2 (Nat.le_trans (Nat.le_trans hn HL1.out.size) HB1.out.size) HM.out (by have := hoI.out; omega) HBg.out.s (by have := HBg.out.e; rw [List.length_append]; omega)
        have y1 : w1.cell? ⟨w.heap.size, 1, none⟩ = some vs := Kg.heap_cell (HG.out w1 HB1.out).1 1
        have y2 : w1.cell? ⟨w.heap.size, 2, none⟩ = some vh := Kg.heap_cell (HG.out w1 HB1.out).1 2
        have y3 : w1.cell? ⟨w.heap.size, 3, none⟩ = some vr := Kg.heap_cell (HG.out w1 HB1.out).1 3
        have y4 : w1.cell? ⟨w.heap.size, 4, none⟩ = some vq := Kg.heap_cell (HG.out w1 HB1.out).1 4
        have y5 : w1.cell? ⟨w.heap.size, 5, none⟩ = some (.int .u64 (g.next : Int)) := Kg.heap_cell (HG.out w1 HB1.out).1 5
        go_wp2_with fail
        refine q.mono ?_
        rintro e w2 ⟨vw, rs, rfl, r2, hw2, b2⟩
        have HB3 : Hid (Below w.heap.size w w2) := HB2.out.trans (b2.mono HB2.out.size)
        have HRT : Hid (1 ≤ tn ∧ tn ≤ os.length) := ⟨by omega, by omega⟩
        have q := shortest_any w2 g HM.out (os.length + 1) (by rw [hol.out]) (by have := hoI.out; omega) w1.heap.size vw rs r2 hw2 (fun i => ?_) tn HRT.out.1 (by have := HRT.out.2; omega)
        · obtain ⟨aw, cw, rfl⟩ := own_sl17 r2
          clear r2 hw2 b2 y0 y1 y2 y3 y4 y5
          go_wp2_with fail
          refine q.mono ?_
          rintro e w3 ⟨v3, l, rfl, o1, o2, o3⟩
          have HE : Hid (Il w3 w.heap.size v3 (l.map Int.ofNat) ∧ Below w.heap.size w w3 ∧ Pr17 g (tn : Int) l 0) := ⟨Kg.row_base o1 HB3.out.size, HB3.out.trans (o2.mono HB3.out.size), .inr (.inr ⟨HM.out, by have := HRT.out.1; omega, by rw [hol.out]; have := HRT.out.2; omega, rfl, by rw [Int.toNat_natCast]; exact o3⟩)⟩
          clear q o1 o2 o3
          go_wp2
          go_ret2
          exact ⟨v3, l, 0, rfl, HE.out.1, HE.out.2.1, HE.out.2.2⟩
        · cases i with
          | zero =>
            unfold rw17
            refine Nat.le_trans (List.length_filter_le _ _) ?_
            have := HBg.out.e
            simp only [List.length_append]
            omega
          | succ i =>
            cases ho : g.obs[i]? with
            | none => simp [rw17, ho]
            | some o =>
              simp only [rw17, ho]
              rw [List.length_drop]
              have := (fst_le HM.out (List.mem_of_getElem? ho)).2
              omega

end Go.Proofs.YtckgcpoheodbcaaGreatDoor
