/-
  Dominators: both Dominators.
-/
import Derived.Test.YtckgcpoheodbcaaDoorDR5
import Derived.Test.YtckgcpoheodbcaaDoorLDC
set_option linter.unusedVariables false
set_option maxRecDepth 20000
namespace Go.Proofs.YtckgcpoheodbcaaDoor
open Go.RowKit Go.Shelf Go.Proofs.YtckgcpoheodbcaaDoor.Lt

/-- How much a graph may be. -/
structure Big18 (os : List OL) (ts : List (Value × List (Value × List Int))) (g : Im.Gr) : Prop where
  l : Gln os ts g
  s : Sln ts
  o : os.length ≤ 1048576
  e : (slotsF g.slots).length + g.hs.length + g.qu.length + g.rg.length ≤ 1048576 * 2
  p : (os.map (·.o.ps.length)).sum ≤ 1048576

theorem sum_r1 {α : Type} (F : Nat → Nat) (h : α → Nat) (obs : List α) (hF : ∀ (i : Nat) o, obs[i]? = some o → F (i + 1) ≤ h o) : ∀ k, k ≤ obs.length → ((List.range' 1 k).map F).sum ≤ ((obs.take k).map h).sum
  | 0, _ => Nat.zero_le _
  | k + 1, hk => by
    have ih := sum_r1 F h obs hF k (by omega)
    have ho : obs[k]? = some (obs[k]'(by omega)) := List.getElem?_eq_getElem (by omega)
    have h1 := hF k _ ho
    rw [List.range'_1_concat, List.map_append, List.sum_append, List.take_add_one, ho, List.map_append, List.sum_append]
    have e2 : 1 + k = k + 1 := by omega
    simp only [e2, List.map_cons, List.map_nil, List.sum_cons, List.sum_nil, Option.toList]
    omega

section
variable {os : List OL} {ts : List (Value × List (Value × List Int))} {g : Im.Gr}

theorem obs_sum (eo : g.obs = os.map (·.o)) (F : Nat → Nat) (hF : ∀ (i : Nat) o, g.obs[i]? = some o → F (i + 1) ≤ o.ps.length) : ((List.range' 1 os.length).map F).sum ≤ (os.map (·.o.ps.length)).sum := by
  have h1 := sum_r1 F (fun o : Im.Ob => o.ps.length) g.obs hF g.obs.length (Nat.le_refl _)
  rw [List.take_length, eo, List.map_map, List.length_map] at h1
  exact h1

theorem wy_sum (hb : Big18 os ts g) (eo : g.obs = os.map (·.o)) : ((List.range' 1 os.length).map (fun x => (wy17 g x).length)).sum ≤ 1000000000 := by
  have h1 := obs_sum eo (fun x => (wy17 g x).length) (fun i o ho => by
    simp only [wy17, ho, List.length_map]
    unfold stg
    have h2 := List.length_filter_le (fun z => decide (0 < z)) (o.ps.drop (fst17 o.kind))
    rw [List.length_drop] at h2
    omega)
  have := hb.p
  omega

/-- The program's ways, as numbers. -/
def wz17 (g : Im.Gr) (i : Nat) : List Nat := (rw17 g i).map Int.toNat

theorem wz_rw (hm : MB g) (i : Nat) : rw17 g i = (wz17 g i).map Int.ofNat := toNat_back _ (fun z hz => (rw_in hm i z hz).1)

theorem wz_lt (hm : MB g) (i y : Nat) (hy : y ∈ wz17 g i) : y < g.obs.length + 1 := by
  obtain ⟨z, hz, rfl⟩ := List.mem_map.1 hy
  have := rw_in hm i z hz
  omega

theorem wy_wz (hm : MB g) (x y : Nat) : y ∈ wy17 g x ↔ y ∈ wz17 g x ∧ y ≠ 0 := by
  rw [wy_rw hm, wz_rw hm]
  constructor
  · rintro ⟨h1, h2⟩
    obtain ⟨z, hz, e⟩ := List.mem_map.1 h1
    cases e
    exact ⟨hz, h2⟩
  · rintro ⟨h1, h2⟩
    exact ⟨List.mem_map.2 ⟨y, h1, rfl⟩, h2⟩

theorem wz_sum (hb : Big18 os ts g) (eo : g.obs = os.map (·.o)) : ((List.range (os.length + 1)).map (fun a => (wz17 g a).length)).sum ≤ 1000000000 := by
  have h1 := obs_sum eo (fun x => (wz17 g x).length) (fun i o ho => by
    simp only [wz17, rw17, ho, List.length_map, List.length_drop]
    omega)
  have h2 : (wz17 g 0).length ≤ 1048576 * 2 := by
    unfold wz17 rw17
    rw [List.length_map]
    refine Nat.le_trans (List.length_filter_le _ _) ?_
    have := hb.e
    simp only [List.length_append]
    omega
  have h3 : List.range (os.length + 1) = 0 :: List.range' 1 os.length := by rw [List.range_eq_range', List.range'_succ]
  rw [h3, List.map_cons, List.sum_cons]
  have := hb.p
  omega

end

/-- What Dominators answers. -/
def Pd17 (g : Im.Gr) (l : List Int) (e : Int) : Prop := (¬ MB g ∧ l = [] ∧ e = 171) ∨ (MB g ∧ e = 0 ∧ Dm17 g l)

theorem Pd17.uniq {g : Im.Gr} {l l' : List Int} {e e' : Int} (h : Pd17 g l e) (h' : Pd17 g l' e') : l = l' ∧ e = e' := by
  rcases h with ⟨h1, h2, h3⟩ | ⟨h1, h2, h3⟩ <;> rcases h' with ⟨k1, k2, k3⟩ | ⟨k1, k2, k3⟩
  · exact ⟨h2.trans k2.symm, h3.trans k3.symm⟩
  · exact absurd k1 h1
  · exact absurd h1 k1
  · exact ⟨h3.uniq k3, h2.trans k2.symm⟩

theorem Pd17.len {g : Im.Gr} {l : List Int} {e : Int} (h : Pd17 g l e) : l.length ≤ g.obs.length := by
  rcases h with ⟨-, h, -⟩ | ⟨-, -, h⟩
  · rw [h]; exact Nat.zero_le _
  · exact Nat.le_of_eq h.1

set_option maxHeartbeats 4000000 in
theorem r17Dominators_no (n0 : Nat) (w : World) (vo vs vh vr vq : Value) (os : List OL) (ts : List (Value × List (Value × List Int))) (g : Im.Gr) (hg : Grd n0 w vo vs vh vr vq os ts g) (hn : n0 ≤ w.heap.size) (hl : Gln os ts g) (hm : ¬ MB g) :
    Calls Tryd.prog 6 #[.agg (gcs vo vs vh vr vq g.next)] w fun e w' => e = .returned (.tuple #[.slice none 0 0, .int .i64 171]) ∧ Below w.heap.size w w' := by
  have l1 : Below w.heap.size w (w.alloc (.cells (gcs vo vs vh vr vq g.next) 27)) := Below.alloc (Below.refl _ _) (Nat.le_refl _) _
  have hx := heap_alloc_new w (.cells (gcs vo vs vh vr vq g.next) 27 (0, 0))
  generalize hW : w.alloc (.cells (gcs vo vs vh vr vq g.next) 27) = W at *
  have y0 : W.cell? ⟨w.heap.size, 0, none⟩ = some vo := Kg.heap_cell hx 0
  have y1 : W.cell? ⟨w.heap.size, 1, none⟩ = some vs := Kg.heap_cell hx 1
  have y2 : W.cell? ⟨w.heap.size, 2, none⟩ = some vh := Kg.heap_cell hx 2
  have y3 : W.cell? ⟨w.heap.size, 3, none⟩ = some vr := Kg.heap_cell hx 3
  have y4 : W.cell? ⟨w.heap.size, 4, none⟩ = some vq := Kg.heap_cell hx 4
  have y5 : W.cell? ⟨w.heap.size, 5, none⟩ = some (.int .u64 (g.next : Int)) := Kg.heap_cell hx 5
  have q := rCheck_any n0 W vo vs vh vr vq os ts g (hg.below (l1.mono hn)) (Nat.le_trans hn l1.size) hl
  have HL1 : Hid _ := l1
  have HM : Hid (¬ MB g) := hm
  clear hg hl hx l1 hm
  go_enter Tryd.func6, Tryd.ntmps6
  go_wp2_with fail
  refine q.mono ?_
  rintro e w1 ⟨r, rfl, b1, hr⟩
  have HB : Hid (Below w.heap.size w w1) := HL1.out.trans (b1.mono HL1.out.size)
  obtain rfl : r = 164 := by
    rcases hr with ⟨-, h⟩ | ⟨h, -⟩
    · exact absurd h HM.out
    · exact h
  clear q b1 hr y0 y1 y2 y3 y4 y5
  go_wp2
  go_ret2
  exact ⟨by simp, HB.out⟩

theorem r17Dominators_any (n0 : Nat) (w : World) (vo vs vh vr vq : Value) (os : List OL) (ts : List (Value × List (Value × List Int))) (g : Im.Gr) (hg : Grd n0 w vo vs vh vr vq os ts g) (hn : n0 ≤ w.heap.size) (hb : Big18 os ts g) :
    Calls Tryd.prog 6 #[.agg (gcs vo vs vh vr vq g.next)] w fun e w' => ∃ (v : Value) (l : List Int) (er : Int), e = .returned (.tuple #[v, .int .i64 er]) ∧ Il w' w.heap.size v l ∧ Below w.heap.size w w' ∧ Pd17 g l er := by
  by_cases hm : MB g
  · refine (r17Dominators_yes n0 w vo vs vh vr vq os ts g hg hn hb.l hm (by have := hb.o; omega) hb.s (by have := hb.e; omega) (wy_sum hb hg.eo)).mono ?_
    rintro e w' ⟨v, rfl, h1, l, h2, h3⟩
    exact ⟨v, l, 0, rfl, h2, h1, .inr ⟨hm, rfl, h3⟩⟩
  · refine (r17Dominators_no n0 w vo vs vh vr vq os ts g hg hn hb.l hm).mono ?_
    rintro e w' ⟨rfl, h2⟩
    exact ⟨_, [], 171, rfl, World.ownsRow_nil _ _ _ _, h2, .inl ⟨hm, rfl, rfl⟩⟩

/-- The tree of a graph's ways tells its dominators. -/
theorem Tre.dm {g : Im.Gr} (hm : MB g) {m : Nat} (hmm : m = g.obs.length + 1) {ord : List Nat} {f : Nat → Int} (h : Tre (wz17 g) m ord f) : Dm17 g ((List.range' 1 g.obs.length).map f) := by
  obtain ⟨par, S, I, hD, hS, hI, hI0, hf⟩ := h.d
  refine ⟨by simp, fun i z hz => ?_⟩
  rw [List.getElem?_map] at hz
  have hi : i < g.obs.length := by
    rcases Nat.lt_or_ge i g.obs.length with h1 | h1
    · exact h1
    · rw [List.getElem?_eq_none (by simpa using h1)] at hz; cases hz
  rw [List.getElem?_range' hi] at hz
  simp only [Option.map_some, Option.some.injEq] at hz
  have e1 : 1 + 1 * i = i + 1 := by omega
  rw [e1] at hz
  have hiff := hD.rv_iff (fun x y => wy_wz hm x y) (x := i + 1)
  by_cases ho : i + 1 ∈ ord
  · obtain ⟨v, hv⟩ := List.getElem?_of_mem ho
    have h0 : v ≠ 0 := fun e => by rw [e, hD.z] at hv; cases hv
    have hvl := (List.getElem?_eq_some_iff.1 hv).1
    have h9 : I v < ord.length := by
      have h1 := (hD.d.idom hS hI v h0 hvl).1
      obtain ⟨h2, -⟩ := hD.d.sem_anc hS h0 hvl
      have h3 := hD.d.le (by omega) h1
      omega
    have hid : ord[I v]? = some (ord[I v]'h9) := List.getElem?_eq_getElem h9
    refine .inl ⟨hiff.2 ⟨ho, by omega⟩, _, hz.symm.trans (hf v _ _ hv hid), ?_⟩
    exact Df.ids0 (fun x y => wy_wz hm x y) hD hS hI h0 hv hid
  · exact .inr ⟨fun hr => ho (hiff.1 hr).1, hz.symm.trans (h.n _ ho)⟩

end Go.Proofs.YtckgcpoheodbcaaDoor
