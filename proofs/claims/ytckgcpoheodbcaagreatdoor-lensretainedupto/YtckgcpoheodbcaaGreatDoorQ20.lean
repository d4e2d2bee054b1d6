import Derived.Test.YtckgcpoheodbcaaGreatDoorQ19
import Derived.Test.YtckgcpoheodbcaaGreatDoorQ10
import Derived.Test.YtckgcpoheodbcaaGreatDoorQ18
import Derived.Deep.CutBlock
set_option linter.unusedVariables false
set_option maxHeartbeats 8000000
set_option maxRecDepth 20000
namespace Go.Proofs.YtckgcpoheodbcaaGreatDoor.Lt
variable {W : Nat → List Nat} {P : List (Nat × Nat × Nat)} {d M : Nat} {ins : Nat → Bool}
def Cl (W : Nat → List Nat) (P : List (Nat × Nat × Nat)) (d : Nat) (ins : Nat → Bool) (x : Nat) : Prop := (∀ y, y ∈ W x → y ≠ d → ins y = true) ∧ ∀ k v, (x, k, v) ∈ P → ins k = true → v ≠ d → ins v = true
structure Rd (W : Nat → List Nat) (P : List (Nat × Nat × Nat)) (d : Nat) (ins : Nat → Bool) : Prop where
 s : ∀ x, ins x = true → Re W P d x
 r : ∀ y, y ∈ W 0 → y ≠ d → ins y = true
theorem Rd.add (h : Rd W P d ins) {x : Nat} (hx : Re W P d x) : Rd W P d (inw ins x) := by
 refine ⟨fun y hy => ?_, fun y h1 h2 => ?_⟩
 ·by_cases e : y = x
  ·rw [e]; exact hx
  ·rw [inw_ne e] at hy; exact h.s y hy
 ·by_cases e : y = x
  ·rw [e]; exact inw_at
  ·rw [inw_ne e]; exact h.r y h1 h2
structure Rn2 (W : Nat → List Nat) (P : List (Nat × Nat × Nat)) (d M : Nat) (i0 ins : Nat → Bool) (n : Nat) (more : Bool) : Prop where
 rd : Rd W P d ins
 m : (more = false ∧ ins = i0 ∧ ∀ x, 1 ≤ x → x < n → ins x = true → Cl W P d ins x) ∨ (more = true ∧ uw (fun _ => 1) ins (List.range' 1 M) < uw (fun _ => 1) i0 (List.range' 1 M))
theorem Rn2.start (h : Rd W P d ins) : Rn2 W P d M ins ins 1 false := ⟨h, .inl ⟨rfl, rfl, fun x h1 h2 => by omega⟩⟩
theorem Rn2.out_ {i0 : Nat → Bool} {n : Nat} {more : Bool} (h : Rn2 W P d M i0 ins n more) (hn : ins n = false) : Rn2 W P d M i0 ins (n + 1) more := by
 refine ⟨h.rd, ?_⟩
 rcases h.m with ⟨h1, h2, h3⟩ | h1
 ·refine .inl ⟨h1, h2, fun x x1 x2 x3 => ?_⟩
  by_cases e : x = n
  ·rw [e, hn] at x3; cases x3
  ·exact h3 x x1 (by omega) x3
 ·exact .inr h1
theorem Rn2.closed {i0 : Nat → Bool} {n : Nat} {more : Bool} (h : Rn2 W P d M i0 ins n more) (hn : more = false → Cl W P d ins n) : Rn2 W P d M i0 ins (n + 1) more := by
 refine ⟨h.rd, ?_⟩
 rcases h.m with ⟨h1, h2, h3⟩ | h1
 ·refine .inl ⟨h1, h2, fun x x1 x2 x3 => ?_⟩
  by_cases e : x = n
  ·rw [e]; exact hn h1
  ·exact h3 x x1 (by omega) x3
 ·exact .inr h1
theorem Rn2.more {i0 : Nat → Bool} {n : Nat} {more : Bool} (h : Rn2 W P d M i0 ins n more) {x : Nat} (hx : Re W P d x) (hi : ins x = false) (hM : 1 ≤ x ∧ x ≤ M) : Rn2 W P d M i0 (inw ins x) n true := by
 refine ⟨h.rd.add hx, .inr ⟨rfl, ?_⟩⟩
 have h1 := uw_in (f := fun _ => 1) hi (List.range' 1 M) (List.nodup_range' ..) (List.mem_range'_1.2 ⟨hM.1, by omega⟩)
 rcases h.m with ⟨-, h2, -⟩ | ⟨-, h2⟩
 ·rw [h2] at h1
  rw [h2]
  omega
 ·omega
theorem Rn2.done {i0 : Nat → Bool} {n : Nat} (h : Rn2 W P d M i0 ins n false) (hn : M < n) (hM : ∀ x, Re W P d x → 1 ≤ x ∧ x ≤ M) (x : Nat) : ins x = true ↔ Re W P d x := by
 obtain ⟨-, -, h3⟩ := h.m.resolve_right (fun k => by cases k.1)
 have cl : ∀ y, ins y = true → Cl W P d ins y := fun y hy => by
  have := hM y (h.rd.s y hy)
  exact h3 y this.1 (by omega) hy
 refine ⟨h.rd.s x, fun hr => ?_⟩
 induction hr with
 | root h1 h2 => exact h.rd.r _ h1 h2
 | step _ h1 h2 ih => exact (cl _ ih).1 _ h1 h2
 | eph h1 _ _ h2 ih1 ih2 => exact (cl _ ih1).2 _ _ h1 ih2 h2
end Go.Proofs.YtckgcpoheodbcaaGreatDoor.Lt
namespace Go.Proofs.YtckgcpoheodbcaaGreatDoor
open Go.RowKit Go.Shelf Go.Proofs.YtckgcpoheodbcaaGreatDoor.Lt
def oe17 (o : Im.Ob) (i : Nat) : Option (Nat × Nat × Nat) :=
 match o.ps with
 | k :: v :: _ => if o.kind = 3 ∧ k ≠ 0 ∧ v ≠ 0 then some (i + 1, k.toNat, v.toNat) else none
 | _ => none
def pk17 (g : Im.Gr) (k : Nat) : List (Nat × Nat × Nat) := (List.range k).filterMap (fun i => (g.obs[i]?).bind (fun o => oe17 o i))
def pe17 (g : Im.Gr) : List (Nat × Nat × Nat) := pk17 g g.obs.length
theorem pk_step {g : Im.Gr} {k : Nat} {o : Im.Ob} (h : g.obs[k]? = some o) : pk17 g (k + 1) = pk17 g k ++ (oe17 o k).toList := by
 unfold pk17
 rw [List.range_succ, List.filterMap_append]
 congr 1
 simp only [List.filterMap_cons, List.filterMap_nil, h, Option.bind_some]
 cases oe17 o k <;> rfl
theorem pk_len (g : Im.Gr) (k : Nat) : (pk17 g k).length ≤ k := by
 unfold pk17
 have := List.length_filterMap_le (fun i => (g.obs[i]?).bind (fun o => oe17 o i)) (List.range k)
 rw [List.length_range] at this
 exact this
theorem oe_iff {o : Im.Ob} {i : Nat} {e : Nat × Nat × Nat} (h0 : ∀ z, z ∈ o.ps → 0 ≤ z) : oe17 o i = some e ↔ o.kind = 3 ∧ e.1 = i + 1 ∧ o.ps[0]? = some (e.2.1 : Int) ∧ o.ps[1]? = some (e.2.2 : Int) ∧ e.2.1 ≠ 0 ∧ e.2.2 ≠ 0 := by
 obtain ⟨a, b, c⟩ := e
 unfold oe17
 cases hp : o.ps with
 | nil => simp
 | cons k r =>
  cases r with
  | nil => simp
  | cons v r =>
   have hk := h0 k (by rw [hp]; simp)
   have hv := h0 v (by rw [hp]; simp)
   by_cases hc : o.kind = 3 ∧ k ≠ 0 ∧ v ≠ 0
   ·simp only [if_pos hc, Option.some.injEq, Prod.mk.injEq, List.getElem?_cons_zero, List.getElem?_cons_succ]
    constructor
    ·rintro ⟨rfl, rfl, rfl⟩
     exact ⟨hc.1, rfl, by omega, by omega, by omega, by omega⟩
    ·rintro ⟨-, h1, h2, h3, -, -⟩
     exact ⟨h1.symm, by omega, by omega⟩
   ·simp only [if_neg hc, List.getElem?_cons_zero, List.getElem?_cons_succ, Option.some.injEq]
    constructor
    ·intro h; cases h
    ·rintro ⟨h1, -, h2, h3, h4, h5⟩
     exact absurd ⟨h1, by omega, by omega⟩ hc
theorem mem_pe {g : Im.Gr} (hm : MB g) {e : Nat × Nat × Nat} : e ∈ pe17 g ↔ ∃ o, 1 ≤ e.1 ∧ g.obs[e.1 - 1]? = some o ∧ o.kind = 3 ∧ o.ps[0]? = some (e.2.1 : Int) ∧ o.ps[1]? = some (e.2.2 : Int) ∧ e.2.1 ≠ 0 ∧ e.2.2 ≠ 0 := by
 unfold pe17 pk17
 rw [List.mem_filterMap]
 constructor
 ·rintro ⟨i, hi, h⟩
  cases ho : g.obs[i]? with
  | none => rw [ho] at h; cases h
  | some o =>
   rw [ho, Option.bind_some] at h
   obtain ⟨h1, h2, h3, h4, h5, h6⟩ := (oe_iff (fun z hz => (ps_in hm ho hz).1)).1 h
   refine ⟨o, by omega, ?_, h1, h3, h4, h5, h6⟩
   rw [h2, Nat.add_sub_cancel]
   exact ho
 ·rintro ⟨o, h0, ho, h1, h3, h4, h5, h6⟩
  refine ⟨e.1 - 1, List.mem_range.2 (List.getElem?_eq_some_iff.1 ho).1, ?_⟩
  rw [ho, Option.bind_some]
  exact (oe_iff (fun z hz => (ps_in hm ho hz).1)).2 ⟨h1, by omega, h3, h4, h5, h6⟩
theorem pe_in {g : Im.Gr} (hm : MB g) {i k v : Nat} (h : (i, k, v) ∈ pe17 g) : (1 ≤ i ∧ i ≤ g.obs.length) ∧ (1 ≤ k ∧ k ≤ g.obs.length) ∧ (1 ≤ v ∧ v ≤ g.obs.length) := by
 obtain ⟨o, h0, ho, h1, h3, h4, h5, h6⟩ := (mem_pe hm).1 h
 simp only at h0 ho h3 h4 h5 h6
 have hl := (List.getElem?_eq_some_iff.1 ho).1
 have a := ps_in hm ho (List.mem_of_getElem? h3)
 have b := ps_in hm ho (List.mem_of_getElem? h4)
 omega
def wd17 (g : Im.Gr) (x : Nat) : Nat := if x = 0 then 0 else match g.obs[x - 1]? with
 | some o => 2 + o.ps.length + o.rs.length
 | none => 0
def Dr17 (g : Im.Gr) (l : List Int) : Prop := l.length = g.obs.length ∧ ∀ (i : Nat) z, l[i]? = some z → (Re (wy17 g) (pe17 g) 0 (i + 1) ∧ z = (rs (wd17 g) (wy17 g) (pe17 g) g.obs.length 0 : Int) - (rs (wd17 g) (wy17 g) (pe17 g) g.obs.length (i + 1) : Int)) ∨ (¬ Re (wy17 g) (pe17 g) 0 (i + 1) ∧ z = 0)
theorem Dr17.uniq {g : Im.Gr} {l l' : List Int} (h : Dr17 g l) (h' : Dr17 g l') : l = l' := by
 refine List.ext_getElem? (fun i => ?_)
 rcases Nat.lt_or_ge i l.length with h1 | h1
 ·have h2 : i < l'.length := by have := h.1; have := h'.1; omega
  obtain ⟨z, hz⟩ : ∃ z, l[i]? = some z := ⟨_, List.getElem?_eq_getElem h1⟩
  obtain ⟨z', hz'⟩ : ∃ z, l'[i]? = some z := ⟨_, List.getElem?_eq_getElem h2⟩
  rw [hz, hz']
  congr 1
  rcases h.2 i z hz with ⟨a1, a2⟩ | ⟨a1, a2⟩ <;> rcases h'.2 i z' hz' with ⟨c1, c2⟩ | ⟨c1, c2⟩
  ·rw [a2, c2]
  ·exact absurd a1 c1
  ·exact absurd c1 a1
  ·rw [a2, c2]
 ·rw [List.getElem?_eq_none h1, List.getElem?_eq_none (by have := h.1; have := h'.1; omega)]
def Pr18 (g : Im.Gr) (l : List Int) (e : Int) : Prop := (¬ MB g ∧ l = [] ∧ e = 171) ∨ (MB g ∧ e = 0 ∧ Dr17 g l)
theorem Pr18.uniq {g : Im.Gr} {l l' : List Int} {e e' : Int} (h : Pr18 g l e) (h' : Pr18 g l' e') : l = l' ∧ e = e' := by
 rcases h with ⟨h1, h2, h3⟩ | ⟨h1, h2, h3⟩ <;> rcases h' with ⟨k1, k2, k3⟩ | ⟨k1, k2, k3⟩
 ·exact ⟨h2.trans k2.symm, h3.trans k3.symm⟩
 ·exact absurd k1 h1
 ·exact absurd h1 k1
 ·exact ⟨h3.uniq k3, h2.trans k2.symm⟩
theorem Pr18.len {g : Im.Gr} {l : List Int} {e : Int} (h : Pr18 g l e) : l.length ≤ g.obs.length := by
 rcases h with ⟨-, h, -⟩ | ⟨-, -, h⟩
 ·rw [h]; exact Nat.zero_le _
 ·exact Nat.le_of_eq h.1
def Lse (P : Nat → Prop) (j : Nat) : Prop := P j ∧ ∀ i, P i → j ≤ i
theorem Lse.ex {P : Nat → Prop} (h : ∃ j, P j) : ∃ j, Lse P j := by
 obtain ⟨j, hj⟩ := h
 induction j using Nat.strongRecOn with
 | _ j ih =>
  by_cases e : ∃ i, i < j ∧ P i
  ·obtain ⟨i, h1, h2⟩ := e
   exact ih i h1 h2
  ·exact ⟨j, hj, fun i hi => Nat.le_of_not_lt fun hl => e ⟨i, hl, hi⟩⟩
theorem epe_spec {P : Nat → Prop} (h : ∃ j, P j) : P (Classical.epsilon (Lse P)) := (Classical.epsilon_spec (Lse.ex h)).1
theorem epe_le {P : Nat → Prop} {j : Nat} (h : P j) : Classical.epsilon (Lse P) ≤ j := (Classical.epsilon_spec (Lse.ex ⟨j, h⟩)).2 j h
def Cxy (g : Im.Gr) (n : Nat) (ins : Nat → Bool) (ps : List Int) (cx : Bool) : Prop := (cx = true → ∃ k v, (n, k, v) ∈ pe17 g ∧ ins k = true ∧ ps[1]? = some ((v : Nat) : Int)) ∧ (cx = false → ∀ k v, (n, k, v) ∈ pe17 g → ins k = true → False)
def RdM (g : Im.Gr) (d m bb : Nat) (W : World) (v8 : Value) (wr : World) (j : Nat) : Prop :=
 ∃ (more : Bool) (ins : Nat → Bool), v8 = .bool more ∧ Fb wr bb m ins ∧ Below W.heap.size W wr ∧ Rd (wy17 g) (pe17 g) d ins ∧ (more = false → ∀ x, ins x = true ↔ Re (wy17 g) (pe17 g) d x) ∧ j = uw (fun _ => 1) ins (List.range' 1 g.obs.length) + (if more = true then 1 else 0)
set_option maxHeartbeats 16000000 in
theorem reach17_any (d : Nat) (n0 : Nat) (w : World) (vo vs vh vr vq : Value) (os : List OL) (ts : List (Value × List (Value × List Int))) (g : Im.Gr) (hg : Grd n0 w vo vs vh vr vq os ts g) (hn : n0 ≤ w.heap.size) (hm : MB g) (hs : Sln ts) (hol : os.length ≤ 2000000)
  (hel : (slotsF g.slots).length + g.hs.length + g.qu.length + g.rg.length ≤ 1000000000) :
  Calls Tryz.prog 34 #[.agg (gcs vo vs vh vr vq g.next), .int .i64 (d : Nat)] w fun e w' => ∃ (bb : Nat), e = .returned (.slice (some ⟨bb, 0, none⟩) (os.length + 1) (os.length + 1)) ∧ w.heap.size ≤ bb ∧ Below w.heap.size w w' ∧ ∃ ins : Nat → Bool, Fb w' bb (os.length + 1) ins ∧ ∀ x, ins x = true ↔ Re (wy17 g) (pe17 g) d x := by
 have hol2 : g.obs.length = os.length := by rw [hg.eo, List.length_map]
 have HO : Hid (∀ (i : Nat) x, os[i]? = some x → g.obs[i]? = some x.o) := fun i x hx => by rw [hg.eo, List.getElem?_map, hx]; rfl
 have l1 : Below w.heap.size w (w.alloc (.cells (gcs vo vs vh vr vq g.next) 27)) := Below.alloc (Below.refl _ _) (Nat.le_refl _) _
 have hx := heap_alloc_new w (.cells (gcs vo vs vh vr vq g.next) 27 (0, 0))
 obtain ⟨oa, oc, eo, -⟩ := id hg.ob
 subst eo
 generalize hW : w.alloc (.cells (gcs (.slice oa os.length oc) vs vh vr vq g.next) 27) = W at *
 have y0 : W.cell? ⟨w.heap.size, 0, none⟩ = some (.slice oa os.length oc) := Kg.heap_cell hx 0
 have HL1 : Hid (Below w.heap.size w W) := l1
 have HM : Hid (MB g) := hm
 have HOL : Hid (g.obs.length = os.length) := hol2
 have HXB : Hid (∀ w', Below W.heap.size W w' → w'.heap[w.heap.size]? = some (.cells (gcs (.slice oa os.length oc) vs vh vr vq g.next) 27 (0, 0)) ∧ Below w.heap.size w w' ∧ Grd n0 w' (.slice oa os.length oc) vs vh vr vq os ts g) := fun w' b' => ⟨(b'.block _ (Kg.heap_lt hx)).trans hx, l1.trans (b'.mono l1.size), hg.below ((l1.trans (b'.mono l1.size)).mono hn)⟩
 clear hg hx l1 hm hol2
 obtain ⟨m, hmm⟩ : ∃ m, m = os.length + 1 := ⟨_, rfl⟩
 have hmI : (os.length : Int) + 1 = (m : Int) := by omega
 have hmk := make_bools m (by omega)
 have hm2 : m ≤ 2000001 := by omega
 have Hmm : Hid (m = os.length + 1) := hmm
 rw [← hmm]
 clear hmm
 have HB1 : Hid (Below W.heap.size W (W.alloc (.cells (madeCells #[.bool false] m) 4))) := Below.alloc (Below.refl _ _) (Nat.le_refl _) _
 have HF1 : Hid (Fb (W.alloc (.cells (madeCells #[.bool false] m) 4)) W.heap.size m (fun _ => false)) := Fb.new W m
 go_enter Tryz.func34, Tryz.ntmps34
 go_upto_region 2 with fail
 clear hmk y0 hmI
 obtain ⟨bb, hbb⟩ : ∃ bb, bb = W.heap.size := ⟨_, rfl⟩
 have HBB : Hid (bb = W.heap.size) := hbb
 rw [← hbb] at HF1
 change Code.wp _ _ _ _ (W.alloc (.cells (madeCells #[.bool false] m) 4))
 rw [← hbb]
 clear hbb
 generalize W.alloc (.cells (madeCells #[.bool false] m) 4) = w1 at *
 obtain ⟨hgb, -, gr⟩ := HXB.out w1 HB1.out
 have y0 : w1.cell? ⟨w.heap.size, 0, none⟩ = some (.slice oa os.length oc) := Kg.heap_cell hgb 0
 have y1 : w1.cell? ⟨w.heap.size, 1, none⟩ = some vs := Kg.heap_cell hgb 1
 have y2 : w1.cell? ⟨w.heap.size, 2, none⟩ = some vh := Kg.heap_cell hgb 2
 have y3 : w1.cell? ⟨w.heap.size, 3, none⟩ = some vr := Kg.heap_cell hgb 3
 have y4 : w1.cell? ⟨w.heap.size, 4, none⟩ = some vq := Kg.heap_cell hgb 4
 have y5 : w1.cell? ⟨w.heap.size, 5, none⟩ = some (.int .u64 (g.next : Int)) := Kg.heap_cell hgb 5
 have q := rootsw_any d n0 w1 _ vs vh vr vq os ts g gr (Nat.le_trans (Nat.le_trans hn HL1.out.size) HB1.out.size) hs hel
 obtain ⟨L0, hL0⟩ : ∃ L0, L0 = (wy17 g 0).filter (fun y => decide (y ≠ d)) := ⟨_, rfl⟩
 rw [rtlw_eq HM.out d, ← hL0] at q
 have HL0 : Hid (∀ y, y ∈ L0 ↔ y ∈ wy17 g 0 ∧ y ≠ d) := fun y => by
  rw [hL0, List.mem_filter]
  simp
 have hL0l : L0.length ≤ 1000000000 := by
  have h9 := congrArg List.length (rtlw_eq HM.out d)
  rw [List.length_map, ← hL0] at h9
  rw [← h9]
  unfold rtlw
  have h8 := List.length_filter_le (fun z => decide (0 < z ∧ z ≠ (d : Int))) ((slotsF g.slots ++ g.hs) ++ g.qu)
  rw [List.length_append, List.length_append] at h8
  omega
 clear hgb gr hL0 hs hel
 go_wp2_with fail
 refine q.mono ?_
 rintro e w2 ⟨vR, rfl, rR, bR⟩
 have HF2 : Hid (Fb w2 bb m (fun _ => false)) := HF1.out.below bR
 have HB2 : Hid (Below W.heap.size W w2) := HB1.out.trans (bR.mono HB1.out.size)
 have HBl : Hid (bb < w1.heap.size) := HF1.out.lt
 have HRL : Hid (∀ w', Kg.Touch [bb] w2 w' → ∃ a cap, vR = .slice a L0.length cap ∧ ∀ (f : Nat) z, L0[f]? = some z → ∃ q, a = some ⟨q, 0, none⟩ ∧ w'.cell? ⟨q, f, none⟩ = some (.int .i64 (z : Nat))) := fun w' ht => by
  obtain ⟨a, cap, h1, h2⟩ := Il.at_ rR ht (fun k hk => by rw [List.mem_singleton] at hk; rw [hk]; exact HBl.out)
  rw [List.length_map] at h1
  refine ⟨a, cap, h1, fun f z hz => ?_⟩
  obtain ⟨q, h3, -, -, h4⟩ := h2 f (z : Int) (by rw [List.getElem?_map, hz]; rfl)
  exact ⟨q, h3, h4⟩
 obtain ⟨aR, cR, rfl, -⟩ := HRL.out w2 (Kg.Touch.refl _ _)
 have HRa : Hid (∀ w', Kg.Touch [bb] w2 w' → ∀ (f : Nat) z, L0[f]? = some z → ∃ q, aR = some ⟨q, 0, none⟩ ∧ w'.cell? ⟨q, f, none⟩ = some (.int .i64 (z : Nat))) := fun w' ht f z hz => by
  obtain ⟨a, cap, e1, h2⟩ := HRL.out w' ht
  simp only [Value.slice.injEq] at e1
  obtain ⟨rfl, -, -⟩ := e1
  exact h2 f z hz
 clear q rR bR y0 y1 y2 y3 y4 y5 HRL HF1 HB1 HBl
 go_wp2
 go_loopw [7] (fun v7 wr => ∃ (k : Nat) (ins : Nat → Bool), v7 = .int .i64 (k : Nat) ∧ k ≤ L0.length ∧ Hid (Fb wr bb m ins) ∧ Hid (∀ x, ins x = true ↔ x ∈ L0.take k) ∧ Hid (Kg.Touch [bb] w2 wr)) (fun v7 _ => L0.length - (intOf v7).toNat)
 case atStart => exact ⟨0, _, rfl, Nat.zero_le _, HF2, fun x => by simp, Kg.Touch.refl _ _⟩
 case round =>
  obtain ⟨k, ins, rfl, hk, R1, R2, R3⟩ := hrel
  by_cases hkl : k < L0.length
  ·have hki : (k : Int) < (L0.length : Int) := by omega
   obtain ⟨x, hx⟩ : ∃ x, L0[k]? = some x := ⟨_, List.getElem?_eq_getElem hkl⟩
   obtain ⟨q, rfl, cx⟩ := HRa.out wr R3.out k x hx
   have hxb := wy_in HM.out 0 x ((HL0.out x).1 (List.mem_of_getElem? hx)).1
   have hxm : x < m := by have := Hmm.out; have := HOL.out; omega
   have hxI : (x : Int) < (m : Int) := by omega
   have cb := R1.out.cell hxm
   have zb := R1.out.frozen x
   have N1 : Hid (Fb (wr.setCell ⟨bb, x, none⟩ (.bool true)) bb m (fun y => if y = x then true else ins y)) := R1.out.set hxm true
   have N2 : Hid (∀ y, (if y = x then true else ins y) = true ↔ y ∈ L0.take (k + 1)) := fun y => by
    rw [List.take_add_one, hx]
    by_cases e : y = x
    ·rw [if_pos e, e]; simp
    ·rw [if_neg e, R2.out y]; simp [e]
   have N3 : Hid (Kg.Touch [bb] w2 (wr.setCell ⟨bb, x, none⟩ (.bool true))) := R3.out.trans (Kg.Touch.setCell _ _ _ (by simp))
   clear hx hxb R1 R2 R3
   go_wp2
   go_roundw
   case rel => exact ⟨k + 1, _, by go_num, by omega, N1, N2, N3⟩
   case measure => simp [intOf]; omega
  ·have hki : ¬ (k : Int) < (L0.length : Int) := by omega
   have e9 : L0.take k = L0 := List.take_of_length_le (by omega)
   have HRd : Hid (Rd (wy17 g) (pe17 g) d ins) := by
    have h9 := R2.out
    rw [e9] at h9
    exact ⟨fun x hx => .root ((HL0.out x).1 ((h9 x).1 hx)).1 ((HL0.out x).1 ((h9 x).1 hx)).2, fun y h1 h2 => (h9 y).2 ((HL0.out y).2 ⟨h1, h2⟩)⟩
   have HBd : Hid (Below W.heap.size W wr) := HB2.out.trans (R3.out.below HB2.out.size (fun k hk => by rw [List.mem_singleton.1 hk, HBB.out]; exact Nat.le_refl _))
   have HF3 : Hid (Fb wr bb m ins) := R1.out
   clear e9 R1 R2 R3 HRa HL0 hL0l
   generalize wr = w4 at *
   go_wp2
   go_loopw [8, 9, 11, 12] (fun v8 _ _ _ wr => ∃ j, RdM g d m bb W v8 wr j) (fun v8 _ _ _ wr => Classical.epsilon (Lse (RdM g d m bb W v8 wr)))
   case atStart => exact ⟨_, true, ins, rfl, HF3.out, HBd.out, HRd.out, (fun h => by cases h), rfl⟩
   case round =>
    obtain ⟨j0, hj0⟩ : ∃ j0, j0 = Classical.epsilon (Lse (RdM g d m bb W u8 wr)) := ⟨_, rfl⟩
    have h9 := epe_spec hrel
    rw [← hj0] at h9
    have HJ : Hid (j0 = Classical.epsilon (Lse (RdM g d m bb W u8 wr))) := hj0
    clear hj0 hrel HRd HBd HF3
    obtain ⟨more, i0, rfl, f0, b0, r0, hd0, hj⟩ := h9
    have F0 : Hid (Fb wr bb m i0) := f0
    have B0 : Hid (Below W.heap.size W wr) := b0
    have R0 : Hid (Rd (wy17 g) (pe17 g) d i0) := r0
    have HD0 : Hid (more = false → ∀ x, i0 x = true ↔ Re (wy17 g) (pe17 g) d x) := hd0
    have HJ0 : Hid (j0 = uw (fun _ => 1) i0 (List.range' 1 g.obs.length) + (if more = true then 1 else 0)) := hj
    clear f0 b0 r0 hd0 hj
    cases more with
    | false =>
     have HDf : Hid (∀ x, i0 x = true ↔ Re (wy17 g) (pe17 g) d x) := HD0.out rfl
     have HE : Hid (w.heap.size ≤ bb ∧ Below w.heap.size w wr) := ⟨by rw [HBB.out]; exact HL1.out.size, (HXB.out wr B0.out).2.1⟩
     go_wp2
     go_ret
     exact ⟨bb, rfl, HE.out.1, HE.out.2, i0, F0.out, HDf.out⟩
    | true =>
     clear HD0
     generalize wr = wp at *
     go_wp2
     go_loopw [8, 9, 11, 12] (fun v8 v9 _ _ wr => ∃ (n : Nat) (more : Bool) (ins : Nat → Bool), v8 = .bool more ∧ v9 = .int .i64 (n : Nat) ∧ 1 ≤ n ∧ n ≤ m ∧ Hid (Fb wr bb m ins) ∧ Hid (Below W.heap.size W wr) ∧ Hid (Rn2 (wy17 g) (pe17 g) d g.obs.length i0 ins n more)) (fun _ v9 _ _ _ => m - (intOf v9).toNat)
     case atStart => exact ⟨1, false, i0, rfl, rfl, Nat.le_refl _, by have := Hmm.out; omega, F0, B0, Rn2.start R0.out⟩
     case round =>
      obtain ⟨n, more, ins, rfl, rfl, hn1, hnm, R1, R2, R3⟩ := hrel
      by_cases hnl : n < m
      ·have hni : (n : Int) < (m : Int) := by omega
       have cn := R1.out.cell hnl
       obtain ⟨bn, hbn⟩ : ∃ bn, bn = ins n := ⟨_, rfl⟩
       rw [← hbn] at cn
       have HBN : Hid (bn = ins n) := hbn
       clear hbn
       cases bn with
       | false =>
        have HN : Hid (Rn2 (wy17 g) (pe17 g) d g.obs.length i0 ins (n + 1) more) := R3.out.out_ HBN.out.symm
        clear R3
        go_wp2
        go_roundw
        case rel => exact ⟨n + 1, more, ins, rfl, by go_num, by omega, by omega, R1, R2, HN⟩
        case measure => simp [intOf]; omega
       | true =>
        have hxm1 : (n : Int) - 1 = ((n - 1 : Nat) : Int) := by omega
        have hxlt : n - 1 < os.length := by have := Hmm.out; omega
        have hxltI : ((n - 1 : Nat) : Int) < (os.length : Int) := by omega
        have hz : os[n - 1]? = some (os[n - 1]'hxlt) := List.getElem?_eq_getElem hxlt
        generalize os[n - 1]'hxlt = o at hz
        obtain ⟨y0, -, gr⟩ := HXB.out wr R2.out
        have y0 := Kg.heap_cell y0 0
        obtain ⟨oa', oc', eo, hob⟩ := gr.ob
        simp only [Value.slice.injEq] at eo
        obtain ⟨rfl, -, rfl⟩ := eo
        obtain ⟨lp, lr, qo, off, rfl, hqo, hco⟩ := hob (n - 1) o hz
        have hoo := HO.out (n - 1) o hz
        have HOO : Hid (g.obs[n - 1]? = some o.o) := hoo
        have HPO : Hid (fst17 o.o.kind ≤ o.o.ps.length ∧ o.o.ps.length ≤ 4095) := fst_le HM.out (o := o.o) (List.mem_of_getElem? hoo)
        have HWX : Hid (stg o.o = (wy17 g n).map Int.ofNat) := by
         have h9 := wy_obj HM.out hoo
         rw [show n - 1 + 1 = n by omega] at h9
         exact h9
        have c0 := (hco 0 (by omega)).trans (show _ = some (Value.int .u64 (o.o.ser : Int)) from rfl)
        have c1 := (hco 1 (by omega)).trans (show _ = some (Value.int .i64 o.o.kind) from rfl)
        have c2 := (hco 2 (by omega)).trans (show _ = some (Value.int .i64 o.o.site) from rfl)
        have c3 := (hco 3 (by omega)).trans (show _ = some o.vp from rfl)
        have c4 := (hco 4 (by omega)).trans (show _ = some o.vr from rfl)
        rw [Nat.add_zero] at c0
        obtain ⟨pa, pc, ep, -, -⟩ := id lp
        obtain ⟨ra, rc, er, -, -⟩ := id lr
        rw [List.length_map] at er
        rw [ep] at c3
        rw [er] at c4
        have LP : Hid (Lrd n0 wr o.vp .i64 o.o.ps) := lp
        have b5 := Below.alloc (Below.refl wr.heap.size wr) (Nat.le_refl _) (.cells (ocs o.o.ser o.o.kind o.o.site (.slice pa o.o.ps.length pc) (.slice ra o.o.rs.length rc)) 61 (0, 0))
        have h5 := heap_alloc_new wr (.cells (ocs o.o.ser o.o.kind o.o.site (.slice pa o.o.ps.length pc) (.slice ra o.o.rs.length rc)) 61 (0, 0))
        clear hob hco hz gr lp lr hoo
        go_upto_region 15 with fail
        obtain ⟨X, hX⟩ : ∃ X, X = wr.heap.size := ⟨_, rfl⟩
        have F5 : Hid (Fb (wr.alloc (.cells (ocs o.o.ser o.o.kind o.o.site (.slice pa o.o.ps.length pc) (.slice ra o.o.rs.length rc)) 61)) bb m ins) := R1.out.touch (Kg.Touch.alloc [] _ _) (by simp)
        have B5 : Hid (Below W.heap.size W (wr.alloc (.cells (ocs o.o.ser o.o.kind o.o.site (.slice pa o.o.ps.length pc) (.slice ra o.o.rs.length rc)) 61))) := R2.out.trans (b5.mono R2.out.size)
        have LP5 : Hid (Lrd n0 (wr.alloc (.cells (ocs o.o.ser o.o.kind o.o.site (.slice pa o.o.ps.length pc) (.slice ra o.o.rs.length rc)) 61)) o.vp .i64 o.o.ps) := LP.out.below (b5.mono (Nat.le_trans (Nat.le_trans hn HL1.out.size) R2.out.size))
        have H5 : Hid ((wr.alloc (.cells (ocs o.o.ser o.o.kind o.o.site (.slice pa o.o.ps.length pc) (.slice ra o.o.rs.length rc)) 61)).heap[X]? = some (.cells (ocs o.o.ser o.o.kind o.o.site (.slice pa o.o.ps.length pc) (.slice ra o.o.rs.length rc)) 61 (0, 0))) := by rw [hX]; exact h5
        change Code.wp _ _ _ _ (wr.alloc (.cells (ocs o.o.ser o.o.kind o.o.site (.slice pa o.o.ps.length pc) (.slice ra o.o.rs.length rc)) 61))
        rw [← hX]
        clear c0 c1 c2 c3 c4 y0 b5 h5 hX LP R1 R2 cn
        generalize wr.alloc (.cells (ocs o.o.ser o.o.kind o.o.site (.slice pa o.o.ps.length pc) (.slice ra o.o.rs.length rc)) 61) = w5 at *
        have x0 := (Kg.heap_cell H5.out 0).trans (show _ = some (Value.int .u64 (o.o.ser : Int)) from rfl)
        have x1 := (Kg.heap_cell H5.out 1).trans (show _ = some (Value.int .i64 o.o.kind) from rfl)
        have x2 := (Kg.heap_cell H5.out 2).trans (show _ = some (Value.int .i64 o.o.site) from rfl)
        have x3 := (Kg.heap_cell H5.out 3).trans (show _ = some (Value.slice pa o.o.ps.length pc) from rfl)
        have x4 := (Kg.heap_cell H5.out 4).trans (show _ = some (Value.slice ra o.o.rs.length rc) from rfl)
        have q : Calls Tryz.prog 21 #[.agg #[.int .u64 (o.o.ser : Int), .int .i64 o.o.kind, .int .i64 o.o.site, .slice pa o.o.ps.length pc, .slice ra o.o.rs.length rc]] w5 (fun e w' => ∃ v, e = .returned v ∧ Il w' w5.heap.size v ((wy17 g n).map Int.ofNat) ∧ Below w5.heap.size w5 w') := by
         have h9 := strong_any n0 w5 (Nat.le_trans (Nat.le_trans hn HL1.out.size) B5.out.size) o LP5.out (by have := HPO.out; omega)
         rw [HWX.out] at h9
         rw [← ep, ← er]
         exact h9
        rw [ep] at LP5
        clear ep er
        go_wp2_with fail
        refine q.mono ?_
        rintro e w6 ⟨vS, rfl, rS, bS⟩
        obtain ⟨B5s, hB5s⟩ : ∃ B, B = w5.heap.size := ⟨_, rfl⟩
        rw [← hB5s] at rS
        have HBs : Hid (bb < B5s ∧ B5s ≤ w6.heap.size ∧ W.heap.size ≤ B5s) := ⟨by rw [hB5s]; exact F5.out.lt, by rw [hB5s]; exact bS.size, by rw [hB5s]; exact B5.out.size⟩
        have F6 : Hid (Fb w6 bb m ins) := F5.out.below bS
        have B6 : Hid (Below W.heap.size W w6) := B5.out.trans (bS.mono B5.out.size)
        have I6 : Hid (Il w6 B5s vS ((wy17 g n).map Int.ofNat)) := rS
        have LP6 : Hid (Lrd n0 w6 (.slice pa o.o.ps.length pc) .i64 o.o.ps) := LP5.out.below (bS.mono (Nat.le_trans (Nat.le_trans hn HL1.out.size) B5.out.size))
        have H6 : Hid (w6.heap[X]? = some (.cells (ocs o.o.ser o.o.kind o.o.site (.slice pa o.o.ps.length pc) (.slice ra o.o.rs.length rc)) 61 (0, 0))) := (bS.block X (Kg.heap_lt H5.out)).trans H5.out
        obtain ⟨aS, cS, eS⟩ := own_sl17 rS
        rw [List.length_map] at eS
        subst eS
        have HWl : Hid ((wy17 g n).length ≤ 1000000000) := by
         have h9 := congrArg List.length HWX.out
         rw [List.length_map] at h9
         have h8 := List.length_filter_le (fun z => decide (0 < z)) (o.o.ps.drop (fst17 o.o.kind))
         unfold stg at h9
         rw [List.length_drop] at h8
         have := HPO.out
         show _ ≤ _
         omega
        clear q rS bS hB5s x0 x1 x2 x3 x4 F5 B5 LP5 H5
        have x1 := (Kg.heap_cell H6.out 1).trans (show _ = some (Value.int .i64 o.o.kind) from rfl)
        have x3 := (Kg.heap_cell H6.out 3).trans (show _ = some (Value.slice pa o.o.ps.length pc) from rfl)
        go_upto_region 16 with fail
        go_cut [86] from 53 to 86 (fun v86 wq => ∃ cx : Bool, v86 = .bool cx ∧ Hid (Cxy g n ins o.o.ps cx) ∧ w6 = wq)
        case first =>
         by_cases e3 : o.o.kind = 3
         ·have g3 : (o.o.kind == 3) = true := beq_iff_eq.2 e3
          have HPE : Hid (∀ k v, (n, k, v) ∈ pe17 g ↔ o.o.ps[0]? = some ((k : Nat) : Int) ∧ o.o.ps[1]? = some ((v : Nat) : Int) ∧ k ≠ 0 ∧ v ≠ 0) := fun k v => by
           rw [mem_pe HM.out]
           constructor
           ·rintro ⟨o', -, h1, h2, h3, h4, h5, h6⟩
            simp only at h1 h3 h4 h5 h6
            rw [HOO.out] at h1
            cases h1
            exact ⟨h3, h4, h5, h6⟩
           ·rintro ⟨h3, h4, h5, h6⟩
            exact ⟨o.o, hn1, HOO.out, e3, h3, h4, h5, h6⟩
          have hpl : 2 ≤ o.o.ps.length := by
           have h9 := HPO.out.1
           rw [e3] at h9
           exact h9
          obtain ⟨k0, hk0⟩ : ∃ z, o.o.ps[0]? = some z := ⟨_, List.getElem?_eq_getElem (by omega)⟩
          obtain ⟨v0, hv0⟩ : ∃ z, o.o.ps[1]? = some z := ⟨_, List.getElem?_eq_getElem (by omega)⟩
          have kb := ps_in HM.out HOO.out (List.mem_of_getElem? hk0)
          have vb := ps_in HM.out HOO.out (List.mem_of_getElem? hv0)
          obtain ⟨kn, rfl⟩ : ∃ kn : Nat, k0 = (kn : Int) := ⟨k0.toNat, by omega⟩
          obtain ⟨vn, rfl⟩ : ∃ vn : Nat, v0 = (vn : Int) := ⟨v0.toNat, by omega⟩
          have HK0 : Hid (o.o.ps[0]? = some ((kn : Nat) : Int)) := hk0
          have HV0 : Hid (o.o.ps[1]? = some ((vn : Nat) : Int)) := hv0
          have hkm : kn < m := by have := Hmm.out; have := HOL.out; omega
          have hkI : (kn : Int) < (m : Int) := by omega
          obtain ⟨pa', pc', e1, -, hp⟩ := LP6.out
          simp only [Value.slice.injEq, true_and] at e1
          obtain ⟨rfl, rfl⟩ := e1
          obtain ⟨qp, po, rfl, -, cp0⟩ := hp 0 kn hk0
          obtain ⟨qp', po', e1, -, cp1⟩ := hp 1 vn hv0
          simp only [Option.some.injEq, Addr.mk.injEq, and_true] at e1
          obtain ⟨rfl, rfl⟩ := e1
          rw [Nat.add_zero] at cp0
          have hp0 : (0 : Int) < (o.o.ps.length : Int) := by omega
          have hp1 : (1 : Int) < (o.o.ps.length : Int) := by omega
          have ck := F6.out.cell hkm
          clear hp hk0 hv0 e3
          by_cases e0 : 0 < kn
          ·have g0 : decide ((0 : Int) < (kn : Int)) = true := decide_eq_true (by omega)
           by_cases ed : kn = d
           ·have gd : ((kn : Int) != (d : Int)) = false := by rw [ed]; simp
            have hdn : ins kn = true → False := fun h => (Re.ne ((R3.out.rd.s kn) h)) ed
            have C1 : Hid (Cxy g n ins o.o.ps false) := by
             refine ⟨(fun h => by cases h), ?_⟩
             intro _ k v hk hi
             have h9 := ((HPE.out k v).1 hk).1
             rw [HK0.out] at h9
             have e9 : kn = k := by have := Option.some.inj h9; omega
             exact hdn (by rw [e9]; exact hi)
            clear ed hdn
            go_wp2
            go_meet
            exact ⟨false, rfl, C1, rfl⟩
           ·have gd : ((kn : Int) != (d : Int)) = true := bne_iff_ne.2 (by omega)
            obtain ⟨bk, hbk⟩ : ∃ bk, bk = ins kn := ⟨_, rfl⟩
            rw [← hbk] at ck
            have HBK : Hid (bk = ins kn) := hbk
            clear hbk ed
            cases bk with
            | false =>
             have C1 : Hid (Cxy g n ins o.o.ps false) := by
              refine ⟨(fun h => by cases h), ?_⟩
              intro _ k v hk hi
              have h9 := ((HPE.out k v).1 hk).1
              rw [HK0.out] at h9
              have e9 : kn = k := by have := Option.some.inj h9; omega
              have h8 := HBK.out
              rw [e9, hi] at h8
              cases h8
             go_wp2
             go_meet
             exact ⟨false, rfl, C1, rfl⟩
            | true =>
             by_cases ev : 0 < vn
             ·have gv : decide ((0 : Int) < (vn : Int)) = true := decide_eq_true (by omega)
              have C1 : Hid (Cxy g n ins o.o.ps true) := by
               refine ⟨fun _ => ⟨kn, vn, (HPE.out kn vn).2 ⟨HK0.out, HV0.out, by omega, by omega⟩, HBK.out.symm, HV0.out⟩, ?_⟩
               exact fun h => by cases h
              go_wp2
              go_meet
              exact ⟨true, rfl, C1, rfl⟩
             ·have gv : decide ((0 : Int) < (vn : Int)) = false := decide_eq_false (by omega)
              have C1 : Hid (Cxy g n ins o.o.ps false) := by
               refine ⟨(fun h => by cases h), ?_⟩
               intro _ k v hk hi
               have h9 := (HPE.out k v).1 hk
               have h8 := h9.2.1
               rw [HV0.out] at h8
               have e9 : vn = v := by have := Option.some.inj h8; omega
               omega
              go_wp2
              go_meet
              exact ⟨false, rfl, C1, rfl⟩
          ·have g0 : decide ((0 : Int) < (kn : Int)) = false := decide_eq_false (by omega)
           have C1 : Hid (Cxy g n ins o.o.ps false) := by
            refine ⟨(fun h => by cases h), ?_⟩
            intro _ k v hk hi
            have h9 := (HPE.out k v).1 hk
            have h8 := h9.1
            rw [HK0.out] at h8
            have e9 : kn = k := by have := Option.some.inj h8; omega
            omega
           go_wp2
           go_meet
           exact ⟨false, rfl, C1, rfl⟩
         ·have g3 : (o.o.kind == 3) = false := beq_eq_false_iff_ne.2 e3
          have C1 : Hid (Cxy g n ins o.o.ps false) := by
           refine ⟨(fun h => by cases h), ?_⟩
           intro _ k v hk hi
           obtain ⟨o', -, h1, h2, -⟩ := (mem_pe HM.out).1 hk
           simp only at h1
           rw [HOO.out] at h1
           cases h1
           exact e3 h2
          clear e3
          go_wp2
          go_meet
          exact ⟨false, rfl, C1, rfl⟩
        case rest =>
         obtain ⟨cx, rfl, C1, rfl⟩ := hcut
         apply_assumption
         go_cut [11] from 87 to 93 (fun v11 wq => ∃ (aL : Option Addr) (cL : Nat) (L : List Nat), v11 = .slice aL L.length cL ∧ L.length ≤ 1000000001 ∧ Hid (Il wq B5s (.slice aL L.length cL) (L.map Int.ofNat)) ∧ Hid (Fb wq bb m ins) ∧ Hid (Below W.heap.size W wq) ∧ Hid (B5s ≤ wq.heap.size) ∧ Hid (∀ y, y ∈ wy17 g n → y ∈ L) ∧ Hid (∀ k v, (n, k, v) ∈ pe17 g → ins k = true → v ∈ L) ∧ Hid (∀ y, y ∈ L → y ≠ d → Re (wy17 g) (pe17 g) d y) ∧ Hid (∀ y, y ∈ L → 1 ≤ y ∧ y ≤ g.obs.length))
         case first =>
          have hWl := HWl.out
          have HRn : Hid (Re (wy17 g) (pe17 g) d n) := R3.out.rd.s n HBN.out.symm
          cases cx with
          | false =>
           have P2 : Hid (∀ k v, (n, k, v) ∈ pe17 g → ins k = true → v ∈ wy17 g n) := fun k v h1 h2 => (C1.out.2 rfl k v h1 h2).elim
           have P3 : Hid (∀ y, y ∈ wy17 g n → y ≠ d → Re (wy17 g) (pe17 g) d y) := fun y h1 h2 => .step HRn.out h1 h2
           have P4 : Hid (∀ y, y ∈ wy17 g n → 1 ≤ y ∧ y ≤ g.obs.length) := wy_in HM.out n
           have hS := HBs.out.2.1
           clear C1
           go_wp2
           go_meet
           exact ⟨aS, cS, wy17 g n, rfl, by omega, I6, F6, B6, hS, fun _ h => h, P2, P3, P4⟩
          | true =>
           obtain ⟨kk, vv, c1, c2, c3⟩ := C1.out.1 rfl
           obtain ⟨pa', pc', e1, -, hp⟩ := LP6.out
           simp only [Value.slice.injEq, true_and] at e1
           obtain ⟨rfl, rfl⟩ := e1
           obtain ⟨qp, po, rfl, -, cp1⟩ := hp 1 vv c3
           have hp1 : (1 : Int) < (o.o.ps.length : Int) := by have := (List.getElem?_eq_some_iff.1 c3).1; omega
           have P1 : Hid (∀ y, y ∈ wy17 g n → y ∈ wy17 g n ++ [vv]) := fun y h => List.mem_append_left _ h
           have P2 : Hid (∀ k v, (n, k, v) ∈ pe17 g → ins k = true → v ∈ wy17 g n ++ [vv]) := fun k v h1 h2 => by
            obtain ⟨o', -, h3, -, -, h5, -⟩ := (mem_pe HM.out).1 h1
            simp only at h3 h5
            rw [HOO.out] at h3
            cases h3
            rw [c3] at h5
            have h6 := Option.some.inj h5
            have h7 : v = vv := by omega
            rw [h7]
            simp
           have P3 : Hid (∀ y, y ∈ wy17 g n ++ [vv] → y ≠ d → Re (wy17 g) (pe17 g) d y) := fun y h1 h2 => by
            rcases List.mem_append.1 h1 with h3 | h3
            ·exact .step HRn.out h3 h2
            ·rw [List.mem_singleton.1 h3] at h2 ⊢
             exact .eph c1 HRn.out (R3.out.rd.s _ c2) h2
           have P4 : Hid (∀ y, y ∈ wy17 g n ++ [vv] → 1 ≤ y ∧ y ≤ g.obs.length) := fun y h1 => by
            rcases List.mem_append.1 h1 with h3 | h3
            ·exact wy_in HM.out n y h3
            ·rw [List.mem_singleton.1 h3]
             exact (pe_in HM.out c1).2.2
           obtain ⟨i0', hi0, hj0, hj1, hj2⟩ := info_p17 infoI17
           have HI : Hid (Tryz.prog.info? 3 = some i0' ∧ i0'.zero = some (.int .i64 0) ∧ i0'.size = 1 ∧ i0'.bytes = 8) := ⟨hi0, hj0, hj1, hj2⟩
           have HSz : Hid (B5s ≤ w6.heap.size) := HBs.out.2.1
           have HRow : Hid ((w6.alloc (.cells #[.int .i64 (vv : Nat)] 3)).ownsRow B5s 3 1 (.slice aS (wy17 g n).length cS) (wy17 g n).length (Kg.ints ((wy17 g n).map Int.ofNat))) := by
            have h9 := Il.below I6.out (Below.alloc (Below.refl w6.heap.size w6) (Nat.le_refl _) (.cells #[.int .i64 (vv : Nat)] 3))
            unfold Il at h9
            rw [List.length_map] at h9
            exact h9
           clear hi0 hj0 hj1 hj2 hp c1 c2 c3 C1
           go_wp2_with (at_builtin; refine wpList_append_own_at _ rfl _ _ 24 rfl B5s 3 i0' (.int .i64 0) 1 8 Tryz.underlying24 HI.out.1 HI.out.2.1 HI.out.2.2.1 HI.out.2.2.2 rfl (by decide) _ _ _ rfl HRow.out ⟨w6.heap.size, 0, none⟩ 1 1 [.int .i64 (vv : Nat)] rfl rfl (cell_one17 _ _ _) (by simp [Value.oneCell']) (by simp only [maxLen]; omega) (by omega) (by have := HSz.out; simp; omega) ?_; intro v8 w8 h8 g8 _ _)
           go_meet
           obtain ⟨s1, s2, s3⟩ := Il.snoc (w := w6) (w' := w8) (x := (vv : Nat)) I6.out (by rw [List.length_map]; exact h8) g8 HSz.out
           obtain ⟨a8, c8, rfl⟩ := own_sl17 h8
           have hl9 : (wy17 g n ++ [vv]).length = (wy17 g n).length + 1 := by rw [List.length_append]; rfl
           have I8 : Il w8 B5s (.slice a8 (wy17 g n ++ [vv]).length c8) ((wy17 g n ++ [vv]).map Int.ofNat) := by
            rw [hl9, List.map_append]
            exact s1
           exact ⟨a8, c8, wy17 g n ++ [vv], by rw [hl9], by omega, I8, F6.out.low s3 HBs.out.1, B6.out.trans (s3.mono HBs.out.2.2), by have h1 := s3; have h2 := HSz.out; exact Nat.le_trans h2 (by have := s2.size; exact this), P1, P2, P3, P4⟩
         case rest =>
          obtain ⟨aL, cL, L, rfl, hLl, I7, F7, B7, S7, P1, P2, P3, P4⟩ := hcut
          apply_assumption
          have R0n : Hid (Rn2 (wy17 g) (pe17 g) d g.obs.length i0 ins n more) := R3
          obtain ⟨w7, hw7⟩ : ∃ w7, w7 = wc := ⟨_, rfl⟩
          have HRb : Hid (∀ w', Kg.Touch [bb] w7 w' → ∀ (f : Nat) z, L[f]? = some z → ∃ q, aL = some ⟨q, 0, none⟩ ∧ w'.cell? ⟨q, f, none⟩ = some (.int .i64 (z : Nat))) := fun w' ht f z hz => by
           rw [hw7] at ht
           obtain ⟨a, cap, e1, h2⟩ := Il.at_ I7.out ht (fun k hk => by rw [List.mem_singleton] at hk; rw [hk]; exact HBs.out.1)
           rw [List.length_map] at e1
           simp only [Value.slice.injEq, true_and] at e1
           obtain ⟨rfl, -⟩ := e1
           obtain ⟨q, h3, -, -, h4⟩ := h2 f (z : Int) (by rw [List.getElem?_map, hz]; rfl)
           exact ⟨q, h3, h4⟩
          have T0 : Hid (Kg.Touch [bb] w7 wc) := by show Kg.Touch _ _ _; rw [hw7]; exact Kg.Touch.refl _ _
          have B70 : Hid (Below W.heap.size W w7) := by show Below _ _ _; rw [hw7]; exact B7.out
          clear hw7 I7 B7 S7 R3 C1 F6 B6 I6 LP6 H6 x1 x3
          go_wp2
          go_loopw [8, 12] (fun v8 v12 wr => ∃ (k : Nat) (more1 : Bool) (ins1 : Nat → Bool), v8 = .bool more1 ∧ v12 = .int .i64 (k : Nat) ∧ k ≤ L.length ∧ Hid (Fb wr bb m ins1) ∧ Hid (Rn2 (wy17 g) (pe17 g) d g.obs.length i0 ins1 n more1) ∧ Hid (∀ y, y ∈ L.take k → y ≠ d → ins1 y = true) ∧ Hid (more1 = false → ins1 = ins) ∧ Hid (Kg.Touch [bb] w7 wr)) (fun _ v12 _ => L.length - (intOf v12).toNat)
          case atStart => exact ⟨0, more, ins, rfl, rfl, Nat.zero_le _, F7, R0n, fun y h => by simp at h, fun _ => rfl, T0⟩
          case round =>
           obtain ⟨k', more1, ins1, rfl, rfl, hk', Q1, Q2, Q3, Q4, Q5⟩ := hrel
           by_cases hkl' : k' < L.length
           ·have hki' : (k' : Int) < (L.length : Int) := by omega
            obtain ⟨y, hy⟩ : ∃ y, L[k']? = some y := ⟨_, List.getElem?_eq_getElem hkl'⟩
            obtain ⟨q, rfl, cy⟩ := HRb.out wr Q5.out k' y hy
            have hyL := List.mem_of_getElem? hy
            have hyb := P4.out y hyL
            have hym : y < m := by have := Hmm.out; have := HOL.out; omega
            have hyI : (y : Int) < (m : Int) := by omega
            have cb := Q1.out.cell hym
            have zb := Q1.out.frozen y
            have HT : Hid (L.take (k' + 1) = L.take k' ++ [y]) := by show _ = _; rw [List.take_add_one, hy]; rfl
            have HYL : Hid (y ∈ L) := hyL
            clear hy hyL
            by_cases eyd : y = d
            ·have gd : ((y : Int) != (d : Int)) = false := by rw [eyd]; simp
             have N3 : Hid (∀ z, z ∈ L.take (k' + 1) → z ≠ d → ins1 z = true) := fun z hz hd => by
              rw [HT.out] at hz
              rcases List.mem_append.1 hz with h1 | h1
              ·exact Q3.out z h1 hd
              ·rw [List.mem_singleton.1 h1] at hd; exact absurd eyd hd
             clear eyd
             go_wp2
             go_roundw
             case rel => exact ⟨k' + 1, more1, ins1, rfl, by go_num, by omega, Q1, Q2, N3, Q4, Q5⟩
             case measure => simp [intOf]; omega
            ·have gd : ((y : Int) != (d : Int)) = true := bne_iff_ne.2 (by omega)
             obtain ⟨by1, hby⟩ : ∃ b, b = ins1 y := ⟨_, rfl⟩
             rw [← hby] at cb
             have HBY : Hid (by1 = ins1 y) := hby
             have HYD : Hid (y ≠ d) := eyd
             clear hby eyd
             cases by1 with
             | true =>
              have N3 : Hid (∀ z, z ∈ L.take (k' + 1) → z ≠ d → ins1 z = true) := fun z hz hd => by
               rw [HT.out] at hz
               rcases List.mem_append.1 hz with h1 | h1
               ·exact Q3.out z h1 hd
               ·rw [List.mem_singleton.1 h1]; exact HBY.out.symm
              go_wp2
              go_roundw
              case rel => exact ⟨k' + 1, more1, ins1, rfl, by go_num, by omega, Q1, Q2, N3, Q4, Q5⟩
              case measure => simp [intOf]; omega
             | false =>
              have N1 : Hid (Fb (wr.setCell ⟨bb, y, none⟩ (.bool true)) bb m (inw ins1 y)) := Q1.out.set hym true
              have N2 : Hid (Rn2 (wy17 g) (pe17 g) d g.obs.length i0 (inw ins1 y) n true) := Q2.out.more (P3.out y HYL.out HYD.out) HBY.out.symm hyb
              have N3 : Hid (∀ z, z ∈ L.take (k' + 1) → z ≠ d → inw ins1 y z = true) := fun z hz hd => by
               rw [HT.out] at hz
               by_cases e : z = y
               ·rw [e]; exact inw_at
               ·rw [inw_ne e]
                rcases List.mem_append.1 hz with h1 | h1
                ·exact Q3.out z h1 hd
                ·exact absurd (List.mem_singleton.1 h1) e
              have N5 : Hid (Kg.Touch [bb] w7 (wr.setCell ⟨bb, y, none⟩ (.bool true))) := Q5.out.trans (Kg.Touch.setCell _ _ _ (by simp))
              clear Q1 Q2 Q3 Q4 Q5
              go_wp2
              go_roundw
              case rel => exact ⟨k' + 1, true, inw ins1 y, rfl, by go_num, by omega, N1, N2, N3, fun h => (by cases h), N5⟩
              case measure => simp [intOf]; omega
           ·have hki' : ¬ (k' : Int) < (L.length : Int) := by omega
            have e9 : L.take k' = L := List.take_of_length_le (by omega)
            have HN : Hid (Rn2 (wy17 g) (pe17 g) d g.obs.length i0 ins1 (n + 1) more1) := Q2.out.closed (fun hm1 => by
             have e8 := Q4.out hm1
             have h7 := Q3.out
             rw [e9] at h7
             refine ⟨fun y h1 h2 => h7 y (P1.out y h1) h2, fun k v h1 h2 h3 => h7 v (P2.out k v h1 (by rw [← e8]; exact h2)) h3⟩)
            have HBw : Hid (Below W.heap.size W wr) := B70.out.trans (Q5.out.below B70.out.size (fun x hx => by rw [List.mem_singleton.1 hx, HBB.out]; exact Nat.le_refl _))
            clear e9 Q2 Q3 Q4 Q5
            go_wp2
            go_roundw
            case rel => exact ⟨n + 1, more1, ins1, rfl, by go_num, by omega, by omega, Q1, HBw, HN⟩
            case measure => simp [intOf]; omega
      ·have hni : ¬ (n : Int) < (m : Int) := by omega
       have HM2 : Hid (∃ j, RdM g d m bb W (.bool more) wr j ∧ j < j0) := by
        have h9 := R3.out
        refine ⟨_, ⟨more, ins, rfl, R1.out, R2.out, h9.rd, fun e => ?_, rfl⟩, ?_⟩
        ·rw [e] at h9
         refine h9.done (by have := Hmm.out; have := HOL.out; omega) (fun x hx => ?_)
         cases hx with
         | root h1 _ => exact wy_in HM.out _ _ h1
         | step _ h1 _ => exact wy_in HM.out _ _ h1
         | eph h1 _ _ _ => exact (pe_in HM.out h1).2.2
        ·have h8 : j0 = uw (fun _ => 1) i0 (List.range' 1 g.obs.length) + 1 := HJ0.out
         rcases h9.m with ⟨e1, e2, -⟩ | ⟨e1, e2⟩
         ·rw [e1, e2]
          show uw (fun _ => 1) i0 (List.range' 1 g.obs.length) + 0 < j0
          omega
         ·rw [e1]
          show uw (fun _ => 1) ins (List.range' 1 g.obs.length) + 1 < j0
          omega
       clear R1 R2 R3
       go_wp2
       obtain ⟨j, h1, h2⟩ := HM2.out
       refine ⟨⟨j, h1⟩, ?_⟩
       rw [← HJ.out]
       exact Nat.lt_of_le_of_lt (epe_le h1) h2
end Go.Proofs.YtckgcpoheodbcaaGreatDoor
