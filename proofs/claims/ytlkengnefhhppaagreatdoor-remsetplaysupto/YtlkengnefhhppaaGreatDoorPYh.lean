import Derived.Test.YtlkengnefhhppaaGreatDoorPYf
import Derived.Test.YtlkengnefhhppaaGreatDoorUYD7
set_option linter.unusedVariables false
set_option maxHeartbeats 8000000
set_option maxRecDepth 20000
namespace Go.Proofs.YtlkengnefhhppaaGreatDoor
open Go.RowKit Go.Shelf
attribute [local go_sem] Oper.semAt_some
theorem results_cells2 {P : Program} {fn : Func} {p u : Tmp} {t1 t2 : TypeId} (h : fn.results = #[.cell p t1, .cell u t2]) {tmps : Array Value} {w : World} {v1 v2 : Value} {A1 A2 : Addr} (ha : tmps.getD p undef = .pointer (some A1)) (hl : (loadVar t1 A1).run P w = .ok v1 w) (hb : tmps.getD u undef = .pointer (some A2)) (hm : (loadVar t2 A2).run P w = .ok v2 w) :
  (results fn tmps).run P w = .ok (.tuple #[v1, v2]) w := by
 have ha' : tmps[p]?.getD undef = .pointer (some A1) := by simpa using ha
 have hb' : tmps[u]?.getD undef = .pointer (some A2) := by simpa using hb
 simp [results, h, ha', hb', asAddr, hl, hm]
theorem load_int6 {w : World} {A : Addr} {v : Int} (h : w.cell? A = some (.int .i64 v)) : (loadVar 3 A).run Tryz.prog w = .ok (.int .i64 v) w := by
 simp [loadVar, go_sem, h]
theorem load_bool6 {w : World} {A : Addr} {v : Bool} (h : w.cell? A = some (.bool v)) : (loadVar 4 A).run Tryz.prog w = .ok (.bool v) w := by
 simp [loadVar, go_sem, h]
theorem keeps_below {W W' : World} (l : Below W.heap.size W W') : KeepsOthers W W' := ⟨l.size, fun k o h _ => (l.block k (Array.getElem?_eq_some_iff.1 h).1).trans h⟩
def tenX (th : List Tng) : List { T : Tng // T ∈ th } := (th.filter (inS 4)).attach.map (fun y => ⟨y.1, (List.mem_filter.1 y.2).1⟩)
theorem tenX_map (th : List Tng) : (tenX th).map (fun y => y.1) = th.filter (inS 4) := by
 unfold tenX
 rw [List.map_map]
 have : ((fun y : { T : Tng // T ∈ th } => y.1) ∘ fun y : { T : Tng // T ∈ th.filter (inS 4) } => (⟨y.1, (List.mem_filter.1 y.2).1⟩ : { T : Tng // T ∈ th })) = Subtype.val := by funext y; rfl
 rw [this]
 exact List.attach_map_subtype_val _
theorem tenX_at (th : List Tng) : (tenX th).map (fun y => y.1.at_) = tens th := by
 have h : (fun y : { T : Tng // T ∈ th } => y.1.at_) = (fun T : Tng => T.at_) ∘ (fun y : { T : Tng // T ∈ th } => y.1) := rfl
 rw [h, ← List.map_map, tenX_map]
 rfl
def miss (c : Cfg) (sw : Bool) (S : Int → Bool) (T : Tng) : Bool := !S T.at_ && hyT c sw T
section
variable {w1 w w' : World} {n1 sb b g mb n : Nat} {lv : Value} {c : Cfg} {x : Tps} {sw : Bool} {ws : Nat → Int} {th : List Tng} {l : List Int} {S : Int → Bool}
set_option maxRecDepth 100000 in
theorem missing_any (H : Rm w1 n1 w sb b g mb lv c x sw ws th l n S) :
  Calls Tryz.prog 24 #[.pointer (some ⟨sb, 0, none⟩)] w fun e w' => ∃ (r : Int) (d : Bool), e = .returned (.tuple #[.int .i64 r, .bool d]) ∧ ((d = false ∧ r = 0 ∧ ∀ T, T ∈ th.filter (inS 4) → miss c sw S T = false) ∨ (d = true ∧ ∃ pre T post, th.filter (inS 4) = pre ++ T :: post ∧ miss c sw S T = true ∧ (∀ U, U ∈ pre → miss c sw S U = false) ∧ r = T.at_)) ∧ Below w.heap.size w w' := by
 refine (callsIn_wide (n := 9)).1 ?_
 have HR : Hid (Rm w1 n1 w sb b g mb lv c x sw ws th l n S) := H
 obtain ⟨pp, hp1, hp2⟩ := (H.bq.ax.hl.seg 4 (by decide) (by decide)).walk
 have hwk : Walk c ws (x.top 4) pp ((tenX th).map (fun y => y.1.at_)) (x.top 4) := by rw [tenX_at]; exact hp2
 have hpp : Past c ws (x.top 4) (fst c 4) pp := hp1
 have hsl := H.rs.lt
 have k0 : w.cell? ⟨sb, 0, none⟩ = some (.pointer (some ⟨b, 0, none⟩)) := H.rs.cell 0
 clear H hp1 hp2
 obtain ⟨W0, hW0⟩ : ∃ W0, W0 = ((w.alloc (.cells #[.pointer (some ⟨sb, 0, none⟩)] 47)).alloc (.cells #[.int .i64 0] 3)).alloc (.cells #[.bool false] 4) := ⟨_, rfl⟩
 have hb0 : Below w.heap.size w W0 := by rw [hW0]; exact (((Below.refl _ w).alloc (Nat.le_refl _) _).alloc (by simp) _).alloc (by simp; omega) _
 have HSz0 : Hid (W0.heap.size = w.heap.size + 3) := by show _ = _; rw [hW0]; simp
 have c0 : Boxed W0 w.heap.size 47 (.pointer (some ⟨sb, 0, none⟩)) := by rw [hW0]; exact ((Boxed.new w 47 (.pointer (some ⟨sb, 0, none⟩))).alloc _).alloc _
 have c1 : Boxed W0 (w.heap.size + 1) 3 (.int .i64 0) := by
  have := (Boxed.new (w.alloc (.cells #[.pointer (some ⟨sb, 0, none⟩)] 47)) 3 (.int .i64 0)).alloc (.cells #[.bool false] 4)
  rw [← hW0, World.size_alloc] at this; exact this
 have c2 : Boxed W0 (w.heap.size + 1 + 1) 4 (.bool false) := by
  have := Boxed.new ((w.alloc (.cells #[.pointer (some ⟨sb, 0, none⟩)] 47)).alloc (.cells #[.int .i64 0] 3)) 4 (.bool false)
  rw [← hW0, World.size_alloc, World.size_alloc] at this; exact this
 have k0' : W0.cell? ⟨sb, 0, none⟩ = some (.pointer (some ⟨b, 0, none⟩)) := (hb0.cell (p := ⟨sb, 0, none⟩) hsl).trans k0
 have e0 := c0.cell
 refine callsIn_of_wp_marks Tryz.func24 rfl trivial ?_ rfl
 simp only [Tryz.ntmps24, List.size_toArray, List.length_cons, List.length_nil, Nat.reduceAdd, Nat.reduceSub, Array.replicate_succ, Array.replicate_zero, List.push_toArray, List.append_toArray, List.nil_append, List.cons_append]
 rw [hW0] at k0' e0
 gi_wp2
 rw [← hW0] at k0' e0 ⊢
 refine ⟨trivial, (callsIn_wide.2 (objects_any b 4 W0)).mono ?_⟩
 rintro r w2 ⟨rfl, hw2⟩
 have R1 := HR.out.below hb0
 have i2 := It.new6 R1.bq.ax.ar R1.bq.ax.la 4
 rw [← hw2] at i2
 have b3 : Below W0.heap.size W0 w2 := by rw [hw2]; exact Below.alloc (Below.alloc (Below.refl _ _) (Nat.le_refl _) _) (by simp) _
 have b4 := hb0.trans (b3.mono hb0.size)
 have d0 : Boxed w2 w.heap.size 47 (.pointer (some ⟨sb, 0, none⟩)) := (b3.block _ c0.lt).trans c0
 have d1 : Boxed w2 (w.heap.size + 1) 3 (.int .i64 0) := (b3.block _ c1.lt).trans c1
 have d2 : Boxed w2 (w.heap.size + 1 + 1) 4 (.bool false) := (b3.block _ c2.lt).trans c2
 have HSz : Hid (w.heap.size + 3 ≤ w2.heap.size) := by have := b3.size; show _ ≤ _; have := HSz0.out; omega
 clear hw2 R1 k0' e0 c0 c1 c2 hW0 k0
 gi_wp2
 refine wpIn_rangeFunc_ownF rfl (by decide) (gf := 126) (lb := #[.pointer (some ⟨W0.heap.size, 0, none⟩), .pointer (some ⟨W0.heap.size + 1, 0, none⟩)]) rfl trivial objects1_enters6
  (walk_stops (fun y : { T : Tng // T ∈ th } => y.1.at_) _ b g W0.heap.size (W0.heap.size + 1) c x sw ws 4 (tenX th) pp (x.top 4) hpp hwk w2 i2) (fun h k => h.trans k) (fun W l o o' hl ho hc _ => Kc.put W l o o' ho hc) (Below.refl _ _) (fun _ => rfl)
  (fun pre W => (Boxed W w.heap.size 47 (.pointer (some ⟨sb, 0, none⟩)) ∧ Boxed W (w.heap.size + 1) 3 (.int .i64 0) ∧ Boxed W (w.heap.size + 1 + 1) 4 (.bool false)) ∧ Below w.heap.size w W ∧ Hid (∀ y, y ∈ pre → miss c sw S y.1 = false))
  (fun cc pre W => (cc = .ret ∧ ∃ q y, pre = q ++ [y] ∧ Boxed W (w.heap.size + 1) 3 (.int .i64 y.1.at_) ∧ Boxed W (w.heap.size + 1 + 1) 4 (.bool true) ∧ miss c sw S y.1 = true ∧ (∀ y, y ∈ q → miss c sw S y.1 = false)) ∧ Below w.heap.size w W)
  ?own ?ownx ⟨⟨d0, d1, d2⟩, b4, (fun y hy => by simp at hy : ∀ y, y ∈ ([] : List { T : Tng // T ∈ th }) → miss c sw S y.1 = false)⟩
  (fun y => { tmps := #[.pointer (some ⟨sb, 0, none⟩), .pointer (some ⟨w.heap.size, 0, none⟩), .pointer (some ⟨w.heap.size + 1, 0, none⟩), .pointer (some ⟨w.heap.size + 1 + 1, 0, none⟩), .int .i64 y.1.at_, .pointer (some ⟨sb, 0, none⟩), .pointer (some ⟨sb, 0, none⟩), .pointer (some ⟨sb, 0, none⟩), .pointer (some ⟨b, 0, none⟩), .func (.func 126) #[] #[.pointer (some ⟨W0.heap.size, 0, none⟩), .pointer (some ⟨W0.heap.size + 1, 0, none⟩)], .int .i64 y.1.at_, hdv c ws y.1.at_, undef, undef, undef, undef, undef, undef, undef, undef, undef, undef], defers := [] }) ?assign ?body ?done ?stop
 case own =>
  exact OwnFrom.and (Own.from (fun s A B row hs hg hr => ⟨boxed_own _ _ (fun _ => _) s A B row hs.1 hg hr, boxed_own _ _ (fun _ => _) s A B row hs.2.1 hg hr, boxed_own _ _ (fun _ => _) s A B row hs.2.2 hg hr⟩) _) (OwnFrom.and (ownFrom_below (by omega) (by have := HSz.out; omega)) (ownFrom_pure _ _))
 case ownx =>
  intro cc
  refine OwnFrom.and (Own.from (fun s A B row hs hg hr => ?_) _) (ownFrom_below (by omega) (by have := HSz.out; omega))
  obtain ⟨e1, q, y, e2, hx, hy, hr2⟩ := hs
  exact ⟨e1, q, y, e2, boxed_own _ _ (fun _ => _) s A B row hx hg hr, boxed_own _ _ (fun _ => _) s A B row hy hg hr, hr2⟩
 case assign =>
  intro lp y W K hK
  gi_wp2
  exact hK
 case body =>
  rintro lp pre ⟨T, hT⟩ W ⟨⟨b0, b1, b2⟩, hB, hp⟩ hlen
  have HRW : Hid (Rm w1 n1 W sb b g mb lv c x sw ws th l n S) := HR.out.below hB
  have HT : Hid (T ∈ th) := hT
  have hpos := HRW.out.bq.ax.pos hT
  have hh := sHas_any HRW.out.rs T.at_ (by unfold InI; omega)
  have k1 := b0.cell
  have hlt0 := b0.lt
  have Hb1 : Hid (Boxed W w.heap.size 47 (.pointer (some ⟨sb, 0, none⟩)) ∧ Boxed W (w.heap.size + 1) 3 (.int .i64 0) ∧ Boxed W (w.heap.size + 1 + 1) 4 (.bool false)) := ⟨b0, b1, b2⟩
  clear b0 b1 b2 hpos
  have hpl : ∀ W', Below W.heap.size W W' → (Boxed W' w.heap.size 47 (.pointer (some ⟨sb, 0, none⟩)) ∧ Boxed W' (w.heap.size + 1) 3 (.int .i64 0) ∧ Boxed W' (w.heap.size + 1 + 1) 4 (.bool false)) ∧ Below w.heap.size w W' := fun W' l' => ⟨⟨(l'.block _ Hb1.out.1.lt).trans Hb1.out.1, (l'.block _ Hb1.out.2.1.lt).trans Hb1.out.2.1, (l'.block _ Hb1.out.2.2.lt).trans Hb1.out.2.2⟩, hB.trans (l'.mono hB.size)⟩
  have Hpl : Hid (∀ W', Below W.heap.size W W' → (Boxed W' w.heap.size 47 (.pointer (some ⟨sb, 0, none⟩)) ∧ Boxed W' (w.heap.size + 1) 3 (.int .i64 0) ∧ Boxed W' (w.heap.size + 1 + 1) 4 (.bool false)) ∧ Below w.heap.size w W') := hpl
  have Hno : Hid (miss c sw S T = false → ∀ y, y ∈ pre ++ [⟨T, hT⟩] → miss c sw S y.1 = false) := fun hm y hy => by
   rcases List.mem_append.1 hy with h | h
   ·exact hp.out y h
   ·simp only [List.mem_singleton] at h
    rw [h]
    exact hm
  clear hpl
  cases hS : S T.at_
  ·rw [hS] at hh
   have HM : Hid (miss c sw S T = hyT c sw T) := by
    show _ = _
    unfold miss
    rw [hS]
    simp
   clear hS
   gi_wp2
   first | refine ⟨trivial, ((callsIn_wide.2 hh).inRound lp).mono ?_⟩ | refine ⟨trivial, trivial, ((callsIn_wide.2 hh).inRound lp).mono ?_⟩ | refine ⟨trivial, trivial, fun h => (by cases h), ((callsIn_wide.2 hh).inRound lp).mono ?_⟩
   rintro r w4 ⟨rfl, l4⟩
   have HR4 : Hid (Rm w1 n1 w4 sb b g mb lv c x sw ws th l n S) := HRW.out.below l4
   have hy := holdsYoung_any HR4.out HT.out
   have k4 : w4.cell? ⟨w.heap.size, 0, none⟩ = some (.pointer (some ⟨sb, 0, none⟩)) := (l4.cell (p := ⟨w.heap.size, 0, none⟩) hlt0).trans k1
   clear hh k1
   rw [← HM.out] at hy
   cases hm : miss c sw S T
   ·rw [hm] at hy
    have Hm : Hid (miss c sw S T = false) := hm
    clear hm HM
    gi_wp2
    first | refine ⟨trivial, ((callsIn_wide.2 hy).inRound lp).mono ?_⟩ | refine ⟨trivial, trivial, ((callsIn_wide.2 hy).inRound lp).mono ?_⟩ | refine ⟨trivial, trivial, fun h => (by cases h), ((callsIn_wide.2 hy).inRound lp).mono ?_⟩
    rintro r w5 ⟨rfl, l5⟩
    have l6 := l4.trans (l5.mono l4.size)
    clear hy k4 l5 HR4
    gi_wp2
    obtain ⟨q1, q2⟩ := Hpl.out w5 l6
    exact ⟨keeps_below l6, Kc.below l6, q1, q2, Hno.out Hm.out⟩
   ·rw [hm] at hy
    have Hm : Hid (miss c sw S T = true) := hm
    clear hm HM
    gi_wp2
    first | refine ⟨trivial, ((callsIn_wide.2 hy).inRound lp).mono ?_⟩ | refine ⟨trivial, trivial, ((callsIn_wide.2 hy).inRound lp).mono ?_⟩ | refine ⟨trivial, trivial, fun h => (by cases h), ((callsIn_wide.2 hy).inRound lp).mono ?_⟩
    rintro r w5 ⟨rfl, l5⟩
    have l6 := l4.trans (l5.mono l4.size)
    obtain ⟨q1, q2⟩ := Hpl.out w5 l6
    have Q1 : Hid (Boxed w5 (w.heap.size + 1) 3 (.int .i64 0) ∧ Boxed w5 (w.heap.size + 1 + 1) 4 (.bool false)) := q1.2
    have f1 := q1.2.1.frozen
    have f2 := q1.2.2.frozen
    have e1 := q1.2.1.cell
    have e2 := q1.2.2.cell
    have K5 : Hid (KeepsOthers W w5) := keeps_below l6
    clear hy k4 l5 HR4 q1 l4 l6
    gi_wp2
    refine ⟨K5.out.trans ((KeepsOthers.setCell _ _ _).trans (KeepsOthers.setCell _ _ _)), ⟨rfl, pre, ⟨T, hT⟩, rfl, ?_, ?_, Hm.out, hp.out⟩, ?_⟩
    ·exact (Below.heap_setCell _ _ _ _ (by simp)).trans (Q1.out.1.set (.int .i64 T.at_))
    ·have h5 : Boxed (w5.setCell ⟨w.heap.size + 1, 0, none⟩ (.int .i64 T.at_)) (w.heap.size + 1 + 1) 4 (.bool false) := (Below.heap_setCell _ _ _ _ (by simp)).trans Q1.out.2
     exact h5.set (.bool true)
    ·exact Below.setCell (p := ⟨w.heap.size + 1 + 1, 0, none⟩) (Below.setCell (p := ⟨w.heap.size + 1, 0, none⟩) q2 (by simp only; omega) _) (by simp only; omega) _
  ·rw [hS] at hh
   have Hm : Hid (miss c sw S T = false) := by
    show _ = _
    unfold miss
    rw [hS]
    simp
   clear hS
   gi_wp2
   first | refine ⟨trivial, ((callsIn_wide.2 hh).inRound lp).mono ?_⟩ | refine ⟨trivial, trivial, ((callsIn_wide.2 hh).inRound lp).mono ?_⟩ | refine ⟨trivial, trivial, fun h => (by cases h), ((callsIn_wide.2 hh).inRound lp).mono ?_⟩
   rintro r w4 ⟨rfl, l4⟩
   clear hh k1
   gi_wp2
   refine ⟨trivial, ?_⟩
   gi_wp2
   obtain ⟨q1, q2⟩ := Hpl.out w4 l4
   exact ⟨keeps_below l4, Kc.below l4, q1, q2, Hno.out Hm.out⟩
 case done =>
  rintro D xs W hD rfl ⟨⟨b0, b1, b2⟩, hB, hp⟩ hK
  have f1 := b1.frozen
  have e1 := b1.cell
  have f2 := b2.frozen
  have e2 := b2.cell
  have Hp : Hid (∀ T, T ∈ th.filter (inS 4) → miss c sw S T = false) := fun T hT => by
   rw [← tenX_map] at hT
   obtain ⟨y, h1, h2⟩ := List.mem_map.1 hT
   rw [← h2]
   exact hp.out y h1
  clear hp
  gi_wp2
  obtain ⟨W5, hW5⟩ : ∃ W5, W5 = (W.setCell ⟨w.heap.size + 1, 0, none⟩ (.int .i64 0)).setCell ⟨w.heap.size + 1 + 1, 0, none⟩ (.bool false) := ⟨_, rfl⟩
  have hK' : W5.heap[D]? = some (.deferred (some [])) := by rw [hW5]; exact (KeepsOthers.setCell _ _ _).same D _ ((KeepsOthers.setCell _ _ _).same D _ hK rfl) rfl
  have hB' : Below w.heap.size w W5 := by rw [hW5]; exact Below.setCell (p := ⟨w.heap.size + 1 + 1, 0, none⟩) (Below.setCell (p := ⟨w.heap.size + 1, 0, none⟩) hB (by simp only; omega) _) (by simp only; omega) _
  have hb1 : Boxed W5 (w.heap.size + 1) 3 (.int .i64 0) := by rw [hW5]; exact (Below.heap_setCell _ _ _ _ (by simp)).trans (b1.set (.int .i64 0))
  have hb2 : Boxed W5 (w.heap.size + 1 + 1) 4 (.bool false) := by
   rw [hW5]
   have h5 : Boxed (W.setCell ⟨w.heap.size + 1, 0, none⟩ (.int .i64 0)) (w.heap.size + 1 + 1) 4 (.bool false) := (Below.heap_setCell _ _ _ _ (by simp)).trans b2
   exact h5.set (.bool false)
  rw [← hW5]
  have kc1 : (W5.putObj D (.deferred none)).cell? ⟨w.heap.size + 1, 0, none⟩ = some (.int .i64 0) := cell_kept hb1.cell (grownBy_putObj' _ D (.deferred none)) (fun r e => by cases e; exact ⟨_, hK', rfl⟩)
  have kc2 : (W5.putObj D (.deferred none)).cell? ⟨w.heap.size + 1 + 1, 0, none⟩ = some (.bool false) := cell_kept hb2.cell (grownBy_putObj' _ D (.deferred none)) (fun r e => by cases e; exact ⟨_, hK', rfl⟩)
  refine ⟨by simp, .inl ⟨_, _, rfl, run_takeDeferred hK', ?_⟩⟩
  exact ⟨_, results_cells2 Tryz.results24 rfl (load_int6 kc1) rfl (load_bool6 kc2), 0, false, rfl, .inl ⟨rfl, rfl, Hp.out⟩, hB'.trans (belowK_b (w := w) (Nat.le_refl _) W5 D _ _ (by have := HSz.out; omega) hK' rfl rfl)⟩
 case stop =>
  rintro D cc pre W hD hpre ⟨⟨rfl, q, y, rfl, hx, hy, hm, hq⟩, hB⟩ hK
  have Hs : Hid (∃ pre T post, th.filter (inS 4) = pre ++ T :: post ∧ miss c sw S T = true ∧ (∀ U, U ∈ pre → miss c sw S U = false) ∧ y.1.at_ = T.at_) := by
   obtain ⟨post, hpost⟩ := hpre
   have h1 := congrArg (List.map (fun y : { T : Tng // T ∈ th } => y.1)) hpost
   rw [tenX_map] at h1
   refine ⟨q.map (fun y => y.1), y.1, post.map (fun y => y.1), ?_, hm, fun U hU => ?_, rfl⟩
   ·rw [← h1]
    simp
   ·obtain ⟨z, h2, h3⟩ := List.mem_map.1 hU
    rw [← h3]
    exact hq z h2
  clear hq hm hpre
  gi_wp2
  have kc1 : (W.putObj D (.deferred none)).cell? ⟨w.heap.size + 1, 0, none⟩ = some (.int .i64 y.1.at_) := cell_kept hx.cell (grownBy_putObj' _ D (.deferred none)) (fun r e => by cases e; exact ⟨_, hK, rfl⟩)
  have kc2 : (W.putObj D (.deferred none)).cell? ⟨w.heap.size + 1 + 1, 0, none⟩ = some (.bool true) := cell_kept hy.cell (grownBy_putObj' _ D (.deferred none)) (fun r e => by cases e; exact ⟨_, hK, rfl⟩)
  refine ⟨by simp, .inl ⟨_, _, rfl, run_takeDeferred hK, ?_⟩⟩
  exact ⟨_, results_cells2 Tryz.results24 rfl (load_int6 kc1) rfl (load_bool6 kc2), y.1.at_, true, rfl, .inr ⟨rfl, Hs.out⟩, hB.trans (belowK_b (w := w) (Nat.le_refl _) W D _ _ (by have := HSz.out; omega) hK rfl rfl)⟩
end
end Go.Proofs.YtlkengnefhhppaaGreatDoor
namespace Go.Proofs.YtlkengnefhhppaaGreatDoor
open Go.RowKit Go.Shelf
section
variable {w w' : World} {vb b : Nat} {g : Nat → Nat} {lv : Value} {c : Cfg} {x : Tps} {sw : Bool} {ws ws0 : Nat → Int} {th : List Tng} {l : List Int}
theorem tens_hta (H : Hp c x ws th) (w : World) {T : Tng} (hT : T ∈ th) (h4 : T.sp = 4) : hta c sw th T.at_ = hyT c sw T := by
 obtain ⟨w, b, g, hA⟩ := H.ar w
 obtain ⟨s, s1, s4, h1, h2, -⟩ := H.hl.stands hA hT
 rw [hta_at H.hl sw hT, decide_eq_true (by rw [h2]; omega), Bool.true_and]
theorem r6Rebuild_any (H : Dx w vb b g lv c x sw ws th l) (hfew : th.length ≤ 262145) :
  Calls Tryz.prog 23 #[.pointer (some ⟨vb, 0, none⟩)] w fun e w' => e = .returned (.tuple #[]) ∧ Touch (dF vb b g lv) w w' ∧ ∃ lv' ws', Own2 w.heap.size lv lv' ∧ Kh th ws ws' ∧ Dx w' vb b g lv' c x sw ws' (mk_ (fun _ => true) ((tens th).filter (hta c sw th)) (mk_ (fun _ => false) ((tens th).filter (fun a => !decide (a ∈ (tens th).filter (hta c sw th)))) th)) ((tens th).filter (hta c sw th)) := by
 have k0 : w.cell? ⟨vb, 0, none⟩ = some (.pointer (some ⟨b, 0, none⟩)) := H.cell 0
 obtain ⟨i0, hi0, hj0, hj1, hj2⟩ := info_parts Tryz.infoInt
 have HI : Hid (Tryz.prog.info? 3 = some i0 ∧ i0.zero = some (.int .i64 0) ∧ i0.size = 1 ∧ i0.bytes = 8) := ⟨hi0, hj0, hj1, hj2⟩
 have hw : Calls Tryz.prog 66 #[.pointer (some ⟨b, 0, none⟩), .int .i64 4] w fun e w' => ∃ v, e = .returned (.tuple #[v, .int .i64 0]) ∧ w'.ownsRow w.heap.size 3 1 v (tens th).length (ints (tens th)) ∧ Below w.heap.size w w' := H.rx.walk 4 (by decide) (by decide)
 have HD : Hid (Dx w vb b g lv c x sw ws th l) := H
 have hlen : (tens th).length ≤ 262145 := by
  have := List.length_filter_le (inS 4) th
  unfold tens
  simp
  omega
 have HT : Hid (∀ a, a ∈ tens th → ∃ T, T ∈ th ∧ T.at_ = a ∧ hta c sw th a = hyT c sw T) := fun a ha => by
  obtain ⟨T, h1, h2, h3⟩ := atsS_mem (s := 4) ha
  exact ⟨T, h1, h2, by rw [← h2]; exact tens_hta H.rx.hp w h1 h3⟩
 obtain ⟨xs, hxs⟩ : ∃ xs, xs = tens th := ⟨_, rfl⟩
 rw [← hxs] at hlen HT hw ⊢
 obtain ⟨q, hq⟩ : ∃ q, q = hta c sw th := ⟨_, rfl⟩
 rw [← hq] at HT ⊢
 clear H hi0 hj0 hj1 hj2 hxs hq hfew
 go_enter Tryz.func23, Tryz.ntmps23
 go_wp2_with fail
 refine hw.mono ?_
 rintro e w2 ⟨v, rfl, hrow, l2⟩
 have Hall : Hid (w2.ownsRow w.heap.size 3 1 v xs.length (ints xs)) := hrow
 have Hb2 : Hid (Below w.heap.size w w2) := l2
 clear hw hrow l2 k0
 obtain ⟨aa, ca, rfl⟩ := own_sl Hall.out
 go_wp2
 go_loopw [4, 5] (fun v4 v5 wr => ∃ k : Nat, k ≤ xs.length ∧ v5 = .int .i64 k ∧ Hid (wr.ownsRow w.heap.size 3 1 v4 ((xs.take k).filter q).length (ints ((xs.take k).filter q))) ∧ Hid (Below w.heap.size w wr) ∧ Hid (wr.ownsRow w.heap.size 3 1 (.slice aa xs.length ca) xs.length (ints xs)) ∧ Hid (∀ y, v4.ownBlock = some y → (Value.slice aa xs.length ca).ownBlock ≠ some y)) (fun _ v5 _ => xs.length - (intOf v5).toNat)
 case atStart => exact ⟨0, Nat.zero_le _, rfl, World.ownsRow_nil _ _ _ _, Hb2, Hall, (fun y hy => by simp [Value.ownBlock] at hy : ∀ y, (Value.slice none 0 0).ownBlock = some y → (Value.slice aa xs.length ca).ownBlock ≠ some y)⟩
 case round =>
  obtain ⟨k, hk, rfl, Hl, Hb, Hx, Hfar⟩ := hrel
  clear Hall Hb2
  obtain ⟨al, cl, hvl⟩ := own_sl Hl.out
  subst hvl
  by_cases hkl : k < xs.length
  ·have hkI : (k : Int) < (xs.length : Int) := by omega
   have hak : xs[k]? = some (xs[k]'hkl) := List.getElem?_eq_getElem hkl
   generalize xs[k]'hkl = a at hak
   have Htk : Hid (xs.take (k + 1) = xs.take k ++ [a]) := by
    show _ = _
    rw [List.take_add_one, hak]
    rfl
   obtain ⟨qa, ea, hqa, ca'⟩ : ∃ qa, aa = some ⟨qa, 0, none⟩ ∧ qa < wr.heap.size ∧ wr.cell? ⟨qa, k, none⟩ = some (.int .i64 a) := by
    obtain ⟨a0, cp0, h1, -, h3⟩ := row_at (row_zero0 Hx.out) (by decide)
    simp at h1
    obtain ⟨y, h4, h6, h5⟩ := h3 k (.int .i64 a) (by rw [List.getElem?_map, hak]; rfl)
    exact ⟨y, by rw [h1.1, h4], h6, h5⟩
   subst ea
   obtain ⟨T, hT, hTa, hqT⟩ := HT.out a (List.mem_of_getElem? hak)
   have HDr : Hid (Dx wr vb b g lv c x sw ws th l) := HD.out.below Hb.out
   have k0 : wr.cell? ⟨vb, 0, none⟩ = some (.pointer (some ⟨b, 0, none⟩)) := HDr.out.cell 0
   have hvl : vb < wr.heap.size := HDr.out.lt
   have HHo : Hid (∀ p : Kg.Bel wr, Calls Tryz.prog 67 #[.pointer (some ⟨b, 0, none⟩), .int .i64 a] p.v fun e w'' => e = .returned (.bool (q a)) ∧ Below p.v.heap.size p.v w'') := fun p => by
    rw [hqT, ← hTa]
    exact r6Holds_at (HDr.out.below p.h).rx hT
   haveI hinh : Inhabited (Kg.Bel wr) := ⟨⟨wr, Below.refl _ _⟩⟩
   have u0 : ∀ p : Kg.Bel wr, p.v.cell? ⟨vb, 0, none⟩ = some (.pointer (some ⟨b, 0, none⟩)) := fun p => (p.h.cell (p := ⟨vb, 0, none⟩) hvl).trans k0
   have u1 : ∀ p : Kg.Bel wr, p.v.cell? ⟨qa, k, none⟩ = some (.int .i64 a) := fun p => (p.h.cell (p := ⟨qa, k, none⟩) hqa).trans ca'
   clear hak hT hTa hqT HDr k0 ca'
   have Hdl : Hid (((xs.take k).filter q).length ≤ 262145) := by
    have h2 := List.length_filter_le q (xs.take k)
    have h3 := List.length_take_le k xs
    show _ ≤ _
    omega
   go_upto_region 5 with fail
   cases hqb : q a
   ·have Hnx : Hid ((xs.take (k + 1)).filter q = (xs.take k).filter q) := by
     show _ = _
     rw [Htk.out, List.filter_append, List.filter_cons_of_neg (by simp [hqb]), List.filter_nil, List.append_nil]
    rw [hqb] at HHo
    clear hqb
    refine Kg.region_below Kg.mixed (by kernel_rfl) ?_
    repeat (go_big_quiet_step (exact Kg.calls_bel (HHo.out _)))
    refine wpQuiet_nil ?_
    rintro v6 ⟨⟨_, B6⟩, rfl⟩
    have Hl6 : Hid (v6.ownsRow w.heap.size 3 1 (.slice al ((xs.take k).filter q).length cl) ((xs.take (k + 1)).filter q).length (ints ((xs.take (k + 1)).filter q))) := by
     show v6.ownsRow _ _ _ _ _ _
     rw [Hnx.out]
     exact row_keep Hl.out (fun y hy => B6.block y (row_lt Hl.out y hy))
    have Hx6 : Hid (v6.ownsRow w.heap.size 3 1 (.slice (some ⟨qa, 0, none⟩) xs.length ca) xs.length (ints xs)) := row_keep Hx.out (fun y hy => B6.block y (row_lt Hx.out y hy))
    have Hb6 : Hid (Below w.heap.size w v6) := Hb.out.trans (B6.mono Hb.out.size)
    clear u0 u1 HHo hinh B6 Hl Hx Hb
    go_wp2
    go_roundw
    case rel => exact ⟨k + 1, by omega, by go_num, Hl6, Hb6, Hx6, Hfar⟩
    case measure => simp [intOf]; omega
   ·have Hnx : Hid ((xs.take (k + 1)).filter q = (xs.take k).filter q ++ [a]) := by
     show _ = _
     rw [Htk.out, List.filter_append, List.filter_cons_of_pos hqb, List.filter_nil]
    rw [hqb] at HHo
    clear hqb
    refine Kg.region_below Kg.mixed (by kernel_rfl) ?_
    repeat (go_big_quiet_step (exact Kg.calls_bel (HHo.out _)))
    refine wpQuiet_nil ?_
    rintro v6 ⟨⟨_, B6⟩, rfl⟩
    have c6 : v6.cell? ⟨qa, k, none⟩ = some (.int .i64 a) := u1 ⟨v6, B6⟩
    have Hl6 : Hid (v6.ownsRow w.heap.size 3 1 (.slice al ((xs.take k).filter q).length cl) ((xs.take k).filter q).length (ints ((xs.take k).filter q))) := row_keep Hl.out (fun y hy => B6.block y (row_lt Hl.out y hy))
    have Hx6 : Hid (v6.ownsRow w.heap.size 3 1 (.slice (some ⟨qa, 0, none⟩) xs.length ca) xs.length (ints xs)) := row_keep Hx.out (fun y hy => B6.block y (row_lt Hx.out y hy))
    have Hb6 : Hid (Below w.heap.size w v6) := Hb.out.trans (B6.mono Hb.out.size)
    have Hsz : Hid (w.heap.size ≤ v6.heap.size) := Hb6.out.size
    clear u0 u1 HHo hinh B6 Hl Hx Hb
    go_wp2_with (at_builtin; refine wpList_append_own_at _ rfl _ _ 32 rfl w.heap.size 3 i0 (.int .i64 0) 1 8 Tryz.underlying32 HI.out.1 HI.out.2.1 HI.out.2.2.1 HI.out.2.2.2 rfl (by decide) _ _ _ rfl (Hl6.out.alloc _) ⟨v6.heap.size, 0, none⟩ 1 1 [.int .i64 a] rfl rfl (cell_one_new _ _ _) (by simp [Value.oneCell']) (by have := Hdl.out; simp [maxLen]; omega) (by have := Hdl.out; omega) (by have := Hsz.out; simp; omega) ?_; intro v' w8 hown' hgrow _ hat)
    have t8 : Touch (Value.slice al ((xs.take k).filter q).length cl).ownBlock.toList v6 w8 := ⟨hgrow.os, hgrow.tape, hgrow.output, by have := hgrow.size; simp at this; omega, fun k hk hn => (hgrow.block k (by simp; omega) (fun e => hn (by rw [Option.mem_toList]; exact e.symm))).trans (Below.heap_alloc _ _ _ hk)⟩
    have Hl8 : Hid (w8.ownsRow w.heap.size 3 1 v' ((xs.take (k + 1)).filter q).length (ints ((xs.take (k + 1)).filter q))) := by
     show w8.ownsRow _ _ _ _ _ _
     rw [Hnx.out]
     simpa [ints] using hown'
    have Hx8 : Hid (w8.ownsRow w.heap.size 3 1 (.slice (some ⟨qa, 0, none⟩) xs.length ca) xs.length (ints xs)) := row_keep Hx6.out (fun y hy => t8.block y (row_lt Hx6.out y hy) (fun hm => by
     rw [Option.mem_toList] at hm
     exact Hfar.out y hm hy))
    have Hb8 : Hid (Below w.heap.size w w8) := Hb6.out.trans (t8.below Hb6.out.size (fun y hy => by rw [Option.mem_toList] at hy; exact row_ge Hl6.out y hy))
    have Hfar8 : Hid (∀ y, v'.ownBlock = some y → (Value.slice (some ⟨qa, 0, none⟩) xs.length ca).ownBlock ≠ some y) := fun y hy e => by
     rcases hat with h | h
     ·exact Hfar.out y (h.symm.trans hy) e
     ·rw [h] at hy
      have := row_lt Hx6.out y e
      simp at hy
      omega
    obtain ⟨a9, c9, hv9⟩ := own_sl Hl8.out
    subst hv9
    clear hown' hgrow hat t8 Hl6 Hx6 Hb6 Hfar c6
    go_roundw
    case rel => exact ⟨k + 1, by omega, by go_num, Hl8, Hb8, Hx8, Hfar8⟩
    case measure => simp [intOf]; omega
  ·have hke : k = xs.length := by omega
   have Hl2 : Hid (wr.ownsRow w.heap.size 3 1 (.slice al ((xs.take k).filter q).length cl) (xs.filter q).length (ints (xs.filter q))) := by
    have := Hl.out
    rw [hke, List.take_length] at this ⊢
    exact this
   have HDr : Hid (Dx wr vb b g lv c x sw ws th l) := HD.out.below Hb.out
   have hkn : ¬ (k : Int) < (xs.length : Int) := by omega
   have hlen2 : (xs.filter q).length ≤ xs.length := List.length_filter_le q xs
   have hAd : ∀ a, a ∈ xs → Adr c x ws th a := fun a ha => by
    obtain ⟨T, h1, h2, -⟩ := HT.out a ha
    exact .inl ⟨T, h1, h2⟩
   have hla := r6laid_any HDr.out _ (.slice aa xs.length ca) (xs.filter q) xs (row_zero0 Hl2.out) (row_zero0 Hx.out) (fun a ha => hAd a (List.mem_filter.1 ha).1) hAd (by omega) (by omega)
   have Hge : Hid (∀ y, (Value.slice al ((xs.take k).filter q).length cl).ownBlock = some y → w.heap.size ≤ y) := fun y hy => row_ge Hl2.out y hy
   clear Hl Hx hlen2 hke hAd
   go_wp2_with fail
   refine hla.mono ?_
   rintro e w7 ⟨rfl, t7, ws7, K7, D7⟩
   have HT7 : Hid (Touch (dF vb b g lv) w w7) := (Touch.of_below Hb.out _).trans (t7.wide (fun y hy => by
    rcases List.mem_cons.1 hy with h | h
    ·exact mem_dF.2 (.inl h)
    ·exact mem_dF.2 (.inr (.inl h))))
   have HK7 : Hid (Kh th ws ws7) := K7
   have HD7 := D7
   clear hla t7 K7
   go_wp2
   go_end0
   exact ⟨rfl, HT7.out, _, ws7, fun y hy => .inr (Hge.out y hy), HK7.out, HD7⟩
theorem find_at {α : Type} {p : α → Bool} {X : List α} {k : Nat} {T : α} (hk : X[k]? = some T) (h : ∀ j U, j < k → X[j]? = some U → p U = false) (hT : p T = true) : X.find? p = some T := by
 have hl := (List.getElem?_eq_some_iff.1 hk).1
 rw [List.find?_eq_some_iff_append]
 refine ⟨hT, X.take k, X.drop (k + 1), ?_, fun U hU => ?_⟩
 ·have h2 : X[k] = T := (List.getElem?_eq_some_iff.1 hk).2
  rw [← h2, ← List.drop_eq_getElem_cons hl, List.take_append_drop]
 ·obtain ⟨j, hj⟩ := List.getElem?_of_mem hU
  have hjl := (List.getElem?_eq_some_iff.1 hj).1
  rw [List.length_take] at hjl
  rw [List.getElem?_take_of_lt (by omega)] at hj
  rw [h j U (by omega) hj]
  rfl
theorem r6Missing_any (H : Dx w vb b g lv c x sw ws th l) (hfew : th.length ≤ 262145) (hl : l.length ≤ 262145) :
  Calls Tryz.prog 25 #[.pointer (some ⟨vb, 0, none⟩)] w fun e w' => e = .returned (.tuple #[.int .i64 ((((th.filter (inS 4)).find? (miss c sw (fun a => decide (a ∈ l)))).map (·.at_)).getD 0), .bool ((th.filter (inS 4)).find? (miss c sw (fun a => decide (a ∈ l)))).isSome]) ∧ Below w.heap.size w w' := by
 have k0 : w.cell? ⟨vb, 0, none⟩ = some (.pointer (some ⟨b, 0, none⟩)) := H.cell 0
 have hw : Calls Tryz.prog 66 #[.pointer (some ⟨b, 0, none⟩), .int .i64 4] w fun e w' => ∃ v, e = .returned (.tuple #[v, .int .i64 0]) ∧ w'.ownsRow w.heap.size 3 1 v (atsS th 4).length (ints (atsS th 4)) ∧ Below w.heap.size w w' := H.rx.walk 4 (by decide) (by decide)
 have HD : Hid (Dx w vb b g lv c x sw ws th l) := H
 obtain ⟨X, hX⟩ : ∃ X, X = th.filter (inS 4) := ⟨_, rfl⟩
 have hlen : X.length ≤ 262145 := by
  have := List.length_filter_le (inS 4) th
  rw [hX]
  omega
 have Hin : Hid (∀ T, T ∈ X → T ∈ th) := fun T hT => by rw [hX] at hT; exact (List.mem_filter.1 hT).1
 have hw : Calls Tryz.prog 66 #[.pointer (some ⟨b, 0, none⟩), .int .i64 4] w fun e w' => ∃ v, e = .returned (.tuple #[v, .int .i64 0]) ∧ w'.ownsRow w.heap.size 3 1 v (X.map (·.at_)).length (ints (X.map (·.at_))) ∧ Below w.heap.size w w' := by rw [hX]; exact hw
 rw [← hX]
 clear H hX hfew
 obtain ⟨F, hF⟩ : ∃ F, F = X.find? (miss c sw (fun a => decide (a ∈ l))) := ⟨_, rfl⟩
 rw [← hF]
 have HF : Hid (F = X.find? (miss c sw (fun a => decide (a ∈ l)))) := hF
 clear hF
 obtain ⟨rA, hrA⟩ : ∃ rA, rA = (F.map (·.at_)).getD 0 := ⟨_, rfl⟩
 obtain ⟨rB, hrB⟩ : ∃ rB, rB = F.isSome := ⟨_, rfl⟩
 have HrA : Hid (rA = (F.map (·.at_)).getD 0 ∧ rB = F.isSome) := ⟨hrA, hrB⟩
 rw [← hrA, ← hrB]
 clear hrA hrB
 go_enter Tryz.func25, Tryz.ntmps25
 go_wp2_with fail
 refine hw.mono ?_
 rintro e w2 ⟨v, rfl, hrow, l2⟩
 have Hall : Hid (w2.ownsRow w.heap.size 3 1 v (X.map (·.at_)).length (ints (X.map (·.at_)))) := hrow
 have Hb2 : Hid (Below w.heap.size w w2) := l2
 clear hw hrow l2 k0
 obtain ⟨aa, ca, rfl⟩ := own_sl Hall.out
 obtain ⟨N, hN⟩ : ∃ N, N = (X.map (·.at_)).length := ⟨_, rfl⟩
 rw [← hN] at Hall ⊢
 have HN : Hid (N = X.length) := (by rw [hN]; simp : N = X.length)
 have hNb : N ≤ 262145 := by rw [hN]; simp; exact hlen
 clear hN hlen
 go_wp2
 go_loopw [6] (fun v6 wr => ∃ k : Nat, k ≤ N ∧ v6 = .int .i64 k ∧ Hid (Below w.heap.size w wr) ∧ Hid (wr.ownsRow w.heap.size 3 1 (.slice aa N ca) N (ints (X.map (·.at_)))) ∧ Hid (∀ j U, j < k → X[j]? = some U → miss c sw (fun a => decide (a ∈ l)) U = false)) (fun v6 _ => N - (intOf v6).toNat)
 case atStart => exact ⟨0, Nat.zero_le _, rfl, Hb2, Hall, (fun j U hj => by omega : ∀ j U, j < 0 → X[j]? = some U → miss c sw (fun a => decide (a ∈ l)) U = false)⟩
 case round =>
  obtain ⟨k, hk, rfl, Hb, Hx, Hno⟩ := hrel
  clear Hall Hb2
  by_cases hkl : k < N
  ·have hkI : (k : Int) < (N : Int) := by omega
   have hkX : k < X.length := by have := HN.out; omega
   have hak : X[k]? = some (X[k]'hkX) := List.getElem?_eq_getElem hkX
   generalize X[k]'hkX = T at hak
   have Hak : Hid (X[k]? = some T) := hak
   obtain ⟨a, ha⟩ : ∃ a, a = T.at_ := ⟨_, rfl⟩
   obtain ⟨qa, ea, hqa, ca'⟩ : ∃ qa, aa = some ⟨qa, 0, none⟩ ∧ qa < wr.heap.size ∧ wr.cell? ⟨qa, k, none⟩ = some (.int .i64 a) := by
    obtain ⟨a0, cp0, h1, -, h3⟩ := row_at (row_zero0 Hx.out) (by decide)
    simp at h1
    obtain ⟨y, h4, h6, h5⟩ := h3 k (.int .i64 a) (by rw [List.getElem?_map, List.getElem?_map, hak, ha]; rfl)
    exact ⟨y, by rw [h1.1, h4], h6, h5⟩
   subst ea
   have hT := Hin.out T (List.mem_of_getElem? hak)
   have HDr : Hid (Dx wr vb b g lv c x sw ws th l) := HD.out.below Hb.out
   obtain ⟨al, nl, cl, hlv⟩ := row_slice HDr.out.row
   have k0 : wr.cell? ⟨vb, 0, none⟩ = some (.pointer (some ⟨b, 0, none⟩)) := HDr.out.cell 0
   have k1 : wr.cell? ⟨vb, 1, none⟩ = some (.slice al nl cl) := by rw [← hlv]; exact HDr.out.cell 1
   have hvl : vb < wr.heap.size := HDr.out.lt
   have HHo : Hid (∀ p : Kg.Bel wr, Calls Tryz.prog 67 #[.pointer (some ⟨b, 0, none⟩), .int .i64 a] p.v fun e w'' => e = .returned (.bool (hyT c sw T)) ∧ Below p.v.heap.size p.v w'') := fun p => by
    rw [ha]
    exact r6Holds_at (HDr.out.below p.h).rx hT
   have HHa : Hid (∀ p : Kg.Bel wr, Calls Tryz.prog 70 #[.slice al nl cl, .int .i64 a] p.v fun e w'' => e = .returned (.bool (decide (a ∈ l))) ∧ Below p.v.heap.size p.v w'') := fun p => by
    have hr2 := (HDr.out.below p.h).row
    rw [hlv] at hr2
    exact (r6has_any _ _ l a p.v (Lrd.of_row hr2) (by omega)).mono (fun e w'' h => ⟨h.1, h.2 ▸ Below.refl _ _⟩)
   have Hms : Hid (miss c sw (fun a => decide (a ∈ l)) T = (!decide (a ∈ l) && hyT c sw T)) := by rw [ha]; exact rfl
   haveI hinh : Inhabited (Kg.Bel wr) := ⟨⟨wr, Below.refl _ _⟩⟩
   have u0 : ∀ p : Kg.Bel wr, p.v.cell? ⟨vb, 0, none⟩ = some (.pointer (some ⟨b, 0, none⟩)) := fun p => (p.h.cell (p := ⟨vb, 0, none⟩) hvl).trans k0
   have u2 : ∀ p : Kg.Bel wr, p.v.cell? ⟨vb, 1, none⟩ = some (.slice al nl cl) := fun p => (p.h.cell (p := ⟨vb, 1, none⟩) hvl).trans k1
   have u1 : ∀ p : Kg.Bel wr, p.v.cell? ⟨qa, k, none⟩ = some (.int .i64 a) := fun p => (p.h.cell (p := ⟨qa, k, none⟩) hqa).trans ca'
   have Ha : Hid (a = T.at_) := ha
   clear hak hT ha HDr k0 k1 ca' hlv
   have Hnext : Hid (miss c sw (fun a => decide (a ∈ l)) T = false → ∀ j U, j < k + 1 → X[j]? = some U → miss c sw (fun a => decide (a ∈ l)) U = false) := fun h j U hj hU => by
    by_cases e : j = k
    ·subst e
     rw [Hak.out] at hU
     simp at hU
     rw [← hU]
     exact h
    ·exact Hno.out j U (by omega) hU
   go_upto_region 5 with fail
   cases hyb : hyT c sw T
   case false =>
    rw [hyb] at HHo Hms
    have HN2 : Hid (∀ j U, j < k + 1 → X[j]? = some U → miss c sw (fun a => decide (a ∈ l)) U = false) := Hnext.out (by rw [Hms.out, Bool.and_false])
    clear Hnext Hms
    refine Kg.region_below Kg.mixed (by kernel_rfl) ?_
    repeat (go_big_quiet_step (first | with_reducible exact Kg.calls_bel (HHo.out _) | with_reducible exact Kg.calls_bel (HHa.out _)))
    refine wpQuiet_nil ?_
    rintro v6 ⟨⟨_, B6⟩, rfl⟩
    have Hx6 : Hid (v6.ownsRow w.heap.size 3 1 (.slice (some ⟨qa, 0, none⟩) N ca) N (ints (X.map (·.at_)))) := row_keep Hx.out (fun y hy => B6.block y (row_lt Hx.out y hy))
    have Hb6 : Hid (Below w.heap.size w v6) := Hb.out.trans (B6.mono Hb.out.size)
    clear u0 u1 u2 HHo HHa hinh B6 Hx Hb
    go_wp2
    go_roundw
    case rel => exact ⟨k + 1, by omega, by go_num, Hb6, Hx6, HN2⟩
    case measure => simp [intOf]; omega
   rw [hyb] at HHo Hms
   by_cases hm : a ∈ l
   ·rw [decide_eq_true hm] at HHa Hms
    have HN2 : Hid (∀ j U, j < k + 1 → X[j]? = some U → miss c sw (fun a => decide (a ∈ l)) U = false) := Hnext.out (Hms.out)
    clear Hnext Hms
    refine Kg.region_below Kg.mixed (by kernel_rfl) ?_
    repeat (go_big_quiet_step (first | with_reducible exact Kg.calls_bel (HHo.out _) | with_reducible exact Kg.calls_bel (HHa.out _)))
    refine wpQuiet_nil ?_
    rintro v6 ⟨⟨_, B6⟩, rfl⟩
    have Hx6 : Hid (v6.ownsRow w.heap.size 3 1 (.slice (some ⟨qa, 0, none⟩) N ca) N (ints (X.map (·.at_)))) := row_keep Hx.out (fun y hy => B6.block y (row_lt Hx.out y hy))
    have Hb6 : Hid (Below w.heap.size w v6) := Hb.out.trans (B6.mono Hb.out.size)
    clear u0 u1 u2 HHo HHa hinh B6 Hx Hb
    go_wp2
    go_roundw
    case rel => exact ⟨k + 1, by omega, by go_num, Hb6, Hx6, HN2⟩
    case measure => simp [intOf]; omega
   ·rw [decide_eq_false hm] at HHa Hms
    have HE : Hid (rA = a ∧ rB = true) := by
     have h1 : F = some T := by
      rw [HF.out]
      exact find_at Hak.out Hno.out Hms.out
     have := HrA.out
     rw [h1] at this
     rw [Ha.out]
     exact this
    clear Hnext Hms
    refine Kg.region_below Kg.mixed (by kernel_rfl) ?_
    repeat (go_big_quiet_step (first | with_reducible exact Kg.calls_bel (HHo.out _) | with_reducible exact Kg.calls_bel (HHa.out _)))
    refine wpQuiet_nil ?_
    rintro v6 ⟨⟨_, B6⟩, rfl⟩
    have c6 : v6.cell? ⟨qa, k, none⟩ = some (.int .i64 a) := u1 ⟨v6, B6⟩
    have Hb6 : Hid (Below w.heap.size w v6) := Hb.out.trans (B6.mono Hb.out.size)
    clear u0 u1 u2 HHo HHa hinh B6 Hx Hb
    go_wp2
    go_returns
    exact ⟨by rw [HE.out.1, HE.out.2]; rfl, Hb6.out⟩
  ·have hkn : ¬ (k : Int) < (N : Int) := by omega
   have hke : k = X.length := by have := HN.out; omega
   have HE : Hid (rA = 0 ∧ rB = false) := by
    have hnone : F = none := by
     rw [HF.out, List.find?_eq_none]
     intro U hU
     obtain ⟨j, hj⟩ := List.getElem?_of_mem hU
     rw [Hno.out j U (by have := (List.getElem?_eq_some_iff.1 hj).1; omega) hj]
     simp
    have := HrA.out
    rw [hnone] at this
    exact this
   clear Hx
   go_wp2
   go_returns
   exact ⟨by rw [HE.out.1, HE.out.2]; rfl, Hb.out⟩
end
end Go.Proofs.YtlkengnefhhppaaGreatDoor
