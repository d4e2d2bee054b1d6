/-
  Missing.
-/
import Derived.Test.YtfihjmoaibmllaaDoorY19
set_option linter.unusedVariables false
set_option maxRecDepth 20000
namespace Go.Proofs.YtfihjmoaibmllaaDoor
open Go.RowKit Go.Shelf

attribute [local go_sem] Oper.semAt_some

theorem results_cells2 {P : Program} {fn : Func} {p u : Tmp} {t1 t2 : TypeId} (h : fn.results = #[.cell p t1, .cell u t2]) {tmps : Array Value} {w : World} {v1 v2 : Value} {A1 A2 : Addr} (ha : tmps.getD p undef = .pointer (some A1)) (hl : (loadVar t1 A1).run P w = .ok v1 w) (hb : tmps.getD u undef = .pointer (some A2)) (hm : (loadVar t2 A2).run P w = .ok v2 w) :
    (results fn tmps).run P w = .ok (.tuple #[v1, v2]) w := by
  have ha' : tmps[p]?.getD undef = .pointer (some A1) := by simpa using ha
  have hb' : tmps[u]?.getD undef = .pointer (some A2) := by simpa using hb
  simp [results, h, ha', hb', asAddr, hl, hm]

theorem load_int6 {w : World} {A : Addr} {v : Int} (h : w.cell? A = some (.int .i64 v)) : (loadVar 3 A).run Tryd.prog w = .ok (.int .i64 v) w := by
  simp [loadVar, go_sem, h]
theorem load_bool6 {w : World} {A : Addr} {v : Bool} (h : w.cell? A = some (.bool v)) : (loadVar 4 A).run Tryd.prog w = .ok (.bool v) w := by
  simp [loadVar, go_sem, h]

theorem keeps_below {W W' : World} (l : Below W.heap.size W W') : KeepsOthers W W' := ⟨l.size, fun k o h _ => (l.block k (Array.getElem?_eq_some_iff.1 h).1).trans h⟩

/-- The tenured things, as things of th. -/
def tenX (th : List Tng) : List { T : Tng // T ∈ th } := (th.filter (inS 4)).attach.map (fun y => ⟨y.1, (List.mem_filter.1 y.2).1⟩)

theorem tenX_map (th : List Tng) : (tenX th).map (fun y => y.1) = th.filter (inS 4) := by
  unfold tenX
  rw [List.map_map]
  have : ((fun y : { T : Tng // T ∈ th } => y.1) ∘ fun y : { T : Tng // T ∈ th.filter (inS 4) } => (⟨y.1, (List.mem_filter.1 y.2).1⟩ : { T : Tng // T ∈ th })) = Subtype.val := by funext y; rfl
  rw [this]
  exact List.attach_map_subtype_val _

theorem tenX_at (th : List Tng) : (tenX th).map (fun y => y.1.at_) = tens th := by
  have h : (fun y : { T : Tng // T ∈ th } => y.1.at_) = (fun T : Tng => T.at_) ∘ (fun y : { T : Tng // T ∈ th } => y.1) := rfl
  rw [h, ← List.map_map, tenX_map]
  rfl

/-- Is the thing missing? -/
def miss (c : Cfg) (sw : Bool) (S : Int → Bool) (T : Tng) : Bool := !S T.at_ && hyT c sw T

section
variable {w1 w w' : World} {n1 sb b g mb n : Nat} {lv : Value} {c : Cfg} {x : Tps} {sw : Bool} {ws : Nat → Int} {th : List Tng} {l : List Int} {S : Int → Bool}

set_option maxRecDepth 100000 in
set_option maxHeartbeats 8000000 in
theorem missing_any (H : Rm w1 n1 w sb b g mb lv c x sw ws th l n S) :
    Calls Tryd.prog 15 #[.pointer (some ⟨sb, 0, none⟩)] w fun e w' => ∃ (r : Int) (d : Bool), e = .returned (.tuple #[.int .i64 r, .bool d]) ∧ ((d = false ∧ r = 0 ∧ ∀ T, T ∈ th.filter (inS 4) → miss c sw S T = false) ∨ (d = true ∧ ∃ pre T post, th.filter (inS 4) = pre ++ T :: post ∧ miss c sw S T = true ∧ (∀ U, U ∈ pre → miss c sw S U = false) ∧ r = T.at_)) ∧ Below w.heap.size w w' := by
  refine (callsIn_wide (n := 9)).1 ?_
  have HR : Hid (Rm w1 n1 w sb b g mb lv c x sw ws th l n S) := H
  obtain ⟨pp, hp1, hp2⟩ := (H.bq.ax.hl.seg 4 (by decide) (by decide)).walk
  have hwk : Walk c ws (x.top 4) pp ((tenX th).map (fun y => y.1.at_)) (x.top 4) := by rw [tenX_at]; exact hp2
  have hpp : Past c ws (x.top 4) (fst c 4) pp := hp1
  have hsl := H.rs.lt
  have k0 : w.cell? ⟨sb, 0, none⟩ = some (.pointer (some ⟨b, 0, none⟩)) := H.rs.cell 0
  clear H hp1 hp2
  obtain ⟨W0, hW0⟩ : ∃ W0, W0 = ((w.alloc (.cells #[.pointer (some ⟨sb, 0, none⟩)] 35)).alloc (.cells #[.int .i64 0] 3)).alloc (.cells #[.bool false] 4) := ⟨_, rfl⟩
  have hb0 : Below w.heap.size w W0 := by rw [hW0]; exact (((Below.refl _ w).alloc (Nat.le_refl _) _).alloc (by simp) _).alloc (by simp; omega) _
  have HSz0 : Hid (W0.heap.size = w.heap.size + 3) := by show _ = _; rw [hW0]; simp
  have c0 : Boxed W0 w.heap.size 35 (.pointer (some ⟨sb, 0, none⟩)) := by rw [hW0]; exact ((Boxed.new w 35 (.pointer (some ⟨sb, 0, none⟩))).alloc _).alloc _
  have c1 : Boxed W0 (w.heap.size + 1) 3 (.int .i64 0) := by
    have := (Boxed.new (w.alloc (.cells #[.pointer (some ⟨sb, 0, none⟩)] 35)) 3 (.int .i64 0)).alloc (.cells #[.bool false] 4)
    rw [← hW0, World.size_alloc] at this; exact this
  have c2 : Boxed W0 (w.heap.size + 1 + 1) 4 (.bool false) := by
    have := Boxed.new ((w.alloc (.cells #[.pointer (some ⟨sb, 0, none⟩)] 35)).alloc (.cells #[.int .i64 0] 3)) 4 (.bool false)
    rw [← hW0, World.size_alloc, World.size_alloc] at this; exact this
  have k0' : W0.cell? ⟨sb, 0, none⟩ = some (.pointer (some ⟨b, 0, none⟩)) := (hb0.cell (p := ⟨sb, 0, none⟩) hsl).trans k0
  have e0 := c0.cell
  refine callsIn_of_wp_marks Tryd.func15 rfl trivial ?_ rfl
  simp only [Tryd.ntmps15, List.size_toArray, List.length_cons, List.length_nil, Nat.reduceAdd, Nat.reduceSub, Array.replicate_succ, Array.replicate_zero, List.push_toArray, List.append_toArray, List.nil_append, List.cons_append]
  rw [hW0] at k0' e0
  gi_wp2
  rw [← hW0] at k0' e0 ⊢
  refine ⟨trivial, (callsIn_wide.2 (objects_any b 4 W0)).mono ?_⟩
  rintro r w2 ⟨rfl, hw2⟩
  have R1 := HR.out.below hb0
  have i2 := It.new6 R1.bq.ax.ar R1.bq.ax.la 4
  rw [← hw2] at i2
  have b3 : Below W0.heap.size W0 w2 := by rw [hw2]; exact Below.alloc (Below.alloc (Below.refl _ _) (Nat.le_refl _) _) (by simp) _
  have b4 := hb0.trans (b3.mono hb0.size)
  have d0 : Boxed w2 w.heap.size 35 (.pointer (some ⟨sb, 0, none⟩)) := (b3.block _ c0.lt).trans c0
  have d1 : Boxed w2 (w.heap.size + 1) 3 (.int .i64 0) := (b3.block _ c1.lt).trans c1
  have d2 : Boxed w2 (w.heap.size + 1 + 1) 4 (.bool false) := (b3.block _ c2.lt).trans c2
  have HSz : Hid (w.heap.size + 3 ≤ w2.heap.size) := by have := b3.size; show _ ≤ _; have := HSz0.out; omega
  clear hw2 R1 k0' e0 c0 c1 c2 hW0 k0
  gi_wp2
  refine wpIn_rangeFunc_ownF rfl (by decide) (gf := 64) (lb := #[.pointer (some ⟨W0.heap.size, 0, none⟩), .pointer (some ⟨W0.heap.size + 1, 0, none⟩)]) rfl trivial objects1_enters6
    (walk_stops (fun y : { T : Tng // T ∈ th } => y.1.at_) _ b g W0.heap.size (W0.heap.size + 1) c x sw ws 4 (tenX th) pp (x.top 4) hpp hwk w2 i2) (fun h k => h.trans k) (fun W l o o' hl ho hc _ => Kc.put W l o o' ho hc) (Below.refl _ _) (fun _ => rfl)
    (fun pre W => (Boxed W w.heap.size 35 (.pointer (some ⟨sb, 0, none⟩)) ∧ Boxed W (w.heap.size + 1) 3 (.int .i64 0) ∧ Boxed W (w.heap.size + 1 + 1) 4 (.bool false)) ∧ Below w.heap.size w W ∧ Hid (∀ y, y ∈ pre → miss c sw S y.1 = false))
    (fun cc pre W => (cc = .ret ∧ ∃ q y, pre = q ++ [y] ∧ Boxed W (w.heap.size + 1) 3 (.int .i64 y.1.at_) ∧ Boxed W (w.heap.size + 1 + 1) 4 (.bool true) ∧ miss c sw S y.1 = true ∧ (∀ y, y ∈ q → miss c sw S y.1 = false)) ∧ Below w.heap.size w W)
    ?own ?ownx ⟨⟨d0, d1, d2⟩, b4, (fun y hy => by simp at hy : ∀ y, y ∈ ([] : List { T : Tng // T ∈ th }) → miss c sw S y.1 = false)⟩
    (fun y => { tmps := #[.pointer (some ⟨sb, 0, none⟩), .pointer (some ⟨w.heap.size, 0, none⟩), .pointer (some ⟨w.heap.size + 1, 0, none⟩), .pointer (some ⟨w.heap.size + 1 + 1, 0, none⟩), .int .i64 y.1.at_, .pointer (some ⟨sb, 0, none⟩), .pointer (some ⟨sb, 0, none⟩), .pointer (some ⟨sb, 0, none⟩), .pointer (some ⟨b, 0, none⟩), .func (.func 64) #[] #[.pointer (some ⟨W0.heap.size, 0, none⟩), .pointer (some ⟨W0.heap.size + 1, 0, none⟩)], .int .i64 y.1.at_, hdv c ws y.1.at_, undef, undef, undef, undef, undef, undef, undef, undef, undef, undef], defers := [] }) ?assign ?body ?done ?stop
  case own =>
    exact OwnFrom.and (Own.from (fun s A B row hs hg hr => ⟨boxed_own _ _ (fun _ => _) s A B row hs.1 hg hr, boxed_own _ _ (fun _ => _) s A B row hs.2.1 hg hr, boxed_own _ _ (fun _ => _) s A B row hs.2.2 hg hr⟩) _) (OwnFrom.and (ownFrom_below (by omega) (by have := HSz.out; omega)) (ownFrom_pure _ _))
  case ownx =>
    intro cc
    refine OwnFrom.and (Own.from (fun s A B row hs hg hr => ?_) _) (ownFrom_below (by omega) (by have := HSz.out; omega))
    obtain ⟨e1, q, y, e2, hx, hy, hr2⟩ := hs
    exact ⟨e1, q, y, e2, boxed_own _ _ (fun _ => _) s A B row hx hg hr, boxed_own _ _ (fun _ => _) s A B row hy hg hr, hr2⟩
  case assign =>
    intro lp y W K hK
    gi_wp2
    exact hK
  case body =>
    rintro lp pre ⟨T, hT⟩ W ⟨⟨b0, b1, b2⟩, hB, hp⟩ hlen
    have HRW : Hid (Rm w1 n1 W sb b g mb lv c x sw ws th l n S) := HR.out.below hB
    have HT : Hid (T ∈ th) := hT
    have hpos := HRW.out.bq.ax.pos hT
    have hh := sHas_any HRW.out.rs T.at_ (by unfold InI; omega)
    have k1 := b0.cell
    have hlt0 := b0.lt
    have Hb1 : Hid (Boxed W w.heap.size 35 (.pointer (some ⟨sb, 0, none⟩)) ∧ Boxed W (w.heap.size + 1) 3 (.int .i64 0) ∧ Boxed W (w.heap.size + 1 + 1) 4 (.bool false)) := ⟨b0, b1, b2⟩
    clear b0 b1 b2 hpos
    have hpl : ∀ W', Below W.heap.size W W' → (Boxed W' w.heap.size 35 (.pointer (some ⟨sb, 0, none⟩)) ∧ Boxed W' (w.heap.size + 1) 3 (.int .i64 0) ∧ Boxed W' (w.heap.size + 1 + 1) 4 (.bool false)) ∧ Below w.heap.size w W' := fun W' l' => ⟨⟨(l'.block _ Hb1.out.1.lt).trans Hb1.out.1, (l'.block _ Hb1.out.2.1.lt).trans Hb1.out.2.1, (l'.block _ Hb1.out.2.2.lt).trans Hb1.out.2.2⟩, hB.trans (l'.mono hB.size)⟩
    have Hpl : Hid (∀ W', Below W.heap.size W W' → (Boxed W' w.heap.size 35 (.pointer (some ⟨sb, 0, none⟩)) ∧ Boxed W' (w.heap.size + 1) 3 (.int .i64 0) ∧ Boxed W' (w.heap.size + 1 + 1) 4 (.bool false)) ∧ Below w.heap.size w W') := hpl
    have Hno : Hid (miss c sw S T = false → ∀ y, y ∈ pre ++ [⟨T, hT⟩] → miss c sw S y.1 = false) := fun hm y hy => by
      rcases List.mem_append.1 hy with h | h
      · exact hp.out y h
      · simp only [List.mem_singleton] at h
        rw [h]
        exact hm
    clear hpl
    cases hS : S T.at_
    · rw [hS] at hh
      have HM : Hid (miss c sw S T = hyT c sw T) := by
        show _ = _
        unfold miss
        rw [hS]
        simp
      clear hS
      gi_wp2
      first | refine ⟨trivial, ((callsIn_wide.2 hh).inRound lp).mono ?_⟩ | refine ⟨trivial, trivial, ((callsIn_wide.2 hh).inRound lp).mono ?_⟩ | refine ⟨trivial, trivial, fun h => (by cases h), ((callsIn_wide.2 hh).inRound lp).mono ?_⟩
      rintro r w4 ⟨rfl, l4⟩
      have HR4 : Hid (Rm w1 n1 w4 sb b g mb lv c x sw ws th l n S) := HRW.out.below l4
      have hy := holdsYoung_any HR4.out HT.out
      have k4 : w4.cell? ⟨w.heap.size, 0, none⟩ = some (.pointer (some ⟨sb, 0, none⟩)) := (l4.cell (p := ⟨w.heap.size, 0, none⟩) hlt0).trans k1
      clear hh k1
      rw [← HM.out] at hy
      cases hm : miss c sw S T
      · rw [hm] at hy
        have Hm : Hid (miss c sw S T = false) := hm
        clear hm HM
        gi_wp2
        first | refine ⟨trivial, ((callsIn_wide.2 hy).inRound lp).mono ?_⟩ | refine ⟨trivial, trivial, ((callsIn_wide.2 hy).inRound lp).mono ?_⟩ | refine ⟨trivial, trivial, fun h => (by cases h), ((callsIn_wide.2 hy).inRound lp).mono ?_⟩
        rintro r w5 ⟨rfl, l5⟩
        have l6 := l4.trans (l5.mono l4.size)
        clear hy k4 l5 HR4
        gi_wp2
        obtain ⟨q1, q2⟩ := Hpl.out w5 l6
        exact ⟨keeps_below l6, Kc.below l6, q1, q2, Hno.out Hm.out⟩
      · rw [hm] at hy
        have Hm : Hid (miss c sw S T = true) := hm
        clear hm HM
        gi_wp2
        first | refine ⟨trivial, ((callsIn_wide.2 hy).inRound lp).mono ?_⟩ | refine ⟨trivial, trivial, ((callsIn_wide.2 hy).inRound lp).mono ?_⟩ | refine ⟨trivial, trivial, fun h => (by cases h), ((callsIn_wide.2 hy).inRound lp).mono ?_⟩
        rintro r w5 ⟨rfl, l5⟩
        have l6 := l4.trans (l5.mono l4.size)
        obtain ⟨q1, q2⟩ := Hpl.out w5 l6
        have Q1 : Hid (Boxed w5 (w.heap.size + 1) 3 (.int .i64 0) ∧ Boxed w5 (w.heap.size + 1 + 1) 4 (.bool false)) := q1.2
        have f1 := q1.2.1.frozen
        have f2 := q1.2.2.frozen
        have e1 := q1.2.1.cell
        have e2 := q1.2.2.cell
        have K5 : Hid (KeepsOthers W w5) := keeps_below l6
        clear hy k4 l5 HR4 q1 l4 l6
        gi_wp2
        refine ⟨K5.out.trans ((KeepsOthers.setCell _ _ _).trans (KeepsOthers.setCell _ _ _)), ⟨rfl, pre, ⟨T, hT⟩, rfl, ?_, ?_, Hm.out, hp.out⟩, ?_⟩
        · exact (Below.heap_setCell _ _ _ _ (by simp)).trans (Q1.out.1.set (.int .i64 T.at_))
        · have h5 : Boxed (w5.setCell ⟨w.heap.size + 1, 0, none⟩ (.int .i64 T.at_)) (w.heap.size + 1 + 1) 4 (.bool false) := (Below.heap_setCell _ _ _ _ (by simp)).trans Q1.out.2
          exact h5.set (.bool true)
        · exact Below.setCell (p := ⟨w.heap.size + 1 + 1, 0, none⟩) (Below.setCell (p := ⟨w.heap.size + 1, 0, none⟩) q2 (by simp only; omega) _) (by simp only; omega) _
    · rw [hS] at hh
      have Hm : Hid (miss c sw S T = false) := by
        show _ = _
        unfold miss
        rw [hS]
        simp
      clear hS
      gi_wp2
      first | refine ⟨trivial, ((callsIn_wide.2 hh).inRound lp).mono ?_⟩ | refine ⟨trivial, trivial, ((callsIn_wide.2 hh).inRound lp).mono ?_⟩ | refine ⟨trivial, trivial, fun h => (by cases h), ((callsIn_wide.2 hh).inRound lp).mono ?_⟩
      rintro r w4 ⟨rfl, l4⟩
      clear hh k1
      gi_wp2
      refine ⟨trivial, ?_⟩
      gi_wp2
      obtain ⟨q1, q2⟩ := Hpl.out w4 l4
      exact ⟨keeps_below l4, Kc.below l4, q1, q2, Hno.out Hm.out⟩
  case done =>
    rintro D xs W hD rfl ⟨⟨b0, b1, b2⟩, hB, hp⟩ hK
    have f1 := b1.frozen
    have e1 := b1.cell
    have f2 := b2.frozen
    have e2 := b2.cell
    have Hp : Hid (∀ T, T ∈ th.filter (inS 4) → miss c sw S T = false) := fun T hT => by
      rw [← tenX_map] at hT
      obtain ⟨y, h1, h2⟩ := List.mem_map.1 hT
      rw [← h2]
      exact hp.out y h1
    clear hp
    gi_wp2
    obtain ⟨W5, hW5⟩ : ∃ W5, W5 = (W.setCell ⟨w.heap.size + 1, 0, none⟩ (.int .i64 0)).setCell ⟨w.heap.size + 1 + 1, 0, none⟩ (.bool false) := ⟨_, rfl⟩
    have hK' : W5.heap[D]? = some (.deferred (some [])) := by rw [hW5]; exact (KeepsOthers.setCell _ _ _).same D _ ((KeepsOthers.setCell _ _ _).same D _ hK rfl) rfl
    have hB' : Below w.heap.size w W5 := by rw [hW5]; exact Below.setCell (p := ⟨w.heap.size + 1 + 1, 0, none⟩) (Below.setCell (p := ⟨w.heap.size + 1, 0, none⟩) hB (by simp only; omega) _) (by simp only; omega) _
    have hb1 : Boxed W5 (w.heap.size + 1) 3 (.int .i64 0) := by rw [hW5]; exact (Below.heap_setCell _ _ _ _ (by simp)).trans (b1.set (.int .i64 0))
    have hb2 : Boxed W5 (w.heap.size + 1 + 1) 4 (.bool false) := by
      rw [hW5]
      have h5 : Boxed (W.setCell ⟨w.heap.size + 1, 0, none⟩ (.int .i64 0)) (w.heap.size + 1 + 1) 4 (.bool false) := (Below.heap_setCell _ _ _ _ (by simp)).trans b2
      exact h5.set (.bool false)
    rw [← hW5]
    have kc1 : (W5.putObj D (.deferred none)).cell? ⟨w.heap.size + 1, 0, none⟩ = some (.int .i64 0) := cell_kept hb1.cell (grownBy_putObj' _ D (.deferred none)) (fun r e => by cases e; exact ⟨_, hK', rfl⟩)
    have kc2 : (W5.putObj D (.deferred none)).cell? ⟨w.heap.size + 1 + 1, 0, none⟩ = some (.bool false) := cell_kept hb2.cell (grownBy_putObj' _ D (.deferred none)) (fun r e => by cases e; exact ⟨_, hK', rfl⟩)
    refine ⟨by simp, .inl ⟨_, _, rfl, run_takeDeferred hK', ?_⟩⟩
    exact ⟨_, results_cells2 Tryd.results15 rfl (load_int6 kc1) rfl (load_bool6 kc2), 0, false, rfl, .inl ⟨rfl, rfl, Hp.out⟩, hB'.trans (belowK_b (w := w) (Nat.le_refl _) W5 D _ _ (by have := HSz.out; omega) hK' rfl rfl)⟩
  case stop =>
    rintro D cc pre W hD hpre ⟨⟨rfl, q, y, rfl, hx, hy, hm, hq⟩, hB⟩ hK
    have Hs : Hid (∃ pre T post, th.filter (inS 4) = pre ++ T :: post ∧ miss c sw S T = true ∧ (∀ U, U ∈ pre → miss c sw S U = false) ∧ y.1.at_ = T.at_) := by
      obtain ⟨post, hpost⟩ := hpre
      have h1 := congrArg (List.map (fun y : { T : Tng // T ∈ th } => y.1)) hpost
      rw [tenX_map] at h1
      refine ⟨q.map (fun y => y.1), y.1, post.map (fun y => y.1), ?_, hm, fun U hU => ?_, rfl⟩
      · rw [← h1]
        simp
      · obtain ⟨z, h2, h3⟩ := List.mem_map.1 hU
        rw [← h3]
        exact hq z h2
    clear hq hm hpre
    gi_wp2
    have kc1 : (W.putObj D (.deferred none)).cell? ⟨w.heap.size + 1, 0, none⟩ = some (.int .i64 y.1.at_) := cell_kept hx.cell (grownBy_putObj' _ D (.deferred none)) (fun r e => by cases e; exact ⟨_, hK, rfl⟩)
    have kc2 : (W.putObj D (.deferred none)).cell? ⟨w.heap.size + 1 + 1, 0, none⟩ = some (.bool true) := cell_kept hy.cell (grownBy_putObj' _ D (.deferred none)) (fun r e => by cases e; exact ⟨_, hK, rfl⟩)
    refine ⟨by simp, .inl ⟨_, _, rfl, run_takeDeferred hK, ?_⟩⟩
    exact ⟨_, results_cells2 Tryd.results15 rfl (load_int6 kc1) rfl (load_bool6 kc2), y.1.at_, true, rfl, .inr ⟨rfl, Hs.out⟩, hB.trans (belowK_b (w := w) (Nat.le_refl _) W D _ _ (by have := HSz.out; omega) hK rfl rfl)⟩
end

end Go.Proofs.YtfihjmoaibmllaaDoor
