/-
  Rebuild.
-/
import Derived.Test.YtfihjmoaibmllaaDoorY18
import Derived.Test.YtfihjmoaibmllaaDoorYW
set_option linter.unusedVariables false
set_option maxRecDepth 20000
namespace Go.Proofs.YtfihjmoaibmllaaDoor
open Go.RowKit Go.Shelf

attribute [local go_sem] Oper.semAt_some

theorem ownsRow_succ {w : World} {base n e s : Nat} {v : Value} {xs : List Value} (h : w.ownsRow base e s v (n + 1) xs) : ∃ g cap, v = .slice (some ⟨g, 0, none⟩) (n + 1) cap := by
  rcases h.2 with ⟨_, h0⟩ | ⟨g, cap, cur, rfl, _⟩
  · omega
  · exact ⟨g, cap, rfl⟩

/-- What copied holds between two rounds. -/
def Copying {α : Type} (w : World) (tb te : Nat) (enc : α → Value) (S : Nat → Prop) (pre : List α) (W : World) : Prop :=
  ∃ v, Boxed W w.heap.size tb v ∧ W.ownsRow w.heap.size te 1 v pre.length (pre.map enc) ∧ ¬ S w.heap.size ∧ (∀ g, v.ownBlock = some g → ¬ S g) ∧ (∀ k, S k → k < W.heap.size) ∧ Below w.heap.size w W

theorem copying_own {α : Type} (w : World) (tb te : Nat) (enc : α → Value) (B : Nat) (hB : w.heap.size ≤ B) : OwnS B (Copying w tb te enc) := by
  rintro S s X Y row ⟨v, hb, hr, h1, h2, h3, h4⟩ hg hrow
  have hbr : some w.heap.size ≠ row := fun e => by
    obtain ⟨_, o, ho, hc⟩ := hrow _ e.symm
    rw [show X.heap[w.heap.size]? = _ from hb] at ho; cases ho; cases hc
  have hvr : v.ownBlock = none ∨ v.ownBlock ≠ row := by
    rcases hr.2 with ⟨rfl, _⟩ | ⟨g, cap, cur, rfl, _, hgb, _⟩
    · exact .inl rfl
    · refine .inr fun e' => ?_
      obtain ⟨_, o, ho, hc⟩ := hrow g (by simpa [Value.ownBlock] using e'.symm)
      rw [hgb] at ho; cases ho; cases hc
  refine ⟨v, hb.kept hg hbr, hr.kept hg hvr, ?_, ?_, ?_, ?_⟩
  · rintro (h | h)
    · exact h1 h
    · have := hb.lt; omega
  · rintro g e (h | h)
    · exact h2 g e h
    · have := (hr.lt g e).2; omega
  · rintro k (h | h)
    · have := h3 k h; have := hg.size; omega
    · exact h.2
  · exact h4.grown hg h4.size (fun k e => by have := (hrow k e).1; omega)

theorem copying_step {α : Type} {w W w1 : World} {tb te : Nat} {enc : α → Value} {S : Nat → Prop} {pre : List α} {x : α} {v v' : Value} {tmp : Obj} {a : Act} (hte : tb ≠ te) (hv : Boxed W w.heap.size tb v) (hrow : W.ownsRow w.heap.size te 1 v pre.length (pre.map enc))
    (h1 : ¬ S w.heap.size) (h2 : ∀ g, v.ownBlock = some g → ¬ S g) (h3 : ∀ k, S k → k < W.heap.size) (hB : Below w.heap.size w W)
    (hown : w1.ownsRow w.heap.size te 1 v' (pre.length + 1) (pre.map enc ++ [enc x])) (hgrow : (W.alloc tmp).grownBy w1 v.ownBlock) (hat : v'.ownBlock = v.ownBlock ∨ v'.ownBlock = some (W.alloc tmp).heap.size) :
    goesOn w.heap.size (Copying w tb te enc) S (pre ++ [x]) W .normal a (w1.setCell ⟨w.heap.size, 0, none⟩ v') := by
  obtain ⟨hv1, hv2, hr2, hk2, hb2⟩ := hv.appended hte hrow hB.size (Nat.le_refl _) hown hgrow
  refine ⟨fun k hk => ?_, hb2, v', hv2, by simpa using hr2, h1, fun g hg => ?_, fun k hk => ?_, hB.trans hb2⟩
  · have hkl := h3 k hk
    rw [Below.heap_setCell _ _ _ _ (fun e => h1 (by simp at e; rw [← e]; exact hk)), hgrow.block k (by simp; omega) (fun e => h2 k e.symm hk), Below.heap_alloc _ _ _ hkl]
  · rcases hat with e | e
    · exact h2 g (e ▸ hg)
    · rw [e] at hg; cases hg
      intro hS; have := h3 _ hS; simp at this; omega
  · exact Nat.lt_of_lt_of_le (h3 k hk) hb2.size


/-- The addresses of the tenured things. -/
def tens (th : List Tng) : List Int := (th.filter (inS 4)).map (·.at_)

theorem It.new6 {w : World} {b g : Nat} {c : Cfg} {x : Tps} {sw : Bool} {ws : Nat → Int} (h : Ar w b g c x sw ws) (hL : Laid w) (S : Int) : It ((w.alloc (.cells #[.pointer (some ⟨b, 0, none⟩)] 32)).alloc (.cells #[.int .i64 S] 3)) b g w.heap.size (w.heap.size + 1) c x sw ws S := by
  have l : Below w.heap.size w ((w.alloc (.cells #[.pointer (some ⟨b, 0, none⟩)] 32)).alloc (.cells #[.int .i64 S] 3)) := Below.alloc (Below.alloc (Below.refl _ _) (Nat.le_refl _) _) (by simp) _
  refine ⟨h.below l, hL.keep l, ?_, ?_⟩
  · exact cell_of_row _ _ 0 _ _ _ ((Below.heap_alloc _ _ _ (by simp)).trans (heap_alloc_new w (.cells #[.pointer (some ⟨b, 0, none⟩)] 32 (0, 0))))
  · have := heap_alloc_new (w.alloc (.cells #[.pointer (some ⟨b, 0, none⟩)] 32)) (.cells #[.int .i64 S] 3 (0, 0))
    simp only [World.size_alloc] at this
    exact cell_of_row _ _ 0 _ _ _ this

theorem objects1_enters6 : ∀ args w, (callFunc 64 args).run Tryd.prog w = .ok (.enter 64 args) w := enters_of Tryd.func64 (by kernel_rfl) rfl

theorem clear_run {w : World} {mb n : Nat} {S : Int → Bool} (h : Ms w mb n S) : ∃ w', (∀ ty, (Builtin.clear_ #[80] ty #[.map (some mb)]).run Tryd.prog w = .ok (.tuple #[]) w') ∧ Ms w' mb 0 (fun _ => false) ∧ Touch [mb] w w' := by
  obtain ⟨es, cl, hb⟩ := h.is
  refine ⟨ChangeMaps.setBlock w mb (.map #[] cl), fun ty => ?_, ⟨.map [], ⟨#[], cl, ?_, ⟨by simp, MapKept.stamped_empty cl, by simp⟩, Nat.le_refl _, rfl⟩, fun a _ => by simp [Maps.has]⟩, ⟨rfl, rfl, rfl, by simp [ChangeMaps.setBlock], fun k hk hn => ?_⟩⟩
  · simp [Builtin.clear_, run_underlying Tryd.underlying80, MapKept.run_getObj_map hb, MapKept.run_setObj_map _ hb, Result.andThen, ChangeMaps.setBlock]
  · simp [ChangeMaps.setBlock, (Array.getElem?_eq_some_iff.1 hb).1]
  · simp at hn
    simp [ChangeMaps.setBlock, Array.getElem?_setIfInBounds]
    intro e
    exact absurd e.symm hn

section
variable {w1 w w' : World} {n1 sb b g mb n : Nat} {lv : Value} {c : Cfg} {x : Tps} {sw : Bool} {ws : Nat → Int} {th : List Tng} {l : List Int} {S : Int → Bool}

theorem clear_rm (H : Rm w1 n1 w sb b g mb lv c x sw ws th l n S) (hm : Ms w' mb 0 (fun _ => false)) (t : Touch [mb] w w') : Rm w1 n1 w' sb b g mb lv c x sw ws th l 0 (fun _ => false) := by
  have hmne : sb ≠ mb := fun e => H.rs.map.ne H.rs.own e
  refine H.set t (fun q hq => .inr (.inl (by simpa using hq))) ⟨?_, ?_, hm⟩ H.lv_
  · rw [t.block sb H.rs.lt (by simpa using hmne)]
    exact H.rs.own
  · refine row_keep H.rs.row (fun q hq => t.block q (row_lt H.rs.row q hq) ?_)
    simp
    intro e
    subst e
    rcases H.rs.row.2 with ⟨e, _⟩ | ⟨y, cp, cur, e, _, hy, _⟩
    · rw [e] at hq; simp [Value.ownBlock] at hq
    · rw [e] at hq
      simp [Value.ownBlock] at hq
      subst hq
      exact H.rs.map.ne hy rfl

/-- A block that is no cells and no map turns. -/
theorem Rm.putObj {D : Nat} {o' : Obj} {N : Nat} (H : Rm w1 n1 w sb b g mb lv c x sw ws th l n S) (hD : w.heap[D]? = some (.deferred (some []))) (ho : o' = .deferred none) (hN : w1.heap.size ≤ N) (hD2 : N ≤ D) : Rm w1 n1 (w.putObj D o') sb b g mb lv c x sw ws th l n S := by
  have hother : ∀ k, k ≠ D → (w.putObj D o').heap[k]? = w.heap[k]? := fun k hk => World.putObj_heap_other hk
  have nc : ∀ k cs t, w.heap[k]? = some (.cells cs t (0, 0)) → k ≠ D := fun k cs t hk e => by
    subst e
    rw [hk] at hD
    simp at hD
  have t : Touch [D] w (w.putObj D o') := ⟨rfl, rfl, rfl, by simp, fun k hk hn => hother k (by simpa using hn)⟩
  obtain ⟨⟨gs, hgs⟩, bs, hbs⟩ := H.bq.ax.ar.rowTy
  have hn := H.hn
  have hb := H.bq.be.size
  have t0 := H.bq.t0
  have t1 := H.bq.t1
  refine ⟨⟨H.bq.ax.touch t (by simp; exact nc _ _ _ hbs) (by simp; exact nc _ _ _ hgs) (by simp; omega) (by simp; omega), H.bq.be.trans (t.below (by omega) (fun k hk => by simp at hk; omega)), H.bq.lb, H.bq.lg, H.bq.t0, H.bq.t1⟩, H.rs.touch t (by simp; exact nc _ _ _ H.rs.own) (fun hm => ?_) (fun q hq hm => ?_), H.ls, H.lm, H.lv_, H.hn⟩
  · simp at hm
    obtain ⟨es, cl, h6⟩ := H.rs.map.is
    rw [hm, hD] at h6
    simp at h6
  · simp at hm
    subst hm
    rcases H.rs.row.2 with ⟨e, _⟩ | ⟨y, cp, cur, e, _, hy, _⟩
    · rw [e] at hq; simp [Value.ownBlock] at hq
    · rw [e] at hq
      simp [Value.ownBlock] at hq
      subst hq
      exact nc _ _ _ hy rfl

set_option maxRecDepth 100000 in
set_option maxHeartbeats 8000000 in
theorem rebuild_any (H : Rm w1 n1 w sb b g mb lv c x sw ws th l n S) (hth : th.length ≤ 10000) :
    Calls Tryd.prog 16 #[.pointer (some ⟨sb, 0, none⟩)] w fun e w' => e = .returned (.tuple #[]) ∧ Touch [sb, mb, b, g] w w' ∧ ∃ lv' ws', Rm w1 n1 w' sb b g mb lv' c x sw ws' (mk_ (inS' (hta c sw th) (fun _ => false) (tens th)) (tens th) th) ((tens th).filter (hta c sw th)) (tens th).length (inS' (hta c sw th) (fun _ => false) (tens th)) := by
  refine (callsIn_wide (n := 9)).1 ?_
  obtain ⟨i0, hi, hz0, hz1, hz2⟩ := info_parts Tryd.infoInt
  have HR : Hid (Rm w1 n1 w sb b g mb lv c x sw ws th l n S) := H
  have k0 : w.cell? ⟨sb, 0, none⟩ = some (.pointer (some ⟨b, 0, none⟩)) := H.rs.cell 0
  have hsl := H.rs.lt
  have l1 : Below w.heap.size w (w.alloc (.cells #[.slice none 0 0] 42)) := Below.alloc (Below.refl _ _) (Nat.le_refl _) _
  have k0' : (w.alloc (.cells #[.slice none 0 0] 42)).cell? ⟨sb, 0, none⟩ = some (.pointer (some ⟨b, 0, none⟩)) := (l1.cell (p := ⟨sb, 0, none⟩) hsl).trans k0
  obtain ⟨pp, hp1, hp2⟩ := (H.bq.ax.hl.seg 4 (by decide) (by decide)).walk
  have hwk : Walk c ws (x.top 4) pp (tens th) (x.top 4) := hp2
  have hpp : Past c ws (x.top 4) (fst c 4) pp := hp1
  have hbl : b < w.heap.size := H.bq.ax.ar.own.lt
  have hgl : g < w.heap.size := H.bq.ax.ar.row.lt
  have h0l := H.bq.ax.la.lt0
  have h1l := H.bq.ax.la.lt1
  have hlen : (tens th).length ≤ 10000 := by
    unfold tens
    have := List.length_filter_le (inS 4) th
    simp
    omega
  have Htn : Hid (∀ a, a ∈ tens th → ∃ T, T ∈ th ∧ T.at_ = a) := fun a ha => by
    unfold tens at ha
    obtain ⟨T, h1, h2⟩ := List.mem_map.1 ha
    exact ⟨T, (List.mem_filter.1 h1).1, h2⟩
  clear H k0 hp1 hp2
  obtain ⟨ns, hns⟩ : ∃ ns, ns = tens th := ⟨_, rfl⟩
  rw [← hns] at hwk hlen Htn ⊢
  clear hns
  refine callsIn_of_wp_marks Tryd.func16 rfl trivial ?_ rfl
  simp only [Tryd.ntmps16, List.size_toArray, List.length_cons, List.length_nil, Nat.reduceAdd, Nat.reduceSub, Array.replicate_succ, Array.replicate_zero, List.push_toArray, List.append_toArray, List.nil_append, List.cons_append]
  gi_wp2
  have bO := Boxed.new w 42 (.slice none 0 0)
  generalize w.alloc (.cells #[.slice none 0 0] 42) = W1 at *
  refine ⟨trivial, (callsIn_wide.2 (objects_any b 4 W1)).mono ?_⟩
  rintro r w2 ⟨rfl, hw2⟩
  have R1 := HR.out.below l1
  have i2 := It.new6 R1.bq.ax.ar R1.bq.ax.la 4
  rw [← hw2] at i2
  have b3 : Below W1.heap.size W1 w2 := by rw [hw2]; exact Below.alloc (Below.alloc (Below.refl _ _) (Nat.le_refl _) _) (by simp) _
  have b4 := l1.trans (b3.mono l1.size)
  have bO2 : Boxed w2 w.heap.size 42 (.slice none 0 0) := (b3.block _ bO.lt).trans bO
  have hW1 : w.heap.size < W1.heap.size := bO.lt
  clear hw2 R1 k0'
  gi_wp2
  have hcl := World.block_lt_of_cell? _ _ i2.ca
  have hsl2 := World.block_lt_of_cell? _ _ i2.cs
  simp only at hcl hsl2
  have hwf := walk_full b g W1.heap.size (W1.heap.size + 1) c x sw ws 4 ns pp (x.top 4) hpp hwk w.heap.size w2 i2 (by have := b4.size; omega) hbl hgl h0l h1l
  refine range_full (S0 := fun k => k = W1.heap.size ∨ k = W1.heap.size + 1) (Own := fun k => k = W1.heap.size ∨ k = W1.heap.size + 1) (gf := 64) (lb := #[.pointer (some ⟨W1.heap.size, 0, none⟩), .pointer (some ⟨W1.heap.size + 1, 0, none⟩)]) (w0 := w2) (n0 := w.heap.size) (encs := encO c ws) (xs := ns) rfl objects1_enters6 hwf (fun k h => h) (Below.refl _ _) b4.size (fun _ => rfl)
    (Copying w 42 3 (Value.int .i64)) (copying_own w 42 3 (Value.int .i64) _ b4.size)
    ⟨_, bO2, World.ownsRow_nil _ _ _ _, by rintro (h | h) <;> omega, by simp [Value.ownBlock], by rintro k (rfl | rfl) <;> assumption, b4⟩
    (fun y => { tmps := #[.pointer (some ⟨sb, 0, none⟩), undef, .pointer (some ⟨w.heap.size, 0, none⟩), .int .i64 y, .pointer (some ⟨sb, 0, none⟩), .pointer (some ⟨sb, 0, none⟩), .pointer (some ⟨sb, 0, none⟩), .pointer (some ⟨b, 0, none⟩), .func (.func 64) #[] #[.pointer (some ⟨W1.heap.size, 0, none⟩), .pointer (some ⟨W1.heap.size + 1, 0, none⟩)], .int .i64 y, hdv c ws y, undef, undef, undef, undef, undef, undef, undef, undef, undef, undef, undef], defers := [] }) ?assign ?body ?done
  case assign =>
    intro lp y W K m hK
    gi_wp2
    exact hK
  case body =>
    rintro lp S1 pre y W m ⟨v, hv, hrow, h1, h2, h3, hB⟩ hpre
    have hpl : pre.length < 8796093022208 := by have := hpre.length_le; simp at this; omega
    have hc := hv.cell
    gi_wp2_with (gi_at_builtin; refine wpListIn_append_own_at _ rfl _ _ 42 rfl w.heap.size 3 i0 (.int .i64 0) 1 8 Tryd.underlying42 hi hz0 hz1 hz2 rfl (by decide) _ _ _ rfl (hrow.alloc _) ⟨W.heap.size, 0, none⟩ 1 1 [.int .i64 y] rfl rfl (cell_one_new _ _ _) (by simp [Value.oneCell']) (by simp [maxLen]; omega) (by omega) (by have := hB.size; simp; omega) ?_; intro v' w4 hown' hgrow _ hat; obtain ⟨g', cap', rfl⟩ := ownsRow_succ hown'; obtain ⟨hv1, hv2, hr2, hk2, hb2⟩ := hv.appended (by decide) hrow hB.size (Nat.le_refl _) hown' hgrow; have hc1 := hv1.cell; have hf1 := hv1.frozen)
    exact copying_step (by decide) hv hrow h1 h2 h3 hB hown' hgrow hat
  case done =>
    rintro D S1 W hD ⟨v, hv, hrow, h1, h2, h3, hB⟩ hK
    have hRW := HR.out.below hB
    obtain ⟨a0, c0, rfl⟩ := own_sl hrow
    have kv : W.cell? ⟨w.heap.size, 0, none⟩ = some (.slice a0 ns.length c0) := hv.cell
    have k2 : W.cell? ⟨sb, 2, none⟩ = some (.map (some mb)) := hRW.rs.cell 2
    obtain ⟨W2, hclr, hms2, t2⟩ := clear_run hRW.rs.map
    have R2 := clear_rm hRW hms2 t2
    have hvl := hv.lt
    have hne1 : w.heap.size ≠ mb := fun e => by have := HR.out.rs.map.lt; omega
    have kv2 : W2.cell? ⟨w.heap.size, 0, none⟩ = some (.slice a0 ns.length c0) := (World.cell?_of_block (w := W) (t2.block _ hvl (by simpa using hne1))).trans kv
    have hrow2 : W2.ownsRow 0 3 1 (.slice a0 ns.length c0) ns.length (ints ns) := by
      have h5 := row_keep hrow (fun y hy => t2.block y (row_lt hrow y hy) (by
        simp
        intro e
        subst e
        rcases hrow.2 with ⟨e, _⟩ | ⟨y2, cp, cur, e, _, hy2, _⟩
        · rw [e] at hy; simp [Value.ownBlock] at hy
        · rw [e] at hy
          simp [Value.ownBlock] at hy
          subst hy
          exact hRW.rs.map.ne hy2 rfl))
      refine ⟨h5.1, ?_⟩
      rcases h5.2 with h | ⟨g5, cap5, cur5, e1, -, e2⟩
      · exact .inl h
      · exact .inr ⟨g5, cap5, cur5, e1, Nat.zero_le _, e2⟩
    have hDl := (Array.getElem?_eq_some_iff.1 hK).1
    have hK2 : W2.heap[D]? = some (.deferred (some [])) := (t2.block D hDl (by
      simp
      intro e
      subst e
      obtain ⟨es, cl, h6⟩ := hRW.rs.map.is
      rw [h6] at hK
      simp at hK)).trans hK
    have hren := renew_any R2 (.slice a0 ns.length c0) ns hrow2 Htn.out (by omega) (by omega)
    have HK2 : Hid (W2.heap[D]? = some (.deferred (some []))) := hK2
    have HDn : Hid (D ∉ [sb, mb, b, g]) := by
      have e1 := hRW.rs.own
      obtain ⟨⟨gs, hgs⟩, bs, hbs⟩ := hRW.bq.ax.ar.rowTy
      obtain ⟨es, cl, h6⟩ := hRW.rs.map.is
      show D ∉ [sb, mb, b, g]
      simp only [List.mem_cons, List.not_mem_nil, or_false, not_or]
      refine ⟨fun e => ?_, fun e => ?_, fun e => ?_, fun e => ?_⟩
      · subst e; rw [e1] at hK; simp at hK
      · subst e; rw [h6] at hK; simp at hK
      · subst e; rw [hbs] at hK; simp at hK
      · subst e; rw [hgs] at hK; simp at hK
    have HDl : Hid (D < W2.heap.size) := by
      have := t2.size
      show D < _
      omega
    have HDw : Hid (w.heap.size ≤ D) := by
      have := b4.size
      show _ ≤ D
      omega
    have HT2 : Hid (Touch [sb, mb, b, g] w W2) := (Touch.of_below hB _).trans (t2.wide (fun x hx => by simp at hx; simp [hx]))
    clear hv hrow h1 h2 h3 hRW hms2 t2 R2 hvl hne1 kv hrow2 hK2 hK hwf i2 bO bO2 b3
    gi_wp2
    refine ⟨trivial, (callsIn_wide.2 hren).mono ?_⟩
    rintro r w6 ⟨rfl, t6, lv6, ws6, R6⟩
    have hK6 : w6.heap[D]? = some (.deferred (some [])) := (t6.block D HDl.out HDn.out).trans HK2.out
    have HR6 : Hid (Rm w1 n1 w6 sb b g mb lv6 c x sw ws6 (mk_ (inS' (hta c sw th) (fun _ => false) ns) ns th) (ns.filter (hta c sw th)) (0 + ns.length) (inS' (hta c sw th) (fun _ => false) ns)) := R6
    have HT6 : Hid (Touch [sb, mb, b, g] w w6) := HT2.out.trans t6
    clear hren t6 R6 kv2 k2 hclr
    gi_wp2
    refine ⟨by simp, .inl ⟨_, _, rfl, run_takeDeferred hK6, ?_⟩⟩
    refine ⟨_, results_none rfl _ _ _, rfl, ?_, lv6, ws6, ?_⟩
    · have tp : Touch [D] w6 (w6.putObj D (.deferred none)) := ⟨rfl, rfl, rfl, by simp, fun k hk hn => World.putObj_heap_other (by simpa using hn)⟩
      exact HT6.out.then tp (fun y hy => by simp at hy; exact .inr (by have := HDw.out; omega))
    rw [Nat.zero_add] at HR6
    have hn6 : w.heap.size ≤ w6.heap.size := by
      have := (Array.getElem?_eq_some_iff.1 hK6).1
      have := HDw.out
      omega
    exact Rm.putObj HR6.out hK6 rfl HR.out.bq.be.size HDw.out
end

end Go.Proofs.YtfihjmoaibmllaaDoor
