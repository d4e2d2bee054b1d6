import Derived.Test.YtlkengnefhhppaaGreatDoorPYf
import Derived.Test.YtlkengnefhhppaaGreatDoorPQa
import Derived.Test.YtlkengnefhhppaaGreatDoorPYb
set_option linter.unusedVariables false
set_option maxHeartbeats 8000000
set_option maxRecDepth 20000
namespace Go.Proofs.YtlkengnefhhppaaGreatDoor
open Go.RowKit Go.Shelf
attribute [local go_sem] Oper.semAt_some
section
variable {w1 w w' : World} {n1 sb b g mb n : Nat} {lv : Value} {c : Cfg} {x : Tps} {sw : Bool} {ws : Nat → Int} {th : List Tng} {l : List Int} {S : Int → Bool}
set_option maxRecDepth 100000 in
theorem rebuild_core (H : Rm w1 n1 w sb b g mb lv c x sw ws th l n S) (hth : th.length ≤ 1073741824) (Kx : (Nat → Int) → Prop)
  (hrw : ∀ W2 nv, Rm w1 n1 W2 sb b g mb lv c x sw ws th l 0 (fun _ => false) → W2.ownsRow 0 3 1 nv (tens th).length (ints (tens th)) → Calls Tryz.prog 65 #[.pointer (some ⟨sb, 0, none⟩), nv] W2 fun e w' => e = .returned (.tuple #[]) ∧ Touch [sb, mb, b, g] W2 w' ∧ ∃ lv' ws', (∀ q, lv'.ownBlock = some q → W2.heap.size ≤ q) ∧ Kx ws' ∧ Rm w1 n1 w' sb b g mb lv' c x sw ws' (mk_ (inS' (hta c sw th) (fun _ => false) (tens th)) (tens th) th) ((tens th).filter (hta c sw th)) (0 + (tens th).length) (inS' (hta c sw th) (fun _ => false) (tens th))) :
  Calls Tryz.prog 22 #[.pointer (some ⟨sb, 0, none⟩)] w fun e w' => e = .returned (.tuple #[]) ∧ Touch [sb, mb, b, g] w w' ∧ ∃ lv' ws', (∀ q, lv'.ownBlock = some q → w.heap.size ≤ q) ∧ Kx ws' ∧ Rm w1 n1 w' sb b g mb lv' c x sw ws' (mk_ (inS' (hta c sw th) (fun _ => false) (tens th)) (tens th) th) ((tens th).filter (hta c sw th)) (tens th).length (inS' (hta c sw th) (fun _ => false) (tens th)) := by
 refine (callsIn_wide (n := 9)).1 ?_
 obtain ⟨i0, hi, hz0, hz1, hz2⟩ := info_parts Tryz.infoInt
 have HR : Hid (Rm w1 n1 w sb b g mb lv c x sw ws th l n S) := H
 have k0 : w.cell? ⟨sb, 0, none⟩ = some (.pointer (some ⟨b, 0, none⟩)) := H.rs.cell 0
 have hsl := H.rs.lt
 have l1 : Below w.heap.size w (w.alloc (.cells #[.slice none 0 0] 32)) := Below.alloc (Below.refl _ _) (Nat.le_refl _) _
 have k0' : (w.alloc (.cells #[.slice none 0 0] 32)).cell? ⟨sb, 0, none⟩ = some (.pointer (some ⟨b, 0, none⟩)) := (l1.cell (p := ⟨sb, 0, none⟩) hsl).trans k0
 obtain ⟨pp, hp1, hp2⟩ := (H.bq.ax.hl.seg 4 (by decide) (by decide)).walk
 have hwk : Walk c ws (x.top 4) pp (tens th) (x.top 4) := hp2
 have hpp : Past c ws (x.top 4) (fst c 4) pp := hp1
 have hbl : b < w.heap.size := H.bq.ax.ar.own.lt
 have hgl : g < w.heap.size := H.bq.ax.ar.row.lt
 have h0l := H.bq.ax.la.lt0
 have h1l := H.bq.ax.la.lt1
 have hlen : (tens th).length ≤ 1073741824 := by
  unfold tens
  have := List.length_filter_le (inS 4) th
  simp
  omega
 have Htn : Hid (∀ a, a ∈ tens th → ∃ T, T ∈ th ∧ T.at_ = a) := fun a ha => by
  unfold tens at ha
  obtain ⟨T, h1, h2⟩ := List.mem_map.1 ha
  exact ⟨T, (List.mem_filter.1 h1).1, h2⟩
 have Hrw : Hid (∀ W2 nv, Rm w1 n1 W2 sb b g mb lv c x sw ws th l 0 (fun _ => false) → W2.ownsRow 0 3 1 nv (tens th).length (ints (tens th)) → Calls Tryz.prog 65 #[.pointer (some ⟨sb, 0, none⟩), nv] W2 fun e w' => e = .returned (.tuple #[]) ∧ Touch [sb, mb, b, g] W2 w' ∧ ∃ lv' ws', (∀ q, lv'.ownBlock = some q → W2.heap.size ≤ q) ∧ Kx ws' ∧ Rm w1 n1 w' sb b g mb lv' c x sw ws' (mk_ (inS' (hta c sw th) (fun _ => false) (tens th)) (tens th) th) ((tens th).filter (hta c sw th)) (0 + (tens th).length) (inS' (hta c sw th) (fun _ => false) (tens th))) := hrw
 clear H k0 hp1 hp2 hrw
 obtain ⟨ns, hns⟩ : ∃ ns, ns = tens th := ⟨_, rfl⟩
 rw [← hns] at hwk hlen Htn Hrw ⊢
 clear hns
 refine callsIn_of_wp_marks Tryz.func22 rfl trivial ?_ rfl
 simp only [Tryz.ntmps22, List.size_toArray, List.length_cons, List.length_nil, Nat.reduceAdd, Nat.reduceSub, Array.replicate_succ, Array.replicate_zero, List.push_toArray, List.append_toArray, List.nil_append, List.cons_append]
 gi_wp2
 have bO := Boxed.new w 32 (.slice none 0 0)
 generalize w.alloc (.cells #[.slice none 0 0] 32) = W1 at *
 refine ⟨trivial, (callsIn_wide.2 (objects_any b 4 W1)).mono ?_⟩
 rintro r w2 ⟨rfl, hw2⟩
 have R1 := HR.out.below l1
 have i2 := It.new6 R1.bq.ax.ar R1.bq.ax.la 4
 rw [← hw2] at i2
 have b3 : Below W1.heap.size W1 w2 := by rw [hw2]; exact Below.alloc (Below.alloc (Below.refl _ _) (Nat.le_refl _) _) (by simp) _
 have b4 := l1.trans (b3.mono l1.size)
 have bO2 : Boxed w2 w.heap.size 32 (.slice none 0 0) := (b3.block _ bO.lt).trans bO
 have hW1 : w.heap.size < W1.heap.size := bO.lt
 clear hw2 R1 k0'
 gi_wp2
 have hcl := World.block_lt_of_cell? _ _ i2.ca
 have hsl2 := World.block_lt_of_cell? _ _ i2.cs
 simp only at hcl hsl2
 have hwf := walk_full b g W1.heap.size (W1.heap.size + 1) c x sw ws 4 ns pp (x.top 4) hpp hwk w.heap.size w2 i2 (by have := b4.size; omega) hbl hgl h0l h1l
 refine range_full (S0 := fun k => k = W1.heap.size ∨ k = W1.heap.size + 1) (Own := fun k => k = W1.heap.size ∨ k = W1.heap.size + 1) (gf := 126) (lb := #[.pointer (some ⟨W1.heap.size, 0, none⟩), .pointer (some ⟨W1.heap.size + 1, 0, none⟩)]) (w0 := w2) (n0 := w.heap.size) (encs := encO c ws) (xs := ns) rfl objects1_enters6 hwf (fun k h => h) (Below.refl _ _) b4.size (fun _ => rfl)
  (Copying w 32 3 (Value.int .i64)) (copying_own w 32 3 (Value.int .i64) _ b4.size)
  ⟨_, bO2, World.ownsRow_nil _ _ _ _, by rintro (h | h) <;> omega, by simp [Value.ownBlock], by rintro k (rfl | rfl) <;> assumption, b4⟩
  (fun y => { tmps := #[.pointer (some ⟨sb, 0, none⟩), undef, .pointer (some ⟨w.heap.size, 0, none⟩), .int .i64 y, .pointer (some ⟨sb, 0, none⟩), .pointer (some ⟨sb, 0, none⟩), .pointer (some ⟨sb, 0, none⟩), .pointer (some ⟨b, 0, none⟩), .func (.func 126) #[] #[.pointer (some ⟨W1.heap.size, 0, none⟩), .pointer (some ⟨W1.heap.size + 1, 0, none⟩)], .int .i64 y, hdv c ws y, undef, undef, undef, undef, undef, undef, undef, undef, undef, undef, undef], defers := [] }) ?assign ?body ?done
 case assign =>
  intro lp y W K m hK
  gi_wp2
  exact hK
 case body =>
  rintro lp S1 pre y W m ⟨v, hv, hrow, h1, h2, h3, hB⟩ hpre
  have hpl : pre.length < 8796093022208 := by have := hpre.length_le; simp at this; omega
  have hc := hv.cell
  gi_wp2_with (gi_at_builtin; refine wpListIn_append_own_at _ rfl _ _ 32 rfl w.heap.size 3 i0 (.int .i64 0) 1 8 Tryz.underlying32 hi hz0 hz1 hz2 rfl (by decide) _ _ _ rfl (hrow.alloc _) ⟨W.heap.size, 0, none⟩ 1 1 [.int .i64 y] rfl rfl (cell_one_new _ _ _) (by simp [Value.oneCell']) (by simp [maxLen]; omega) (by omega) (by have := hB.size; simp; omega) ?_; intro v' w4 hown' hgrow _ hat; obtain ⟨g', cap', rfl⟩ := ownsRow_succ hown'; obtain ⟨hv1, hv2, hr2, hk2, hb2⟩ := hv.appended (by decide) hrow hB.size (Nat.le_refl _) hown' hgrow; have hc1 := hv1.cell; have hf1 := hv1.frozen)
  exact copying_step (by decide) hv hrow h1 h2 h3 hB hown' hgrow hat
 case done =>
  rintro D S1 W hD ⟨v, hv, hrow, h1, h2, h3, hB⟩ hK
  have hRW := HR.out.below hB
  obtain ⟨a0, c0, rfl⟩ := own_sl hrow
  have kv : W.cell? ⟨w.heap.size, 0, none⟩ = some (.slice a0 ns.length c0) := hv.cell
  have k2 : W.cell? ⟨sb, 2, none⟩ = some (.map (some mb)) := hRW.rs.cell 2
  obtain ⟨W2, hclr, hms2, t2⟩ := clear_run hRW.rs.map
  have R2 := clear_rm hRW hms2 t2
  have hvl := hv.lt
  have hne1 : w.heap.size ≠ mb := fun e => by have := HR.out.rs.map.lt; omega
  have kv2 : W2.cell? ⟨w.heap.size, 0, none⟩ = some (.slice a0 ns.length c0) := (World.cell?_of_block (w := W) (t2.block _ hvl (by simpa using hne1))).trans kv
  have hrow2 : W2.ownsRow 0 3 1 (.slice a0 ns.length c0) ns.length (ints ns) := by
   have h5 := row_keep hrow (fun y hy => t2.block y (row_lt hrow y hy) (by
    simp
    intro e
    subst e
    rcases hrow.2 with ⟨e, _⟩ | ⟨y2, cp, cur, e, _, hy2, _⟩
    ·rw [e] at hy; simp [Value.ownBlock] at hy
    ·rw [e] at hy
     simp [Value.ownBlock] at hy
     subst hy
     exact hRW.rs.map.ne hy2 rfl))
   refine ⟨h5.1, ?_⟩
   rcases h5.2 with h | ⟨g5, cap5, cur5, e1, -, e2⟩
   ·exact .inl h
   ·exact .inr ⟨g5, cap5, cur5, e1, Nat.zero_le _, e2⟩
  have hDl := (Array.getElem?_eq_some_iff.1 hK).1
  have hK2 : W2.heap[D]? = some (.deferred (some [])) := (t2.block D hDl (by
   simp
   intro e
   subst e
   obtain ⟨es, cl, h6⟩ := hRW.rs.map.is
   rw [h6] at hK
   simp at hK)).trans hK
  have hren := Hrw.out W2 (.slice a0 ns.length c0) R2 hrow2
  have HK2 : Hid (W2.heap[D]? = some (.deferred (some []))) := hK2
  have HDn : Hid (D ∉ [sb, mb, b, g]) := by
   have e1 := hRW.rs.own
   obtain ⟨⟨gs, hgs⟩, bs, hbs⟩ := hRW.bq.ax.ar.rowTy
   obtain ⟨es, cl, h6⟩ := hRW.rs.map.is
   show D ∉ [sb, mb, b, g]
   simp only [List.mem_cons, List.not_mem_nil, or_false, not_or]
   refine ⟨fun e => ?_, fun e => ?_, fun e => ?_, fun e => ?_⟩
   ·subst e; rw [e1] at hK; simp at hK
   ·subst e; rw [h6] at hK; simp at hK
   ·subst e; rw [hbs] at hK; simp at hK
   ·subst e; rw [hgs] at hK; simp at hK
  have HDl : Hid (D < W2.heap.size) := by
   have := t2.size
   show D < _
   omega
  have HDw : Hid (w.heap.size ≤ D) := by
   have := b4.size
   show _ ≤ D
   omega
  have HT2 : Hid (Touch [sb, mb, b, g] w W2) := (Touch.of_below hB _).trans (t2.wide (fun x hx => by simp at hx; simp [hx]))
  clear hv hrow h1 h2 h3 hRW hms2 t2 R2 hvl hne1 kv hrow2 hK2 hK hwf i2 bO bO2 b3
  gi_wp2
  refine ⟨trivial, (callsIn_wide.2 hren).mono ?_⟩
  rintro r w6 ⟨rfl, t6, lv6, ws6, o6, K6, R6⟩
  have HK6 : Hid (Kx ws6) := K6
  have Ho6 : Hid (∀ q, lv6.ownBlock = some q → w.heap.size ≤ q) := fun y hy => Nat.le_trans HT2.out.size (o6 y hy)
  have hK6 : w6.heap[D]? = some (.deferred (some [])) := (t6.block D HDl.out HDn.out).trans HK2.out
  have HR6 : Hid (Rm w1 n1 w6 sb b g mb lv6 c x sw ws6 (mk_ (inS' (hta c sw th) (fun _ => false) ns) ns th) (ns.filter (hta c sw th)) (0 + ns.length) (inS' (hta c sw th) (fun _ => false) ns)) := R6
  have HT6 : Hid (Touch [sb, mb, b, g] w w6) := HT2.out.trans t6
  clear hren t6 R6 kv2 k2 hclr o6 K6
  gi_wp2
  refine ⟨by simp, .inl ⟨_, _, rfl, run_takeDeferred hK6, ?_⟩⟩
  refine ⟨_, results_none rfl _ _ _, rfl, ?_, lv6, ws6, Ho6.out, HK6.out, ?_⟩
  ·have tp : Touch [D] w6 (w6.putObj D (.deferred none)) := ⟨rfl, rfl, rfl, by simp, fun k hk hn => World.putObj_heap_other (by simpa using hn)⟩
   exact HT6.out.then tp (fun y hy => by simp at hy; exact .inr (by have := HDw.out; omega))
  rw [Nat.zero_add] at HR6
  have hn6 : w.heap.size ≤ w6.heap.size := by
   have := (Array.getElem?_eq_some_iff.1 hK6).1
   have := HDw.out
   omega
  exact Rm.putObj HR6.out hK6 rfl HR.out.bq.be.size HDw.out
end
end Go.Proofs.YtlkengnefhhppaaGreatDoor
namespace Go.Proofs.YtlkengnefhhppaaGreatDoor
open Go.RowKit Go.Shelf
section
variable {w1 w w' : World} {n1 sb b g mb n : Nat} {lv : Value} {c : Cfg} {x : Tps} {sw : Bool} {ws : Nat → Int} {th : List Tng} {l : List Int} {S : Int → Bool}
theorem rebuild_adr (H : Rm w1 n1 w sb b g mb lv c x sw ws th l n S) (hth : th.length ≤ 1073741824) :
  Calls Tryz.prog 22 #[.pointer (some ⟨sb, 0, none⟩)] w fun e w' => e = .returned (.tuple #[]) ∧ Touch [sb, mb, b, g] w w' ∧ ∃ lv' ws', (∀ q, lv'.ownBlock = some q → w.heap.size ≤ q) ∧ Kh th ws ws' ∧ Rm w1 n1 w' sb b g mb lv' c x sw ws' (mk_ (inS' (hta c sw th) (fun _ => false) (tens th)) (tens th) th) ((tens th).filter (hta c sw th)) (tens th).length (inS' (hta c sw th) (fun _ => false) (tens th)) := by
 refine rebuild_core H hth (Kh th ws) (fun W2 nv R2 hrow => ?_)
 have htn : ∀ a, a ∈ tens th → ∃ T, T ∈ th ∧ T.at_ = a := fun a ha => by
  unfold tens at ha
  obtain ⟨T, h1, h2⟩ := List.mem_map.1 ha
  exact ⟨T, (List.mem_filter.1 h1).1, h2⟩
 have hlen : (tens th).length ≤ th.length := by
  unfold tens
  have := List.length_filter_le (inS 4) th
  simp
  omega
 exact renew_adr R2 nv (tens th) hrow (fun a ha => .inl (htn a ha)) (fun a ha => by
   obtain ⟨T, h7, h8⟩ := htn a ha
   have := H.bq.ax.pos h7
   rw [← h8]
   unfold InI
   omega) (by omega) (by omega)
end
section
variable {w1 w w' : World} {n1 sb b g mb n : Nat} {lv : Value} {c : Cfg} {x : Tps} {sw : Bool} {ws : Nat → Int} {th : List Tng} {l : List Int} {S : Int → Bool}
theorem fault_field (H : Rm w1 n1 w sb b g mb lv c x sw ws th l n S) {T : Tng} (hT : T ∈ th) (f : Int) (hf : ¬ (0 ≤ f ∧ f < T.ps.length)) (z : Int) : Calls Tryz.prog 47 #[.pointer (some ⟨sb, 0, none⟩), .int .i64 T.at_, .int .i64 f, .int .i64 z] w fun e w' => e = .returned (.int .i64 61) ∧ Below w.heap.size w w' := by
 have k0 : w.cell? ⟨sb, 0, none⟩ = some (.pointer (some ⟨b, 0, none⟩)) := H.rs.cell 0
 have hh := H.bq.ax.head hT
 have hpn := H.bq.ax.hl.psn T hT
 clear H hT
 go_enter Tryz.func47, Tryz.ntmps47
 go_wp2_with fail
 refine hh.mono ?_
 rintro e w2 ⟨rfl, l2⟩
 clear hh k0
 go_upto_region 2 with fail
 have l3 := Below.alloc l2 l2.size (.cells (hcells T.s T.k T.p T.r T.a T.t T.h) 38)
 have hy : (w2.alloc (.cells (hcells T.s T.k T.p T.r T.a T.t T.h) 38)).cell? ⟨w2.heap.size, 2, none⟩ = some (.int .i64 T.p) := cell_of_row _ _ 2 _ _ _ (heap_alloc_new w2 (.cells (hcells T.s T.k T.p T.r T.a T.t T.h) 38 (0, 0)))
 generalize w2.alloc (.cells (hcells T.s T.k T.p T.r T.a T.t T.h) 38) = w3 at *
 generalize w2.heap.size = R at *
 clear l2
 by_cases hf0 : f < 0
 ·have gf0 : decide (f < 0) = true := decide_eq_true hf0
  clear hf hpn
  go_wp2
  go_ret
  exact ⟨rfl, l3⟩
 ·have gf0 : decide (f < 0) = false := decide_eq_false hf0
  have hfp : T.p ≤ f := by omega
  have gfp : decide (T.p ≤ f) = true := decide_eq_true hfp
  clear hf hpn
  go_wp2
  go_ret
  exact ⟨rfl, l3⟩
theorem store_bad (a f z e0 : Int) (he : e0 ≠ 0) (hfa : Calls Tryz.prog 47 #[.pointer (some ⟨sb, 0, none⟩), .int .i64 a, .int .i64 f, .int .i64 z] w fun e w' => e = .returned (.int .i64 e0) ∧ Below w.heap.size w w') :
  Calls Tryz.prog 12 #[.pointer (some ⟨sb, 0, none⟩), .int .i64 a, .int .i64 f, .int .i64 z] w fun e w' => e = .returned (.int .i64 e0) ∧ Below w.heap.size w w' := by
 have he1 : (e0 == 0) = false := by simpa using he
 have he2 : (e0 != 0) = true := by simpa using he
 go_enter Tryz.func12, Tryz.ntmps12
 go_wp2_with fail
 refine hfa.mono ?_
 rintro e w2 ⟨rfl, l2⟩
 clear hfa
 go_wp2
 go_ret
 exact ⟨rfl, l2⟩
theorem store_full (H : Rm w1 n1 w sb b g mb lv c x sw ws th l n (fun a => decide (a ∈ l))) (i : Nat) (T : Tng) (hTi : th[i]? = some T) (f : Nat) (hf : f < T.ps.length) (z : Int) (hz : z = 0 ∨ ∃ U, U ∈ th ∧ U.at_ = z) (hl : l.length ≤ 1099511627776) (hn : n ≤ 576460752303423488) :
  Calls Tryz.prog 12 #[.pointer (some ⟨sb, 0, none⟩), .int .i64 T.at_, .int .i64 f, .int .i64 z] w fun e w' => e = .returned (.int .i64 0) ∧ Touch (sb :: mb :: b :: g :: lv.ownBlock.toList) w w' ∧ ∃ lv' ws', (lv'.ownBlock = lv.ownBlock ∨ ∃ y, lv'.ownBlock = some y ∧ w.heap.size ≤ y) ∧
   (stl c sw l T.at_ z = false → ws' = upd ws (T.at_.toNat + 2 + f) z ∧ Rm w1 n1 w' sb b g mb lv' c x sw ws' (th.set i { T with ps := T.ps.set f z }) l n (fun a => decide (a ∈ l))) ∧
   (stl c sw l T.at_ z = true → ws' = upd (upd (upd ws (T.at_.toNat + 2 + f) z) T.at_.toNat (wrd T.k T.p T.r T.a T.t true)) (T.at_.toNat + 1) T.s ∧ Rm w1 n1 w' sb b g mb lv' c x sw ws' (th.set i { T with ps := T.ps.set f z, h := true }) (l ++ [T.at_]) (n + 1) (fun a => decide (a ∈ l ++ [T.at_]))) := by
 have hT := List.mem_of_getElem? hTi
 have hfa := fault_no H hT f hf z hz
 have HR : Hid (Rm w1 n1 w sb b g mb lv c x sw ws th l n (fun a => decide (a ∈ l))) := H
 have HT : Hid (th[i]? = some T) := hTi
 have hpos := H.bq.ax.pos hT
 have Ha : Hid (InI T.at_) := by show InI T.at_; unfold InI; omega
 have Hzw : Hid (0 ≤ z ∧ z < c.words) := by
  rcases hz with rfl | ⟨U, hU, rfl⟩
  ·show _ ∧ _; omega
  ·have := H.bq.ax.pos hU; show _ ∧ _; omega
 have Hf : Hid (f < T.ps.length) := hf
 clear H hT hTi hpos hz hf
 go_enter Tryz.func12, Tryz.ntmps12
 go_wp2_with fail
 refine hfa.mono ?_
 rintro e w2 ⟨rfl, l2⟩
 have HR2 : Hid (Rm w1 n1 w2 sb b g mb lv c x sw ws th l n (fun a => decide (a ∈ l))) := HR.out.below l2
 have k0 : w2.cell? ⟨sb, 0, none⟩ = some (.pointer (some ⟨b, 0, none⟩)) := HR2.out.rs.cell 0
 have hsp := HR2.out.bq.ax.setPtr_ex i T HT.out f z Hf.out Hzw.out.1 Hzw.out.2
 have Ht2 : Hid (Touch (sb :: mb :: b :: g :: lv.ownBlock.toList) w w2) := Touch.of_below l2 _
 clear hfa l2 HR
 go_wp2_with fail
 refine hsp.mono ?_
 rintro e w3 ⟨rfl, t3, ws3, E3, A3, H3⟩
 have HE3 : Hid (ws3 = upd ws (T.at_.toNat + 2 + f) z) := E3
 clear E3
 have HR3 : Hid (Rm w1 n1 w3 sb b g mb lv c x sw ws3 (th.set i { T with ps := T.ps.set f z }) l n (fun a => decide (a ∈ l))) := HR2.out.next t3.one A3 H3
 have HT3 : Hid ((th.set i { T with ps := T.ps.set f z })[i]? = some { T with ps := T.ps.set f z }) := by
  show _ = _
  rw [List.getElem?_set, if_pos rfl, if_pos (List.getElem?_eq_some_iff.1 HT.out).1]
 have Ht3 : Hid (Touch (sb :: mb :: b :: g :: lv.ownBlock.toList) w w3) := Ht2.out.then t3 (fun y hy => by simp only [List.mem_cons, List.not_mem_nil, or_false] at hy; subst hy; simp)
 clear hsp k0 t3 A3 H3 HR2 Ht2
 have ht := sTenured_any HR3.out.rs HR3.out.bq.ax.ar T.at_
 by_cases h4 : spc c T.at_ = 4
 ·rw [decide_eq_true h4] at ht
  go_wp2_with fail
  refine ht.mono ?_
  rintro e w4 ⟨rfl, l4⟩
  have HR4 : Hid (Rm w1 n1 w4 sb b g mb lv c x sw ws3 (th.set i { T with ps := T.ps.set f z }) l n (fun a => decide (a ∈ l))) := HR3.out.below l4
  have k0 : w4.cell? ⟨sb, 0, none⟩ = some (.pointer (some ⟨b, 0, none⟩)) := HR4.out.rs.cell 0
  have hyo : Calls Tryz.prog 49 #[.pointer (some ⟨b, 0, none⟩), .int .i64 z] w4 fun e w' => e = .returned (.bool (yg c sw z)) ∧ Below w4.heap.size w4 w' := young_any b g c x sw ws3 z w4 HR4.out.bq.ax.ar
  have Ht4 : Hid (Touch (sb :: mb :: b :: g :: lv.ownBlock.toList) w w4) := Ht3.out.trans (Touch.of_below l4 _)
  clear ht l4 HR3 Ht3
  cases hy : yg c sw z
  ·rw [hy] at hyo
   have HE : Hid (stl c sw l T.at_ z = false) := by show _ = _; unfold stl; rw [hy]; simp
   clear hy h4
   go_wp2_with fail
   refine hyo.mono ?_
   rintro e w5 ⟨rfl, l5⟩
   have HR5 : Hid (Rm w1 n1 w5 sb b g mb lv c x sw ws3 (th.set i { T with ps := T.ps.set f z }) l n (fun a => decide (a ∈ l))) := HR4.out.below l5
   have Ht5 : Hid (Touch (sb :: mb :: b :: g :: lv.ownBlock.toList) w w5) := Ht4.out.trans (Touch.of_below l5 _)
   clear hyo l5 HR4 k0 Ht4
   go_wp2
   go_ret
   exact ⟨rfl, Ht5.out, lv, ws3, .inl rfl, fun _ => ⟨HE3.out, HR5.out⟩, fun e => by rw [HE.out] at e; simp at e⟩
  ·rw [hy] at hyo
   have Hy : Hid (yg c sw z = true) := hy
   have H4 : Hid (spc c T.at_ = 4) := h4
   clear hy h4
   go_wp2_with fail
   refine hyo.mono ?_
   rintro e w5 ⟨rfl, l5⟩
   have HR5 : Hid (Rm w1 n1 w5 sb b g mb lv c x sw ws3 (th.set i { T with ps := T.ps.set f z }) l n (fun a => decide (a ∈ l))) := HR4.out.below l5
   have hh := sHas_any HR5.out.rs T.at_ Ha.out
   have Ht5 : Hid (Touch (sb :: mb :: b :: g :: lv.ownBlock.toList) w w5) := Ht4.out.trans (Touch.of_below l5 _)
   clear hyo l5 HR4 k0 Ht4
   by_cases hm : T.at_ ∈ l
   ·rw [decide_eq_true hm] at hh
    have HE : Hid (stl c sw l T.at_ z = false) := by show _ = _; unfold stl; simp [hm]
    clear hm
    go_wp2_with fail
    refine hh.mono ?_
    rintro e w6 ⟨rfl, l6⟩
    have HR6 : Hid (Rm w1 n1 w6 sb b g mb lv c x sw ws3 (th.set i { T with ps := T.ps.set f z }) l n (fun a => decide (a ∈ l))) := HR5.out.below l6
    have Ht6 : Hid (Touch (sb :: mb :: b :: g :: lv.ownBlock.toList) w w6) := Ht5.out.trans (Touch.of_below l6 _)
    clear hh l6 HR5 Ht5
    go_wp2
    go_ret
    exact ⟨rfl, Ht6.out, lv, ws3, .inl rfl, fun _ => ⟨HE3.out, HR6.out⟩, fun e => by rw [HE.out] at e; simp at e⟩
   ·rw [decide_eq_false hm] at hh
    have HE : Hid (stl c sw l T.at_ z = true) := by show _ = _; unfold stl; simp [hm, Hy.out, H4.out]
    clear hm
    go_wp2_with fail
    refine hh.mono ?_
    rintro e w6 ⟨rfl, l6⟩
    have HR6 : Hid (Rm w1 n1 w6 sb b g mb lv c x sw ws3 (th.set i { T with ps := T.ps.set f z }) l n (fun a => decide (a ∈ l))) := HR5.out.below l6
    have Ht6 : Hid (Touch (sb :: mb :: b :: g :: lv.ownBlock.toList) w w6) := Ht5.out.trans (Touch.of_below l6 _)
    clear hh l6 HR5 Ht5
    have had := sAdd_any HR6.out T.at_ Ha.out (by omega) (by omega)
    go_wp2_with fail
    refine had.mono ?_
    rintro e w7 ⟨rfl, lv7, R7, t7, o7⟩
    have Ht7 : Hid (Touch (sb :: mb :: b :: g :: lv.ownBlock.toList) w w7) := Ht6.out.then t7 (fun y hy => .inl (by simp only [List.mem_cons] at hy ⊢; rcases hy with h | h | h <;> simp [h]))
    have Ho7 : Hid (lv7.ownBlock = lv.ownBlock ∨ ∃ y, lv7.ownBlock = some y ∧ w.heap.size ≤ y) := by
     rcases o7 with h | ⟨y, h1, h2⟩
     ·exact .inl h
     ·exact .inr ⟨y, h1, Nat.le_trans Ht6.out.size h2⟩
    have R7' := R7.congr (S' := fun a => decide (a ∈ l ++ [T.at_])) (fun y _ => by by_cases e : y = T.at_ <;> simp [e])
    have hmk := sMark_ex R7' i _ HT3.out
    have Hset : Hid ((th.set i { T with ps := T.ps.set f z }).set i { T with ps := T.ps.set f z, h := true } = th.set i { T with ps := T.ps.set f z, h := true }) := List.set_set _
    have hd : decide (T.at_ ∈ l ++ [T.at_]) = true := by simp
    simp only [hd] at hmk
    clear had R7 R7' HR6 hd Ht6 t7 o7
    go_wp2_with fail
    refine hmk.mono ?_
    rintro e w8 ⟨rfl, t8, ws8, E8, R8⟩
    have HE8 : Hid (ws8 = upd (upd (upd ws (T.at_.toNat + 2 + f) z) T.at_.toNat (wrd T.k T.p T.r T.a T.t true)) (T.at_.toNat + 1) T.s) := by rw [← HE3.out]; exact E8
    clear E8
    have Ht8 : Hid (Touch (sb :: mb :: b :: g :: lv.ownBlock.toList) w w8) := Ht7.out.then t8 (fun y hy => .inl (by simp only [List.mem_cons, List.not_mem_nil, or_false] at hy ⊢; rcases hy with h | h <;> simp [h]))
    have HR8 : Hid (Rm w1 n1 w8 sb b g mb lv7 c x sw ws8 (th.set i { T with ps := T.ps.set f z, h := true }) (l ++ [T.at_]) (n + 1) (fun a => decide (a ∈ l ++ [T.at_]))) := by
     have := R8
     rw [Hset.out] at this
     exact this
    clear hmk R8 t8 Ht7
    go_wp2
    go_ret
    exact ⟨rfl, Ht8.out, lv7, ws8, Ho7.out, fun e => by rw [HE.out] at e; simp at e, fun _ => ⟨HE8.out, HR8.out⟩⟩
 ·rw [decide_eq_false h4] at ht
  have HE : Hid (stl c sw l T.at_ z = false) := by show _ = _; unfold stl; simp [h4]
  go_wp2_with fail
  refine ht.mono ?_
  rintro e w4 ⟨rfl, l4⟩
  have HR4 : Hid (Rm w1 n1 w4 sb b g mb lv c x sw ws3 (th.set i { T with ps := T.ps.set f z }) l n (fun a => decide (a ∈ l))) := HR3.out.below l4
  have Ht4 : Hid (Touch (sb :: mb :: b :: g :: lv.ownBlock.toList) w w4) := Ht3.out.trans (Touch.of_below l4 _)
  clear ht l4 HR3 h4 Ht3
  go_wp2
  go_ret
  exact ⟨rfl, Ht4.out, lv, ws3, .inl rfl, fun _ => ⟨HE3.out, HR4.out⟩, fun e => by rw [HE.out] at e; simp at e⟩
end
end Go.Proofs.YtlkengnefhhppaaGreatDoor
