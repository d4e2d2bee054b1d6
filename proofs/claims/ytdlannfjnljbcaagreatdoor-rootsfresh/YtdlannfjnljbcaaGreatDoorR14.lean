/-
  slices.Collect; Queue; Enqueue; Dequeue.
-/
import Derived.Test.YtdlannfjnljbcaaGreatDoorR13
set_option linter.unusedVariables false
namespace Go.Proofs.YtdlannfjnljbcaaGreatDoor
open Go.RowKit Go.Shelf

attribute [local go_sem] Oper.semAt_some

set_option maxRecDepth 100000 in
set_option maxHeartbeats 2000000 in
theorem appendSeq_any (gf : Nat) (lb : Array Value) (xs : List Int) (Own : Nat → Prop) (w : World) (eg : ∀ args w, (callFunc gf args).run Tryz.prog w = .ok (.enter gf args) w)
    (hseq : SeqFull Tryz.prog gf lb (fun x : Int => #[Value.int .i64 x]) xs w.heap.size Own w) (hOwn : ∀ k, Own k → k < w.heap.size) (hlen : xs.length < 8796093022208) :
    Calls Tryz.prog 59 #[.slice none 0 0, .func (.func gf) #[] lb] w fun e W' => ∃ v, e = .returned v ∧ W'.ownsRow w.heap.size 3 1 v xs.length (ints xs) ∧ Below w.heap.size w W' := by
  refine (callsIn_wide (n := 9)).1 ?_
  obtain ⟨i0, hi, hz0, hz1, hz2⟩ := info_parts Tryz.infoInt
  refine callsIn_of_wp_marks Tryz.func59 rfl trivial ?_ rfl
  simp only [Tryz.ntmps59, List.size_toArray, List.length_cons, List.length_nil, Nat.reduceAdd, Nat.reduceSub, Array.replicate_succ, Array.replicate_zero, List.push_toArray, List.append_toArray, List.nil_append, List.cons_append]
  gi_wp2
  have bO := Boxed.new w 33 (.slice none 0 0)
  refine range_full (S0 := fun k => k < w.heap.size) (gf := gf) (lb := lb) (w0 := w) (n0 := w.heap.size) rfl eg hseq hOwn ((Below.refl _ w).alloc (Nat.le_refl _) _) (by simp) (fun _ => rfl)
    (Copying w 33 3 (Value.int .i64)) (copying_own w 33 3 (Value.int .i64) _ (by simp))
    ⟨_, bO, World.ownsRow_nil _ _ _ _, by simp, by simp [Value.ownBlock], fun k h => by simp at h ⊢; omega, (Below.refl _ w).alloc (Nat.le_refl _) _⟩
    (fun x => { tmps := #[.slice none 0 0, .func (.func gf) #[] lb, .pointer (some ⟨w.heap.size, 0, none⟩), undef, .slice none 0 0, .int .i64 x, .func (.func gf) #[] lb, .int .i64 x, undef, undef, undef, undef, undef], defers := [] }) ?assign ?body ?done
  case assign =>
    intro l x W K m hK
    gi_wp2
    exact hK
  case body =>
    rintro l S pre x W m ⟨v, hv, hrow, h1, h2, h3, hB⟩ hpre
    have hpl : pre.length < 8796093022208 := by have := hpre.length_le; simp at this; omega
    have hc := hv.cell
    gi_wp2_with (gi_at_builtin; refine wpListIn_append_own_at _ rfl _ _ 33 rfl w.heap.size 3 i0 (.int .i64 0) 1 8 Tryz.underlying33 hi hz0 hz1 hz2 rfl (by decide) _ _ _ rfl (hrow.alloc _) ⟨W.heap.size, 0, none⟩ 1 1 [.int .i64 x] rfl rfl (cell_one_new _ _ _) (by simp [Value.oneCell']) (by simp [maxLen]; omega) (by omega) (by have := hB.size; simp; omega) ?_; intro v' w1 hown' hgrow _ hat; obtain ⟨g', cap', rfl⟩ := ownsRow_succ hown'; obtain ⟨hv1, hv2, hr2, hk2, hb2⟩ := hv.appended (by decide) hrow hB.size (Nat.le_refl _) hown' hgrow; have hc1 := hv1.cell; have hf1 := hv1.frozen)
    exact copying_step (by decide) hv hrow h1 h2 h3 hB hown' hgrow hat
  case done =>
    rintro D S W hD ⟨v, hv, hrow, -, -, -, hB⟩ hK
    have hc := hv.cell
    gi_wp2
    refine ⟨by simp, .inl ⟨_, _, rfl, run_takeDeferred hK, ?_⟩⟩
    exact ⟨_, results_tmp rfl _ _ _, v, rfl, ownsRow_putObj hrow _ hK rfl, hB.trans (belowK_b (w := w) (Nat.le_refl _) W D _ _ (by simp at hD; omega) hK rfl rfl)⟩

theorem collect_any (gf : Nat) (lb : Array Value) (xs : List Int) (Own : Nat → Prop) (w : World) (eg : ∀ args w, (callFunc gf args).run Tryz.prog w = .ok (.enter gf args) w)
    (hseq : SeqFull Tryz.prog gf lb (fun x : Int => #[Value.int .i64 x]) xs w.heap.size Own w) (hOwn : ∀ k, Own k → k < w.heap.size) (hlen : xs.length < 8796093022208) :
    Calls Tryz.prog 30 #[.func (.func gf) #[] lb] w fun e W' => ∃ v, e = .returned v ∧ W'.ownsRow w.heap.size 3 1 v xs.length (ints xs) ∧ Below w.heap.size w W' := by
  have ha := appendSeq_any gf lb xs Own w eg hseq hOwn hlen
  clear hseq hOwn hlen
  go_enter Tryz.func30, Tryz.ntmps30
  go_wp2_with fail
  refine ha.mono ?_
  rintro e W1 ⟨v, rfl, ho, hb⟩
  clear ha
  obtain ⟨a, c, rfl⟩ := own_slice ho
  go_wp2
  go_ret
  exact ⟨_, rfl, ho, hb⟩

/-- What held tells. -/
theorem que_held {W : World} {base b N : Nat} {xs : List Int} {F : List Nat} (h : Que W base b 0 N xs F) (hN : N < 8796093022208) :
    ∃ a n cap, Calls Tryz.prog 79 #[.pointer (some ⟨b, 0, none⟩)] W (fun e w' => e = .returned (.slice a n cap) ∧ ∃ nq, w' = W.drewN nq) ∧ SliceIs W.heap.size W (.slice a n cap) xs := by
  obtain ⟨v, ts, f, hh, hb, hr, hf, rfl, hl, rfl⟩ := h
  have c0 := heap_cell hh 0
  have c1 := heap_cell hh 1
  simp only [List.getElem?_toArray, List.getElem?_cons_zero, List.getElem?_cons_succ] at c0 c1
  rcases hr.2 with ⟨rfl, h0⟩ | ⟨g, cap, cur, rfl, hbg, hg, hn, hm, hs, ht⟩
  · have ets : ts = [] := List.eq_nil_of_length_eq_zero h0
    subst ets
    obtain rfl : f = 0 := by simpa using hf
    exact ⟨none, 0, 0, held_nil b W c0 c1, .inl ⟨rfl, rfl⟩⟩
  · have hgl := heap_lt hg
    refine ⟨_, _, _, held_some b g cap ts.length f W c0 c1 hf hn hm, ?_⟩
    refine .inr ?_
    by_cases e : cap = f
    · refine ⟨g, 0, cap - f, by rw [if_pos e]; simp, hgl, fun j x hj => ?_⟩
      have := (List.getElem?_eq_some_iff.1 hj).1
      simp at this
      omega
    · refine ⟨g, f, cap - f, by rw [if_neg e]; simp, hgl, fun j x hj => ?_⟩
      rw [List.getElem?_drop] at hj
      have hjl := (List.getElem?_eq_some_iff.1 hj).1
      rw [hr.cellAt _ (by omega)]
      simp [hj]

set_option maxHeartbeats 1000000 in
theorem queue_walk (b q base N : Nat) (xs : List Int) (F : List Nat) (w : World) (h0 : w.cell? ⟨b, 3, none⟩ = some (.pointer (some ⟨q, 0, none⟩))) (hq : Que w base q 0 N xs F) (hN : N < 8796093022208) (hx : xs.length < 8796093022208) :
    Calls Tryz.prog 10 #[.pointer (some ⟨b, 0, none⟩)] w fun e w' => ∃ v', e = .returned v' ∧ w'.ownsRow w.heap.size 3 1 v' xs.length (ints xs) ∧ Below w.heap.size w w' := by
  have hqa := qall_any q w
  have hcol : Calls Tryz.prog 30 #[.func (.func 80) #[] #[.pointer (some ⟨w.heap.size, 0, none⟩)]] (w.alloc (.cells #[.func (.func 61) #[.pointer (some ⟨q, 0, none⟩)] #[]] 80)) fun e W' => ∃ v, e = .returned v ∧ W'.ownsRow (w.heap.size + 1) 3 1 v xs.length (ints xs) ∧ Below (w.heap.size + 1) (w.alloc (.cells #[.func (.func 61) #[.pointer (some ⟨q, 0, none⟩)] #[]] 80)) W' := by
    have := collect_any 80 #[.pointer (some ⟨w.heap.size, 0, none⟩)] xs (fun _ => False) (w.alloc (.cells #[.func (.func 61) #[.pointer (some ⟨q, 0, none⟩)] #[]] 80)) (enters_of Tryz.func80 (by kernel_rfl) rfl) (frozenQ_full w.heap.size q _ xs _ (by simp) (Nat.le_refl _) hx (fun W hW => ?_)) (fun k h => h.elim) hx
    · simpa using this
    · have hb0 : Below w.heap.size w W := (Below.alloc (Below.refl _ w) (Nat.le_refl _) _).trans (hW.mono (by simp))
      have hqW := hq.keep (Touch.of_below hb0 []) (fun k _ h => by cases h)
      obtain ⟨a, n, cap, hheld, hI⟩ := que_held hqW hN
      refine ⟨_, _, onward_any q a n cap W hheld, ?_⟩
      rintro w1 ⟨nq, rfl⟩
      have bX := Boxed.new (W.drewN nq) 33 (.slice a n cap)
      have hB1 : Below W.heap.size W ((W.drewN nq).alloc (.cells #[.slice a n cap] 33)) := (below_drewN (Below.refl _ W) nq).alloc (Nat.le_refl _) _
      have hseq := valuesI_full W.heap.size ((W.drewN nq).alloc (.cells #[.slice a n cap] 33)).heap.size (.slice a n cap) xs ((W.drewN nq).alloc (.cells #[.slice a n cap] 33)) (by simp) (Nat.le_refl _) hx bX.cell (by
        rcases hI.below hB1 (Nat.le_refl _) with h | ⟨b, off, cap, e, hb, hc⟩
        · exact .inl h
        · exact .inr ⟨b, off, cap, e, by simp; omega, hc⟩)
      have hcop := copiedI_any 110 _ xs (fun _ => False) _ (enters_of Tryz.func110 (by kernel_rfl) rfl) hseq (fun k h => h.elim) hx
      refine hcop.mono ?_
      rintro e W1 ⟨v, rfl, hrow, hB⟩
      exact ⟨v, rfl, row_base hrow (by simp), hB1.trans (hB.mono (by simp)), by have := hB.size; simp at this; omega⟩
  have HB : Hid (Below w.heap.size w (w.alloc (.cells #[.func (.func 61) #[.pointer (some ⟨q, 0, none⟩)] #[]] 80))) := Below.alloc (Below.refl _ w) (Nat.le_refl _) _
  clear hq hN hx
  go_enter Tryz.func10, Tryz.ntmps10
  go_wp2_with fail
  refine hqa.mono ?_
  rintro e w' ⟨rfl, rfl⟩
  clear hqa
  go_wp2_with fail
  refine hcol.mono ?_
  rintro e W1 ⟨v, rfl, ho, hb⟩
  clear hcol
  obtain ⟨a, c, rfl⟩ := own_slice ho
  go_wp2
  go_ret
  exact ⟨_, rfl, row_base ho (by omega), HB.out.trans (hb.mono (by omega))⟩

theorem Rts.queN {w : World} {base b N : Nat} {S : Sta} {F : List Nat} (H : Rts w base b N S F) : S.qs.length ≤ N := by
  obtain ⟨g, h, q, FQ, vs, H, rfl⟩ := H
  obtain ⟨v, ts, f, -, -, -, -, e, hN, -⟩ := H.que
  rw [← e, List.length_drop]
  omega

theorem queue_any (base b N : Nat) (S : Sta) (F : List Nat) (w : World) (H : Rts w base b N S F) (hN : N < 8796093022208) :
    Calls Tryz.prog 10 #[.pointer (some ⟨b, 0, none⟩)] w fun e w' => ∃ v', e = .returned v' ∧ w'.ownsRow w.heap.size 3 1 v' S.qs.length (ints S.qs) ∧ Below w.heap.size w w' := by
  have := H.queN
  obtain ⟨g, h, q, FQ, vs, H, rfl⟩ := H
  exact queue_walk b q base N S.qs FQ w H.c3 H.que hN (by omega)

/-- What Dequeue tells and leaves. -/
def Sta.deqV (S : Sta) : Int := S.qs.headD 0
def Sta.deqS (S : Sta) : Sta := { S with qs := S.qs.tail }

theorem deq_walk (b q : Nat) (x : Int) (o : Bool) (w : World) (R : World → Prop) (h0 : w.cell? ⟨b, 3, none⟩ = some (.pointer (some ⟨q, 0, none⟩)))
    (ht : Calls Tryz.prog 54 #[.pointer (some ⟨q, 0, none⟩)] w fun e w' => e = .returned (.tuple #[.int .i64 x, .bool o]) ∧ R w') :
    Calls Tryz.prog 23 #[.pointer (some ⟨b, 0, none⟩)] w fun e w' => e = .returned (.tuple #[.int .i64 x, .bool o]) ∧ R w' := by
  go_enter Tryz.func23, Tryz.ntmps23
  go_wp2_with fail
  refine ht.mono ?_
  rintro e w' ⟨rfl, hR⟩
  clear ht
  go_wp2
  go_ret2
  exact ⟨rfl, hR⟩

theorem dequeue_any (base b N : Nat) (S : Sta) (F : List Nat) (w : World) (H : Rts w base b N S F) (hN : N < 8796093022208) :
    Calls Tryz.prog 23 #[.pointer (some ⟨b, 0, none⟩)] w fun e w' => e = .returned (.tuple #[.int .i64 S.deqV, .bool (!S.qs.isEmpty)]) ∧ Rts w' base b N S.deqS F ∧ Touch F w w' := by
  obtain ⟨g, h, q, FQ, vs, H, rfl⟩ := H
  have hq := H.que
  cases e : S.qs with
  | nil =>
    rw [e] at hq
    have e1 : S.deqV = 0 := by unfold Sta.deqV; rw [e]; rfl
    have e2 : S.deqS = S := by unfold Sta.deqS; rw [e]; cases S; simp_all
    rw [e1, e2]
    refine (deq_walk b q 0 false w _ H.c3 (take_none q base N 0 FQ w hq)).mono ?_
    rintro e' w' ⟨rfl, nq, rfl⟩
    exact ⟨rfl, ⟨g, h, q, FQ, vs, H.touch (Touch.drewN [] _ _) (fun k _ h => by cases h), rfl⟩, Touch.drewN _ _ _⟩
  | cons x xs =>
    rw [e] at hq
    have e1 : S.deqV = x := by unfold Sta.deqV; rw [e]; rfl
    have e2 : S.deqS = { S with qs := xs } := by unfold Sta.deqS; rw [e]; rfl
    rw [e1, e2]
    refine (deq_walk b q x true w _ H.c3 (take_any q base N 0 x xs FQ w hq hN)).mono ?_
    rintro e' w' ⟨rfl, hq', ht⟩
    exact ⟨rfl, ⟨g, h, q, FQ, vs, H.setQue ht hq' (Newer.refl _ _), rfl⟩, ht.mono (fun k hk => .inl (by simp [mem_fp, hk]))⟩

theorem Sta.Ok.deqS {S : Sta} (h : S.Ok) : S.deqS.Ok := ⟨h.T1, h.T8, h.m1, h.m2, h.hn, h.sum, h.pos, h.room, h.s0, h.h0, fun x hx => h.q0 x (List.mem_of_mem_tail hx)⟩

/-- What Enqueue leaves. -/
def Sta.enqS (S : Sta) (x : Int) : Sta := { S with qs := S.qs ++ [adr x] }

theorem Sta.Ok.enqS {S : Sta} (h : S.Ok) (x : Int) : (S.enqS x).Ok := ⟨h.T1, h.T8, h.m1, h.m2, h.hn, h.sum, h.pos, h.room, h.s0, h.h0, fun y hy => by
  rcases List.mem_append.1 hy with hy | hy
  · exact h.q0 y hy
  · have := List.mem_singleton.1 hy; rw [this]; exact adr_nn x⟩

set_option maxRecDepth 20000 in
theorem enq_walk (b q : Nat) (x : Int) (w : World) (R : World → Prop) (h0 : w.cell? ⟨b, 3, none⟩ = some (.pointer (some ⟨q, 0, none⟩)))
    (hp : Calls Tryz.prog 24 #[.pointer (some ⟨q, 0, none⟩), .int .i64 (adr x)] w.drew fun e w' => e = .returned (.int .i64 0) ∧ R w') :
    Calls Tryz.prog 6 #[.pointer (some ⟨b, 0, none⟩), .int .i64 x] w fun e w' => e = .returned (.tuple #[]) ∧ R w' := by
  have had : Calls Tryz.prog 25 #[.int .i64 x] w.drew fun e w' => e = .returned (.int .i64 (adr x)) ∧ w' = w.drew := (address_any x _).mono (fun e w' h => ⟨h.1, h.2.symm⟩)
  have Hp : Hid (Calls Tryz.prog 24 #[.pointer (some ⟨q, 0, none⟩), .int .i64 (adr x)] w.drew fun e w' => e = .returned (.int .i64 0) ∧ R w') := hp
  clear hp
  go_enter Tryz.func6, Tryz.ntmps6
  go_wp2_with fail
  refine quiet_tail 6 mixed (by kernel_rfl) ?_
  simp only [List.take_succ_cons, List.take_zero, List.drop_succ_cons, List.drop_zero]
  repeat (go_big_quiet_step (exact had _))
  refine wpQuiet_nil ?_
  go_wp2_with fail
  refine Hp.out.mono ?_
  rintro e w' ⟨rfl, hR⟩
  clear had
  go_wp2
  go_end0
  exact ⟨rfl, hR⟩

theorem enqueue_any (base b N : Nat) (x : Int) (S : Sta) (F : List Nat) (w : World) (H : Rts w base b N S F) (hb : base ≤ w.heap.size) (hN : N < 8796093022208) :
    Calls Tryz.prog 6 #[.pointer (some ⟨b, 0, none⟩), .int .i64 x] w fun e w' => e = .returned (.tuple #[]) ∧ ∃ F', Rts w' base b (N + 1) (S.enqS x) F' ∧ Touch F w w' ∧ Newer w.heap.size F F' := by
  obtain ⟨g, h, q, FQ, vs, H, rfl⟩ := H
  have hq : Que w.drew base q 0 N S.qs FQ := H.que.keep (Touch.drew [] w) (fun k _ h => by cases h)
  refine (enq_walk b q x w _ H.c3 (put_any q base N 0 (adr x) S.qs FQ w.drew hq hb hN (by omega))).mono ?_
  rintro e w' ⟨rfl, FQ', hq', ht, hn⟩
  have ht' : Touch FQ w w' := (Touch.drew _ w).trans ht
  exact ⟨rfl, _, ⟨g, h, q, FQ', vs, H.setQue ht' hq' hn, rfl⟩, ht'.mono (fun k hk => .inl (by simp [mem_fp, hk])), fp_new (fun i k hi hk => .inl hk) hn⟩

end Go.Proofs.YtdlannfjnljbcaaGreatDoor
