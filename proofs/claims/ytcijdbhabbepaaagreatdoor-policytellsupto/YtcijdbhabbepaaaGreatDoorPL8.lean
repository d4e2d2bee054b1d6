/-
  Policy: the landed Next.
-/
import Derived.Test.YtcijdbhabbepaaaGreatDoorPL7
import Derived.Shelf.Abstract
set_option linter.unusedVariables false
set_option maxRecDepth 20000
namespace Go.Proofs.YtcijdbhabbepaaaGreatDoor.Po
open Go.RowKit Go.Proofs.YtcijdbhabbepaaaGreatDoor.Kg

theorem Pt.over {w : World} {base b : Nat} {v : Value} {g : Nat} {k : Task} {t : Tst} (h : Pt w base b v g k t) (hov : t.ov = true) (hc : t.cl = true) : Pt w base b v g k { t.close with ov := true } := by
  have e : ({ t.close with ov := true } : Tst) = t := by
    cases t; simp_all [Tst.close]
  rw [e]; exact h

/-- A cycle more. -/
theorem Pt.app {w w1 : World} {base b n0 : Nat} {v v' : Value} {g : Nat} {k : Task} {t : Tst} {x : Int} (h : Pt w base b v g k t) (hl : t.ran.length < 1000) (ht : Kg.Touch [] w w1) (ho : w1.ownsRow n0 3 1 v' (t.ran.length + 1) (ints t.ran ++ [.int .i64 x])) (hn : w.heap.size ≤ n0) :
    Pt (w1.setCell ⟨b, 4, none⟩ v') base b v' g k (t.cyc x) ∧ Kg.Touch [b] w (w1.setCell ⟨b, 4, none⟩ v') ∧ Newer w.heap.size (Fq b v g) (Fq b v' g) := by
  have h1 : Pt w1 base b v g k t := h.touch ht (by simp)
  have hlt : ∀ q, v'.ownBlock = some q → w.heap.size ≤ q := fun q hq => Nat.le_trans hn (ho.lt q hq).1
  have hbv : some b ≠ v'.ownBlock := row_ne h1.at_ ho
  refine ⟨⟨heap_set h1.at_ 4 _, ?_, fun hk => ?_, fun e => ?_, by simpa using h1.gl, h.lo, by simp [Tst.cyc]; omega⟩, ?_, ?_⟩
  · have h2 := ownsRow_setOther (row_base ho (Nat.le_trans h.lo (Nat.le_trans (Nat.le_of_lt h.lt) hn))) hbv (a := ⟨b, 4, none⟩) v'
    simpa [Tst.cyc, ints] using h2
  · rw [(Kg.Touch.setCell (F := [b]) w1 ⟨b, 4, none⟩ v' (by simp)).block g h1.gl (by simpa using h1.gb hk)]
    exact h1.box hk
  · have := hlt g e; have := h.gl; omega
  · exact (ht.mono (by simp)).trans (Kg.Touch.setCell _ _ _ (by simp))
  · intro q hq
    simp only [Fq, List.mem_cons, Option.mem_toList] at hq ⊢
    rcases hq with rfl | rfl | hq
    · exact .inl (.inl rfl)
    · exact .inl (.inr (.inl rfl))
    · exact .inr (hlt q hq)

theorem eqn (w : World) : (binOp .eql 64 .nilFunc .nilFunc).run Tryz.prog w = .ok (.bool true) w := by kernel_rfl
theorem eqf (w : World) (f : Fn) (a c : Array Value) : (binOp .eql 64 (.func f a c) .nilFunc).run Tryz.prog w = .ok (.bool false) w := by kernel_rfl

theorem clip_any {w : World} {base n : Nat} {v : Value} {xs : List Value} (h : w.ownsRow base 3 1 v n xs) (hn : n ≤ 1000) : ∃ va, (v = .slice va n n ∨ ∃ c, v = .slice va n c) ∧ Calls Tryz.prog 37 #[v] w fun e w' => e = .returned (.slice va n n) ∧ w' = w := by
  rcases h.2 with ⟨rfl, rfl⟩ | ⟨g, cap, cur, rfl, _, _, hle, _⟩
  · refine ⟨none, .inl rfl, ?_⟩
    go_enter Tryz.func37, Tryz.ntmps37
    go_wp2
    go_ret
    exact ⟨rfl, rfl⟩
  · refine ⟨some ⟨g, 0, none⟩, .inr ⟨cap, rfl⟩, ?_⟩
    go_enter Tryz.func37, Tryz.ntmps37
    go_wp2
    go_ret
    exact ⟨rfl, rfl⟩

set_option maxHeartbeats 8000000 in
theorem pnext_any {w : World} {base b : Nat} {v : Value} {g : Nat} {k : Task} {t : Tst} (h : Pt w base b v g k t) (hl : t.ran.length < 999) (hk : Tof k) (hoc : t.ov = true → t.cl = true) (x : Vw) :
    Calls Tryz.prog 9 #[.pointer (some ⟨b, 0, none⟩), vv x] w fun e w' => e = .returned (.int .i64 (k.next t x).1) ∧ Gop w w' base b v g k (k.next t x).2 := by
  obtain ⟨R, hR⟩ : ∃ R, R = k.next t x := ⟨_, rfl⟩
  rw [← hR]
  have HRs : Hid (R = k.next t x) := hR
  clear hR
  obtain ⟨w0, hw0⟩ : ∃ x9, x9 = w.alloc (.cells #[.int .i64 x.er, .int .i64 x.yo, .int .i64 x.te, .int .i64 x.tr] 54) := ⟨_, rfl⟩
  have hb0 : Below w.heap.size w w0 := by rw [hw0]; exact Below.alloc (Below.refl _ _) (Nat.le_refl _) _
  have hg0 : w0.heap[w.heap.size]? = some (.cells #[.int .i64 x.er, .int .i64 x.yo, .int .i64 x.te, .int .i64 x.tr] 54 (0, 0)) := by rw [hw0]; exact heap_alloc_new w _
  have h0 := h.below hb0
  have HP : Hid (Pt w0 base b v g k t) := h0
  have HT : Hid (Kg.Touch [b] w w0) := Kg.Touch.of_below hb0 [b]
  have HG : Hid (w0.heap[w.heap.size]? = some (.cells #[.int .i64 x.er, .int .i64 x.yo, .int .i64 x.te, .int .i64 x.tr] 54 (0, 0))) := hg0
  have g0 : w0.cell? ⟨w.heap.size, 0, none⟩ = some (.int .i64 x.er) := heap_cell hg0 0
  have g1 : w0.cell? ⟨w.heap.size, 1, none⟩ = some (.int .i64 x.yo) := heap_cell hg0 1
  have g2 : w0.cell? ⟨w.heap.size, 2, none⟩ = some (.int .i64 x.te) := heap_cell hg0 2
  have g3 : w0.cell? ⟨w.heap.size, 3, none⟩ = some (.int .i64 x.tr) := heap_cell hg0 3
  have qn : ∀ w : World, (binOp .eql 64 .nilFunc .nilFunc).run Tryz.prog w = .ok (.bool true) w := eqn
  have qf : ∀ (w : World) (f : Fn) (a c : Array Value), (binOp .eql 64 (.func f a c) .nilFunc).run Tryz.prog w = .ok (.bool false) w := eqf
  cases hov : t.ov with
  | true =>
    have e : Hid (R = (7, { t.close with ov := true })) := by
      have h := HRs.out
      unfold Task.next Task.shut at h
      rw [if_neg (by rw [hoc hov]; simp), if_neg (by rw [hov]; simp)] at h
      exact h
    have c3 := h0.cell 3 .nilFunc (by unfold act; rw [if_pos hov]; rfl)
    clear h h0 hb0 hg0
    go_enter Tryz.func9, Tryz.ntmps9
    go_upto_region 1 with fail
    rw [← hw0]
    clear hw0
    go_wp2
    go_returns
    exact ⟨by rw [e.out]; rfl, v, by rw [e.out]; exact HP.out.over hov (hoc hov), touch_fq HT.out, Newer.refl _ _⟩
  | false =>
    obtain ⟨f, caps, hact, hent, hcall⟩ := act_any h hov hk x
    have c3 := h0.cell 3 (.func (.func f) #[] caps) (by rw [hact]; rfl)
    have HB0 : Hid (Below w.heap.size w w0) := hb0
    clear h h0 hb0 hg0
    go_enter Tryz.func9, Tryz.ntmps9
    go_upto_region 1 with fail
    rw [← hw0]
    clear hw0
    go_upto_region 3 with fail
    have HQ : Hid (∀ w1, Below w.heap.size w w1 → Calls Tryz.prog f (#[.pointer (some ⟨b, 0, none⟩), vv x.clip] ++ caps) w1 fun e w' => Did w1 w' base b v g k t (k.next t x) e) := hcall
    clear hcall qn qf
    have hblt : b < w0.heap.size := HP.out.lt
    have hglt : w.heap.size < w0.heap.size := heap_lt HG.out
    haveI hinh : Inhabited (Kg.Bel w0) := ⟨⟨w0, Below.refl _ _⟩⟩
    have x0 : ∀ p : Kg.Bel w0, p.v.cell? ⟨w.heap.size, 0, none⟩ = some (.int .i64 x.er) := fun p => (p.h.cell (p := ⟨w.heap.size, 0, none⟩) hglt).trans g0
    have x1 : ∀ p : Kg.Bel w0, p.v.cell? ⟨w.heap.size, 1, none⟩ = some (.int .i64 x.yo) := fun p => (p.h.cell (p := ⟨w.heap.size, 1, none⟩) hglt).trans g1
    have x2 : ∀ p : Kg.Bel w0, p.v.cell? ⟨w.heap.size, 2, none⟩ = some (.int .i64 x.te) := fun p => (p.h.cell (p := ⟨w.heap.size, 2, none⟩) hglt).trans g2
    have x3 : ∀ p : Kg.Bel w0, p.v.cell? ⟨w.heap.size, 3, none⟩ = some (.int .i64 x.tr) := fun p => (p.h.cell (p := ⟨w.heap.size, 3, none⟩) hglt).trans g3
    have y3 : ∀ p : Kg.Bel w0, p.v.cell? ⟨b, 3, none⟩ = some (.func (.func f) #[] caps) := fun p => (p.h.cell (p := ⟨b, 3, none⟩) hblt).trans c3
    have HC : Hid (∀ p : Kg.Bel w0, Calls Tryz.prog 35 #[vv x] p.v fun e w' => e = .returned (vv x.clip) ∧ Below p.v.heap.size p.v w') := fun p => counted_any x p.v
    clear hblt hglt g0 g1 g2 g3 c3
    refine below_call 7 mixed (by kernel_rfl) ?_
    simp only [List.take_succ_cons, List.take_zero, List.drop_succ_cons, List.drop_zero]
    iterate 6 (go_big_quiet_step (fail))
    go_big_quiet_step (first | (go_at_call 35; exact calls_bel (HC.out _)))
    refine wpQuiet_nil ?_
    rintro w8 ⟨⟨w8, b8⟩, rfl⟩
    clear x0 x1 x2 x3 y3 HC hinh
    have HP8 : Hid (Pt w8 base b v g k t) := HP.out.below b8
    have HT8 : Hid (Kg.Touch [b] w w8) := HT.out.trans (Kg.Touch.of_below b8 _)
    have q := HQ.out w8 (HB0.out.trans (b8.mono HB0.out.size))
    go_wp2_with (go_at_fn f; refine q.mono ?_)
    rintro e9 w4 ⟨s4, t4, rfl, h1, h2, h3, h4⟩
    have HP4 : Hid (Pt w4 base b v g k t4) := h1
    have HT4 : Hid (Kg.Touch [b] w w4) := HT8.out.trans h2
    have HE : Hid (R = (s4, t4.app s4) ∧ t4.ran = t.ran) := ⟨HRs.out.trans h3, h4⟩
    clear q h1 h2 h3 h4 HP8 HT8 HQ b8
    go_wp2_with fail
    refine thenQuiet_mk ?_
    repeat (go_big_quiet_step (fail))
    refine wpQuiet_nil ?_
    have qc := cycleOf_any s4 w4
    go_wp2_with fail
    refine qc.mono ?_
    rintro e9 w9 ⟨rfl, rfl⟩
    clear qc
    by_cases hz : cyo s4 = 0
    · have e : Hid (R = (s4, t4)) := HE.out.1.trans (by rw [app0 _ _ hz])
      rw [hz]
      go_wp2
      go_ret
      exact ⟨by rw [e.out]; rfl, ⟨v, by rw [e.out]; exact HP4.out, touch_fq HT4.out, Newer.refl _ _⟩⟩
    · have e : Hid (R = (s4, t4.cyc (cyo s4))) := HE.out.1.trans (by rw [app_ne _ _ hz])
      have hz' : (cyo s4 != 0) = true := by simpa using hz
      go_upto_region 6 with fail
      have hn : t4.ran.length < 999 := by rw [HE.out.2]; exact hl
      obtain ⟨va, hva, qv⟩ := clip_any HP4.out.row (by omega)
      obtain ⟨vc, rfl⟩ : ∃ c, v = .slice va t4.ran.length c := by
        rcases hva with h | h
        · exact ⟨_, h⟩
        · exact h
      have c4 := HP4.out.cell 4 _ rfl
      have z4 := HP4.out.frozen 4
      obtain ⟨i0, a0, a1, a2, a3⟩ := info_parts Tryz.infoInt
      generalize hW : w9 = W at *
      go_wp2_with fail
      refine qv.mono ?_
      rintro e9 w7 ⟨rfl, rfl⟩
      clear qv
      have Hold : Hid (∀ b9, va = some b9 → ∀ (j : Nat) u, (ints t4.ran)[j]? = some u → (w7.alloc (.cells #[.int .i64 (cyo s4)] 3)).cell? (b9.add j) = some u) := fun b9 hb9 j u hj => by
        have hrow := HP4.out.row
        rw [hb9] at hrow
        rcases hrow.2 with ⟨e, _⟩ | ⟨q, cap, cur, e, _⟩
        · cases e
        · simp only [Value.slice.injEq, Option.some.injEq] at e
          rw [e.1] at hrow ⊢
          have := (hrow.alloc (.cells #[.int .i64 (cyo s4)] 3)).cells (g := q) rfl j u hj
          exact this
      have Hnone : Hid (va = none → t4.ran.length = 0 ∧ t4.ran.length = 0) := fun e0 => by
        have hrow := HP4.out.row
        rw [e0] at hrow
        rcases hrow.2 with ⟨_, e⟩ | ⟨q, cap, cur, e, _⟩
        · exact ⟨e, e⟩
        · cases e
      go_wp2_with (at_builtin; refine wpList_append_grows _ rfl _ _ 29 rfl 3 i0 (.int .i64 0) 1 8 Tryz.underlying29 a0 a1 a2 a3 rfl (by decide) va t4.ran.length t4.ran.length (ints t4.ran) rfl Hnone.out (by simp [ints]) Hold.out ⟨w7.heap.size, 0, none⟩ 1 1 [.int .i64 (cyo s4)] rfl rfl (cell_one_new _ _ _) (by simp [Value.oneCell']) (by omega) (by simp [maxLen]; omega) (by omega) ?_)
      intro v' w1 ho hg
      have ht : Kg.Touch [] w7 w1 := (Kg.Touch.alloc _ _ _).trans (Kg.Touch.grown hg (by simp))
      have hP5 := HP4.out.app (by omega) ht ho (by simp)
      have hP1 : Pt w1 base b (.slice va t4.ran.length vc) g k t4 := HP4.out.touch ht (by simp)
      have d4 : w1.cell? ⟨b, 4, none⟩ = some (.slice va t4.ran.length vc) := heap_cell hP1.at_ 4
      have y4 : w1.frozen? ⟨b, 4, none⟩ = false := heap_frozen hP1.at_ 4
      have HF : Hid (Gop w (w1.setCell ⟨b, 4, none⟩ v') base b (.slice va t4.ran.length vc) g k (t4.cyc (cyo s4))) := ⟨v', hP5.1, touch_fq (HT4.out.trans hP5.2.1), fun q hq => (hP5.2.2 q hq).imp id (fun h => Nat.le_trans HT4.out.size h)⟩
      obtain ⟨ga, gc, rfl⟩ := row_slice ho
      clear ho hg ht hP5 hP1 c4 z4 Hold Hnone
      go_wp2
      go_ret
      exact ⟨by rw [e.out]; rfl, by rw [e.out]; exact HF.out⟩

end Go.Proofs.YtcijdbhabbepaaaGreatDoor.Po
