/-
  Policy: Cycles, both; sameInts; Base.
-/
import Derived.Test.YtcijdbhabbepaaaGreatDoorPLa
import Derived.Test.YtcijdbhabbepaaaGreatDoorPR5
set_option linter.unusedVariables false
set_option maxRecDepth 20000
namespace Go.Proofs.YtcijdbhabbepaaaGreatDoor.Po
open Go.RowKit Go.Proofs.YtcijdbhabbepaaaGreatDoor.Kg

set_option maxRecDepth 20000 in
set_option maxHeartbeats 1000000 in
theorem clone_own (base n : Nat) (v : Value) (xs : List Int) (w : World) (hr : w.ownsRow base 3 1 v n (ints xs)) (hn : n < 8796093022208) :
    Calls Tryz.prog 46 #[v] w fun e w' => ∃ v', e = .returned v' ∧ w'.ownsRow w.heap.size 3 1 v' n (ints xs) ∧ Below w.heap.size w w' := by
  obtain ⟨i0, hi0, hz0, hz1, hz2⟩ := info_parts Tryz.infoInt
  have hl := hr.1
  rcases hr.2 with ⟨rfl, rfl⟩ | ⟨g, cap, cur, rfl, -⟩
  · have hx : ints xs = [] := List.eq_nil_of_length_eq_zero (by simpa using hl)
    rw [hx]
    have hnil : ∀ w, (binOp .eql 29 (.slice none 0 0) (.slice none 0 0)).run Tryz.prog w = .ok (.bool true) w := fun w => by first | rfl | kernel_rfl | (simp [binOp, go_sem]; done)
    clear hr hl hx hi0 hz0 hz1 hz2
    go_enter Tryz.func46, Tryz.ntmps46
    go_wp2
    go_ret
    exact ⟨_, rfl, World.ownsRow_nil _ _ _ _, Below.refl _ _⟩
  · have hnil : ∀ w, (binOp .eql 29 (.slice (some ⟨g, 0, none⟩) n cap) (.slice none 0 0)).run Tryz.prog w = .ok (.bool false) w := fun w => by first | rfl | kernel_rfl | (simp [binOp, go_sem]; done)
    have HN : Hid (∀ j u, (ints xs)[j]? = some u → (w.alloc (.cells #[] 3)).cell? ((⟨g, 0, none⟩ : Addr).add j) = some u) := (hr.alloc (.cells #[] 3)).cells (g := g) rfl
    have HO : Hid (∀ u ∈ ints xs, u.oneCell' = true) := fun u hu => by
      obtain ⟨i, -, rfl⟩ := List.mem_map.1 hu; rfl
    have HL : Hid ((ints xs).length = n * 1) := hl
    have HH : Hid ((Tryz.prog.info? 3 = some i0) ∧ i0.zero = some (.int .i64 0) ∧ i0.size = 1 ∧ i0.bytes = 8) := ⟨hi0, hz0, hz1, hz2⟩
    have HW : Hid ((w.alloc (.cells #[] 3)).ownsRow w.heap.size 3 1 (.slice (some ⟨w.heap.size, 0, none⟩) 0 0) 0 []) :=
      ⟨rfl, .inr ⟨w.heap.size, 0, #[], rfl, Nat.le_refl _, heap_alloc_new w _, Nat.le_refl _, by decide, rfl, rfl⟩⟩
    have hb1 : Below w.heap.size w (w.alloc (.cells #[] 3)) := Below.alloc (Below.refl _ _) (Nat.le_refl _) _
    have Hn : Hid (n < 8796093022208) := hn
    clear hr hi0 hz0 hz1 hz2 hl hn
    go_enter Tryz.func46, Tryz.ntmps46
    go_wp2_with (at_builtin; refine wpList_append_own_at _ rfl _ _ 29 rfl w.heap.size 3 i0 (.int .i64 0) 1 8 Tryz.underlying29 HH.out.1 HH.out.2.1 HH.out.2.2.1 HH.out.2.2.2 rfl (by decide) _ _ _ rfl HW.out ⟨g, 0, none⟩ n cap (ints xs) rfl HL.out HN.out HO.out (by have := Hn.out; simp [maxLen]; omega) (by have := Hn.out; omega) (by simp) ?_)
    intro v' w2 ho hg _ _
    have hb2 : Below w.heap.size w w2 := hb1.grown hg hb1.size (fun k e => by simp [Value.ownBlock] at e; omega)
    have ho2 : w2.ownsRow w.heap.size 3 1 v' n (ints xs) := by simpa using ho
    obtain ⟨a, c, rfl⟩ := row_slice ho2
    have HO2 : Hid (w2.ownsRow w.heap.size 3 1 (.slice a n c) n (ints xs)) := ho2
    clear ho hg hb1 ho2
    go_wp2
    go_ret
    exact ⟨_, rfl, HO2.out, hb2⟩


theorem pcycles_any {w : World} {base b : Nat} {v : Value} {g : Nat} {k : Task} {t : Tst} (h : Pt w base b v g k t) :
    Calls Tryz.prog 15 #[.pointer (some ⟨b, 0, none⟩)] w fun e w' => ∃ v', e = .returned v' ∧ w'.ownsRow w.heap.size 3 1 v' t.ran.length (ints t.ran) ∧ Below w.heap.size w w' := by
  have q := clone_own base _ v t.ran w h.row (by have := h.le; omega)
  have c4 := h.cell 4 v rfl
  obtain ⟨va, vc, rfl⟩ := row_slice h.row
  clear h
  go_enter Tryz.func15, Tryz.ntmps15
  go_wp2_with fail
  refine q.mono ?_
  rintro e w1 ⟨v', rfl, h1, h2⟩
  obtain ⟨ga, gc, rfl⟩ := row_slice h1
  have HA : Hid (w1.ownsRow w.heap.size 3 1 (.slice ga t.ran.length gc) t.ran.length (ints t.ran) ∧ Below w.heap.size w w1) := ⟨h1, h2⟩
  clear q h1 h2
  go_wp2
  go_ret
  exact ⟨_, rfl, HA.out.1, HA.out.2⟩

theorem rcycles_any {w : World} {base b : Nat} {v : Value} {c : Cfg} {k : Task} {t : Tst} (h : Rf w base b v c k t) :
    Calls Tryz.prog 17 #[.pointer (some ⟨b, 0, none⟩)] w fun e w' => ∃ v', e = .returned v' ∧ w'.ownsRow w.heap.size 3 1 v' t.ran.length (ints t.ran) ∧ Below w.heap.size w w' := by
  obtain ⟨i0, a0, a1, a2, a3⟩ := info_parts Tryz.infoInt
  have c18 := h.cell 18 v rfl
  have hle : t.ran.length ≤ 1000 := h.le
  have hrow := h.row
  obtain ⟨va, vc, rfl⟩ := row_slice h.row
  have HN : Hid (∀ (j : Nat) u, (ints t.ran)[j]? = some u → ∃ ad, va = some ad ∧ w.cell? (ad.add j) = some u) := fun j u hj => by
    rcases hrow.2 with ⟨e, e0⟩ | ⟨q, cap, cur, e, _⟩
    · have hz : t.ran = [] := List.eq_nil_of_length_eq_zero e0
      rw [hz] at hj; simp [ints] at hj
    · simp only [Value.slice.injEq] at e
      have e1 := e.1
      subst e1
      exact ⟨_, rfl, hrow.cells (g := q) rfl j u hj⟩
  clear h hrow
  go_enter Tryz.func17, Tryz.ntmps17
  go_wp2_with (at_builtin; refine wpList_append_row rfl _ _ 29 rfl w.heap.size 3 i0 (.int .i64 0) 8 Tryz.underlying29 a0 a1 a2 a3 rfl (.slice none 0 0) 0 [] rfl (World.ownsRow_nil _ _ _ _) va t.ran.length vc (ints t.ran) (by simp [ints]) rfl HN.out (fun u hu => by obtain ⟨i, -, rfl⟩ := List.mem_map.1 hu; rfl) (by simp [maxLen]; omega) (by omega) (Nat.le_refl _) ?_)
  intro v' w1 ho hg _ _
  have ho2 : w1.ownsRow w.heap.size 3 1 v' t.ran.length (ints t.ran) := by simpa using ho
  obtain ⟨ga, gc, rfl⟩ := row_slice ho2
  have HA : Hid (w1.ownsRow w.heap.size 3 1 (.slice ga t.ran.length gc) t.ran.length (ints t.ran) ∧ Below w.heap.size w w1) := ⟨ho2, (Kg.Touch.grown (F := []) hg (by simp [Value.ownBlock])).below (Nat.le_refl _) (by simp)⟩
  clear ho hg ho2 HN c18
  go_wp2
  go_ret
  exact ⟨_, rfl, HA.out.1, HA.out.2⟩

theorem row_reads {w : World} {base n : Nat} {v : Value} {l : List Int} (h : w.ownsRow base 3 1 v n (ints l)) : ∃ a cap, v = .slice a n cap ∧ ∀ (f : Nat) z, l[f]? = some z → ∃ q, a = some ⟨q, 0, none⟩ ∧ q < w.heap.size ∧ w.cell? ⟨q, f, none⟩ = some (.int .i64 z) := by
  have hl : l.length = n := by simpa [ints] using h.1
  rcases h.2 with ⟨rfl, rfl⟩ | ⟨q, cap, cur, rfl, _, hq, _⟩
  · refine ⟨_, _, rfl, fun f z hz => ?_⟩
    rw [List.eq_nil_of_length_eq_zero hl] at hz
    simp at hz
  · refine ⟨_, _, rfl, fun f z hz => ⟨q, rfl, heap_lt hq, ?_⟩⟩
    have hf := (List.getElem?_eq_some_iff.1 hz).1
    rw [h.cellAt _ (by omega)]
    simp [ints, hz]

set_option maxHeartbeats 2000000 in
theorem same_yes {w : World} {u v : Value} {n n' b1 b2 : Nat} {l : List Int} (h : w.ownsRow b1 3 1 u n (ints l)) (h' : w.ownsRow b2 3 1 v n' (ints l)) (hn : n = l.length) (hn' : n' = l.length) (hl : l.length ≤ 100000) :
    Calls Tryz.prog 16 #[u, v] w fun e w' => e = .returned (.bool true) ∧ Below w.heap.size w w' := by
  subst hn
  subst hn'
  obtain ⟨a, cap, rfl, hc⟩ := row_reads h
  obtain ⟨a', cap', rfl, hc'⟩ := row_reads h'
  have Hc : Hid (∀ (f : Nat) z, l[f]? = some z → ∃ q, a = some ⟨q, 0, none⟩ ∧ q < w.heap.size ∧ w.cell? ⟨q, f, none⟩ = some (.int .i64 z)) := hc
  have Hc' : Hid (∀ (f : Nat) z, l[f]? = some z → ∃ q, a' = some ⟨q, 0, none⟩ ∧ q < w.heap.size ∧ w.cell? ⟨q, f, none⟩ = some (.int .i64 z)) := hc'
  clear hc hc' h h'
  go_enter Tryz.func16, Tryz.ntmps16
  go_wp2
  go_loopw [5] (fun v5 wr => ∃ k : Nat, k ≤ l.length ∧ v5 = .int .i64 k ∧ Below w.heap.size w wr) (fun v5 _ => l.length - (intOf v5).toNat)
  case atStart => exact ⟨0, Nat.zero_le _, rfl, Below.refl _ _⟩
  case round =>
    obtain ⟨k, hk, rfl, hbe⟩ := hrel
    by_cases hkl : k < l.length
    · have hz : l[k]? = some (l[k]'hkl) := List.getElem?_eq_getElem hkl
      generalize l[k]'hkl = z at hz
      obtain ⟨q, rfl, hq, ca⟩ := Hc.out k z hz
      obtain ⟨q', rfl, hq', ca'⟩ := Hc'.out k z hz
      have da : wr.cell? ⟨q, k, none⟩ = some (.int .i64 z) := (hbe.cell (p := ⟨q, k, none⟩) hq).trans ca
      have da' : wr.cell? ⟨q', k, none⟩ = some (.int .i64 z) := (hbe.cell (p := ⟨q', k, none⟩) hq').trans ca'
      have hkI : (k : Int) < (l.length : Int) := by omega
      clear hz ca ca'
      go_upto_region 6 with fail
      go_quiet (fail)
      have hb2 : Below w.heap.size w (wr.drewN nq) := below_drewN hbe nq
      clear da da'
      go_wp2
      go_roundw
      case rel => exact ⟨k + 1, by omega, by go_num, hb2⟩
      case measure => simp [intOf]; omega
    · have hkn : ¬ (k : Int) < (l.length : Int) := by omega
      go_wp2
      go_ret
      exact ⟨rfl, hbe⟩

theorem pbase_any {w : World} {base b : Nat} {v : Value} {g : Nat} {k : Task} {t : Tst} (h : Pt w base b v g k t) (x : Vw) :
    Calls Tryz.prog 13 #[.pointer (some ⟨b, 0, none⟩), vv x] w fun e w' => e = .returned (.int .i64 (if 3 ∈ t.ran then clp x.te else k.first)) ∧ Below w.heap.size w w' := by
  obtain ⟨w0, hw0⟩ : ∃ x9, x9 = w.alloc (.cells #[.int .i64 x.er, .int .i64 x.yo, .int .i64 x.te, .int .i64 x.tr] 54) := ⟨_, rfl⟩
  have hb0 : Below w.heap.size w w0 := by rw [hw0]; exact Below.alloc (Below.refl _ _) (Nat.le_refl _) _
  have hg0 : w0.heap[w.heap.size]? = some (.cells #[.int .i64 x.er, .int .i64 x.yo, .int .i64 x.te, .int .i64 x.tr] 54 (0, 0)) := by rw [hw0]; exact heap_alloc_new w _
  have h0 := h.below hb0
  have qr := pran_any h0 3
  have qc := counted_any x w0
  have HB : Hid (Below w.heap.size w w0) := hb0
  have g0 : w0.cell? ⟨w.heap.size, 0, none⟩ = some (.int .i64 x.er) := heap_cell hg0 0
  have g1 : w0.cell? ⟨w.heap.size, 1, none⟩ = some (.int .i64 x.yo) := heap_cell hg0 1
  have g2 : w0.cell? ⟨w.heap.size, 2, none⟩ = some (.int .i64 x.te) := heap_cell hg0 2
  have g3 : w0.cell? ⟨w.heap.size, 3, none⟩ = some (.int .i64 x.tr) := heap_cell hg0 3
  have c0 := h0.cell 0 (.int .i64 k.first) rfl
  clear h h0 hb0 hg0
  by_cases m3 : 3 ∈ t.ran
  · rw [decide_eq_true m3] at qr
    rw [if_pos m3]
    go_enter Tryz.func13, Tryz.ntmps13
    go_upto_region 1 with fail
    rw [← hw0]
    clear hw0
    go_wp2_with fail
    refine qr.mono ?_
    rintro e9 w9 ⟨rfl, rfl⟩
    clear qr
    go_wp2_with fail
    refine qc.mono ?_
    rintro e9 w2 ⟨rfl, hb⟩
    have HB2 : Hid (Below w.heap.size w w2) := HB.out.trans (hb.mono HB.out.size)
    clear qc hb g0 g1 g2 g3 c0
    have hfld : ∀ w : World, (Instr.field 54 (vv x.clip) 2).run Tryz.prog w = .ok (.int .i64 (clp x.te)) w := fun _ => by kernel_rfl
    go_wp2
    go_returns
    exact ⟨rfl, HB2.out⟩
  · rw [decide_eq_false m3] at qr
    rw [if_neg m3]
    clear qc
    go_enter Tryz.func13, Tryz.ntmps13
    go_upto_region 1 with fail
    rw [← hw0]
    clear hw0
    go_wp2_with fail
    refine qr.mono ?_
    rintro e9 w9 ⟨rfl, rfl⟩
    clear qr
    go_wp2
    go_ret
    exact ⟨rfl, HB.out⟩

end Go.Proofs.YtcijdbhabbepaaaGreatDoor.Po
