/-
  Policy: the document's small, big, open.
-/
import Derived.Test.YtcijdbhabbepaaaGreatDoorPR1
set_option linter.unusedVariables false
set_option maxRecDepth 20000
namespace Go.Proofs.YtcijdbhabbepaaaGreatDoor.Po
open Go.RowKit Go.Proofs.YtcijdbhabbepaaaGreatDoor.Kg

/-- What a call does to a turn. -/
structure Gos (w w' : World) (base b : Nat) (v : Value) (c : Cfg) (k : Task) (t' : Tst) : Prop where
  ex : ∃ v', Rf w' base b v' c k t' ∧ Kg.Touch (Fp b v) w w' ∧ Newer w.heap.size (Fp b v) (Fp b v')

theorem Gos.cyc {w w0 w' : World} {base b : Nat} {v v' : Value} {c : Cfg} {k : Task} {t' : Tst} (hb : Kg.Touch (Fp b v) w w0) (h1 : Rf w' base b v' c k t') (h2 : Kg.Touch (Fp b v) w0 w') (h3 : Newer w0.heap.size (Fp b v) (Fp b v')) : Gos w w' base b v c k t' :=
  ⟨v', h1, hb.trans h2, fun q hq => (h3 q hq).imp id (fun h => Nat.le_trans hb.size h)⟩

theorem Gos.same {w w' : World} {base b : Nat} {v : Value} {c : Cfg} {k : Task} {t' : Tst} (h1 : Rf w' base b v c k t') (h2 : Kg.Touch (Fp b v) w w') : Gos w w' base b v c k t' := ⟨v, h1, h2, Newer.refl _ _⟩

theorem fp_in (b : Nat) (v : Value) : b ∈ Fp b v := by simp [Fp]

set_option maxHeartbeats 8000000 in
theorem small_any {w : World} {base b : Nat} {v : Value} {c : Cfg} {k : Task} {t : Tst} (h : Rf w base b v c k t) (hl : t.ran.length < 1000) (x : Vw) :
    Calls Tryz.prog 68 #[.pointer (some ⟨b, 0, none⟩), vv x, .bool (decide (x.yo ≤ x.tr)), .bool (decide (3 ∈ t.ran))] w fun e w' => e = .returned (.int .i64 (k.small t x).1) ∧ Gos w w' base b v c k (k.small t x).2 := by
  obtain ⟨R, hR⟩ : ∃ R, R = k.small t x := ⟨_, rfl⟩
  rw [← hR]
  have HRs : Hid (R = k.small t x) := hR
  clear hR
  obtain ⟨w0, hw0⟩ : ∃ x9, x9 = w.alloc (.cells #[.int .i64 x.er, .int .i64 x.yo, .int .i64 x.te, .int .i64 x.tr] 54) := ⟨_, rfl⟩
  have hb0 : Below w.heap.size w w0 := by rw [hw0]; exact Below.alloc (Below.refl _ _) (Nat.le_refl _) _
  have h0 := h.below hb0
  have e0 : w0.cell? ⟨w.heap.size, 0, none⟩ = some (.int .i64 x.er) := by rw [hw0]; simp
  have HR : Hid (Rf w0 base b v c k t) := h0
  have HB : Hid (Kg.Touch (Fp b v) w w0) := Kg.Touch.of_below hb0 _
  obtain ⟨va, vc, hve⟩ : ∃ a cap, v = .slice a t.ran.length cap := by
    rcases h.row.2 with ⟨rfl, e⟩ | ⟨g, cap, cur, rfl, _⟩
    · exact ⟨_, _, by rw [e]⟩
    · exact ⟨_, _, rfl⟩
  have c15 := h0.cell 15 _ rfl
  have c18 := h0.cell 18 _ rfl
  rw [hve] at c18
  have c19 := h0.cell 19 _ rfl
  have z19 := h0.frozen 19
  have Hve : Hid (v = .slice va t.ran.length vc) := hve
  have hlz : t.ran.length < 1000 := hl
  clear h h0 hve hb0
  go_enter Tryz.func68, Tryz.ntmps68
  go_upto_region 1 with fail
  rw [← hw0]
  clear hw0
  go_quiet (fail)
  have HR1 : Hid (Rf (w0.drewN nq) base b v c k t) := HR.out.below ((Kg.Touch.drewN [] w0 nq).below (Nat.le_refl _) (fun k hk => by cases hk))
  have HB1 : Hid (Kg.Touch (Fp b v) w (w0.drewN nq)) := HB.out.trans (Kg.Touch.drewN _ _ _)
  clear HR HB c15 c18 c19 z19 e0
  generalize w0.drewN nq = w1 at HR1 HB1 ⊢
  have c18 := HR1.out.cell 18 _ rfl
  rw [Hve.out] at c18
  have c19 := HR1.out.cell 19 _ rfl
  have z19 := HR1.out.frozen 19
  have HS : Hid (Gos w (w1.setCell ⟨b, 19, none⟩ (.bool true)) base b v c k t.close) := Gos.same HR1.out.shut (HB1.out.trans (Kg.Touch.setCell _ _ _ (fp_in _ _)))
  by_cases a1 : k.words ≤ x.er
  · have e : Hid (R = (1, t.close)) := by
      have h := HRs.out; unfold Task.small at h; rw [if_pos a1] at h; exact h
    go_wp2
    go_returns
    exact ⟨by rw [e.out]; rfl, by rw [e.out]; exact HS.out⟩
  · by_cases a2 : t.ran = [] ∧ x.yo ≤ x.tr
    · have e : Hid (R = (3, t.cyc 1)) := by
        have h := HRs.out; unfold Task.small at h; rw [if_neg a1, if_pos a2] at h; exact h
      have hn0 : t.ran.length = 0 := by rw [a2.1]; rfl
      have a2' := a2.2
      have q := cycle_any HR1.out hl 3 1
      clear c19 z19 a2
      rw [hn0] at c18
      go_wp2_with fail
      refine q.mono ?_
      rintro e9 w2 ⟨rfl, v2, r1, r2, r3⟩
      have HG : Hid (Gos w w2 base b v c k (t.cyc 1)) := Gos.cyc HB1.out r1 r2 r3
      clear q r1 r2 r3
      go_wp2
      go_returns
      exact ⟨by rw [e.out]; rfl, by rw [e.out]; exact HG.out⟩
    · have hcs : (((t.ran.length : Int) == 0) = false) ∨ (((t.ran.length : Int) == 0) = true ∧ decide (x.yo ≤ x.tr) = false) := by
        by_cases b1 : t.ran = []
        · exact .inr ⟨by rw [b1]; rfl, decide_eq_false (fun h => a2 ⟨b1, h⟩)⟩
        · refine .inl ?_
          have : 0 < t.ran.length := List.length_pos_iff.2 b1
          simp; omega
      by_cases a3 : 3 ∉ t.ran
      · have e : Hid (R = (5, t.cyc 3)) := by
          have h := HRs.out; unfold Task.small at h; rw [if_neg a1, if_neg a2, if_pos a3] at h; exact h
        have a3' : decide (3 ∈ t.ran) = false := decide_eq_false a3
        have q := cycle_any HR1.out hl 5 3
        clear c19 z19 a2 a3
        rcases hcs with hA | ⟨hA, hB⟩
        all_goals
          go_wp2_with fail
          refine q.mono ?_
          rintro e9 w2 ⟨rfl, v2, r1, r2, r3⟩
          have HG : Hid (Gos w w2 base b v c k (t.cyc 3)) := Gos.cyc HB1.out r1 r2 r3
          clear q r1 r2 r3
          go_wp2
          go_returns
          exact ⟨by rw [e.out]; rfl, by rw [e.out]; exact HG.out⟩
      · have a3' : decide (3 ∈ t.ran) = true := decide_eq_true (Decidable.not_not.1 a3)
        have qr := ran_any HR1.out 2
        by_cases a4 : 2 ∉ t.ran ∧ x.yo ≤ x.tr
        · have e : Hid (R = (4, t.cyc 2)) := by
            have h := HRs.out; unfold Task.small at h; rw [if_neg a1, if_neg a2, if_neg a3, if_pos a4] at h; exact h
          rw [decide_eq_false a4.1] at qr
          have a4' := a4.2
          have q := cycle_any HR1.out hl 4 2
          clear c19 z19 a2 a3
          rcases hcs with hA | ⟨hA, hB⟩
          · go_wp2_with fail
            refine qr.mono ?_
            rintro e9 w9 ⟨rfl, rfl⟩
            go_wp2_with fail
            refine q.mono ?_
            rintro e9 w2 ⟨rfl, v2, r1, r2, r3⟩
            have HG : Hid (Gos w w2 base b v c k (t.cyc 2)) := Gos.cyc HB1.out r1 r2 r3
            clear q r1 r2 r3
            go_wp2
            go_returns
            exact ⟨by rw [e.out]; rfl, by rw [e.out]; exact HG.out⟩
          · simp at hB; omega
        · have e : Hid (R = (6, t.close)) := by
            have h := HRs.out; unfold Task.small at h; rw [if_neg a1, if_neg a2, if_neg a3, if_neg a4] at h; exact h
          have hds : (decide (2 ∈ t.ran) = true) ∨ (decide (2 ∈ t.ran) = false ∧ decide (x.yo ≤ x.tr) = false) := by
            by_cases b1 : 2 ∈ t.ran
            · exact .inl (decide_eq_true b1)
            · exact .inr ⟨decide_eq_false b1, decide_eq_false (fun h => a4 ⟨b1, h⟩)⟩
          clear a2 a3 a4
          rcases hcs with hA | ⟨hA, hB⟩
          all_goals
            rcases hds with hC | ⟨hC, hD⟩
            all_goals
              rw [hC] at qr
              go_wp2_with fail
              refine qr.mono ?_
              rintro e9 w9 ⟨rfl, rfl⟩
              clear qr
              go_wp2
              go_ret
              exact ⟨by rw [e.out]; rfl, by rw [e.out]; exact HS.out⟩

end Go.Proofs.YtcijdbhabbepaaaGreatDoor.Po
