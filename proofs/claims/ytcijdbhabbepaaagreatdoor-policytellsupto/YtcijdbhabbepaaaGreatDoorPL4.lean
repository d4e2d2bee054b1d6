/-
  Policy: what a turn does next: small.
-/
import Derived.Test.YtcijdbhabbepaaaGreatDoorPL3
set_option linter.unusedVariables false
set_option maxRecDepth 20000
namespace Go.Proofs.YtcijdbhabbepaaaGreatDoor.Po
open Go.RowKit Go.Proofs.YtcijdbhabbepaaaGreatDoor.Kg

set_option maxHeartbeats 8000000 in
theorem psmall_any {w : World} {base b : Nat} {v : Value} {g : Nat} {k : Task} {t : Tst} (h : Pt w base b v g k t) (hov : t.ov = false) (x : Vw) :
    Calls Tryz.prog 72 #[.pointer (some ⟨b, 0, none⟩), vv x] w fun e w' => Did w w' base b v g k t (k.small t x) e := by
  obtain ⟨R, hR⟩ : ∃ R, R = k.small t x := ⟨_, rfl⟩
  rw [← hR]
  have HRs : Hid (R = k.small t x) := hR
  clear hR
  obtain ⟨w0, hw0⟩ : ∃ x9, x9 = w.alloc (.cells #[.int .i64 x.er, .int .i64 x.yo, .int .i64 x.te, .int .i64 x.tr] 54) := ⟨_, rfl⟩
  have hb0 : Below w.heap.size w w0 := by rw [hw0]; exact Below.alloc (Below.refl _ _) (Nat.le_refl _) _
  have hg0 : w0.heap[w.heap.size]? = some (.cells #[.int .i64 x.er, .int .i64 x.yo, .int .i64 x.te, .int .i64 x.tr] 54 (0, 0)) := by rw [hw0]; exact heap_alloc_new w _
  have h0 := h.below hb0
  have e0 : w0.cell? ⟨w.heap.size, 0, none⟩ = some (.int .i64 x.er) := heap_cell hg0 0
  have c2 := h0.cell 2 (.int .i64 k.words) rfl
  have HP : Hid (Pt w0 base b v g k t) := h0
  have HT : Hid (Kg.Touch [b] w w0) := Kg.Touch.of_below hb0 [b]
  have HG : Hid (w0.heap[w.heap.size]? = some (.cells #[.int .i64 x.er, .int .i64 x.yo, .int .i64 x.te, .int .i64 x.tr] 54 (0, 0))) := hg0
  have Hov : Hid (t.ov = false) := hov
  clear h h0 hb0 hov hg0
  go_enter Tryz.func72, Tryz.ntmps72
  go_upto_region 1 with fail
  rw [← hw0]
  clear hw0
  go_quiet (fail)
  have HP1 : Hid (Pt (w0.drewN nq) base b v g k t) := HP.out.below ((Kg.Touch.drewN [] w0 nq).below (Nat.le_refl _) (fun k hk => by cases hk))
  have HT1 : Hid (Kg.Touch [b] w (w0.drewN nq)) := HT.out.trans (Kg.Touch.drewN _ _ _)
  have HG1 : Hid ((w0.drewN nq).heap[w.heap.size]? = some (.cells #[.int .i64 x.er, .int .i64 x.yo, .int .i64 x.te, .int .i64 x.tr] 54 (0, 0))) := HG.out
  clear HP HT HG c2 e0
  generalize w0.drewN nq = w1 at HP1 HT1 HG1 ⊢
  by_cases a1 : k.words ≤ x.er
  · have e : Hid (R = (1, t.close)) := by
      have h := HRs.out; unfold Task.small at h; rw [if_pos a1] at h; exact h
    have q := lastly_any HP1.out Hov.out 1
    go_wp2_with fail
    refine q.mono ?_
    rintro e9 w2 ⟨rfl, h1, h2⟩
    have HA : Hid (Pt w2 base b v g k t.close ∧ Kg.Touch [b] w w2) := ⟨h1, HT1.out.trans h2⟩
    clear q h1 h2
    go_wp2
    go_returns
    exact ⟨1, t.close, rfl, HA.out.1, HA.out.2, by rw [e.out, app0 _ _ (by decide)], rfl⟩
  · have c4 := HP1.out.cell 4 v rfl
    obtain ⟨va, vc, hve⟩ := row_slice HP1.out.row
    have Hve : Hid (v = .slice va t.ran.length vc) := hve
    rw [hve] at c4
    clear hve
    have hle : t.ran.length ≤ 1000 := HP1.out.le
    have g0 := heap_cell HG1.out 0
    have g1 := heap_cell HG1.out 1
    have g2 := heap_cell HG1.out 2
    have g3 := heap_cell HG1.out 3
    simp only [List.getElem?_toArray, List.getElem?_cons_zero, List.getElem?_cons_succ] at g0 g1 g2 g3
    have qg := guaranteed_any x w1
    by_cases b1 : t.ran = []
    · have hn0 : t.ran.length = 0 := by rw [b1]; rfl
      rw [hn0] at c4
      go_upto_region 3 with fail
      go_wp2_with fail
      refine qg.mono ?_
      rintro e9 w2 ⟨rfl, hb⟩
      have HP2 : Hid (Pt w2 base b v g k t) := HP1.out.below hb
      have HT2 : Hid (Kg.Touch [b] w w2) := HT1.out.trans (Kg.Touch.of_below hb _)
      clear qg hb g0 g1 g2 g3 c4
      by_cases a2 : x.yo ≤ x.tr
      · have e : Hid (R = (3, t.cyc 1)) := by
          have h := HRs.out; unfold Task.small at h; rw [if_neg (show ¬ k.words ≤ x.er by omega), if_pos ⟨b1, a2⟩] at h; exact h
        rw [decide_eq_true a2]
        go_wp2
        go_returns
        exact ⟨3, t, rfl, HP2.out, HT2.out, by rw [e.out, app_ne _ _ (by decide)]; rfl, rfl⟩
      · have m3 : 3 ∉ t.ran := by rw [b1]; simp
        have e : Hid (R = (5, t.cyc 3)) := by
          have h := HRs.out; unfold Task.small at h; rw [if_neg (show ¬ k.words ≤ x.er by omega), if_neg (fun q => a2 q.2), if_pos m3] at h; exact h
        rw [decide_eq_false a2]
        have qr := pran_any HP2.out 3
        rw [decide_eq_false m3] at qr
        go_wp2_with fail
        refine qr.mono ?_
        rintro e9 w9 ⟨rfl, rfl⟩
        clear qr
        go_wp2
        go_returns
        exact ⟨5, t, rfl, HP2.out, HT2.out, by rw [e.out, app_ne _ _ (by decide)]; rfl, rfl⟩
    · have hnz : ((t.ran.length : Int) == 0) = false := by
        have : 0 < t.ran.length := List.length_pos_iff.2 b1
        simp; omega
      have qr := pran_any HP1.out 3
      by_cases m3 : 3 ∉ t.ran
      · have e : Hid (R = (5, t.cyc 3)) := by
          have h := HRs.out; unfold Task.small at h; rw [if_neg (show ¬ k.words ≤ x.er by omega), if_neg (fun q => b1 q.1), if_pos m3] at h; exact h
        rw [decide_eq_false m3] at qr
        clear qg
        go_wp2_with fail
        refine qr.mono ?_
        rintro e9 w9 ⟨rfl, rfl⟩
        clear qr
        go_wp2
        go_returns
        exact ⟨5, t, rfl, HP1.out, HT1.out, by rw [e.out, app_ne _ _ (by decide)]; rfl, rfl⟩
      · rw [decide_eq_true (Decidable.not_not.1 m3)] at qr
        have qr2 := pran_any HP1.out 2
        by_cases m2 : 2 ∉ t.ran
        · rw [decide_eq_false m2] at qr2
          go_wp2_with fail
          refine qr.mono ?_
          rintro e9 w9 ⟨rfl, rfl⟩
          clear qr
          go_wp2_with fail
          refine qr2.mono ?_
          rintro e9 w9 ⟨rfl, rfl⟩
          clear qr2
          go_wp2_with fail
          refine qg.mono ?_
          rintro e9 w2 ⟨rfl, hb⟩
          have HP2 : Hid (Pt w2 base b v g k t) := HP1.out.below hb
          have HT2 : Hid (Kg.Touch [b] w w2) := HT1.out.trans (Kg.Touch.of_below hb _)
          clear qg hb g0 g1 g2 g3 c4
          by_cases a2 : x.yo ≤ x.tr
          · have e : Hid (R = (4, t.cyc 2)) := by
              have h := HRs.out; unfold Task.small at h; rw [if_neg (show ¬ k.words ≤ x.er by omega), if_neg (fun q => b1 q.1), if_neg m3, if_pos ⟨m2, a2⟩] at h; exact h
            rw [decide_eq_true a2]
            go_wp2
            go_returns
            exact ⟨4, t, rfl, HP2.out, HT2.out, by rw [e.out, app_ne _ _ (by decide)]; rfl, rfl⟩
          · have e : Hid (R = (6, t.close)) := by
              have h := HRs.out; unfold Task.small at h; rw [if_neg (show ¬ k.words ≤ x.er by omega), if_neg (fun q => b1 q.1), if_neg m3, if_neg (fun q => a2 q.2)] at h; exact h
            rw [decide_eq_false a2]
            have q := lastly_any HP2.out Hov.out 6
            go_wp2_with fail
            refine q.mono ?_
            rintro e9 w3 ⟨rfl, h1, h2⟩
            have HA : Hid (Pt w3 base b v g k t.close ∧ Kg.Touch [b] w w3) := ⟨h1, HT2.out.trans h2⟩
            clear q h1 h2
            go_wp2
            go_ret
            exact ⟨6, t.close, rfl, HA.out.1, HA.out.2, by rw [e.out, app0 _ _ (by decide)], rfl⟩
        · have e : Hid (R = (6, t.close)) := by
            have h := HRs.out; unfold Task.small at h; rw [if_neg (show ¬ k.words ≤ x.er by omega), if_neg (fun q => b1 q.1), if_neg m3, if_neg (fun q => m2 q.1)] at h; exact h
          rw [decide_eq_true (Decidable.not_not.1 m2)] at qr2
          have q := lastly_any HP1.out Hov.out 6
          clear qg
          go_wp2_with fail
          refine qr.mono ?_
          rintro e9 w9 ⟨rfl, rfl⟩
          clear qr
          go_wp2_with fail
          refine qr2.mono ?_
          rintro e9 w9 ⟨rfl, rfl⟩
          clear qr2
          go_wp2_with fail
          refine q.mono ?_
          rintro e9 w3 ⟨rfl, h1, h2⟩
          have HA : Hid (Pt w3 base b v g k t.close ∧ Kg.Touch [b] w w3) := ⟨h1, HT1.out.trans h2⟩
          clear q h1 h2
          go_wp2
          go_ret
          exact ⟨6, t.close, rfl, HA.out.1, HA.out.2, by rw [e.out, app0 _ _ (by decide)], rfl⟩

end Go.Proofs.YtcijdbhabbepaaaGreatDoor.Po
