/-
  Images, the document's check.
-/
import Derived.Test.YtblbiikfipcbcaaDoorIC3
import Derived.Test.YtblbiikfipcbcaaDoorIC6
set_option linter.unusedVariables false
set_option maxRecDepth 20000
namespace Go.Proofs.YtblbiikfipcbcaaDoor
open Go.RowKit Go.Shelf

set_option maxHeartbeats 4000000 in
/-- The document's Check. -/
theorem rCheck_any (n0 : Nat) (w : World) (vo vs vh vr vq : Value) (os : List OL) (ts : List (Value × List (Value × List Int))) (g : Im.Gr) (hg : Grd n0 w vo vs vh vr vq os ts g) (hn : n0 ≤ w.heap.size) (hl : Gln os ts g) :
    Calls Tryd.prog 17 #[.agg (gcs vo vs vh vr vq g.next)] w fun e w' => ∃ r : Int, e = .returned (.int .i64 r) ∧ Below w.heap.size w w' ∧ ((r = 0 ∧ MB g) ∨ (r = 164 ∧ ¬ MB g)) := by
  have l1 : Below w.heap.size w (w.alloc (.cells (gcs vo vs vh vr vq g.next) 29)) := Below.alloc (Below.refl _ _) (Nat.le_refl _) _
  have hy := fun j => cell_of_row _ _ j _ _ _ (heap_alloc_new w (.cells (gcs vo vs vh vr vq g.next) 29 (0, 0)))
  generalize hw1 : w.alloc (.cells (gcs vo vs vh vr vq g.next) 29) = w1 at *
  have e1 : w1.heap.size = w.heap.size + 1 := by rw [← hw1]; simp
  have HK : Hid (∀ w', Below w1.heap.size w1 w' → w'.cell? ⟨w.heap.size, 0, none⟩ = some vo ∧ w'.cell? ⟨w.heap.size, 1, none⟩ = some vs ∧ w'.cell? ⟨w.heap.size, 2, none⟩ = some vh ∧ w'.cell? ⟨w.heap.size, 3, none⟩ = some vr ∧ w'.cell? ⟨w.heap.size, 4, none⟩ = some vq ∧ w'.cell? ⟨w.heap.size, 5, none⟩ = some (.int .u64 g.next)) := fun w' b' => by
    have hlt : w.heap.size < w1.heap.size := by omega
    exact ⟨(b'.cell (p := ⟨w.heap.size, 0, none⟩) hlt).trans (hy 0), (b'.cell (p := ⟨w.heap.size, 1, none⟩) hlt).trans (hy 1), (b'.cell (p := ⟨w.heap.size, 2, none⟩) hlt).trans (hy 2), (b'.cell (p := ⟨w.heap.size, 3, none⟩) hlt).trans (hy 3), (b'.cell (p := ⟨w.heap.size, 4, none⟩) hlt).trans (hy 4), (b'.cell (p := ⟨w.heap.size, 5, none⟩) hlt).trans (hy 5)⟩
  have HG : Hid (∀ w', Below w1.heap.size w1 w' → Below w.heap.size w w' ∧ n0 ≤ w'.heap.size ∧ Grd n0 w' vo vs vh vr vq os ts g) := fun w' b' => by
    have h9 := l1.trans (b'.mono l1.size)
    exact ⟨h9, Nat.le_trans hn h9.size, hg.below (h9.mono hn)⟩
  have Hl : Hid (Gln os ts g) := hl
  obtain ⟨k0, k1, k2, k3, k4, k5⟩ := HK.out w1 (Below.refl _ _)
  have HB1 : Hid (Below w1.heap.size w1 w1) := Below.refl _ _
  obtain ⟨aa, ac, rfl, -⟩ := hg.ob
  obtain ⟨ba, bc, rfl, -⟩ := hg.sl
  obtain ⟨ca, cc, rfl, -, -⟩ := hg.hs
  obtain ⟨da, dc, rfl, -, -⟩ := hg.rg
  obtain ⟨ea, ec, rfl, -, -⟩ := hg.qu
  have hO := calls_def (rObjects_any n0 w1 _ _ _ _ _ os ts g (HG.out w1 HB1.out).2.2 (HG.out w1 HB1.out).2.1 Hl.out.o)
  clear hg hl hy
  go_enter Tryd.func17, Tryd.ntmps17
  by_cases pO : OM g
  · have hc := hO.1 pO
    clear hO
    go_wp2_with fail
    refine hc.mono ?_
    rintro e w2 ⟨rfl, b2⟩
    have HB2 : Hid (Below w1.heap.size w1 w2) := HB1.out.trans (b2.mono HB1.out.size)
    clear hc b2 k0 k1 k2 k3 k4 k5
    obtain ⟨k0, k1, k2, k3, k4, k5⟩ := HK.out w2 HB2.out
    have hS := calls_def (rSlots_any n0 w2 _ _ _ _ _ os ts g (HG.out w2 HB2.out).2.2 (HG.out w2 HB2.out).2.1 Hl.out.o Hl.out.s Hl.out.h)
    by_cases pS : SH g
    · have hc := hS.1 pS
      clear hS
      go_wp2_with fail
      refine hc.mono ?_
      rintro e w3 ⟨rfl, b3⟩
      have HB3 : Hid (Below w1.heap.size w1 w3) := HB2.out.trans (b3.mono HB2.out.size)
      clear hc b3 k0 k1 k2 k3 k4 k5
      obtain ⟨k0, k1, k2, k3, k4, k5⟩ := HK.out w3 HB3.out
      have hF := calls_def (rLists_any n0 w3 _ _ _ _ _ os ts g (HG.out w3 HB3.out).2.2 (HG.out w3 HB3.out).2.1 Hl.out.o Hl.out.r Hl.out.q)
      by_cases pF : FM g
      · have hc := hF.1 pF
        clear hF
        go_wp2_with fail
        refine hc.mono ?_
        rintro e w5 ⟨rfl, b5⟩
        have HB5 : Hid (Below w1.heap.size w1 w5) := HB3.out.trans (b5.mono HB3.out.size)
        clear hc b5 k0 k1 k2 k3 k4 k5
        obtain ⟨k0, k1, k2, k3, k4, k5⟩ := HK.out w5 HB5.out
        have hA := calls_def (rKnown_any n0 w5 _ _ _ _ _ os ts g (HG.out w5 HB5.out).2.2 (HG.out w5 HB5.out).2.1 Hl.out.s Hl.out.o Hl.out.e (root_le pS.s pS.h pF) (fun o ho z hz => by
          have := pO.ptrs o ho z hz
          simp [inB] at this
          exact this.2))
        by_cases pA : AK g
        · have hc := hA.1 pA
          have Hr : Hid (MB g) := ⟨pO, pS.s, pS.h, pF, pA⟩
          clear hA
          go_wp2_with fail
          refine hc.mono ?_
          rintro e w6 ⟨rfl, b6⟩
          have HB6 : Hid (Below w1.heap.size w1 w6) := HB5.out.trans (b6.mono HB5.out.size)
          clear hc b6 k0 k1 k2 k3 k4 k5
          go_wp2
          go_ret
          exact ⟨0, rfl, (HG.out _ HB6.out).1, .inl ⟨rfl, Hr.out⟩⟩
        · have hc := hA.2 pA
          have Hr : Hid (¬ MB g) := fun h => pA h.k
          clear hA
          go_wp2_with fail
          refine hc.mono ?_
          rintro e w6 ⟨rfl, b6⟩
          have HB6 : Hid (Below w1.heap.size w1 w6) := HB5.out.trans (b6.mono HB5.out.size)
          clear hc b6 k0 k1 k2 k3 k4 k5
          go_wp2
          go_ret
          exact ⟨164, rfl, (HG.out _ HB6.out).1, .inr ⟨rfl, Hr.out⟩⟩
      · have hc := hF.2 pF
        have Hn : Hid (¬ MB g) := fun h => pF h.f
        clear hF
        go_wp2_with fail
        refine hc.mono ?_
        rintro e w5 ⟨rfl, b5⟩
        have HB5 : Hid (Below w1.heap.size w1 w5) := HB3.out.trans (b5.mono HB3.out.size)
        clear hc b5 k0 k1 k2 k3 k4 k5
        go_wp2
        go_ret
        exact ⟨164, rfl, (HG.out _ HB5.out).1, .inr ⟨rfl, Hn.out⟩⟩
    · have hc := hS.2 pS
      have Hn : Hid (¬ MB g) := fun h => pS ⟨h.s, h.h⟩
      clear hS
      go_wp2_with fail
      refine hc.mono ?_
      rintro e w3 ⟨rfl, b3⟩
      have HB3 : Hid (Below w1.heap.size w1 w3) := HB2.out.trans (b3.mono HB2.out.size)
      clear hc b3 k0 k1 k2 k3 k4 k5
      go_wp2
      go_ret
      exact ⟨164, rfl, (HG.out _ HB3.out).1, .inr ⟨rfl, Hn.out⟩⟩
  · have hc := hO.2 pO
    have Hn : Hid (¬ MB g) := fun h => pO h.o
    clear hO
    go_wp2_with fail
    refine hc.mono ?_
    rintro e w2 ⟨rfl, b2⟩
    have HB2 : Hid (Below w1.heap.size w1 w2) := HB1.out.trans (b2.mono HB1.out.size)
    clear hc b2 k0 k1 k2 k3 k4 k5
    go_wp2
    go_ret
    exact ⟨164, rfl, (HG.out _ HB2.out).1, .inr ⟨rfl, Hn.out⟩⟩

end Go.Proofs.YtblbiikfipcbcaaDoor
