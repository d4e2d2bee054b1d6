/-
  Images: MayBe, Check.
-/
import Derived.Test.YtblbiikfipcbcaaDoorIG10
set_option linter.unusedVariables false
set_option maxRecDepth 20000
namespace Go.Proofs.YtblbiikfipcbcaaDoor
open Go.RowKit Go.Shelf

/-- Which graphs may be. -/
structure MB (g : Im.Gr) : Prop where
  o : OM g
  s : SM g
  h : HM g
  f : FM g
  k : ∀ n, 1 ≤ n → n ≤ g.obs.length → Im.Known g n

/-- What a graph's lists may be long. -/
structure Gln (os : List OL) (ts : List (Value × List (Value × List Int))) (g : Im.Gr) : Prop where
  s : Sln ts
  o : os.length ≤ 1000000000000
  h : g.hs.length ≤ 1000000000000
  r : g.rg.length ≤ 1000000000000
  q : g.qu.length ≤ 1000000000000
  e : (ents g).length + Im.wsum g.obs (fun _ => false) g.obs.length ≤ 1000000000000

theorem fins_bound (l : List Im.Ob) : ∀ z, z ∈ Im.fins l → 1 ≤ z ∧ z ≤ l.length := by
  have : ∀ (l : List Im.Ob) (i : Nat) z, z ∈ Im.finsFrom i l → (i : Int) + 1 ≤ z ∧ z ≤ (i : Int) + l.length := by
    intro l
    induction l with
    | nil => intro i z hz; simp [Im.finsFrom] at hz
    | cons x r ih =>
      intro i z hz
      simp only [Im.finsFrom] at hz
      split at hz
      · rcases List.mem_cons.1 hz with h | h
        · rw [h]; simp only [List.length_cons]; omega
        · have := ih _ _ h; simp only [List.length_cons]; omega
      · have := ih _ _ hz; simp only [List.length_cons]; omega
  intro z hz
  have := this l 0 z hz
  omega

theorem root_le {g : Im.Gr} (s : SM g) (h : HM g) (f : FM g) : ∀ z, Im.Root g z → z ≤ g.obs.length := by
  intro z hz
  rcases hz with ⟨t, ht, fr, hf, hz⟩ | hz | hz | hz
  · have := (s.ok t ht fr hf).2 z hz
    simp [inB] at this
    exact this.2
  · have := h.all z hz
    simp [inB] at this
    exact this.2
  · rw [f.reg] at hz
    exact (fins_bound _ z hz).2
  · have := f.que z hz
    simp [inB] at this
    exact this.2

theorem calls_def {f : Nat} {args : Array Value} {w : World} {p : Prop} (h : Calls Tryd.prog f args w fun e w' => ∃ r : Bool, e = .returned (.bool r) ∧ Below w.heap.size w w' ∧ (r = true ↔ p)) :
    (p → Calls Tryd.prog f args w fun e w' => e = .returned (.bool true) ∧ Below w.heap.size w w') ∧ (¬ p → Calls Tryd.prog f args w fun e w' => e = .returned (.bool false) ∧ Below w.heap.size w w') := by
  constructor
  · intro hp
    refine h.mono ?_
    rintro e w' ⟨r, rfl, hb, hr⟩
    exact ⟨by rw [hr.2 hp], hb⟩
  · intro hp
    refine h.mono ?_
    rintro e w' ⟨r, rfl, hb, hr⟩
    cases r with
    | true => exact absurd (hr.1 rfl) hp
    | false => exact ⟨rfl, hb⟩

set_option maxHeartbeats 4000000 in
/-- MayBe. -/
theorem gMayBe_any (n0 : Nat) (w : World) (vo vs vh vr vq : Value) (os : List OL) (ts : List (Value × List (Value × List Int))) (g : Im.Gr) (hg : Grd n0 w vo vs vh vr vq os ts g) (hn : n0 ≤ w.heap.size) (hL : Laid w) (hl : Gln os ts g) :
    Calls Tryd.prog 24 #[.agg (gcs vo vs vh vr vq g.next)] w fun e w' => ∃ r : Bool, e = .returned (.bool r) ∧ Below w.heap.size w w' ∧ (r = true ↔ MB g) := by
  have l1 : Below w.heap.size w (w.alloc (.cells (gcs vo vs vh vr vq g.next) 29)) := Below.alloc (Below.refl _ _) (Nat.le_refl _) _
  have hy := fun j => cell_of_row _ _ j _ _ _ (heap_alloc_new w (.cells (gcs vo vs vh vr vq g.next) 29 (0, 0)))
  generalize hw1 : w.alloc (.cells (gcs vo vs vh vr vq g.next) 29) = w1 at *
  have e1 : w1.heap.size = w.heap.size + 1 := by rw [← hw1]; simp
  have HK : Hid (∀ w', Below w1.heap.size w1 w' → w'.cell? ⟨w.heap.size, 0, none⟩ = some vo ∧ w'.cell? ⟨w.heap.size, 1, none⟩ = some vs ∧ w'.cell? ⟨w.heap.size, 2, none⟩ = some vh ∧ w'.cell? ⟨w.heap.size, 3, none⟩ = some vr ∧ w'.cell? ⟨w.heap.size, 4, none⟩ = some vq ∧ w'.cell? ⟨w.heap.size, 5, none⟩ = some (.int .u64 g.next)) := fun w' b' => by
    have hlt : w.heap.size < w1.heap.size := by omega
    exact ⟨(b'.cell (p := ⟨w.heap.size, 0, none⟩) hlt).trans (hy 0), (b'.cell (p := ⟨w.heap.size, 1, none⟩) hlt).trans (hy 1), (b'.cell (p := ⟨w.heap.size, 2, none⟩) hlt).trans (hy 2), (b'.cell (p := ⟨w.heap.size, 3, none⟩) hlt).trans (hy 3), (b'.cell (p := ⟨w.heap.size, 4, none⟩) hlt).trans (hy 4), (b'.cell (p := ⟨w.heap.size, 5, none⟩) hlt).trans (hy 5)⟩
  have HG : Hid (∀ w', Below w1.heap.size w1 w' → Below w.heap.size w w' ∧ n0 ≤ w'.heap.size ∧ Grd n0 w' vo vs vh vr vq os ts g) := fun w' b' => by
    have h9 := l1.trans (b'.mono l1.size)
    exact ⟨h9, Nat.le_trans hn h9.size, hg.below (h9.mono hn)⟩
  have HLd : Hid (∀ w', Below w1.heap.size w1 w' → Laid w') := fun w' b' => hL.keep (HG.out w' b').1
  have Hl : Hid (Gln os ts g) := hl
  obtain ⟨k0, k1, k2, k3, k4, k5⟩ := HK.out w1 (Below.refl _ _)
  have HB1 : Hid (Below w1.heap.size w1 w1) := Below.refl _ _
  obtain ⟨aa, ac, rfl, -⟩ := hg.ob
  obtain ⟨ba, bc, rfl, -⟩ := hg.sl
  obtain ⟨ca, cc, rfl, -, -⟩ := hg.hs
  obtain ⟨da, dc, rfl, -, -⟩ := hg.rg
  obtain ⟨ea, ec, rfl, -, -⟩ := hg.qu
  have hO := calls_def (gObjects_any n0 w1 _ _ _ _ _ os ts g (HG.out w1 HB1.out).2.2 (HG.out w1 HB1.out).2.1 (HLd.out w1 HB1.out) (by have := Hl.out.o; omega))
  clear hg hL hl hy
  go_enter Tryd.func24, Tryd.ntmps24
  by_cases pO : OM g
  · have hc := hO.1 pO
    clear hO
    go_wp2_with fail
    refine hc.mono ?_
    rintro e w2 ⟨rfl, b2⟩
    have HB2 : Hid (Below w1.heap.size w1 w2) := HB1.out.trans (b2.mono HB1.out.size)
    clear hc b2 k0 k1 k2 k3 k4 k5
    obtain ⟨k0, k1, k2, k3, k4, k5⟩ := HK.out w2 HB2.out
    have hS := calls_def (gSlotsM_any n0 w2 _ _ _ _ _ os ts g (HG.out w2 HB2.out).2.2 (HG.out w2 HB2.out).2.1 Hl.out.s)
    by_cases pS : SM g
    · have hc := hS.1 pS
      clear hS
      go_wp2_with fail
      refine hc.mono ?_
      rintro e w3 ⟨rfl, b3⟩
      have HB3 : Hid (Below w1.heap.size w1 w3) := HB2.out.trans (b3.mono HB2.out.size)
      clear hc b3 k0 k1 k2 k3 k4 k5
      obtain ⟨k0, k1, k2, k3, k4, k5⟩ := HK.out w3 HB3.out
      have hH := calls_def (gHandles_any n0 w3 _ _ _ _ _ os ts g (HG.out w3 HB3.out).2.2 (HG.out w3 HB3.out).2.1 (by have := Hl.out.h; omega))
      by_cases pH : HM g
      · have hc := hH.1 pH
        clear hH
        go_wp2_with fail
        refine hc.mono ?_
        rintro e w4 ⟨rfl, b4⟩
        have HB4 : Hid (Below w1.heap.size w1 w4) := HB3.out.trans (b4.mono HB3.out.size)
        clear hc b4 k0 k1 k2 k3 k4 k5
        obtain ⟨k0, k1, k2, k3, k4, k5⟩ := HK.out w4 HB4.out
        have hF := calls_def (gFinalsM_any n0 w4 _ _ _ _ _ os ts g (HG.out w4 HB4.out).2.2 (HG.out w4 HB4.out).2.1 Hl.out.o (by have := Hl.out.r; omega) (by have := Hl.out.q; omega))
        by_cases pF : FM g
        · have hc := hF.1 pF
          clear hF
          go_wp2_with fail
          refine hc.mono ?_
          rintro e w5 ⟨rfl, b5⟩
          have HB5 : Hid (Below w1.heap.size w1 w5) := HB4.out.trans (b5.mono HB4.out.size)
          clear hc b5 k0 k1 k2 k3 k4 k5
          obtain ⟨k0, k1, k2, k3, k4, k5⟩ := HK.out w5 HB5.out
          have hA := gAll_any n0 w5 _ _ _ _ _ os ts g (HG.out w5 HB5.out).2.2 (HG.out w5 HB5.out).2.1 Hl.out.s Hl.out.o Hl.out.e (root_le pS pH pF) (fun o ho z hz => by
            have := pO.ptrs o ho z hz
            simp [inB] at this
            exact this.2)
          go_wp2_with fail
          refine hA.mono ?_
          rintro e w6 ⟨r, rfl, b6, hr⟩
          have HB6 : Hid (Below w1.heap.size w1 w6) := HB5.out.trans (b6.mono HB5.out.size)
          have Hr : Hid (r = true ↔ MB g) := hr.trans ⟨fun h => ⟨pO, pS, pH, pF, h⟩, fun h => h.k⟩
          clear hA hr b6
          go_wp2
          go_ret
          exact ⟨r, rfl, (HG.out _ HB6.out).1, Hr.out⟩
        · have hc := hF.2 pF
          have Hn : Hid (¬ MB g) := fun h => pF h.f
          clear hF
          go_wp2_with fail
          refine hc.mono ?_
          rintro e w5 ⟨rfl, b5⟩
          have HB5 : Hid (Below w1.heap.size w1 w5) := HB4.out.trans (b5.mono HB4.out.size)
          clear hc b5 k0 k1 k2 k3 k4 k5
          go_wp2
          go_ret
          exact ⟨false, rfl, (HG.out _ HB5.out).1, by simpa using Hn.out⟩
      · have hc := hH.2 pH
        have Hn : Hid (¬ MB g) := fun h => pH h.h
        clear hH
        go_wp2_with fail
        refine hc.mono ?_
        rintro e w4 ⟨rfl, b4⟩
        have HB4 : Hid (Below w1.heap.size w1 w4) := HB3.out.trans (b4.mono HB3.out.size)
        clear hc b4 k0 k1 k2 k3 k4 k5
        go_wp2
        go_ret
        exact ⟨false, rfl, (HG.out _ HB4.out).1, by simpa using Hn.out⟩
    · have hc := hS.2 pS
      have Hn : Hid (¬ MB g) := fun h => pS h.s
      clear hS
      go_wp2_with fail
      refine hc.mono ?_
      rintro e w3 ⟨rfl, b3⟩
      have HB3 : Hid (Below w1.heap.size w1 w3) := HB2.out.trans (b3.mono HB2.out.size)
      clear hc b3 k0 k1 k2 k3 k4 k5
      go_wp2
      go_ret
      exact ⟨false, rfl, (HG.out _ HB3.out).1, by simpa using Hn.out⟩
  · have hc := hO.2 pO
    have Hn : Hid (¬ MB g) := fun h => pO h.o
    clear hO
    go_wp2_with fail
    refine hc.mono ?_
    rintro e w2 ⟨rfl, b2⟩
    have HB2 : Hid (Below w1.heap.size w1 w2) := HB1.out.trans (b2.mono HB1.out.size)
    clear hc b2 k0 k1 k2 k3 k4 k5
    go_wp2
    go_ret
    exact ⟨false, rfl, (HG.out _ HB2.out).1, by simpa using Hn.out⟩

set_option maxHeartbeats 1000000 in
/-- image.Check. -/
theorem iCheck_any (n0 : Nat) (w : World) (vo vs vh vr vq : Value) (os : List OL) (ts : List (Value × List (Value × List Int))) (g : Im.Gr) (hg : Grd n0 w vo vs vh vr vq os ts g) (hn : n0 ≤ w.heap.size) (hL : Laid w) (hl : Gln os ts g) :
    Calls Tryd.prog 11 #[.agg (gcs vo vs vh vr vq g.next)] w fun e w' => ∃ r : Int, e = .returned (.int .i64 r) ∧ Below w.heap.size w w' ∧ ((r = 0 ∧ MB g) ∨ (r = 164 ∧ ¬ MB g)) := by
  have l1 : Below w.heap.size w (w.alloc (.cells (gcs vo vs vh vr vq g.next) 29)) := Below.alloc (Below.refl _ _) (Nat.le_refl _) _
  have hy := fun j => cell_of_row _ _ j _ _ _ (heap_alloc_new w (.cells (gcs vo vs vh vr vq g.next) 29 (0, 0)))
  generalize hw1 : w.alloc (.cells (gcs vo vs vh vr vq g.next) 29) = w1 at *
  have k0 : w1.cell? ⟨w.heap.size, 0, none⟩ = some vo := hy 0
  have k1 : w1.cell? ⟨w.heap.size, 1, none⟩ = some vs := hy 1
  have k2 : w1.cell? ⟨w.heap.size, 2, none⟩ = some vh := hy 2
  have k3 : w1.cell? ⟨w.heap.size, 3, none⟩ = some vr := hy 3
  have k4 : w1.cell? ⟨w.heap.size, 4, none⟩ = some vq := hy 4
  have k5 : w1.cell? ⟨w.heap.size, 5, none⟩ = some (.int .u64 g.next) := hy 5
  have hm := gMayBe_any n0 w1 vo vs vh vr vq os ts g (hg.below (l1.mono hn)) (Nat.le_trans hn l1.size) (hL.keep l1) hl
  obtain ⟨aa, ac, rfl, -⟩ := hg.ob
  obtain ⟨ba, bc, rfl, -⟩ := hg.sl
  obtain ⟨ca, cc, rfl, -, -⟩ := hg.hs
  obtain ⟨da, dc, rfl, -, -⟩ := hg.rg
  obtain ⟨ea, ec, rfl, -, -⟩ := hg.qu
  clear hy hg hL hl
  go_enter Tryd.func11, Tryd.ntmps11
  go_wp2_with fail
  refine hm.mono ?_
  rintro e w2 ⟨r, rfl, b2, hr⟩
  have HB : Hid (Below w.heap.size w w2) := l1.trans (b2.mono l1.size)
  cases r with
  | true =>
    have Hr : Hid (MB g) := hr.1 rfl
    clear hm hr b2 k0 k1 k2 k3 k4 k5
    go_wp2
    go_ret
    exact ⟨0, rfl, HB.out, .inl ⟨rfl, Hr.out⟩⟩
  | false =>
    have Hr : Hid (¬ MB g) := fun h => Bool.noConfusion (hr.2 h)
    clear hm hr b2 k0 k1 k2 k3 k4 k5
    go_wp2
    go_ret
    exact ⟨164, rfl, HB.out, .inr ⟨rfl, Hr.out⟩⟩

end Go.Proofs.YtblbiikfipcbcaaDoor
