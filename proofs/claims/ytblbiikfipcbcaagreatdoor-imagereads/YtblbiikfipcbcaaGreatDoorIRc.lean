/-
  Images, the reader: an object's part, told whole.
-/
import Derived.Test.YtblbiikfipcbcaaGreatDoorPRe
set_option linter.unusedVariables false
set_option maxRecDepth 20000
namespace Go.Proofs.YtblbiikfipcbcaaGreatDoor
open Go.RowKit Go.Shelf

/-- A list's part with its boxes, which lie from lo on. -/
def Nb (lo q o Fe Fg : Nat) (u : Value) (w : World) : Prop := ∃ c c2, u = lpart ((0 : Nat) : Int) Fe Fg c c2 ∧ lo ≤ c ∧ c < w.heap.size ∧ lo ≤ c2 ∧ c2 < w.heap.size ∧ w.cell? ⟨c, 0, none⟩ = some (.pointer (some ⟨q, o, none⟩)) ∧ w.cell? ⟨c2, 0, none⟩ = some (.pointer (some ⟨q, o, none⟩))
theorem Nb.keep {lo q o Fe Fg : Nat} {u : Value} {w w' : World} (h : Nb lo q o Fe Fg u w) (b : Below w.heap.size w w') : Nb lo q o Fe Fg u w' := by
  obtain ⟨c, c2, h1, h2, h3, h4, h5, h6, h7⟩ := h
  have := b.size
  exact ⟨c, c2, h1, h2, by omega, h4, by omega, (b.cell (p := ⟨c, 0, none⟩) h3).trans h6, (b.cell (p := ⟨c2, 0, none⟩) h5).trans h7⟩

/-- The five parts of an object at ⟨q, po⟩. -/
structure Obp (lo : Nat) (w : World) (q po last g : Nat) (u : Value) (c5 d2 : Nat) : Prop where
  gl : lo ≤ g
  g : w.heap[g]? = some (.cells #[.iface 103 (.agg #[.pointer (some ⟨q, po, none⟩), .int .u64 (last : Int)]), .iface 97 (.agg #[.pointer (some ⟨q, po + 1, none⟩)]), .iface 97 (.agg #[.pointer (some ⟨q, po + 2, none⟩)]), u, lpart ((0 : Nat) : Int) 67 78 c5 d2] 78 (0, 0))
  u : Nb lo q (po + 3) 72 71 u w
  cg : lo ≤ c5
  cl : c5 < w.heap.size
  cc : w.cell? ⟨c5, 0, none⟩ = some (.pointer (some ⟨q, po, none⟩))
  dg : lo ≤ d2
  dl : d2 < w.heap.size
  dc : w.cell? ⟨d2, 0, none⟩ = some (.pointer (some ⟨q, po + 4, none⟩))

set_option maxHeartbeats 8000000 in
theorem object_ex {w : World} {q off n cap i last : Nat} (hq : q < w.heap.size) (hi : i < n) (hn : n ≤ 1000000000000) (hl : i = 0 → last = 0) (hl' : ∀ k, i = k + 1 → w.cell? ⟨q, off + k * 5, none⟩ = some (.int .u64 (last : Int)))
    (h3 : w.cell? ⟨q, off + i * 5 + 3, none⟩ = some (.slice none 0 0)) (h4 : w.cell? ⟨q, off + i * 5 + 4, none⟩ = some (.slice none 0 0)) :
    Calls Tryz.prog 52 #[.slice (some ⟨q, off, none⟩) n cap, .int .i64 (i : Int)] w fun e w' => Below w.heap.size w w' ∧ ∃ g, e = .returned (.iface 108 (.slice (some ⟨g, 0, none⟩) 5 5)) ∧ ∃ u c5 d2, Obp w.heap.size w' q (off + i * 5) last g u c5 d2 := by
  have hiI : (i : Int) < (n : Int) := by omega
  have b5 : Below w.heap.size w (w.alloc (.cells #[.pointer (some ⟨q, off + i * 5, none⟩)] 124)) := Below.alloc (Below.refl _ _) (Nat.le_refl _) _
  have h5 := (Kg.heap_cell (heap_alloc_new w (.cells #[.pointer (some ⟨q, off + i * 5, none⟩)] 124 (0, 0))) 0).trans (show _ = some (.pointer (some ⟨q, off + i * 5, none⟩)) from rfl)
  have s5 : (w.alloc (.cells #[.pointer (some ⟨q, off + i * 5, none⟩)] 124)).heap.size = w.heap.size + 1 := by simp
  go_enter Tryz.func52, Tryz.ntmps52
  go_upto_region 2 with fail
  have HB5 : Hid (Below w.heap.size w (w.alloc (.cells #[.pointer (some ⟨q, off + i * 5, none⟩)] 124))) := b5
  generalize w.alloc (.cells #[.pointer (some ⟨q, off + i * 5, none⟩)] 124) = W at *
  obtain ⟨po, hpo⟩ : ∃ po, off + i * 5 = po := ⟨_, rfl⟩
  have Hpo : Hid (off + i * 5 = po) := hpo
  rw [hpo] at h5 h3 h4 ⊢
  clear hpo
  have Hh5 : Hid (W.cell? ⟨w.heap.size, 0, none⟩ = some (.pointer (some ⟨q, po, none⟩))) := h5
  have HN : Hid (∀ w', Below W.heap.size W w' → Calls Tryz.prog 58 #[.pointer (some ⟨q, po + 3, none⟩)] w' fun e w'' => ∃ u, e = .returned (.iface 106 u) ∧ Below w'.heap.size w' w'' ∧ Nb w.heap.size q (po + 3) 72 71 (.iface 106 u) w'') := fun w' b' => by
    have b0 := HB5.out.trans (b'.mono HB5.out.size)
    have hsz := b0.size
    refine (numbers_ex w' q (po + 3) 0 0 none (by omega) ((b0.cell (p := ⟨q, po + 3, none⟩) hq).trans h3)).mono ?_
    rintro e w'' ⟨c, c2, rfl, b2, bx⟩
    exact ⟨_, rfl, b2, c, c2, rfl, by have := bx.cg; omega, bx.cl, by have := bx.dg; omega, bx.dl, bx.cc, bx.dc⟩
  have HU : Hid (∀ w', Below W.heap.size W w' → Calls Tryz.prog 66 #[.pointer (some ⟨q, po + 4, none⟩), .func (.func 67) #[] #[.pointer (some ⟨w.heap.size, 0, none⟩)]] w' fun e w'' => ∃ c2, e = .returned (.iface 106 (.agg #[.int .i64 ((0 : Nat) : Int), .func (.func 67) #[] #[.pointer (some ⟨w.heap.size, 0, none⟩)], .func (.func 78) #[] #[.pointer (some ⟨c2, 0, none⟩)]])) ∧ Below w'.heap.size w' w'' ∧ w'.heap.size ≤ c2 ∧ c2 < w''.heap.size ∧ w''.cell? ⟨c2, 0, none⟩ = some (.pointer (some ⟨q, po + 4, none⟩))) := fun w' b' => by
    have b0 := HB5.out.trans (b'.mono HB5.out.size)
    have hsz := b0.size
    exact listU_ex w' q (po + 4) 67 w.heap.size 0 0 none (by omega) ((b0.cell (p := ⟨q, po + 4, none⟩) hq).trans h4)
  clear b5 h5 h3 h4
  rcases Nat.eq_zero_or_pos i with h0 | h0
  · subst h0
    have hl0 := hl rfl
    subst hl0
    go_upto_region 5 with fail
    refine wp_region_held_drew (S := (fun w' => w'.cell? ⟨w.heap.size, 0, none⟩ = some (.pointer (some ⟨q, po, none⟩)))) Kg.mixed Hh5.out (fun hHeld => ?_)
    refine wpAnyH_take (i := 0) (v := (.pointer (some ⟨q, po, none⟩))) rfl (by kernel_rfl) (by kernel_rfl) (by kernel_rfl) (fun _ _ _ h => h) (Or.inl ⟨by rfl, fun wx hSw => ?_⟩) (by assumption) ?_
    · go_simp
    change wpAnyH _ _ _ _ _ _ _ (Act.put _ (some 18) (.pointer (some ⟨q, po, none⟩))) _
    simp only [Act.put, List.setIfInBounds_toArray, List.set_cons_zero, List.set_cons_succ]
    refine wpAnyH_take (i := 1) (v := (.pointer (some ⟨q, po, none⟩))) rfl (by kernel_rfl) (by kernel_rfl) (by kernel_rfl) (fun _ _ _ h => h) (Or.inl ⟨by rfl, fun wx hSw => ?_⟩) (by assumption) ?_
    · go_simp
    change wpAnyH _ _ _ _ _ _ _ (Act.put _ (some 19) (.pointer (some ⟨q, po, none⟩))) _
    simp only [Act.put, List.setIfInBounds_toArray, List.set_cons_zero, List.set_cons_succ]
    refine wpAnyH_take (i := 2) (v := (.pointer (some ⟨q, po, none⟩))) rfl (by kernel_rfl) (by kernel_rfl) (by kernel_rfl) (fun _ _ _ h => h) (Or.inl ⟨by rfl, fun wx hSw => ?_⟩) (by assumption) ?_
    · go_simp
    change wpAnyH _ _ _ _ _ _ _ (Act.put _ (some 20) (.pointer (some ⟨q, po, none⟩))) _
    simp only [Act.put, List.setIfInBounds_toArray, List.set_cons_zero, List.set_cons_succ]
    refine wpAnyH_take (i := 3) (v := (.int .u64 ((0 : Nat) : Int))) rfl (by kernel_rfl) (by kernel_rfl) (by kernel_rfl) (fun _ _ _ h => h) (Or.inl ⟨by rfl, fun wx hSw => ?_⟩) (by assumption) ?_
    · go_simp
    change wpAnyH _ _ _ _ _ _ _ (Act.put _ (some 21) (.int .u64 ((0 : Nat) : Int))) _
    simp only [Act.put, List.setIfInBounds_toArray, List.set_cons_zero, List.set_cons_succ]
    refine wpAnyH_take (i := 4) (v := (.agg #[.pointer (some ⟨q, po, none⟩), .int .u64 ((0 : Nat) : Int)])) rfl (by kernel_rfl) (by kernel_rfl) (by kernel_rfl) (fun _ _ _ h => h) (Or.inl ⟨by rfl, fun wx hSw => ?_⟩) (by assumption) ?_
    · go_simp
    change wpAnyH _ _ _ _ _ _ _ (Act.put _ (some 22) (.agg #[.pointer (some ⟨q, po, none⟩), .int .u64 ((0 : Nat) : Int)])) _
    simp only [Act.put, List.setIfInBounds_toArray, List.set_cons_zero, List.set_cons_succ]
    refine wpAnyH_take (i := 5) (v := (.iface 103 (.agg #[.pointer (some ⟨q, po, none⟩), .int .u64 ((0 : Nat) : Int)]))) rfl (by kernel_rfl) (by kernel_rfl) (by kernel_rfl) (fun _ _ _ h => h) (Or.inl ⟨by rfl, fun wx hSw => ?_⟩) (by assumption) ?_
    · go_simp
    change wpAnyH _ _ _ _ _ _ _ (Act.put _ (some 23) (.iface 103 (.agg #[.pointer (some ⟨q, po, none⟩), .int .u64 ((0 : Nat) : Int)]))) _
    simp only [Act.put, List.setIfInBounds_toArray, List.set_cons_zero, List.set_cons_succ]
    refine wpAnyH_take (i := 6) (v := (.pointer (some ⟨q, po, none⟩))) rfl (by kernel_rfl) (by kernel_rfl) (by kernel_rfl) (fun _ _ _ h => h) (Or.inl ⟨by rfl, fun wx hSw => ?_⟩) (by assumption) ?_
    · go_simp
    change wpAnyH _ _ _ _ _ _ _ (Act.put _ (some 24) (.pointer (some ⟨q, po, none⟩))) _
    simp only [Act.put, List.setIfInBounds_toArray, List.set_cons_zero, List.set_cons_succ]
    refine wpAnyH_take (i := 7) (v := (.pointer (some ⟨q, po, none⟩))) rfl (by kernel_rfl) (by kernel_rfl) (by kernel_rfl) (fun _ _ _ h => h) (Or.inl ⟨by rfl, fun wx hSw => ?_⟩) (by assumption) ?_
    · go_simp
    change wpAnyH _ _ _ _ _ _ _ (Act.put _ (some 25) (.pointer (some ⟨q, po, none⟩))) _
    simp only [Act.put, List.setIfInBounds_toArray, List.set_cons_zero, List.set_cons_succ]
    refine wpAnyH_take (i := 8) (v := (.pointer (some ⟨q, po + 1, none⟩))) rfl (by kernel_rfl) (by kernel_rfl) (by kernel_rfl) (fun _ _ _ h => h) (Or.inl ⟨by rfl, fun wx hSw => ?_⟩) (by assumption) ?_
    · go_simp
    change wpAnyH _ _ _ _ _ _ _ (Act.put _ (some 26) (.pointer (some ⟨q, po + 1, none⟩))) _
    simp only [Act.put, List.setIfInBounds_toArray, List.set_cons_zero, List.set_cons_succ]
    refine wpAnyH_take (i := 9) (v := (.agg #[.pointer (some ⟨q, po + 1, none⟩)])) rfl (by kernel_rfl) (by kernel_rfl) (by kernel_rfl) (fun _ _ _ h => h) (Or.inl ⟨by rfl, fun wx hSw => ?_⟩) (by assumption) ?_
    · go_simp
    change wpAnyH _ _ _ _ _ _ _ (Act.put _ (some 27) (.agg #[.pointer (some ⟨q, po + 1, none⟩)])) _
    simp only [Act.put, List.setIfInBounds_toArray, List.set_cons_zero, List.set_cons_succ]
    refine wpAnyH_take (i := 10) (v := (.iface 97 (.agg #[.pointer (some ⟨q, po + 1, none⟩)]))) rfl (by kernel_rfl) (by kernel_rfl) (by kernel_rfl) (fun _ _ _ h => h) (Or.inl ⟨by rfl, fun wx hSw => ?_⟩) (by assumption) ?_
    · go_simp
    change wpAnyH _ _ _ _ _ _ _ (Act.put _ (some 28) (.iface 97 (.agg #[.pointer (some ⟨q, po + 1, none⟩)]))) _
    simp only [Act.put, List.setIfInBounds_toArray, List.set_cons_zero, List.set_cons_succ]
    refine wpAnyH_take (i := 11) (v := (.pointer (some ⟨q, po, none⟩))) rfl (by kernel_rfl) (by kernel_rfl) (by kernel_rfl) (fun _ _ _ h => h) (Or.inl ⟨by rfl, fun wx hSw => ?_⟩) (by assumption) ?_
    · go_simp
    change wpAnyH _ _ _ _ _ _ _ (Act.put _ (some 29) (.pointer (some ⟨q, po, none⟩))) _
    simp only [Act.put, List.setIfInBounds_toArray, List.set_cons_zero, List.set_cons_succ]
    refine wpAnyH_take (i := 12) (v := (.pointer (some ⟨q, po, none⟩))) rfl (by kernel_rfl) (by kernel_rfl) (by kernel_rfl) (fun _ _ _ h => h) (Or.inl ⟨by rfl, fun wx hSw => ?_⟩) (by assumption) ?_
    · go_simp
    change wpAnyH _ _ _ _ _ _ _ (Act.put _ (some 30) (.pointer (some ⟨q, po, none⟩))) _
    simp only [Act.put, List.setIfInBounds_toArray, List.set_cons_zero, List.set_cons_succ]
    refine wpAnyH_take (i := 13) (v := (.pointer (some ⟨q, po + 2, none⟩))) rfl (by kernel_rfl) (by kernel_rfl) (by kernel_rfl) (fun _ _ _ h => h) (Or.inl ⟨by rfl, fun wx hSw => ?_⟩) (by assumption) ?_
    · go_simp
    change wpAnyH _ _ _ _ _ _ _ (Act.put _ (some 31) (.pointer (some ⟨q, po + 2, none⟩))) _
    simp only [Act.put, List.setIfInBounds_toArray, List.set_cons_zero, List.set_cons_succ]
    refine wpAnyH_take (i := 14) (v := (.agg #[.pointer (some ⟨q, po + 2, none⟩)])) rfl (by kernel_rfl) (by kernel_rfl) (by kernel_rfl) (fun _ _ _ h => h) (Or.inl ⟨by rfl, fun wx hSw => ?_⟩) (by assumption) ?_
    · go_simp
    change wpAnyH _ _ _ _ _ _ _ (Act.put _ (some 32) (.agg #[.pointer (some ⟨q, po + 2, none⟩)])) _
    simp only [Act.put, List.setIfInBounds_toArray, List.set_cons_zero, List.set_cons_succ]
    refine wpAnyH_take (i := 15) (v := (.iface 97 (.agg #[.pointer (some ⟨q, po + 2, none⟩)]))) rfl (by kernel_rfl) (by kernel_rfl) (by kernel_rfl) (fun _ _ _ h => h) (Or.inl ⟨by rfl, fun wx hSw => ?_⟩) (by assumption) ?_
    · go_simp
    change wpAnyH _ _ _ _ _ _ _ (Act.put _ (some 33) (.iface 97 (.agg #[.pointer (some ⟨q, po + 2, none⟩)]))) _
    simp only [Act.put, List.setIfInBounds_toArray, List.set_cons_zero, List.set_cons_succ]
    refine wpAnyH_take (i := 16) (v := (.pointer (some ⟨q, po, none⟩))) rfl (by kernel_rfl) (by kernel_rfl) (by kernel_rfl) (fun _ _ _ h => h) (Or.inl ⟨by rfl, fun wx hSw => ?_⟩) (by assumption) ?_
    · go_simp
    change wpAnyH _ _ _ _ _ _ _ (Act.put _ (some 34) (.pointer (some ⟨q, po, none⟩))) _
    simp only [Act.put, List.setIfInBounds_toArray, List.set_cons_zero, List.set_cons_succ]
    refine wpAnyH_take (i := 17) (v := (.pointer (some ⟨q, po, none⟩))) rfl (by kernel_rfl) (by kernel_rfl) (by kernel_rfl) (fun _ _ _ h => h) (Or.inl ⟨by rfl, fun wx hSw => ?_⟩) (by assumption) ?_
    · go_simp
    change wpAnyH _ _ _ _ _ _ _ (Act.put _ (some 35) (.pointer (some ⟨q, po, none⟩))) _
    simp only [Act.put, List.setIfInBounds_toArray, List.set_cons_zero, List.set_cons_succ]
    refine wpAnyH_take (i := 18) (v := (.pointer (some ⟨q, po + 3, none⟩))) rfl (by kernel_rfl) (by kernel_rfl) (by kernel_rfl) (fun _ _ _ h => h) (Or.inl ⟨by rfl, fun wx hSw => ?_⟩) (by assumption) ?_
    · go_simp
    change wpAnyH _ _ _ _ _ _ _ (Act.put _ (some 36) (.pointer (some ⟨q, po + 3, none⟩))) _
    simp only [Act.put, List.setIfInBounds_toArray, List.set_cons_zero, List.set_cons_succ]
    refine wpAnyH_take (i := 20) (v := (.pointer (some ⟨q, po, none⟩))) rfl (by kernel_rfl) (by kernel_rfl) (by kernel_rfl) (fun _ _ _ h => h) (Or.inl ⟨by rfl, fun wx hSw => ?_⟩) (by assumption) ?_
    · go_simp
    change wpAnyH _ _ _ _ _ _ _ (Act.put _ (some 38) (.pointer (some ⟨q, po, none⟩))) _
    simp only [Act.put, List.setIfInBounds_toArray, List.set_cons_zero, List.set_cons_succ]
    refine wpAnyH_take (i := 21) (v := (.pointer (some ⟨q, po, none⟩))) rfl (by kernel_rfl) (by kernel_rfl) (by kernel_rfl) (fun _ _ _ h => h) (Or.inl ⟨by rfl, fun wx hSw => ?_⟩) (by assumption) ?_
    · go_simp
    change wpAnyH _ _ _ _ _ _ _ (Act.put _ (some 39) (.pointer (some ⟨q, po, none⟩))) _
    simp only [Act.put, List.setIfInBounds_toArray, List.set_cons_zero, List.set_cons_succ]
    refine wpAnyH_take (i := 22) (v := (.pointer (some ⟨q, po + 4, none⟩))) rfl (by kernel_rfl) (by kernel_rfl) (by kernel_rfl) (fun _ _ _ h => h) (Or.inl ⟨by rfl, fun wx hSw => ?_⟩) (by assumption) ?_
    · go_simp
    change wpAnyH _ _ _ _ _ _ _ (Act.put _ (some 40) (.pointer (some ⟨q, po + 4, none⟩))) _
    simp only [Act.put, List.setIfInBounds_toArray, List.set_cons_zero, List.set_cons_succ]
    refine wpAnyH_take (i := 23) (v := (.func (.func 67) #[] #[.pointer (some ⟨w.heap.size, 0, none⟩)])) rfl (by kernel_rfl) (by kernel_rfl) (by kernel_rfl) (fun _ _ _ h => h) (Or.inl ⟨by rfl, fun wx hSw => ?_⟩) (by assumption) ?_
    · go_simp
    change wpAnyH _ _ _ _ _ _ _ (Act.put _ (some 41) (.func (.func 67) #[] #[.pointer (some ⟨w.heap.size, 0, none⟩)])) _
    simp only [Act.put, List.setIfInBounds_toArray, List.set_cons_zero, List.set_cons_succ]
    have hB0 : Below W.heap.size W W.drew := Below.drew (Below.refl _ _)
    refine wpAnyH_ready (rs := [19]) (by kernel_rfl) (by simp) (AllReadyH.cons rfl (fun K hK => ?_) AllReadyH.nil)
    go_simp
    refine (HN.out _ hB0).mono ?_
    rintro e w1 ⟨u, rfl, b1, hu1⟩
    have h51 := (b1.cell (p := ⟨w.heap.size, 0, none⟩) (by show w.heap.size < W.drew.heap.size; simp; omega)).trans Hh5.out
    have hB1 := hB0.trans (b1.mono hB0.size)
    refine hK.out _ _ h51 (fun hHeldA => ?_)
    clear hK K hHeld
    have hHeld := hHeldA
    refine wpAnyH_ready (rs := [24]) (by kernel_rfl) (by simp) (AllReadyH.cons rfl (fun K hK => ?_) AllReadyH.nil)
    go_simp
    refine (HU.out _ hB1).mono ?_
    rintro e w2 ⟨c2, rfl, b2, d1, d2, d3⟩
    have h52 := (b2.cell (p := ⟨w.heap.size, 0, none⟩) (by show w.heap.size < w1.heap.size; have := hB1.size; omega)).trans h51
    have hB2 := hB1.trans (b2.mono hB1.size)
    have HB2 : Below w.heap.size w w2 := HB5.out.trans (hB2.mono HB5.out.size)
    have hu2 := hu1.keep b2
    have hs2 := hB2.size
    refine hK.out _ _ h52 (fun hHeldB => ?_)
    have hd1 : w.heap.size ≤ c2 := Nat.le_trans HB5.out.size (Nat.le_trans hB1.size d1)
    clear hK K hHeld hHeldA h51 hB1 b1 b2 hu1 hB2 d1
    have hHeld := hHeldB
    clear hHeldB
    refine wpAnyH_ready (rs := [25]) (by kernel_rfl) (by simp) (AllReadyH.cons rfl (fun K hK => ?_) AllReadyH.nil)
    go_simp
    have b3 : Below w2.heap.size w2 (w2.alloc (.cells #[.iface 103 (.agg #[.pointer (some ⟨q, po, none⟩), .int .u64 ((0 : Nat) : Int)]), .iface 97 (.agg #[.pointer (some ⟨q, po + 1, none⟩)]), .iface 97 (.agg #[.pointer (some ⟨q, po + 2, none⟩)]), .iface 106 u, .iface 106 (.agg #[.int .i64 ((0 : Nat) : Int), .func (.func 67) #[] #[.pointer (some ⟨w.heap.size, 0, none⟩)], .func (.func 78) #[] #[.pointer (some ⟨c2, 0, none⟩)]])] 78)) := Below.alloc (Below.refl _ _) (Nat.le_refl _) _
    have hg3 := heap_alloc_new w2 (.cells #[.iface 103 (.agg #[.pointer (some ⟨q, po, none⟩), .int .u64 ((0 : Nat) : Int)]), .iface 97 (.agg #[.pointer (some ⟨q, po + 1, none⟩)]), .iface 97 (.agg #[.pointer (some ⟨q, po + 2, none⟩)]), .iface 106 u, .iface 106 (.agg #[.int .i64 ((0 : Nat) : Int), .func (.func 67) #[] #[.pointer (some ⟨w.heap.size, 0, none⟩)], .func (.func 78) #[] #[.pointer (some ⟨c2, 0, none⟩)]])] 78 (0, 0))
    have hx5 := (b3.cell (p := ⟨w.heap.size, 0, none⟩) (by show w.heap.size < w2.heap.size; omega)).trans h52
    refine hK.out _ _ hx5 (fun hHeld25 => ?_)
    clear hK K hHeld
    have hHeld := hHeld25
    generalize w2.alloc (.cells #[.iface 103 (.agg #[.pointer (some ⟨q, po, none⟩), .int .u64 ((0 : Nat) : Int)]), .iface 97 (.agg #[.pointer (some ⟨q, po + 1, none⟩)]), .iface 97 (.agg #[.pointer (some ⟨q, po + 2, none⟩)]), .iface 106 u, .iface 106 (.agg #[.int .i64 ((0 : Nat) : Int), .func (.func 67) #[] #[.pointer (some ⟨w.heap.size, 0, none⟩)], .func (.func 78) #[] #[.pointer (some ⟨c2, 0, none⟩)]])] 78) = w3 at *
    refine wpAnyH_take (i := 26) (v := (.iface 108 (.slice (some ⟨w2.heap.size, 0, none⟩) 5 5))) rfl (by kernel_rfl) (by kernel_rfl) (by kernel_rfl) (fun _ _ _ h => h) (Or.inl ⟨by rfl, fun wx hSw => ?_⟩) (by assumption) ?_
    · go_simp
    change wpAnyH _ _ _ _ _ _ _ (Act.put _ (some 44) (.iface 108 (.slice (some ⟨w2.heap.size, 0, none⟩) 5 5))) _
    simp only [Act.put, List.setIfInBounds_toArray, List.set_cons_zero, List.set_cons_succ]
    refine wpAnyH_take (i := 27) (v := (.iface 108 (.slice (some ⟨w2.heap.size, 0, none⟩) 5 5))) rfl (by kernel_rfl) (by kernel_rfl) (by kernel_rfl) (fun _ _ _ h => h) (Or.inl ⟨by rfl, fun wx hSw => ?_⟩) (by assumption) ?_
    · go_simp
    change wpAnyH _ _ _ _ _ _ _ (Act.put _ (some 4) (.iface 108 (.slice (some ⟨w2.heap.size, 0, none⟩) 5 5))) _
    simp only [Act.put, List.setIfInBounds_toArray, List.set_cons_zero, List.set_cons_succ]
    refine wpAnyH_done (by kernel_rfl) ?_ _
    have HF : Hid (Below w.heap.size w w3 ∧ Obp w.heap.size w3 q po 0 (w2.heap.size) (.iface 106 u) w.heap.size c2) := by
      have hB3 := HB2.trans (b3.mono HB2.size)
      have hs3 := b3.size
      exact ⟨hB3, ⟨HB2.size, hg3, hu2.keep b3, Nat.le_refl _, by omega, hx5, hd1, by omega, (b3.cell (p := ⟨c2, 0, none⟩) d2).trans d3⟩⟩
    clear hx5 hHeld hHeld25 hg3 b3 h52 hu2 HB2 d2 d3 hd1
    go_wp2
    go_ret
    have e9 : off = po := by have := Hpo.out; omega
    exact ⟨HF.out.1, _, rfl, _, _, _, by rw [e9]; exact HF.out.2⟩
  · obtain ⟨k, rfl⟩ : ∃ k, i = k + 1 := ⟨i - 1, by omega⟩
    have hcy : W.cell? ⟨q, off + k * 5, none⟩ = some (.int .u64 (last : Int)) := (HB5.out.cell (p := ⟨q, off + k * 5, none⟩) hq).trans (hl' k rfl)
    have hkI : ((k + 1 : Nat) : Int) - 1 = (k : Int) := by omega
    have hkp : ((k + 1 : Nat) : Int) > 0 := by omega
    go_upto_region 5 with fail
    clear hcy hkI hkp
    refine wp_region_held_drew (S := (fun w' => w'.cell? ⟨w.heap.size, 0, none⟩ = some (.pointer (some ⟨q, po, none⟩)))) Kg.mixed Hh5.out (fun hHeld => ?_)
    refine wpAnyH_take (i := 0) (v := (.pointer (some ⟨q, po, none⟩))) rfl (by kernel_rfl) (by kernel_rfl) (by kernel_rfl) (fun _ _ _ h => h) (Or.inl ⟨by rfl, fun wx hSw => ?_⟩) (by assumption) ?_
    · go_simp
    change wpAnyH _ _ _ _ _ _ _ (Act.put _ (some 18) (.pointer (some ⟨q, po, none⟩))) _
    simp only [Act.put, List.setIfInBounds_toArray, List.set_cons_zero, List.set_cons_succ]
    refine wpAnyH_take (i := 1) (v := (.pointer (some ⟨q, po, none⟩))) rfl (by kernel_rfl) (by kernel_rfl) (by kernel_rfl) (fun _ _ _ h => h) (Or.inl ⟨by rfl, fun wx hSw => ?_⟩) (by assumption) ?_
    · go_simp
    change wpAnyH _ _ _ _ _ _ _ (Act.put _ (some 19) (.pointer (some ⟨q, po, none⟩))) _
    simp only [Act.put, List.setIfInBounds_toArray, List.set_cons_zero, List.set_cons_succ]
    refine wpAnyH_take (i := 2) (v := (.pointer (some ⟨q, po, none⟩))) rfl (by kernel_rfl) (by kernel_rfl) (by kernel_rfl) (fun _ _ _ h => h) (Or.inl ⟨by rfl, fun wx hSw => ?_⟩) (by assumption) ?_
    · go_simp
    change wpAnyH _ _ _ _ _ _ _ (Act.put _ (some 20) (.pointer (some ⟨q, po, none⟩))) _
    simp only [Act.put, List.setIfInBounds_toArray, List.set_cons_zero, List.set_cons_succ]
    refine wpAnyH_take (i := 3) (v := (.int .u64 (last : Int))) rfl (by kernel_rfl) (by kernel_rfl) (by kernel_rfl) (fun _ _ _ h => h) (Or.inl ⟨by rfl, fun wx hSw => ?_⟩) (by assumption) ?_
    · go_simp
    change wpAnyH _ _ _ _ _ _ _ (Act.put _ (some 21) (.int .u64 (last : Int))) _
    simp only [Act.put, List.setIfInBounds_toArray, List.set_cons_zero, List.set_cons_succ]
    refine wpAnyH_take (i := 4) (v := (.agg #[.pointer (some ⟨q, po, none⟩), .int .u64 (last : Int)])) rfl (by kernel_rfl) (by kernel_rfl) (by kernel_rfl) (fun _ _ _ h => h) (Or.inl ⟨by rfl, fun wx hSw => ?_⟩) (by assumption) ?_
    · go_simp
    change wpAnyH _ _ _ _ _ _ _ (Act.put _ (some 22) (.agg #[.pointer (some ⟨q, po, none⟩), .int .u64 (last : Int)])) _
    simp only [Act.put, List.setIfInBounds_toArray, List.set_cons_zero, List.set_cons_succ]
    refine wpAnyH_take (i := 5) (v := (.iface 103 (.agg #[.pointer (some ⟨q, po, none⟩), .int .u64 (last : Int)]))) rfl (by kernel_rfl) (by kernel_rfl) (by kernel_rfl) (fun _ _ _ h => h) (Or.inl ⟨by rfl, fun wx hSw => ?_⟩) (by assumption) ?_
    · go_simp
    change wpAnyH _ _ _ _ _ _ _ (Act.put _ (some 23) (.iface 103 (.agg #[.pointer (some ⟨q, po, none⟩), .int .u64 (last : Int)]))) _
    simp only [Act.put, List.setIfInBounds_toArray, List.set_cons_zero, List.set_cons_succ]
    refine wpAnyH_take (i := 6) (v := (.pointer (some ⟨q, po, none⟩))) rfl (by kernel_rfl) (by kernel_rfl) (by kernel_rfl) (fun _ _ _ h => h) (Or.inl ⟨by rfl, fun wx hSw => ?_⟩) (by assumption) ?_
    · go_simp
    change wpAnyH _ _ _ _ _ _ _ (Act.put _ (some 24) (.pointer (some ⟨q, po, none⟩))) _
    simp only [Act.put, List.setIfInBounds_toArray, List.set_cons_zero, List.set_cons_succ]
    refine wpAnyH_take (i := 7) (v := (.pointer (some ⟨q, po, none⟩))) rfl (by kernel_rfl) (by kernel_rfl) (by kernel_rfl) (fun _ _ _ h => h) (Or.inl ⟨by rfl, fun wx hSw => ?_⟩) (by assumption) ?_
    · go_simp
    change wpAnyH _ _ _ _ _ _ _ (Act.put _ (some 25) (.pointer (some ⟨q, po, none⟩))) _
    simp only [Act.put, List.setIfInBounds_toArray, List.set_cons_zero, List.set_cons_succ]
    refine wpAnyH_take (i := 8) (v := (.pointer (some ⟨q, po + 1, none⟩))) rfl (by kernel_rfl) (by kernel_rfl) (by kernel_rfl) (fun _ _ _ h => h) (Or.inl ⟨by rfl, fun wx hSw => ?_⟩) (by assumption) ?_
    · go_simp
    change wpAnyH _ _ _ _ _ _ _ (Act.put _ (some 26) (.pointer (some ⟨q, po + 1, none⟩))) _
    simp only [Act.put, List.setIfInBounds_toArray, List.set_cons_zero, List.set_cons_succ]
    refine wpAnyH_take (i := 9) (v := (.agg #[.pointer (some ⟨q, po + 1, none⟩)])) rfl (by kernel_rfl) (by kernel_rfl) (by kernel_rfl) (fun _ _ _ h => h) (Or.inl ⟨by rfl, fun wx hSw => ?_⟩) (by assumption) ?_
    · go_simp
    change wpAnyH _ _ _ _ _ _ _ (Act.put _ (some 27) (.agg #[.pointer (some ⟨q, po + 1, none⟩)])) _
    simp only [Act.put, List.setIfInBounds_toArray, List.set_cons_zero, List.set_cons_succ]
    refine wpAnyH_take (i := 10) (v := (.iface 97 (.agg #[.pointer (some ⟨q, po + 1, none⟩)]))) rfl (by kernel_rfl) (by kernel_rfl) (by kernel_rfl) (fun _ _ _ h => h) (Or.inl ⟨by rfl, fun wx hSw => ?_⟩) (by assumption) ?_
    · go_simp
    change wpAnyH _ _ _ _ _ _ _ (Act.put _ (some 28) (.iface 97 (.agg #[.pointer (some ⟨q, po + 1, none⟩)]))) _
    simp only [Act.put, List.setIfInBounds_toArray, List.set_cons_zero, List.set_cons_succ]
    refine wpAnyH_take (i := 11) (v := (.pointer (some ⟨q, po, none⟩))) rfl (by kernel_rfl) (by kernel_rfl) (by kernel_rfl) (fun _ _ _ h => h) (Or.inl ⟨by rfl, fun wx hSw => ?_⟩) (by assumption) ?_
    · go_simp
    change wpAnyH _ _ _ _ _ _ _ (Act.put _ (some 29) (.pointer (some ⟨q, po, none⟩))) _
    simp only [Act.put, List.setIfInBounds_toArray, List.set_cons_zero, List.set_cons_succ]
    refine wpAnyH_take (i := 12) (v := (.pointer (some ⟨q, po, none⟩))) rfl (by kernel_rfl) (by kernel_rfl) (by kernel_rfl) (fun _ _ _ h => h) (Or.inl ⟨by rfl, fun wx hSw => ?_⟩) (by assumption) ?_
    · go_simp
    change wpAnyH _ _ _ _ _ _ _ (Act.put _ (some 30) (.pointer (some ⟨q, po, none⟩))) _
    simp only [Act.put, List.setIfInBounds_toArray, List.set_cons_zero, List.set_cons_succ]
    refine wpAnyH_take (i := 13) (v := (.pointer (some ⟨q, po + 2, none⟩))) rfl (by kernel_rfl) (by kernel_rfl) (by kernel_rfl) (fun _ _ _ h => h) (Or.inl ⟨by rfl, fun wx hSw => ?_⟩) (by assumption) ?_
    · go_simp
    change wpAnyH _ _ _ _ _ _ _ (Act.put _ (some 31) (.pointer (some ⟨q, po + 2, none⟩))) _
    simp only [Act.put, List.setIfInBounds_toArray, List.set_cons_zero, List.set_cons_succ]
    refine wpAnyH_take (i := 14) (v := (.agg #[.pointer (some ⟨q, po + 2, none⟩)])) rfl (by kernel_rfl) (by kernel_rfl) (by kernel_rfl) (fun _ _ _ h => h) (Or.inl ⟨by rfl, fun wx hSw => ?_⟩) (by assumption) ?_
    · go_simp
    change wpAnyH _ _ _ _ _ _ _ (Act.put _ (some 32) (.agg #[.pointer (some ⟨q, po + 2, none⟩)])) _
    simp only [Act.put, List.setIfInBounds_toArray, List.set_cons_zero, List.set_cons_succ]
    refine wpAnyH_take (i := 15) (v := (.iface 97 (.agg #[.pointer (some ⟨q, po + 2, none⟩)]))) rfl (by kernel_rfl) (by kernel_rfl) (by kernel_rfl) (fun _ _ _ h => h) (Or.inl ⟨by rfl, fun wx hSw => ?_⟩) (by assumption) ?_
    · go_simp
    change wpAnyH _ _ _ _ _ _ _ (Act.put _ (some 33) (.iface 97 (.agg #[.pointer (some ⟨q, po + 2, none⟩)]))) _
    simp only [Act.put, List.setIfInBounds_toArray, List.set_cons_zero, List.set_cons_succ]
    refine wpAnyH_take (i := 16) (v := (.pointer (some ⟨q, po, none⟩))) rfl (by kernel_rfl) (by kernel_rfl) (by kernel_rfl) (fun _ _ _ h => h) (Or.inl ⟨by rfl, fun wx hSw => ?_⟩) (by assumption) ?_
    · go_simp
    change wpAnyH _ _ _ _ _ _ _ (Act.put _ (some 34) (.pointer (some ⟨q, po, none⟩))) _
    simp only [Act.put, List.setIfInBounds_toArray, List.set_cons_zero, List.set_cons_succ]
    refine wpAnyH_take (i := 17) (v := (.pointer (some ⟨q, po, none⟩))) rfl (by kernel_rfl) (by kernel_rfl) (by kernel_rfl) (fun _ _ _ h => h) (Or.inl ⟨by rfl, fun wx hSw => ?_⟩) (by assumption) ?_
    · go_simp
    change wpAnyH _ _ _ _ _ _ _ (Act.put _ (some 35) (.pointer (some ⟨q, po, none⟩))) _
    simp only [Act.put, List.setIfInBounds_toArray, List.set_cons_zero, List.set_cons_succ]
    refine wpAnyH_take (i := 18) (v := (.pointer (some ⟨q, po + 3, none⟩))) rfl (by kernel_rfl) (by kernel_rfl) (by kernel_rfl) (fun _ _ _ h => h) (Or.inl ⟨by rfl, fun wx hSw => ?_⟩) (by assumption) ?_
    · go_simp
    change wpAnyH _ _ _ _ _ _ _ (Act.put _ (some 36) (.pointer (some ⟨q, po + 3, none⟩))) _
    simp only [Act.put, List.setIfInBounds_toArray, List.set_cons_zero, List.set_cons_succ]
    refine wpAnyH_take (i := 20) (v := (.pointer (some ⟨q, po, none⟩))) rfl (by kernel_rfl) (by kernel_rfl) (by kernel_rfl) (fun _ _ _ h => h) (Or.inl ⟨by rfl, fun wx hSw => ?_⟩) (by assumption) ?_
    · go_simp
    change wpAnyH _ _ _ _ _ _ _ (Act.put _ (some 38) (.pointer (some ⟨q, po, none⟩))) _
    simp only [Act.put, List.setIfInBounds_toArray, List.set_cons_zero, List.set_cons_succ]
    refine wpAnyH_take (i := 21) (v := (.pointer (some ⟨q, po, none⟩))) rfl (by kernel_rfl) (by kernel_rfl) (by kernel_rfl) (fun _ _ _ h => h) (Or.inl ⟨by rfl, fun wx hSw => ?_⟩) (by assumption) ?_
    · go_simp
    change wpAnyH _ _ _ _ _ _ _ (Act.put _ (some 39) (.pointer (some ⟨q, po, none⟩))) _
    simp only [Act.put, List.setIfInBounds_toArray, List.set_cons_zero, List.set_cons_succ]
    refine wpAnyH_take (i := 22) (v := (.pointer (some ⟨q, po + 4, none⟩))) rfl (by kernel_rfl) (by kernel_rfl) (by kernel_rfl) (fun _ _ _ h => h) (Or.inl ⟨by rfl, fun wx hSw => ?_⟩) (by assumption) ?_
    · go_simp
    change wpAnyH _ _ _ _ _ _ _ (Act.put _ (some 40) (.pointer (some ⟨q, po + 4, none⟩))) _
    simp only [Act.put, List.setIfInBounds_toArray, List.set_cons_zero, List.set_cons_succ]
    refine wpAnyH_take (i := 23) (v := (.func (.func 67) #[] #[.pointer (some ⟨w.heap.size, 0, none⟩)])) rfl (by kernel_rfl) (by kernel_rfl) (by kernel_rfl) (fun _ _ _ h => h) (Or.inl ⟨by rfl, fun wx hSw => ?_⟩) (by assumption) ?_
    · go_simp
    change wpAnyH _ _ _ _ _ _ _ (Act.put _ (some 41) (.func (.func 67) #[] #[.pointer (some ⟨w.heap.size, 0, none⟩)])) _
    simp only [Act.put, List.setIfInBounds_toArray, List.set_cons_zero, List.set_cons_succ]
    have hB0 : Below W.heap.size W W.drew := Below.drew (Below.refl _ _)
    refine wpAnyH_ready (rs := [19]) (by kernel_rfl) (by simp) (AllReadyH.cons rfl (fun K hK => ?_) AllReadyH.nil)
    go_simp
    refine (HN.out _ hB0).mono ?_
    rintro e w1 ⟨u, rfl, b1, hu1⟩
    have h51 := (b1.cell (p := ⟨w.heap.size, 0, none⟩) (by show w.heap.size < W.drew.heap.size; simp; omega)).trans Hh5.out
    have hB1 := hB0.trans (b1.mono hB0.size)
    refine hK.out _ _ h51 (fun hHeldA => ?_)
    clear hK K hHeld
    have hHeld := hHeldA
    refine wpAnyH_ready (rs := [24]) (by kernel_rfl) (by simp) (AllReadyH.cons rfl (fun K hK => ?_) AllReadyH.nil)
    go_simp
    refine (HU.out _ hB1).mono ?_
    rintro e w2 ⟨c2, rfl, b2, d1, d2, d3⟩
    have h52 := (b2.cell (p := ⟨w.heap.size, 0, none⟩) (by show w.heap.size < w1.heap.size; have := hB1.size; omega)).trans h51
    have hB2 := hB1.trans (b2.mono hB1.size)
    have HB2 : Below w.heap.size w w2 := HB5.out.trans (hB2.mono HB5.out.size)
    have hu2 := hu1.keep b2
    have hs2 := hB2.size
    refine hK.out _ _ h52 (fun hHeldB => ?_)
    have hd1 : w.heap.size ≤ c2 := Nat.le_trans HB5.out.size (Nat.le_trans hB1.size d1)
    clear hK K hHeld hHeldA h51 hB1 b1 b2 hu1 hB2 d1
    have hHeld := hHeldB
    clear hHeldB
    refine wpAnyH_ready (rs := [25]) (by kernel_rfl) (by simp) (AllReadyH.cons rfl (fun K hK => ?_) AllReadyH.nil)
    go_simp
    have b3 : Below w2.heap.size w2 (w2.alloc (.cells #[.iface 103 (.agg #[.pointer (some ⟨q, po, none⟩), .int .u64 (last : Int)]), .iface 97 (.agg #[.pointer (some ⟨q, po + 1, none⟩)]), .iface 97 (.agg #[.pointer (some ⟨q, po + 2, none⟩)]), .iface 106 u, .iface 106 (.agg #[.int .i64 ((0 : Nat) : Int), .func (.func 67) #[] #[.pointer (some ⟨w.heap.size, 0, none⟩)], .func (.func 78) #[] #[.pointer (some ⟨c2, 0, none⟩)]])] 78)) := Below.alloc (Below.refl _ _) (Nat.le_refl _) _
    have hg3 := heap_alloc_new w2 (.cells #[.iface 103 (.agg #[.pointer (some ⟨q, po, none⟩), .int .u64 (last : Int)]), .iface 97 (.agg #[.pointer (some ⟨q, po + 1, none⟩)]), .iface 97 (.agg #[.pointer (some ⟨q, po + 2, none⟩)]), .iface 106 u, .iface 106 (.agg #[.int .i64 ((0 : Nat) : Int), .func (.func 67) #[] #[.pointer (some ⟨w.heap.size, 0, none⟩)], .func (.func 78) #[] #[.pointer (some ⟨c2, 0, none⟩)]])] 78 (0, 0))
    have hx5 := (b3.cell (p := ⟨w.heap.size, 0, none⟩) (by show w.heap.size < w2.heap.size; omega)).trans h52
    refine hK.out _ _ hx5 (fun hHeld25 => ?_)
    clear hK K hHeld
    have hHeld := hHeld25
    generalize w2.alloc (.cells #[.iface 103 (.agg #[.pointer (some ⟨q, po, none⟩), .int .u64 (last : Int)]), .iface 97 (.agg #[.pointer (some ⟨q, po + 1, none⟩)]), .iface 97 (.agg #[.pointer (some ⟨q, po + 2, none⟩)]), .iface 106 u, .iface 106 (.agg #[.int .i64 ((0 : Nat) : Int), .func (.func 67) #[] #[.pointer (some ⟨w.heap.size, 0, none⟩)], .func (.func 78) #[] #[.pointer (some ⟨c2, 0, none⟩)]])] 78) = w3 at *
    refine wpAnyH_take (i := 26) (v := (.iface 108 (.slice (some ⟨w2.heap.size, 0, none⟩) 5 5))) rfl (by kernel_rfl) (by kernel_rfl) (by kernel_rfl) (fun _ _ _ h => h) (Or.inl ⟨by rfl, fun wx hSw => ?_⟩) (by assumption) ?_
    · go_simp
    change wpAnyH _ _ _ _ _ _ _ (Act.put _ (some 44) (.iface 108 (.slice (some ⟨w2.heap.size, 0, none⟩) 5 5))) _
    simp only [Act.put, List.setIfInBounds_toArray, List.set_cons_zero, List.set_cons_succ]
    refine wpAnyH_take (i := 27) (v := (.iface 108 (.slice (some ⟨w2.heap.size, 0, none⟩) 5 5))) rfl (by kernel_rfl) (by kernel_rfl) (by kernel_rfl) (fun _ _ _ h => h) (Or.inl ⟨by rfl, fun wx hSw => ?_⟩) (by assumption) ?_
    · go_simp
    change wpAnyH _ _ _ _ _ _ _ (Act.put _ (some 4) (.iface 108 (.slice (some ⟨w2.heap.size, 0, none⟩) 5 5))) _
    simp only [Act.put, List.setIfInBounds_toArray, List.set_cons_zero, List.set_cons_succ]
    refine wpAnyH_done (by kernel_rfl) ?_ _
    have HF : Hid (Below w.heap.size w w3 ∧ Obp w.heap.size w3 q po last (w2.heap.size) (.iface 106 u) w.heap.size c2) := by
      have hB3 := HB2.trans (b3.mono HB2.size)
      have hs3 := b3.size
      exact ⟨hB3, ⟨HB2.size, hg3, hu2.keep b3, Nat.le_refl _, by omega, hx5, hd1, by omega, (b3.cell (p := ⟨c2, 0, none⟩) d2).trans d3⟩⟩
    clear hx5 hHeld hHeld25 hg3 b3 h52 hu2 HB2 d2 d3 hd1
    go_wp2
    go_ret
    exact ⟨HF.out.1, _, rfl, _, _, _, by rw [Hpo.out]; exact HF.out.2⟩

end Go.Proofs.YtblbiikfipcbcaaGreatDoor
