/-
  A range over an iterator whose round boxes a variable first.
-/
import Derived.Test.YtpiemfchjlihfaaGreatDoorRng
set_option linter.unusedVariables false
namespace Go.Proofs.YtpiemfchjlihfaaGreatDoor
open Go.RowKit Go.Shelf

theorem range_fullA {α : Type} {P : Program} {n : Nat} {g : Operand} {ps : Array Tmp} {assign body : Code} {Q : Exit → Act → World → Prop} {a : Act} {w w0 : World} {gf n0 : Nat} {lb : Array Value} {encs : α → Array Value} {xs : List α} {S0 Own : Nat → Prop}
    (hg : a.eval g = .func (.func gf) #[] lb) (eg : ∀ args w, (callFunc gf args).run P w = .ok (.enter gf args) w) (hseq : SeqFull P gf lb encs xs n0 Own w0) (hOwn : ∀ k, Own k → S0 k) (hb0 : Below w0.heap.size w0 w) (hn0 : n0 ≤ w.heap.size) (hps : ∀ x, (encs x).size = ps.size)
    (I : (Nat → Prop) → List α → World → Prop) (hI : OwnS w.heap.size I) (h0 : I S0 [] w) (a1 : α → Nat → Act) (obj : α → Obj) (hImono : ∀ S S' pre W, I S' pre W → (∀ k, S k → S' k) → I S pre W) (hIlt : ∀ S pre W, I S pre W → ∀ k, S k → k < W.heap.size)
    (hassign : ∀ (l : Nat) (x : α) (W : World) (K : Act → World → Prop) (m : Nat), K (a1 x W.heap.size) (W.alloc (obj x)) →
      assign.wpIn (Fence.wide.inRound l) m P (Exit.then K (fun _ _ _ => False)) { tmps := (ps.zip (encs x)).foldl (fun t (p, v) => t.setIfInBounds p v) a.tmps, defers := [] } W)
    (hbody : ∀ (l : Nat) (S : Nat → Prop) (pre : List α) (x : α) (H : Nat) (W : World) (m : Nat), I S pre W → pre ++ [x] <+: xs → W.heap[H]? = some (obj x) → body.wpIn (Fence.wide.inRound l) m P (goesOn n0 I S (pre ++ [x]) W) (a1 x H) W)
    (hdone : ∀ (D : Nat) (S : Nat → Prop) (W : World), w.heap.size ≤ D → I S xs W → W.heap[D]? = some (.deferred (some [])) → Q .normal { a with defers := { target := .collected D, args := #[] } :: a.defers } W) :
    (Code.rangeFunc g ps assign body).wpIn Fence.wide n P Q a w := by
  refine wpIn_rangeFunc ?_
  intro fn hfn
  obtain ⟨lp, hlp⟩ : ∃ lp : LoopState → Loop, lp = fun st => { state := st, pending := none, fn, tmps := a.tmps, params := ps, assign, body, defers := w.heap.size } := ⟨_, rfl⟩
  obtain ⟨W1, hW1⟩ : ∃ W1, W1 = (w.alloc (.deferred (some []))).alloc (.loop (lp .ready)) := ⟨_, rfl⟩
  have hL1 : W1.heap[w.heap.size + 1]? = some (.loop (lp .ready)) := by
    have := World.alloc_heap_new (w.alloc (.deferred (some []))) (.loop (lp .ready))
    rw [World.size_alloc] at this; rw [hW1]; exact this
  have hK1 : W1.heap[w.heap.size]? = some (.deferred (some [])) := by
    rw [hW1]; exact (Below.heap_alloc _ _ _ (by simp)).trans (World.alloc_heap_new w _)
  have hsz : W1.heap.size = w.heap.size + 2 := by rw [hW1]; simp
  have hI1 : ∃ S1 : Nat → Prop, I S1 [] W1 ∧ S1 w.heap.size ∧ S1 (w.heap.size + 1) ∧ (∀ k, S0 k → S1 k) := by
    rw [hW1]; exact ⟨_, hI.alloc (hI.alloc h0 _) _, .inl (.inr ⟨Nat.le_refl _, by simp⟩), .inr ⟨by simp, by simp⟩, fun k h => .inl (.inl h)⟩
  obtain ⟨S1, hI1, hd1, he1, hs1⟩ := hI1
  have hb1 : Below w0.heap.size w0 W1 := by
    rw [hW1]; exact (hb0.alloc hb0.size _).alloc (by have := hb0.size; simp; omega) _
  refine ⟨w.heap.size + 1, [{ target := .collected w.heap.size, args := #[] }], W1, { target := .fn (.func gf) lb, args := #[.func (.yield (w.heap.size + 1)) #[] #[]] }, W1, gf,
    #[.func (.yield (w.heap.size + 1)) #[] #[]] ++ lb, W1, ?_, ?_, ?_, ?_, ?_, ?_⟩
  · rw [hW1, hlp]; exact run_enterLoop_outer _ _ _ _ _
  · simp only [resolve, hg]
    simp [go_sem]
  · intro _ _; trivial
  · simp [invoke, go_sem, eg]
  · intro h; cases h
  · -- the two blocks of book-keeping stand beside the caller's invariant
    refine (hseq _ (w.heap.size + 1) (fun S pre W => I S pre W ∧ (S w.heap.size ∧ S (w.heap.size + 1)) ∧ W.heap[w.heap.size + 1]? = some (.loop (lp .ready)) ∧ W.heap[w.heap.size]? = some (.deferred (some []))) W1 S1 hb1 (fun k h => hs1 k (hOwn k h)) ?_ ?_ ⟨hI1, ⟨hd1, he1⟩, hL1, hK1⟩).mono ?_
    · intro S s A B row hs hgr hr
      have hkeep : ∀ k o, k < W1.heap.size → A.heap[k]? = some o → B.heap[k]? = some o := fun k o hk ho =>
        (hgr.block k (Array.getElem?_eq_some_iff.1 ho).1 (fun e => by have := (hr k e.symm).1; omega)).trans ho
      exact ⟨hI S s A B row hs.1 hgr (fun r e => ⟨by have := (hr r e).1; omega, (hr r e).2⟩), ⟨.inl hs.2.1.1, .inl hs.2.1.2⟩, hkeep _ _ (by omega) hs.2.2.1, hkeep _ _ (by omega) hs.2.2.2⟩
    · rintro S pre x W ⟨hi, ⟨hSd, hSl⟩, hl, hk⟩ hpre m
      have hy := run_yield (P := P) (args := encs x) hl (by rw [hlp]; exact hps x)
      rw [hlp] at hy
      refine ⟨fn, _, assign, body, hy, roundIn_of_wpIn hfn (hassign _ x W _ _ ?_)⟩
      clear hy
      have hlt : w.heap.size + 1 < W.heap.size := (Array.getElem?_eq_some_iff.1 hl).1
      have hwl : w.heap.size < W.heap.size := by omega
      have hb0 : Below n0 W (W.alloc (obj x)) := Below.alloc (Below.refl _ _) (by omega) _
      have hi0 := hI.alloc hi (obj x)
      have hl0 : (W.alloc (obj x)).heap[w.heap.size + 1]? = some (.loop (lp .ready)) := (Below.heap_alloc _ _ _ hlt).trans hl
      have hk0 : (W.alloc (obj x)).heap[w.heap.size]? = some (.deferred (some [])) := (Below.heap_alloc _ _ _ hwl).trans hk
      have hH0 : (W.alloc (obj x)).heap[W.heap.size]? = some (obj x) := World.alloc_heap_new W (obj x)
      have hlt0 : w.heap.size + 1 < (W.alloc (obj x)).heap.size := (Array.getElem?_eq_some_iff.1 hl0).1
      have hol0 : ∀ k, k < W.heap.size → (W.alloc (obj x)).heap[k]? = W.heap[k]? := fun k hk => Below.heap_alloc _ _ _ hk
      have hSW := hIlt S pre W hi
      have hHl : W.heap.size ≠ w.heap.size + 1 := by omega
      obtain ⟨S', hS', hSS, hi0⟩ : ∃ S' : Nat → Prop, (∀ k, S' k → S k ∨ W.heap.size ≤ k) ∧ (∀ k, S k → S' k) ∧ I S' pre (W.alloc (obj x)) := ⟨_, fun k h => h.imp id And.left, fun k h => .inl h, hi0⟩
      generalize hW0 : W.alloc (obj x) = W0 at *
      refine ⟨_, run_beginRound hl0 (by rw [hlp]), ?_⟩
      have hl2 : (W0.putObj (w.heap.size + 1) (.loop { lp .ready with state := .busy })).heap[w.heap.size + 1]? = some (.loop { lp .ready with state := .busy }) := World.putObj_heap_same hlt0
      have hB2 : Below n0 W0 (W0.putObj (w.heap.size + 1) (.loop { lp .ready with state := .busy })) := belowK_b (w := w) hn0 _ _ _ _ (by omega) hl0 rfl rfl
      have ho2 : ∀ k, k ≠ w.heap.size + 1 → (W0.putObj (w.heap.size + 1) (.loop { lp .ready with state := .busy })).heap[k]? = W0.heap[k]? := fun k hk => World.putObj_heap_other hk
      refine wpIn_mono (hbody _ S' pre x W.heap.size _ _ (hI.putObj _ hi0 (by omega) hl0 rfl) hpre ((ho2 _ hHl).trans hH0)) ?_
      rintro e a3 W3 hp
      cases e with
      | normal =>
        obtain ⟨hk3, hb3, hi3⟩ := hp
        have hl3 := (hk3 _ (hSS _ hSl)).trans hl2
        have hr := run_endRound (P := P) none hl3
        have hst : { ({ lp .ready with state := .busy } : Loop) with state := if (none : Option Code).isNone then .ready else .done, pending := none } = lp .ready := by rw [hlp]; rfl
        rw [hst] at hr
        have hl4 : (W3.putObj (w.heap.size + 1) (.loop (lp .ready))).heap[w.heap.size + 1]? = some (.loop (lp .ready)) := World.putObj_heap_same (Array.getElem?_eq_some_iff.1 hl3).1
        refine ⟨_, _, hr, rfl, ⟨hI.putObj _ (hImono _ _ _ _ hi3 hSS) (by omega) hl3 rfl, ⟨hSd, hSl⟩, hl4, ?_⟩, ?_, hb0.trans ((hB2.trans hb3).trans (belowK_b (w := w) hn0 _ _ _ _ (by omega) hl3 rfl rfl))⟩
        · exact (World.putObj_heap_other (by omega)).trans ((hk3 _ (hSS _ hSd)).trans ((ho2 _ (by omega)).trans hk0))
        · intro k hSk
          by_cases hkl : k = w.heap.size + 1
          · subst hkl; rw [hl4, hl]
          · rw [World.putObj_heap_other hkl, hk3 k (hSS k hSk), ho2 k hkl, hol0 k (hSW k hSk)]
      | ret => exact hp.elim
      | exit id => exact hp.elim
      | goto t => exact hp.elim
      | panic ch => exact hp.elim
      | outgrown => exact hp.elim
    · rintro e W2 ⟨⟨v, rfl⟩, S, hi, -, hl, hk⟩
      have hr := run_endLoop (P := P) hl (by rw [hlp]; simp)
      refine ⟨_, _, hr, ?_⟩
      have := hdone w.heap.size S _ (Nat.le_refl _) (hI.putObj (.loop { lp .ready with state := .exhausted }) hi (by omega) hl rfl) ((World.putObj_heap_other (by omega)).trans hk)
      rw [hlp] at this ⊢
      exact this

end Go.Proofs.YtpiemfchjlihfaaGreatDoor
