/-
  Set, walked.
-/
import Derived.Test.YtlnfhnahnmblmabDoorM5
set_option linter.unusedVariables false
namespace Go.Proofs.YtlnfhnahnmblmabDoor
open Go.RowKit Go.Shelf

attribute [local go_sem] Oper.semAt_some

set_option maxRecDepth 100000 in
set_option maxHeartbeats 4000000 in
theorem set_out (b g n : Nat) (M : Nat → Bool) (fr ct : Int) (hfr : fr ≤ 9223372036854775807) (hc : fr < 0 ∨ ct < 0 ∨ (n : Int) - fr < ct) (w : World) (hM : Mp w b g n M) :
    Calls Tryd.prog 14 #[.pointer (some ⟨b, 0, none⟩), .int .i64 fr, .int .i64 ct] w fun r w' => r = .returned (.tuple #[.bool false, .int .i64 41]) ∧ Below w.heap.size w w' := by
  have hn := hM.le
  have hM1 := hM.below (Below.alloc (Below.refl _ _) (Nat.le_refl _) (.cells #[.pointer (some ⟨b, 0, none⟩)] 31))
  have k0 := hM1.c0
  clear hM1 hM
  by_cases h1 : fr < 0
  · clear hc
    go_enter Tryd.func14, Tryd.ntmps14
    go_wp2
    go_ret2
    exact ⟨rfl, Below.alloc (Below.refl _ _) (Nat.le_refl _) _⟩
  · by_cases h2 : ct < 0
    · clear hc
      go_enter Tryd.func14, Tryd.ntmps14
      go_wp2
      go_ret2
      exact ⟨rfl, Below.alloc (Below.refl _ _) (Nat.le_refl _) _⟩
    · have h3 : (n : Int) - fr < ct := by omega
      clear hc
      go_enter Tryd.func14, Tryd.ntmps14
      go_wp2
      go_ret2
      exact ⟨rfl, Below.alloc (Below.refl _ _) (Nat.le_refl _) _⟩

set_option maxRecDepth 100000 in
set_option maxHeartbeats 8000000 in
theorem set_in (b g n : Nat) (M : Nat → Bool) (f ct : Nat) (hc : f + ct ≤ n) (w : World) (hM : Mp w b g n M) :
    Calls Tryd.prog 14 #[.pointer (some ⟨b, 0, none⟩), .int .i64 f, .int .i64 ct] w fun r w' => ∃ fs : Bool, (fs = true ↔ ∀ k, f ≤ k → k < f + ct → M k = false) ∧ r = .returned (.tuple #[.bool fs, .int .i64 0]) ∧ Mp w' b g n (add M f (f + ct)) ∧ Touch [g] w w' := by
  refine (callsIn_wide (n := 9)).1 ?_
  refine callsIn_of_wp_marks Tryd.func14 rfl trivial ?_ rfl
  simp only [Tryd.ntmps14, List.size_toArray, List.length_cons, List.length_nil, Nat.reduceAdd, Nat.reduceSub, Array.replicate_succ, Array.replicate_zero, List.push_toArray, List.append_toArray, List.nil_append, List.cons_append]
  have hn := hM.le
  have hM1 := hM.below (Below.alloc (Below.refl _ _) (Nat.le_refl _) (.cells #[.pointer (some ⟨b, 0, none⟩)] 31))
  have k0 := hM1.c0
  have HM : Hid (Mp w b g n M) := hM
  have hbl := hM.own.lt
  have hgl := hM.row.lt
  have h2 : ¬ ((n : Int) - f < ct) := by omega
  clear hM1 hM
  gi_wp2
  refine ⟨trivial, (callsIn_wide.2 (pieces_any _ _ _)).mono ?_⟩
  rintro r w1 ⟨rfl, rfl⟩
  clear k0
  gi_wp2
  obtain ⟨W0, hW0⟩ : ∃ W0, W0 = ((((w.alloc (.cells #[.pointer (some ⟨b, 0, none⟩)] 31)).alloc (.cells #[.bool true] 4)).alloc (.cells #[.int .i64 f] 3)).alloc (.cells #[.int .i64 ((f : Int) + ct)] 3)) := ⟨_, rfl⟩
  rw [← hW0]
  have hb0 : Below w.heap.size w W0 := by rw [hW0]; exact (((Below.alloc (Below.refl _ _) (Nat.le_refl _) _).alloc (by simp) _).alloc (by simp; omega) _).alloc (by simp; omega) _
  have hsz : W0.heap.size = w.heap.size + 4 := by rw [hW0]; simp
  have c0 : Boxed W0 w.heap.size 31 (.pointer (some ⟨b, 0, none⟩)) := by rw [hW0]; exact (((Boxed.new w 31 (.pointer (some ⟨b, 0, none⟩))).alloc _).alloc _).alloc _
  have c1 : Boxed W0 (w.heap.size + 1) 4 (.bool true) := by
    have := (((Boxed.new (w.alloc (.cells #[.pointer (some ⟨b, 0, none⟩)] 31)) 4 (.bool true)).alloc (.cells #[.int .i64 f] 3)).alloc (.cells #[.int .i64 ((f : Int) + ct)] 3))
    rw [← hW0, World.size_alloc] at this; exact this
  have c2 : Boxed W0 (w.heap.size + 1 + 1) 3 (.int .i64 f) := by
    have := ((Boxed.new ((w.alloc (.cells #[.pointer (some ⟨b, 0, none⟩)] 31)).alloc (.cells #[.bool true] 4)) 3 (.int .i64 f)).alloc (.cells #[.int .i64 ((f : Int) + ct)] 3))
    rw [← hW0, World.size_alloc, World.size_alloc] at this; exact this
  have c3 : Boxed W0 (w.heap.size + 1 + 1 + 1) 3 (.int .i64 ((f : Int) + ct)) := by
    have := (Boxed.new (((w.alloc (.cells #[.pointer (some ⟨b, 0, none⟩)] 31)).alloc (.cells #[.bool true] 4)).alloc (.cells #[.int .i64 f] 3)) 3 (.int .i64 ((f : Int) + ct)))
    rw [← hW0, World.size_alloc, World.size_alloc, World.size_alloc] at this; exact this
  clear hW0
  refine wpIn_rangeFunc_ownF rfl (by decide) (gf := 40) (lb := #[.pointer (some ⟨w.heap.size + 1 + 1, 0, none⟩), .pointer (some ⟨w.heap.size + 1 + 1 + 1, 0, none⟩)]) rfl trivial (enters_of Tryd.func40 (by kernel_rfl) rfl)
    (pieces_stops _ _ _ f ((f : Int) + ct) (f + ct) (by omega) (by omega) (by omega) W0 c2.cell c3.cell) (fun h k => ⟨k.1.trans h.1, k.2.trans h.2⟩) (fun W l o o' hl ho _ _ => ⟨World.putObj_heap_other (by omega), World.putObj_heap_other (by omega)⟩) (Below.refl _ _) (fun _ => rfl)
    (fun pre W => (Boxed W w.heap.size 31 (.pointer (some ⟨b, 0, none⟩)) ∧ Boxed W (w.heap.size + 1) 4 (.bool (setP M pre).1)) ∧ Mp W b g n (setP M pre).2 ∧ Touch [g] w W)
    (fun _ _ _ => False)
    ?own (fun _ _ _ _ _ h _ _ => h) ⟨⟨c0, c1⟩, HM.out.below hb0, Touch.of_below hb0 _⟩
    (fun x => { tmps := #[.pointer (some ⟨b, 0, none⟩), .int .i64 f, .int .i64 ct, .pointer (some ⟨w.heap.size, 0, none⟩), undef, undef, .bool false, .int .i64 0, .pointer (some ⟨w.heap.size + 1, 0, none⟩), .int .i64 ((x.1.1 : Int) / 64), .int .u64 (mk (x.1.1 % 64) (x.1.2 - x.1.1 / 64 * 64) : Nat), .int .i64 f, .bool false, .bool false, .int .i64 ct, .bool false, .bool false, .bool false, .int .i64 ct, .pointer (some ⟨b, 0, none⟩), .pointer (some ⟨b, 0, none⟩), .pointer (some ⟨b, 0, none⟩), .int .i64 n, .int .i64 f, .int .i64 ((n : Int) - f), .bool false, .bool false, .int .i64 f, .int .i64 f, .int .i64 ct, .int .i64 ((f : Int) + ct), .func (.func 40) #[] #[.pointer (some ⟨w.heap.size + 1 + 1, 0, none⟩), .pointer (some ⟨w.heap.size + 1 + 1 + 1, 0, none⟩)], .int .i64 ((x.1.1 : Int) / 64), .int .u64 (mk (x.1.1 % 64) (x.1.2 - x.1.1 / 64 * 64) : Nat), undef, undef, undef, undef, undef, undef, undef, undef, undef, undef, undef, undef, undef, undef, undef, undef, undef, undef, undef, undef, undef, undef, undef, undef], defers := [] }) ?assign ?body ?done ?stop
  case own =>
    intro s A B row hs hg hr
    obtain ⟨⟨b0, b1⟩, hm, ht⟩ := hs
    have hr' : ∀ r, row = some r → ∃ o : Obj, A.heap[r]? = some o ∧ o.isCells = false := fun r e => (hr r e).2
    exact ⟨⟨boxed_own _ _ (fun _ => _) s A B row b0 hg hr', boxed_own _ _ (fun s => .bool (setP M s).1) s A B row b1 hg hr'⟩, hm.grown hg (fun r e => by have := (hr r e).1; omega), ht.grown hg (fun r e => by have := (hr r e).1; omega)⟩
  case assign =>
    intro l x W K hK
    gi_wp2
    exact hK
  case body =>
    rintro l pre ⟨⟨a, q⟩, h1, h2, h3⟩ W ⟨⟨b0, b1⟩, hMW, hT⟩ hlen
    have hss := setP_snoc M pre ⟨(a, q), h1, h2, h3⟩
    dsimp only at h1 h2 h3 ⊢
    have hia : a / 64 < wds n := by unfold wds; omega
    have k0 := b0.cell
    have k1 := b1.cell
    have kf := b1.frozen
    have k2 := hMW.c1
    have k3 := hMW.at hia
    have k4 := hMW.row.frozen (a / 64)
    have hve := u64_and_nat (wd (setP M pre).2 (a / 64)) (mk (a % 64) (q - a / 64 * 64)) (wd_lt _ _) (mk_lt (by omega))
    have hvo := u64_or_nat (wd (setP M pre).2 (a / 64)) (mk (a % 64) (q - a / 64 * 64)) (wd_lt _ _) (mk_lt (by omega))
    have hmkb : mk (a % 64) (q - a / 64 * 64) < 18446744073709551616 := mk_lt (by omega)
    have hwdb := wd_lt (setP M pre).2 (a / 64)
    obtain ⟨vo, hvo2⟩ : ∃ vo : Nat, vo = wd (setP M pre).2 (a / 64) ||| mk (a % 64) (q - a / 64 * 64) := ⟨_, rfl⟩
    obtain ⟨va, hva2⟩ : ∃ va : Nat, va = wd (setP M pre).2 (a / 64) &&& mk (a % 64) (q - a / 64 * 64) := ⟨_, rfl⟩
    rw [← hvo2] at hvo
    rw [← hva2] at hve
    have HM2 : Hid (∀ W', Mp W' b g n (setP M pre).2 → Mp (W'.setCell ⟨g, a / 64, none⟩ (.int .u64 vo)) b g n (setP M (pre ++ [⟨(a, q), h1, h2, h3⟩])).2) := fun W' h => by
      rw [hss]; exact mp_mark h h1 (by omega) h3 vo (by rw [hvo2])
    have HF2 : Hid ((setP M (pre ++ [⟨(a, q), h1, h2, h3⟩])).1 = ((setP M pre).1 && decide (va = 0))) := by rw [hss, hva2]; rfl
    have HMW : Hid (Mp W b g n (setP M pre).2) := hMW
    have HT : Hid (Touch [g] w W) := hT
    have hge1 : g ≠ w.heap.size + 1 := by omega
    have hne0 : b ≠ w.heap.size + 1 := by omega
    have hng : ∀ X : World, Mp X b g n (setP M pre).2 → b ≠ g := fun X h => h.ne
    have hbg := hng _ hMW
    clear hng hss hvo2 hva2 hMW hT
    generalize mk (a % 64) (q - a / 64 * 64) = mm at *
    generalize wd (setP M pre).2 (a / 64) = ww at *
    generalize (setP M pre).1 = fs at *
    cases fs
    · gi_wp2
      refine ⟨(KeepsOthers.setCell _ _ _).trans (KeepsOthers.setCell _ _ _), ⟨(Below.heap_setCell _ _ _ _ (by simp only [ne_eq]; omega)).trans (Below.heap_setCell _ _ _ _ (by simp only [ne_eq]; omega)), (Below.heap_setCell _ _ _ _ (by simp only [ne_eq]; omega)).trans (Below.heap_setCell _ _ _ _ (by simp only [ne_eq]; omega))⟩, ⟨?_, ?_⟩, HM2.out _ (HMW.out.keep (Below.heap_setCell _ _ _ _ (by simp only [ne_eq]; omega)) (Below.heap_setCell _ _ _ _ (by simp only [ne_eq]; omega))), ?_⟩
      · exact (Below.heap_setCell _ _ _ _ (by simp only [ne_eq]; omega)).trans ((Below.heap_setCell _ _ _ _ (by simp only [ne_eq]; omega)).trans b0)
      · rw [HF2.out]
        refine (Below.heap_setCell _ _ _ _ (by simp only [ne_eq]; omega)).trans ?_
        exact b1.set (.bool false)
      · exact (HT.out.then (Touch.setCell (F := [w.heap.size + 1]) W ⟨w.heap.size + 1, 0, none⟩ _ (by simp)) (fun x hx => by simp at hx; subst hx; right; omega)).then (Touch.setCell (F := [g]) _ ⟨g, a / 64, none⟩ _ (by simp)) (fun x hx => .inl hx)
    · gi_wp2
      refine ⟨(KeepsOthers.setCell _ _ _).trans (KeepsOthers.setCell _ _ _), ⟨(Below.heap_setCell _ _ _ _ (by simp only [ne_eq]; omega)).trans (Below.heap_setCell _ _ _ _ (by simp only [ne_eq]; omega)), (Below.heap_setCell _ _ _ _ (by simp only [ne_eq]; omega)).trans (Below.heap_setCell _ _ _ _ (by simp only [ne_eq]; omega))⟩, ⟨?_, ?_⟩, HM2.out _ (HMW.out.keep (Below.heap_setCell _ _ _ _ (by simp only [ne_eq]; omega)) (Below.heap_setCell _ _ _ _ (by simp only [ne_eq]; omega))), ?_⟩
      · exact (Below.heap_setCell _ _ _ _ (by simp only [ne_eq]; omega)).trans ((Below.heap_setCell _ _ _ _ (by simp only [ne_eq]; omega)).trans b0)
      · rw [HF2.out]
        refine (Below.heap_setCell _ _ _ _ (by simp only [ne_eq]; omega)).trans ?_
        have e : (true && decide (va = 0)) = ((va : Int) == 0) := by rw [Bool.true_and, Bool.eq_iff_iff]; simp
        rw [e]
        exact b1.set (.bool ((va : Int) == 0))
      · exact (HT.out.then (Touch.setCell (F := [w.heap.size + 1]) W ⟨w.heap.size + 1, 0, none⟩ _ (by simp)) (fun x hx => by simp at hx; subst hx; right; omega)).then (Touch.setCell (F := [g]) _ ⟨g, a / 64, none⟩ _ (by simp)) (fun x hx => .inl hx)
  case done =>
    rintro D xs W hD rfl ⟨⟨b0, b1⟩, hM, hT⟩ hK
    have kc := b1.cell
    gi_wp2
    refine ⟨by simp, .inl ⟨_, _, rfl, run_takeDeferred hK, ?_⟩⟩
    obtain ⟨q1, q2⟩ := setP_pcs (e := f + ct) (f := f) (true, M)
    refine ⟨_, results_tmp2 rfl _ _ _, (setP M (pcs (f + ct) f)).1, ?_, rfl, ?_, ?_⟩
    · exact q1.trans ⟨fun h => h.2, fun h => ⟨rfl, h⟩⟩
    · have := hM.grown (grownBy_putObj' W D (.deferred none)) (fun r e => by cases e; omega)
      have q3 : (setP M (pcs (f + ct) f)).2 = add M f (f + ct) := q2
      rw [q3] at this
      exact this
    · exact hT.grown (grownBy_putObj' W D (.deferred none)) (fun r e => by cases e; omega)
  case stop =>
    rintro D c pre W _ _ h _
    exact h.elim

end Go.Proofs.YtlnfhnahnmblmabDoor
