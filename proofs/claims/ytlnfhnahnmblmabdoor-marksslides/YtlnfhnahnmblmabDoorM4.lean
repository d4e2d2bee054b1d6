/-
  Count.
-/
import Derived.Test.YtlnfhnahnmblmabDoorM3
set_option linter.unusedVariables false
namespace Go.Proofs.YtlnfhnahnmblmabDoor
open Go.RowKit Go.Shelf

attribute [local go_sem] Oper.semAt_some

/-- What pieces of a map hold together. -/
def sumP (M : Nat → Bool) {e : Nat} : List (Pc e) → Nat
  | [] => 0
  | x :: l => pop (wd M (x.1.1 / 64) &&& mk (x.1.1 % 64) (x.1.2 - x.1.1 / 64 * 64)) + sumP M l

theorem sumP_snoc (M : Nat → Bool) {e : Nat} (x : Pc e) : ∀ l : List (Pc e), sumP M (l ++ [x]) = sumP M l + pop (wd M (x.1.1 / 64) &&& mk (x.1.1 % 64) (x.1.2 - x.1.1 / 64 * 64))
  | [] => by simp [sumP]
  | y :: l => by simp only [List.cons_append, sumP, sumP_snoc M x l]; omega

theorem sumP_le (M : Nat → Bool) {e : Nat} : ∀ l : List (Pc e), sumP M l ≤ 64 * l.length
  | [] => by simp [sumP]
  | y :: l => by
    have := sumP_le M l
    have := pop_le (wd M (y.1.1 / 64) &&& mk (y.1.1 % 64) (y.1.2 - y.1.1 / 64 * 64))
    simp only [sumP, List.length_cons]; omega

theorem pcs_len {e : Nat} : ∀ {f : Nat}, (pcs e f).length ≤ e - f := by
  intro f
  induction hn : e - f using Nat.strongRecOn generalizing f with
  | ind n ih =>
    by_cases hf : f < e
    · obtain ⟨hp, hpc⟩ := pcs_cons hf
      rw [hpc, List.length_cons]
      have := ih (e - min e (f / 64 * 64 + 64)) (by omega) rfl
      omega
    · rw [pcs_nil (by omega)]; simp

theorem sumP_pcs (M : Nat → Bool) {e : Nat} : ∀ {f : Nat}, f ≤ e → sumP M (pcs e f) + rk M f = rk M e := by
  intro f
  induction hn : e - f using Nat.strongRecOn generalizing f with
  | ind n ih =>
    intro hfe
    by_cases hf : f < e
    · obtain ⟨hp, hpc⟩ := pcs_cons hf
      rw [hpc]
      have h1 := ih (e - min e (f / 64 * 64 + 64)) (by omega) rfl (by omega)
      have h2 := pop_piece M (f / 64) (f % 64) (min e (f / 64 * 64 + 64) - f / 64 * 64) (by omega) (by omega)
      rw [show 64 * (f / 64) + f % 64 = f by omega, show 64 * (f / 64) + (min e (f / 64 * 64 + 64) - f / 64 * 64) = min e (f / 64 * 64 + 64) by omega] at h2
      simp only [sumP]
      omega
    · have : f = e := by omega
      subst this
      rw [pcs_nil (Nat.le_refl _)]; simp [sumP]

theorem sumP_all (M : Nat → Bool) (e f : Nat) : sumP M (pcs e f) = rk M e - rk M f := by
  by_cases h : f ≤ e
  · have := sumP_pcs M h; omega
  · rw [pcs_nil (by omega)]
    have := rk_mono M (show e ≤ f by omega)
    simp only [sumP]; omega

set_option maxRecDepth 100000 in
set_option maxHeartbeats 4000000 in
theorem count_1 (b g n f e : Nat) (M : Nat → Bool) (fr be : Int) (h2 : (n : Int) < be) (hf : fr = f) (he : e = n) (hf63 : f < 9223372036854775808) (hel : e ≤ 1048576) (w : World) (hM : Mp w b g n M) (hL : Laid w) (hen : e ≤ n) :
    Calls Tryd.prog 15 #[.pointer (some ⟨b, 0, none⟩), .int .i64 (f : Int), .int .i64 be] w fun r w' => r = .returned (.int .i64 (rk M e - rk M f : Nat)) ∧ Below w.heap.size w w' := by
  refine (callsIn_wide (n := 9)).1 ?_
  refine callsIn_of_wp_marks Tryd.func15 rfl trivial ?_ rfl
  simp only [Tryd.ntmps15, List.size_toArray, List.length_cons, List.length_nil, Nat.reduceAdd, Nat.reduceSub, Array.replicate_succ, Array.replicate_zero, List.push_toArray, List.append_toArray, List.nil_append, List.cons_append]
  have hn := hM.le
  have hM1 := hM.below (Below.alloc (Below.alloc (Below.refl _ _) (Nat.le_refl _) (.cells #[.pointer (some ⟨b, 0, none⟩)] 31)) (by simp) (.cells #[.int .i64 0] 3))
  have k0 := hM1.c0
  have HM : Hid (Mp w b g n M) := hM
  have HL : Hid (Laid w) := hL
  clear hM1 hL hM
  gi_wp2
  refine ⟨trivial, (callsIn_wide.2 (pieces_any _ _ _)).mono ?_⟩
  rintro r w1 ⟨rfl, rfl⟩
  clear k0
  gi_wp2
  obtain ⟨W0, hW0⟩ : ∃ W0, W0 = ((((w.alloc (.cells #[.pointer (some ⟨b, 0, none⟩)] 31)).alloc (.cells #[.int .i64 0] 3)).alloc (.cells #[.int .i64 (f : Int)] 3)).alloc (.cells #[.int .i64 (n : Int)] 3)) := ⟨_, rfl⟩
  rw [← hW0]
  have hb0 : Below w.heap.size w W0 := by rw [hW0]; exact (((Below.alloc (Below.refl _ _) (Nat.le_refl _) _).alloc (by simp) _).alloc (by simp; omega) _).alloc (by simp; omega) _
  have hsz : W0.heap.size = w.heap.size + 4 := by rw [hW0]; simp
  have c0 : Boxed W0 w.heap.size 31 (.pointer (some ⟨b, 0, none⟩)) := by rw [hW0]; exact (((Boxed.new w 31 (.pointer (some ⟨b, 0, none⟩))).alloc _).alloc _).alloc _
  have c1 : Boxed W0 (w.heap.size + 1) 3 (.int .i64 0) := by
    have := (((Boxed.new (w.alloc (.cells #[.pointer (some ⟨b, 0, none⟩)] 31)) 3 (.int .i64 0)).alloc (.cells #[.int .i64 (f : Int)] 3)).alloc (.cells #[.int .i64 (n : Int)] 3))
    rw [← hW0, World.size_alloc] at this; exact this
  have c2 : Boxed W0 (w.heap.size + 1 + 1) 3 (.int .i64 (f : Int)) := by
    have := ((Boxed.new ((w.alloc (.cells #[.pointer (some ⟨b, 0, none⟩)] 31)).alloc (.cells #[.int .i64 0] 3)) 3 (.int .i64 (f : Int))).alloc (.cells #[.int .i64 (n : Int)] 3))
    rw [← hW0, World.size_alloc, World.size_alloc] at this; exact this
  have c3 : Boxed W0 (w.heap.size + 1 + 1 + 1) 3 (.int .i64 (n : Int)) := by
    have := (Boxed.new (((w.alloc (.cells #[.pointer (some ⟨b, 0, none⟩)] 31)).alloc (.cells #[.int .i64 0] 3)).alloc (.cells #[.int .i64 (f : Int)] 3)) 3 (.int .i64 (n : Int)))
    rw [← hW0, World.size_alloc, World.size_alloc, World.size_alloc] at this; exact this
  clear hW0
  refine wpIn_rangeFunc_ownF rfl (by decide) (gf := 40) (lb := #[.pointer (some ⟨w.heap.size + 1 + 1, 0, none⟩), .pointer (some ⟨w.heap.size + 1 + 1 + 1, 0, none⟩)]) rfl trivial (enters_of Tryd.func40 (by kernel_rfl) rfl)
    (pieces_stops _ _ _ f (n : Int) e (by omega) hel hf63 W0 c2.cell c3.cell) (fun h k => ⟨k.1.trans h.1, k.2.trans h.2⟩) (fun W l o o' hl ho _ _ => ⟨World.putObj_heap_other (by omega), World.putObj_heap_other (by omega)⟩) (Below.refl _ _) (fun _ => rfl)
    (fun pre W => (Boxed W w.heap.size 31 (.pointer (some ⟨b, 0, none⟩)) ∧ Boxed W (w.heap.size + 1) 3 (.int .i64 (sumP M pre : Nat))) ∧ Below w.heap.size w W)
    (fun _ _ _ => False)
    ?own (fun _ _ _ _ _ h _ _ => h) ⟨⟨c0, c1⟩, hb0⟩
    (fun x => { tmps := #[.pointer (some ⟨b, 0, none⟩), .int .i64 (f : Int), .int .i64 be, .pointer (some ⟨w.heap.size, 0, none⟩), undef, undef, .int .i64 0, .pointer (some ⟨w.heap.size + 1, 0, none⟩), .int .i64 ((x.1.1 : Int) / 64), .int .u64 (mk (x.1.1 % 64) (x.1.2 - x.1.1 / 64 * 64) : Nat), .int .i64 (f : Int), .int .i64 (f : Int), .int .i64 be, .pointer (some ⟨b, 0, none⟩), .pointer (some ⟨b, 0, none⟩), .pointer (some ⟨b, 0, none⟩), .int .i64 n, .int .i64 (n : Int), .func (.func 40) #[] #[.pointer (some ⟨w.heap.size + 1 + 1, 0, none⟩), .pointer (some ⟨w.heap.size + 1 + 1 + 1, 0, none⟩)], .int .i64 ((x.1.1 : Int) / 64), .int .u64 (mk (x.1.1 % 64) (x.1.2 - x.1.1 / 64 * 64) : Nat), undef, undef, undef, undef, undef, undef, undef, undef, undef, undef, undef, undef, undef], defers := [] }) ?assign ?body ?done ?stop
  case own =>
    exact OwnFrom.and (Own.from (fun s A B row hs hg hr => ⟨boxed_own _ _ (fun _ => _) s A B row hs.1 hg hr, boxed_own _ _ (fun s => .int .i64 (sumP M s : Nat)) s A B row hs.2 hg hr⟩) _) (ownFrom_below (by omega) (by omega))
  case assign =>
    intro l x W K hK
    gi_wp2
    exact hK
  case body =>
    rintro l pre ⟨⟨a, q⟩, h1, h2, h3⟩ W ⟨⟨b0, b1⟩, hB⟩ hlen
    have hpl := pcs_len (e := e) (f := f)
    have hsl := sumP_le M pre
    have hss := sumP_snoc M ⟨(a, q), h1, h2, h3⟩ pre
    dsimp only at h1 h2 h3 hss ⊢
    have hMW := HM.out.below hB
    have hia : a / 64 < wds n := by unfold wds; omega
    have k0 := b0.cell
    have k1 := b1.cell
    have kf := b1.frozen
    have k2 := hMW.c1
    have k3 := hMW.at hia
    have hve := u64_and_nat (wd M (a / 64)) (mk (a % 64) (q - a / 64 * 64)) (wd_lt M _) (mk_lt (by omega))
    have hvl : wd M (a / 64) &&& mk (a % 64) (q - a / 64 * 64) < 18446744073709551616 := Nat.lt_of_le_of_lt Nat.and_le_left (wd_lt M _)
    have hmkb : mk (a % 64) (q - a / 64 * 64) < 18446744073709551616 := mk_lt (by omega)
    have hwdb := wd_lt M (a / 64)
    have hon := ones_any _ hvl W.drew (HL.out.below (hB.drew))
    have hpo := pop_le (wd M (a / 64) &&& mk (a % 64) (q - a / 64 * 64))
    have HS : Hid (sumP M (pre ++ [⟨(a, q), h1, h2, h3⟩]) = sumP M pre + pop (wd M (a / 64) &&& mk (a % 64) (q - a / 64 * 64))) := hss
    clear hss
    generalize pop (wd M (a / 64) &&& mk (a % 64) (q - a / 64 * 64)) = pp at *
    generalize wd M (a / 64) &&& mk (a % 64) (q - a / 64 * 64) = vv at *
    generalize mk (a % 64) (q - a / 64 * 64) = mm at *
    generalize wd M (a / 64) = ww at *
    generalize sumP M pre = ss at *
    gi_wp2
    refine qtail_round 12 mixed (by kernel_rfl) (by kernel_rfl) (by rintro ⟨_, _, h⟩; exact h) ?_
    simp only [List.take_succ_cons, List.take_zero, List.drop_succ_cons, List.drop_zero]
    have hon' : Calls Tryd.prog 28 #[.int .u64 vv] W.drew fun e w'' => e = .returned (.int .i64 pp) ∧ w'' = W.drew := hon.mono (fun _ _ h => ⟨h.1, h.2.symm⟩)
    clear hon
    repeat (go_big_quiet_step (exact hon' _))
    refine wpQuiet_nil ?_
    have k4 : W.drew.cell? ⟨w.heap.size + 1, 0, none⟩ = some (.int .i64 ss) := k1
    have k5 : W.drew.frozen? ⟨w.heap.size + 1, 0, none⟩ = false := kf
    clear k0 k1 k2 k3 kf
    go_wp2
    refine ⟨(KeepsOthers.drew W).trans (KeepsOthers.setCell _ _ _), ⟨Below.heap_setCell _ _ _ _ (by simp only [ne_eq]; omega), Below.heap_setCell _ _ _ _ (by simp only [ne_eq]; omega)⟩, ⟨?_, ?_⟩, Below.setCell (p := ⟨w.heap.size + 1, 0, none⟩) (below_drewN hB 1) (by simp only; omega) _⟩
    · exact Boxed.other (W := W.drew) (B := w.heap.size) (B' := w.heap.size + 1) b0 (by omega) _
    · have := Boxed.set (W := W.drew) (.int .i64 ((ss + pp : Nat) : Int)) b1
      rw [HS.out]
      rw [show ((ss + pp : Nat) : Int) = (ss : Int) + pp by omega] at this ⊢
      exact this
  case done =>
    rintro D xs W hD rfl ⟨⟨b0, b1⟩, hB⟩ hK
    have kc := b1.cell
    rw [sumP_all] at kc
    gi_wp2
    refine ⟨by simp, .inl ⟨_, _, rfl, run_takeDeferred hK, ?_⟩⟩
    exact ⟨_, results_tmp rfl _ _ _, by rw [he]; rfl, hB.trans (belowK_b (w := w) (Nat.le_refl _) W D _ _ (by omega) hK rfl rfl)⟩
  case stop =>
    rintro D c pre W _ _ h _
    exact h.elim

set_option maxRecDepth 100000 in
set_option maxHeartbeats 4000000 in
theorem count_2 (b g n f e : Nat) (M : Nat → Bool) (fr be : Int) (h2 : ¬ (n : Int) < be) (hf : fr = f) (he : e = be.toNat) (hf63 : f < 9223372036854775808) (hel : e ≤ 1048576) (w : World) (hM : Mp w b g n M) (hL : Laid w) (hen : e ≤ n) :
    Calls Tryd.prog 15 #[.pointer (some ⟨b, 0, none⟩), .int .i64 (f : Int), .int .i64 be] w fun r w' => r = .returned (.int .i64 (rk M e - rk M f : Nat)) ∧ Below w.heap.size w w' := by
  refine (callsIn_wide (n := 9)).1 ?_
  refine callsIn_of_wp_marks Tryd.func15 rfl trivial ?_ rfl
  simp only [Tryd.ntmps15, List.size_toArray, List.length_cons, List.length_nil, Nat.reduceAdd, Nat.reduceSub, Array.replicate_succ, Array.replicate_zero, List.push_toArray, List.append_toArray, List.nil_append, List.cons_append]
  have hn := hM.le
  have hM1 := hM.below (Below.alloc (Below.alloc (Below.refl _ _) (Nat.le_refl _) (.cells #[.pointer (some ⟨b, 0, none⟩)] 31)) (by simp) (.cells #[.int .i64 0] 3))
  have k0 := hM1.c0
  have HM : Hid (Mp w b g n M) := hM
  have HL : Hid (Laid w) := hL
  clear hM1 hL hM
  gi_wp2
  refine ⟨trivial, (callsIn_wide.2 (pieces_any _ _ _)).mono ?_⟩
  rintro r w1 ⟨rfl, rfl⟩
  clear k0
  gi_wp2
  obtain ⟨W0, hW0⟩ : ∃ W0, W0 = ((((w.alloc (.cells #[.pointer (some ⟨b, 0, none⟩)] 31)).alloc (.cells #[.int .i64 0] 3)).alloc (.cells #[.int .i64 (f : Int)] 3)).alloc (.cells #[.int .i64 be] 3)) := ⟨_, rfl⟩
  rw [← hW0]
  have hb0 : Below w.heap.size w W0 := by rw [hW0]; exact (((Below.alloc (Below.refl _ _) (Nat.le_refl _) _).alloc (by simp) _).alloc (by simp; omega) _).alloc (by simp; omega) _
  have hsz : W0.heap.size = w.heap.size + 4 := by rw [hW0]; simp
  have c0 : Boxed W0 w.heap.size 31 (.pointer (some ⟨b, 0, none⟩)) := by rw [hW0]; exact (((Boxed.new w 31 (.pointer (some ⟨b, 0, none⟩))).alloc _).alloc _).alloc _
  have c1 : Boxed W0 (w.heap.size + 1) 3 (.int .i64 0) := by
    have := (((Boxed.new (w.alloc (.cells #[.pointer (some ⟨b, 0, none⟩)] 31)) 3 (.int .i64 0)).alloc (.cells #[.int .i64 (f : Int)] 3)).alloc (.cells #[.int .i64 be] 3))
    rw [← hW0, World.size_alloc] at this; exact this
  have c2 : Boxed W0 (w.heap.size + 1 + 1) 3 (.int .i64 (f : Int)) := by
    have := ((Boxed.new ((w.alloc (.cells #[.pointer (some ⟨b, 0, none⟩)] 31)).alloc (.cells #[.int .i64 0] 3)) 3 (.int .i64 (f : Int))).alloc (.cells #[.int .i64 be] 3))
    rw [← hW0, World.size_alloc, World.size_alloc] at this; exact this
  have c3 : Boxed W0 (w.heap.size + 1 + 1 + 1) 3 (.int .i64 be) := by
    have := (Boxed.new (((w.alloc (.cells #[.pointer (some ⟨b, 0, none⟩)] 31)).alloc (.cells #[.int .i64 0] 3)).alloc (.cells #[.int .i64 (f : Int)] 3)) 3 (.int .i64 be))
    rw [← hW0, World.size_alloc, World.size_alloc, World.size_alloc] at this; exact this
  clear hW0
  refine wpIn_rangeFunc_ownF rfl (by decide) (gf := 40) (lb := #[.pointer (some ⟨w.heap.size + 1 + 1, 0, none⟩), .pointer (some ⟨w.heap.size + 1 + 1 + 1, 0, none⟩)]) rfl trivial (enters_of Tryd.func40 (by kernel_rfl) rfl)
    (pieces_stops _ _ _ f be e (by omega) hel hf63 W0 c2.cell c3.cell) (fun h k => ⟨k.1.trans h.1, k.2.trans h.2⟩) (fun W l o o' hl ho _ _ => ⟨World.putObj_heap_other (by omega), World.putObj_heap_other (by omega)⟩) (Below.refl _ _) (fun _ => rfl)
    (fun pre W => (Boxed W w.heap.size 31 (.pointer (some ⟨b, 0, none⟩)) ∧ Boxed W (w.heap.size + 1) 3 (.int .i64 (sumP M pre : Nat))) ∧ Below w.heap.size w W)
    (fun _ _ _ => False)
    ?own (fun _ _ _ _ _ h _ _ => h) ⟨⟨c0, c1⟩, hb0⟩
    (fun x => { tmps := #[.pointer (some ⟨b, 0, none⟩), .int .i64 (f : Int), .int .i64 be, .pointer (some ⟨w.heap.size, 0, none⟩), undef, undef, .int .i64 0, .pointer (some ⟨w.heap.size + 1, 0, none⟩), .int .i64 ((x.1.1 : Int) / 64), .int .u64 (mk (x.1.1 % 64) (x.1.2 - x.1.1 / 64 * 64) : Nat), .int .i64 (f : Int), .int .i64 (f : Int), .int .i64 be, .pointer (some ⟨b, 0, none⟩), .pointer (some ⟨b, 0, none⟩), .pointer (some ⟨b, 0, none⟩), .int .i64 n, .int .i64 be, .func (.func 40) #[] #[.pointer (some ⟨w.heap.size + 1 + 1, 0, none⟩), .pointer (some ⟨w.heap.size + 1 + 1 + 1, 0, none⟩)], .int .i64 ((x.1.1 : Int) / 64), .int .u64 (mk (x.1.1 % 64) (x.1.2 - x.1.1 / 64 * 64) : Nat), undef, undef, undef, undef, undef, undef, undef, undef, undef, undef, undef, undef, undef], defers := [] }) ?assign ?body ?done ?stop
  case own =>
    exact OwnFrom.and (Own.from (fun s A B row hs hg hr => ⟨boxed_own _ _ (fun _ => _) s A B row hs.1 hg hr, boxed_own _ _ (fun s => .int .i64 (sumP M s : Nat)) s A B row hs.2 hg hr⟩) _) (ownFrom_below (by omega) (by omega))
  case assign =>
    intro l x W K hK
    gi_wp2
    exact hK
  case body =>
    rintro l pre ⟨⟨a, q⟩, h1, h2, h3⟩ W ⟨⟨b0, b1⟩, hB⟩ hlen
    have hpl := pcs_len (e := e) (f := f)
    have hsl := sumP_le M pre
    have hss := sumP_snoc M ⟨(a, q), h1, h2, h3⟩ pre
    dsimp only at h1 h2 h3 hss ⊢
    have hMW := HM.out.below hB
    have hia : a / 64 < wds n := by unfold wds; omega
    have k0 := b0.cell
    have k1 := b1.cell
    have kf := b1.frozen
    have k2 := hMW.c1
    have k3 := hMW.at hia
    have hve := u64_and_nat (wd M (a / 64)) (mk (a % 64) (q - a / 64 * 64)) (wd_lt M _) (mk_lt (by omega))
    have hvl : wd M (a / 64) &&& mk (a % 64) (q - a / 64 * 64) < 18446744073709551616 := Nat.lt_of_le_of_lt Nat.and_le_left (wd_lt M _)
    have hmkb : mk (a % 64) (q - a / 64 * 64) < 18446744073709551616 := mk_lt (by omega)
    have hwdb := wd_lt M (a / 64)
    have hon := ones_any _ hvl W.drew (HL.out.below (hB.drew))
    have hpo := pop_le (wd M (a / 64) &&& mk (a % 64) (q - a / 64 * 64))
    have HS : Hid (sumP M (pre ++ [⟨(a, q), h1, h2, h3⟩]) = sumP M pre + pop (wd M (a / 64) &&& mk (a % 64) (q - a / 64 * 64))) := hss
    clear hss
    generalize pop (wd M (a / 64) &&& mk (a % 64) (q - a / 64 * 64)) = pp at *
    generalize wd M (a / 64) &&& mk (a % 64) (q - a / 64 * 64) = vv at *
    generalize mk (a % 64) (q - a / 64 * 64) = mm at *
    generalize wd M (a / 64) = ww at *
    generalize sumP M pre = ss at *
    gi_wp2
    refine qtail_round 12 mixed (by kernel_rfl) (by kernel_rfl) (by rintro ⟨_, _, h⟩; exact h) ?_
    simp only [List.take_succ_cons, List.take_zero, List.drop_succ_cons, List.drop_zero]
    have hon' : Calls Tryd.prog 28 #[.int .u64 vv] W.drew fun e w'' => e = .returned (.int .i64 pp) ∧ w'' = W.drew := hon.mono (fun _ _ h => ⟨h.1, h.2.symm⟩)
    clear hon
    repeat (go_big_quiet_step (exact hon' _))
    refine wpQuiet_nil ?_
    have k4 : W.drew.cell? ⟨w.heap.size + 1, 0, none⟩ = some (.int .i64 ss) := k1
    have k5 : W.drew.frozen? ⟨w.heap.size + 1, 0, none⟩ = false := kf
    clear k0 k1 k2 k3 kf
    go_wp2
    refine ⟨(KeepsOthers.drew W).trans (KeepsOthers.setCell _ _ _), ⟨Below.heap_setCell _ _ _ _ (by simp only [ne_eq]; omega), Below.heap_setCell _ _ _ _ (by simp only [ne_eq]; omega)⟩, ⟨?_, ?_⟩, Below.setCell (p := ⟨w.heap.size + 1, 0, none⟩) (below_drewN hB 1) (by simp only; omega) _⟩
    · exact Boxed.other (W := W.drew) (B := w.heap.size) (B' := w.heap.size + 1) b0 (by omega) _
    · have := Boxed.set (W := W.drew) (.int .i64 ((ss + pp : Nat) : Int)) b1
      rw [HS.out]
      rw [show ((ss + pp : Nat) : Int) = (ss : Int) + pp by omega] at this ⊢
      exact this
  case done =>
    rintro D xs W hD rfl ⟨⟨b0, b1⟩, hB⟩ hK
    have kc := b1.cell
    rw [sumP_all] at kc
    gi_wp2
    refine ⟨by simp, .inl ⟨_, _, rfl, run_takeDeferred hK, ?_⟩⟩
    exact ⟨_, results_tmp rfl _ _ _, by rw [he]; rfl, hB.trans (belowK_b (w := w) (Nat.le_refl _) W D _ _ (by omega) hK rfl rfl)⟩
  case stop =>
    rintro D c pre W _ _ h _
    exact h.elim

set_option maxRecDepth 100000 in
set_option maxHeartbeats 4000000 in
theorem count_3 (b g n e : Nat) (M : Nat → Bool) (fr be : Int) (h2 : (n : Int) < be) (hf : fr < 0) (he : e = n) (hel : e ≤ 1048576) (w : World) (hM : Mp w b g n M) (hL : Laid w) (hen : e ≤ n) :
    Calls Tryd.prog 15 #[.pointer (some ⟨b, 0, none⟩), .int .i64 fr, .int .i64 be] w fun r w' => r = .returned (.int .i64 (rk M e - rk M 0 : Nat)) ∧ Below w.heap.size w w' := by
  refine (callsIn_wide (n := 9)).1 ?_
  refine callsIn_of_wp_marks Tryd.func15 rfl trivial ?_ rfl
  simp only [Tryd.ntmps15, List.size_toArray, List.length_cons, List.length_nil, Nat.reduceAdd, Nat.reduceSub, Array.replicate_succ, Array.replicate_zero, List.push_toArray, List.append_toArray, List.nil_append, List.cons_append]
  have hn := hM.le
  have hM1 := hM.below (Below.alloc (Below.alloc (Below.refl _ _) (Nat.le_refl _) (.cells #[.pointer (some ⟨b, 0, none⟩)] 31)) (by simp) (.cells #[.int .i64 0] 3))
  have k0 := hM1.c0
  have HM : Hid (Mp w b g n M) := hM
  have HL : Hid (Laid w) := hL
  clear hM1 hL hM
  gi_wp2
  refine ⟨trivial, (callsIn_wide.2 (pieces_any _ _ _)).mono ?_⟩
  rintro r w1 ⟨rfl, rfl⟩
  clear k0
  gi_wp2
  obtain ⟨W0, hW0⟩ : ∃ W0, W0 = ((((w.alloc (.cells #[.pointer (some ⟨b, 0, none⟩)] 31)).alloc (.cells #[.int .i64 0] 3)).alloc (.cells #[.int .i64 0] 3)).alloc (.cells #[.int .i64 (n : Int)] 3)) := ⟨_, rfl⟩
  rw [← hW0]
  have hb0 : Below w.heap.size w W0 := by rw [hW0]; exact (((Below.alloc (Below.refl _ _) (Nat.le_refl _) _).alloc (by simp) _).alloc (by simp; omega) _).alloc (by simp; omega) _
  have hsz : W0.heap.size = w.heap.size + 4 := by rw [hW0]; simp
  have c0 : Boxed W0 w.heap.size 31 (.pointer (some ⟨b, 0, none⟩)) := by rw [hW0]; exact (((Boxed.new w 31 (.pointer (some ⟨b, 0, none⟩))).alloc _).alloc _).alloc _
  have c1 : Boxed W0 (w.heap.size + 1) 3 (.int .i64 0) := by
    have := (((Boxed.new (w.alloc (.cells #[.pointer (some ⟨b, 0, none⟩)] 31)) 3 (.int .i64 0)).alloc (.cells #[.int .i64 0] 3)).alloc (.cells #[.int .i64 (n : Int)] 3))
    rw [← hW0, World.size_alloc] at this; exact this
  have c2 : Boxed W0 (w.heap.size + 1 + 1) 3 (.int .i64 0) := by
    have := ((Boxed.new ((w.alloc (.cells #[.pointer (some ⟨b, 0, none⟩)] 31)).alloc (.cells #[.int .i64 0] 3)) 3 (.int .i64 0)).alloc (.cells #[.int .i64 (n : Int)] 3))
    rw [← hW0, World.size_alloc, World.size_alloc] at this; exact this
  have c3 : Boxed W0 (w.heap.size + 1 + 1 + 1) 3 (.int .i64 (n : Int)) := by
    have := (Boxed.new (((w.alloc (.cells #[.pointer (some ⟨b, 0, none⟩)] 31)).alloc (.cells #[.int .i64 0] 3)).alloc (.cells #[.int .i64 0] 3)) 3 (.int .i64 (n : Int)))
    rw [← hW0, World.size_alloc, World.size_alloc, World.size_alloc] at this; exact this
  clear hW0
  refine wpIn_rangeFunc_ownF rfl (by decide) (gf := 40) (lb := #[.pointer (some ⟨w.heap.size + 1 + 1, 0, none⟩), .pointer (some ⟨w.heap.size + 1 + 1 + 1, 0, none⟩)]) rfl trivial (enters_of Tryd.func40 (by kernel_rfl) rfl)
    (pieces_stops _ _ _ 0 (n : Int) e (by omega) hel (by decide) W0 c2.cell c3.cell) (fun h k => ⟨k.1.trans h.1, k.2.trans h.2⟩) (fun W l o o' hl ho _ _ => ⟨World.putObj_heap_other (by omega), World.putObj_heap_other (by omega)⟩) (Below.refl _ _) (fun _ => rfl)
    (fun pre W => (Boxed W w.heap.size 31 (.pointer (some ⟨b, 0, none⟩)) ∧ Boxed W (w.heap.size + 1) 3 (.int .i64 (sumP M pre : Nat))) ∧ Below w.heap.size w W)
    (fun _ _ _ => False)
    ?own (fun _ _ _ _ _ h _ _ => h) ⟨⟨c0, c1⟩, hb0⟩
    (fun x => { tmps := #[.pointer (some ⟨b, 0, none⟩), .int .i64 fr, .int .i64 be, .pointer (some ⟨w.heap.size, 0, none⟩), undef, undef, .int .i64 0, .pointer (some ⟨w.heap.size + 1, 0, none⟩), .int .i64 ((x.1.1 : Int) / 64), .int .u64 (mk (x.1.1 % 64) (x.1.2 - x.1.1 / 64 * 64) : Nat), .int .i64 fr, .int .i64 0, .int .i64 be, .pointer (some ⟨b, 0, none⟩), .pointer (some ⟨b, 0, none⟩), .pointer (some ⟨b, 0, none⟩), .int .i64 n, .int .i64 (n : Int), .func (.func 40) #[] #[.pointer (some ⟨w.heap.size + 1 + 1, 0, none⟩), .pointer (some ⟨w.heap.size + 1 + 1 + 1, 0, none⟩)], .int .i64 ((x.1.1 : Int) / 64), .int .u64 (mk (x.1.1 % 64) (x.1.2 - x.1.1 / 64 * 64) : Nat), undef, undef, undef, undef, undef, undef, undef, undef, undef, undef, undef, undef, undef], defers := [] }) ?assign ?body ?done ?stop
  case own =>
    exact OwnFrom.and (Own.from (fun s A B row hs hg hr => ⟨boxed_own _ _ (fun _ => _) s A B row hs.1 hg hr, boxed_own _ _ (fun s => .int .i64 (sumP M s : Nat)) s A B row hs.2 hg hr⟩) _) (ownFrom_below (by omega) (by omega))
  case assign =>
    intro l x W K hK
    gi_wp2
    exact hK
  case body =>
    rintro l pre ⟨⟨a, q⟩, h1, h2, h3⟩ W ⟨⟨b0, b1⟩, hB⟩ hlen
    have hpl := pcs_len (e := e) (f := 0)
    have hsl := sumP_le M pre
    have hss := sumP_snoc M ⟨(a, q), h1, h2, h3⟩ pre
    dsimp only at h1 h2 h3 hss ⊢
    have hMW := HM.out.below hB
    have hia : a / 64 < wds n := by unfold wds; omega
    have k0 := b0.cell
    have k1 := b1.cell
    have kf := b1.frozen
    have k2 := hMW.c1
    have k3 := hMW.at hia
    have hve := u64_and_nat (wd M (a / 64)) (mk (a % 64) (q - a / 64 * 64)) (wd_lt M _) (mk_lt (by omega))
    have hvl : wd M (a / 64) &&& mk (a % 64) (q - a / 64 * 64) < 18446744073709551616 := Nat.lt_of_le_of_lt Nat.and_le_left (wd_lt M _)
    have hmkb : mk (a % 64) (q - a / 64 * 64) < 18446744073709551616 := mk_lt (by omega)
    have hwdb := wd_lt M (a / 64)
    have hon := ones_any _ hvl W.drew (HL.out.below (hB.drew))
    have hpo := pop_le (wd M (a / 64) &&& mk (a % 64) (q - a / 64 * 64))
    have HS : Hid (sumP M (pre ++ [⟨(a, q), h1, h2, h3⟩]) = sumP M pre + pop (wd M (a / 64) &&& mk (a % 64) (q - a / 64 * 64))) := hss
    clear hss
    generalize pop (wd M (a / 64) &&& mk (a % 64) (q - a / 64 * 64)) = pp at *
    generalize wd M (a / 64) &&& mk (a % 64) (q - a / 64 * 64) = vv at *
    generalize mk (a % 64) (q - a / 64 * 64) = mm at *
    generalize wd M (a / 64) = ww at *
    generalize sumP M pre = ss at *
    gi_wp2
    refine qtail_round 12 mixed (by kernel_rfl) (by kernel_rfl) (by rintro ⟨_, _, h⟩; exact h) ?_
    simp only [List.take_succ_cons, List.take_zero, List.drop_succ_cons, List.drop_zero]
    have hon' : Calls Tryd.prog 28 #[.int .u64 vv] W.drew fun e w'' => e = .returned (.int .i64 pp) ∧ w'' = W.drew := hon.mono (fun _ _ h => ⟨h.1, h.2.symm⟩)
    clear hon
    repeat (go_big_quiet_step (exact hon' _))
    refine wpQuiet_nil ?_
    have k4 : W.drew.cell? ⟨w.heap.size + 1, 0, none⟩ = some (.int .i64 ss) := k1
    have k5 : W.drew.frozen? ⟨w.heap.size + 1, 0, none⟩ = false := kf
    clear k0 k1 k2 k3 kf
    go_wp2
    refine ⟨(KeepsOthers.drew W).trans (KeepsOthers.setCell _ _ _), ⟨Below.heap_setCell _ _ _ _ (by simp only [ne_eq]; omega), Below.heap_setCell _ _ _ _ (by simp only [ne_eq]; omega)⟩, ⟨?_, ?_⟩, Below.setCell (p := ⟨w.heap.size + 1, 0, none⟩) (below_drewN hB 1) (by simp only; omega) _⟩
    · exact Boxed.other (W := W.drew) (B := w.heap.size) (B' := w.heap.size + 1) b0 (by omega) _
    · have := Boxed.set (W := W.drew) (.int .i64 ((ss + pp : Nat) : Int)) b1
      rw [HS.out]
      rw [show ((ss + pp : Nat) : Int) = (ss : Int) + pp by omega] at this ⊢
      exact this
  case done =>
    rintro D xs W hD rfl ⟨⟨b0, b1⟩, hB⟩ hK
    have kc := b1.cell
    rw [sumP_all] at kc
    gi_wp2
    refine ⟨by simp, .inl ⟨_, _, rfl, run_takeDeferred hK, ?_⟩⟩
    exact ⟨_, results_tmp rfl _ _ _, by rw [he]; rfl, hB.trans (belowK_b (w := w) (Nat.le_refl _) W D _ _ (by omega) hK rfl rfl)⟩
  case stop =>
    rintro D c pre W _ _ h _
    exact h.elim

set_option maxRecDepth 100000 in
set_option maxHeartbeats 4000000 in
theorem count_4 (b g n e : Nat) (M : Nat → Bool) (fr be : Int) (h2 : ¬ (n : Int) < be) (hf : fr < 0) (he : e = be.toNat) (hel : e ≤ 1048576) (w : World) (hM : Mp w b g n M) (hL : Laid w) (hen : e ≤ n) :
    Calls Tryd.prog 15 #[.pointer (some ⟨b, 0, none⟩), .int .i64 fr, .int .i64 be] w fun r w' => r = .returned (.int .i64 (rk M e - rk M 0 : Nat)) ∧ Below w.heap.size w w' := by
  refine (callsIn_wide (n := 9)).1 ?_
  refine callsIn_of_wp_marks Tryd.func15 rfl trivial ?_ rfl
  simp only [Tryd.ntmps15, List.size_toArray, List.length_cons, List.length_nil, Nat.reduceAdd, Nat.reduceSub, Array.replicate_succ, Array.replicate_zero, List.push_toArray, List.append_toArray, List.nil_append, List.cons_append]
  have hn := hM.le
  have hM1 := hM.below (Below.alloc (Below.alloc (Below.refl _ _) (Nat.le_refl _) (.cells #[.pointer (some ⟨b, 0, none⟩)] 31)) (by simp) (.cells #[.int .i64 0] 3))
  have k0 := hM1.c0
  have HM : Hid (Mp w b g n M) := hM
  have HL : Hid (Laid w) := hL
  clear hM1 hL hM
  gi_wp2
  refine ⟨trivial, (callsIn_wide.2 (pieces_any _ _ _)).mono ?_⟩
  rintro r w1 ⟨rfl, rfl⟩
  clear k0
  gi_wp2
  obtain ⟨W0, hW0⟩ : ∃ W0, W0 = ((((w.alloc (.cells #[.pointer (some ⟨b, 0, none⟩)] 31)).alloc (.cells #[.int .i64 0] 3)).alloc (.cells #[.int .i64 0] 3)).alloc (.cells #[.int .i64 be] 3)) := ⟨_, rfl⟩
  rw [← hW0]
  have hb0 : Below w.heap.size w W0 := by rw [hW0]; exact (((Below.alloc (Below.refl _ _) (Nat.le_refl _) _).alloc (by simp) _).alloc (by simp; omega) _).alloc (by simp; omega) _
  have hsz : W0.heap.size = w.heap.size + 4 := by rw [hW0]; simp
  have c0 : Boxed W0 w.heap.size 31 (.pointer (some ⟨b, 0, none⟩)) := by rw [hW0]; exact (((Boxed.new w 31 (.pointer (some ⟨b, 0, none⟩))).alloc _).alloc _).alloc _
  have c1 : Boxed W0 (w.heap.size + 1) 3 (.int .i64 0) := by
    have := (((Boxed.new (w.alloc (.cells #[.pointer (some ⟨b, 0, none⟩)] 31)) 3 (.int .i64 0)).alloc (.cells #[.int .i64 0] 3)).alloc (.cells #[.int .i64 be] 3))
    rw [← hW0, World.size_alloc] at this; exact this
  have c2 : Boxed W0 (w.heap.size + 1 + 1) 3 (.int .i64 0) := by
    have := ((Boxed.new ((w.alloc (.cells #[.pointer (some ⟨b, 0, none⟩)] 31)).alloc (.cells #[.int .i64 0] 3)) 3 (.int .i64 0)).alloc (.cells #[.int .i64 be] 3))
    rw [← hW0, World.size_alloc, World.size_alloc] at this; exact this
  have c3 : Boxed W0 (w.heap.size + 1 + 1 + 1) 3 (.int .i64 be) := by
    have := (Boxed.new (((w.alloc (.cells #[.pointer (some ⟨b, 0, none⟩)] 31)).alloc (.cells #[.int .i64 0] 3)).alloc (.cells #[.int .i64 0] 3)) 3 (.int .i64 be))
    rw [← hW0, World.size_alloc, World.size_alloc, World.size_alloc] at this; exact this
  clear hW0
  refine wpIn_rangeFunc_ownF rfl (by decide) (gf := 40) (lb := #[.pointer (some ⟨w.heap.size + 1 + 1, 0, none⟩), .pointer (some ⟨w.heap.size + 1 + 1 + 1, 0, none⟩)]) rfl trivial (enters_of Tryd.func40 (by kernel_rfl) rfl)
    (pieces_stops _ _ _ 0 be e (by omega) hel (by decide) W0 c2.cell c3.cell) (fun h k => ⟨k.1.trans h.1, k.2.trans h.2⟩) (fun W l o o' hl ho _ _ => ⟨World.putObj_heap_other (by omega), World.putObj_heap_other (by omega)⟩) (Below.refl _ _) (fun _ => rfl)
    (fun pre W => (Boxed W w.heap.size 31 (.pointer (some ⟨b, 0, none⟩)) ∧ Boxed W (w.heap.size + 1) 3 (.int .i64 (sumP M pre : Nat))) ∧ Below w.heap.size w W)
    (fun _ _ _ => False)
    ?own (fun _ _ _ _ _ h _ _ => h) ⟨⟨c0, c1⟩, hb0⟩
    (fun x => { tmps := #[.pointer (some ⟨b, 0, none⟩), .int .i64 fr, .int .i64 be, .pointer (some ⟨w.heap.size, 0, none⟩), undef, undef, .int .i64 0, .pointer (some ⟨w.heap.size + 1, 0, none⟩), .int .i64 ((x.1.1 : Int) / 64), .int .u64 (mk (x.1.1 % 64) (x.1.2 - x.1.1 / 64 * 64) : Nat), .int .i64 fr, .int .i64 0, .int .i64 be, .pointer (some ⟨b, 0, none⟩), .pointer (some ⟨b, 0, none⟩), .pointer (some ⟨b, 0, none⟩), .int .i64 n, .int .i64 be, .func (.func 40) #[] #[.pointer (some ⟨w.heap.size + 1 + 1, 0, none⟩), .pointer (some ⟨w.heap.size + 1 + 1 + 1, 0, none⟩)], .int .i64 ((x.1.1 : Int) / 64), .int .u64 (mk (x.1.1 % 64) (x.1.2 - x.1.1 / 64 * 64) : Nat), undef, undef, undef, undef, undef, undef, undef, undef, undef, undef, undef, undef, undef], defers := [] }) ?assign ?body ?done ?stop
  case own =>
    exact OwnFrom.and (Own.from (fun s A B row hs hg hr => ⟨boxed_own _ _ (fun _ => _) s A B row hs.1 hg hr, boxed_own _ _ (fun s => .int .i64 (sumP M s : Nat)) s A B row hs.2 hg hr⟩) _) (ownFrom_below (by omega) (by omega))
  case assign =>
    intro l x W K hK
    gi_wp2
    exact hK
  case body =>
    rintro l pre ⟨⟨a, q⟩, h1, h2, h3⟩ W ⟨⟨b0, b1⟩, hB⟩ hlen
    have hpl := pcs_len (e := e) (f := 0)
    have hsl := sumP_le M pre
    have hss := sumP_snoc M ⟨(a, q), h1, h2, h3⟩ pre
    dsimp only at h1 h2 h3 hss ⊢
    have hMW := HM.out.below hB
    have hia : a / 64 < wds n := by unfold wds; omega
    have k0 := b0.cell
    have k1 := b1.cell
    have kf := b1.frozen
    have k2 := hMW.c1
    have k3 := hMW.at hia
    have hve := u64_and_nat (wd M (a / 64)) (mk (a % 64) (q - a / 64 * 64)) (wd_lt M _) (mk_lt (by omega))
    have hvl : wd M (a / 64) &&& mk (a % 64) (q - a / 64 * 64) < 18446744073709551616 := Nat.lt_of_le_of_lt Nat.and_le_left (wd_lt M _)
    have hmkb : mk (a % 64) (q - a / 64 * 64) < 18446744073709551616 := mk_lt (by omega)
    have hwdb := wd_lt M (a / 64)
    have hon := ones_any _ hvl W.drew (HL.out.below (hB.drew))
    have hpo := pop_le (wd M (a / 64) &&& mk (a % 64) (q - a / 64 * 64))
    have HS : Hid (sumP M (pre ++ [⟨(a, q), h1, h2, h3⟩]) = sumP M pre + pop (wd M (a / 64) &&& mk (a % 64) (q - a / 64 * 64))) := hss
    clear hss
    generalize pop (wd M (a / 64) &&& mk (a % 64) (q - a / 64 * 64)) = pp at *
    generalize wd M (a / 64) &&& mk (a % 64) (q - a / 64 * 64) = vv at *
    generalize mk (a % 64) (q - a / 64 * 64) = mm at *
    generalize wd M (a / 64) = ww at *
    generalize sumP M pre = ss at *
    gi_wp2
    refine qtail_round 12 mixed (by kernel_rfl) (by kernel_rfl) (by rintro ⟨_, _, h⟩; exact h) ?_
    simp only [List.take_succ_cons, List.take_zero, List.drop_succ_cons, List.drop_zero]
    have hon' : Calls Tryd.prog 28 #[.int .u64 vv] W.drew fun e w'' => e = .returned (.int .i64 pp) ∧ w'' = W.drew := hon.mono (fun _ _ h => ⟨h.1, h.2.symm⟩)
    clear hon
    repeat (go_big_quiet_step (exact hon' _))
    refine wpQuiet_nil ?_
    have k4 : W.drew.cell? ⟨w.heap.size + 1, 0, none⟩ = some (.int .i64 ss) := k1
    have k5 : W.drew.frozen? ⟨w.heap.size + 1, 0, none⟩ = false := kf
    clear k0 k1 k2 k3 kf
    go_wp2
    refine ⟨(KeepsOthers.drew W).trans (KeepsOthers.setCell _ _ _), ⟨Below.heap_setCell _ _ _ _ (by simp only [ne_eq]; omega), Below.heap_setCell _ _ _ _ (by simp only [ne_eq]; omega)⟩, ⟨?_, ?_⟩, Below.setCell (p := ⟨w.heap.size + 1, 0, none⟩) (below_drewN hB 1) (by simp only; omega) _⟩
    · exact Boxed.other (W := W.drew) (B := w.heap.size) (B' := w.heap.size + 1) b0 (by omega) _
    · have := Boxed.set (W := W.drew) (.int .i64 ((ss + pp : Nat) : Int)) b1
      rw [HS.out]
      rw [show ((ss + pp : Nat) : Int) = (ss : Int) + pp by omega] at this ⊢
      exact this
  case done =>
    rintro D xs W hD rfl ⟨⟨b0, b1⟩, hB⟩ hK
    have kc := b1.cell
    rw [sumP_all] at kc
    gi_wp2
    refine ⟨by simp, .inl ⟨_, _, rfl, run_takeDeferred hK, ?_⟩⟩
    exact ⟨_, results_tmp rfl _ _ _, by rw [he]; rfl, hB.trans (belowK_b (w := w) (Nat.le_refl _) W D _ _ (by omega) hK rfl rfl)⟩
  case stop =>
    rintro D c pre W _ _ h _
    exact h.elim

theorem count_any (b g n : Nat) (M : Nat → Bool) (fr be : Int) (hfr : fr ≤ 9223372036854775807) (w : World) (hM : Mp w b g n M) (hL : Laid w) :
    Calls Tryd.prog 15 #[.pointer (some ⟨b, 0, none⟩), .int .i64 fr, .int .i64 be] w fun r w' => r = .returned (.int .i64 (rk M (min be n).toNat - rk M (max fr 0).toNat : Nat)) ∧ Below w.heap.size w w' := by
  have hn := hM.le
  by_cases h1 : fr < 0
  · rw [show (max fr 0).toNat = 0 by omega]
    by_cases h2 : (n : Int) < be
    · exact count_3 b g n _ M fr be h2 h1 (by omega) (by omega) w hM hL (by omega)
    · rw [show min be (n : Int) = be by omega]
      exact count_4 b g n _ M fr be h2 h1 rfl (by omega) w hM hL (by omega)
  · obtain ⟨f, rfl⟩ := Int.eq_ofNat_of_zero_le (show 0 ≤ fr by omega)
    rw [show (max (f : Int) 0).toNat = f by omega]
    by_cases h2 : (n : Int) < be
    · exact count_1 b g n f _ M f be h2 rfl (by omega) (by omega) (by omega) w hM hL (by omega)
    · rw [show min be (n : Int) = be by omega]
      exact count_2 b g n f _ M f be h2 rfl rfl (by omega) (by omega) w hM hL (by omega)

end Go.Proofs.YtlnfhnahnmblmabDoor
