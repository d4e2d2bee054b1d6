/-
  seek.
-/
import Derived.Test.YtlnfhnahnmblmabDoorMR
set_option linter.unusedVariables false
namespace Go.Proofs.YtlnfhnahnmblmabDoor
open Go.RowKit Go.Shelf

attribute [local go_sem] Oper.semAt_some

theorem results_cell1 {P : Program} {fn : Func} {p : Tmp} {ty : TypeId} (h : fn.results = #[.cell p ty]) {tmps : Array Value} {w : World} {v : Value} {A : Addr} (ha : tmps.getD p undef = .pointer (some A)) (hl : (loadVar ty A).run P w = .ok v w) :
    (results fn tmps).run P w = .ok v w := by
  have ha' : tmps[p]?.getD undef = .pointer (some A) := by simpa using ha
  simp [results, h, ha', asAddr, hl]

theorem load_int {w : World} {A : Addr} {v : Int} (h : w.cell? A = some (.int .i64 v)) : (loadVar 3 A).run Tryd.prog w = .ok (.int .i64 v) w := by
  simp [loadVar, go_sem, h]

theorem xor_flip (M : Nat → Bool) (fl : Bool) (i a b : Nat) (h : a ≤ b) (hb : b ≤ 64) : ∃ v : Nat, v < 18446744073709551616 ∧ bits .and .u64 (bits .xor .u64 ((wd M i : Nat) : Int) (if fl then 18446744073709551615 else 0)) ((mk a b : Nat) : Int) = (v : Int) ∧ ∀ j, v.testBit j = ((M (64 * i + j) ^^ fl) && (decide (a ≤ j) && decide (j < b))) := by
  have hf : (if fl then 18446744073709551615 else 0 : Int) = ((if fl then 18446744073709551615 else 0 : Nat) : Int) := by cases fl <;> rfl
  have hfl : (if fl then 18446744073709551615 else 0 : Nat) < 18446744073709551616 := by cases fl <;> decide
  have hx : (wd M i ^^^ (if fl then 18446744073709551615 else 0 : Nat)) < 2 ^ 64 := Nat.xor_lt_two_pow (wd_lt M i) hfl
  refine ⟨(wd M i ^^^ (if fl then 18446744073709551615 else 0 : Nat)) &&& mk a b, Nat.lt_of_le_of_lt Nat.and_le_left hx, ?_, ?_⟩
  · rw [hf, u64_xor_nat _ _ (wd_lt M i) hfl, u64_and_nat _ _ hx (mk_lt hb)]
  · intro j
    rw [Nat.testBit_and, Nat.testBit_xor, wd_bit, mk_bit h]
    have hfb : (if fl then 18446744073709551615 else 0 : Nat).testBit j = (fl && decide (j < 64)) := by
      cases fl
      · simp
      · simp only [if_true, Bool.true_and]
        exact Nat.testBit_two_pow_sub_one 64 j
    rw [hfb]
    by_cases hj : j < 64
    · simp [hj]
    · have : ¬ j < b := by omega
      simp [this]

/-- The first word from f on, ahead of e, that isn't fl; e: there is none. -/
def Sk (M : Nat → Bool) (fl : Bool) (f e r : Nat) : Prop :=
  (r = e ∧ ∀ k, f ≤ k → k < e → M k = fl) ∨ (f ≤ r ∧ r < e ∧ M r = !fl ∧ ∀ k, f ≤ k → k < r → M k = fl)

abbrev flip (fl : Bool) : Int := if fl then 18446744073709551615 else 0

theorem pcs_all {M : Nat → Bool} {fl : Bool} {e : Nat} : ∀ {f : Nat}, (∀ x ∈ pcs e f, ∀ k, x.1.1 ≤ k → k < x.1.2 → M k = fl) → ∀ k, f ≤ k → k < e → M k = fl := by
  intro f
  induction hn : e - f using Nat.strongRecOn generalizing f with
  | ind n ih =>
    intro h k h1 h2
    obtain ⟨hp, hpc⟩ := pcs_cons (e := e) (f := f) (by omega)
    rw [hpc] at h
    by_cases h3 : k < min e (f / 64 * 64 + 64)
    · exact h _ (List.mem_cons_self ..) k h1 h3
    · exact ih (e - min e (f / 64 * 64 + 64)) (by omega) rfl (fun x hx => h x (List.mem_cons_of_mem _ hx)) k (by omega) h2

theorem pcs_stop {M : Nat → Bool} {fl : Bool} {e : Nat} {x : Pc e} {k : Nat} : ∀ {q : List (Pc e)} {f : Nat}, q ++ [x] <+: pcs e f → x.1.1 ≤ k → k < x.1.2 → M k = (!fl) → (∀ j, x.1.1 ≤ j → j < k → M j = fl) → (∀ x ∈ q, ∀ k, x.1.1 ≤ k → k < x.1.2 → M k = fl) → Sk M fl f e k := by
  intro q
  induction q with
  | nil =>
    intro f h h1 h2 h3 h4 _
    by_cases hf : f < e
    · obtain ⟨hp, hpc⟩ := pcs_cons hf
      rw [hpc] at h
      obtain ⟨t, ht⟩ := h
      simp only [List.nil_append, List.cons_append, List.cons.injEq] at ht
      have e1 := ht.1
      subst e1
      dsimp only at h1 h2 h4
      exact .inr ⟨h1, by omega, h3, h4⟩
    · rw [pcs_nil (by omega)] at h
      simp at h
  | cons y q ih =>
    intro f h h1 h2 h3 h4 h5
    by_cases hf : f < e
    · obtain ⟨hp, hpc⟩ := pcs_cons hf
      rw [hpc] at h
      obtain ⟨t, ht⟩ := h
      simp only [List.cons_append, List.cons.injEq] at ht
      obtain ⟨e1, e2⟩ := ht
      subst e1
      have := ih ⟨t, e2⟩ h1 h2 h3 h4 (fun x hx => h5 x (List.mem_cons_of_mem _ hx))
      have hy := h5 _ (List.mem_cons_self ..)
      dsimp only at hy
      have hx1 := x.2.1
      have hx2 := x.2.2.1
      rcases this with ⟨h6, h7⟩ | ⟨h6, h7, h8, h9⟩
      · omega
      · refine .inr ⟨by omega, h7, h8, fun j h10 h11 => ?_⟩
        by_cases h12 : j < min e (f / 64 * 64 + 64)
        · exact hy j h10 h12
        · exact h9 j (by omega) h11
    · rw [pcs_nil (by omega)] at h
      simp at h

set_option maxRecDepth 100000 in
set_option maxHeartbeats 4000000 in
theorem seek_any (M : Nat → Bool) (fl : Bool) (p : Option Addr) (L C f e : Nat) (hel : e ≤ 1048576) (hf63 : f < 9223372036854775808) (w : World)
    (hc : ∀ i, 64 * i < e → i < L ∧ ∃ g, p = some ⟨g, 0, none⟩ ∧ w.cell? ⟨g, i, none⟩ = some (.int .u64 (wd M i : Nat))) (hL : Laid w) :
    Calls Tryd.prog 26 #[.slice p L C, .int .i64 f, .int .i64 e, .int .u64 (flip fl)] w fun r w' => ∃ k, Sk M fl f e k ∧ r = .returned (.int .i64 (k : Nat)) ∧ Below w.heap.size w w' := by
  refine (callsIn_wide (n := 9)).1 ?_
  refine callsIn_of_wp_marks Tryd.func26 rfl trivial ?_ rfl
  simp only [Tryd.ntmps26, List.size_toArray, List.length_cons, List.length_nil, Nat.reduceAdd, Nat.reduceSub, Array.replicate_succ, Array.replicate_zero, List.push_toArray, List.append_toArray, List.nil_append, List.cons_append]
  generalize hfl : flip fl = u
  have HC : Hid _ := hc
  clear hc
  gi_wp2
  refine ⟨trivial, (callsIn_wide.2 (pieces_any _ _ _)).mono ?_⟩
  rintro r w1 ⟨rfl, rfl⟩
  gi_wp2
  have HL : Hid (Laid w) := hL
  clear hL
  obtain ⟨W0, hW0⟩ : ∃ W0, W0 = (((((w.alloc (.cells #[.slice p L C] 55)).alloc (.cells #[.int .u64 u] 59)).alloc (.cells #[.int .i64 0] 3)).alloc (.cells #[.int .i64 f] 3)).alloc (.cells #[.int .i64 e] 3)) := ⟨_, rfl⟩
  rw [← hW0]
  have hb0 : Below w.heap.size w W0 := by rw [hW0]; exact ((((Below.alloc (Below.refl _ _) (Nat.le_refl _) _).alloc (by simp) _).alloc (by simp; omega) _).alloc (by simp; omega) _).alloc (by simp; omega) _
  have hsz : W0.heap.size = w.heap.size + 5 := by rw [hW0]; simp
  have c0 : Boxed W0 w.heap.size 55 (.slice p L C) := by rw [hW0]; exact ((((Boxed.new w 55 (.slice p L C)).alloc _).alloc _).alloc _).alloc _
  have c1 : Boxed W0 (w.heap.size + 1) 59 (.int .u64 u) := by
    have := ((((Boxed.new (w.alloc (.cells #[.slice p L C] 55)) 59 (.int .u64 u)).alloc (.cells #[.int .i64 0] 3)).alloc (.cells #[.int .i64 f] 3)).alloc (.cells #[.int .i64 e] 3))
    rw [← hW0, World.size_alloc] at this; exact this
  have c2 : Boxed W0 (w.heap.size + 1 + 1) 3 (.int .i64 0) := by
    have := (((Boxed.new ((w.alloc (.cells #[.slice p L C] 55)).alloc (.cells #[.int .u64 u] 59)) 3 (.int .i64 0)).alloc (.cells #[.int .i64 f] 3)).alloc (.cells #[.int .i64 e] 3))
    rw [← hW0, World.size_alloc, World.size_alloc] at this; exact this
  have c3 : Boxed W0 (w.heap.size + 1 + 1 + 1) 3 (.int .i64 f) := by
    have := ((Boxed.new (((w.alloc (.cells #[.slice p L C] 55)).alloc (.cells #[.int .u64 u] 59)).alloc (.cells #[.int .i64 0] 3)) 3 (.int .i64 f)).alloc (.cells #[.int .i64 e] 3))
    rw [← hW0, World.size_alloc, World.size_alloc, World.size_alloc] at this; exact this
  have c4 : Boxed W0 (w.heap.size + 1 + 1 + 1 + 1) 3 (.int .i64 e) := by
    have := (Boxed.new ((((w.alloc (.cells #[.slice p L C] 55)).alloc (.cells #[.int .u64 u] 59)).alloc (.cells #[.int .i64 0] 3)).alloc (.cells #[.int .i64 f] 3)) 3 (.int .i64 e))
    rw [← hW0, World.size_alloc, World.size_alloc, World.size_alloc, World.size_alloc] at this; exact this
  clear hW0
  refine wpIn_rangeFunc_ownF rfl (by decide) (gf := 40) (lb := #[.pointer (some ⟨w.heap.size + 1 + 1 + 1, 0, none⟩), .pointer (some ⟨w.heap.size + 1 + 1 + 1 + 1, 0, none⟩)]) rfl trivial (enters_of Tryd.func40 (by kernel_rfl) rfl)
    (pieces_stops _ _ _ f e e (by omega) hel hf63 W0 c3.cell c4.cell) (fun h k => ⟨k.1.trans h.1, k.2.trans h.2⟩) (fun W l o o' hl ho _ _ => ⟨World.putObj_heap_other (by omega), World.putObj_heap_other (by omega)⟩) (Below.refl _ _) (fun _ => rfl)
    (fun pre W => (Boxed W w.heap.size 55 (.slice p L C) ∧ Boxed W (w.heap.size + 1) 59 (.int .u64 u) ∧ Boxed W (w.heap.size + 1 + 1) 3 (.int .i64 0)) ∧ Below w.heap.size w W ∧ Hid (∀ x ∈ pre, ∀ k, x.1.1 ≤ k → k < x.1.2 → M k = fl))
    (fun c pre W => (c = .ret ∧ ∃ q x, pre = q ++ [x] ∧ ∃ k, Boxed W (w.heap.size + 1 + 1) 3 (.int .i64 (k : Nat)) ∧ x.1.1 ≤ k ∧ k < x.1.2 ∧ M k = (!fl) ∧ (∀ j, x.1.1 ≤ j → j < k → M j = fl) ∧ (∀ x ∈ q, ∀ k, x.1.1 ≤ k → k < x.1.2 → M k = fl)) ∧ Below w.heap.size w W)
    ?own ?ownx ⟨⟨c0, c1, c2⟩, hb0, (fun x hx => by simp at hx : ∀ x ∈ ([] : List (Pc e)), ∀ k, x.1.1 ≤ k → k < x.1.2 → M k = fl)⟩
    (fun x => { tmps := #[.slice p L C, .int .i64 f, .int .i64 e, .int .u64 u, .pointer (some ⟨w.heap.size, 0, none⟩), undef, undef, .pointer (some ⟨w.heap.size + 1, 0, none⟩), .pointer (some ⟨w.heap.size + 1 + 1, 0, none⟩), .int .i64 ((x.1.1 : Int) / 64), .int .u64 (mk (x.1.1 % 64) (x.1.2 - x.1.1 / 64 * 64) : Nat), undef, .int .i64 f, .int .i64 e, .func (.func 40) #[] #[.pointer (some ⟨w.heap.size + 1 + 1 + 1, 0, none⟩), .pointer (some ⟨w.heap.size + 1 + 1 + 1 + 1, 0, none⟩)], .int .i64 ((x.1.1 : Int) / 64), .int .u64 (mk (x.1.1 % 64) (x.1.2 - x.1.1 / 64 * 64) : Nat), undef, undef, undef, undef, undef, undef, undef, undef, undef, undef, undef, undef, undef, undef, undef, undef], defers := [] }) ?assign ?body ?done ?stop
  case own =>
    exact OwnFrom.and (Own.from (fun s A B row hs hg hr => ⟨boxed_own _ _ (fun _ => _) s A B row hs.1 hg hr, boxed_own _ _ (fun _ => _) s A B row hs.2.1 hg hr, boxed_own _ _ (fun _ => _) s A B row hs.2.2 hg hr⟩) _) (OwnFrom.and (ownFrom_below (by omega) (by omega)) (ownFrom_pure _ _))
  case ownx =>
    intro c
    refine OwnFrom.and (Own.from (fun s A B row hs hg hr => ?_) _) (ownFrom_below (by omega) (by omega))
    obtain ⟨e1, q, x, e2, k, hb, hr2⟩ := hs
    exact ⟨e1, q, x, e2, k, boxed_own _ _ (fun _ => _) s A B row hb hg hr, hr2⟩
  case assign =>
    intro l x W K hK
    gi_wp2
    exact hK
  case body =>
    rintro l pre ⟨⟨a, q⟩, h1, h2, h3⟩ W ⟨⟨b0, b1, b2⟩, hB, hp⟩ hlen
    dsimp only at h1 h2 h3 ⊢
    obtain ⟨hi, g, rfl, hcc⟩ := HC.out (a / 64) (by omega)
    have k0 := b0.cell
    have k1 := b1.cell
    have k3 : W.cell? ⟨g, a / 64, none⟩ = some (.int .u64 (wd M (a / 64) : Nat)) := (hB.cell (World.block_lt_of_cell? _ _ hcc)).trans hcc
    obtain ⟨v, hv, hve, hvb⟩ := xor_flip M fl (a / 64) (a % 64) (q - a / 64 * 64) (by omega) (by omega)
    rw [show (if fl then 18446744073709551615 else 0 : Int) = u from hfl] at hve
    have Hvb : Hid (∀ j, v.testBit j = ((M (64 * (a / 64) + j) ^^ fl) && (decide (a % 64 ≤ j) && decide (j < q - a / 64 * 64)))) := hvb
    have hmkb : mk (a % 64) (q - a / 64 * 64) < 18446744073709551616 := mk_lt (by omega)
    have hwdb := wd_lt M (a / 64)
    have hu : 0 ≤ u ∧ u < 18446744073709551616 := by rw [← hfl]; cases fl <;> decide
    have HCc : Hid _ := hcc
    clear hvb hcc hfl
    generalize mk (a % 64) (q - a / 64 * 64) = mm at *
    generalize wd M (a / 64) = ww at *
    gi_wp2
    refine quiet_round mixed (by kernel_rfl) (by kernel_rfl) (by rintro ⟨_, _, h⟩; exact h) ?_
    repeat (go_big_quiet_step (fail))
    refine wpQuiet_nil ?_
    rintro w6 ⟨nn, hw6⟩
    have b2' : Boxed w6 (w.heap.size + 1 + 1) 3 (.int .i64 0) := by rw [hw6]; exact b2
    have hB' : Below w.heap.size w w6 := by rw [hw6]; exact below_drewN hB nn
    have HB6 : Hid (Boxed w6 w.heap.size 55 (.slice (some ⟨g, 0, none⟩) L C) ∧ Boxed w6 (w.heap.size + 1) 59 (.int .u64 u)) := by rw [hw6]; exact ⟨b0, b1⟩
    have HK6 : Hid (KeepsOthers W w6 ∧ Kp2 (w.heap.size + 1 + 1 + 1) (w.heap.size + 1 + 1 + 1 + 1) W w6) := by rw [hw6]; exact ⟨⟨Nat.le_refl _, fun _ _ h _ => h⟩, ⟨rfl, rfl⟩⟩
    clear hw6 k0 k1 k3 hve b0 b1 b2
    by_cases hv0 : v = 0
    · subst hv0
      have hz : ∀ k, a ≤ k → k < q → M k = fl := fun k h4 h5 => by
        have := Hvb.out (k - 64 * (a / 64))
        rw [Nat.zero_testBit, show 64 * (a / 64) + (k - 64 * (a / 64)) = k by omega, decide_eq_true (show a % 64 ≤ k - 64 * (a / 64) by omega), decide_eq_true (show k - 64 * (a / 64) < q - a / 64 * 64 by omega)] at this
        cases hM : M k <;> cases fl <;> simp [hM] at this ⊢
      have Hz : Hid (∀ k, a ≤ k → k < q → M k = fl) := hz
      clear hz
      gi_wp2
      refine ⟨HK6.out.1, HK6.out.2, ⟨HB6.out.1, HB6.out.2, b2'⟩, hB', ?_⟩
      intro x hx
      rcases List.mem_append.1 hx with h | h
      · exact hp.out x h
      · simp only [List.mem_singleton] at h; subst h; exact Hz.out
    · have htz := tz_any v hv0 hv w6 (HL.out.below hB')
      obtain ⟨t1, t2, t3⟩ := ctz_spec hv0 hv
      have Ht : Hid (v.testBit (Lib.ctz 64 v) = true ∧ (∀ j, j < Lib.ctz 64 v → v.testBit j = false)) := ⟨t2, t3⟩
      have kf := b2'.frozen
      have kc := b2'.cell
      have hne : ((v : Int) == 0) = false := by simp; omega
      clear t2 t3
      generalize Lib.ctz 64 v = tz at *
      gi_wp2
      refine ⟨trivial, ((callsIn_wide.2 htz).inRound l).mono ?_⟩
      rintro r w7 ⟨rfl, rfl⟩
      clear htz
      gi_wp2
      refine ⟨HK6.out.1.trans (KeepsOthers.setCell _ _ _), ⟨rfl, pre, ⟨(a, q), h1, h2, h3⟩, rfl, 64 * (a / 64) + tz, ?_, ?_⟩, Below.setCell (p := ⟨w.heap.size + 1 + 1, 0, none⟩) hB' (by simp only; omega) _⟩
      · have := b2'.set (.int .i64 ((64 * (a / 64) + tz : Nat) : Int))
        have e : ((64 * (a / 64) + tz : Nat) : Int) = (a : Int) / 64 * 64 + tz := by omega
        rw [e] at this ⊢
        exact this
      · obtain ⟨u1, u2⟩ := Ht.out
        have u3 := Hvb.out tz
        rw [u1] at u3
        have u4 : a % 64 ≤ tz ∧ tz < q - a / 64 * 64 ∧ M (64 * (a / 64) + tz) = !fl := by
          cases hM : M (64 * (a / 64) + tz) <;> cases fl <;> simp [hM] at u3 ⊢ <;> exact u3
        refine ⟨by dsimp only; omega, by dsimp only; omega, u4.2.2, ?_, hp.out⟩
        intro j h4 h5
        dsimp only at h4
        have := Hvb.out (j - 64 * (a / 64))
        rw [u2 _ (by omega), show 64 * (a / 64) + (j - 64 * (a / 64)) = j by omega, decide_eq_true (show a % 64 ≤ j - 64 * (a / 64) by omega), decide_eq_true (show j - 64 * (a / 64) < q - a / 64 * 64 by omega)] at this
        cases hM : M j <;> cases fl <;> simp [hM] at this ⊢
  case done =>
    rintro D xs W hD rfl ⟨⟨b0, b1, b2⟩, hB, hp⟩ hK
    have kf := b2.frozen
    have kc := b2.cell
    have Hp : Hid (∀ k, f ≤ k → k < e → M k = fl) := pcs_all hp.out
    clear hp
    gi_wp2
    have hK' : (W.setCell ⟨w.heap.size + 1 + 1, 0, none⟩ (.int .i64 e)).heap[D]? = some (.deferred (some [])) := (KeepsOthers.setCell _ _ _).same D _ hK rfl
    have hB' : Below w.heap.size w (W.setCell ⟨w.heap.size + 1 + 1, 0, none⟩ (.int .i64 e)) := Below.setCell (p := ⟨w.heap.size + 1 + 1, 0, none⟩) hB (by simp only; omega) _
    have hb' := b2.set (.int .i64 e)
    generalize (W.setCell ⟨w.heap.size + 1 + 1, 0, none⟩ (.int .i64 e)) = W5 at *
    have kc' : (W5.putObj D (.deferred none)).cell? ⟨w.heap.size + 1 + 1, 0, none⟩ = some (.int .i64 e) := cell_kept hb'.cell (grownBy_putObj' _ D (.deferred none)) (fun r e => by cases e; exact ⟨_, hK', rfl⟩)
    refine ⟨by simp, .inl ⟨_, _, rfl, run_takeDeferred hK', ?_⟩⟩
    exact ⟨_, results_cell1 Tryd.results26 rfl (load_int kc'), e, .inl ⟨rfl, Hp.out⟩, rfl, hB'.trans (belowK_b (w := w) (Nat.le_refl _) W5 D _ _ (by omega) hK' rfl rfl)⟩
  case stop =>
    rintro D c pre W hD hpre ⟨⟨rfl, q, x, rfl, k, hb, hk⟩, hB⟩ hK
    have kc := hb.cell
    have Hs : Hid (Sk M fl f e k) := pcs_stop hpre hk.1 hk.2.1 hk.2.2.1 hk.2.2.2.1 hk.2.2.2.2
    clear hk
    gi_wp2
    have kc' : (W.putObj D (.deferred none)).cell? ⟨w.heap.size + 1 + 1, 0, none⟩ = some (.int .i64 k) := cell_kept hb.cell (grownBy_putObj' _ D (.deferred none)) (fun r e => by cases e; exact ⟨_, hK, rfl⟩)
    refine ⟨by simp, .inl ⟨_, _, rfl, run_takeDeferred hK, ?_⟩⟩
    exact ⟨_, results_cell1 Tryd.results26 rfl (load_int kc'), k, Hs.out, rfl, hB.trans (belowK_b (w := w) (Nat.le_refl _) W D _ _ (by omega) hK rfl rfl)⟩
end Go.Proofs.YtlnfhnahnmblmabDoor
