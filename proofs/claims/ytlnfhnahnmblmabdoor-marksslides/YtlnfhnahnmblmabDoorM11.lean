/-
  Slide.
-/
import Derived.Test.YtlnfhnahnmblmabDoorM10
set_option linter.unusedVariables false
namespace Go.Proofs.YtlnfhnahnmblmabDoor
open Go.RowKit Go.Shelf

attribute [local go_sem] Oper.semAt_some

set_option maxRecDepth 20000 in
set_option maxHeartbeats 1000000 in
theorem slide_out (b g n : Nat) (M : Nat → Bool) (fr be ba : Int) (hc : fr < 0 ∨ (n : Int) < be ∨ be < fr ∨ ba < 0 ∨ 1048576 < ba) (w : World) (hM : Mp w b g n M) :
    Calls Tryd.prog 32 #[.pointer (some ⟨b, 0, none⟩), .int .i64 fr, .int .i64 be, .int .i64 ba] w fun r w' => r = .returned (.tuple #[.pointer none, .int .i64 41]) ∧ w = w' := by
  have k0 := hM.c0
  clear hM
  by_cases h1 : fr < 0
  · clear hc
    go_enter Tryd.func32, Tryd.ntmps32
    go_wp2
    go_ret2
    exact ⟨rfl, rfl⟩
  · by_cases h2 : (n : Int) < be
    · clear hc
      go_enter Tryd.func32, Tryd.ntmps32
      go_wp2
      go_ret2
      exact ⟨rfl, rfl⟩
    · by_cases h3 : be < fr
      · clear hc
        go_enter Tryd.func32, Tryd.ntmps32
        go_wp2
        go_ret2
        exact ⟨rfl, rfl⟩
      · by_cases h4 : ba < 0
        · clear hc
          go_enter Tryd.func32, Tryd.ntmps32
          go_wp2
          go_ret2
          exact ⟨rfl, rfl⟩
        · have h5 : 1048576 < ba := by omega
          clear hc
          go_enter Tryd.func32, Tryd.ntmps32
          go_wp2
          go_ret2
          exact ⟨rfl, rfl⟩

theorem Sl.keep {w w' : World} {s kb kg q base e : Nat} {N : Nat → Bool} (h : Sl w s kb kg q base e N) (h1 : w'.heap[s]? = w.heap[s]?) (h2 : w'.heap[kb]? = w.heap[kb]?) (h3 : w'.heap[kg]? = w.heap[kg]?) (h4 : w'.heap[q]? = w.heap[q]?) : Sl w' s kb kg q base e N :=
  ⟨h.own.of_block h1, h.kept.keep h2 h3, h.row.of_block h4, h.base⟩
theorem Sl.below {w w' : World} {s kb kg q base e : Nat} {N : Nat → Bool} (h : Sl w s kb kg q base e N) (l : Below w.heap.size w w') : Sl w' s kb kg q base e N :=
  h.keep (l.block _ h.own.lt) (l.block _ h.kept.own.lt) (l.block _ h.kept.row.lt) (l.block _ h.row.lt)
theorem Sl.touch {w w' : World} {s kb kg q base e : Nat} {N : Nat → Bool} {F : List Nat} (h : Sl w s kb kg q base e N) (l : Touch F w w') (h1 : s ∉ F) (h2 : kb ∉ F) (h3 : kg ∉ F) (h4 : q ∉ F) : Sl w' s kb kg q base e N :=
  h.keep (l.block _ h.own.lt h1) (l.block _ h.kept.own.lt h2) (l.block _ h.kept.row.lt h3) (l.block _ h.row.lt h4)

/-- The marks of a piece. -/
def cut (M : Nat → Bool) (f e : Nat) : Nat → Bool := fun k => M k && (decide (f ≤ k) && decide (k < e))

/-- Runs, marked one behind the other. -/
def adds (l : List (Nat × Nat)) : Nat → Bool := l.foldl (fun N x => add N x.1 x.2) (fun _ => false)

theorem adds_snoc (l : List (Nat × Nat)) (x : Nat × Nat) : adds (l ++ [x]) = add (adds l) x.1 x.2 := by simp [adds, List.foldl_append]

theorem adds_at {M : Nat → Bool} {e a : Nat} {l : List (Nat × Nat)} (h : At M e a l) : a ≤ e → (∀ x ∈ l, x.1 < x.2 ∧ x.2 ≤ e) ∧ ∀ N : Nat → Bool, l.foldl (fun N x => add N x.1 x.2) N = fun k => N k || cut M a e k := by
  induction h with
  | done =>
    intro _
    refine ⟨fun x hx => by simp at hx, fun N => ?_⟩
    funext k
    have : cut M e e k = false := by unfold cut; simp
    simp [this]
  | @run a q a' l h hs hq hn r ih =>
    intro ha
    have hqe := hs.ge ha
    have hae := hn.ge hqe.2
    obtain ⟨i1, i2⟩ := ih hae.2
    refine ⟨fun x hx => ?_, fun N => ?_⟩
    · rcases List.mem_cons.1 hx with rfl | hx
      · exact ⟨hq, hqe.2⟩
      · exact i1 x hx
    · rw [List.foldl_cons, i2]
      funext k
      have hk1 : a ≤ k → k < q → M k = true := by
        rcases hs with ⟨h1, h2⟩ | ⟨h1, h2, h3, h4⟩
        · intro h5 h6; exact h2 k h5 (by omega)
        · exact h4 k
      have hk2 : q ≤ k → k < a' → M k = false := by
        rcases hn with ⟨h1, h2⟩ | ⟨h1, h2, h3, h4⟩
        · intro h5 h6; exact h2 k h5 (by omega)
        · exact h4 k
      cases hN : N k
      · simp only [add, cut, hN, Bool.false_or]
        by_cases c1 : a ≤ k
        · by_cases c2 : k < q
          · simp [c1, c2, hk1 c1 c2, show k < e by omega]
          · by_cases c3 : k < a'
            · simp [c2, hk2 (by omega) c3]
            · simp [c1, c2, show a' ≤ k by omega]
        · simp [c1, show ¬ a' ≤ k by omega]
      · simp [add, hN]

theorem adds_all {M : Nat → Bool} {f e a : Nat} {l : List (Nat × Nat)} (h : At M e a l) (hs : Sk M false f e a) (hf : f ≤ e) : adds l = cut M f e := by
  have := (adds_at h (hs.ge hf).2).2 (fun _ => false)
  unfold adds
  rw [this]
  funext k
  simp only [Bool.false_or, cut]
  have hk : f ≤ k → k < a → M k = false := by
    rcases hs with ⟨h1, h2⟩ | ⟨h1, h2, h3, h4⟩
    · intro h5 h6; exact h2 k h5 (by omega)
    · exact h4 k
  have := hs.ge hf
  by_cases c1 : f ≤ k
  · by_cases c2 : k < a
    · simp [hk c1 c2]
    · simp [c1, show a ≤ k by omega]
  · simp [c1, show ¬ a ≤ k by omega]

/-- What stands between two rounds of Slide. -/
structure Sr (w : World) (s kb kg base e : Nat) (S : Nat → Prop) (pre : List (Nat × Nat)) (W : World) : Prop where
  box : Boxed W (s + 1) 71 (.pointer (some ⟨s, 0, none⟩))
  own : W.rowIs s 87 4 (sf base 0 kb (.slice none 0 0))
  mp : Mp W kb kg e (adds pre)
  off : ¬ S kg
  lt : ∀ k, S k → k < W.heap.size
  bel : Below w.heap.size w W

theorem sr_own (w : World) (s kb kg base e B : Nat) (hs : s + 1 < B) (hkb : kb < B) (hkg : kg < B) (hB : w.heap.size ≤ B) : OwnS B (Sr w s kb kg base e) := by
  intro S pre W W' row h hg hr
  have keep : ∀ k, k < B → k < W.heap.size → W'.heap[k]? = W.heap[k]? := fun k hk hl => hg.block k hl (fun e => by have := (hr k e.symm).1; omega)
  exact ⟨(keep _ hs h.box.lt).trans h.box, h.own.of_block (keep _ (by omega) h.own.lt), h.mp.keep (keep _ hkb h.mp.own.lt) (keep _ hkg h.mp.row.lt), by
    rintro (h1 | h1)
    · exact h.off h1
    · have := h.mp.row.lt; omega, by
    rintro k (h1 | h1)
    · have := h.lt k h1; have := hg.size; omega
    · exact h1.2, h.bel.grown hg h.bel.size (fun k e => by have := (hr k e).1; omega)⟩

set_option maxRecDepth 100000 in
set_option maxHeartbeats 8000000 in
theorem slide_in (b g n f e base : Nat) (M : Nat → Bool) (hfe : f ≤ e) (hen : e ≤ n) (hba : base ≤ 1048576) (w : World) (hM : Mp w b g n M) (hL : Laid w) :
    Calls Tryd.prog 32 #[.pointer (some ⟨b, 0, none⟩), .int .i64 f, .int .i64 e, .int .i64 base] w fun r w' => (∃ s kb kg q, r = .returned (.tuple #[.pointer (some ⟨s, 0, none⟩), .int .i64 0]) ∧ Sl w' s kb kg q base e (cut M f e) ∧ w.heap.size ≤ s ∧ w.heap.size ≤ kb ∧ w.heap.size ≤ kg ∧ w.heap.size ≤ q) ∧ Below w.heap.size w w' := by
  obtain ⟨a0, hs0⟩ := sk_ex M false e _ f rfl
  have ha0 := hs0.ge hfe
  obtain ⟨l, hat⟩ := at_ex M e _ a0 rfl ha0.2 (fun h => by
    rcases hs0 with ⟨h1, _⟩ | ⟨_, _, h3, _⟩
    · omega
    · exact h3)
  have hfin := adds_all hat hs0 hfe
  have hruns := (adds_at hat ha0.2).1
  refine (callsIn_wide (n := 9)).1 ?_
  refine callsIn_of_wp_marks Tryd.func32 rfl trivial ?_ rfl
  simp only [Tryd.ntmps32, List.size_toArray, List.length_cons, List.length_nil, Nat.reduceAdd, Nat.reduceSub, Array.replicate_succ, Array.replicate_zero, List.push_toArray, List.append_toArray, List.nil_append, List.cons_append]
  have hn := hM.le
  have k0 := hM.c0
  have HM : Hid (Mp w b g n M) := hM
  have HL : Hid (Laid w) := hL
  have HA : Hid (At M e a0 l ∧ Sk M false f e a0 ∧ adds l = cut M f e ∧ ∀ x ∈ l, x.1 < x.2 ∧ x.2 ≤ e) := ⟨hat, hs0, hfin, hruns⟩
  have hbk := blank_any e (by omega) w
  have h1 : decide ((f : Int) < 0) = false := by simp
  have h4 : decide ((base : Int) < 0) = false := by simp
  have h5 : decide (1048576 < (base : Int)) = false := by simp; omega
  clear hM hL hat hs0 hfin hruns
  gi_wp2
  refine ⟨trivial, (callsIn_wide.2 hbk).mono ?_⟩
  rintro r w1 ⟨kb, kg, rfl, hM1, b1, hkb, hkg⟩
  have HM1 : Hid (Mp w1 kb kg e (fun _ => false)) := hM1
  have hkbl := hM1.own.lt
  have hkgl := hM1.row.lt
  clear hbk k0 hM1
  gi_wp2
  refine ⟨trivial, (callsIn_wide.2 (runs_any _ _ _ _)).mono ?_⟩
  rintro r w2 ⟨rfl, rfl⟩
  gi_wp2
  obtain ⟨s, hs⟩ : ∃ s, s = w1.heap.size := ⟨_, rfl⟩
  obtain ⟨W0, hW0⟩ : ∃ W0, W0 = (((((w1.alloc (.cells #[.int .i64 base, .int .i64 0, .pointer (some ⟨kb, 0, none⟩), .slice none 0 0] 87)).alloc (.cells #[.pointer (some ⟨w1.heap.size, 0, none⟩)] 71)).alloc (.cells #[.pointer (some ⟨b, 0, none⟩)] 31)).alloc (.cells #[.int .i64 f] 3)).alloc (.cells #[.int .i64 e] 3)) := ⟨_, rfl⟩
  rw [← hW0]
  have hb0' : Below w1.heap.size w1 W0 := by rw [hW0]; exact ((((Below.alloc (Below.refl _ _) (Nat.le_refl _) _).alloc (by simp) _).alloc (by simp; omega) _).alloc (by simp; omega) _).alloc (by simp; omega) _
  have hsz : W0.heap.size = s + 5 := by rw [hW0, hs]; simp
  have r0 : W0.rowIs s 87 4 (sf base 0 kb (.slice none 0 0)) := by
    have := World.rowIs_alloc w1 #[.int .i64 base, .int .i64 0, .pointer (some ⟨kb, 0, none⟩), .slice none 0 0] 87 (sf base 0 kb (.slice none 0 0)) (by
      intro i hi
      match i, hi with
      | 0, _ | 1, _ | 2, _ | 3, _ => rfl
      | j + 4, h => exact absurd (show j + 4 < 4 from h) (by omega))
    rw [hW0, hs]
    exact (((this.alloc _).alloc _).alloc _).alloc _
  have c1 : Boxed W0 (s + 1) 71 (.pointer (some ⟨s, 0, none⟩)) := by
    have := (((Boxed.new (w1.alloc (.cells #[.int .i64 base, .int .i64 0, .pointer (some ⟨kb, 0, none⟩), .slice none 0 0] 87)) 71 (.pointer (some ⟨w1.heap.size, 0, none⟩))).alloc (.cells #[.pointer (some ⟨b, 0, none⟩)] 31)).alloc (.cells #[.int .i64 f] 3)).alloc (.cells #[.int .i64 e] 3)
    rw [← hW0, World.size_alloc, ← hs] at this; exact this
  have c2 : Boxed W0 (s + 1 + 1) 31 (.pointer (some ⟨b, 0, none⟩)) := by
    have := ((Boxed.new ((w1.alloc (.cells #[.int .i64 base, .int .i64 0, .pointer (some ⟨kb, 0, none⟩), .slice none 0 0] 87)).alloc (.cells #[.pointer (some ⟨w1.heap.size, 0, none⟩)] 71)) 31 (.pointer (some ⟨b, 0, none⟩))).alloc (.cells #[.int .i64 f] 3)).alloc (.cells #[.int .i64 e] 3)
    rw [← hW0, World.size_alloc, World.size_alloc, ← hs] at this; exact this
  have c3 : Boxed W0 (s + 1 + 1 + 1) 3 (.int .i64 f) := by
    have := (Boxed.new (((w1.alloc (.cells #[.int .i64 base, .int .i64 0, .pointer (some ⟨kb, 0, none⟩), .slice none 0 0] 87)).alloc (.cells #[.pointer (some ⟨w1.heap.size, 0, none⟩)] 71)).alloc (.cells #[.pointer (some ⟨b, 0, none⟩)] 31)) 3 (.int .i64 f)).alloc (.cells #[.int .i64 e] 3)
    rw [← hW0, World.size_alloc, World.size_alloc, World.size_alloc, ← hs] at this; exact this
  have c4 : Boxed W0 (s + 1 + 1 + 1 + 1) 3 (.int .i64 e) := by
    have := Boxed.new ((((w1.alloc (.cells #[.int .i64 base, .int .i64 0, .pointer (some ⟨kb, 0, none⟩), .slice none 0 0] 87)).alloc (.cells #[.pointer (some ⟨w1.heap.size, 0, none⟩)] 71)).alloc (.cells #[.pointer (some ⟨b, 0, none⟩)] 31)).alloc (.cells #[.int .i64 f] 3)) 3 (.int .i64 e)
    rw [← hW0, World.size_alloc, World.size_alloc, World.size_alloc, World.size_alloc, ← hs] at this; exact this
  have hMk := HM1.out.below hb0'
  have hb0 := b1.trans (hb0'.mono b1.size)
  have hMb := HM.out.below hb0
  have hLb := HL.out.below hb0
  have hgs := HL.out.size
  have hws : w.heap.size ≤ s := by have := b1.size; omega
  have hks : kb < s ∧ kg < s := by omega
  rw [← hs]
  clear hW0 hb0' b1 h1 h4 h5 hkbl hkgl HM1 hs
  refine range_full (S0 := fun k => k = s + 1 + 1 + 1 + 1) (Own := fun k => k = s + 1 + 1 + 1 + 1) (gf := 47) (lb := #[.pointer (some ⟨s + 1 + 1, 0, none⟩), .pointer (some ⟨s + 1 + 1 + 1, 0, none⟩), .pointer (some ⟨s + 1 + 1 + 1 + 1, 0, none⟩)]) (w0 := W0) (n0 := w.heap.size) (encs := encR) (xs := l) rfl runs1_enters
    (runs_full b g n f e a0 _ _ _ M l hfe hen HA.out.2.1 HA.out.1 w.heap.size W0 hMb hLb c2.cell c3.cell c4.cell hb0.size ⟨hgs.2, hgs.1⟩) (fun k h => h) (Below.refl _ _) hb0.size (fun _ => rfl)
    (Sr w s kb kg base e) (sr_own w s kb kg base e _ (by omega) (by omega) (by omega) hb0.size) ⟨c1, r0, hMk, by omega, fun k h => by omega, hb0⟩
    (fun x => { tmps := #[.pointer (some ⟨b, 0, none⟩), .int .i64 f, .int .i64 e, .int .i64 base, undef, undef, undef, undef, .pointer none, .int .i64 0, .pointer (some ⟨s + 1, 0, none⟩), .int .i64 (x.1 : Int), .int .i64 ((x.2 : Int) - x.1), .int .i64 f, .bool false, .bool false, .int .i64 e, .pointer (some ⟨b, 0, none⟩), .pointer (some ⟨b, 0, none⟩), .pointer (some ⟨b, 0, none⟩), .int .i64 n, .bool false, .bool false, .bool false, .int .i64 f, .int .i64 e, .bool false, .bool false, .bool false, .int .i64 base, .bool false, .bool false, .bool false, .int .i64 base, .bool false, .bool false, .int .i64 base, .int .i64 e, .pointer (some ⟨kb, 0, none⟩), .agg #[.int .i64 base, .int .i64 0, .pointer (some ⟨kb, 0, none⟩), .slice none 0 0], .pointer (some ⟨s, 0, none⟩), .pointer (some ⟨b, 0, none⟩), .int .i64 f, .int .i64 e, .func (.func 47) #[] #[.pointer (some ⟨s + 1 + 1, 0, none⟩), .pointer (some ⟨s + 1 + 1 + 1, 0, none⟩), .pointer (some ⟨s + 1 + 1 + 1 + 1, 0, none⟩)], .int .i64 (x.1 : Int), .int .i64 ((x.2 : Int) - x.1), undef, undef, undef, undef, undef, undef, undef, undef, undef, undef], defers := [] }) ?assign ?body ?done
  case assign =>
    intro lp x W K m hK
    gi_wp2
    exact hK
  case body =>
    rintro lp S pre ⟨a, q⟩ W m hI hpre
    have hx := HA.out.2.2.2 (a, q) (hpre.subset (by simp))
    dsimp only at hx
    have k0 := hI.box.cell
    have k1 : W.cell? ⟨s, 2, none⟩ = some (.pointer (some ⟨kb, 0, none⟩)) := hI.own.cell (i := 2) (by decide)
    have hset := set_in kb kg e (adds pre) a (q - a) (by omega) W hI.mp
    rw [show ((q - a : Nat) : Int) = (q : Int) - a by omega, show a + (q - a) = q by omega] at hset
    have HI : Hid (Sr w s kb kg base e S pre W) := hI
    clear hI
    gi_wp2
    refine ⟨trivial, fun h => (by cases h), ((callsIn_wide.2 hset).inRound lp).mono ?_⟩
    rintro r w4 ⟨fs, -, rfl, hm4, t4⟩
    clear hset k0 k1
    have hs1 := HI.out.box.lt
    have hs0 := HI.out.own.lt
    gi_wp2
    refine ⟨fun k hk => t4.block k (HI.out.lt k hk) (by simp; rintro rfl; exact HI.out.off hk), t4.below HI.out.bel.size (by simp; omega), ?_⟩
    refine ⟨(t4.block _ hs1 (by simp; omega)).trans HI.out.box, HI.out.own.of_block (t4.block _ hs0 (by simp; omega)), by rw [adds_snoc]; exact hm4, HI.out.off, fun k hk => Nat.lt_of_lt_of_le (HI.out.lt k hk) t4.size, HI.out.bel.trans (t4.below HI.out.bel.size (by simp; omega))⟩
  case done =>
    rintro D S W hD hI hK
    have k0 := hI.box.cell
    have hN := HA.out.2.2.1
    have hmN := hI.mp
    rw [hN] at hmN
    have hta := tally_any s kb kg base e (cut M f e) hba W hI.own hmN (HL.out.below hI.bel)
    have HI : Hid (Sr w s kb kg base e S l W) := hI
    have HK : Hid (W.heap[D]? = some (.deferred (some []))) := hK
    have hDl := (Array.getElem?_eq_some_iff.1 hK).1
    have hs1 := hI.box.lt
    clear hI hmN hN hK
    gi_wp2
    refine ⟨trivial, (callsIn_wide.2 hta).mono ?_⟩
    rintro r w5 ⟨rfl, ⟨q, hq, hsl⟩, t5⟩
    have k1 : w5.cell? ⟨s + 1, 0, none⟩ = some (.pointer (some ⟨s, 0, none⟩)) := t5.cell k0 (by simp)
    have hK5 := (t5.block D hDl (by simp; omega)).trans HK.out
    have hB5 := HI.out.bel.trans (t5.below HI.out.bel.size (by simp; omega))
    clear hta k0
    gi_wp2
    refine ⟨by simp, .inl ⟨_, _, rfl, run_takeDeferred hK5, ?_⟩⟩
    refine ⟨_, results_tmp2 rfl _ _ _, ⟨s, kb, kg, q, rfl, hsl.keep (World.putObj_heap_other (by omega)) (World.putObj_heap_other (by omega)) (World.putObj_heap_other (by omega)) (World.putObj_heap_other (by omega)), hws, hkb, hkg, by have := HI.out.bel.size; omega⟩, hB5.trans (belowK_b (w := w) (Nat.le_refl _) w5 D _ _ (by omega) hK5 rfl rfl)⟩
end Go.Proofs.YtlnfhnahnmblmabDoor
