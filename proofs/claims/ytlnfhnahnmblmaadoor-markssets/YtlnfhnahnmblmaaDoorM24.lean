/-
  pairs.
-/
import Derived.Test.YtlnfhnahnmblmaaDoorM23
set_option linter.unusedVariables false
set_option maxRecDepth 100000
namespace Go.Proofs.YtlnfhnahnmblmaaDoor
open Go.RowKit Go.Shelf

/-- Runs as numbers: a beginning and a length each. -/
def prs : List (Nat × Nat) → List Int
  | [] => []
  | x :: l => (x.1 : Int) :: ((x.2 : Int) - x.1) :: prs l

theorem prs_append : ∀ l m : List (Nat × Nat), prs (l ++ m) = prs l ++ prs m
  | [], m => rfl
  | x :: l, m => by simp only [List.cons_append, prs, prs_append l m]
theorem prs_len : ∀ l : List (Nat × Nat), (prs l).length = 2 * l.length
  | [] => rfl
  | x :: l => by simp only [prs, List.length_cons, prs_len l]; omega
theorem prs_at {l pre : List (Nat × Nat)} {x : Nat × Nat} (h : pre ++ [x] <+: l) : (prs l)[2 * pre.length]? = some (x.1 : Int) ∧ (prs l)[2 * pre.length + 1]? = some ((x.2 : Int) - x.1) := by
  obtain ⟨t, rfl⟩ := h
  rw [List.append_assoc, prs_append]
  constructor
  · rw [List.getElem?_append_right (by rw [prs_len]; exact Nat.le_refl _), prs_len, Nat.sub_self]; rfl
  · rw [List.getElem?_append_right (by rw [prs_len]; omega), prs_len, show 2 * pre.length + 1 - 2 * pre.length = 1 by omega]; rfl

theorem own_setOther {B : Nat} {w : World} {e : TypeId} {v : Value} {n : Nat} {xs : List Value} (h : w.ownsRow B e 1 v n xs) {a : Addr} (hne : v.ownBlock ≠ some a.block) (u : Value) : (w.setCell a u).ownsRow B e 1 v n xs := by
  obtain ⟨hl, h0 | ⟨g, cap, cur, rfl, hge, hh, hr⟩⟩ := h
  · exact ⟨hl, .inl h0⟩
  · have hg : g ≠ a.block := fun e => hne (by simp [Value.ownBlock, e])
    exact ⟨hl, .inr ⟨g, cap, cur, rfl, hge, (Below.heap_setCell _ _ _ _ hg).trans hh, hr⟩⟩

theorem cells_new (w : World) (cs : Array Value) (t : TypeId) : ∀ (j : Nat) u, cs.toList[j]? = some u → (w.alloc (.cells cs t)).cell? ((⟨w.heap.size, 0, none⟩ : Addr).add j) = some u := by
  intro j u hj
  have hadd : (⟨w.heap.size, 0, none⟩ : Addr).add j = ⟨w.heap.size, j, none⟩ := by unfold Addr.add; split <;> simp_all
  rw [hadd, cell_of_row _ _ j cs t (0, 0) (heap_alloc_new w _)]
  simpa using hj

/-- What pairs keeps while it goes through the runs. -/
structure Pj (B lB : Nat) (F : List Nat) (pre : List (Nat × Nat)) (W : World) (v : Value) : Prop where
  box : Boxed W lB 22 v
  row : W.ownsRow B 3 1 v (2 * pre.length) ((prs pre).map (.int .i64))
  ne : v.ownBlock ≠ some lB
  lt : ∀ k, v.ownBlock = some k → k < W.heap.size
  f : F = lB :: v.ownBlock.toList

theorem own_lt {B : Nat} {w : World} {e : TypeId} {v : Value} {n : Nat} {xs : List Value} (h : w.ownsRow B e 1 v n xs) : ∀ k, v.ownBlock = some k → k < w.heap.size := by
  intro k hk
  obtain ⟨_, ⟨rfl, _⟩ | ⟨g, cap, cur, rfl, hge, hh, _⟩⟩ := h
  · simp [Value.ownBlock] at hk
  · simp [Value.ownBlock] at hk
    subst hk
    exact (Array.getElem?_eq_some_iff.1 hh).1

set_option maxHeartbeats 8000000 in
theorem pairs1_any (B lB a d : Nat) (F : List Nat) (pre : List (Nat × Nat)) (hpl : pre.length ≤ 5000) (W : World) (v : Value) (hP : Pj B lB F pre W v) (hB : B ≤ W.heap.size) :
    Calls Tryd.prog 37 #[.int .i64 a, .int .i64 d, .pointer (some ⟨lB, 0, none⟩)] W fun r W' => Touch F W W' ∧ r = .returned (.bool true) ∧ ∃ F' v', Newer W.heap.size F F' ∧ Pj B lB F' (pre ++ [(a, a + d)]) W' v' := by
  obtain ⟨i0, hi, hz0, hz1, hz2⟩ := info_parts Tryd.infoInt
  have HI0 : Hid ((Tryd.prog.info? 3 = some i0) ∧ i0.zero = some (.int .i64 0) ∧ i0.size = 1 ∧ i0.bytes = 8) := ⟨hi, hz0, hz1, hz2⟩
  have k0 := hP.box.cell
  have hlB := hP.box.lt
  have HP : Hid (Pj B lB F pre W v) := hP
  clear hi hz0 hz1 hz2 hP
  go_enter Tryd.func37, Tryd.ntmps37
  go_wp2_with (at_builtin; refine wpList_append_own_at _ rfl _ _ 22 rfl B 3 i0 (.int .i64 0) 1 8 Tryd.underlying22 HI0.out.1 HI0.out.2.1 HI0.out.2.2.1 HI0.out.2.2.2 rfl (by decide) _ _ _ rfl (HP.out.row.alloc _) ⟨W.heap.size, 0, none⟩ 2 2 [.int .i64 (a : Int), .int .i64 (d : Int)] rfl rfl (cells_new _ _ _) (by simp [Value.oneCell']) (by simp [maxLen]; omega) (by omega) (by simp; omega) ?_)
  intro v' w1 ho hg _ hat
  have hne' : v'.ownBlock ≠ some lB := by
    rcases hat with h | h
    · rw [h]; exact HP.out.ne
    · rw [h]; simp; omega
  have bx1 : Boxed w1 lB 22 v := (hg.block lB (by simp; omega) (fun e => HP.out.ne e.symm)).trans ((Below.heap_alloc _ _ _ hlB).trans HP.out.box)
  have T1 : Touch F W w1 := by
    have t0 : Touch F W (W.alloc (.cells #[.int .i64 (a : Int), .int .i64 (d : Int)] 3)) := Touch.alloc _ _ _
    refine ⟨hg.os.trans t0.os, hg.tape.trans t0.tape, hg.output.trans t0.output, Nat.le_trans t0.size hg.size, fun k hk hn => ?_⟩
    refine (hg.block k (Nat.lt_of_lt_of_le hk t0.size) (fun e => hn ?_)).trans (t0.block k hk hn)
    rw [HP.out.f, ← e]; simp
  have hbx : ∃ g' C, v' = .slice (some ⟨g', 0, none⟩) (2 * pre.length + 2) C := by
    obtain ⟨_, ⟨_, h0⟩ | ⟨g', C, cur, hv, _⟩⟩ := ho
    · omega
    · exact ⟨g', C, hv⟩
  obtain ⟨g', C, rfl⟩ := hbx
  have bx2 := bx1.set (.slice (some ⟨g', 0, none⟩) (2 * pre.length + 2) C)
  have ho2 := own_setOther ho (a := ⟨lB, 0, none⟩) hne' (.slice (some ⟨g', 0, none⟩) (2 * pre.length + 2) C)
  have T2 : Touch F W (w1.setCell ⟨lB, 0, none⟩ (.slice (some ⟨g', 0, none⟩) (2 * pre.length + 2) C)) := T1.trans (Touch.setCell _ _ _ (by rw [HP.out.f]; simp))
  have k1 := bx1.cell
  have kf := bx1.frozen
  have k2 := bx2.cell
  have HF : Hid (Touch F W (w1.setCell ⟨lB, 0, none⟩ (.slice (some ⟨g', 0, none⟩) (2 * pre.length + 2) C)) ∧ ∃ F' v', Newer W.heap.size F F' ∧ Pj B lB F' (pre ++ [(a, a + d)]) (w1.setCell ⟨lB, 0, none⟩ (.slice (some ⟨g', 0, none⟩) (2 * pre.length + 2) C)) v') := by
    refine ⟨T2, lB :: [g'], _, ?_, bx2, ?_, hne', own_lt ho2, rfl⟩
    · intro k hk
      rw [HP.out.f]
      simp only [List.mem_cons, List.not_mem_nil, or_false] at hk
      rcases hk with rfl | rfl
      · left; simp
      · rcases hat with h | h
        · left
          have h' : some k = v.ownBlock := h
          rw [← h']; simp
        · right
          have h' : some k = some (W.heap.size + 1) := h
          have := Option.some.inj h'
          omega
    · rw [List.length_append, prs_append, List.map_append]
      have e : (prs [(a, a + d)]).map (Value.int .i64) = [.int .i64 (a : Int), .int .i64 (d : Int)] := by
        simp [prs]
        omega
      rw [e]
      exact ho2
  clear ho hg hat hne' bx1 T1 bx2 ho2 T2 HP
  have hde : decide (2 * (pre.length : Int) + 2 ≤ 16384) = true := by simp; omega
  go_wp2
  go_ret
  exact ⟨HF.out.1, rfl, HF.out.2⟩

theorem own_below2 {B : Nat} {w w' : World} {e : TypeId} {v : Value} {n : Nat} {xs : List Value} (h : w.ownsRow B e 1 v n xs) (l : Below w.heap.size w w') : w'.ownsRow B e 1 v n xs :=
  h.kept (row := none) ⟨l.os, l.tape, l.output, l.size, fun k hk _ => l.block k hk⟩ (by
    cases v.ownBlock <;> simp)

/-- A run takes a word, and a word lies behind each but the last. -/
theorem two_each {M : Nat → Bool} {e a : Nat} {l : List (Nat × Nat)} (h : At M e a l) : a ≤ e → 2 * l.length ≤ e - a + 1 := by
  induction h with
  | done => intro _; simp
  | @run a q a' l h hs hq hn r ih =>
    intro ha
    have hqe := hs.ge ha
    have hae := hn.ge hqe.2
    have i1 := ih hae.2
    have hqa : q < a' ∨ (a' = e ∧ l = []) := by
      rcases Nat.lt_or_ge q a' with h1 | h1
      · exact .inl h1
      · have : q = a' := by omega
        subst this
        rcases hn with ⟨h2, _⟩ | ⟨h2, h3, h4, _⟩
        · subst h2
          cases r with
          | done => exact .inr ⟨rfl, rfl⟩
          | run h _ _ _ _ => omega
        · rcases hs with ⟨h5, h6⟩ | ⟨h5, h6, h7, h8⟩
          · omega
          · rw [h4] at h7; cases h7
    simp only [List.length_cons]
    rcases hqa with h1 | ⟨h1, h2⟩
    · omega
    · subst h2
      simp only [List.length_nil]
      omega

theorem runs_len {M : Nat → Bool} {e a : Nat} {l : List (Nat × Nat)} (h : At M e a l) : a ≤ e → l.length ≤ e - a := by
  induction h with
  | done => intro _; simp
  | @run a q a' l h hs hq hn r ih =>
    intro ha
    have hqe := hs.ge ha
    have hae := hn.ge hqe.2
    have := ih hae.2
    simp only [List.length_cons]
    omega

set_option maxHeartbeats 2000000 in
theorem pairs_any (b g n a0 : Nat) (hn : n ≤ 8192) (M : Nat → Bool) (rl : List (Nat × Nat)) (hs0 : Sk M false 0 n a0) (hat : At M n a0 rl) (W : World) (hM : Mp W b g n M) (hL : Laid W) :
    Calls Tryd.prog 22 #[.pointer (some ⟨b, 0, none⟩)] W fun r w' => ∃ p C, r = .returned (.slice p (2 * rl.length) C) ∧ 2 * rl.length ≤ C ∧ Lsb W.heap.size w' p (prs rl) ∧ Below W.heap.size W w' := by
  have ha0 := hs0.ge (Nat.zero_le _)
  have hrl := runs_len hat ha0.2
  have hrun := at_run hat (-1) ha0.2 (by omega) (fun k _ h => by
    rcases hs0 with ⟨h1, h2⟩ | ⟨h1, h2, h3, h4⟩
    · exact h2 k (Nat.zero_le _) (by omega)
    · exact h4 k (Nat.zero_le _) h)
  have b0 : Below W.heap.size W (W.alloc (.cells #[.slice none 0 0] 22)) := Below.alloc (Below.refl _ _) (Nat.le_refl _) _
  have hM0 := hM.below b0
  have bx0 := Boxed.new W 22 (.slice none 0 0)
  have hRuns := Runs_any b g n M _ hM0
  have hmany : ∀ pre x, pre ++ [x] <+: rl → pre.length ≤ 5000 := by
    intro pre x hp
    -- a run takes at least one word, and one lies between two
    have h1 := lens_at hat ha0.2
    have h2 := two_each hat ha0.2
    have := hp.length_le
    simp at this
    omega
  have H0 : Hid (Mp (W.alloc (.cells #[.slice none 0 0] 22)) b g n M ∧ Laid (W.alloc (.cells #[.slice none 0 0] 22)) ∧ Boxed (W.alloc (.cells #[.slice none 0 0] 22)) W.heap.size 22 (.slice none 0 0)) := ⟨hM0, hL.below b0, bx0⟩
  have HR : Hid (Sk M false 0 n a0 ∧ At M n a0 rl ∧ (∀ pre x, pre ++ [x] <+: rl → Run M n (if pre = [] then (-1 : Int) else lastEnd pre) x ∧ pre.length ≤ 5000)) := ⟨hs0, hat, fun pre x hp => ⟨hrun pre x hp, hmany pre x hp⟩⟩
  have hls := hL.size
  clear hs0 hat hrun hmany hM hM0 hL bx0
  go_enter Tryd.func22, Tryd.ntmps22
  go_upto_region 2 with fail
  obtain ⟨W2, hW2⟩ : ∃ W2, W2 = W.alloc (.cells #[.slice none 0 0] 22) := ⟨_, rfl⟩
  rw [← hW2] at H0 b0 hRuns ⊢
  have hsz : W2.heap.size = W.heap.size + 1 := by rw [hW2]; simp
  obtain ⟨lB, hlB⟩ : ∃ lB, lB = W.heap.size := ⟨_, rfl⟩
  rw [← hlB] at H0 ⊢
  have HlB : Hid (lB = W.heap.size) := hlB
  clear hW2 hlB
  go_wp2_with fail
  refine hRuns.mono ?_
  rintro r w7 ⟨rfl, hw7⟩
  have b8 : Below W2.heap.size W2 w7 := by rw [hw7]; exact ((Below.alloc (Below.refl _ _) (Nat.le_refl _) _).alloc (by simp) _).alloc (by simp; omega) _
  have q0 : Boxed w7 W2.heap.size 24 (.pointer (some ⟨b, 0, none⟩)) := by rw [hw7]; exact ((Boxed.new W2 24 (.pointer (some ⟨b, 0, none⟩))).alloc _).alloc _
  have q1 : Boxed w7 (W2.heap.size + 1) 3 (.int .i64 0) := by
    have := (Boxed.new (W2.alloc (.cells #[.pointer (some ⟨b, 0, none⟩)] 24)) 3 (.int .i64 0)).alloc (.cells #[.int .i64 n] 3)
    rw [← hw7, World.size_alloc] at this; exact this
  have q2 : Boxed w7 (W2.heap.size + 1 + 1) 3 (.int .i64 n) := by
    have := Boxed.new ((W2.alloc (.cells #[.pointer (some ⟨b, 0, none⟩)] 24)).alloc (.cells #[.int .i64 0] 3)) 3 (.int .i64 n)
    rw [← hw7, World.size_alloc, World.size_alloc] at this; exact this
  have hB7 := b0.trans (b8.mono b0.size)
  have hlw := HlB.out
  have hcall := runs_call b g n 0 n a0 W2.heap.size (W2.heap.size + 1) (W2.heap.size + 1 + 1) M rl (Nat.zero_le _) (Nat.le_refl _) HR.out.1 HR.out.2.1 w7 (H0.out.1.below b8) (H0.out.2.1.below b8) q0.cell q1.cell q2.cell
    37 #[.pointer (some ⟨lB, 0, none⟩)]
    (fun F pre X => ∃ v, Pj W.heap.size lB F pre X v ∧ W.heap.size ≤ X.heap.size) (fun _ _ => False) (enters_of Tryd.func37 (by kernel_rfl) rfl)
    (fun F pre X h q hq => by
      obtain ⟨v, h, -⟩ := h
      rw [h.f] at hq
      rcases List.mem_cons.1 hq with rfl | hq
      · exact h.box.lt
      · exact h.lt q (by simpa using hq))
    (fun F pre X X' h l => by
      obtain ⟨v, h, hs⟩ := h
      exact ⟨v, ⟨box_below h.box l, own_below2 h.row l, h.ne, fun k hk => Nat.lt_of_lt_of_le (h.lt k hk) l.size, h.f⟩, Nat.le_trans hs l.size⟩)
    (fun F pre x X h hp => by
      obtain ⟨v, h, hs⟩ := h
      obtain ⟨hr, hm⟩ := HR.out.2.2 pre x hp
      have hlt := hr.lt
      have := pairs1_any W.heap.size lB x.1 (x.2 - x.1) F pre hm X v h hs
      rw [show x.1 + (x.2 - x.1) = x.2 by omega, show ((x.2 - x.1 : Nat) : Int) = (x.2 : Int) - x.1 by omega] at this
      exact this.mono (fun r X' ⟨t, h1, F', v', h2, h3⟩ => ⟨t, .inl ⟨h1, F', h2, v', h3, Nat.le_trans hs t.size⟩⟩))
    [lB] ⟨by simp; omega, by simp; omega, by simp; omega⟩ ⟨.slice none 0 0, ⟨box_below H0.out.2.2 b8, World.ownsRow_nil _ _ _ _, by simp [Value.ownBlock], by simp [Value.ownBlock], rfl⟩, hB7.size⟩
  clear hRuns hw7 b8 q0 q1 q2 H0 b0 hlw hsz
  go_wp2_with fail
  refine hcall.mono ?_
  rintro r w8 ⟨rfl, t8, ⟨F', -, v, hP, hs⟩ | ⟨_, _, _, h⟩⟩
  rotate_left
  · exact h.elim
  have hB8 := hB7.trans (t8.below hB7.size (by have := HlB.out; simp; omega))
  have hlen := prs_len rl
  obtain ⟨p, C, rfl, hC, hls8⟩ := own_lsb (l := prs rl) (by rw [hlen]; exact hP.row)
  rw [hlen] at hP hC
  have k0 := hP.box.cell
  have HF : Hid (Lsb W.heap.size w8 p (prs rl)) := hls8
  clear hcall t8 hP hls8 hB7 HR
  go_wp2
  go_ret
  exact ⟨p, C, rfl, hC, HF.out, hB8⟩
end Go.Proofs.YtlnfhnahnmblmaaDoor
