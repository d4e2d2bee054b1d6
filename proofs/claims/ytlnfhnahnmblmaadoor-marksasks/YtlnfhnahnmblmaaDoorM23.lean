/-
  MarksSums, walked.
-/
import Derived.Test.YtlnfhnahnmblmaaDoorM22
set_option linter.unusedVariables false
set_option maxRecDepth 100000
namespace Go.Proofs.YtlnfhnahnmblmaaDoor
open Go.RowKit Go.Shelf

theorem lastEnd_ge (l : List (Nat × Nat)) : -1 ≤ lastEnd l := by
  unfold lastEnd
  cases l.getLast? with
  | none => decide
  | some x => simp only; omega

theorem lens_append : ∀ l m : List (Nat × Nat), lens (l ++ m) = lens l + lens m
  | [], m => by simp [lens]
  | x :: l, m => by simp only [List.cons_append, lens, lens_append l m]; omega

theorem lens_at {M : Nat → Bool} {e a : Nat} {l : List (Nat × Nat)} (h : At M e a l) : a ≤ e → lens l + rk M a = rk M e := by
  induction h with
  | done => intro _; simp [lens]
  | @run a q a' l h hs hq hn r ih =>
    intro ha
    have hqe := hs.ge ha
    have hae := hn.ge hqe.2
    have i1 := ih hae.2
    have hall : ∀ k, a ≤ k → k < a + (q - a) → M k = true := by
      rcases hs with ⟨h1, h2⟩ | ⟨h1, h2, h3, h4⟩
      · intro k h5 h6; exact h2 k h5 (by omega)
      · intro k h5 h6; exact h4 k h5 (by omega)
    have h1 := rk_all (q - a) hall
    rw [show a + (q - a) = q by omega] at h1
    have h2 : rk M a' = rk M q := by
      have := rk_add M q (a' - q)
      rw [show q + (a' - q) = a' by omega] at this
      rw [this, rk_none (a' - q) (fun j hj => ?_), Nat.add_zero]
      rcases hn with ⟨h1, h2⟩ | ⟨h1, h2, h3, h4⟩
      · exact h2 _ (by omega) (by omega)
      · exact h4 _ (by omega) (by omega)
    simp only [lens]
    omega

theorem at_tail {M : Nat → Bool} {e a : Nat} {l : List (Nat × Nat)} (h : At M e a l) : ∀ z : Int, a ≤ e → (∀ k : Nat, z ≤ k → k < a → M k = false) → ∀ k : Nat, (if l = [] then z else lastEnd l) ≤ k → k < e → M k = false := by
  induction h with
  | done => intro z _ hz k h1 h2; exact hz k (by simpa using h1) h2
  | @run a q a' l h hs hq hn r ih =>
    intro z ha hz k h1 h2
    have hqe := hs.ge ha
    have hae := hn.ge hqe.2
    refine ih (q : Int) hae.2 (fun j h3 h4 => ?_) k ?_ h2
    · rcases hn with ⟨h5, h6⟩ | ⟨h5, h6, h7, h8⟩
      · exact h6 j (by omega) (by omega)
      · exact h8 j (by omega) h4
    · cases l with
      | nil => simpa [lastEnd] using h1
      | cons y l => simpa [lastEnd] using h1

theorem count_cut (M : Nat → Bool) (n : Nat) (fr mi be : Int) (h1 : fr ≤ mi) (h2 : mi ≤ be) : (rk M (min mi n).toNat - rk M (max fr 0).toNat) + (rk M (min be n).toNat - rk M (max mi 0).toNat) = rk M (min be n).toNat - rk M (max fr 0).toNat := by
  by_cases c1 : mi < 0
  · rw [show (min mi (n : Int)).toNat = 0 by omega, show (max fr 0).toNat = 0 by omega, show (max mi 0).toNat = 0 by omega]
    simp [rk]
  · by_cases c2 : (n : Int) < mi
    · rw [show (min mi (n : Int)).toNat = n by omega, show (min be (n : Int)).toNat = n by omega]
      have := rk_mono M (show n ≤ (max mi 0).toNat by omega)
      omega
    · rw [show (min mi (n : Int)).toNat = mi.toNat by omega, show (max mi 0).toNat = mi.toNat by omega]
      have e1 := rk_mono M (show (max fr 0).toNat ≤ mi.toNat by omega)
      have e2 := rk_mono M (show mi.toNat ≤ (min be (n : Int)).toNat by omega)
      omega

/-- What Count answers. -/
def cn (M : Nat → Bool) (n : Nat) (x y : Int) : Nat := rk M (min y n).toNat - rk M (max x 0).toNat

theorem cn_le (M : Nat → Bool) (n : Nat) (x y : Int) : cn M n x y ≤ n := by
  have := rk_le M (min y n).toNat
  unfold cn; omega

theorem Runs_any (b g n : Nat) (M : Nat → Bool) (w : World) (hM : Mp w b g n M) :
    Calls Tryd.prog 18 #[.pointer (some ⟨b, 0, none⟩)] w fun r w' => r = .returned (.func (.func 43) #[] #[.pointer (some ⟨w.heap.size, 0, none⟩), .pointer (some ⟨w.heap.size + 1, 0, none⟩), .pointer (some ⟨w.heap.size + 1 + 1, 0, none⟩)]) ∧ w' = ((w.alloc (.cells #[.pointer (some ⟨b, 0, none⟩)] 24)).alloc (.cells #[.int .i64 0] 3)).alloc (.cells #[.int .i64 n] 3) := by
  have c0 := hM.c0
  clear hM
  go_enter Tryd.func18, Tryd.ntmps18
  go_wp2_with fail
  refine (runs_any b 0 n w).mono ?_
  rintro r w1 ⟨rfl, rfl⟩
  go_wp2
  go_ret
  exact ⟨rfl, rfl⟩

set_option maxHeartbeats 8000000 in
theorem sums_no (ws : Int) (h : ws < 0 ∨ 8192 < ws) (v : Value) (fr mi be : Int) (w : World) (hL : Laid w) :
    Calls Tryd.prog 4 #[.int .i64 ws, v, .int .i64 fr, .int .i64 mi, .int .i64 be] w fun r w' => r = .returned (.bool true) ∧ Below w.heap.size w w' := by
  have b0 : Below w.heap.size w (w.alloc (.cells #[.int .i64 ws] 3)) := Below.alloc (Below.refl _ _) (Nat.le_refl _) _
  have hk := known_any _ (hL.below b0)
  have kw := (Boxed.new w 3 (.int .i64 ws)).cell
  go_enter Tryd.func4, Tryd.ntmps4
  go_wp2_with fail
  refine hk.mono ?_
  rintro r w1 ⟨rfl, b1⟩
  have hf := filled_out ws h v w1
  have kw1 : w1.cell? ⟨w.heap.size, 0, none⟩ = some (.int .i64 ws) := (b1.cell (World.block_lt_of_cell? _ _ kw)).trans kw
  have b2 := b0.trans (b1.mono b0.size)
  clear hk kw b1 b0
  go_wp2_with fail
  refine hf.mono ?_
  rintro r w2 ⟨rfl, rfl⟩
  clear hf h
  go_wp2
  go_ret
  exact ⟨rfl, Below.alloc b2 b2.size _⟩

set_option maxHeartbeats 16000000 in
theorem sums_in (n : Nat) (hn : n ≤ 8192) (a : Option Addr) (cap : Nat) (l : List Int) (hlen : l.length ≤ 9223372036854775807) (fr mi be : Int) (hfr : fr ≤ 9223372036854775807) (hmi : mi ≤ 9223372036854775807) (w : World) (hL : Laid w) (hl : Lst w a l) :
    Calls Tryd.prog 4 #[.int .i64 n, .slice a l.length cap, .int .i64 fr, .int .i64 mi, .int .i64 be] w fun r w' => r = .returned (.bool true) ∧ Below w.heap.size w w' := by
  have b0 : Below w.heap.size w (w.alloc (.cells #[.int .i64 n] 3)) := Below.alloc (Below.refl _ _) (Nat.le_refl _) _
  have hk := known_any _ (hL.below b0)
  have kw := Boxed.new w 3 (.int .i64 n)
  have HL : Hid (Laid w) := hL
  have Hl : Hid (Lst w a l) := hl
  clear hL hl
  go_enter Tryd.func4, Tryd.ntmps4
  go_wp2_with fail
  refine hk.mono ?_
  rintro r w1 ⟨rfl, b1⟩
  have b2 := b0.trans (b1.mono b0.size)
  have hf := filled_in n hn a cap l hlen w1 (HL.out.below b2) (Hl.out.below b2)
  have kw1 := box_below kw b1
  have k0 := kw1.cell
  clear hk kw b1 b0
  go_wp2_with fail
  refine hf.mono ?_
  rintro r w2 ⟨⟨b, g, rfl, hM, hgb, hgg⟩, b3⟩
  have b4 := b2.trans (b3.mono b2.size)
  have kw2 := box_below kw1 b3
  generalize fil n (l.take 600) (fun _ => false) = M at hM
  have b5 := Below.alloc b4 b4.size (.cells #[.pointer (some ⟨b, 0, none⟩)] 24)
  have hbel : Below w2.heap.size w2 (w2.alloc (.cells #[.pointer (some ⟨b, 0, none⟩)] 24)) := Below.alloc (Below.refl _ _) (Nat.le_refl _) _
  have hM3 := hM.below hbel
  have kw3 := box_below kw2 hbel
  have km3 := Boxed.new w2 24 (.pointer (some ⟨b, 0, none⟩))
  have hbl := hM.own.lt
  have hgl := hM.row.lt
  have hws : w.heap.size < w1.heap.size := kw1.lt
  have hws2 : w1.heap.size ≤ w2.heap.size := b3.size
  clear hf b2 b3 b4 kw1 kw2 k0 hM hbel
  go_upto_region 6 with fail
  obtain ⟨W, hW⟩ : ∃ W, W = (w2.alloc (.cells #[.pointer (some ⟨b, 0, none⟩)] 24)) := ⟨_, rfl⟩
  obtain ⟨wB, hwB⟩ : ∃ wB, wB = w.heap.size := ⟨_, rfl⟩
  obtain ⟨mB, hmB⟩ : ∃ mB, mB = w2.heap.size := ⟨_, rfl⟩
  rw [← hW] at hM3 kw3 km3 b5 ⊢
  rw [← hwB] at kw3 ⊢
  rw [← hmB] at km3 ⊢
  have hof : wB < mB ∧ b < mB ∧ g < mB ∧ w.heap.size ≤ wB ∧ w.heap.size ≤ mB ∧ wB ≠ b ∧ wB ≠ g := by omega
  have HW : Hid (Mp W b g n M ∧ Boxed W wB 3 (.int .i64 n) ∧ Boxed W mB 24 (.pointer (some ⟨b, 0, none⟩)) ∧ Below w.heap.size w W) := ⟨hM3, kw3, km3, b5⟩
  have d0 : ∀ p : Bel W, p.v.cell? ⟨mB, 0, none⟩ = some (.pointer (some ⟨b, 0, none⟩)) := fun p => (box_below km3 p.h).cell
  have HC : Hid (∀ (x y : Int), x ≤ 9223372036854775807 → ∀ p : Bel W, Calls Tryd.prog 17 #[.pointer (some ⟨b, 0, none⟩), .int .i64 x, .int .i64 y] p.v fun r w' => r = .returned (.int .i64 (cn M n x y : Nat)) ∧ Below p.v.heap.size p.v w') := fun x y hx p => count_any b g n M x y hx p.v (hM3.below p.h) ((HL.out.below b5).below p.h)
  haveI hinh : Inhabited (Bel W) := ⟨⟨W, Below.refl _ _⟩⟩
  clear hW hwB hmB hM3 kw3 km3 b5 hws hws2 hgb hgg hbl hgl
  refine region_below mixed (by kernel_rfl) ?_
  by_cases c1 : fr ≤ mi
  · by_cases c2 : mi ≤ be
    · have hsum : cn M n fr mi + cn M n mi be = cn M n fr be := count_cut M n fr mi be c1 c2
      have hsi : ((cn M n fr mi : Nat) : Int) + ((cn M n mi be : Nat) : Int) = ((cn M n fr be : Nat) : Int) := by omega
      have hx1 := cn_le M n fr mi
      have hx2 := cn_le M n mi be
      clear hsum
      repeat (go_big_quiet_step (first | (go_at_call 17; exact calls_bel (HC.out _ _ (by assumption) _))))
      refine wpQuiet_nil ?_
      clear hsi hx1 hx2
      rintro w6 ⟨⟨w6, b6⟩, rfl⟩
      obtain ⟨hM, kw, km, bw⟩ := HW.out
      have hM6 := hM.below b6
      have kw6 := box_below kw b6
      have km6 := box_below km b6
      have bw6 := bw.trans (b6.mono bw.size)
      have hmB6 := km6.lt
      clear d0 hM kw km bw b6 HC hinh HW
      go_upto_region 11 with fail
      obtain ⟨W2, hW2⟩ : ∃ W2, W2 = ((w6.alloc (.cells #[.int .i64 0] 3)).alloc (.cells #[.int .i64 (-1)] 3)).alloc (.cells #[.bool true] 4) := ⟨_, rfl⟩
      have hb2 : Below w6.heap.size w6 W2 := by rw [hW2]; exact ((Below.alloc (Below.refl _ _) (Nat.le_refl _) _).alloc (by simp) _).alloc (by simp; omega) _
      have s0 : Boxed W2 w6.heap.size 3 (.int .i64 0) := by rw [hW2]; exact ((Boxed.new w6 3 (.int .i64 0)).alloc _).alloc _
      have s1 : Boxed W2 (w6.heap.size + 1) 3 (.int .i64 (-1)) := by
        have := (Boxed.new (w6.alloc (.cells #[.int .i64 0] 3)) 3 (.int .i64 (-1))).alloc (.cells #[.bool true] 4)
        rw [← hW2, World.size_alloc] at this; exact this
      have s2 : Boxed W2 (w6.heap.size + 1 + 1) 4 (.bool true) := by
        have := Boxed.new ((w6.alloc (.cells #[.int .i64 0] 3)).alloc (.cells #[.int .i64 (-1)] 3)) 4 (.bool true)
        rw [← hW2, World.size_alloc, World.size_alloc] at this; exact this
      rw [← hW2]
      have hM7 := hM6.below hb2
      have kw7 := box_below kw6 hb2
      have km7 := box_below km6 hb2
      have bw7 := bw6.trans (hb2.mono bw6.size)
      have hL7 := HL.out.below bw7
      have hlb := hL7.size
      have hsz6 : w.heap.size ≤ w6.heap.size := bw6.size
      have hg0 := HL.out.size
      clear hW2 hb2 hM6 kw6 km6 bw6
      generalize hsB : w6.heap.size = sB at *
      clear hsB
      have hSm : Sm (sB + 1 + 1) (sB + 1) wB mB sB b g n M [] W2 := ⟨s2, s1, kw7, km7, s0, hM7, hL7⟩
      have hAp : Ap (sB + 1 + 1) (sB + 1) wB mB sB b g := ⟨by omega, by omega, by omega, fun k hk => by
        simp only [List.mem_cons, List.not_mem_nil, or_false] at hk
        omega⟩
      obtain ⟨a0, hs0⟩ := sk_ex M false n _ 0 rfl
      have ha0 := hs0.ge (Nat.zero_le _)
      obtain ⟨rl, hat⟩ := at_ex M n _ a0 rfl ha0.2 (fun h => by
        rcases hs0 with ⟨h1, _⟩ | ⟨_, _, h3, _⟩
        · omega
        · exact h3)
      have hgap : ∀ k : Nat, (-1 : Int) ≤ k → k < a0 → M k = false := fun k _ h => by
        rcases hs0 with ⟨h1, h2⟩ | ⟨h1, h2, h3, h4⟩
        · exact h2 k (Nat.zero_le _) (by omega)
        · exact h4 k (Nat.zero_le _) h
      have hrun := at_run hat (-1) ha0.2 (by omega) hgap
      have htail := at_tail hat (-1) ha0.2 hgap
      have hlens := lens_at hat ha0.2
      have hrka : rk M a0 = 0 := rk_none a0 (fun j hj => hgap j (by omega) hj)
      have hrkn := rk_le M n
      have hRuns := Runs_any b g n M W2 hM7
      have k0 := km7.cell
      have H7 : Hid (Sm (sB + 1 + 1) (sB + 1) wB mB sB b g n M [] W2 ∧ Below w.heap.size w W2) := ⟨hSm, bw7⟩
      have HR : Hid ((∀ pre x, pre ++ [x] <+: rl → Run M n (if pre = [] then (-1 : Int) else lastEnd pre) x) ∧ (∀ k : Nat, (if rl = [] then (-1 : Int) else lastEnd rl) ≤ k → k < n → M k = false) ∧ lens rl = rk M n ∧ Sk M false 0 n a0 ∧ At M n a0 rl) := ⟨hrun, htail, by omega, hs0, hat⟩
      have hW2l := km7.lt
      have hsl : sB + 1 + 1 < W2.heap.size := s2.lt
      clear s0 s1 s2 kw7 km7 hM7 hL7 bw7 hSm hrun htail hlens hgap hs0 hat hrka
      go_wp2_with fail
      refine hRuns.mono ?_
      rintro r w7 ⟨rfl, hw7⟩
      have b8 : Below W2.heap.size W2 w7 := by rw [hw7]; exact ((Below.alloc (Below.refl _ _) (Nat.le_refl _) _).alloc (by simp) _).alloc (by simp; omega) _
      have q0 : Boxed w7 W2.heap.size 24 (.pointer (some ⟨b, 0, none⟩)) := by rw [hw7]; exact ((Boxed.new W2 24 (.pointer (some ⟨b, 0, none⟩))).alloc _).alloc _
      have q1 : Boxed w7 (W2.heap.size + 1) 3 (.int .i64 0) := by
        have := (Boxed.new (W2.alloc (.cells #[.pointer (some ⟨b, 0, none⟩)] 24)) 3 (.int .i64 0)).alloc (.cells #[.int .i64 n] 3)
        rw [← hw7, World.size_alloc] at this; exact this
      have q2 : Boxed w7 (W2.heap.size + 1 + 1) 3 (.int .i64 n) := by
        have := Boxed.new ((W2.alloc (.cells #[.pointer (some ⟨b, 0, none⟩)] 24)).alloc (.cells #[.int .i64 0] 3)) 3 (.int .i64 n)
        rw [← hw7, World.size_alloc, World.size_alloc] at this; exact this
      have hS7 := H7.out.1.below b8
      have hcall := runs_call b g n 0 n a0 W2.heap.size (W2.heap.size + 1) (W2.heap.size + 1 + 1) M rl (Nat.zero_le _) (Nat.le_refl _) HR.out.2.2.2.1 HR.out.2.2.2.2 w7 hS7.mp hS7.la q0.cell q1.cell q2.cell
        19 #[.pointer (some ⟨sB + 1 + 1, 0, none⟩), .pointer (some ⟨sB + 1, 0, none⟩), .pointer (some ⟨wB, 0, none⟩), .pointer (some ⟨mB, 0, none⟩), .pointer (some ⟨sB, 0, none⟩)]
        (fun F pre W => F = [sB + 1 + 1, sB + 1, sB] ∧ Sm (sB + 1 + 1) (sB + 1) wB mB sB b g n M pre W) (fun _ _ => False) (enters_of Tryd.func19 (by kernel_rfl) rfl)
        (fun F pre W h q hq => by
          obtain ⟨rfl, h⟩ := h
          have h1 := h.gd.lt
          have h2 := h.en.lt
          have h3 := h.su.lt
          simp only [List.mem_cons, List.not_mem_nil, or_false] at hq
          omega)
        (fun F pre W W' h l => ⟨h.1, h.2.below l⟩)
        (fun F pre x W h hp => by
          obtain ⟨rfl, h⟩ := h
          have hr := HR.out.1 pre x hp
          have hr' : Run M n (lastEnd pre) (x.1, x.1 + (x.2 - x.1)) := by
            have hlt := hr.lt
            have e : (if pre = [] then (-1 : Int) else lastEnd pre) = lastEnd pre := by
              split
              · rename_i e; subst e; rfl
              · rfl
            rw [e] at hr
            rw [show x.1 + (x.2 - x.1) = x.2 by omega]
            exact hr
          have hll : lens pre ≤ n := by
            obtain ⟨t, ht⟩ := hp
            have h1 := HR.out.2.2.1
            have h2 := rk_le M n
            rw [← ht, List.append_assoc, lens_append] at h1
            omega
          have := sums1_any (sB + 1 + 1) (sB + 1) wB mB sB b g n x.1 (x.2 - x.1) M pre hAp hr' (lastEnd_ge pre) hll W h
          have hlt := hr.lt
          rw [show x.1 + (x.2 - x.1) = x.2 by omega, show ((x.2 - x.1 : Nat) : Int) = (x.2 : Int) - x.1 by omega] at this
          exact this.mono (fun r W' ⟨t, h1, h2⟩ => ⟨t, .inl ⟨h1, _, Newer.refl _ _, rfl, h2⟩⟩))
        [sB + 1 + 1, sB + 1, sB] ⟨by simp; omega, by simp; omega, by simp; omega⟩ ⟨rfl, hS7⟩
      have H8 : Hid (Below w.heap.size w w7) := H7.out.2.trans (b8.mono H7.out.2.size)
      clear hRuns k0 hw7 b8 q0 q1 q2 hS7 H7
      go_wp2_with fail
      refine hcall.mono ?_
      rintro r w8 ⟨rfl, t8, ⟨F', -, hF, hS8⟩ | ⟨_, _, _, h⟩⟩
      rotate_left
      · exact h.elim
      have b9 := H8.out.trans (t8.below H8.out.size (by simp; omega))
      have e0 : ∀ p : Bel w8, p.v.cell? ⟨sB + 1 + 1, 0, none⟩ = some (.bool true) := fun p => (hS8.below p.h).gd.cell
      have e1 : ∀ p : Bel w8, p.v.cell? ⟨sB, 0, none⟩ = some (.int .i64 (rk M n : Nat)) := fun p => by
        have := (hS8.below p.h).su.cell
        rw [HR.out.2.2.1] at this
        exact this
      have e2 : ∀ p : Bel w8, p.v.cell? ⟨mB, 0, none⟩ = some (.pointer (some ⟨b, 0, none⟩)) := fun p => (hS8.below p.h).ma.cell
      have e3 : ∀ p : Bel w8, p.v.cell? ⟨wB, 0, none⟩ = some (.int .i64 n) := fun p => (hS8.below p.h).wo.cell
      have e4 : ∀ p : Bel w8, p.v.cell? ⟨sB + 1, 0, none⟩ = some (.int .i64 (lastEnd rl)) := fun p => (hS8.below p.h).en.cell
      have HC8 : Hid (∀ p : Bel w8, Calls Tryd.prog 17 #[.pointer (some ⟨b, 0, none⟩), .int .i64 0, .int .i64 n] p.v fun r w' => r = .returned (.int .i64 (rk M n : Nat)) ∧ Below p.v.heap.size p.v w') := fun p => by
        have := count_any b g n M 0 n (by decide) p.v (hS8.below p.h).mp (hS8.below p.h).la
        rw [show (min (n : Int) n).toNat = n by omega, show (max (0 : Int) 0).toNat = 0 by omega, show rk M n - rk M 0 = rk M n by simp [rk]] at this
        exact this
      have hle := lastEnd_ge rl
      have hle2 : lastEnd rl ≤ n := by
        by_cases he : rl = []
        · rw [he]; simp only [lastEnd, List.getLast?_nil]; omega
        · obtain ⟨pre, x, hx⟩ : ∃ pre x, rl = pre ++ [x] := ⟨rl.dropLast, rl.getLast he, (List.dropLast_concat_getLast he).symm⟩
          have := (HR.out.1 pre x ⟨[], by rw [hx]; simp⟩).le
          rw [hx, lastEnd_snoc]; omega
      have HN8 : Hid (∀ p : Bel w8, Calls Tryd.prog 20 #[.pointer (some ⟨b, 0, none⟩), .int .i64 (lastEnd rl)] p.v fun r w' => r = .returned (.int .i64 (-1)) ∧ Below p.v.heap.size p.v w') := fun p => by
        have := next_nat b g n (lastEnd rl).toNat n M (lastEnd rl) (by split <;> omega) (by omega) (.inl ⟨rfl, fun k h1 h2 => HR.out.2.1 k (by
          split
          · omega
          · omega) h2⟩) p.v (hS8.below p.h).mp (hS8.below p.h).la
        rw [if_pos rfl] at this
        exact this
      haveI hinh8 : Inhabited (Bel w8) := ⟨⟨w8, Below.refl _ _⟩⟩
      generalize lastEnd rl = le at *
      generalize rk M n = rr at *
      clear hcall t8 hS8 hF H8 HR
      go_upto_region 12 with fail
      refine region_below mixed (by kernel_rfl) ?_
      repeat (go_big_quiet_step (first | (go_at_call 17; exact calls_bel (HC8.out _)) | (go_at_call 20; exact calls_bel (HN8.out _))))
      refine wpQuiet_nil ?_
      rintro w9 ⟨⟨w9, b10⟩, rfl⟩
      clear e0 e1 e2 e3 e4
      go_wp2
      go_ret
      exact ⟨by simp, b9.trans (b10.mono b9.size)⟩
    · repeat (go_big_quiet_step (fail))
      refine wpQuiet_nil ?_
      rintro w6 ⟨⟨w6, b6⟩, rfl⟩
      obtain ⟨hM, kw, km, bw⟩ := HW.out
      have hM6 := hM.below b6
      have kw6 := box_below kw b6
      have km6 := box_below km b6
      have bw6 := bw.trans (b6.mono bw.size)
      have hmB6 := km6.lt
      clear d0 hM kw km bw b6 HC hinh HW
      go_upto_region 11 with fail
      obtain ⟨W2, hW2⟩ : ∃ W2, W2 = ((w6.alloc (.cells #[.int .i64 0] 3)).alloc (.cells #[.int .i64 (-1)] 3)).alloc (.cells #[.bool true] 4) := ⟨_, rfl⟩
      have hb2 : Below w6.heap.size w6 W2 := by rw [hW2]; exact ((Below.alloc (Below.refl _ _) (Nat.le_refl _) _).alloc (by simp) _).alloc (by simp; omega) _
      have s0 : Boxed W2 w6.heap.size 3 (.int .i64 0) := by rw [hW2]; exact ((Boxed.new w6 3 (.int .i64 0)).alloc _).alloc _
      have s1 : Boxed W2 (w6.heap.size + 1) 3 (.int .i64 (-1)) := by
        have := (Boxed.new (w6.alloc (.cells #[.int .i64 0] 3)) 3 (.int .i64 (-1))).alloc (.cells #[.bool true] 4)
        rw [← hW2, World.size_alloc] at this; exact this
      have s2 : Boxed W2 (w6.heap.size + 1 + 1) 4 (.bool true) := by
        have := Boxed.new ((w6.alloc (.cells #[.int .i64 0] 3)).alloc (.cells #[.int .i64 (-1)] 3)) 4 (.bool true)
        rw [← hW2, World.size_alloc, World.size_alloc] at this; exact this
      rw [← hW2]
      have hM7 := hM6.below hb2
      have kw7 := box_below kw6 hb2
      have km7 := box_below km6 hb2
      have bw7 := bw6.trans (hb2.mono bw6.size)
      have hL7 := HL.out.below bw7
      have hlb := hL7.size
      have hsz6 : w.heap.size ≤ w6.heap.size := bw6.size
      have hg0 := HL.out.size
      clear hW2 hb2 hM6 kw6 km6 bw6
      generalize hsB : w6.heap.size = sB at *
      clear hsB
      have hSm : Sm (sB + 1 + 1) (sB + 1) wB mB sB b g n M [] W2 := ⟨s2, s1, kw7, km7, s0, hM7, hL7⟩
      have hAp : Ap (sB + 1 + 1) (sB + 1) wB mB sB b g := ⟨by omega, by omega, by omega, fun k hk => by
        simp only [List.mem_cons, List.not_mem_nil, or_false] at hk
        omega⟩
      obtain ⟨a0, hs0⟩ := sk_ex M false n _ 0 rfl
      have ha0 := hs0.ge (Nat.zero_le _)
      obtain ⟨rl, hat⟩ := at_ex M n _ a0 rfl ha0.2 (fun h => by
        rcases hs0 with ⟨h1, _⟩ | ⟨_, _, h3, _⟩
        · omega
        · exact h3)
      have hgap : ∀ k : Nat, (-1 : Int) ≤ k → k < a0 → M k = false := fun k _ h => by
        rcases hs0 with ⟨h1, h2⟩ | ⟨h1, h2, h3, h4⟩
        · exact h2 k (Nat.zero_le _) (by omega)
        · exact h4 k (Nat.zero_le _) h
      have hrun := at_run hat (-1) ha0.2 (by omega) hgap
      have htail := at_tail hat (-1) ha0.2 hgap
      have hlens := lens_at hat ha0.2
      have hrka : rk M a0 = 0 := rk_none a0 (fun j hj => hgap j (by omega) hj)
      have hrkn := rk_le M n
      have hRuns := Runs_any b g n M W2 hM7
      have k0 := km7.cell
      have H7 : Hid (Sm (sB + 1 + 1) (sB + 1) wB mB sB b g n M [] W2 ∧ Below w.heap.size w W2) := ⟨hSm, bw7⟩
      have HR : Hid ((∀ pre x, pre ++ [x] <+: rl → Run M n (if pre = [] then (-1 : Int) else lastEnd pre) x) ∧ (∀ k : Nat, (if rl = [] then (-1 : Int) else lastEnd rl) ≤ k → k < n → M k = false) ∧ lens rl = rk M n ∧ Sk M false 0 n a0 ∧ At M n a0 rl) := ⟨hrun, htail, by omega, hs0, hat⟩
      have hW2l := km7.lt
      have hsl : sB + 1 + 1 < W2.heap.size := s2.lt
      clear s0 s1 s2 kw7 km7 hM7 hL7 bw7 hSm hrun htail hlens hgap hs0 hat hrka
      go_wp2_with fail
      refine hRuns.mono ?_
      rintro r w7 ⟨rfl, hw7⟩
      have b8 : Below W2.heap.size W2 w7 := by rw [hw7]; exact ((Below.alloc (Below.refl _ _) (Nat.le_refl _) _).alloc (by simp) _).alloc (by simp; omega) _
      have q0 : Boxed w7 W2.heap.size 24 (.pointer (some ⟨b, 0, none⟩)) := by rw [hw7]; exact ((Boxed.new W2 24 (.pointer (some ⟨b, 0, none⟩))).alloc _).alloc _
      have q1 : Boxed w7 (W2.heap.size + 1) 3 (.int .i64 0) := by
        have := (Boxed.new (W2.alloc (.cells #[.pointer (some ⟨b, 0, none⟩)] 24)) 3 (.int .i64 0)).alloc (.cells #[.int .i64 n] 3)
        rw [← hw7, World.size_alloc] at this; exact this
      have q2 : Boxed w7 (W2.heap.size + 1 + 1) 3 (.int .i64 n) := by
        have := Boxed.new ((W2.alloc (.cells #[.pointer (some ⟨b, 0, none⟩)] 24)).alloc (.cells #[.int .i64 0] 3)) 3 (.int .i64 n)
        rw [← hw7, World.size_alloc, World.size_alloc] at this; exact this
      have hS7 := H7.out.1.below b8
      have hcall := runs_call b g n 0 n a0 W2.heap.size (W2.heap.size + 1) (W2.heap.size + 1 + 1) M rl (Nat.zero_le _) (Nat.le_refl _) HR.out.2.2.2.1 HR.out.2.2.2.2 w7 hS7.mp hS7.la q0.cell q1.cell q2.cell
        19 #[.pointer (some ⟨sB + 1 + 1, 0, none⟩), .pointer (some ⟨sB + 1, 0, none⟩), .pointer (some ⟨wB, 0, none⟩), .pointer (some ⟨mB, 0, none⟩), .pointer (some ⟨sB, 0, none⟩)]
        (fun F pre W => F = [sB + 1 + 1, sB + 1, sB] ∧ Sm (sB + 1 + 1) (sB + 1) wB mB sB b g n M pre W) (fun _ _ => False) (enters_of Tryd.func19 (by kernel_rfl) rfl)
        (fun F pre W h q hq => by
          obtain ⟨rfl, h⟩ := h
          have h1 := h.gd.lt
          have h2 := h.en.lt
          have h3 := h.su.lt
          simp only [List.mem_cons, List.not_mem_nil, or_false] at hq
          omega)
        (fun F pre W W' h l => ⟨h.1, h.2.below l⟩)
        (fun F pre x W h hp => by
          obtain ⟨rfl, h⟩ := h
          have hr := HR.out.1 pre x hp
          have hr' : Run M n (lastEnd pre) (x.1, x.1 + (x.2 - x.1)) := by
            have hlt := hr.lt
            have e : (if pre = [] then (-1 : Int) else lastEnd pre) = lastEnd pre := by
              split
              · rename_i e; subst e; rfl
              · rfl
            rw [e] at hr
            rw [show x.1 + (x.2 - x.1) = x.2 by omega]
            exact hr
          have hll : lens pre ≤ n := by
            obtain ⟨t, ht⟩ := hp
            have h1 := HR.out.2.2.1
            have h2 := rk_le M n
            rw [← ht, List.append_assoc, lens_append] at h1
            omega
          have := sums1_any (sB + 1 + 1) (sB + 1) wB mB sB b g n x.1 (x.2 - x.1) M pre hAp hr' (lastEnd_ge pre) hll W h
          have hlt := hr.lt
          rw [show x.1 + (x.2 - x.1) = x.2 by omega, show ((x.2 - x.1 : Nat) : Int) = (x.2 : Int) - x.1 by omega] at this
          exact this.mono (fun r W' ⟨t, h1, h2⟩ => ⟨t, .inl ⟨h1, _, Newer.refl _ _, rfl, h2⟩⟩))
        [sB + 1 + 1, sB + 1, sB] ⟨by simp; omega, by simp; omega, by simp; omega⟩ ⟨rfl, hS7⟩
      have H8 : Hid (Below w.heap.size w w7) := H7.out.2.trans (b8.mono H7.out.2.size)
      clear hRuns k0 hw7 b8 q0 q1 q2 hS7 H7
      go_wp2_with fail
      refine hcall.mono ?_
      rintro r w8 ⟨rfl, t8, ⟨F', -, hF, hS8⟩ | ⟨_, _, _, h⟩⟩
      rotate_left
      · exact h.elim
      have b9 := H8.out.trans (t8.below H8.out.size (by simp; omega))
      have e0 : ∀ p : Bel w8, p.v.cell? ⟨sB + 1 + 1, 0, none⟩ = some (.bool true) := fun p => (hS8.below p.h).gd.cell
      have e1 : ∀ p : Bel w8, p.v.cell? ⟨sB, 0, none⟩ = some (.int .i64 (rk M n : Nat)) := fun p => by
        have := (hS8.below p.h).su.cell
        rw [HR.out.2.2.1] at this
        exact this
      have e2 : ∀ p : Bel w8, p.v.cell? ⟨mB, 0, none⟩ = some (.pointer (some ⟨b, 0, none⟩)) := fun p => (hS8.below p.h).ma.cell
      have e3 : ∀ p : Bel w8, p.v.cell? ⟨wB, 0, none⟩ = some (.int .i64 n) := fun p => (hS8.below p.h).wo.cell
      have e4 : ∀ p : Bel w8, p.v.cell? ⟨sB + 1, 0, none⟩ = some (.int .i64 (lastEnd rl)) := fun p => (hS8.below p.h).en.cell
      have HC8 : Hid (∀ p : Bel w8, Calls Tryd.prog 17 #[.pointer (some ⟨b, 0, none⟩), .int .i64 0, .int .i64 n] p.v fun r w' => r = .returned (.int .i64 (rk M n : Nat)) ∧ Below p.v.heap.size p.v w') := fun p => by
        have := count_any b g n M 0 n (by decide) p.v (hS8.below p.h).mp (hS8.below p.h).la
        rw [show (min (n : Int) n).toNat = n by omega, show (max (0 : Int) 0).toNat = 0 by omega, show rk M n - rk M 0 = rk M n by simp [rk]] at this
        exact this
      have hle := lastEnd_ge rl
      have hle2 : lastEnd rl ≤ n := by
        by_cases he : rl = []
        · rw [he]; simp only [lastEnd, List.getLast?_nil]; omega
        · obtain ⟨pre, x, hx⟩ : ∃ pre x, rl = pre ++ [x] := ⟨rl.dropLast, rl.getLast he, (List.dropLast_concat_getLast he).symm⟩
          have := (HR.out.1 pre x ⟨[], by rw [hx]; simp⟩).le
          rw [hx, lastEnd_snoc]; omega
      have HN8 : Hid (∀ p : Bel w8, Calls Tryd.prog 20 #[.pointer (some ⟨b, 0, none⟩), .int .i64 (lastEnd rl)] p.v fun r w' => r = .returned (.int .i64 (-1)) ∧ Below p.v.heap.size p.v w') := fun p => by
        have := next_nat b g n (lastEnd rl).toNat n M (lastEnd rl) (by split <;> omega) (by omega) (.inl ⟨rfl, fun k h1 h2 => HR.out.2.1 k (by
          split
          · omega
          · omega) h2⟩) p.v (hS8.below p.h).mp (hS8.below p.h).la
        rw [if_pos rfl] at this
        exact this
      haveI hinh8 : Inhabited (Bel w8) := ⟨⟨w8, Below.refl _ _⟩⟩
      generalize lastEnd rl = le at *
      generalize rk M n = rr at *
      clear hcall t8 hS8 hF H8 HR
      go_upto_region 12 with fail
      refine region_below mixed (by kernel_rfl) ?_
      repeat (go_big_quiet_step (first | (go_at_call 17; exact calls_bel (HC8.out _)) | (go_at_call 20; exact calls_bel (HN8.out _))))
      refine wpQuiet_nil ?_
      rintro w9 ⟨⟨w9, b10⟩, rfl⟩
      clear e0 e1 e2 e3 e4
      go_wp2
      go_ret
      exact ⟨by simp, b9.trans (b10.mono b9.size)⟩
  · repeat (go_big_quiet_step (fail))
    refine wpQuiet_nil ?_
    rintro w6 ⟨⟨w6, b6⟩, rfl⟩
    obtain ⟨hM, kw, km, bw⟩ := HW.out
    have hM6 := hM.below b6
    have kw6 := box_below kw b6
    have km6 := box_below km b6
    have bw6 := bw.trans (b6.mono bw.size)
    have hmB6 := km6.lt
    clear d0 hM kw km bw b6 HC hinh HW
    go_upto_region 11 with fail
    obtain ⟨W2, hW2⟩ : ∃ W2, W2 = ((w6.alloc (.cells #[.int .i64 0] 3)).alloc (.cells #[.int .i64 (-1)] 3)).alloc (.cells #[.bool true] 4) := ⟨_, rfl⟩
    have hb2 : Below w6.heap.size w6 W2 := by rw [hW2]; exact ((Below.alloc (Below.refl _ _) (Nat.le_refl _) _).alloc (by simp) _).alloc (by simp; omega) _
    have s0 : Boxed W2 w6.heap.size 3 (.int .i64 0) := by rw [hW2]; exact ((Boxed.new w6 3 (.int .i64 0)).alloc _).alloc _
    have s1 : Boxed W2 (w6.heap.size + 1) 3 (.int .i64 (-1)) := by
      have := (Boxed.new (w6.alloc (.cells #[.int .i64 0] 3)) 3 (.int .i64 (-1))).alloc (.cells #[.bool true] 4)
      rw [← hW2, World.size_alloc] at this; exact this
    have s2 : Boxed W2 (w6.heap.size + 1 + 1) 4 (.bool true) := by
      have := Boxed.new ((w6.alloc (.cells #[.int .i64 0] 3)).alloc (.cells #[.int .i64 (-1)] 3)) 4 (.bool true)
      rw [← hW2, World.size_alloc, World.size_alloc] at this; exact this
    rw [← hW2]
    have hM7 := hM6.below hb2
    have kw7 := box_below kw6 hb2
    have km7 := box_below km6 hb2
    have bw7 := bw6.trans (hb2.mono bw6.size)
    have hL7 := HL.out.below bw7
    have hlb := hL7.size
    have hsz6 : w.heap.size ≤ w6.heap.size := bw6.size
    have hg0 := HL.out.size
    clear hW2 hb2 hM6 kw6 km6 bw6
    generalize hsB : w6.heap.size = sB at *
    clear hsB
    have hSm : Sm (sB + 1 + 1) (sB + 1) wB mB sB b g n M [] W2 := ⟨s2, s1, kw7, km7, s0, hM7, hL7⟩
    have hAp : Ap (sB + 1 + 1) (sB + 1) wB mB sB b g := ⟨by omega, by omega, by omega, fun k hk => by
      simp only [List.mem_cons, List.not_mem_nil, or_false] at hk
      omega⟩
    obtain ⟨a0, hs0⟩ := sk_ex M false n _ 0 rfl
    have ha0 := hs0.ge (Nat.zero_le _)
    obtain ⟨rl, hat⟩ := at_ex M n _ a0 rfl ha0.2 (fun h => by
      rcases hs0 with ⟨h1, _⟩ | ⟨_, _, h3, _⟩
      · omega
      · exact h3)
    have hgap : ∀ k : Nat, (-1 : Int) ≤ k → k < a0 → M k = false := fun k _ h => by
      rcases hs0 with ⟨h1, h2⟩ | ⟨h1, h2, h3, h4⟩
      · exact h2 k (Nat.zero_le _) (by omega)
      · exact h4 k (Nat.zero_le _) h
    have hrun := at_run hat (-1) ha0.2 (by omega) hgap
    have htail := at_tail hat (-1) ha0.2 hgap
    have hlens := lens_at hat ha0.2
    have hrka : rk M a0 = 0 := rk_none a0 (fun j hj => hgap j (by omega) hj)
    have hrkn := rk_le M n
    have hRuns := Runs_any b g n M W2 hM7
    have k0 := km7.cell
    have H7 : Hid (Sm (sB + 1 + 1) (sB + 1) wB mB sB b g n M [] W2 ∧ Below w.heap.size w W2) := ⟨hSm, bw7⟩
    have HR : Hid ((∀ pre x, pre ++ [x] <+: rl → Run M n (if pre = [] then (-1 : Int) else lastEnd pre) x) ∧ (∀ k : Nat, (if rl = [] then (-1 : Int) else lastEnd rl) ≤ k → k < n → M k = false) ∧ lens rl = rk M n ∧ Sk M false 0 n a0 ∧ At M n a0 rl) := ⟨hrun, htail, by omega, hs0, hat⟩
    have hW2l := km7.lt
    have hsl : sB + 1 + 1 < W2.heap.size := s2.lt
    clear s0 s1 s2 kw7 km7 hM7 hL7 bw7 hSm hrun htail hlens hgap hs0 hat hrka
    go_wp2_with fail
    refine hRuns.mono ?_
    rintro r w7 ⟨rfl, hw7⟩
    have b8 : Below W2.heap.size W2 w7 := by rw [hw7]; exact ((Below.alloc (Below.refl _ _) (Nat.le_refl _) _).alloc (by simp) _).alloc (by simp; omega) _
    have q0 : Boxed w7 W2.heap.size 24 (.pointer (some ⟨b, 0, none⟩)) := by rw [hw7]; exact ((Boxed.new W2 24 (.pointer (some ⟨b, 0, none⟩))).alloc _).alloc _
    have q1 : Boxed w7 (W2.heap.size + 1) 3 (.int .i64 0) := by
      have := (Boxed.new (W2.alloc (.cells #[.pointer (some ⟨b, 0, none⟩)] 24)) 3 (.int .i64 0)).alloc (.cells #[.int .i64 n] 3)
      rw [← hw7, World.size_alloc] at this; exact this
    have q2 : Boxed w7 (W2.heap.size + 1 + 1) 3 (.int .i64 n) := by
      have := Boxed.new ((W2.alloc (.cells #[.pointer (some ⟨b, 0, none⟩)] 24)).alloc (.cells #[.int .i64 0] 3)) 3 (.int .i64 n)
      rw [← hw7, World.size_alloc, World.size_alloc] at this; exact this
    have hS7 := H7.out.1.below b8
    have hcall := runs_call b g n 0 n a0 W2.heap.size (W2.heap.size + 1) (W2.heap.size + 1 + 1) M rl (Nat.zero_le _) (Nat.le_refl _) HR.out.2.2.2.1 HR.out.2.2.2.2 w7 hS7.mp hS7.la q0.cell q1.cell q2.cell
      19 #[.pointer (some ⟨sB + 1 + 1, 0, none⟩), .pointer (some ⟨sB + 1, 0, none⟩), .pointer (some ⟨wB, 0, none⟩), .pointer (some ⟨mB, 0, none⟩), .pointer (some ⟨sB, 0, none⟩)]
      (fun F pre W => F = [sB + 1 + 1, sB + 1, sB] ∧ Sm (sB + 1 + 1) (sB + 1) wB mB sB b g n M pre W) (fun _ _ => False) (enters_of Tryd.func19 (by kernel_rfl) rfl)
      (fun F pre W h q hq => by
        obtain ⟨rfl, h⟩ := h
        have h1 := h.gd.lt
        have h2 := h.en.lt
        have h3 := h.su.lt
        simp only [List.mem_cons, List.not_mem_nil, or_false] at hq
        omega)
      (fun F pre W W' h l => ⟨h.1, h.2.below l⟩)
      (fun F pre x W h hp => by
        obtain ⟨rfl, h⟩ := h
        have hr := HR.out.1 pre x hp
        have hr' : Run M n (lastEnd pre) (x.1, x.1 + (x.2 - x.1)) := by
          have hlt := hr.lt
          have e : (if pre = [] then (-1 : Int) else lastEnd pre) = lastEnd pre := by
            split
            · rename_i e; subst e; rfl
            · rfl
          rw [e] at hr
          rw [show x.1 + (x.2 - x.1) = x.2 by omega]
          exact hr
        have hll : lens pre ≤ n := by
          obtain ⟨t, ht⟩ := hp
          have h1 := HR.out.2.2.1
          have h2 := rk_le M n
          rw [← ht, List.append_assoc, lens_append] at h1
          omega
        have := sums1_any (sB + 1 + 1) (sB + 1) wB mB sB b g n x.1 (x.2 - x.1) M pre hAp hr' (lastEnd_ge pre) hll W h
        have hlt := hr.lt
        rw [show x.1 + (x.2 - x.1) = x.2 by omega, show ((x.2 - x.1 : Nat) : Int) = (x.2 : Int) - x.1 by omega] at this
        exact this.mono (fun r W' ⟨t, h1, h2⟩ => ⟨t, .inl ⟨h1, _, Newer.refl _ _, rfl, h2⟩⟩))
      [sB + 1 + 1, sB + 1, sB] ⟨by simp; omega, by simp; omega, by simp; omega⟩ ⟨rfl, hS7⟩
    have H8 : Hid (Below w.heap.size w w7) := H7.out.2.trans (b8.mono H7.out.2.size)
    clear hRuns k0 hw7 b8 q0 q1 q2 hS7 H7
    go_wp2_with fail
    refine hcall.mono ?_
    rintro r w8 ⟨rfl, t8, ⟨F', -, hF, hS8⟩ | ⟨_, _, _, h⟩⟩
    rotate_left
    · exact h.elim
    have b9 := H8.out.trans (t8.below H8.out.size (by simp; omega))
    have e0 : ∀ p : Bel w8, p.v.cell? ⟨sB + 1 + 1, 0, none⟩ = some (.bool true) := fun p => (hS8.below p.h).gd.cell
    have e1 : ∀ p : Bel w8, p.v.cell? ⟨sB, 0, none⟩ = some (.int .i64 (rk M n : Nat)) := fun p => by
      have := (hS8.below p.h).su.cell
      rw [HR.out.2.2.1] at this
      exact this
    have e2 : ∀ p : Bel w8, p.v.cell? ⟨mB, 0, none⟩ = some (.pointer (some ⟨b, 0, none⟩)) := fun p => (hS8.below p.h).ma.cell
    have e3 : ∀ p : Bel w8, p.v.cell? ⟨wB, 0, none⟩ = some (.int .i64 n) := fun p => (hS8.below p.h).wo.cell
    have e4 : ∀ p : Bel w8, p.v.cell? ⟨sB + 1, 0, none⟩ = some (.int .i64 (lastEnd rl)) := fun p => (hS8.below p.h).en.cell
    have HC8 : Hid (∀ p : Bel w8, Calls Tryd.prog 17 #[.pointer (some ⟨b, 0, none⟩), .int .i64 0, .int .i64 n] p.v fun r w' => r = .returned (.int .i64 (rk M n : Nat)) ∧ Below p.v.heap.size p.v w') := fun p => by
      have := count_any b g n M 0 n (by decide) p.v (hS8.below p.h).mp (hS8.below p.h).la
      rw [show (min (n : Int) n).toNat = n by omega, show (max (0 : Int) 0).toNat = 0 by omega, show rk M n - rk M 0 = rk M n by simp [rk]] at this
      exact this
    have hle := lastEnd_ge rl
    have hle2 : lastEnd rl ≤ n := by
      by_cases he : rl = []
      · rw [he]; simp only [lastEnd, List.getLast?_nil]; omega
      · obtain ⟨pre, x, hx⟩ : ∃ pre x, rl = pre ++ [x] := ⟨rl.dropLast, rl.getLast he, (List.dropLast_concat_getLast he).symm⟩
        have := (HR.out.1 pre x ⟨[], by rw [hx]; simp⟩).le
        rw [hx, lastEnd_snoc]; omega
    have HN8 : Hid (∀ p : Bel w8, Calls Tryd.prog 20 #[.pointer (some ⟨b, 0, none⟩), .int .i64 (lastEnd rl)] p.v fun r w' => r = .returned (.int .i64 (-1)) ∧ Below p.v.heap.size p.v w') := fun p => by
      have := next_nat b g n (lastEnd rl).toNat n M (lastEnd rl) (by split <;> omega) (by omega) (.inl ⟨rfl, fun k h1 h2 => HR.out.2.1 k (by
        split
        · omega
        · omega) h2⟩) p.v (hS8.below p.h).mp (hS8.below p.h).la
      rw [if_pos rfl] at this
      exact this
    haveI hinh8 : Inhabited (Bel w8) := ⟨⟨w8, Below.refl _ _⟩⟩
    generalize lastEnd rl = le at *
    generalize rk M n = rr at *
    clear hcall t8 hS8 hF H8 HR
    go_upto_region 12 with fail
    refine region_below mixed (by kernel_rfl) ?_
    repeat (go_big_quiet_step (first | (go_at_call 17; exact calls_bel (HC8.out _)) | (go_at_call 20; exact calls_bel (HN8.out _))))
    refine wpQuiet_nil ?_
    rintro w9 ⟨⟨w9, b10⟩, rfl⟩
    clear e0 e1 e2 e3 e4
    go_wp2
    go_ret
    exact ⟨by simp, b9.trans (b10.mono b9.size)⟩

theorem sums_any (ws : Int) (a : Option Addr) (cap : Nat) (l : List Int) (hlen : l.length ≤ 9223372036854775807) (fr mi be : Int) (hfr : fr ≤ 9223372036854775807) (hmi : mi ≤ 9223372036854775807) (w : World) (hL : Laid w) (hl : Lst w a l) :
    Calls Tryd.prog 4 #[.int .i64 ws, .slice a l.length cap, .int .i64 fr, .int .i64 mi, .int .i64 be] w fun r w' => r = .returned (.bool true) ∧ Below w.heap.size w w' := by
  by_cases h : ws < 0 ∨ 8192 < ws
  · exact sums_no ws h _ fr mi be w hL
  · obtain ⟨n, rfl⟩ := Int.eq_ofNat_of_zero_le (show 0 ≤ ws by omega)
    exact sums_in n (by omega) a cap l hlen fr mi be hfr hmi w hL hl
end Go.Proofs.YtlnfhnahnmblmaaDoor
