import Derived.Test.YtbgnagjhkfkekaaGreatDoorPMa
import Derived.Laws.MakeOwn
import Derived.Maps.AppendAt
import Derived.Lib.LazyBuf
import Derived.Lib.SliceRun
/-
  seek.
-/
set_option linter.unusedVariables false
namespace Go.Proofs.YtbgnagjhkfkekaaGreatDoor.Mk
open Go.RowKit Go.Shelf

attribute [local go_sem] Oper.semAt_some

theorem results_cell1 {P : Program} {fn : Func} {p : Tmp} {ty : TypeId} (h : fn.results = #[.cell p ty]) {tmps : Array Value} {w : World} {v : Value} {A : Addr} (ha : tmps.getD p undef = .pointer (some A)) (hl : (loadVar ty A).run P w = .ok v w) :
    (results fn tmps).run P w = .ok v w := by
  have ha' : tmps[p]?.getD undef = .pointer (some A) := by simpa using ha
  simp [results, h, ha', asAddr, hl]

theorem load_int {w : World} {A : Addr} {v : Int} (h : w.cell? A = some (.int .i64 v)) : (loadVar 3 A).run Tryz.prog w = .ok (.int .i64 v) w := by
  simp [loadVar, go_sem, h]

theorem xor_flip (M : Nat → Bool) (fl : Bool) (i a b : Nat) (h : a ≤ b) (hb : b ≤ 64) : ∃ v : Nat, v < 18446744073709551616 ∧ bits .and .u64 (bits .xor .u64 ((wd M i : Nat) : Int) (if fl then 18446744073709551615 else 0)) ((mk a b : Nat) : Int) = (v : Int) ∧ ∀ j, v.testBit j = ((M (64 * i + j) ^^ fl) && (decide (a ≤ j) && decide (j < b))) := by
  have hf : (if fl then 18446744073709551615 else 0 : Int) = ((if fl then 18446744073709551615 else 0 : Nat) : Int) := by cases fl <;> rfl
  have hfl : (if fl then 18446744073709551615 else 0 : Nat) < 18446744073709551616 := by cases fl <;> decide
  have hx : (wd M i ^^^ (if fl then 18446744073709551615 else 0 : Nat)) < 2 ^ 64 := Nat.xor_lt_two_pow (wd_lt M i) hfl
  refine ⟨(wd M i ^^^ (if fl then 18446744073709551615 else 0 : Nat)) &&& mk a b, Nat.lt_of_le_of_lt Nat.and_le_left hx, ?_, ?_⟩
  · rw [hf, u64_xor_nat _ _ (wd_lt M i) hfl, u64_and_nat _ _ hx (mk_lt hb)]
  · intro j
    rw [Nat.testBit_and, Nat.testBit_xor, wd_bit, mk_bit h]
    have hfb : (if fl then 18446744073709551615 else 0 : Nat).testBit j = (fl && decide (j < 64)) := by
      cases fl
      · simp
      · simp only [if_true, Bool.true_and]
        exact Nat.testBit_two_pow_sub_one 64 j
    rw [hfb]
    by_cases hj : j < 64
    · simp [hj]
    · have : ¬ j < b := by omega
      simp [this]

/-- The first word from f on, ahead of e, that isn't fl; e: there is none. -/
def Sk (M : Nat → Bool) (fl : Bool) (f e r : Nat) : Prop :=
  (r = e ∧ ∀ k, f ≤ k → k < e → M k = fl) ∨ (f ≤ r ∧ r < e ∧ M r = !fl ∧ ∀ k, f ≤ k → k < r → M k = fl)

abbrev flip (fl : Bool) : Int := if fl then 18446744073709551615 else 0

theorem pcs_all {M : Nat → Bool} {fl : Bool} {e : Nat} : ∀ {f : Nat}, (∀ x ∈ pcs e f, ∀ k, x.1.1 ≤ k → k < x.1.2 → M k = fl) → ∀ k, f ≤ k → k < e → M k = fl := by
  intro f
  induction hn : e - f using Nat.strongRecOn generalizing f with
  | ind n ih =>
    intro h k h1 h2
    obtain ⟨hp, hpc⟩ := pcs_cons (e := e) (f := f) (by omega)
    rw [hpc] at h
    by_cases h3 : k < min e (f / 64 * 64 + 64)
    · exact h _ (List.mem_cons_self ..) k h1 h3
    · exact ih (e - min e (f / 64 * 64 + 64)) (by omega) rfl (fun x hx => h x (List.mem_cons_of_mem _ hx)) k (by omega) h2

theorem pcs_stop {M : Nat → Bool} {fl : Bool} {e : Nat} {x : Pc e} {k : Nat} : ∀ {q : List (Pc e)} {f : Nat}, q ++ [x] <+: pcs e f → x.1.1 ≤ k → k < x.1.2 → M k = (!fl) → (∀ j, x.1.1 ≤ j → j < k → M j = fl) → (∀ x ∈ q, ∀ k, x.1.1 ≤ k → k < x.1.2 → M k = fl) → Sk M fl f e k := by
  intro q
  induction q with
  | nil =>
    intro f h h1 h2 h3 h4 _
    by_cases hf : f < e
    · obtain ⟨hp, hpc⟩ := pcs_cons hf
      rw [hpc] at h
      obtain ⟨t, ht⟩ := h
      simp only [List.nil_append, List.cons_append, List.cons.injEq] at ht
      have e1 := ht.1
      subst e1
      dsimp only at h1 h2 h4
      exact .inr ⟨h1, by omega, h3, h4⟩
    · rw [pcs_nil (by omega)] at h
      simp at h
  | cons y q ih =>
    intro f h h1 h2 h3 h4 h5
    by_cases hf : f < e
    · obtain ⟨hp, hpc⟩ := pcs_cons hf
      rw [hpc] at h
      obtain ⟨t, ht⟩ := h
      simp only [List.cons_append, List.cons.injEq] at ht
      obtain ⟨e1, e2⟩ := ht
      subst e1
      have := ih ⟨t, e2⟩ h1 h2 h3 h4 (fun x hx => h5 x (List.mem_cons_of_mem _ hx))
      have hy := h5 _ (List.mem_cons_self ..)
      dsimp only at hy
      have hx1 := x.2.1
      have hx2 := x.2.2.1
      rcases this with ⟨h6, h7⟩ | ⟨h6, h7, h8, h9⟩
      · omega
      · refine .inr ⟨by omega, h7, h8, fun j h10 h11 => ?_⟩
        by_cases h12 : j < min e (f / 64 * 64 + 64)
        · exact hy j h10 h12
        · exact h9 j (by omega) h11
    · rw [pcs_nil (by omega)] at h
      simp at h

end Go.Proofs.YtbgnagjhkfkekaaGreatDoor.Mk

/-
  Count.
-/
set_option linter.unusedVariables false
namespace Go.Proofs.YtbgnagjhkfkekaaGreatDoor.Mk
open Go.RowKit Go.Shelf

attribute [local go_sem] Oper.semAt_some

/-- What pieces of a map hold together. -/
def sumP (M : Nat → Bool) {e : Nat} : List (Pc e) → Nat
  | [] => 0
  | x :: l => pop (wd M (x.1.1 / 64) &&& mk (x.1.1 % 64) (x.1.2 - x.1.1 / 64 * 64)) + sumP M l

theorem sumP_snoc (M : Nat → Bool) {e : Nat} (x : Pc e) : ∀ l : List (Pc e), sumP M (l ++ [x]) = sumP M l + pop (wd M (x.1.1 / 64) &&& mk (x.1.1 % 64) (x.1.2 - x.1.1 / 64 * 64))
  | [] => by simp [sumP]
  | y :: l => by simp only [List.cons_append, sumP, sumP_snoc M x l]; omega

theorem sumP_le (M : Nat → Bool) {e : Nat} : ∀ l : List (Pc e), sumP M l ≤ 64 * l.length
  | [] => by simp [sumP]
  | y :: l => by
    have := sumP_le M l
    have := pop_le (wd M (y.1.1 / 64) &&& mk (y.1.1 % 64) (y.1.2 - y.1.1 / 64 * 64))
    simp only [sumP, List.length_cons]; omega

theorem pcs_len {e : Nat} : ∀ {f : Nat}, (pcs e f).length ≤ e - f := by
  intro f
  induction hn : e - f using Nat.strongRecOn generalizing f with
  | ind n ih =>
    by_cases hf : f < e
    · obtain ⟨hp, hpc⟩ := pcs_cons hf
      rw [hpc, List.length_cons]
      have := ih (e - min e (f / 64 * 64 + 64)) (by omega) rfl
      omega
    · rw [pcs_nil (by omega)]; simp

theorem sumP_pcs (M : Nat → Bool) {e : Nat} : ∀ {f : Nat}, f ≤ e → sumP M (pcs e f) + rk M f = rk M e := by
  intro f
  induction hn : e - f using Nat.strongRecOn generalizing f with
  | ind n ih =>
    intro hfe
    by_cases hf : f < e
    · obtain ⟨hp, hpc⟩ := pcs_cons hf
      rw [hpc]
      have h1 := ih (e - min e (f / 64 * 64 + 64)) (by omega) rfl (by omega)
      have h2 := pop_piece M (f / 64) (f % 64) (min e (f / 64 * 64 + 64) - f / 64 * 64) (by omega) (by omega)
      rw [show 64 * (f / 64) + f % 64 = f by omega, show 64 * (f / 64) + (min e (f / 64 * 64 + 64) - f / 64 * 64) = min e (f / 64 * 64 + 64) by omega] at h2
      simp only [sumP]
      omega
    · have : f = e := by omega
      subst this
      rw [pcs_nil (Nat.le_refl _)]; simp [sumP]

theorem sumP_all (M : Nat → Bool) (e f : Nat) : sumP M (pcs e f) = rk M e - rk M f := by
  by_cases h : f ≤ e
  · have := sumP_pcs M h; omega
  · rw [pcs_nil (by omega)]
    have := rk_mono M (show e ≤ f by omega)
    simp only [sumP]; omega

end Go.Proofs.YtbgnagjhkfkekaaGreatDoor.Mk

/-
  Set.
-/
set_option linter.unusedVariables false
namespace Go.Proofs.YtbgnagjhkfkekaaGreatDoor.Mk
open Go.RowKit Go.Shelf

attribute [local go_sem] Oper.semAt_some

theorem Touch.grown {F : List Nat} {w A B : World} {row : Option Nat} (h : Touch F w A) (hg : A.grownBy B row) (hr : ∀ r, row = some r → w.heap.size ≤ r) : Touch F w B :=
  ⟨hg.os.trans h.os, hg.tape.trans h.tape, hg.output.trans h.output, Nat.le_trans h.size hg.size, fun k hk hn => (hg.block k (Nat.lt_of_lt_of_le hk h.size) (fun e => by have := hr k e.symm; omega)).trans (h.block k hk hn)⟩

theorem Mp.grown {w w' : World} {b g n : Nat} {M : Nat → Bool} {row : Option Nat} (h : Mp w b g n M) (hg : w.grownBy w' row) (hr : ∀ r, row = some r → b < r ∧ g < r) : Mp w' b g n M :=
  h.keep (hg.block b h.own.lt (fun e => by have := (hr b e.symm).1; omega)) (hg.block g h.row.lt (fun e => by have := (hr g e.symm).2; omega))

/-- One piece is marked. -/
def stepP {e : Nat} (s : Bool × (Nat → Bool)) (x : Pc e) : Bool × (Nat → Bool) :=
  (s.1 && decide (wd s.2 (x.1.1 / 64) &&& mk (x.1.1 % 64) (x.1.2 - x.1.1 / 64 * 64) = 0), add s.2 x.1.1 x.1.2)

def setP (M : Nat → Bool) {e : Nat} (l : List (Pc e)) : Bool × (Nat → Bool) := l.foldl stepP (true, M)

theorem setP_snoc (M : Nat → Bool) {e : Nat} (l : List (Pc e)) (x : Pc e) : setP M (l ++ [x]) = stepP (setP M l) x := by simp [setP, List.foldl_append]

theorem setP_out {M : Nat → Bool} {n e : Nat} (h : ∀ k, n ≤ k → M k = false) (hen : e ≤ n) (l : List (Pc e)) : ∀ k, n ≤ k → (setP M l).2 k = false := by
  suffices H : ∀ (l : List (Pc e)) (s : Bool × (Nat → Bool)), (∀ k, n ≤ k → s.2 k = false) → ∀ k, n ≤ k → (l.foldl stepP s).2 k = false from H l _ h
  intro l
  induction l with
  | nil => intro s hs; exact hs
  | cons x l ih =>
    intro s hs
    refine ih _ ?_
    intro k hk
    have := x.2.2.1
    simp only [stepP, add, hs k hk, Bool.false_or]
    simp; omega

theorem and_mk_zero (M : Nat → Bool) (i a b : Nat) (h : a ≤ b) (hb : b ≤ 64) : (wd M i &&& mk a b = 0) ↔ ∀ k, 64 * i + a ≤ k → k < 64 * i + b → M k = false := by
  constructor
  · intro h0 k h1 h2
    have : (wd M i &&& mk a b).testBit (k - 64 * i) = false := by rw [h0]; simp
    rw [Nat.testBit_and, wd_bit, mk_bit h, decide_eq_true (show k - 64 * i < 64 by omega), decide_eq_true (show a ≤ k - 64 * i by omega), decide_eq_true (show k - 64 * i < b by omega), show 64 * i + (k - 64 * i) = k by omega] at this
    simpa using this
  · intro h0
    apply Nat.eq_of_testBit_eq
    intro j
    rw [Nat.testBit_and, wd_bit, mk_bit h, Nat.zero_testBit]
    by_cases h1 : a ≤ j
    · by_cases h2 : j < b
      · rw [h0 (64 * i + j) (by omega) (by omega)]; simp
      · simp [h2]
    · simp [h1]

theorem setP_pcs {e : Nat} : ∀ {f : Nat} (s : Bool × (Nat → Bool)), (((pcs e f).foldl stepP s).1 = true ↔ s.1 = true ∧ ∀ k, f ≤ k → k < e → s.2 k = false) ∧ ((pcs e f).foldl stepP s).2 = add s.2 f e := by
  intro f
  induction hn : e - f using Nat.strongRecOn generalizing f with
  | ind n ih =>
    intro s
    by_cases hf : f < e
    · obtain ⟨hp, hpc⟩ := pcs_cons hf
      rw [hpc, List.foldl_cons]
      obtain ⟨h1, h2⟩ := ih (e - min e (f / 64 * 64 + 64)) (by omega) rfl (stepP s ⟨(f, min e (f / 64 * 64 + 64)), hp⟩)
      have hz := and_mk_zero s.2 (f / 64) (f % 64) (min e (f / 64 * 64 + 64) - f / 64 * 64) (by omega) (by omega)
      rw [show 64 * (f / 64) + f % 64 = f by omega, show 64 * (f / 64) + (min e (f / 64 * 64 + 64) - f / 64 * 64) = min e (f / 64 * 64 + 64) by omega] at hz
      generalize min e (f / 64 * 64 + 64) = q at *
      refine ⟨h1.trans ?_, h2.trans ?_⟩
      · simp only [stepP, Bool.and_eq_true, decide_eq_true_eq, hz]
        have hqe := hp.2.1
        have hfq := hp.1
        dsimp only at hqe hfq
        constructor
        · rintro ⟨⟨h3, h4⟩, h5⟩
          refine ⟨h3, fun k h6 h7 => ?_⟩
          by_cases h8 : k < q
          · exact h4 k h6 h8
          · have := h5 k (by omega) h7
            simp only [add, Bool.or_eq_false_iff] at this
            exact this.1
        · rintro ⟨h3, h4⟩
          refine ⟨⟨h3, fun k h6 h7 => h4 k h6 (by omega)⟩, fun k h6 h7 => ?_⟩
          simp only [add, h4 k (by omega) h7, Bool.false_or]
          simp; omega
      · funext k
        have hqe := hp.2.1
        have hfq := hp.1
        dsimp only at hqe hfq
        simp only [stepP, add]
        cases s.2 k
        · simp only [Bool.false_or]
          rw [Bool.eq_iff_iff]
          simp only [Bool.or_eq_true, Bool.and_eq_true, decide_eq_true_eq]
          omega
        · simp
    · rw [pcs_nil (by omega)]
      refine ⟨⟨fun h => ⟨h, fun k h1 h2 => by omega⟩, fun h => h.1⟩, ?_⟩
      funext k
      simp only [List.foldl_nil, add]
      rw [show (decide (f ≤ k) && decide (k < e)) = false by simp; omega, Bool.or_false]

/-- The store of one piece's word. -/
theorem mp_mark {w : World} {b g n : Nat} {N : Nat → Bool} (h : Mp w b g n N) {a q : Nat} (h1 : a < q) (h2 : q ≤ n) (h3 : q ≤ a / 64 * 64 + 64) (v : Int) (hv : v = ((wd N (a / 64) ||| mk (a % 64) (q - a / 64 * 64) : Nat) : Int)) :
    Mp (w.setCell ⟨g, a / 64, none⟩ (.int .u64 v)) b g n (add N a q) := by
  have e1 : add N a q = add N (64 * (a / 64) + a % 64) (64 * (a / 64) + (q - a / 64 * 64)) := by
    rw [show 64 * (a / 64) + a % 64 = a by omega, show 64 * (a / 64) + (q - a / 64 * 64) = q by omega]
  refine ⟨h.own.setOther h.ne _, (h.row.set (a / 64) _).congr ?_, h.le, ?_⟩
  · intro i hi
    split
    · rename_i e
      subst e
      rw [hv, e1, ← wd_or _ _ _ _ (by omega) (by omega)]
    · rename_i e
      rw [e1, wd_other _ _ _ _ _ (by omega) (by omega) e]
  · intro k hk
    simp only [add, h.out k hk, Bool.false_or]
    simp; omega

end Go.Proofs.YtbgnagjhkfkekaaGreatDoor.Mk

/-
  Set, walked.
-/
set_option linter.unusedVariables false
namespace Go.Proofs.YtbgnagjhkfkekaaGreatDoor.Mk
open Go.RowKit Go.Shelf

attribute [local go_sem] Oper.semAt_some

set_option maxRecDepth 100000 in
set_option maxHeartbeats 4000000 in
theorem set_out (b g n : Nat) (M : Nat → Bool) (fr ct : Int) (hfr : fr ≤ 9223372036854775807) (hc : fr < 0 ∨ ct < 0 ∨ (n : Int) - fr < ct) (w : World) (hM : Mp w b g n M) :
    Calls Tryz.prog 34 #[.pointer (some ⟨b, 0, none⟩), .int .i64 fr, .int .i64 ct] w fun r w' => r = .returned (.tuple #[.bool false, .int .i64 41]) ∧ Below w.heap.size w w' := by
  have hn := hM.le
  have hM1 := hM.below (Below.alloc (Below.refl _ _) (Nat.le_refl _) (.cells #[.pointer (some ⟨b, 0, none⟩)] 91))
  have k0 := hM1.c0
  clear hM1 hM
  by_cases h1 : fr < 0
  · clear hc
    go_enter Tryz.func34, Tryz.ntmps34
    go_wp2
    go_ret2
    exact ⟨rfl, Below.alloc (Below.refl _ _) (Nat.le_refl _) _⟩
  · by_cases h2 : ct < 0
    · clear hc
      go_enter Tryz.func34, Tryz.ntmps34
      go_wp2
      go_ret2
      exact ⟨rfl, Below.alloc (Below.refl _ _) (Nat.le_refl _) _⟩
    · have h3 : (n : Int) - fr < ct := by omega
      clear hc
      go_enter Tryz.func34, Tryz.ntmps34
      go_wp2
      go_ret2
      exact ⟨rfl, Below.alloc (Below.refl _ _) (Nat.le_refl _) _⟩

set_option maxRecDepth 100000 in
set_option maxHeartbeats 8000000 in
theorem set_in (b g n : Nat) (M : Nat → Bool) (f ct : Nat) (hc : f + ct ≤ n) (w : World) (hM : Mp w b g n M) :
    Calls Tryz.prog 34 #[.pointer (some ⟨b, 0, none⟩), .int .i64 f, .int .i64 ct] w fun r w' => ∃ fs : Bool, (fs = true ↔ ∀ k, f ≤ k → k < f + ct → M k = false) ∧ r = .returned (.tuple #[.bool fs, .int .i64 0]) ∧ Mp w' b g n (add M f (f + ct)) ∧ Touch [g] w w' := by
  refine (callsIn_wide (n := 9)).1 ?_
  refine callsIn_of_wp_marks Tryz.func34 rfl trivial ?_ rfl
  simp only [Tryz.ntmps34, List.size_toArray, List.length_cons, List.length_nil, Nat.reduceAdd, Nat.reduceSub, Array.replicate_succ, Array.replicate_zero, List.push_toArray, List.append_toArray, List.nil_append, List.cons_append]
  have hn := hM.le
  have hM1 := hM.below (Below.alloc (Below.refl _ _) (Nat.le_refl _) (.cells #[.pointer (some ⟨b, 0, none⟩)] 91))
  have k0 := hM1.c0
  have HM : Hid (Mp w b g n M) := hM
  have hbl := hM.own.lt
  have hgl := hM.row.lt
  have h2 : ¬ ((n : Int) - f < ct) := by omega
  clear hM1 hM
  gi_wp2
  refine ⟨trivial, (callsIn_wide.2 (pieces_any _ _ _)).mono ?_⟩
  rintro r w1 ⟨rfl, rfl⟩
  clear k0
  gi_wp2
  obtain ⟨W0, hW0⟩ : ∃ W0, W0 = ((((w.alloc (.cells #[.pointer (some ⟨b, 0, none⟩)] 91)).alloc (.cells #[.bool true] 4)).alloc (.cells #[.int .i64 f] 3)).alloc (.cells #[.int .i64 ((f : Int) + ct)] 3)) := ⟨_, rfl⟩
  rw [← hW0]
  have hb0 : Below w.heap.size w W0 := by rw [hW0]; exact (((Below.alloc (Below.refl _ _) (Nat.le_refl _) _).alloc (by simp) _).alloc (by simp; omega) _).alloc (by simp; omega) _
  have hsz : W0.heap.size = w.heap.size + 4 := by rw [hW0]; simp
  have c0 : Boxed W0 w.heap.size 91 (.pointer (some ⟨b, 0, none⟩)) := by rw [hW0]; exact (((Boxed.new w 91 (.pointer (some ⟨b, 0, none⟩))).alloc _).alloc _).alloc _
  have c1 : Boxed W0 (w.heap.size + 1) 4 (.bool true) := by
    have := (((Boxed.new (w.alloc (.cells #[.pointer (some ⟨b, 0, none⟩)] 91)) 4 (.bool true)).alloc (.cells #[.int .i64 f] 3)).alloc (.cells #[.int .i64 ((f : Int) + ct)] 3))
    rw [← hW0, World.size_alloc] at this; exact this
  have c2 : Boxed W0 (w.heap.size + 1 + 1) 3 (.int .i64 f) := by
    have := ((Boxed.new ((w.alloc (.cells #[.pointer (some ⟨b, 0, none⟩)] 91)).alloc (.cells #[.bool true] 4)) 3 (.int .i64 f)).alloc (.cells #[.int .i64 ((f : Int) + ct)] 3))
    rw [← hW0, World.size_alloc, World.size_alloc] at this; exact this
  have c3 : Boxed W0 (w.heap.size + 1 + 1 + 1) 3 (.int .i64 ((f : Int) + ct)) := by
    have := (Boxed.new (((w.alloc (.cells #[.pointer (some ⟨b, 0, none⟩)] 91)).alloc (.cells #[.bool true] 4)).alloc (.cells #[.int .i64 f] 3)) 3 (.int .i64 ((f : Int) + ct)))
    rw [← hW0, World.size_alloc, World.size_alloc, World.size_alloc] at this; exact this
  clear hW0
  refine wpIn_rangeFunc_ownF rfl (by decide) (gf := 100) (lb := #[.pointer (some ⟨w.heap.size + 1 + 1, 0, none⟩), .pointer (some ⟨w.heap.size + 1 + 1 + 1, 0, none⟩)]) rfl trivial (enters_of Tryz.func100 (by kernel_rfl) rfl)
    (pieces_stops _ _ _ f ((f : Int) + ct) (f + ct) (by omega) (by omega) (by omega) W0 c2.cell c3.cell) (fun h k => ⟨k.1.trans h.1, k.2.trans h.2⟩) (fun W l o o' hl ho _ _ => ⟨World.putObj_heap_other (by omega), World.putObj_heap_other (by omega)⟩) (Below.refl _ _) (fun _ => rfl)
    (fun pre W => (Boxed W w.heap.size 91 (.pointer (some ⟨b, 0, none⟩)) ∧ Boxed W (w.heap.size + 1) 4 (.bool (setP M pre).1)) ∧ Mp W b g n (setP M pre).2 ∧ Touch [g] w W)
    (fun _ _ _ => False)
    ?own (fun _ _ _ _ _ h _ _ => h) ⟨⟨c0, c1⟩, HM.out.below hb0, Touch.of_below hb0 _⟩
    (fun x => { tmps := #[.pointer (some ⟨b, 0, none⟩), .int .i64 f, .int .i64 ct, .pointer (some ⟨w.heap.size, 0, none⟩), undef, undef, .bool false, .int .i64 0, .pointer (some ⟨w.heap.size + 1, 0, none⟩), .int .i64 ((x.1.1 : Int) / 64), .int .u64 (mk (x.1.1 % 64) (x.1.2 - x.1.1 / 64 * 64) : Nat), .int .i64 f, .bool false, .bool false, .int .i64 ct, .bool false, .bool false, .bool false, .int .i64 ct, .pointer (some ⟨b, 0, none⟩), .pointer (some ⟨b, 0, none⟩), .pointer (some ⟨b, 0, none⟩), .int .i64 n, .int .i64 f, .int .i64 ((n : Int) - f), .bool false, .bool false, .int .i64 f, .int .i64 f, .int .i64 ct, .int .i64 ((f : Int) + ct), .func (.func 100) #[] #[.pointer (some ⟨w.heap.size + 1 + 1, 0, none⟩), .pointer (some ⟨w.heap.size + 1 + 1 + 1, 0, none⟩)], .int .i64 ((x.1.1 : Int) / 64), .int .u64 (mk (x.1.1 % 64) (x.1.2 - x.1.1 / 64 * 64) : Nat), undef, undef, undef, undef, undef, undef, undef, undef, undef, undef, undef, undef, undef, undef, undef, undef, undef, undef, undef, undef, undef, undef, undef, undef], defers := [] }) ?assign ?body ?done ?stop
  case own =>
    intro s A B row hs hg hr
    obtain ⟨⟨b0, b1⟩, hm, ht⟩ := hs
    have hr' : ∀ r, row = some r → ∃ o : Obj, A.heap[r]? = some o ∧ o.isCells = false := fun r e => (hr r e).2
    exact ⟨⟨boxed_own _ _ (fun _ => _) s A B row b0 hg hr', boxed_own _ _ (fun s => .bool (setP M s).1) s A B row b1 hg hr'⟩, hm.grown hg (fun r e => by have := (hr r e).1; omega), ht.grown hg (fun r e => by have := (hr r e).1; omega)⟩
  case assign =>
    intro l x W K hK
    gi_wp2
    exact hK
  case body =>
    rintro l pre ⟨⟨a, q⟩, h1, h2, h3⟩ W ⟨⟨b0, b1⟩, hMW, hT⟩ hlen
    have hss := setP_snoc M pre ⟨(a, q), h1, h2, h3⟩
    dsimp only at h1 h2 h3 ⊢
    have hia : a / 64 < wds n := by unfold wds; omega
    have k0 := b0.cell
    have k1 := b1.cell
    have kf := b1.frozen
    have k2 := hMW.c1
    have k3 := hMW.at hia
    have k4 := hMW.row.frozen (a / 64)
    have hve := u64_and_nat (wd (setP M pre).2 (a / 64)) (mk (a % 64) (q - a / 64 * 64)) (wd_lt _ _) (mk_lt (by omega))
    have hvo := u64_or_nat (wd (setP M pre).2 (a / 64)) (mk (a % 64) (q - a / 64 * 64)) (wd_lt _ _) (mk_lt (by omega))
    have hmkb : mk (a % 64) (q - a / 64 * 64) < 18446744073709551616 := mk_lt (by omega)
    have hwdb := wd_lt (setP M pre).2 (a / 64)
    obtain ⟨vo, hvo2⟩ : ∃ vo : Nat, vo = wd (setP M pre).2 (a / 64) ||| mk (a % 64) (q - a / 64 * 64) := ⟨_, rfl⟩
    obtain ⟨va, hva2⟩ : ∃ va : Nat, va = wd (setP M pre).2 (a / 64) &&& mk (a % 64) (q - a / 64 * 64) := ⟨_, rfl⟩
    rw [← hvo2] at hvo
    rw [← hva2] at hve
    have HM2 : Hid (∀ W', Mp W' b g n (setP M pre).2 → Mp (W'.setCell ⟨g, a / 64, none⟩ (.int .u64 vo)) b g n (setP M (pre ++ [⟨(a, q), h1, h2, h3⟩])).2) := fun W' h => by
      rw [hss]; exact mp_mark h h1 (by omega) h3 vo (by rw [hvo2])
    have HF2 : Hid ((setP M (pre ++ [⟨(a, q), h1, h2, h3⟩])).1 = ((setP M pre).1 && decide (va = 0))) := by rw [hss, hva2]; rfl
    have HMW : Hid (Mp W b g n (setP M pre).2) := hMW
    have HT : Hid (Touch [g] w W) := hT
    have hge1 : g ≠ w.heap.size + 1 := by omega
    have hne0 : b ≠ w.heap.size + 1 := by omega
    have hng : ∀ X : World, Mp X b g n (setP M pre).2 → b ≠ g := fun X h => h.ne
    have hbg := hng _ hMW
    clear hng hss hvo2 hva2 hMW hT
    generalize mk (a % 64) (q - a / 64 * 64) = mm at *
    generalize wd (setP M pre).2 (a / 64) = ww at *
    generalize (setP M pre).1 = fs at *
    cases fs
    · gi_wp2
      refine ⟨(KeepsOthers.setCell _ _ _).trans (KeepsOthers.setCell _ _ _), ⟨(Below.heap_setCell _ _ _ _ (by simp only [ne_eq]; omega)).trans (Below.heap_setCell _ _ _ _ (by simp only [ne_eq]; omega)), (Below.heap_setCell _ _ _ _ (by simp only [ne_eq]; omega)).trans (Below.heap_setCell _ _ _ _ (by simp only [ne_eq]; omega))⟩, ⟨?_, ?_⟩, HM2.out _ (HMW.out.keep (Below.heap_setCell _ _ _ _ (by simp only [ne_eq]; omega)) (Below.heap_setCell _ _ _ _ (by simp only [ne_eq]; omega))), ?_⟩
      · exact (Below.heap_setCell _ _ _ _ (by simp only [ne_eq]; omega)).trans ((Below.heap_setCell _ _ _ _ (by simp only [ne_eq]; omega)).trans b0)
      · rw [HF2.out]
        refine (Below.heap_setCell _ _ _ _ (by simp only [ne_eq]; omega)).trans ?_
        exact b1.set (.bool false)
      · exact (HT.out.then (Touch.setCell (F := [w.heap.size + 1]) W ⟨w.heap.size + 1, 0, none⟩ _ (by simp)) (fun x hx => by simp at hx; subst hx; right; omega)).then (Touch.setCell (F := [g]) _ ⟨g, a / 64, none⟩ _ (by simp)) (fun x hx => .inl hx)
    · gi_wp2
      refine ⟨(KeepsOthers.setCell _ _ _).trans (KeepsOthers.setCell _ _ _), ⟨(Below.heap_setCell _ _ _ _ (by simp only [ne_eq]; omega)).trans (Below.heap_setCell _ _ _ _ (by simp only [ne_eq]; omega)), (Below.heap_setCell _ _ _ _ (by simp only [ne_eq]; omega)).trans (Below.heap_setCell _ _ _ _ (by simp only [ne_eq]; omega))⟩, ⟨?_, ?_⟩, HM2.out _ (HMW.out.keep (Below.heap_setCell _ _ _ _ (by simp only [ne_eq]; omega)) (Below.heap_setCell _ _ _ _ (by simp only [ne_eq]; omega))), ?_⟩
      · exact (Below.heap_setCell _ _ _ _ (by simp only [ne_eq]; omega)).trans ((Below.heap_setCell _ _ _ _ (by simp only [ne_eq]; omega)).trans b0)
      · rw [HF2.out]
        refine (Below.heap_setCell _ _ _ _ (by simp only [ne_eq]; omega)).trans ?_
        have e : (true && decide (va = 0)) = ((va : Int) == 0) := by rw [Bool.true_and, Bool.eq_iff_iff]; simp
        rw [e]
        exact b1.set (.bool ((va : Int) == 0))
      · exact (HT.out.then (Touch.setCell (F := [w.heap.size + 1]) W ⟨w.heap.size + 1, 0, none⟩ _ (by simp)) (fun x hx => by simp at hx; subst hx; right; omega)).then (Touch.setCell (F := [g]) _ ⟨g, a / 64, none⟩ _ (by simp)) (fun x hx => .inl hx)
  case done =>
    rintro D xs W hD rfl ⟨⟨b0, b1⟩, hM, hT⟩ hK
    have kc := b1.cell
    gi_wp2
    refine ⟨by simp, .inl ⟨_, _, rfl, run_takeDeferred hK, ?_⟩⟩
    obtain ⟨q1, q2⟩ := setP_pcs (e := f + ct) (f := f) (true, M)
    refine ⟨_, results_tmp2 rfl _ _ _, (setP M (pcs (f + ct) f)).1, ?_, rfl, ?_, ?_⟩
    · exact q1.trans ⟨fun h => h.2, fun h => ⟨rfl, h⟩⟩
    · have := hM.grown (grownBy_putObj' W D (.deferred none)) (fun r e => by cases e; omega)
      have q3 : (setP M (pcs (f + ct) f)).2 = add M f (f + ct) := q2
      rw [q3] at this
      exact this
    · exact hT.grown (grownBy_putObj' W D (.deferred none)) (fun r e => by cases e; omega)
  case stop =>
    rintro D c pre W _ _ h _
    exact h.elim

end Go.Proofs.YtbgnagjhkfkekaaGreatDoor.Mk

/-
  Next, Has, New, Words, Clear.
-/
set_option linter.unusedVariables false
namespace Go.Proofs.YtbgnagjhkfkekaaGreatDoor.Mk
open Go.RowKit Go.Shelf

theorem sk_ex (M : Nat → Bool) (fl : Bool) (e : Nat) : ∀ d f, e - f = d → ∃ k, Sk M fl f e k
  | 0, f, h => ⟨e, .inl ⟨rfl, fun k h1 h2 => by omega⟩⟩
  | d + 1, f, h => by
    by_cases hM : M f = fl
    · obtain ⟨k, hk⟩ := sk_ex M fl e d (f + 1) (by omega)
      refine ⟨k, ?_⟩
      rcases hk with ⟨h1, h2⟩ | ⟨h1, h2, h3, h4⟩
      · exact .inl ⟨h1, fun j h5 h6 => by by_cases h7 : j = f; (subst h7; exact hM); exact h2 j (by omega) h6⟩
      · exact .inr ⟨by omega, h2, h3, fun j h5 h6 => by by_cases h7 : j = f; (subst h7; exact hM); exact h4 j (by omega) h6⟩
    · exact ⟨f, .inr ⟨Nat.le_refl _, by omega, by cases hf : M f <;> cases fl <;> simp_all, fun j h5 h6 => by omega⟩⟩

theorem Sk.uniq {M : Nat → Bool} {fl : Bool} {f e j k : Nat} (h : Sk M fl f e j) (h' : Sk M fl f e k) : j = k := by
  rcases h with ⟨h1, h2⟩ | ⟨h1, h2, h3, h4⟩ <;> rcases h' with ⟨k1, k2⟩ | ⟨k1, k2, k3, k4⟩
  · omega
  · rw [h2 k k1 k2] at k3; cases fl <;> cases k3
  · rw [k2 j h1 h2] at h3; cases fl <;> cases h3
  · rcases Nat.lt_trichotomy j k with h5 | h5 | h5
    · rw [k4 j h1 h5] at h3; cases fl <;> cases h3
    · exact h5
    · rw [h4 k k1 h5] at k3; cases fl <;> cases k3

/-- A world that has only grown. -/
structure Bel (w : World) where
  v : World
  h : Below w.heap.size w v

theorem region_below {P : Program} {id : Nat} {Q : Exit → Act → World → Prop} {a : Act} {w : World} {l : List Oper} (hm : P.follows .mixedOrders = true) (hB : Region.lexB .any l.toArray = true)
    (h : wpQuiet P l.toArray (fun w' => ∃ p : Bel w, w' = p.v) (fun a' => ∀ w', (∃ p : Bel w, w' = p.v) → Q .normal a' w') l a) : (Code.region id l.toArray true).wp P Q a w :=
  wp_region_quiet (C := fun w' => ∃ p : Bel w, w' = p.v) hm hB ⟨⟨w.drewN 1, below_drewN (Below.refl _ _) 1⟩, rfl⟩ (by simpa using h)

theorem calls_bel {P : Program} {f : FuncId} {args : Array Value} {w : World} {p : Bel w} {v : Value} (h : Calls P f args p.v fun e w' => e = .returned v ∧ Below p.v.heap.size p.v w') : Calls P f args p.v fun e w'' => e = .returned v ∧ ∃ q : Bel w, w'' = q.v :=
  h.mono fun _ w'' ⟨he, l⟩ => ⟨he, ⟨w'', p.h.trans (l.mono p.h.size)⟩, rfl⟩

theorem Mp.words {w : World} {b g n : Nat} {M : Nat → Bool} (h : Mp w b g n M) : ∀ i, 64 * i < n → i < wds n ∧ ∃ g', some (⟨g, 0, none⟩ : Addr) = some ⟨g', 0, none⟩ ∧ w.cell? ⟨g', i, none⟩ = some (.int .u64 (wd M i : Nat)) :=
  fun i hi => by
    have hw : i < wds n := by unfold wds; omega
    exact ⟨hw, g, rfl, h.at hw⟩

/-- Is this word marked? -/
def hasB (M : Nat → Bool) (a : Int) : Bool := decide (0 ≤ a) && M a.toNat

theorem has_out (b g n : Nat) (M : Nat → Bool) (a : Int) (h : a < 0 ∨ (n : Int) ≤ a) (w : World) (hM : Mp w b g n M) :
    Calls Tryz.prog 33 #[.pointer (some ⟨b, 0, none⟩), .int .i64 a] w fun r w' => r = .returned (.bool (hasB M a)) ∧ w = w' := by
  have hv : hasB M a = false := by
    rcases h with h | h
    · simp [hasB, show ¬ (0 ≤ a) by omega]
    · simp [hasB, hM.out a.toNat (by omega)]
  rw [hv]
  have c0 := hM.c0
  clear hM hv
  by_cases h0 : a < 0
  · clear h
    go_enter Tryz.func33, Tryz.ntmps33
    go_wp2
    go_ret
    exact ⟨rfl, rfl⟩
  · have h1 : (n : Int) ≤ a := by omega
    clear h
    go_enter Tryz.func33, Tryz.ntmps33
    go_wp2
    go_ret
    exact ⟨rfl, rfl⟩

theorem has_in (b g n a : Nat) (M : Nat → Bool) (h : a < n) (w : World) (hM : Mp w b g n M) :
    Calls Tryz.prog 33 #[.pointer (some ⟨b, 0, none⟩), .int .i64 a] w fun r w' => r = .returned (.bool (M a)) ∧ w = w' := by
  have hn := hM.le
  have c0 := hM.c0
  have c1 := hM.c1
  have hia : a / 64 < wds n := by unfold wds; omega
  have c2 := hM.at hia
  have hw := wd_lt M (a / 64)
  have hb : (wd M (a / 64)).testBit (a % 64) = M a := by
    rw [wd_bit, decide_eq_true (show a % 64 < 64 by omega), Bool.true_and, show 64 * (a / 64) + a % 64 = a by omega]
  clear hM
  have Hb : Hid ((wd M (a / 64)).testBit (a % 64) = M a) := hb
  clear hb
  generalize wd M (a / 64) = u at *
  go_enter Tryz.func33, Tryz.ntmps33
  go_wp2
  go_ret
  refine ⟨?_, rfl⟩
  have e : (bits BinOp.and IntKind.u64 ((u : Int) / 2 ^ (a % 64)) 1 == 1) = M a := by
    have h1 : u / 2 ^ (a % 64) ≤ u := Nat.div_le_self _ _
    have h2 := u64_and_nat (u / 2 ^ (a % 64)) 1 (by omega) (by decide)
    rw [cast2] at h2
    rw [← Hb.out, Nat.testBit_eq_decide_div_mod_eq]
    have h3 : bits BinOp.and IntKind.u64 ((u : Int) / 2 ^ (a % 64)) 1 = ((u / 2 ^ (a % 64) % 2 : Nat) : Int) := by
      rw [← Nat.and_one_is_mod]; exact h2
    rw [h3, Bool.eq_iff_iff]
    simp only [beq_iff_eq, decide_eq_true_eq]
    omega
  rw [← e]
  rfl

theorem has_any (b g n : Nat) (M : Nat → Bool) (a : Int) (w : World) (hM : Mp w b g n M) :
    Calls Tryz.prog 33 #[.pointer (some ⟨b, 0, none⟩), .int .i64 a] w fun r w' => r = .returned (.bool (hasB M a)) ∧ w = w' := by
  by_cases h : a < 0 ∨ (n : Int) ≤ a
  · exact has_out b g n M a h w hM
  · obtain ⟨k, rfl⟩ := Int.eq_ofNat_of_zero_le (show 0 ≤ a by omega)
    have : hasB M (k : Int) = M k := by simp [hasB]
    rw [this]
    exact has_in b g n k M (by omega) w hM

theorem Tryz.infoU64 : (Tryz.prog.info? 58).map (fun i => (i.zero, i.size, i.bytes)) = some (some (.int .u64 0), 1, 8) := by kernel_rfl

theorem blank_mp (w : World) (n : Nat) (hn : n ≤ 1048576) : Mp ((w.alloc (.cells (madeCells #[.int .u64 0] (wds n)) 58)).alloc (.cells #[.int .i64 n, .slice (some ⟨w.heap.size, 0, none⟩) (wds n) (wds n)] 128)) (w.heap.size + 1) w.heap.size n (fun _ => false) := by
  have h1 := World.rowIs_alloc (w.alloc (.cells (madeCells #[.int .u64 0] (wds n)) 58)) #[.int .i64 n, .slice (some ⟨w.heap.size, 0, none⟩) (wds n) (wds n)] 128 (mf n w.heap.size) (by
    intro i hi
    match i, hi with
    | 0, _ | 1, _ => rfl
    | j + 2, h => exact absurd (show j + 2 < 2 from h) (by omega))
  rw [World.size_alloc] at h1
  have h2 := (World.rowIs_made w (.int .u64 0) (wds n) 58).alloc (.cells #[.int .i64 n, .slice (some ⟨w.heap.size, 0, none⟩) (wds n) (wds n)] 128)
  exact ⟨h1, h2.congr (fun i _ => by rw [wd_none]; rfl), hn, fun _ _ => rfl⟩

set_option maxHeartbeats 1000000 in
theorem blank_any (n : Nat) (hn : n ≤ 1048576) (w : World) :
    Calls Tryz.prog 68 #[.int .i64 n] w fun r w' => ∃ b g, r = .returned (.pointer (some ⟨b, 0, none⟩)) ∧ Mp w' b g n (fun _ => false) ∧ Below w.heap.size w w' ∧ w.heap.size ≤ b ∧ w.heap.size ≤ g := by
  obtain ⟨i0, hi0, hz0, hz1, hz2⟩ := info_parts Tryz.infoU64
  have hmk : ∀ w, (Instr.makeSlice 61 (.int .i64 (((n : Int) + 64 - 1) / 64)) (.int .i64 (((n : Int) + 64 - 1) / 64))).run Tryz.prog w = .ok (.slice (some ⟨w.heap.size, 0, none⟩) (wds n) (wds n)) (w.alloc (.cells (madeCells #[.int .u64 0] (wds n)) 58)) := fun w => by
    have := run_make (P := Tryz.prog) w 61 58 i0 (.int .u64 0) Tryz.underlying61 hi0 hz0 .i64 .i64 (((n : Int) + 64 - 1) / 64) (((n : Int) + 64 - 1) / 64) (by omega) (Int.le_refl _) (by rw [hz2]; omega) (by omega)
    rw [hz1, Nat.mul_one, show (((n : Int) + 64 - 1) / 64).toNat = wds n by unfold wds; omega] at this
    exact this
  clear hi0 hz0 hz1 hz2
  go_enter Tryz.func68, Tryz.ntmps68
  go_wp2
  go_ret
  exact ⟨w.heap.size + 1, w.heap.size, rfl, blank_mp w n hn, by go_grown, by omega, Nat.le_refl _⟩

theorem new_out (n : Int) (h : n < 0 ∨ 1048576 < n) (w : World) :
    Calls Tryz.prog 30 #[.int .i64 n] w fun r w' => r = .returned (.tuple #[.pointer none, .int .i64 40]) ∧ w = w' := by
  by_cases h0 : n < 0
  · clear h
    go_enter Tryz.func30, Tryz.ntmps30
    go_wp2
    go_ret2
    exact ⟨rfl, rfl⟩
  · have h1 : 1048576 < n := by omega
    clear h
    go_enter Tryz.func30, Tryz.ntmps30
    go_wp2
    go_ret2
    exact ⟨rfl, rfl⟩

theorem new_in (n : Nat) (hn : n ≤ 1048576) (w : World) :
    Calls Tryz.prog 30 #[.int .i64 n] w fun r w' => ∃ b g, r = .returned (.tuple #[.pointer (some ⟨b, 0, none⟩), .int .i64 0]) ∧ Mp w' b g n (fun _ => false) ∧ Below w.heap.size w w' ∧ w.heap.size ≤ b ∧ w.heap.size ≤ g := by
  have hb := blank_any n hn w
  go_enter Tryz.func30, Tryz.ntmps30
  go_wp2_with fail
  refine hb.mono ?_
  rintro r w1 ⟨b, g, rfl, h1, h2, h3, h4⟩
  clear hb
  go_wp2
  go_ret2
  exact ⟨b, g, rfl, h1, h2, h3, h4⟩

end Go.Proofs.YtbgnagjhkfkekaaGreatDoor.Mk

/-
  Clear.
-/
set_option linter.unusedVariables false
set_option maxRecDepth 20000
namespace Go.Proofs.YtbgnagjhkfkekaaGreatDoor.Mk
open Go.RowKit Go.Shelf

theorem Touch.setCells {F : List Nat} (b : Nat) (h : b ∈ F) : ∀ (vs : List Value) (o : Nat) (w : World), Touch F w (w.setCells b o vs)
  | [], _, w => Touch.refl F w
  | v :: r, o, w => (Touch.setCell w ⟨b, o, none⟩ v h).trans (Touch.setCells b h r (o + 1) _)

theorem Mp.zero {w : World} {b g n : Nat} {M : Nat → Bool} (h : Mp w b g n M) : Mp (w.setCells g 0 (List.replicate (wds n) (.int .u64 0))) b g n (fun _ => false) := by
  refine ⟨rowIs_setCells_other h.ne _ _ _ h.own, (rowIs_setCells _ 0 _ _ h.row).congr (fun j hj => ?_), h.le, fun _ _ => rfl⟩
  simp only [List.length_replicate]
  rw [if_pos ⟨Nat.zero_le _, by omega⟩, List.getElem?_replicate, if_pos (by omega), wd_none]; rfl

set_option maxHeartbeats 1000000 in
theorem clear_any (b g n : Nat) (M : Nat → Bool) (w : World) (hM : Mp w b g n M) :
    Calls Tryz.prog 86 #[.pointer (some ⟨b, 0, none⟩)] w fun r w' => r = .returned (.tuple #[]) ∧ Mp w' b g n (fun _ => false) ∧ Touch [g] w w' := by
  have c1 := hM.c1
  have h0 := hM.zero
  have t0 : Touch [g] w (w.setCells g 0 (List.replicate (wds n) (.int .u64 0))) := Touch.setCells g (by simp) _ _ _
  by_cases hL : wds n = 0
  · rw [hL] at c1 h0 t0
    have hcl : ∀ ty, (Builtin.clear_ #[61] ty #[.slice (some ⟨g, 0, none⟩) 0 0]).run Tryz.prog w = .ok (.tuple #[]) w := fun ty => by
      simp [Builtin.clear_, go_sem]
    have h0' : Mp w b g n (fun _ => false) := h0
    have H0 : Hid (Mp w b g n (fun _ => false)) := h0'
    clear h0'
    clear h0 t0 hM hL
    go_enter Tryz.func86, Tryz.ntmps86
    go_wp2
    go_returns
    exact ⟨rfl, H0.out, Touch.refl _ _⟩
  · have hcl : ∀ ty, (Builtin.clear_ #[61] ty #[.slice (some ⟨g, 0, none⟩) (wds n) (wds n)]).run Tryz.prog w = .ok (.tuple #[]) (w.setCells g 0 (List.replicate (wds n) (.int .u64 0))) := fun ty =>
      Lib.run_clear_slice w _ _ ty _ Tryz.underlying61 Tryz.zeroValue58 rfl rfl g 0 _ _ (by omega)
        (fun t ht => by rw [Nat.zero_add, hM.at ht]; rfl) (fun t ht => hM.row.frozen _)
    have H0 : Hid (Mp (w.setCells g 0 (List.replicate (wds n) (.int .u64 0))) b g n (fun _ => false)) := h0
    have T0 : Hid (Touch [g] w (w.setCells g 0 (List.replicate (wds n) (.int .u64 0)))) := t0
    clear h0 t0 hM hL
    go_enter Tryz.func86, Tryz.ntmps86
    go_wp2
    go_returns
    exact ⟨rfl, H0.out, T0.out⟩

end Go.Proofs.YtbgnagjhkfkekaaGreatDoor.Mk

