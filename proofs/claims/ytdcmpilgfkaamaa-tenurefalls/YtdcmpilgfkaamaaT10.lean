/-
  TenureFalls, walked.
-/
import Derived.Test.YtdcmpilgfkaamaaT8
set_option linter.unusedVariables false
namespace Go.Proofs.Ytdcmpilgfkaamaa
open Go.RowKit

/-- More words at an age. -/
def plus (ws : Nat → Int) (age : Nat) (x : Int) : Nat → Int := fun j => if j = age then ws age + x else ws j

theorem av_set (f : Nat → Int) (x : Int) (i : Nat) (h : i < 16) : (av f).setIfInBounds i (.int .i64 x) = av (fun j => if j = i then x else f j) := by
  apply Array.ext_getElem?
  intro j
  rw [Array.getElem?_setIfInBounds]
  by_cases hj : i = j
  · subst hj
    rw [if_pos rfl, av_get _ _ h]; simp [av_size]; omega
  · rw [if_neg hj]
    by_cases hj2 : j < 16
    · rw [av_get _ _ hj2, av_get _ _ hj2, if_neg (fun e => hj e.symm)]
    · rw [Array.getElem?_eq_none (by rw [av_size]; omega), Array.getElem?_eq_none (by rw [av_size]; omega)]

theorem psum_plus (ws : Nat → Int) (age : Nat) (x : Int) (hx : 0 ≤ x) : ∀ k, psum ws k ≤ psum (plus ws age x) k
  | 0 => Int.le_refl _
  | k + 1 => by
    have h1 := psum_plus ws age x hx k
    have h2 : ws (k + 1) ≤ plus ws age x (k + 1) := by unfold plus; split <;> simp_all <;> omega
    simp only [psum]
    omega

theorem psum_plus0 (ws : Nat → Int) (x : Int) : ∀ k, psum (plus ws 0 x) k = psum ws k
  | 0 => rfl
  | k + 1 => by
    have h1 := psum_plus0 ws x k
    have h2 : plus ws 0 x (k + 1) = ws (k + 1) := by unfold plus; simp
    simp only [psum]
    omega

theorem falls_le {wa : Int} {mo : Nat} {ws : Nat → Int} {age : Nat} {x : Int} (hx : 0 ≤ x) {r q : Nat} (h : IsNext wa mo ws r) (k : IsNext wa mo (plus ws age x) q) : q ≤ r := by
  by_cases hlt : r < q
  · have h1 := k.below r h.lo hlt
    have h2 := psum_plus ws age x hx r
    have h3 := k.hi
    rcases h.own with h4 | h4 <;> omega
  · omega

theorem falls_eq {wa : Int} {mo : Nat} {ws : Nat → Int} {x : Int} {r q : Nat} (h : IsNext wa mo ws r) (k : IsNext wa mo (plus ws 0 x) q) : q = r := by
  refine IsNext.unique (wa := wa) (mo := mo) (ws := ws) ⟨k.lo, k.hi, fun a h1 h2 => ?_, ?_⟩ h
  · have := k.below a h1 h2; rwa [psum_plus0] at this
  · have := k.own; rwa [psum_plus0] at this

theorem wpList_load_row_g {P : Program} {ops : Array Oper} {rest : List Oper} {o : Oper} {a : Act} {w : World} {Q : Exit → Act → World → Prop} (hw : Region.wanted o (yielded ops a.tmps) = true) (ty : TypeId) (x : Operand) (ho : o.op = .load ty x)
    (g : Nat) (hx : a.eval x = .pointer (some ⟨g, 0, none⟩)) (t : TypeId) (cs : Array Value) (fr : Nat × Nat) (d : TypeDesc) (hg : w.heap[g]? = some (.cells cs t fr))
    (hu : P.underlying ty = some d) (hd : (match d with | .struct _ | .array _ _ => true | _ => false) = true) (hi : (P.info? ty).map (·.size) = some cs.size)
    (h : wpList P ops Q rest (a.put o.dst (.agg cs)) w) : wpList P ops Q (o :: rest) a w :=
  wpList_step fun K hK => by rw [if_pos hw]; exact wp_load_row ty x ho g hx t cs fr d hg hu hd hi (hK _ _ h)

/-- The arguments of which nothing is asked. -/
def Out (age more : Int) : Prop := age < 0 ∨ 15 < age ∨ more < 0 ∨ 65536 < more

set_option maxHeartbeats 4000000 in
theorem falls_out (s t m age more : Int) (ws : Nat → Int) (h : Out age more) (w : World) :
    Calls Try.prog 5 #[.int .i64 s, .int .i64 t, .int .i64 m, .agg (av ws), .int .i64 age, .int .i64 more] w fun e w' => e = .returned (.bool true) ∧ Below w.heap.size w w' := by
  have hb := Below.alloc (Below.refl w.heap.size w) (Nat.le_refl _) (.cells (av ws) 27)
  go_enter Try.func5, Try.ntmps5
  go_upto_region 1 with fail
  generalize (w.alloc (.cells (av ws) 27)) = w1 at hb ⊢
  have hk := known_any w1
  go_wp2_with fail
  refine hk.mono ?_
  rintro e w2 ⟨rfl, hb2⟩
  have hb3 := hb.trans (hb2.mono hb.size)
  have HH : Hid (Out age more) := h
  clear hb hb2 hk h
  go_upto_region 3 with fail
  by_cases c1 : age < 0
  · go_wp2; go_ret; exact ⟨rfl, hb3⟩
  by_cases c2 : 15 < age
  · go_wp2; go_ret; exact ⟨rfl, hb3⟩
  by_cases c3 : more < 0
  · go_wp2; go_ret; exact ⟨rfl, hb3⟩
  by_cases c4 : 65536 < more
  · go_wp2; go_ret; exact ⟨rfl, hb3⟩
  exact absurd HH.out (by unfold Out; omega)

set_option maxHeartbeats 4000000 in
theorem falls_bad (s t m age more : Int) (ws : Nat → Int) (h : ¬ Out age more) (hw : ¬ Wk ws) (w : World) :
    Calls Try.prog 5 #[.int .i64 s, .int .i64 t, .int .i64 m, .agg (av ws), .int .i64 age, .int .i64 more] w fun e w' => e = .returned (.bool true) ∧ Below w.heap.size w w' := by
  have hA : (w.alloc (.cells (av ws) 27)).heap[w.heap.size]? = _ := heap_alloc_new w (.cells (av ws) 27)
  have hb := Below.alloc (Below.refl w.heap.size w) (Nat.le_refl _) (.cells (av ws) 27)
  have hsz : (w.alloc (.cells (av ws) 27)).heap.size = w.heap.size + 1 := by simp
  go_enter Try.func5, Try.ntmps5
  go_upto_region 1 with fail
  generalize (w.alloc (.cells (av ws) 27)) = w1 at hA hb hsz ⊢
  have hk := known_any w1
  have HA : Hid (_ = _) := hA
  have HS : Hid (_ = _) := hsz
  clear hA hsz
  go_wp2_with fail
  refine hk.mono ?_
  rintro e w2 ⟨rfl, hb2⟩
  have hb3 := hb.trans (hb2.mono hb.size)
  have HA2 : Hid (w2.heap[w.heap.size]? = some (.cells (av ws) 27 (0, 0))) := (hb2.block w.heap.size (by have := HS.out; omega)).trans HA.out
  have hsu := sums_any ws false (by simp; exact hw) w2
  have c1 : decide (age < 0) = false := by unfold Out at h; simp; omega
  have c2 : decide (15 < age) = false := by unfold Out at h; simp; omega
  have c3 : decide (more < 0) = false := by unfold Out at h; simp; omega
  have c4 : decide (65536 < more) = false := by unfold Out at h; simp; omega
  clear hb hb2 hk h HA
  go_wp2_with (first
    | refine wpList_load_row_g (by rfl) 27 _ rfl _ rfl _ _ _ _ HA2.out Try.underlying27 rfl (size_av _) ?_)
  refine hsu.mono ?_
  rintro e w3 ⟨rfl, hb4⟩
  go_wp2
  go_ret
  exact ⟨rfl, hb3.trans (hb4.mono hb3.size)⟩

end Go.Proofs.Ytdcmpilgfkaamaa
