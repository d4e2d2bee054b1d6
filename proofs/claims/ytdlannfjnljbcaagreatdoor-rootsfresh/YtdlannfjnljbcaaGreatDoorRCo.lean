/-
  copied: what an iterator gives, in a list of its own.
-/
import Derived.Test.YtdlannfjnljbcaaGreatDoorRIt
set_option linter.unusedVariables false
namespace Go.Proofs.YtdlannfjnljbcaaGreatDoor
open Go.RowKit Go.Shelf

attribute [local go_sem] Oper.semAt_some

set_option maxRecDepth 100000 in
set_option maxHeartbeats 2000000 in
theorem copiedI_any (gf : Nat) (lb : Array Value) (xs : List Int) (Own : Nat → Prop) (w : World) (eg : ∀ args w, (callFunc gf args).run Tryz.prog w = .ok (.enter gf args) w)
    (hseq : SeqFull Tryz.prog gf lb (fun x : Int => #[Value.int .i64 x]) xs w.heap.size Own w) (hOwn : ∀ k, Own k → k < w.heap.size) (hlen : xs.length < 8796093022208) :
    Calls Tryz.prog 81 #[.func (.func gf) #[] lb] w fun e W' => ∃ v, e = .returned v ∧ W'.ownsRow w.heap.size 3 1 v xs.length (ints xs) ∧ Below w.heap.size w W' := by
  refine (callsIn_wide (n := 9)).1 ?_
  obtain ⟨i0, hi, hz0, hz1, hz2⟩ := info_parts Tryz.infoInt
  refine callsIn_of_wp_marks Tryz.func81 rfl trivial ?_ rfl
  simp only [Tryz.ntmps81, List.size_toArray, List.length_cons, List.length_nil, Nat.reduceAdd, Nat.reduceSub, Array.replicate_succ, Array.replicate_zero, List.push_toArray, List.append_toArray, List.nil_append, List.cons_append]
  gi_wp2
  have bO := Boxed.new w 33 (.slice none 0 0)
  refine range_full (S0 := fun k => k < w.heap.size) (gf := gf) (lb := lb) (w0 := w) (n0 := w.heap.size) rfl eg hseq hOwn ((Below.refl _ w).alloc (Nat.le_refl _) _) (by simp) (fun _ => rfl)
    (Copying w 33 3 (Value.int .i64)) (copying_own w 33 3 (Value.int .i64) _ (by simp))
    ⟨_, bO, World.ownsRow_nil _ _ _ _, by simp, by simp [Value.ownBlock], fun k h => by simp at h ⊢; omega, (Below.refl _ w).alloc (Nat.le_refl _) _⟩
    (fun x => { tmps := #[.func (.func gf) #[] lb, undef, .slice none 0 0, .pointer (some ⟨w.heap.size, 0, none⟩), .int .i64 x, .func (.func gf) #[] lb, .int .i64 x, undef, undef, undef, undef, undef], defers := [] }) ?assign ?body ?done
  case assign =>
    intro l x W K m hK
    gi_wp2
    exact hK
  case body =>
    rintro l S pre x W m ⟨v, hv, hrow, h1, h2, h3, hB⟩ hpre
    have hpl : pre.length < 8796093022208 := by have := hpre.length_le; simp at this; omega
    have hc := hv.cell
    gi_wp2_with (gi_at_builtin; refine wpListIn_append_own_at _ rfl _ _ 33 rfl w.heap.size 3 i0 (.int .i64 0) 1 8 Tryz.underlying33 hi hz0 hz1 hz2 rfl (by decide) _ _ _ rfl (hrow.alloc _) ⟨W.heap.size, 0, none⟩ 1 1 [.int .i64 x] rfl rfl (cell_one_new _ _ _) (by simp [Value.oneCell']) (by simp [maxLen]; omega) (by omega) (by have := hB.size; simp; omega) ?_; intro v' w1 hown' hgrow _ hat; obtain ⟨g', cap', rfl⟩ := ownsRow_succ hown'; obtain ⟨hv1, hv2, hr2, hk2, hb2⟩ := hv.appended (by decide) hrow hB.size (Nat.le_refl _) hown' hgrow; have hc1 := hv1.cell; have hf1 := hv1.frozen)
    exact copying_step (by decide) hv hrow h1 h2 h3 hB hown' hgrow hat
  case done =>
    rintro D S W hD ⟨v, hv, hrow, -, -, -, hB⟩ hK
    have hc := hv.cell
    gi_wp2
    refine ⟨by simp, .inl ⟨_, _, rfl, run_takeDeferred hK, ?_⟩⟩
    exact ⟨_, results_tmp rfl _ _ _, v, rfl, ownsRow_putObj hrow _ hK rfl, hB.trans (belowK_b (w := w) (Nat.le_refl _) W D _ _ (by simp at hD; omega) hK rfl rfl)⟩

end Go.Proofs.YtdlannfjnljbcaaGreatDoor
