/-
  The library's iterator over words, and copied at them.
-/
import Derived.Test.YtcjblafohfiiaabGreatTabJ
import Derived.Test.YtcjblafohfiiaabGreatCo
set_option linter.unusedVariables false
namespace Go.Proofs.YtcjblafohfiiaabGreat
open Go.RowKit Go.Shelf

attribute [local go_sem] Oper.semAt_some

/-- The slice value holds the numbers, in a block below n0. -/
def SliceU (n0 : Nat) (W : World) (sv : Value) (zs : List Int) : Prop :=
  (sv = .slice none 0 0 ∧ zs = []) ∨ ∃ b off cap, sv = .slice (some ⟨b, off, none⟩) zs.length cap ∧ b < n0 ∧ ∀ (j : Nat) x, zs[j]? = some x → W.cell? ⟨b, off + j, none⟩ = some (.int .u64 x)

theorem SliceU.below {n0 n1 : Nat} {A B : World} {sv : Value} {zs : List Int} (h : Below n1 A B) (hn : n0 ≤ n1) : SliceU n0 A sv zs → SliceU n0 B sv zs
  | .inl e => .inl e
  | .inr ⟨b, off, cap, e, hb, hc⟩ => .inr ⟨b, off, cap, e, hb, fun j x hj => (h.cell (p := ⟨b, off + j, none⟩) (by show b < n1; omega)).trans (hc j x hj)⟩

set_option maxRecDepth 100000 in
set_option maxHeartbeats 2000000 in
theorem valuesU_full (Bs n0 : Nat) (sv : Value) (zs : List Int) (w : World) (hBs : Bs < w.heap.size) (hn0 : n0 ≤ w.heap.size) (hlen : zs.length < 1000000) (hc : w.cell? ⟨Bs, 0, none⟩ = some sv) (hI : SliceU n0 w sv zs) :
    SeqFull Tryz.prog 129 #[.pointer (some ⟨Bs, 0, none⟩)] (fun x : Int => #[Value.int .u64 x]) zs n0 (fun _ => False) w := fun n l J W S0 hW _ hJ hY h0 => by
  have hc' := (hW.cell (p := ⟨Bs, 0, none⟩) hBs).trans hc
  refine callsIn_of_wp Tryz.func129 rfl trivial ?_ rfl
  simp only [Tryz.ntmps129, List.size_toArray, List.length_cons, List.length_nil, Nat.reduceAdd, Nat.reduceSub, Array.replicate_succ, Array.replicate_zero, List.push_toArray, List.append_toArray, List.nil_append, List.cons_append]
  rcases hI.below hW hn0 with ⟨rfl, rfl⟩ | ⟨b, off, cap, rfl, hb, hcs⟩
  · gi_wp2
    gi_loopw [7] (fun i wr => i = .int .i64 0 ∧ J S0 [] wr) (fun _ _ => 0)
    case atStart => exact ⟨rfl, h0⟩
    case round =>
      obtain ⟨rfl, hJs⟩ := hrel
      gi_wp2
      go_end0
      exact ⟨⟨_, rfl⟩, _, hJs⟩
  · gi_wp2
    gi_loopw [7] (fun i wr => ∃ (k : Nat) (S : Nat → Prop), k ≤ zs.length ∧ i = .int .i64 k ∧ J S (zs.take k) wr ∧ Below n0 W wr)
      (fun i _ => zs.length - (intOf i).toNat)
    case atStart => exact ⟨0, S0, Nat.zero_le _, rfl, h0, Below.refl _ _⟩
    case round =>
      obtain ⟨k, S, hk, rfl, hJs, hnx⟩ := hrel
      by_cases hlt : k < zs.length
      · obtain ⟨x, hx⟩ : ∃ x, zs[k]? = some x := ⟨_, List.getElem?_eq_getElem hlt⟩
        have hcx : wr.cell? ⟨b, off + k, none⟩ = some (.int .u64 x) := (hnx.cell (p := ⟨b, off + k, none⟩) hb).trans (hcs k x hx)
        have hsn := take_snoc hx
        obtain ⟨fn, tmps, assign, body, hy, hR⟩ := hY S (zs.take k) x wr hJs (by rw [hsn]; exact List.take_prefix _ _) (n - 1)
        have Hsn : Hid (zs.take k ++ [x] = zs.take (k + 1)) := hsn
        clear hsn hx
        gi_wp2
        refine ⟨fun h => (by cases h), hR.mono ?_⟩
        rintro e W3 ⟨rfl, hJ3, hS3, hk3⟩
        rw [Hsn.out] at hJ3
        gi_wp2
        go_roundw
        case rel => exact ⟨k + 1, S, hlt, by go_num, hJ3, hnx.trans hk3⟩
        case measure => simp [intOf]; omega
      · obtain rfl : k = zs.length := by omega
        rw [List.take_length] at hJs
        gi_wp2
        go_end0
        exact ⟨⟨_, rfl⟩, S, hJs⟩

set_option maxHeartbeats 1000000 in
theorem valuesU_any (a : Option Addr) (len cap : Nat) (w : World) :
    Calls Tryz.prog 118 #[.slice a len cap] w fun e w' => e = .returned (.func (.func 129) #[] #[.pointer (some ⟨w.heap.size, 0, none⟩)]) ∧ w' = w.alloc (.cells #[.slice a len cap] 69) := by
  go_enter Tryz.func118, Tryz.ntmps118
  go_wp2
  go_ret
  exact ⟨rfl, rfl⟩

set_option maxRecDepth 100000 in
set_option maxHeartbeats 2000000 in
theorem copiedU_any (gf : Nat) (lb : Array Value) (xs : List Int) (Own : Nat → Prop) (w : World) (eg : ∀ args w, (callFunc gf args).run Tryz.prog w = .ok (.enter gf args) w)
    (hseq : SeqFull Tryz.prog gf lb (fun x : Int => #[Value.int .u64 x]) xs w.heap.size Own w) (hOwn : ∀ k, Own k → k < w.heap.size) (hlen : xs.length < 1000000) :
    Calls Tryz.prog 117 #[.func (.func gf) #[] lb] w fun e W' => ∃ v, e = .returned v ∧ W'.ownsRow w.heap.size 29 1 v xs.length (u64s xs) ∧ Below w.heap.size w W' := by
  refine (callsIn_wide (n := 9)).1 ?_
  obtain ⟨i0, hi, hz0, hz1, hz2⟩ := info_parts Tryz.infoU64
  refine callsIn_of_wp_marks Tryz.func117 rfl trivial ?_ rfl
  simp only [Tryz.ntmps117, List.size_toArray, List.length_cons, List.length_nil, Nat.reduceAdd, Nat.reduceSub, Array.replicate_succ, Array.replicate_zero, List.push_toArray, List.append_toArray, List.nil_append, List.cons_append]
  gi_wp2
  have bO := Boxed.new w 69 (.slice none 0 0)
  refine range_full (S0 := fun k => k < w.heap.size) (gf := gf) (lb := lb) (w0 := w) (n0 := w.heap.size) rfl eg hseq hOwn ((Below.refl _ w).alloc (Nat.le_refl _) _) (by simp) (fun _ => rfl)
    (Copying w 69 29 (Value.int .u64)) (copying_own w 69 29 (Value.int .u64) _ (by simp))
    ⟨_, bO, World.ownsRow_nil _ _ _ _, by simp, by simp [Value.ownBlock], fun k h => by simp at h ⊢; omega, (Below.refl _ w).alloc (Nat.le_refl _) _⟩
    (fun x => { tmps := #[.func (.func gf) #[] lb, undef, .slice none 0 0, .pointer (some ⟨w.heap.size, 0, none⟩), .int .u64 x, .func (.func gf) #[] lb, .int .u64 x, undef, undef, undef, undef, undef], defers := [] }) ?assign ?body ?done
  case assign =>
    intro l x W K m hK
    gi_wp2
    exact hK
  case body =>
    rintro l S pre x W m ⟨v, hv, hrow, h1, h2, h3, hB⟩ hpre
    have hpl : pre.length < 1000000 := by have := hpre.length_le; simp at this; omega
    have hc := hv.cell
    gi_wp2_with (gi_at_builtin; refine wpListIn_append_own_at _ rfl _ _ 69 rfl w.heap.size 29 i0 (.int .u64 0) 1 8 Tryz.underlying69 hi hz0 hz1 hz2 rfl (by decide) _ _ _ rfl (hrow.alloc _) ⟨W.heap.size, 0, none⟩ 1 1 [.int .u64 x] rfl rfl (cell_one_new _ _ _) (by simp [Value.oneCell']) (by simp [maxLen]; omega) (by omega) (by have := hB.size; simp; omega) ?_; intro v' w1 hown' hgrow _ hat; obtain ⟨g', cap', rfl⟩ := ownsRow_succ hown'; obtain ⟨hv1, hv2, hr2, hk2, hb2⟩ := hv.appended (by decide) hrow hB.size (Nat.le_refl _) hown' hgrow; have hc1 := hv1.cell; have hf1 := hv1.frozen)
    exact copying_step (by decide) hv hrow h1 h2 h3 hB hown' hgrow hat
  case done =>
    rintro D S W hD ⟨v, hv, hrow, -, -, -, hB⟩ hK
    have hc := hv.cell
    gi_wp2
    refine ⟨by simp, .inl ⟨_, _, rfl, run_takeDeferred hK, ?_⟩⟩
    exact ⟨_, results_tmp rfl _ _ _, v, rfl, ownsRow_putObj hrow _ hK rfl, hB.trans (belowK_b (w := w) (Nat.le_refl _) W D _ _ (by simp at hD; omega) hK rfl rfl)⟩

end Go.Proofs.YtcjblafohfiiaabGreat
