/-
  RemsetRebuilds: the statement and its card.
-/
import Derived.Test.YtfihjmoaibmllaaDoorRows
import Derived.Test.YtfihjmoaibmllaaDoorCards
import Derived.Test.YtfihjmoaibmllaaDoorTie
import Derived.Test.YtfihjmoaibmllaaDoorY39
import Derived.Test.YtfihjmoaibmllaaDoorCLaid
import Derived.SevenTiedAt
import Derived.ShutString
import Derived.ChangeOld
import Derived.Below
set_option linter.unusedVariables false
namespace Go.Proofs.YtfihjmoaibmllaaDoor
open Go.ChangeShapes Go.WideShapes Go.ChangeAt Go.WideMaps Go.WideElems Go.RowKit

/-- What the reach says of a plan's things. -/
theorem plan_reach {H : Type} {dc : DataW H} {es ss : List (DataW H)} {ts : List TypeId} {r : List (DataW H)} (h : (DataW.weightsEach Tryd.prog (26 :: ts) (.agg [dc, .slice es ss] :: r)).all (· ≤ reachBytes) = true) : es.length ≤ 1172812402961 := by
  have hb : Tryd.prog.bytesOf 51 = 120 := by kernel_rfl
  have hm : (es.length + ss.length) * 120 ∈ DataW.weightsEach Tryd.prog (26 :: ts) (.agg [dc, .slice es ss] :: r) := by
    rw [← hb]
    simp only [DataW.weightsEach, List.mem_append]
    left
    rw [DataW.weights]
    simp only [Tryd.underlying26, Tryd.underlying24, List.map_cons, List.map_nil, DataW.weightsEach, DataW.weights]
    simp
  have h1 : (es.length + ss.length) * 120 ≤ reachBytes := of_decide_eq_true (List.all_eq_true.1 h _ hm)
  unfold reachBytes at h1
  omega

set_option maxRecDepth 100000 in
theorem remsetRebuilds_lifted (os : Os) (started : os.Started) (H : Type) (enc : TypeId × Value → H) :
    ReturnsInHanded {} Tryd.checked os 3 .any (fun w args => (Rows.remsetRebuildsSpec.pre enc Tryd.prog Tryd.f3 [] false w args ∧ laidMetH Tryd.prog laidBoth w) ∧ sizedMet enc Tryd.prog Tryd.f3 (OpenSpec.ofChange Rows.remsetRebuildsSpec) false w args)
      (Rows.remsetRebuildsSpec.post enc Tryd.prog Tryd.f3 false true false false) := by
  refine returnsInHanded_of_change_and (C := Tryd.checked) (X := fun w _ => laidMetH Tryd.prog laidBoth w) (fun _ _ _ hh h => h.of_heap hh) own started (by kernel_rfl) Tryd.func3
    (ChangeSpec.witness_shaped (enc := enc) (C := Tryd.checked) (os := os) (X := fun w _ => laidMetH Tryd.prog laidBoth w) false (World.doorLaid Tryd.prog 400 os) #[pv zcf (.slice none 0 0), .slice none 0 0] 8 rfl (World.shaped_of_RefB (by kernel_rfl) (by kernel_rfl)) (by kernel_rfl) (by kernel_rfl) (by kernel_rfl) (door_met os _)) ?_
  intro W base args ds gs before hval0 hW _ hsz hL _
  have hval : ∀ (j : Nat) t v, Tryd.f3.params[j]? = some t → args[j]? = some v → Value.okWide Tryd.prog W .any base t v := hval0
  have hW' := hW
  obtain ⟨p, q, hA0, hV, rfl, hfz, hnd⟩ := hW
  have hA : DataW.TrodAll enc Tryd.prog W 0 (fun _ => true) true Tryd.f3.params.toList args.toList ds p := hA0
  rw [Tryd.params3] at hA hval
  obtain ⟨v0, vs0, d0, ds0, p0, q0, hargs, rfl, rfl, h0, r0⟩ := trodAll_cons hA
  obtain ⟨v1, vs1, d1, ds1, p1, q1, rfl, rfl, rfl, h1, r1⟩ := trodAll_cons r0
  obtain ⟨rfl, rfl, rfl⟩ := trodAll_nil r1
  obtain rfl : args = #[v0, v1] := by cases args; simp_all
  obtain ⟨rfl, rfl⟩ := trodVars_none hV
  have k0 := h0
  have lt0 : ∀ x ∈ p0, x.block < W.heap.size := by obtain ⟨m, hm⟩ := k0; exact DataW.trod_lt m _ _ _ hm
  obtain ⟨c, tv, P, rfl, hP, hpi, hpl⟩ := open_plan (hval 0 26 v0 rfl rfl) h0
  have hPl : P.length ≤ 1172812402961 := by
    rcases hpl with h | ⟨dc, es, ss, rfl, he⟩
    · omega
    · have hz : (DataW.weightsEach Tryd.prog (Tryd.f3.params.toList ++ []) (.agg [dc, .slice es ss] :: [d1])).all (· ≤ reachBytes) = true := hsz
      rw [Tryd.params3] at hz
      rw [← he]
      exact plan_reach hz
  obtain ⟨a2, len2, cap2, rfl⟩ := okWide_slice Tryd.underlying27 (hval 1 27 v1 rfl rfl)
  have k1 := h1
  have lt1 : ∀ x ∈ p1, x.block < W.heap.size := by obtain ⟨m, hm⟩ := k1; exact DataW.trod_lt m _ _ _ hm
  obtain ⟨l2, e2, b2, t2⟩ := open_deeds h1
  clear hA0 hval0
  obtain ⟨a0, cap0, rfl, hP2⟩ := hP
  refine (rebuilds_any c a0 cap0 P a2 cap2 l2 P.length len2 rfl e2.symm W (of_laidBoth hL) ⟨a0, cap0, rfl, hP2⟩ hpi hPl t2 (by omega)).mono fun e W' ⟨he, bel⟩ => ?_
  subst he
  exact ⟨_, rfl, _, _, _, [], _, [], hW', trodAll_mk1 (shut_bool Tryd.underlying4 _), (trodAll_cons_mk (Below.trod laidOut (by kernel_rfl) (of_decide_eq_true (by kernel_rfl)) k0 bel lt0) (trodAll_cons_mk (Below.trod laidOut (by kernel_rfl) (of_decide_eq_true (by kernel_rfl)) k1 bel lt1) trodAll_mk0)), rfl, bel.frame _, fun h => by cases h⟩

theorem remsetRebuilds_said : Rows.RemsetRebuildsSaid :=
  OpenClaim.holds_of_wide 3 Tryd.f3 rfl rfl rfl rfl rfl rfl rfl ⟨rfl, rfl, rfl, rfl, rfl⟩ rfl rfl rfl rfl rfl (by kernel_rfl) Tryd.func3 (by kernel_rfl)
    (of_decide_eq_true (by kernel_rfl)) (by unfold Func.isWrapper; first | (rw [if_pos (by decide +kernel)]; kernel_rfl) | (rw [if_neg (by decide +kernel)]; exact ⟨rfl, rfl⟩))
    (fun os started H enc _ => remsetRebuilds_lifted os started H enc)

theorem remsetRebuilds_holds : Rows.RemsetRebuildsCardSaid :=
  Claim7.holds_tied_plain_at .later [] [.data, .data] true (true, "a502ff78f57ff0bf468d12770fa3a8bcdc361aa34e0eff18d28cba9c9cbaf609") false
    remsetRebuilds_said (fun _ h => by cases h) (by kernel_rfl) (fun _ h => by cases h) remsetRebuilds_row_tie rfl ⟨rfl, rfl⟩ (by kernel_rfl) rfl
    (fun f fn hf hfn => by
      obtain rfl : f = 3 := Option.some.inj ((show Tryd.prog.funcNamed "midden/middenlaw6.RemsetRebuilds" = some 3 by kernel_rfl).symm.trans hf) |>.symm
      obtain rfl : fn = Tryd.f3 := (Option.some.inj (Tryd.func3.symm.trans hfn)).symm
      exact ⟨by kernel_rfl, fun j t ht => by
        rw [Tryd.params3] at ht
        have hm : t ∈ [26, 27] := by simpa using Array.mem_of_getElem? ht
        have hall : ([26, 27].all fun u => !Tryd.prog.wantsStandIn u) = true := by kernel_rfl
        exact (show Tryd.prog.wantsStandIn t = false by simpa using List.all_eq_true.1 hall t hm)⟩)
    (by kernel_rfl)
#print axioms remsetRebuilds_holds
end Go.Proofs.YtfihjmoaibmllaaDoor
