/-
  RemsetHolds: the statement and its card.
-/
import Derived.Test.YtfihjmoaibmllaaDoorRows
import Derived.Test.YtfihjmoaibmllaaDoorCards
import Derived.Test.YtfihjmoaibmllaaDoorTie
import Derived.Test.YtfihjmoaibmllaaDoorZ13
import Derived.Test.YtfihjmoaibmllaaDoorZOp
import Derived.Test.YtfihjmoaibmllaaDoorCLaid
import Derived.SevenTiedAt
import Derived.ShutString
import Derived.ChangeOld
import Derived.Below
set_option linter.unusedVariables false
namespace Go.Proofs.YtfihjmoaibmllaaDoor
open Go.ChangeShapes Go.WideShapes Go.ChangeAt Go.WideMaps Go.WideElems Go.RowKit

/-- What the reach says of a plan. -/
theorem plan_reach2 {H : Type} {d : DataW H} {ts : List TypeId} {r : List (DataW H)} (h : (DataW.weightsEach Tryd.prog (26 :: ts) (d :: r)).all (· ≤ reachBytes) = true) {k : Nat} (hk : k ∈ d.weights Tryd.prog 26) : k ≤ 140737488351232 := by
  have hm : k ∈ DataW.weightsEach Tryd.prog (26 :: ts) (d :: r) := by
    simp only [DataW.weightsEach, List.mem_append]
    exact .inl hk
  have h1 : k ≤ reachBytes := of_decide_eq_true (List.all_eq_true.1 h _ hm)
  unfold reachBytes at h1
  omega

set_option maxRecDepth 100000 in
theorem remsetHolds_lifted (os : Os) (started : os.Started) (H : Type) (enc : TypeId × Value → H) :
    ReturnsInHanded {} Tryd.checked os 4 .any (fun w args => (Rows.remsetHoldsSpec.pre enc Tryd.prog Tryd.f4 [] false w args ∧ laidMetH Tryd.prog laidBoth w) ∧ sizedMet enc Tryd.prog Tryd.f4 (OpenSpec.ofChange Rows.remsetHoldsSpec) false w args)
      (Rows.remsetHoldsSpec.post enc Tryd.prog Tryd.f4 false true false false) := by
  refine returnsInHanded_of_change_and (C := Tryd.checked) (X := fun w _ => laidMetH Tryd.prog laidBoth w) (fun _ _ _ hh h => h.of_heap hh) own started (by kernel_rfl) Tryd.func4
    (ChangeSpec.witness_shaped (enc := enc) (C := Tryd.checked) (os := os) (X := fun w _ => laidMetH Tryd.prog laidBoth w) false (World.doorLaid Tryd.prog 400 os) #[pv zcf (.slice none 0 0), .slice none 0 0, .int .i64 0] 8 rfl (World.shaped_of_RefB (by kernel_rfl) (by kernel_rfl)) (by kernel_rfl) (by kernel_rfl) (by kernel_rfl) (door_met os _)) ?_
  intro W base args ds gs before hval0 hW _ hsz hL _
  have hval : ∀ (j : Nat) t v, Tryd.f4.params[j]? = some t → args[j]? = some v → Value.okWide Tryd.prog W .any base t v := hval0
  have hW' := hW
  obtain ⟨p, q, hA0, hV, rfl, hfz, hnd⟩ := hW
  have hA : DataW.TrodAll enc Tryd.prog W 0 (fun _ => true) true Tryd.f4.params.toList args.toList ds p := hA0
  rw [Tryd.params4] at hA hval
  obtain ⟨v0, vs0, d0, ds0, p0, q0, hargs, rfl, rfl, h0, r0⟩ := trodAll_cons hA
  obtain ⟨v1, vs1, d1, ds1, p1, q1, rfl, rfl, rfl, h1, r1⟩ := trodAll_cons r0
  obtain ⟨v2, vs2, d2, ds2, p2, q2, rfl, rfl, rfl, h2, r2⟩ := trodAll_cons r1
  obtain ⟨rfl, rfl, rfl⟩ := trodAll_nil r2
  obtain rfl : args = #[v0, v1, v2] := by cases args; simp_all
  obtain ⟨rfl, rfl⟩ := trodVars_none hV
  have k0 := h0
  have lt0 : ∀ x ∈ p0, x.block < W.heap.size := by obtain ⟨m, hm⟩ := k0; exact DataW.trod_lt m _ _ _ hm
  obtain ⟨c, tv, P, rfl, hP, hpi, hpl, hpb⟩ := open_plan2 (hval 0 26 v0 rfl rfl) h0
  have hz : (DataW.weightsEach Tryd.prog (Tryd.f4.params.toList ++ []) (d0 :: [d1, d2])).all (· ≤ reachBytes) = true := hsz
  rw [Tryd.params4] at hz
  have hPl : P.length ≤ 1172812402961 := by
    rcases hpl with h | ⟨k, h1, h2⟩
    · omega
    · have := plan_reach2 hz h1
      omega
  have hPb : ∀ o, o ∈ P → o.ps.length ≤ 17592186044416 := fun o ho => by
    rcases hpb o ho with h | ⟨k, h1, h2⟩
    · omega
    · have := plan_reach2 hz h1
      omega
  obtain ⟨a2, len2, cap2, rfl⟩ := okWide_slice Tryd.underlying27 (hval 1 27 v1 rfl rfl)
  have k1 := h1
  have lt1 : ∀ x ∈ p1, x.block < W.heap.size := by obtain ⟨m, hm⟩ := k1; exact DataW.trod_lt m _ _ _ hm
  obtain ⟨l2, e2, b2, t2⟩ := open_deeds h1
  obtain ⟨a3, rfl, rfl, rfl, w3⟩ := open_int Tryd.underlying3 (hval 2 3 v2 rfl rfl) h2
  clear hA0 hval0
  obtain ⟨a0, cap0, rfl, hP2⟩ := hP
  refine (remsetHolds_any c a0 cap0 P a2 cap2 l2 P.length len2 a3 rfl e2.symm W (of_laidBoth hL) ⟨a0, cap0, rfl, hP2⟩ hpi hPl hPb t2 (by omega) (in_y w3)).mono fun e W' ⟨he, bel⟩ => ?_
  subst he
  exact ⟨_, rfl, _, _, _, [], _, [], hW', trodAll_mk1 (shut_bool Tryd.underlying4 _), (trodAll_cons_mk (Below.trod laidOut (by kernel_rfl) (of_decide_eq_true (by kernel_rfl)) k0 bel lt0) (trodAll_cons_mk (Below.trod laidOut (by kernel_rfl) (of_decide_eq_true (by kernel_rfl)) k1 bel lt1) (trodAll_cons_mk (shut_int Tryd.underlying3 w3) trodAll_mk0))), rfl, bel.frame _, fun h => by cases h⟩

theorem remsetHolds_said : Rows.RemsetHoldsSaid :=
  OpenClaim.holds_of_wide 4 Tryd.f4 rfl rfl rfl rfl rfl rfl rfl ⟨rfl, rfl, rfl, rfl, rfl⟩ rfl rfl rfl rfl rfl (by kernel_rfl) Tryd.func4 (by kernel_rfl)
    (of_decide_eq_true (by kernel_rfl)) (by unfold Func.isWrapper; first | (rw [if_pos (by decide +kernel)]; kernel_rfl) | (rw [if_neg (by decide +kernel)]; exact ⟨rfl, rfl⟩))
    (fun os started H enc _ => remsetHolds_lifted os started H enc)

theorem remsetHolds_holds : Rows.RemsetHoldsCardSaid :=
  Claim7.holds_tied_plain_at .later [] [.data, .data] true (true, "a502ff78f57ff0bf468d12770fa3a8bcdc361aa34e0eff18d28cba9c9cbaf609") false
    remsetHolds_said (fun _ h => by cases h) (by kernel_rfl) (fun _ h => by cases h) remsetHolds_row_tie rfl ⟨rfl, rfl⟩ (by kernel_rfl) rfl
    (fun f fn hf hfn => by
      obtain rfl : f = 4 := Option.some.inj ((show Tryd.prog.funcNamed "midden/middenlaw6.RemsetHolds" = some 4 by kernel_rfl).symm.trans hf) |>.symm
      obtain rfl : fn = Tryd.f4 := (Option.some.inj (Tryd.func4.symm.trans hfn)).symm
      exact ⟨by kernel_rfl, fun j t ht => by
        rw [Tryd.params4] at ht
        have hm : t ∈ [26, 27, 3] := by simpa using Array.mem_of_getElem? ht
        have hall : ([26, 27, 3].all fun u => !Tryd.prog.wantsStandIn u) = true := by kernel_rfl
        exact (show Tryd.prog.wantsStandIn t = false by simpa using List.all_eq_true.1 hall t hm)⟩)
    (by kernel_rfl)
#print axioms remsetHolds_holds
end Go.Proofs.YtfihjmoaibmllaaDoor
