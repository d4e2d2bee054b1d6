import Derived.Test.YtlkengnefhhppaaGreatDoorRows
import Derived.Test.YtlkengnefhhppaaGreatDoorCards
import Derived.Test.YtlkengnefhhppaaGreatDoorTie
import Derived.Test.YtlkengnefhhppaaGreatDoorUPQ18
import Derived.Test.YtlkengnefhhppaaGreatDoorUCLaid
import Derived.WalkKit
import Derived.ProofKit
import Derived.OpenShut
import Derived.Deep.DeepHandedRow
import Derived.SevenTiedAt
import Derived.ShutString
import Derived.ChangeOld
import Derived.Below
set_option linter.unusedVariables false
set_option maxHeartbeats 8000000
namespace Go.Proofs.YtlkengnefhhppaaGreatDoor
open Go.ChangeShapes Go.WideShapes Go.ChangeAt Go.WideMaps Go.WideElems Go.RowKit
abbrev args0 : Array Value := #[.agg #[.int .i64 0, .int .i64 0, .int .i64 0, .int .i64 0, .int .i64 0, .int .i64 0, .int .i64 0, .int .i64 0, .int .i64 0, .int .i64 0, .int .i64 0, .int .i64 0, .int .i64 0, .int .i64 0, .slice none 0 0], .slice none 0 0]
theorem plays_reads (os : Os) {H : Type} (enc : TypeId × Value → H) : ∃ places, DataW.whole enc Tryz.prog ((World.doorLaid Tryz.prog 400 os).forCall (fun _ _ => 0) ⟨#[], args0, []⟩).memory Tryz.f3.params.toList Rows.remsetPlaysSpec.vars false args0.toList 8 = some ([.agg [.agg [.lit (.int .i64 0), .lit (.int .i64 0), .lit (.int .i64 0), .lit (.int .i64 0), .lit (.int .i64 0), .lit (.int .i64 0), .lit (.int .i64 0), .lit (.int .i64 0), .lit (.int .i64 0), .lit (.int .i64 0), .lit (.int .i64 0), .lit (.int .i64 0), .lit (.int .i64 0), .lit (.int .i64 0)], .nil], .nil], [], places) :=
 ⟨[], by kernel_rfl⟩
theorem plays_laid (os : Os) : laidMet Tryz.prog Rows.remsetPlaysUptoRow.laid ((World.doorLaid Tryz.prog 400 os).forCall (fun _ _ => 0) ⟨#[], args0, []⟩).memory :=
 laidMet_of_run' 8 (by kernel_rfl) (by kernel_rfl)
theorem of_laidFive {W : World} (h : laidMetH Tryz.prog Rows.remsetPlaysUptoRow.laid W) : Laid W := by
 rw [MakeChecks.laidMetH_plain _ _ _ (by kernel_rfl)] at h
 obtain ⟨ps, ⟨-, -, -, -, -, -, -, -, -, -, ⟨-, -, -, -, -, -, -, -, -, -, ⟨-, -, -, -, -, -, -, -, -, -, ⟨g0, t0, cs0, f0, p0, q0, hg0, ht0, hv0, hd0, ⟨g1, t1, cs1, f1, p1, q1, hg1, ht1, hv1, hd1, _, _⟩, _⟩, _⟩, _⟩, _⟩, _, _⟩ := h
 obtain rfl := Option.some.inj (gK.symm.trans hg0)
 obtain rfl := Option.some.inj (gB.symm.trans hg1)
 obtain rfl := Option.some.inj (tK.symm.trans ht0)
 obtain rfl := Option.some.inj (tB.symm.trans ht1)
 exact ⟨laidB_of hv1 hd1, laidK_of hv0 hd0⟩
theorem plan_reach2 {H : Type} {d : DataW H} {ts : List TypeId} {r : List (DataW H)} (h : (DataW.weightsEach Tryz.prog (26 :: ts) (d :: r)).all (· ≤ reachBytes) = true) {k : Nat} (hk : k ∈ d.weights Tryz.prog 26) : k ≤ 140737488351232 := by
 have hm : k ∈ DataW.weightsEach Tryz.prog (26 :: ts) (d :: r) := by
  simp only [DataW.weightsEach, List.mem_append]
  exact .inl hk
 have h1 : k ≤ reachBytes := of_decide_eq_true (List.all_eq_true.1 h _ hm)
 unfold reachBytes at h1
 omega
set_option maxRecDepth 100000 in
theorem remsetPlays_lifted (os : Os) (started : os.Started) (H : Type) (enc : TypeId × Value → H) (F : Stop.Interp) :
  ReturnsInHanded {} Tryz.checked os 3 .any ((Rows.OpenSpec.upto Rows.remsetPlaysSpec).preRow enc Tryz.prog Tryz.f3 Rows.remsetPlaysUptoRow.domain false Rows.remsetPlaysUptoRow.laid) (((Rows.OpenSpec.upto Rows.remsetPlaysSpec).at F).post enc Tryz.prog Tryz.f3 false true false false) := by
 obtain ⟨places, hx⟩ := plays_reads os enc
 refine returnsInHanded_of_row (C := Tryz.checked) (s := Rows.OpenSpec.upto Rows.remsetPlaysSpec) own started (by kernel_rfl) Tryz.func3
  (witness_row_at (enc := enc) (C := Tryz.checked) false (World.doorLaid Tryz.prog 400 os) args0 rfl (by kernel_rfl) (by kernel_rfl) (by kernel_rfl)
   (OpenSpec.preRow_of_cond 8 hx (by kernel_rfl) (fun k hk => by cases hk; kernel_rfl) (by kernel_rfl) (plays_laid os))) ?_
 intro W base args ds gs before hval0 hW _ hcond hsz hL _ _
 have hk := hcond _ rfl
 have hval : ∀ (j : Nat) t v, Tryz.f3.params[j]? = some t → args[j]? = some v → Value.okWide Tryz.prog W .any base t v := hval0
 have hW' := hW
 obtain ⟨p, q, hA0, hV, rfl, hfz, hnd⟩ := hW
 have hA : DataW.TrodAll enc Tryz.prog W 0 (fun _ => true) true Tryz.f3.params.toList args.toList ds p := hA0
 rw [Tryz.params3] at hA hval
 obtain ⟨v0, vs0, d0, ds0, p0, q0, hargs, rfl, rfl, h0, r0⟩ := trodAll_cons hA
 obtain ⟨v1, vs1, d1, ds1, p1, q1, rfl, rfl, rfl, h1, r1⟩ := trodAll_cons r0
 obtain ⟨rfl, rfl, rfl⟩ := trodAll_nil r1
 obtain rfl : args = #[v0, v1] := by cases args; simp_all
 obtain ⟨rfl, rfl⟩ := trodVars_none hV
 have hb : Rows.uptoBulkAll ([d0, d1] ++ []) ≤ 1048576 := of_decide_eq_true hk
 simp only [List.append_nil, Rows.uptoBulkAll] at hb
 have k0 := h0
 have lt0 : ∀ x ∈ p0, x.block < W.heap.size := by obtain ⟨m, hm⟩ := k0; exact DataW.trod_lt m _ _ _ hm
 have k1 := h1
 have lt1 : ∀ x ∈ p1, x.block < W.heap.size := by obtain ⟨m, hm⟩ := k1; exact DataW.trod_lt m _ _ _ hm
 obtain ⟨c, tv, P, rfl, hP, hpi, hpl, -⟩ := open_plan2 (hval 0 26 v0 rfl rfl) h0
 have hz : (DataW.weightsEach Tryz.prog (Tryz.f3.params.toList ++ []) (d0 :: [d1])).all (· ≤ reachBytes) = true := hsz
 rw [Tryz.params3] at hz
 have hPl : P.length ≤ 1172812402961 := by
  rcases hpl with h | ⟨k, h1, h2⟩
  ·omega
  ·have := plan_reach2 hz h1
   omega
 obtain ⟨a2, len2, cap2, rfl⟩ := okWide_slice Tryz.underlying27 (hval 1 27 v1 rfl rfl)
 obtain ⟨O, e2, b2, t2⟩ := open_ops6 h1 (by omega)
 clear hA0 hval0
 obtain ⟨a0, cap0, rfl, hP2⟩ := hP
 refine (remsetPlays_any c a0 cap0 P P.length rfl a2 cap2 O len2 e2.symm b2 W (of_laidFive hL) ⟨a0, cap0, rfl, hP2⟩ hpi hPl t2).mono fun e W' ⟨he, bel⟩ => ?_
 subst he
 exact ⟨_, rfl, _, _, _, [], _, [], hW', trodAll_mk1 (shut_bool Tryz.underlying4 _), (trodAll_cons_mk (Below.trod laidOut (by kernel_rfl) (of_decide_eq_true (by kernel_rfl)) k0 bel lt0) (trodAll_cons_mk (Below.trod laidOut (by kernel_rfl) (of_decide_eq_true (by kernel_rfl)) k1 bel lt1) trodAll_mk0)), rfl, bel.frame _, fun h => by cases h⟩
theorem remsetPlays_saidUpto : Rows.RemsetPlaysUptoSaid :=
 OpenClaim.holds_of_cond 3 Tryz.f3 rfl rfl rfl rfl rfl rfl rfl ⟨rfl, rfl, rfl, rfl, rfl⟩ rfl rfl rfl rfl rfl (by kernel_rfl) Tryz.func3 (by kernel_rfl)
  (of_decide_eq_true (by kernel_rfl)) (by unfold Func.isWrapper; first | (rw [if_pos (by decide +kernel)]; kernel_rfl) | (rw [if_neg (by decide +kernel)]; exact ⟨rfl, rfl⟩))
  (fun os started H enc _ F => by rw [OpenClaim.pre_eq_preRow]; exact remsetPlays_lifted os started H enc F)
theorem remsetPlays_holds : Rows.RemsetPlaysUptoCardSaid :=
 Claim7.holds_tied_plain_at .later [] _ _ _ _ remsetPlays_saidUpto (fun _ h => by cases h) (by kernel_rfl) (fun _ h => by cases h) remsetPlaysUpto_row_tie rfl ⟨rfl, rfl⟩ (by kernel_rfl) rfl
  (fun f fn hf hfn => by
   obtain rfl : f = 3 := Option.some.inj ((show Tryz.prog.funcNamed "midden/middenlaw6.RemsetPlays" = some 3 by kernel_rfl).symm.trans hf) |>.symm
   obtain rfl : fn = Tryz.f3 := (Option.some.inj (Tryz.func3.symm.trans hfn)).symm
   exact ⟨by kernel_rfl, fun j t ht => by
    rw [Tryz.params3] at ht
    have hm : t ∈ [26, 27] := by simpa using Array.mem_of_getElem? ht
    have hall : ([26, 27].all fun u => !Tryz.prog.wantsStandIn u) = true := by kernel_rfl
    exact (show Tryz.prog.wantsStandIn t = false by simpa using List.all_eq_true.1 hall t hm)⟩)
  (by kernel_rfl)
#print axioms remsetPlays_holds
end Go.Proofs.YtlkengnefhhppaaGreatDoor
