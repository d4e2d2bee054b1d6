/-
  ImageWrites: the statement and its card.
-/
import Derived.Test.YtblbiikfipcbcaaDoorRows
import Derived.Test.YtblbiikfipcbcaaDoorCards
import Derived.Test.YtblbiikfipcbcaaDoorTie
import Derived.Test.YtblbiikfipcbcaaDoorIWf
import Derived.Test.YtblbiikfipcbcaaDoorCLaid
import Derived.Test.YtblbiikfipcbcaaDoorIOp
import Derived.SevenTiedAt
import Derived.SizedLaws
import Derived.ShutString
import Derived.ChangeOld
import Derived.Below
set_option linter.unusedVariables false
namespace Go.Proofs.YtblbiikfipcbcaaDoor
open Go.ChangeShapes Go.WideShapes Go.ChangeAt Go.WideMaps Go.WideElems Go.RowKit

theorem Wt.le {H : Type} {d : DataW H} {n : Nat} (h : Wt 29 d n) (hw : ∀ k, k ∈ d.weights Tryd.prog 29 → k ≤ reachBytes) : n ≤ 100000000000000 := by
  rcases h with h | ⟨k, h1, h2⟩
  · omega
  · have h3 := hw k h1
    have h4 : reachBytes = 140737488351232 := rfl
    omega

set_option maxRecDepth 100000 in
theorem imageWrites_lifted (os : Os) (started : os.Started) (H : Type) (enc : TypeId × Value → H) :
    ReturnsInHanded {} Tryd.checked os 7 .any (fun w args => (Rows.imageWritesSpec.pre enc Tryd.prog Tryd.f7 [] false w args ∧ laidMetH Tryd.prog laidBoth w) ∧ sizedMet enc Tryd.prog Tryd.f7 (OpenSpec.ofChange Rows.imageWritesSpec) false w args)
      (Rows.imageWritesSpec.post enc Tryd.prog Tryd.f7 false true false false) := by
  refine returnsInHanded_of_change_and (C := Tryd.checked) (X := fun w _ => laidMetH Tryd.prog laidBoth w) (fun _ _ _ hh h => h.of_heap hh) own started (by kernel_rfl) Tryd.func7
    (ChangeSpec.witness_shaped (enc := enc) (C := Tryd.checked) (os := os) (X := fun w _ => laidMetH Tryd.prog laidBoth w) false (World.doorLaid Tryd.prog 400 os) #[.agg #[.slice none 0 0, .slice none 0 0, .slice none 0 0, .slice none 0 0, .slice none 0 0, .int .u64 0]] 8 rfl (World.shaped_of_RefB (by kernel_rfl) (by kernel_rfl)) (by kernel_rfl) (by kernel_rfl) (by kernel_rfl) (door_met os _)) ?_
  intro W base args ds gs before hval0 hW _ hszT hL _
  have hval : ∀ (j : Nat) t v, Tryd.f7.params[j]? = some t → args[j]? = some v → Value.okWide Tryd.prog W .any base t v := hval0
  have hsz : (DataW.weightsEach Tryd.prog (Tryd.f7.params.toList ++ Rows.imageWritesSpec.plain.varTypes Tryd.prog) (ds ++ gs)).all (· ≤ reachBytes) = true := hszT
  have hW' := hW
  obtain ⟨p, q, hA0, hV, rfl, hfz, hnd⟩ := hW
  have hA : DataW.TrodAll enc Tryd.prog W 0 (fun _ => true) true Tryd.f7.params.toList args.toList ds p := hA0
  rw [Tryd.params7] at hA hval hsz
  obtain ⟨v0, vs0, d0, ds0, p0, q0, hargs, rfl, rfl, h0, r0⟩ := trodAll_cons hA
  obtain ⟨rfl, rfl, rfl⟩ := trodAll_nil r0
  obtain rfl : args = #[v0] := by cases args; simp_all
  obtain ⟨rfl, rfl⟩ := trodVars_none hV
  have k0 := h0
  have lt0 : ∀ x ∈ p0, x.block < W.heap.size := by obtain ⟨m, hm⟩ := k0; exact DataW.trod_lt m _ _ _ hm
  have hwt : ∀ k, k ∈ d0.weights Tryd.prog 29 → k ≤ reachBytes := fun k hk => by
    have := List.all_eq_true.1 hsz _ (DataW.weights_mem_each (j := 0) (t := 29) rfl rfl k hk)
    simpa using this
  obtain ⟨vo, vs, vh, vr, vq, ol, ts, g, rfl, ho, ht, hh, hr, hq, eo, es, hnx, hob, z0, z1, z2, z3, z4, z5⟩ := open_graph (hval 0 29 v0 rfl rfl) h0
  have hI : Inb ol ts g := ⟨by have := z0.le hwt; omega, fun x hx => ⟨by have := (hob x hx).2.1.le hwt; omega, by have := (hob x hx).2.2.le hwt; omega⟩, by have := z1.le hwt; omega, fun x hx => ⟨by have := (z2 x hx).1.le hwt; omega, fun y hy => by have := ((z2 x hx).2 y hy).le hwt; omega⟩, by have := z3.le hwt; omega, by have := z4.le hwt; omega, by have := z5.le hwt; omega⟩
  have hG : Grd W.heap.size W vo vs vh vr vq ol ts g := ⟨ho, ht, hh, hr, hq, eo, es, hnx, fun o hm => by
    rw [eo] at hm
    obtain ⟨x, hx, rfl⟩ := List.mem_map.1 hm
    have h1 := (hob x hx).1
    have h2 := hI.ol x hx
    exact ⟨h1.1, h1.2.1, h1.2.2.1, by omega, by omega⟩⟩
  clear hA0 hval0
  refine (writes_any W (of_laidBoth hL) vo vs vh vr vq ol ts g hG hI (fun x hx => (hob x hx).1)).mono fun e W' ⟨he, bel⟩ => ?_
  subst he
  exact ⟨_, rfl, _, _, _, [], _, [], hW', trodAll_mk1 (shut_bool Tryd.underlying4 _), (trodAll_cons_mk (Below.trod laidOut (by kernel_rfl) (of_decide_eq_true (by kernel_rfl)) k0 bel lt0) trodAll_mk0), rfl, bel.frame _, fun h => by cases h⟩

theorem imageWrites_said : Rows.ImageWritesSaid :=
  OpenClaim.holds_of_wide 7 Tryd.f7 rfl rfl rfl rfl rfl rfl rfl ⟨rfl, rfl, rfl, rfl, rfl⟩ rfl rfl rfl rfl rfl (by kernel_rfl) Tryd.func7 (by kernel_rfl)
    (of_decide_eq_true (by kernel_rfl)) (by unfold Func.isWrapper; first | (rw [if_pos (by decide +kernel)]; kernel_rfl) | (rw [if_neg (by decide +kernel)]; exact ⟨rfl, rfl⟩))
    (fun os started H enc _ => imageWrites_lifted os started H enc)

theorem imageWrites_holds : Rows.ImageWritesCardSaid :=
  Claim7.holds_tied_plain_at .later [] [.data, .data] true (true, "6d58886a0b72cba9b044d111c9c515f13e7ec1b1bfb96471ad16fbd3eaf3b1cc") true
    imageWrites_said (fun _ h => by cases h) (by kernel_rfl) (fun _ h => by cases h) imageWrites_row_tie rfl ⟨rfl, rfl⟩ (by kernel_rfl) rfl
    (fun f fn hf hfn => by
      obtain rfl : f = 7 := Option.some.inj ((show Tryd.prog.funcNamed "midden/middenlaw16.ImageWrites" = some 7 by kernel_rfl).symm.trans hf) |>.symm
      obtain rfl : fn = Tryd.f7 := (Option.some.inj (Tryd.func7.symm.trans hfn)).symm
      exact ⟨by kernel_rfl, fun j t ht => by
        rw [Tryd.params7] at ht
        have hm : t ∈ [29] := by simpa using Array.mem_of_getElem? ht
        have hall : ([29].all fun u => !Tryd.prog.wantsStandIn u) = true := by kernel_rfl
        exact (show Tryd.prog.wantsStandIn t = false by simpa using List.all_eq_true.1 hall t hm)⟩)
    (by kernel_rfl)
#print axioms imageWrites_holds
end Go.Proofs.YtblbiikfipcbcaaDoor
