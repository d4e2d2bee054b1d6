/-
  ImageTorn: the statement and its card.
-/
import Derived.Test.YtblbiikfipcbcaaDoorRows
import Derived.Test.YtblbiikfipcbcaaDoorCards
import Derived.Test.YtblbiikfipcbcaaDoorTie
import Derived.Test.YtblbiikfipcbcaaDoorIS3
import Derived.Test.YtblbiikfipcbcaaDoorCLaid
import Derived.Test.YtblbiikfipcbcaaDoorIOb
import Derived.SevenTiedAt
import Derived.SizedLaws
import Derived.ShutString
import Derived.ChangeOld
import Derived.Below
set_option linter.unusedVariables false
namespace Go.Proofs.YtblbiikfipcbcaaDoor
open Go.ChangeShapes Go.WideShapes Go.ChangeAt Go.WideMaps Go.WideElems Go.RowKit

theorem Wt.le {H : Type} {d : DataW H} {n : Nat} (h : Wt 29 d n) (hw : ∀ k, k ∈ d.weights Tryd.prog 29 → k ≤ reachBytes) : n ≤ 100000000000000 := by
  rcases h with h | ⟨k, h1, h2⟩
  · omega
  · have h3 := hw k h1
    have h4 : reachBytes = 140737488351232 := rfl
    omega

theorem Wb.le {H : Type} {d : DataW H} {n : Nat} (h : Wb 22 d n) (hw : ∀ k, k ∈ d.weights Tryd.prog 22 → k ≤ reachBytes) : n ≤ 1000000000000000 := by
  rcases h with h | ⟨k, h1, h2⟩
  · omega
  · have h3 := hw k h1
    have h4 : reachBytes = 140737488351232 := rfl
    omega

set_option maxRecDepth 100000 in
theorem imageTorn_lifted (os : Os) (started : os.Started) (H : Type) (enc : TypeId × Value → H) :
    ReturnsInHanded {} Tryd.checked os 4 .any (fun w args => (Rows.imageTornSpec.pre enc Tryd.prog Tryd.f4 [] false w args ∧ laidMetH Tryd.prog laidBoth w) ∧ sizedMet enc Tryd.prog Tryd.f4 (OpenSpec.ofChange Rows.imageTornSpec) false w args)
      (Rows.imageTornSpec.post enc Tryd.prog Tryd.f4 false true false false) := by
  refine returnsInHanded_of_change_and (C := Tryd.checked) (X := fun w _ => laidMetH Tryd.prog laidBoth w) (fun _ _ _ hh h => h.of_heap hh) own started (by kernel_rfl) Tryd.func4
    (ChangeSpec.witness_shaped (enc := enc) (C := Tryd.checked) (os := os) (X := fun w _ => laidMetH Tryd.prog laidBoth w) false (World.doorLaid Tryd.prog 400 os) #[.agg #[.slice none 0 0, .slice none 0 0, .slice none 0 0, .slice none 0 0, .slice none 0 0, .int .u64 0], .int .i64 0, .int .u8 0, .slice none 0 0] 8 rfl (World.shaped_of_RefB (by kernel_rfl) (by kernel_rfl)) (by kernel_rfl) (by kernel_rfl) (by kernel_rfl) (door_met os _)) ?_
  intro W base args ds gs before hval0 hW _ hszT hL _
  have hval : ∀ (j : Nat) t v, Tryd.f4.params[j]? = some t → args[j]? = some v → Value.okWide Tryd.prog W .any base t v := hval0
  have hsz : (DataW.weightsEach Tryd.prog (Tryd.f4.params.toList ++ Rows.imageTornSpec.plain.varTypes Tryd.prog) (ds ++ gs)).all (· ≤ reachBytes) = true := hszT
  have hW' := hW
  obtain ⟨p, q, hA0, hV, rfl, hfz, hnd⟩ := hW
  have hA : DataW.TrodAll enc Tryd.prog W 0 (fun _ => true) true Tryd.f4.params.toList args.toList ds p := hA0
  rw [Tryd.params4] at hA hval hsz
  obtain ⟨v0, vs0, d0, ds0, p0, q0, hargs, rfl, rfl, h0, r0⟩ := trodAll_cons hA
  obtain ⟨v1, vs1, d1, ds1, p1, q1, rfl, rfl, rfl, h1, r1⟩ := trodAll_cons r0
  obtain ⟨v2, vs2, d2, ds2, p2, q2, rfl, rfl, rfl, h2, r2⟩ := trodAll_cons r1
  obtain ⟨v3, vs3, d3, ds3, p3, q3, rfl, rfl, rfl, h3, r3⟩ := trodAll_cons r2
  obtain ⟨rfl, rfl, rfl⟩ := trodAll_nil r3
  obtain rfl : args = #[v0, v1, v2, v3] := by cases args; simp_all
  obtain ⟨rfl, rfl⟩ := trodVars_none hV
  have k0 := h0
  have k3 := h3
  have lt0 : ∀ x ∈ p0, x.block < W.heap.size := by obtain ⟨m, hm⟩ := k0; exact DataW.trod_lt m _ _ _ hm
  have lt3 : ∀ x ∈ p3, x.block < W.heap.size := by obtain ⟨m, hm⟩ := k3; exact DataW.trod_lt m _ _ _ hm
  have hwt : ∀ k, k ∈ d0.weights Tryd.prog 29 → k ≤ reachBytes := fun k hk => by
    have := List.all_eq_true.1 hsz _ (DataW.weights_mem_each (j := 0) (t := 29) rfl rfl k hk)
    simpa using this
  have hwt3 : ∀ k, k ∈ d3.weights Tryd.prog 22 → k ≤ reachBytes := fun k hk => by
    have := List.all_eq_true.1 hsz _ (DataW.weights_mem_each (j := 3) (t := 22) rfl rfl k hk)
    simpa using this
  obtain ⟨a1, rfl, rfl, rfl, w1⟩ := open_int Tryd.underlying3 (hval 1 3 v1 rfl rfl) h1
  obtain ⟨a2, rfl, rfl, rfl, w2⟩ := open_int Tryd.underlying5 (hval 2 5 v2 rfl rfl) h2
  obtain ⟨a3, n3, c3, rfl⟩ := okWide_slice Tryd.underlying22 (hval 3 22 v3 rfl rfl)
  obtain ⟨bs, hl, hby, y3⟩ := (by obtain ⟨m, hm⟩ := k3; exact open_bytes hm : ∃ bs : List Nat, Lrd W.heap.size W (.slice a3 n3 c3) .u8 (bs.map Int.ofNat) ∧ (∀ z, z ∈ bs → z < 256) ∧ Wb 22 d3 bs.length)
  have hy2 : 0 ≤ a2 ∧ a2 < 256 := by
    have := w2
    simp [Lit.wf, IntKind.min, IntKind.max, IntKind.signed, IntKind.bits] at this
    omega
  obtain ⟨y, rfl⟩ : ∃ y : Nat, a2 = (y : Int) := ⟨a2.toNat, by omega⟩
  obtain ⟨vo, vs, vh, vr, vq, ol, ts, g, rfl, ho, ht, hh, hr, hq, eo, es, hnx, hob, z0, z1, z2, z3, z4, z5⟩ := open_graph (hval 0 29 v0 rfl rfl) h0
  have hI : Inb ol ts g := ⟨by have := z0.le hwt; omega, fun x hx => ⟨by have := (hob x hx).2.1.le hwt; omega, by have := (hob x hx).2.2.le hwt; omega⟩, by have := z1.le hwt; omega, fun x hx => ⟨by have := (z2 x hx).1.le hwt; omega, fun y hy => by have := ((z2 x hx).2 y hy).le hwt; omega⟩, by have := z3.le hwt; omega, by have := z4.le hwt; omega, by have := z5.le hwt; omega⟩
  have hG : Grd W.heap.size W vo vs vh vr vq ol ts g := ⟨ho, ht, hh, hr, hq, eo, es, hnx, fun o hm => by
    rw [eo] at hm
    obtain ⟨x, hx, rfl⟩ := List.mem_map.1 hm
    have h1 := (hob x hx).1
    have h2 := hI.ol x hx
    exact ⟨h1.1, h1.2.1, h1.2.2.1, by omega, by omega⟩⟩
  clear hA0 hval0
  refine (torn_any W (of_laidBoth hL) vo vs vh vr vq ol ts g hG hI (fun x hx => (hob x hx).1) a1 (gin w1) y (by omega) (.slice a3 n3 c3) bs hl hby (y3.le hwt3)).mono fun e W' ⟨he, bel⟩ => ?_
  subst he
  exact ⟨_, rfl, _, _, _, [], _, [], hW', trodAll_mk1 (shut_bool Tryd.underlying4 _), (trodAll_cons_mk (Below.trod laidOut (by kernel_rfl) (of_decide_eq_true (by kernel_rfl)) k0 bel lt0) (trodAll_cons_mk (shut_int Tryd.underlying3 w1) (trodAll_cons_mk (shut_int Tryd.underlying5 w2) (trodAll_cons_mk (Below.trod laidOut (by kernel_rfl) (of_decide_eq_true (by kernel_rfl)) k3 bel lt3) trodAll_mk0)))), rfl, bel.frame _, fun h => by cases h⟩

theorem imageTorn_said : Rows.ImageTornSaid :=
  OpenClaim.holds_of_wide 4 Tryd.f4 rfl rfl rfl rfl rfl rfl rfl ⟨rfl, rfl, rfl, rfl, rfl⟩ rfl rfl rfl rfl rfl (by kernel_rfl) Tryd.func4 (by kernel_rfl)
    (of_decide_eq_true (by kernel_rfl)) (by unfold Func.isWrapper; first | (rw [if_pos (by decide +kernel)]; kernel_rfl) | (rw [if_neg (by decide +kernel)]; exact ⟨rfl, rfl⟩))
    (fun os started H enc _ => imageTorn_lifted os started H enc)

theorem imageTorn_holds : Rows.ImageTornCardSaid :=
  Claim7.holds_tied_plain_at .later [] [.data, .data] true (true, "6d58886a0b72cba9b044d111c9c515f13e7ec1b1bfb96471ad16fbd3eaf3b1cc") true
    imageTorn_said (fun _ h => by cases h) (by kernel_rfl) (fun _ h => by cases h) imageTorn_row_tie rfl ⟨rfl, rfl⟩ (by kernel_rfl) rfl
    (fun f fn hf hfn => by
      obtain rfl : f = 4 := Option.some.inj ((show Tryd.prog.funcNamed "midden/middenlaw16.ImageTorn" = some 4 by kernel_rfl).symm.trans hf) |>.symm
      obtain rfl : fn = Tryd.f4 := (Option.some.inj (Tryd.func4.symm.trans hfn)).symm
      exact ⟨by kernel_rfl, fun j t ht => by
        rw [Tryd.params4] at ht
        have hm : t ∈ [29, 3, 5, 22] := by simpa using Array.mem_of_getElem? ht
        have hall : ([29, 3, 5, 22].all fun u => !Tryd.prog.wantsStandIn u) = true := by kernel_rfl
        exact (show Tryd.prog.wantsStandIn t = false by simpa using List.all_eq_true.1 hall t hm)⟩)
    (by kernel_rfl)
#print axioms imageTorn_holds
end Go.Proofs.YtblbiikfipcbcaaDoor
