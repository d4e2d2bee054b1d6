/-
  BagPlays: the statement.
-/
import Derived.Test.YtcjblafohfiiaabGreatRows
import Derived.Test.YtcjblafohfiiaabGreatPa
import Derived.WalkKit
import Derived.ProofKit
import Derived.OpenShut
import Derived.ShutString
import Derived.ChangeOld
import Derived.Below
set_option linter.unusedVariables false
namespace Go.Proofs.YtcjblafohfiiaabGreat
open Go.ChangeShapes Go.WideShapes Go.ChangeAt Go.RowKit
open Go.ChangeMaps (open_string shut_string)

theorem own : ownKnob Tryz.prog.godebug = none := by kernel_rfl
theorem laidOut : laidOutB Tryz.prog = true := by kernel_rfl
theorem n3 : Tryz.prog.cellsOf 3 = 1 := by kernel_rfl
theorem n4 : Tryz.prog.cellsOf 4 = 1 := by kernel_rfl
theorem nu : Tryz.prog.cellsOf 29 = 1 := by kernel_rfl
theorem ns : Tryz.prog.cellsOf 9 = 1 := by kernel_rfl
theorem nop : Tryz.prog.cellsOf 31 = 6 := by kernel_rfl

theorem list6 {α : Type} {cs : List α} (h : cs.length = 6) : ∃ c0 c1 c2 c3 c4 c5, cs = [c0, c1, c2, c3, c4, c5] := by
  match cs, h with
  | [c0, c1, c2, c3, c4, c5], _ => exact ⟨c0, c1, c2, c3, c4, c5, rfl⟩

theorem open_op {H : Type} {enc : TypeId × Value → H} {w : World} {base fuel : Nat} {sp : Nat → Bool} {held : Bool} {cs : List Value} {x : DataW H × List MemPlace}
    (hf : DataW.trod enc Tryz.prog w base sp held fuel 31 cs = some x) : ∃ o : OpD, cs = [.int .i64 o.k, .bool o.sec, .int .i64 o.n, .int .u64 o.wd, .string o.s, .int .i64 o.stop] := by
  obtain ⟨xs, n, _, hx, hl, hlen, hf'⟩ := DataW.trod_struct Tryz.underlying31 hf
  rw [nop] at hl
  obtain ⟨c0, c1, c2, c3, c4, c5, rfl⟩ := list6 hl
  have key : ∀ i, i < 6 → ∃ y, xs[i]? = some y := fun i hi => ⟨_, List.getElem?_eq_getElem (by rw [hlen]; exact hi)⟩
  have f0 : DataW.trod enc Tryz.prog w base sp held n 3 [c0] = xs[0]? := by simpa [n3, n4, nu, ns] using hf' 0 _ rfl
  obtain ⟨y0, e0⟩ := key 0 (by decide)
  rw [e0] at f0
  obtain ⟨z0, g0, _⟩ := DataW.trod_int Tryz.underlying3 f0
  have f1 : DataW.trod enc Tryz.prog w base sp held n 4 [c1] = xs[1]? := by simpa [n3, n4, nu, ns] using hf' 1 _ rfl
  obtain ⟨y1, e1⟩ := key 1 (by decide)
  rw [e1] at f1
  obtain ⟨z1, g1, _⟩ := DataW.trod_bool Tryz.underlying4 f1
  have f2 : DataW.trod enc Tryz.prog w base sp held n 3 [c2] = xs[2]? := by simpa [n3, n4, nu, ns] using hf' 2 _ rfl
  obtain ⟨y2, e2⟩ := key 2 (by decide)
  rw [e2] at f2
  obtain ⟨z2, g2, _⟩ := DataW.trod_int Tryz.underlying3 f2
  have f3 : DataW.trod enc Tryz.prog w base sp held n 29 [c3] = xs[3]? := by simpa [n3, n4, nu, ns] using hf' 3 _ rfl
  obtain ⟨y3, e3⟩ := key 3 (by decide)
  rw [e3] at f3
  obtain ⟨z3, g3, _⟩ := DataW.trod_int Tryz.underlying29 f3
  have f4 : DataW.trod enc Tryz.prog w base sp held n 9 [c4] = xs[4]? := by simpa [n3, n4, nu, ns] using hf' 4 _ rfl
  obtain ⟨y4, e4⟩ := key 4 (by decide)
  rw [e4] at f4
  obtain ⟨z4, g4, _⟩ := DataW.trod_string Tryz.underlying9 f4
  have f5 : DataW.trod enc Tryz.prog w base sp held n 3 [c5] = xs[5]? := by simpa [n3, n4, nu, ns] using hf' 5 _ rfl
  obtain ⟨y5, e5⟩ := key 5 (by decide)
  rw [e5] at f5
  obtain ⟨z5, g5, _⟩ := DataW.trod_int Tryz.underlying3 f5
  simp only [List.cons.injEq, and_true] at g0 g1 g2 g3 g4 g5
  subst g0 g1 g2 g3 g4 g5
  exact ⟨⟨_, _, _, _, _, _⟩, rfl⟩

theorem open_ops {H : Type} {enc : TypeId × Value → H} {w : World} {sp : Nat → Bool} {held : Bool} {a : Option Addr} {len cap : Nat} {d : DataW H} {p : List MemPlace}
    (h : DataW.Trod enc Tryz.prog w 0 sp held 22 (.slice a len cap) d p) : ∃ ops : List OpD, ops.length = len ∧ len ≤ 9223372036854775807 ∧ LOps w a ops := by
  obtain ⟨fuel, hf⟩ := h
  rcases DataW.trod_slice Tryz.underlying22 hf with ⟨hcs, _⟩ | ⟨x, l, c, elems, rest, n, _, hcs, _, _, hl, hm, hel, hget, _⟩
  · simp [Value.cells] at hcs
    obtain ⟨rfl, rfl, rfl⟩ := hcs
    exact ⟨[], rfl, by decide, fun i o ho => by simp at ho⟩
  · simp [Value.cells] at hcs
    obtain ⟨rfl, rfl, rfl⟩ := hcs
    have cells : ∀ i, i < len → ∃ o : OpD, ∀ j, j < 6 → w.cell? ((x.add (i * 6)).add j) = ([Value.int .i64 o.k, .bool o.sec, .int .i64 o.n, .int .u64 o.wd, .string o.s, .int .i64 o.stop] : List Value)[j]? := by
      intro i hi
      have h1 := hget i hi
      rw [nop, List.getElem?_eq_getElem (by omega)] at h1
      obtain ⟨cs, hc, ht⟩ := Option.bind_eq_some_iff.1 h1
      obtain ⟨o, rfl⟩ := open_op ht
      exact ⟨o, (World.cells?_some hc).2.2⟩
    have each : ∀ i, i < len → ∃ o : OpD, ∃ g off, x = ⟨g, off, none⟩ ∧ g < w.heap.size ∧
        w.cell? ⟨g, off + i * 6, none⟩ = some (.int .i64 o.k) ∧ w.cell? ⟨g, off + i * 6 + 1, none⟩ = some (.bool o.sec) ∧ w.cell? ⟨g, off + i * 6 + 2, none⟩ = some (.int .i64 o.n) ∧
        w.cell? ⟨g, off + i * 6 + 3, none⟩ = some (.int .u64 o.wd) ∧ w.cell? ⟨g, off + i * 6 + 4, none⟩ = some (.string o.s) ∧ w.cell? ⟨g, off + i * 6 + 5, none⟩ = some (.int .i64 o.stop) := by
      intro i hi
      obtain ⟨o0, h0⟩ := cells 0 (by omega)
      obtain ⟨g, off, spot⟩ := x
      have hspot : spot = none := by simpa [Addr.add] using World.cell?_spot (h0 0 (by decide))
      subst hspot
      obtain ⟨o, ho⟩ := cells i hi
      simp only [add_plain] at ho
      have c0 := ho 0 (by decide)
      exact ⟨o, g, off, rfl, World.block_lt_of_cell? _ _ c0, c0, ho 1 (by decide), ho 2 (by decide), ho 3 (by decide), ho 4 (by decide), ho 5 (by decide)⟩
    refine ⟨(List.range len).map fun i => if h : i < len then (each i h).choose else ⟨0, false, 0, 0, ByteArray.empty, 0⟩, by simp, by unfold maxLen at hm; omega, fun i o ho => ?_⟩
    have hi : i < len := by have := (List.getElem?_eq_some_iff.1 ho).1; simpa using this
    have e : o = (each i hi).choose := by simpa [List.getElem?_map, List.getElem?_range hi, hi] using ho.symm
    obtain ⟨g, off, hx, hg, rest⟩ := (each i hi).choose_spec
    rw [e]
    exact ⟨g, off, by rw [hx], hg, rest⟩

set_option maxRecDepth 100000 in
theorem plays_lifted (os : Os) (started : os.Started) (H : Type) (enc : TypeId × Value → H) :
    ReturnsInHanded {} Tryz.checked os 6 .any (Rows.bagPlaysSpec.pre6 enc Tryz.prog Tryz.f6 Rows.bagPlaysRow.domain false) (Rows.bagPlaysSpec.post enc Tryz.prog Tryz.f6 false true false false) := by
  refine returnsInHanded_of_change (C := Tryz.checked) own started (by kernel_rfl) Tryz.func6
    (ChangeSpec.witness6 (enc := enc) (C := Tryz.checked) false ⟨#[], #[.int .i64 0, .int .i64 0, .slice none 0 0], []⟩ 8 (by kernel_rfl) (by kernel_rfl) (by kernel_rfl) (by kernel_rfl)) ?_
  intro W base args ds gs before hval0 hW hcnd _
  have hval : ∀ (j : Nat) t v, Tryz.f6.params[j]? = some t → args[j]? = some v → Value.okWide Tryz.prog W .any base t v := hval0
  have hW' := hW
  obtain ⟨p, q, hA0, hV, rfl, hfz, hnd⟩ := hW
  have hA : DataW.TrodAll enc Tryz.prog W 0 (fun _ => true) true Tryz.f6.params.toList args.toList ds p := hA0
  rw [Tryz.params6] at hA hval
  obtain ⟨v0, vs0, d0, ds0, p0, q0, hargs, rfl, rfl, h0, r0⟩ := trodAll_cons hA
  obtain ⟨v1, vs1, d1, ds1, p1, q1, rfl, rfl, rfl, h1, r1⟩ := trodAll_cons r0
  obtain ⟨v2, vs2, d2, ds2, p2, q2, rfl, rfl, rfl, h2, r2⟩ := trodAll_cons r1
  obtain ⟨rfl, rfl, rfl⟩ := trodAll_nil r2
  obtain rfl : args = #[v0, v1, v2] := by cases args; simp_all
  obtain ⟨rfl, rfl⟩ := trodVars_none hV
  obtain ⟨a2, len2, cap2, rfl⟩ := okWide_slice Tryz.underlying22 (hval 2 22 v2 rfl rfl)
  have k2 := h2
  have lt2 : ∀ x ∈ p2, x.block < W.heap.size := by obtain ⟨m, hm⟩ := k2; exact DataW.trod_lt m _ _ _ hm
  obtain ⟨ops, rfl, hmax, hops⟩ := open_ops h2
  obtain ⟨a0, rfl, rfl, rfl, w0⟩ := open_int Tryz.underlying3 (hval 0 3 v0 rfl rfl) h0
  obtain ⟨a1, rfl, rfl, rfl, w1⟩ := open_int Tryz.underlying3 (hval 1 3 v1 rfl rfl) h1
  clear hA0 hval0
  refine (Pa.plays_any a0 a1 a2 cap2 ops W hops hmax).mono fun e W' ⟨he, bel⟩ => ?_
  subst he
  exact ⟨_, rfl, _, _, _, [], _, [], hW', trodAll_mk1 (shut_bool Tryz.underlying4 _), (trodAll_cons_mk (shut_int Tryz.underlying3 w0) (trodAll_cons_mk (shut_int Tryz.underlying3 w1) (trodAll_cons_mk (Below.trod laidOut (by kernel_rfl) (of_decide_eq_true (by kernel_rfl)) k2 bel lt2) trodAll_mk0))), rfl, bel.frame _, fun h => by cases h⟩

theorem bagPlays_holds : Rows.BagPlaysSaid :=
  OpenClaim.holds_of_wide 6 Tryz.f6 rfl rfl rfl rfl rfl rfl rfl ⟨rfl, rfl, rfl, rfl, rfl⟩ rfl rfl rfl rfl rfl (by kernel_rfl) Tryz.func6 (by kernel_rfl)
    (of_decide_eq_true (by kernel_rfl)) (by unfold Func.isWrapper; first | (rw [if_pos (by decide +kernel)]; kernel_rfl) | (rw [if_neg (by decide +kernel)]; exact ⟨rfl, rfl⟩))
    (fun os started H enc _ => plays_lifted os started H enc)

#print axioms bagPlays_holds
end Go.Proofs.YtcjblafohfiiaabGreat
