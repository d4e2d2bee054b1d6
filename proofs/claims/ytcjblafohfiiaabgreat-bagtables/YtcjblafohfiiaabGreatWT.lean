/-
  The table of words by number: Get.
-/
import Derived.Test.YtcjblafohfiiaabGreatTabK
set_option linter.unusedVariables false
namespace Go.Proofs.YtcjblafohfiiaabGreat.Wd
open Go.RowKit Go.Shelf

theorem tget_yes (b base p : Nat) (k x : Int) (ks : List Int) (vs : List Int) (F : List Nat) (w : World) (h : ITab w base b ks vs F) (hlen : ks.length < 1000000) (hp : CutAt ltI ks k p) (hf : ks[p]? = some k) (hx : vs[p]? = some x) :
    Calls Tryz.prog 56 #[.pointer (some ⟨b, 0, none⟩), .int .i64 k] w fun e w' => e = .returned (.tuple #[.int .u64 x, .bool true]) ∧ w' = w := by
  obtain ⟨vk, vv, hh, hb, hk, hv, hl, hs, rfl⟩ := h
  have hpl : p < ks.length := (List.getElem?_eq_some_iff.1 hf).1
  have hc0 := heap_cell hh 0
  have hc1 := heap_cell hh 1
  simp only [List.getElem?_toArray, List.getElem?_cons_zero, List.getElem?_cons_succ] at hc0 hc1
  rcases hk.2 with ⟨_, h0⟩ | ⟨g, cap, cur, rfl, _⟩
  · omega
  rcases hv.2 with ⟨_, h0⟩ | ⟨g', cap', cur', rfl, _⟩
  · omega
  rw [hl] at hc1
  have hcell' : w.cell? ⟨g', p, none⟩ = some (.int .u64 x) := by rw [hv.cellAt _ (by omega)]; simp [hx]
  exact getI_core b g g' cap cap' ks.length p k x w hc0 hc1 (placeI_at base p _ ks k w hk hs hlen hp true (by simp [hf])) hpl hlen hcell'

end Go.Proofs.YtcjblafohfiiaabGreat.Wd
