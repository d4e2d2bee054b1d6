/-
  The statements' objects: its parts.
-/
import Derived.Test.YtbdkcelggffneaaDoorA14
set_option linter.unusedVariables false
namespace Go.Proofs.YtbdkcelggffneaaDoor
open Go.RowKit Go.Shelf

set_option maxHeartbeats 1000000 in
theorem sameHead_same (s k p r a t : Int) (h : Bool) (w : World) :
    Calls Tryd.prog 40 #[hv s k p r a t h, hv s k p r a t h] w fun e w' => e = .returned (.bool true) ∧ Below w.heap.size w w' := by
  go_enter Tryd.func40, Tryd.ntmps40
  go_wp2
  go_ret
  refine ⟨by simp, ?_⟩
  go_grown

/-- Numbers in a row, cell by cell. -/
structure Nums (w : World) (v : Value) (xs : List Int) : Prop where
  is : ∃ a cap, v = .slice a xs.length cap
  at_ : ∀ (i : Nat) x, xs[i]? = some x → ∃ g cap, v = .slice (some ⟨g, 0, none⟩) xs.length cap ∧ w.cell? ⟨g, i, none⟩ = some (.int .i64 x)

theorem Tk.nums {w : World} {tb T N o : Nat} {f : Nat → Value} {st mo : Int} {xs : List Int} {hs : List Value} {va vh : Value} {dn : Bool} (h : Tk w tb T N o f st mo xs hs va vh dn) : Nums w va xs := by
  refine ⟨h.va, fun i x hx => ?_⟩
  have hi := (List.getElem?_eq_some_iff.1 hx).1
  rcases h.ra.2 with ⟨rfl, h0⟩ | ⟨g, cap, cur, rfl, _, hg, hn, _, hs, ht⟩
  · omega
  · refine ⟨g, cap, rfl, ?_⟩
    rw [cell_of_row _ _ i _ _ _ hg]
    have h1 : (ints xs)[i]? = some (.int .i64 x) := by simp [hx]
    rw [← h1, ← ht, List.getElem?_take, if_pos (by omega), Array.getElem?_toList]

set_option maxRecDepth 4000 in
set_option maxHeartbeats 4000000 in
theorem same_any (wb tb n : Nat) (v1 v2 v3 : Value) (l : List Int) (hl : l.length < 1000000) (w : World) (k1 : w.cell? ⟨wb, 1, none⟩ = some v1) (k7 : w.cell? ⟨wb, 7, none⟩ = some v2) (k0 : w.cell? ⟨tb, 0, none⟩ = some v3)
    (h1 : Nums w v1 l) (h2 : Nums w v2 l) (h3 : Nums w v3 l) :
    Calls Tryd.prog 50 #[.pointer (some ⟨wb, 0, none⟩), .pointer (some ⟨tb, 0, none⟩)] w fun e w' => e = .returned (.bool true) ∧ Below w.heap.size w w' := by
  have H1 : Hid (Nums w v1 l) := h1
  have H2 : Hid (Nums w v2 l) := h2
  have H3 : Hid (Nums w v3 l) := h3
  obtain ⟨a1, c1, rfl⟩ := h1.is
  obtain ⟨a2, c2, rfl⟩ := h2.is
  obtain ⟨a3, c3, rfl⟩ := h3.is
  clear h1 h2 h3
  go_enter Tryd.func50, Tryd.ntmps50
  go_upto_region 1 with fail
  go_quiet (fail)
  obtain ⟨W1, hW1⟩ : ∃ W1, W1 = w.drewN nq := ⟨_, rfl⟩
  rw [← hW1]
  have HW1 : Hid (∃ m, W1 = w.drewN m) := ⟨nq, hW1⟩
  clear hW1
  go_wp2
  go_loopw [5] (fun v wr => ∃ i : Nat, i ≤ l.length ∧ v = .int .i64 i ∧ ∃ m, wr = w.drewN m) (fun v _ => l.length - (intOf v).toNat)
  case atStart => exact ⟨0, Nat.zero_le _, rfl, HW1.out⟩
  case round =>
    obtain ⟨i, hi, rfl, m, hm⟩ := hrel
    have Hm : Hid (wr = w.drewN m) := hm
    have d1 : wr.cell? ⟨wb, 1, none⟩ = some (.slice a1 l.length c1) := by rw [hm]; exact k1
    have d7 : wr.cell? ⟨wb, 7, none⟩ = some (.slice a2 l.length c2) := by rw [hm]; exact k7
    have d0 : wr.cell? ⟨tb, 0, none⟩ = some (.slice a3 l.length c3) := by rw [hm]; exact k0
    by_cases hlt : i < l.length
    · obtain ⟨y, hy⟩ : ∃ y, l[i]? = some y := ⟨_, List.getElem?_eq_getElem hlt⟩
      obtain ⟨g1, e1, q1, z1⟩ := H1.out.at_ i y hy
      obtain ⟨g2, e2, q2, z2⟩ := H2.out.at_ i y hy
      obtain ⟨g3, e3, q3, z3⟩ := H3.out.at_ i y hy
      simp only [Value.slice.injEq, true_and] at q1 q2 q3
      obtain ⟨rfl, rfl⟩ := q1
      obtain ⟨rfl, rfl⟩ := q2
      obtain ⟨rfl, rfl⟩ := q3
      have y1 : wr.cell? ⟨g1, i, none⟩ = some (.int .i64 y) := by rw [hm]; exact z1
      have y2 : wr.cell? ⟨g2, i, none⟩ = some (.int .i64 y) := by rw [hm]; exact z2
      have y3 : wr.cell? ⟨g3, i, none⟩ = some (.int .i64 y) := by rw [hm]; exact z3
      have hli : (i : Int) < (l.length : Int) := by omega
      clear z1 z2 z3 hy hm k1 k7 k0
      go_upto_region 6 with fail
      go_quiet (fail)
      go_wp2
      go_roundw
      case rel => exact ⟨i + 1, hlt, by go_num, m + nq, by rw [Hm.out, World.drewN_drewN]⟩
      case measure => simp [intOf]; omega
    · obtain rfl : i = l.length := by omega
      clear hm k1 k7 k0
      go_wp2
      go_ret
      exact ⟨rfl, by rw [Hm.out]; exact below_drewN (Below.refl _ _) _⟩

end Go.Proofs.YtbdkcelggffneaaDoor
