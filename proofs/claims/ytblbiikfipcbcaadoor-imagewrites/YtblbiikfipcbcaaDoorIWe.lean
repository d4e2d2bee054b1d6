/-
  Images: bytes compared.
-/
import Derived.Test.YtblbiikfipcbcaaDoorIWb
import Derived.Test.YtblbiikfipcbcaaDoorIWc
import Derived.Laws.BytesArg
set_option linter.unusedVariables false
set_option maxRecDepth 20000
namespace Go.Proofs.YtblbiikfipcbcaaDoor
open Go.RowKit Go.Shelf

theorem Bt.conv {base : Nat} {w : World} {v : Value} {bs : List Nat} (h : Bt w base v bs) : (convert 22 9 v).run Tryd.prog w = .ok (.string (strOfNums (bs.map Int.ofNat))) w := by
  have hl := h.1
  rw [bts_len] at hl
  rcases id h.2 with ⟨rfl, h0⟩ | ⟨g, cap, cur, rfl, _⟩
  · have e : bs = [] := List.eq_nil_of_length_eq_zero h0
    subst e
    exact run_convert_bytes_nil w _ _ Tryd.underlying22 Tryd.underlying5 _ _ _ Tryd.underlying9
  · refine run_convert_bytes_arg w _ _ Tryd.underlying22 Tryd.underlying5 g 0 bs.length cap (bs.map Int.ofNat) (by simp) (fun i hi => ?_) _ Tryd.underlying9
    have h1 : bs[i]? = some (bs[i]'hi) := List.getElem?_eq_getElem hi
    have h2 := h.cells (g := g) rfl i (.int .u8 ((bs[i]'hi : Nat) : Int)) (by unfold bts; rw [List.getElem?_map, h1]; rfl)
    rw [Addr.add_lit] at h2
    rw [h2, List.getD_eq_getElem?_getD, List.getElem?_map, h1]
    rfl

theorem Bt.keep {base : Nat} {w w' : World} {v : Value} {bs : List Nat} (h : Bt w base v bs) (b : Below w.heap.size w w') : Bt w' base v bs := Kg.row_keep2 h (Kg.Touch.of_below b []) (fun k _ => by simp)

/-- The same bytes. -/
theorem sameb_any {b1 b2 : Nat} {w : World} {v u : Value} {bs : List Nat} (h1 : Bt w b1 v bs) (h2 : Bt w b2 u bs) :
    Calls Tryd.prog 13 #[v, u] w fun e w' => e = .returned (.bool true) ∧ w' = w := by
  have f1 := h1.conv
  have f2 := h2.conv
  obtain ⟨a1, m1, c1, rfl⟩ := own_slN h1
  obtain ⟨a2, m2, c2, rfl⟩ := own_slN h2
  generalize strOfNums (bs.map Int.ofNat) = s at f1 f2
  clear h1 h2
  go_enter Tryd.func13, Tryd.ntmps13
  go_wp2
  go_ret
  exact ⟨by simp, rfl⟩

/-- What both answer of one graph is the same. -/
theorem Wrote.bt {w0 w' : World} {g : Im.Gr} {v : Value} {r : Int} (h : Wrote w0 w' g v r) : ∃ bs, ((r = 0 ∧ MB g ∧ bs = Im.enc (Im.toNG g)) ∨ (r = 164 ∧ ¬ MB g ∧ bs = [])) ∧ Bt w' w0.heap.size v bs := by
  rcases h with ⟨h1, h2, h3⟩ | ⟨h1, h2, h3⟩
  · exact ⟨_, .inl ⟨h1, h2, rfl⟩, h3⟩
  · subst h3
    exact ⟨[], .inr ⟨h1, h2, rfl⟩, World.ownsRow_nil _ _ _ _⟩

theorem Wrote.same {w0 w1 w' w1' : World} {g : Im.Gr} {v u : Value} {r s : Int} (h : Wrote w0 w' g v r) (k : Wrote w1 w1' g u s) : r = s ∧ ∃ bs, Bt w' w0.heap.size v bs ∧ Bt w1' w1.heap.size u bs := by
  obtain ⟨bs, h1, h2⟩ := h.bt
  obtain ⟨cs, k1, k2⟩ := k.bt
  rcases h1 with ⟨e1, m1, rfl⟩ | ⟨e1, m1, rfl⟩ <;> rcases k1 with ⟨e2, m2, rfl⟩ | ⟨e2, m2, rfl⟩
  · exact ⟨by omega, _, h2, k2⟩
  · exact absurd m1 m2
  · exact absurd m2 m1
  · exact ⟨by omega, _, h2, k2⟩

end Go.Proofs.YtblbiikfipcbcaaDoor
