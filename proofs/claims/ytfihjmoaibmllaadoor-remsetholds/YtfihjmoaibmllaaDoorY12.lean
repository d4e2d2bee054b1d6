/-
  The Set in memory: New, has, tenured, holdsYoung, add, mark.
-/
import Derived.Test.YtfihjmoaibmllaaDoorY10
import Derived.Test.YtfihjmoaibmllaaDoorY7
import Derived.Test.YtfihjmoaibmllaaDoorYQ
set_option linter.unusedVariables false
set_option maxRecDepth 20000
namespace Go.Proofs.YtfihjmoaibmllaaDoor
open Go.RowKit Go.Shelf

theorem Tryd.infoInt : (Tryd.prog.info? 3).map (fun i => (i.zero, i.size, i.bytes)) = some (some (.int .i64 0), 1, 8) := by kernel_rfl

/-- A Set in block sb, of the arena in block b. -/
structure Rs (w : World) (sb b : Nat) (lv : Value) (l : List Int) (mb n : Nat) (S : Int → Bool) : Prop where
  own : w.heap[sb]? = some (.cells #[.pointer (some ⟨b, 0, none⟩), lv, .map (some mb)] 82 (0, 0))
  row : w.ownsRow 0 3 1 lv l.length (ints l)
  map : Ms w mb n S

section
variable {w w' : World} {sb b mb n : Nat} {lv : Value} {l : List Int} {S : Int → Bool}

theorem Rs.cell (H : Rs w sb b lv l mb n S) (j : Nat) : w.cell? ⟨sb, j, none⟩ = (#[.pointer (some ⟨b, 0, none⟩), lv, .map (some mb)] : Array Value)[j]? := cell_of_row _ _ j _ _ _ H.own
theorem Rs.lt (H : Rs w sb b lv l mb n S) : sb < w.heap.size := (Array.getElem?_eq_some_iff.1 H.own).1

theorem Rs.keep (H : Rs w sb b lv l mb n S) (h1 : w'.heap[sb]? = w.heap[sb]?) (h2 : w'.heap[mb]? = w.heap[mb]?) (h3 : ∀ q, lv.ownBlock = some q → w'.heap[q]? = w.heap[q]?) : Rs w' sb b lv l mb n S :=
  ⟨h1.trans H.own, row_keep H.row h3, H.map.keep h2⟩

theorem Rs.below (H : Rs w sb b lv l mb n S) (l0 : Below w.heap.size w w') : Rs w' sb b lv l mb n S :=
  H.keep (l0.block _ H.lt) (l0.block _ H.map.lt) (fun q hq => l0.block q (row_lt H.row q hq))

theorem Rs.touch (H : Rs w sb b lv l mb n S) {F : List Nat} (t : Touch F w w') (h1 : sb ∉ F) (h2 : mb ∉ F) (h3 : ∀ q, lv.ownBlock = some q → q ∉ F) : Rs w' sb b lv l mb n S :=
  H.keep (t.block _ H.lt h1) (t.block _ H.map.lt h2) (fun q hq => t.block q (row_lt H.row q hq) (h3 q hq))

/-- The arena's writes leave a Set alone. -/
theorem Rs.arena (H : Rs w sb b lv l mb n S) {g : Nat} {c : Cfg} {x : Tps} {sw : Bool} {ws : Nat → Int} (hA : Ar w b g c x sw ws) (t : Touch [b, g] w w') : Rs w' sb b lv l mb n S := by
  obtain ⟨⟨gs, hgs⟩, bs, hbs⟩ := hA.rowTy
  refine H.touch t ?_ ?_ (fun q hq => ?_)
  · simp only [List.mem_cons, List.not_mem_nil, or_false, not_or]
    exact ⟨heap_ty_ne H.own hbs (by decide), heap_ty_ne H.own hgs (by decide)⟩
  · simp only [List.mem_cons, List.not_mem_nil, or_false, not_or]
    exact ⟨fun e => H.map.ne hbs e.symm, fun e => H.map.ne hgs e.symm⟩
  · simp only [List.mem_cons, List.not_mem_nil, or_false, not_or]
    exact ⟨fun e => row_ne hbs H.row (by decide) (by rw [← e]; exact hq.symm), fun e => row_ne hgs H.row (by decide) (by rw [← e]; exact hq.symm)⟩

theorem sNew_any (b : Nat) (w : World) : Calls Tryd.prog 9 #[.pointer (some ⟨b, 0, none⟩)] w fun e w' => e = .returned (.pointer (some ⟨w.heap.size + 1, 0, none⟩)) ∧ Rs w' (w.heap.size + 1) b (.slice none 0 0) [] w.heap.size 0 (fun _ => false) ∧ Below w.heap.size w w' := by
  have hmm := @run_makeMap Tryd.prog
  go_enter Tryd.func9, Tryd.ntmps9
  go_wp2
  go_ret
  refine ⟨rfl, ⟨?_, World.ownsRow_nil _ _ _ _, ?_⟩, by go_grown⟩
  · have := heap_alloc_new (w.alloc (.map #[] 0)) (.cells #[.pointer (some ⟨b, 0, none⟩), .slice none 0 0, .map (some w.heap.size)] 82 (0, 0))
    simpa using this
  · exact (Ms.made w).keep (Below.heap_alloc _ _ _ (by simp))

set_option maxHeartbeats 1000000 in
theorem sHas_any (H : Rs w sb b lv l mb n S) (a : Int) (ha : InI a) : Calls Tryd.prog 40 #[.pointer (some ⟨sb, 0, none⟩), .int .i64 a] w fun e w' => e = .returned (.bool (S a)) ∧ Below w.heap.size w w' := by
  have k2 : w.cell? ⟨sb, 2, none⟩ = some (.map (some mb)) := H.cell 2
  obtain ⟨D, hown, hS⟩ := H.map
  have hkey := key_of ha
  rw [← hS a ha]
  clear H hS ha
  go_enter Tryd.func40, Tryd.ntmps40
  go_wp2_with (at_lookup; refine wpList_lookup_own_unit _ rfl _ _ 80 rfl 3 115 Tryd.keyed Tryd.underlying80 (Tryd.zeroU _) mb n D rfl hown _ _ rfl hkey ?_)
  go_ret
  exact ⟨rfl, by go_grown⟩

theorem sTenured_any (H : Rs w sb b lv l mb n S) {g : Nat} {c : Cfg} {x : Tps} {sw : Bool} {ws : Nat → Int} (hA : Ar w b g c x sw ws) (a : Int) : Calls Tryd.prog 49 #[.pointer (some ⟨sb, 0, none⟩), .int .i64 a] w fun e w' => e = .returned (.bool (decide (spc c a = 4))) ∧ Below w.heap.size w w' := by
  have k0 : w.cell? ⟨sb, 0, none⟩ = some (.pointer (some ⟨b, 0, none⟩)) := H.cell 0
  have hs := space_any b g c x sw ws a w hA
  generalize spc c a = s at *
  clear H hA
  go_enter Tryd.func49, Tryd.ntmps49
  go_wp2_with fail
  refine hs.mono ?_
  rintro e w1 ⟨rfl, l1⟩
  clear hs k0
  go_wp2
  go_ret
  exact ⟨by congr 1, l1⟩
end

end Go.Proofs.YtfihjmoaibmllaaDoor
