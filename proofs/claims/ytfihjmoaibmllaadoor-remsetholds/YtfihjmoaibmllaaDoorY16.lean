/-
  slices.Clone, List; slices.Grow, slices.Concat.
-/
import Derived.Test.YtfihjmoaibmllaaDoorY15
import Derived.Lib.AppendZerosOnto
set_option linter.unusedVariables false
set_option maxRecDepth 20000
namespace Go.Proofs.YtfihjmoaibmllaaDoor
open Go.RowKit Go.Shelf

theorem own_sl {w : World} {base n e size : Nat} {v : Value} {xs : List Value} (h : w.ownsRow base e size v n xs) : ∃ a cap, v = .slice a n cap := by
  rcases h.2 with ⟨rfl, rfl⟩ | ⟨g, cap, cur, rfl, _⟩
  · exact ⟨_, _, rfl⟩
  · exact ⟨_, _, rfl⟩

set_option maxRecDepth 20000 in
set_option maxHeartbeats 1000000 in
theorem clone_own (base n : Nat) (v : Value) (xs : List Int) (w : World) (hr : w.ownsRow base 3 1 v n (ints xs)) (hn : n < 8796093022208) :
    Calls Tryd.prog 54 #[v] w fun e w' => ∃ v', e = .returned v' ∧ w'.ownsRow w.heap.size 3 1 v' n (ints xs) ∧ Below w.heap.size w w' := by
  obtain ⟨i0, hi0, hz0, hz1, hz2⟩ := info_parts Tryd.infoInt
  have hl := hr.1
  rcases hr.2 with ⟨rfl, rfl⟩ | ⟨g, cap, cur, rfl, -⟩
  · have hx : ints xs = [] := List.eq_nil_of_length_eq_zero (by simpa using hl)
    rw [hx]
    have hnil : ∀ w, (binOp .eql 42 (.slice none 0 0) (.slice none 0 0)).run Tryd.prog w = .ok (.bool true) w := fun w => by first | rfl | kernel_rfl | (simp [binOp, go_sem]; done)
    clear hr hl hx hi0 hz0 hz1 hz2
    go_enter Tryd.func54, Tryd.ntmps54
    go_wp2
    go_ret
    exact ⟨_, rfl, World.ownsRow_nil _ _ _ _, Below.refl _ _⟩
  · have hnil : ∀ w, (binOp .eql 42 (.slice (some ⟨g, 0, none⟩) n cap) (.slice none 0 0)).run Tryd.prog w = .ok (.bool false) w := fun w => by first | rfl | kernel_rfl | (simp [binOp, go_sem]; done)
    have HN : Hid (∀ j u, (ints xs)[j]? = some u → (w.alloc (.cells #[] 3)).cell? ((⟨g, 0, none⟩ : Addr).add j) = some u) := (hr.alloc (.cells #[] 3)).cells (g := g) rfl
    have HO : Hid (∀ u ∈ ints xs, u.oneCell' = true) := fun u hu => by
      obtain ⟨i, -, rfl⟩ := List.mem_map.1 hu; rfl
    have HL : Hid ((ints xs).length = n * 1) := hl
    have HH : Hid ((Tryd.prog.info? 3 = some i0) ∧ i0.zero = some (.int .i64 0) ∧ i0.size = 1 ∧ i0.bytes = 8) := ⟨hi0, hz0, hz1, hz2⟩
    have HW : Hid ((w.alloc (.cells #[] 3)).ownsRow w.heap.size 3 1 (.slice (some ⟨w.heap.size, 0, none⟩) 0 0) 0 []) :=
      ⟨rfl, .inr ⟨w.heap.size, 0, #[], rfl, Nat.le_refl _, heap_alloc_new w _, Nat.le_refl _, by decide, rfl, rfl⟩⟩
    have hb1 : Below w.heap.size w (w.alloc (.cells #[] 3)) := Below.alloc (Below.refl _ _) (Nat.le_refl _) _
    have Hn : Hid (n < 8796093022208) := hn
    clear hr hi0 hz0 hz1 hz2 hl hn
    go_enter Tryd.func54, Tryd.ntmps54
    go_wp2_with (at_builtin; refine wpList_append_own_at _ rfl _ _ 42 rfl w.heap.size 3 i0 (.int .i64 0) 1 8 Tryd.underlying42 HH.out.1 HH.out.2.1 HH.out.2.2.1 HH.out.2.2.2 rfl (by decide) _ _ _ rfl HW.out ⟨g, 0, none⟩ n cap (ints xs) rfl HL.out HN.out HO.out (by have := Hn.out; simp [maxLen]; omega) (by have := Hn.out; omega) (by simp) ?_)
    intro v' w2 ho hg _ _
    have hb2 : Below w.heap.size w w2 := hb1.grown hg hb1.size (fun k e => by simp [Value.ownBlock] at e; omega)
    have ho2 : w2.ownsRow w.heap.size 3 1 v' n (ints xs) := by simpa using ho
    obtain ⟨a, c, rfl⟩ := own_sl ho2
    have HO2 : Hid (w2.ownsRow w.heap.size 3 1 (.slice a n c) n (ints xs)) := ho2
    clear ho hg hb1 ho2
    go_wp2
    go_ret
    exact ⟨_, rfl, HO2.out, hb2⟩


section
variable {w1 w w' : World} {n1 sb b g mb n : Nat} {lv : Value} {c : Cfg} {x : Tps} {sw : Bool} {ws : Nat → Int} {th : List Tng} {l : List Int} {S : Int → Bool}

theorem sList_any (H : Rs w sb b lv l mb n S) (hl : l.length ≤ 1000000) : Calls Tryd.prog 26 #[.pointer (some ⟨sb, 0, none⟩)] w fun e w' => ∃ v', e = .returned v' ∧ w'.ownsRow w.heap.size 3 1 v' l.length (ints l) ∧ Below w.heap.size w w' := by
  have k1 : w.cell? ⟨sb, 1, none⟩ = some lv := H.cell 1
  have hc := clone_own 0 l.length lv l w H.row (by omega)
  obtain ⟨a, cap, rfl⟩ := own_sl H.row
  clear H
  go_enter Tryd.func26, Tryd.ntmps26
  go_wp2_with fail
  refine hc.mono ?_
  rintro e w2 ⟨v', rfl, h1, h2⟩
  clear hc k1
  obtain ⟨a2, c2, rfl⟩ := own_sl h1
  have H1 : Hid (w2.ownsRow w.heap.size 3 1 (.slice a2 l.length c2) l.length (ints l)) := h1
  clear h1
  go_wp2
  go_ret
  exact ⟨_, rfl, H1.out, h2⟩
end

theorem grow_nil (k : Nat) (hk : k ≤ 1000000) (w : World) : Calls Tryd.prog 68 #[.slice none 0 0, .int .i64 k] w fun e w' => ∃ v, e = .returned v ∧ w'.ownsRow w.heap.size 3 1 v 0 [] ∧ Below w.heap.size w w' := by
  by_cases h0 : k = 0
  · subst h0
    go_enter Tryd.func68, Tryd.ntmps68
    go_wp2
    go_ret
    exact ⟨_, rfl, World.ownsRow_nil _ _ _ _, Below.refl _ _⟩
  · obtain ⟨i0, hi0, hz0, hz1, hz2⟩ := info_parts Tryd.infoInt
    have hr := Lib.run_append_nil_zeros (P := Tryd.prog) w 42 3 42 3 i0 (.int .i64 0) .i64 .i64 Tryd.underlying42 Tryd.underlying3 hi0 hz0 k (by omega) (by omega) (by omega) (by rw [hz2]; omega)
    have hg := grownCap_ge w k 0 3
    have hm := grownCap_le_maxLen w k 0 3 (by simp [maxLen]; omega)
    have hrow : (w.drew.alloc (.cells (Builtin.zeroCells (Value.int .i64 0).cells k ++ Builtin.zeroCells (Value.int .i64 0).cells (grownCap w k 0 3 - k)) 3)).ownsRow w.heap.size 3 1 (.slice (some ⟨w.heap.size, 0, none⟩) 0 (grownCap w k 0 3)) 0 [] :=
      ⟨rfl, .inr ⟨w.heap.size, _, _, rfl, Nat.le_refl _, heap_alloc_new w.drew _, by omega, hm, by simp [size_zeroCells, Value.cells]; omega, rfl⟩⟩
    have hb : Below w.heap.size w (w.drew.alloc (.cells (Builtin.zeroCells (Value.int .i64 0).cells k ++ Builtin.zeroCells (Value.int .i64 0).cells (grownCap w k 0 3 - k)) 3)) := Below.alloc (below_drewN (Below.refl _ _) 1) (Nat.le_refl _) _
    have hk0 : (0 : Int) < k := by omega
    generalize (w.drew.alloc (.cells (Builtin.zeroCells (Value.int .i64 0).cells k ++ Builtin.zeroCells (Value.int .i64 0).cells (grownCap w k 0 3 - k)) 3)) = w2 at *
    generalize grownCap w k 0 3 = cap at *
    clear hi0 hz0 hz1 hz2
    go_enter Tryd.func68, Tryd.ntmps68
    go_wp2_with (first | (at_builtin; refine Lib.wpList_append_run _ rfl _ _ _ _ rfl _ _ rfl rfl _ _ hr ?_) | go_in)
    go_ret
    exact ⟨_, rfl, hrow, hb⟩

end Go.Proofs.YtfihjmoaibmllaaDoor
