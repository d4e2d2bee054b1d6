import Derived.Test.YtbgnagjhkfkekaaGreatDoorPYb
import Derived.Lib.AppendZerosOnto
/-
  WeakRegisters: slices.Clone (out of Y16), where there is no remembered set.
-/
set_option linter.unusedVariables false
set_option maxRecDepth 20000
namespace Go.Proofs.YtbgnagjhkfkekaaGreatDoor
open Go.RowKit Go.Shelf

theorem Tryz.infoInt : (Tryz.prog.info? 3).map (fun i => (i.zero, i.size, i.bytes)) = some (some (.int .i64 0), 1, 8) := by kernel_rfl

theorem own_sl {w : World} {base n e size : Nat} {v : Value} {xs : List Value} (h : w.ownsRow base e size v n xs) : ∃ a cap, v = .slice a n cap := by
  rcases h.2 with ⟨rfl, rfl⟩ | ⟨g, cap, cur, rfl, _⟩
  · exact ⟨_, _, rfl⟩
  · exact ⟨_, _, rfl⟩

set_option maxRecDepth 20000 in
set_option maxHeartbeats 1000000 in
theorem clone_own (base n : Nat) (v : Value) (xs : List Int) (w : World) (hr : w.ownsRow base 3 1 v n (ints xs)) (hn : n < 8796093022208) :
    Calls Tryz.prog 35 #[v] w fun e w' => ∃ v', e = .returned v' ∧ w'.ownsRow w.heap.size 3 1 v' n (ints xs) ∧ Below w.heap.size w w' := by
  obtain ⟨i0, hi0, hz0, hz1, hz2⟩ := info_parts Tryz.infoInt
  have hl := hr.1
  rcases hr.2 with ⟨rfl, rfl⟩ | ⟨g, cap, cur, rfl, -⟩
  · have hx : ints xs = [] := List.eq_nil_of_length_eq_zero (by simpa using hl)
    rw [hx]
    have hnil : ∀ w, (binOp .eql 27 (.slice none 0 0) (.slice none 0 0)).run Tryz.prog w = .ok (.bool true) w := fun w => by first | rfl | kernel_rfl | (simp [binOp, go_sem]; done)
    clear hr hl hx hi0 hz0 hz1 hz2
    go_enter Tryz.func35, Tryz.ntmps35
    go_wp2
    go_ret
    exact ⟨_, rfl, World.ownsRow_nil _ _ _ _, Below.refl _ _⟩
  · have hnil : ∀ w, (binOp .eql 27 (.slice (some ⟨g, 0, none⟩) n cap) (.slice none 0 0)).run Tryz.prog w = .ok (.bool false) w := fun w => by first | rfl | kernel_rfl | (simp [binOp, go_sem]; done)
    have HN : Hid (∀ j u, (ints xs)[j]? = some u → (w.alloc (.cells #[] 3)).cell? ((⟨g, 0, none⟩ : Addr).add j) = some u) := (hr.alloc (.cells #[] 3)).cells (g := g) rfl
    have HO : Hid (∀ u ∈ ints xs, u.oneCell' = true) := fun u hu => by
      obtain ⟨i, -, rfl⟩ := List.mem_map.1 hu; rfl
    have HL : Hid ((ints xs).length = n * 1) := hl
    have HH : Hid ((Tryz.prog.info? 3 = some i0) ∧ i0.zero = some (.int .i64 0) ∧ i0.size = 1 ∧ i0.bytes = 8) := ⟨hi0, hz0, hz1, hz2⟩
    have HW : Hid ((w.alloc (.cells #[] 3)).ownsRow w.heap.size 3 1 (.slice (some ⟨w.heap.size, 0, none⟩) 0 0) 0 []) :=
      ⟨rfl, .inr ⟨w.heap.size, 0, #[], rfl, Nat.le_refl _, heap_alloc_new w _, Nat.le_refl _, by decide, rfl, rfl⟩⟩
    have hb1 : Below w.heap.size w (w.alloc (.cells #[] 3)) := Below.alloc (Below.refl _ _) (Nat.le_refl _) _
    have Hn : Hid (n < 8796093022208) := hn
    clear hr hi0 hz0 hz1 hz2 hl hn
    go_enter Tryz.func35, Tryz.ntmps35
    go_wp2_with (at_builtin; refine wpList_append_own_at _ rfl _ _ 27 rfl w.heap.size 3 i0 (.int .i64 0) 1 8 Tryz.underlying27 HH.out.1 HH.out.2.1 HH.out.2.2.1 HH.out.2.2.2 rfl (by decide) _ _ _ rfl HW.out ⟨g, 0, none⟩ n cap (ints xs) rfl HL.out HN.out HO.out (by have := Hn.out; simp [maxLen]; omega) (by have := Hn.out; omega) (by simp) ?_)
    intro v' w2 ho hg _ _
    have hb2 : Below w.heap.size w w2 := hb1.grown hg hb1.size (fun k e => by simp [Value.ownBlock] at e; omega)
    have ho2 : w2.ownsRow w.heap.size 3 1 v' n (ints xs) := by simpa using ho
    obtain ⟨a, c, rfl⟩ := own_sl ho2
    have HO2 : Hid (w2.ownsRow w.heap.size 3 1 (.slice a n c) n (ints xs)) := ho2
    clear ho hg hb1 ho2
    go_wp2
    go_ret
    exact ⟨_, rfl, HO2.out, hb2⟩


end Go.Proofs.YtbgnagjhkfkekaaGreatDoor

/-
  WeakRegisters: Head where no object stands (out of YN).
-/
set_option linter.unusedVariables false
set_option maxRecDepth 20000
namespace Go.Proofs.YtbgnagjhkfkekaaGreatDoor
open Go.RowKit Go.Shelf

/-- An object stands there. -/
def At (c : Cfg) (x : Tps) (ws : Nat → Int) (a : Int) : Prop := spc c a ≠ 0 ∧ a < x.top (spc c a) ∧ Stands c ws (x.top (spc c a)) a

set_option maxHeartbeats 2000000 in
theorem object_flag (d : Bool) (b : Nat) (a S tp s K P R A T : Int) (H : Bool) (sv : Value) (hsv : (ocells s K P R A T H sv).all (·.oneCell') = true) (hS0 : S ≠ 0) (w : World)
    (hsp : ∀ w1, Below w.heap.size w w1 → Calls Tryz.prog 98 #[.pointer (some ⟨b, 0, none⟩), .int .i64 a] w1 fun e w' => e = .returned (.int .i64 S) ∧ Below w1.heap.size w1 w')
    (hto : ∀ w1, Below w.heap.size w w1 → Calls Tryz.prog 53 #[.pointer (some ⟨b, 0, none⟩), .int .i64 S] w1 fun e w' => e = .returned (.int .i64 tp) ∧ Below w1.heap.size w1 w')
    (hbe : ∀ w1, Below w.heap.size w w1 → Calls Tryz.prog 99 #[.pointer (some ⟨b, 0, none⟩), .int .i64 tp, .int .i64 a] w1 fun e w' => e = .returned (.tuple #[ov s K P R A T H sv, .bool d]) ∧ Below w1.heap.size w1 w') :
    Calls Tryz.prog 69 #[.pointer (some ⟨b, 0, none⟩), .int .i64 a] w fun e w' => e = .returned (.tuple #[ov s K P R A T H sv, .bool d]) ∧ Below w.heap.size w w' := by
  have b0 : Below w.heap.size w (w.alloc (.cells ozero 124)) := Below.alloc (Below.refl _ _) (Nat.le_refl _) _
  have o0 := Oc.new w ozero
  have h1 := hsp _ b0
  have Hto : Hid (∀ w1, Below w.heap.size w w1 → Calls Tryz.prog 53 #[.pointer (some ⟨b, 0, none⟩), .int .i64 S] w1 fun e w' => e = .returned (.int .i64 tp) ∧ Below w1.heap.size w1 w') := hto
  have Hbe : Hid (∀ w1, Below w.heap.size w w1 → Calls Tryz.prog 99 #[.pointer (some ⟨b, 0, none⟩), .int .i64 tp, .int .i64 a] w1 fun e w' => e = .returned (.tuple #[ov s K P R A T H sv, .bool d]) ∧ Below w1.heap.size w1 w') := hbe
  have Hall : Hid ((ocells s K P R A T H sv).all (·.oneCell') = true) := hsv
  clear hsp hto hbe
  go_enter Tryz.func69, Tryz.ntmps69
  go_wp2_with fail
  refine h1.mono ?_
  rintro e w1 ⟨rfl, l1⟩
  have o1 := o0.below l1
  have b1 := b0.trans (l1.mono b0.size)
  clear h1 b0 l1 o0
  go_wp2_with fail
  refine (Hto.out w1 b1).mono ?_
  rintro e w2 ⟨rfl, l2⟩
  have o2 := o1.below l2
  have b2 := b1.trans (l2.mono b1.size)
  clear b1 l2 o1
  go_wp2_with fail
  refine (Hbe.out w2 b2).mono ?_
  rintro e w3 ⟨rfl, l3⟩
  have o3 := o2.below l3
  have b3 := b2.trans (l3.mono b2.size)
  clear b2 l3 o2
  go_wp2_with (refine wpList_store_row rfl 124 _ _ rfl w.heap.size (ocells s K P R A T H sv) rfl rfl 124 ozero o3.at_ oinfo rfl Hall.out ?_)
  have o4 : Oc (w3.setRow w.heap.size (ocells s K P R A T H sv)) w.heap.size (ocells s K P R A T H sv) := ⟨setRow_heap _ _ _ _ _ _ o3.at_⟩
  have b4 := below_setRow b3 (Nat.le_refl _) (ocells s K P R A T H sv)
  generalize w3.setRow w.heap.size (ocells s K P R A T H sv) = w4 at o4 b4 ⊢
  clear o3 b3
  go_wp2
  refine bodyPost_ret (results_cell2 Tryz.results69 rfl o4.load) rfl ?_
  exact ⟨rfl, b4⟩

set_option maxHeartbeats 2000000 in
theorem object_out (b : Nat) (a : Int) (w : World) (hsp : ∀ w1, Below w.heap.size w w1 → Calls Tryz.prog 98 #[.pointer (some ⟨b, 0, none⟩), .int .i64 a] w1 fun e w' => e = .returned (.int .i64 0) ∧ Below w1.heap.size w1 w') :
    Calls Tryz.prog 69 #[.pointer (some ⟨b, 0, none⟩), .int .i64 a] w fun e w' => e = .returned (.tuple #[.agg ozero, .bool false]) ∧ Below w.heap.size w w' := by
  have b0 : Below w.heap.size w (w.alloc (.cells ozero 124)) := Below.alloc (Below.refl _ _) (Nat.le_refl _) _
  have o0 := Oc.new w ozero
  have h1 := hsp _ b0
  clear hsp
  go_enter Tryz.func69, Tryz.ntmps69
  go_wp2_with fail
  refine h1.mono ?_
  rintro e w1 ⟨rfl, l1⟩
  have o1 := o0.below l1
  have b1 := b0.trans (l1.mono b0.size)
  clear h1 b0 l1 o0
  go_wp2_with (refine wpList_store_row rfl 124 _ _ rfl w.heap.size ozero rfl rfl 124 ozero o1.at_ oinfo rfl (by kernel_rfl) ?_)
  have o4 : Oc (w1.setRow w.heap.size ozero) w.heap.size ozero := ⟨setRow_heap _ _ _ _ _ _ o1.at_⟩
  have b4 := below_setRow b1 (Nat.le_refl _) ozero
  generalize w1.setRow w.heap.size ozero = w4 at o4 b4 ⊢
  clear o1 b1
  go_wp2
  refine bodyPost_ret (results_cell2 Tryz.results69 rfl o4.load) rfl ?_
  exact ⟨rfl, b4⟩

theorem object_not (b g : Nat) (c : Cfg) (x : Tps) (sw : Bool) (ws : Nat → Int) (a : Int) (hn : ¬ At c x ws a) (w : World) (h : Ar w b g c x sw ws) (hL : Laid w) :
    Calls Tryz.prog 69 #[.pointer (some ⟨b, 0, none⟩), .int .i64 a] w fun e w' => e = .returned (.tuple #[.agg ozero, .bool false]) ∧ Below w.heap.size w w' := by
  by_cases h0 : spc c a = 0
  · exact object_out b a w (fun w1 l => by have := space_any b g c x sw ws a w1 (h.below l); rw [h0] at this; exact this)
  · have hpos := spc_pos h.ok (a := a) h0
    refine object_flag false b a (spc c a) (x.top (spc c a)) 0 0 0 0 0 0 false (.slice none 0 0) (by kernel_rfl) h0 w
      (fun w1 l => space_any b g c x sw ws a w1 (h.below l))
      (fun w1 l => top_any b g c x sw ws _ w1 (h.below l)) (fun w1 l => ?_)
    by_cases h1 : a < x.top (spc c a)
    · exact below_no b g c x sw ws _ a (by omega) h1 (by have := h.sub_in (spc c a); omega) (fun hs => hn ⟨h0, h1, hs⟩) w1 (h.below l) (hL.keep l)
    · exact below_above b g _ a (by omega) w1

theorem head_not (b g : Nat) (c : Cfg) (x : Tps) (sw : Bool) (ws : Nat → Int) (i : Int) (hn : ¬ At c x ws i) (w : World) (hA : Ar w b g c x sw ws) (hL : Laid w) :
    Calls Tryz.prog 32 #[.pointer (some ⟨b, 0, none⟩), .int .i64 i] w fun e w' => e = .returned (.tuple #[hv 0 0 0 0 0 0 false, .bool false]) ∧ Below w.heap.size w w' :=
  head_core false b i 0 0 0 0 0 0 false none 0 0 w (fun w1 l => object_not b g c x sw ws i hn w1 (hA.below l) (hL.keep l))

end Go.Proofs.YtbgnagjhkfkekaaGreatDoor

