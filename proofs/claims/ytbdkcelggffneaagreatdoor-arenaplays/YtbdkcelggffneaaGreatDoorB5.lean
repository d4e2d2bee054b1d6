/-
  The two arenas side by side.
-/
import Derived.Test.YtbdkcelggffneaaGreatDoorPBa
import Derived.Test.YtbdkcelggffneaaGreatDoorPAe
import Derived.Test.YtbdkcelggffneaaGreatDoorPHa
set_option linter.unusedVariables false
set_option maxRecDepth 20000
namespace Go.Proofs.YtbdkcelggffneaaGreatDoor
open Go.RowKit Go.Shelf

abbrev btc (a r : Nat) : Array Value := #[.pointer (some ⟨a, 0, none⟩), .pointer (some ⟨r, 0, none⟩), .slice none 0 0, .slice none 0 0]
def btf (a r : Nat) : Nat → Value
  | 0 => .pointer (some ⟨a, 0, none⟩)
  | 1 => .pointer (some ⟨r, 0, none⟩)
  | _ => .slice none 0 0

/-- A both's two arenas (whatever walks it keeps). -/
def Ow (w : World) (p a r : Nat) : Prop := ∃ f, w.rowIs p 39 4 f ∧ f 0 = .pointer (some ⟨a, 0, none⟩) ∧ f 1 = .pointer (some ⟨r, 0, none⟩)

theorem Ow.lt {w : World} {p a r : Nat} (h : Ow w p a r) : p < w.heap.size := by obtain ⟨f, h, _⟩ := h; exact h.lt
theorem Ow.c0 {w : World} {p a r : Nat} (h : Ow w p a r) : w.cell? ⟨p, 0, none⟩ = some (.pointer (some ⟨a, 0, none⟩)) := by obtain ⟨f, h, e, _⟩ := h; rw [h.cell (i := 0) (by decide), e]
theorem Ow.c1 {w : World} {p a r : Nat} (h : Ow w p a r) : w.cell? ⟨p, 1, none⟩ = some (.pointer (some ⟨r, 0, none⟩)) := by obtain ⟨f, h, _, e⟩ := h; rw [h.cell (i := 1) (by decide), e]
theorem Ow.of_block {w w' : World} {p a r : Nat} (h : Ow w p a r) (hb : w'.heap[p]? = w.heap[p]?) : Ow w' p a r := by obtain ⟨f, h, e⟩ := h; exact ⟨f, h.of_block hb, e⟩

/-- Both arenas, with the same tops and the same words. -/
structure Bo (w : World) (p a h r : Nat) (g : Nat → Nat) (c : Cfg) (x : Tps) (sw : Bool) (ws : Nat → Int) : Prop where
  own : Ow w p a r
  ar : Ar w a h c x sw ws
  ra : Ra w r g c x sw ws
  la : Laid w

section
variable {w w' : World} {p a h r : Nat} {g : Nat → Nat} {c : Cfg} {x : Tps} {sw : Bool} {ws : Nat → Int}
theorem Bo.below (hB : Bo w p a h r g c x sw ws) (l : Below w.heap.size w w') : Bo w' p a h r g c x sw ws :=
  ⟨hB.own.of_block (l.block _ hB.own.lt), hB.ar.below l, hB.ra.below l, hB.la.keep l⟩
theorem Bo.c0 (hB : Bo w p a h r g c x sw ws) : w.cell? ⟨p, 0, none⟩ = some (.pointer (some ⟨a, 0, none⟩)) := Ow.c0 hB.own
theorem Bo.c1 (hB : Bo w p a h r g c x sw ws) : w.cell? ⟨p, 1, none⟩ = some (.pointer (some ⟨r, 0, none⟩)) := Ow.c1 hB.own
end

set_option maxHeartbeats 1000000 in
theorem config_any (b g : Nat) (c : Cfg) (x : Tps) (sw : Bool) (ws : Nat → Int) (w : World) (h : Ar w b g c x sw ws) :
    Calls Tryz.prog 39 #[.pointer (some ⟨b, 0, none⟩)] w fun e w' => e = .returned (cv c) ∧ Below w.heap.size w w' := by
  have hbl := h.own.lt
  have k0 : w.cell? ⟨b, 0, none⟩ = some (.int .i64 c.eden) := h.own.cell (i := 0) (by decide)
  have k1 : w.cell? ⟨b, 1, none⟩ = some (.int .i64 c.surv) := h.own.cell (i := 1) (by decide)
  have k2 : w.cell? ⟨b, 2, none⟩ = some (.int .i64 c.ten) := h.own.cell (i := 2) (by decide)
  have k3 : w.cell? ⟨b, 3, none⟩ = some (.int .i64 c.large) := h.own.cell (i := 3) (by decide)
  have k4 : w.cell? ⟨b, 4, none⟩ = some (.int .i64 c.floor) := h.own.cell (i := 4) (by decide)
  have k5 : w.cell? ⟨b, 5, none⟩ = some (.int .i64 c.num) := h.own.cell (i := 5) (by decide)
  have k6 : w.cell? ⟨b, 6, none⟩ = some (.int .i64 c.den) := h.own.cell (i := 6) (by decide)
  have k7 : w.cell? ⟨b, 7, none⟩ = some (.int .i64 c.target) := h.own.cell (i := 7) (by decide)
  have k8 : w.cell? ⟨b, 8, none⟩ = some (.int .i64 c.maxAge) := h.own.cell (i := 8) (by decide)
  have k9 : w.cell? ⟨b, 9, none⟩ = some (.int .i64 c.threads) := h.own.cell (i := 9) (by decide)
  have k10 : w.cell? ⟨b, 10, none⟩ = some (.int .i64 c.slots) := h.own.cell (i := 10) (by decide)
  have k11 : w.cell? ⟨b, 11, none⟩ = some (.int .i64 c.handles) := h.own.cell (i := 11) (by decide)
  have k12 : w.cell? ⟨b, 12, none⟩ = some (.int .i64 c.buffer) := h.own.cell (i := 12) (by decide)
  have k13 : w.cell? ⟨b, 13, none⟩ = some (.int .i64 c.workers) := h.own.cell (i := 13) (by decide)
  clear h
  go_enter Tryz.func39, Tryz.ntmps39
  go_wp2
  go_returns
  refine ⟨rfl, ?_⟩
  go_grown

set_option maxHeartbeats 4000000 in
theorem sameConfig_any (c : Cfg) (w : World) :
    Calls Tryz.prog 40 #[cv c, cv c] w fun e w' => e = .returned (.bool true) ∧ Below w.heap.size w w' := by
  have f1 := (Cfd.new w c).below (Below.alloc (Below.refl (w.alloc (.cells (ccells c) 23)).heap.size _) (Nat.le_refl _) (.cells (ccells c) 23))
  have f2 := Cfd.new (w.alloc (.cells (ccells c) 23)) c
  rw [World.size_alloc] at f2
  have BL : Hid (Below w.heap.size w ((w.alloc (.cells (ccells c) 23)).alloc (.cells (ccells c) 23))) := Below.alloc (Below.alloc (Below.refl _ _) (Nat.le_refl _) _) (by simp) _
  go_enter Tryz.func40, Tryz.ntmps40
  go_upto_region 1 with fail
  generalize (w.alloc (.cells (ccells c) 23)).alloc (.cells (ccells c) 23) = v at *
  have k0 : v.cell? ⟨w.heap.size, 0, none⟩ = some (.int .i64 c.eden) := f1.cell 0
  have m0 : v.cell? ⟨w.heap.size + 1, 0, none⟩ = some (.int .i64 c.eden) := f2.cell 0
  have k1 : v.cell? ⟨w.heap.size, 1, none⟩ = some (.int .i64 c.surv) := f1.cell 1
  have m1 : v.cell? ⟨w.heap.size + 1, 1, none⟩ = some (.int .i64 c.surv) := f2.cell 1
  have k2 : v.cell? ⟨w.heap.size, 2, none⟩ = some (.int .i64 c.ten) := f1.cell 2
  have m2 : v.cell? ⟨w.heap.size + 1, 2, none⟩ = some (.int .i64 c.ten) := f2.cell 2
  have k3 : v.cell? ⟨w.heap.size, 3, none⟩ = some (.int .i64 c.large) := f1.cell 3
  have m3 : v.cell? ⟨w.heap.size + 1, 3, none⟩ = some (.int .i64 c.large) := f2.cell 3
  have k4 : v.cell? ⟨w.heap.size, 4, none⟩ = some (.int .i64 c.floor) := f1.cell 4
  have m4 : v.cell? ⟨w.heap.size + 1, 4, none⟩ = some (.int .i64 c.floor) := f2.cell 4
  have k5 : v.cell? ⟨w.heap.size, 5, none⟩ = some (.int .i64 c.num) := f1.cell 5
  have m5 : v.cell? ⟨w.heap.size + 1, 5, none⟩ = some (.int .i64 c.num) := f2.cell 5
  have k6 : v.cell? ⟨w.heap.size, 6, none⟩ = some (.int .i64 c.den) := f1.cell 6
  have m6 : v.cell? ⟨w.heap.size + 1, 6, none⟩ = some (.int .i64 c.den) := f2.cell 6
  have k7 : v.cell? ⟨w.heap.size, 7, none⟩ = some (.int .i64 c.target) := f1.cell 7
  have m7 : v.cell? ⟨w.heap.size + 1, 7, none⟩ = some (.int .i64 c.target) := f2.cell 7
  have k8 : v.cell? ⟨w.heap.size, 8, none⟩ = some (.int .i64 c.maxAge) := f1.cell 8
  have m8 : v.cell? ⟨w.heap.size + 1, 8, none⟩ = some (.int .i64 c.maxAge) := f2.cell 8
  have k9 : v.cell? ⟨w.heap.size, 9, none⟩ = some (.int .i64 c.threads) := f1.cell 9
  have m9 : v.cell? ⟨w.heap.size + 1, 9, none⟩ = some (.int .i64 c.threads) := f2.cell 9
  have k10 : v.cell? ⟨w.heap.size, 10, none⟩ = some (.int .i64 c.slots) := f1.cell 10
  have m10 : v.cell? ⟨w.heap.size + 1, 10, none⟩ = some (.int .i64 c.slots) := f2.cell 10
  have k11 : v.cell? ⟨w.heap.size, 11, none⟩ = some (.int .i64 c.handles) := f1.cell 11
  have m11 : v.cell? ⟨w.heap.size + 1, 11, none⟩ = some (.int .i64 c.handles) := f2.cell 11
  have k12 : v.cell? ⟨w.heap.size, 12, none⟩ = some (.int .i64 c.buffer) := f1.cell 12
  have m12 : v.cell? ⟨w.heap.size + 1, 12, none⟩ = some (.int .i64 c.buffer) := f2.cell 12
  have k13 : v.cell? ⟨w.heap.size, 13, none⟩ = some (.int .i64 c.workers) := f1.cell 13
  have m13 : v.cell? ⟨w.heap.size + 1, 13, none⟩ = some (.int .i64 c.workers) := f2.cell 13
  clear f1 f2
  go_wp2
  go_ret
  exact ⟨rfl, BL.out⟩

abbrev opv (k : Int) : Value := .agg #[.int .i64 k, .int .i64 0, .int .i64 0, .int .i64 0, .int .i64 0, .int .i64 0, .int .u64 0, .int .u64 0, .int .i64 0, .int .i64 0, .int .i64 0, .int .i64 0, .int .i64 0, .bool false]
abbrev opc (k : Int) : Array Value := #[.int .i64 k, .int .i64 0, .int .i64 0, .int .i64 0, .int .i64 0, .int .i64 0, .int .u64 0, .int .u64 0, .int .i64 0, .int .i64 0, .int .i64 0, .int .i64 0, .int .i64 0, .bool false]

theorem opc_cell (w : World) (k : Int) : (w.alloc (.cells (opc k) 33)).cell? ⟨w.heap.size, 0, none⟩ = some (.int .i64 k) :=
  cell_of_row _ _ 0 _ _ _ (heap_alloc_new w (.cells (opc k) 33 (0, 0)))

section
variable (p a h r : Nat) (g : Nat → Nat) (c : Cfg) (x : Tps) (sw : Bool) (ws : Nat → Int)

set_option maxHeartbeats 2000000 in
theorem lspace_any (s : Int) (w : World) (hB : Bo w p a h r g c x sw ws) :
    Calls Tryz.prog 20 #[.pointer (some ⟨p, 0, none⟩), .int .i64 s] w fun e w' => e = .returned (.bool true) ∧ Below w.heap.size w w' := by
  have HB : Hid (Bo w p a h r g c x sw ws) := hB
  have c0 := hB.c0
  clear hB
  have h1 : ∀ w1, Below w.heap.size w w1 → Calls Tryz.prog 74 #[.pointer (some ⟨a, 0, none⟩), .int .i64 s] w1 fun e w' => e = .returned (.tuple #[.int .i64 (fst c s), .int .i64 (bhd c s)]) ∧ Below w1.heap.size w1 w' := fun w1 l => bounds_any a h c x sw ws s w1 (HB.out.below l).ar
  have h2 : ∀ w1, Below w.heap.size w w1 → Calls Tryz.prog 73 #[.pointer (some ⟨r, 0, none⟩), .int .i64 s] w1 fun e w' => e = .returned (.tuple #[.int .i64 (fst c s), .int .i64 (bhd c s)]) ∧ Below w1.heap.size w1 w' := fun w1 l => rbounds_any r g c x sw ws s w1 (HB.out.below l).ra
  have h3 : ∀ w1, Below w.heap.size w w1 → Calls Tryz.prog 16 #[.pointer (some ⟨a, 0, none⟩), .int .i64 s] w1 fun e w' => e = .returned (.int .i64 (x.top s)) ∧ Below w1.heap.size w1 w' := fun w1 l => top_any a h c x sw ws s w1 (HB.out.below l).ar
  have h4 : ∀ w1, Below w.heap.size w w1 → Calls Tryz.prog 75 #[.pointer (some ⟨a, 0, none⟩), .int .i64 s] w1 fun e w' => e = .returned (.int .i64 (bhd c s - x.top s)) ∧ Below w1.heap.size w1 w' := fun w1 l => free_any a h c x sw ws s w1 (HB.out.below l).ar
  have h5 : ∀ w1, Below w.heap.size w w1 → Calls Tryz.prog 76 #[.pointer (some ⟨r, 0, none⟩), .int .i64 s] w1 fun e w' => e = .returned (.int .i64 (x.top s)) ∧ Below w1.heap.size w1 w' := fun w1 l => rtop_any r g c x sw ws s w1 (HB.out.below l).ra
  have h6 : ∀ w1, Below w.heap.size w w1 → Calls Tryz.prog 77 #[.pointer (some ⟨r, 0, none⟩), .int .i64 s] w1 fun e w' => e = .returned (.int .i64 (bhd c s - x.top s)) ∧ Below w1.heap.size w1 w' := fun w1 l => rfree_any r g c x sw ws s w1 (HB.out.below l).ra
  generalize bhd c s - x.top s = FR at *
  generalize fst c s = F at *
  generalize bhd c s = H at *
  generalize x.top s = T at *
  have H1 := (show Hid _ from h1)
  have H2 := (show Hid _ from h2)
  have H3 := (show Hid _ from h3)
  have H4 := (show Hid _ from h4)
  have H5 := (show Hid _ from h5)
  have H6 := (show Hid _ from h6)
  clear h1 h2 h3 h4 h5 h6
  have l0 : Hid (Below w.heap.size w w) := Below.refl _ _
  go_enter Tryz.func20, Tryz.ntmps20
  go_wp2_with fail
  refine (H1.out w l0.out).mono ?_
  rintro e w1 ⟨rfl, l⟩
  have l1 : Hid (Below w.heap.size w w1) := l0.out.trans (l.mono l0.out.size)
  clear l c0
  have c0 := (HB.out.below l1.out).c1
  go_wp2_with fail
  refine (H2.out w1 l1.out).mono ?_
  rintro e w2 ⟨rfl, l⟩
  have l2 : Hid (Below w.heap.size w w2) := l1.out.trans (l.mono l1.out.size)
  clear l c0
  have c0 := (HB.out.below l2.out).c0
  go_wp2_with fail
  refine (H3.out w2 l2.out).mono ?_
  rintro e w3 ⟨rfl, l⟩
  have l3 : Hid (Below w.heap.size w w3) := l2.out.trans (l.mono l2.out.size)
  clear l c0
  have c0 := (HB.out.below l3.out).c0
  go_wp2_with fail
  refine (H4.out w3 l3.out).mono ?_
  rintro e w4 ⟨rfl, l⟩
  have l4 : Hid (Below w.heap.size w w4) := l3.out.trans (l.mono l3.out.size)
  clear l c0
  have c0 := (HB.out.below l4.out).c1
  go_wp2_with fail
  refine (H5.out w4 l4.out).mono ?_
  rintro e w5 ⟨rfl, l⟩
  have l5 : Hid (Below w.heap.size w w5) := l4.out.trans (l.mono l4.out.size)
  clear l c0
  have c0 := (HB.out.below l5.out).c1
  go_wp2_with fail
  refine (H6.out w5 l5.out).mono ?_
  rintro e w6 ⟨rfl, l⟩
  have l6 : Hid (Below w.heap.size w w6) := l5.out.trans (l.mono l5.out.size)
  clear l c0
  go_wp2
  go_ret
  exact ⟨rfl, l6.out⟩
end

end Go.Proofs.YtbdkcelggffneaaGreatDoor
