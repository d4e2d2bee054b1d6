/-
  New.
-/
import Derived.Test.YtpiemfchjlihfaaDoorA5
import Derived.Maps.AppendAt
import Derived.Laws.MakeOwn
set_option linter.unusedVariables false
namespace Go.Proofs.YtpiemfchjlihfaaDoor
open Go.RowKit

theorem Tryd.infoU64 : (Tryd.prog.info? 36).map (fun i => (i.zero, i.size, i.bytes)) = some (some (.int .u64 0), 1, 8) := by kernel_rfl

/-- A configuration in a block. -/
structure Cfd (w : World) (b : Nat) (c : Cfg) : Prop where
  at_ : w.heap[b]? = some (.cells (ccells c) 24 (0, 0))

theorem Cfd.new (w : World) (c : Cfg) : Cfd (w.alloc (.cells (ccells c) 24)) w.heap.size c := ⟨heap_alloc_new w _⟩
theorem Cfd.lt {w : World} {b : Nat} {c : Cfg} (h : Cfd w b c) : b < w.heap.size := (Array.getElem?_eq_some_iff.1 h.at_).1
theorem Cfd.below {w w' : World} {b : Nat} {c : Cfg} (h : Cfd w b c) (l : Below w.heap.size w w') : Cfd w' b c := ⟨(l.block b h.lt).trans h.at_⟩
theorem Cfd.cell {w : World} {b : Nat} {c : Cfg} (h : Cfd w b c) (j : Nat) : w.cell? ⟨b, j, none⟩ = (ccells c)[j]? := cell_of_row _ _ j _ _ _ h.at_

abbrev ncells (c : Cfg) (g : Nat) : Array Value := #[.int .i64 c.eden, .int .i64 c.surv, .int .i64 c.ten, .int .i64 c.large, .int .i64 c.floor, .int .i64 c.num, .int .i64 c.den, .int .i64 c.target, .int .i64 c.maxAge, .int .i64 c.threads, .int .i64 c.slots, .int .i64 c.handles, .int .i64 c.buffer, .int .i64 c.workers, .slice (some ⟨g, 0, none⟩) c.words.toNat c.words.toNat, .int .i64 1, .int .i64 (1 + c.eden), .int .i64 1, .int .i64 (1 + c.eden), .int .i64 (1 + c.eden + c.surv), .int .i64 (1 + c.eden), .int .i64 (1 + c.eden + c.surv), .int .i64 (1 + c.eden + c.surv + c.surv), .int .i64 (1 + c.eden + c.surv), .int .i64 (1 + c.eden + c.surv + c.surv), .int .i64 (1 + c.eden + c.surv + c.surv + c.ten), .int .i64 (1 + c.eden + c.surv + c.surv), .bool false]

theorem new_ar (w : World) (c : Cfg) (h : c.Ok) : Ar ((w.alloc (.cells (madeCells #[.int .u64 0] c.words.toNat) 36)).alloc (.cells (ncells c w.heap.size) 66)).drew (w.heap.size + 1) w.heap.size c (tops0 c) false (fun _ => 0) := by
  have h1 := World.rowIs_alloc (w.alloc (.cells (madeCells #[.int .u64 0] c.words.toNat) 36)) (ncells c w.heap.size) 66 (af c w.heap.size c.words.toNat (tops0 c) false) (by
    intro i hi
    match i, hi with
    | 0, _ | 1, _ | 2, _ | 3, _ | 4, _ | 5, _ | 6, _ | 7, _ | 8, _ | 9, _ | 10, _ | 11, _ | 12, _ | 13, _ | 14, _ | 15, _ | 16, _ | 17, _ | 18, _ | 19, _ | 20, _ | 21, _ | 22, _ | 23, _ | 24, _ | 25, _ | 26, _ | 27, _ => rfl
    | j + 28, h => exact absurd (show j + 28 < 28 from h) (by omega))
  rw [World.size_alloc] at h1
  have h2 := (World.rowIs_made w (.int .u64 0) c.words.toNat 36).alloc (.cells (ncells c w.heap.size) 66)
  have e0 := h.e0; have s0 := h.s0; have t0 := h.t0
  exact ⟨h1.drew, h2.drew, h, fun _ => ⟨by decide, by decide⟩, Int.le_refl _, by simp only [tops0]; omega, Int.le_refl _, by simp only [tops0]; omega, Int.le_refl _, by simp only [tops0]; omega, Int.le_refl _, by simp only [tops0]; omega⟩

set_option maxHeartbeats 4000000 in
theorem new_yes (c : Cfg) (h : c.Ok) (w : World) :
    Calls Tryd.prog 7 #[cv c] w fun e w' => ∃ b g, e = .returned (.tuple #[.pointer (some ⟨b, 0, none⟩), .int .i64 0]) ∧ Ar w' b g c (tops0 c) false (fun _ => 0) ∧ Below w.heap.size w w' ∧ w.heap.size ≤ b ∧ w.heap.size ≤ g := by
  have hv := valid_any c true (by simp [h]) (w.alloc (.cells (ccells c) 24))
  have b0 : Below w.heap.size w (w.alloc (.cells (ccells c) 24)) := Below.alloc (Below.refl _ _) (Nat.le_refl _) _
  have f0 := Cfd.new w c
  have Hh : Hid c.Ok := h
  clear h
  go_enter Tryd.func7, Tryd.ntmps7
  go_wp2_with fail
  refine hv.mono ?_
  rintro e w1 ⟨rfl, b1⟩
  have b2 := b0.trans (b1.mono b0.size)
  have f1 := f0.below b1
  clear b0 b1 hv f0
  have k0 : w1.cell? ⟨w.heap.size, 0, none⟩ = some (.int .i64 c.eden) := f1.cell 0
  have k1 : w1.cell? ⟨w.heap.size, 1, none⟩ = some (.int .i64 c.surv) := f1.cell 1
  have k2 : w1.cell? ⟨w.heap.size, 2, none⟩ = some (.int .i64 c.ten) := f1.cell 2
  have k3 : w1.cell? ⟨w.heap.size, 3, none⟩ = some (.int .i64 c.large) := f1.cell 3
  have k4 : w1.cell? ⟨w.heap.size, 4, none⟩ = some (.int .i64 c.floor) := f1.cell 4
  have k5 : w1.cell? ⟨w.heap.size, 5, none⟩ = some (.int .i64 c.num) := f1.cell 5
  have k6 : w1.cell? ⟨w.heap.size, 6, none⟩ = some (.int .i64 c.den) := f1.cell 6
  have k7 : w1.cell? ⟨w.heap.size, 7, none⟩ = some (.int .i64 c.target) := f1.cell 7
  have k8 : w1.cell? ⟨w.heap.size, 8, none⟩ = some (.int .i64 c.maxAge) := f1.cell 8
  have k9 : w1.cell? ⟨w.heap.size, 9, none⟩ = some (.int .i64 c.threads) := f1.cell 9
  have k10 : w1.cell? ⟨w.heap.size, 10, none⟩ = some (.int .i64 c.slots) := f1.cell 10
  have k11 : w1.cell? ⟨w.heap.size, 11, none⟩ = some (.int .i64 c.handles) := f1.cell 11
  have k12 : w1.cell? ⟨w.heap.size, 12, none⟩ = some (.int .i64 c.buffer) := f1.cell 12
  have k13 : w1.cell? ⟨w.heap.size, 13, none⟩ = some (.int .i64 c.workers) := f1.cell 13
  go_wp2_with fail
  clear k0 k1 k2 k3 k4 k5 k6 k7 k8 k9 k10 k11 k12 k13
  refine (extents_any c Hh.out w1).mono ?_
  rintro e w2 ⟨rfl, b3⟩
  have f2 := f1.below b3
  have b4 := b2.trans (b3.mono b2.size)
  clear b2 b3 f1
  go_upto_region 4 with fail
  have b5 := Below.alloc b4 b4.size (.cells #[.int .i64 1, .int .i64 (1 + c.eden), .int .i64 1, .int .i64 (1 + c.eden), .int .i64 (1 + c.eden + c.surv), .int .i64 (1 + c.eden), .int .i64 (1 + c.eden + c.surv), .int .i64 (1 + c.eden + c.surv + c.surv), .int .i64 (1 + c.eden + c.surv), .int .i64 (1 + c.eden + c.surv + c.surv), .int .i64 (1 + c.eden + c.surv + c.surv + c.ten), .int .i64 (1 + c.eden + c.surv + c.surv)] 62)
  have f3 := f2.below (Below.alloc (Below.refl _ _) (Nat.le_refl _) (.cells #[.int .i64 1, .int .i64 (1 + c.eden), .int .i64 1, .int .i64 (1 + c.eden), .int .i64 (1 + c.eden + c.surv), .int .i64 (1 + c.eden), .int .i64 (1 + c.eden + c.surv), .int .i64 (1 + c.eden + c.surv + c.surv), .int .i64 (1 + c.eden + c.surv), .int .i64 (1 + c.eden + c.surv + c.surv), .int .i64 (1 + c.eden + c.surv + c.surv + c.ten), .int .i64 (1 + c.eden + c.surv + c.surv)] 62))
  have r3 := heap_alloc_new w2 (.cells #[.int .i64 1, .int .i64 (1 + c.eden), .int .i64 1, .int .i64 (1 + c.eden), .int .i64 (1 + c.eden + c.surv), .int .i64 (1 + c.eden), .int .i64 (1 + c.eden + c.surv), .int .i64 (1 + c.eden + c.surv + c.surv), .int .i64 (1 + c.eden + c.surv), .int .i64 (1 + c.eden + c.surv + c.surv), .int .i64 (1 + c.eden + c.surv + c.surv + c.ten), .int .i64 (1 + c.eden + c.surv + c.surv)] 62)
  have hlt := b4.size
  generalize w2.alloc (.cells #[.int .i64 1, .int .i64 (1 + c.eden), .int .i64 1, .int .i64 (1 + c.eden), .int .i64 (1 + c.eden + c.surv), .int .i64 (1 + c.eden), .int .i64 (1 + c.eden + c.surv), .int .i64 (1 + c.eden + c.surv + c.surv), .int .i64 (1 + c.eden + c.surv), .int .i64 (1 + c.eden + c.surv + c.surv), .int .i64 (1 + c.eden + c.surv + c.surv + c.ten), .int .i64 (1 + c.eden + c.surv + c.surv)] 62) = w3 at *
  generalize w2.heap.size = B2 at *
  have r3' : ∀ j, w3.cell? ⟨B2, j, none⟩ = (#[.int .i64 1, .int .i64 (1 + c.eden), .int .i64 1, .int .i64 (1 + c.eden), .int .i64 (1 + c.eden + c.surv), .int .i64 (1 + c.eden), .int .i64 (1 + c.eden + c.surv), .int .i64 (1 + c.eden + c.surv + c.surv), .int .i64 (1 + c.eden + c.surv), .int .i64 (1 + c.eden + c.surv + c.surv), .int .i64 (1 + c.eden + c.surv + c.surv + c.ten), .int .i64 (1 + c.eden + c.surv + c.surv)] : Array Value)[j]? := fun j => cell_of_row _ _ j _ _ _ r3
  have hB2 := (Array.getElem?_eq_some_iff.1 r3).1
  have hB0 := f3.lt
  have k0 : w3.cell? ⟨w.heap.size, 0, none⟩ = some (.int .i64 c.eden) := f3.cell 0
  have k1 : w3.cell? ⟨w.heap.size, 1, none⟩ = some (.int .i64 c.surv) := f3.cell 1
  have k2 : w3.cell? ⟨w.heap.size, 2, none⟩ = some (.int .i64 c.ten) := f3.cell 2
  have k3 : w3.cell? ⟨w.heap.size, 3, none⟩ = some (.int .i64 c.large) := f3.cell 3
  have k4 : w3.cell? ⟨w.heap.size, 4, none⟩ = some (.int .i64 c.floor) := f3.cell 4
  have k5 : w3.cell? ⟨w.heap.size, 5, none⟩ = some (.int .i64 c.num) := f3.cell 5
  have k6 : w3.cell? ⟨w.heap.size, 6, none⟩ = some (.int .i64 c.den) := f3.cell 6
  have k7 : w3.cell? ⟨w.heap.size, 7, none⟩ = some (.int .i64 c.target) := f3.cell 7
  have k8 : w3.cell? ⟨w.heap.size, 8, none⟩ = some (.int .i64 c.maxAge) := f3.cell 8
  have k9 : w3.cell? ⟨w.heap.size, 9, none⟩ = some (.int .i64 c.threads) := f3.cell 9
  have k10 : w3.cell? ⟨w.heap.size, 10, none⟩ = some (.int .i64 c.slots) := f3.cell 10
  have k11 : w3.cell? ⟨w.heap.size, 11, none⟩ = some (.int .i64 c.handles) := f3.cell 11
  have k12 : w3.cell? ⟨w.heap.size, 12, none⟩ = some (.int .i64 c.buffer) := f3.cell 12
  have k13 : w3.cell? ⟨w.heap.size, 13, none⟩ = some (.int .i64 c.workers) := f3.cell 13
  have x0 : w3.cell? ⟨B2, 0, none⟩ = some (.int .i64 1) := r3' 0
  have x1 : w3.cell? ⟨B2, 1, none⟩ = some (.int .i64 (1 + c.eden)) := r3' 1
  have x2 : w3.cell? ⟨B2, 2, none⟩ = some (.int .i64 1) := r3' 2
  have x3 : w3.cell? ⟨B2, 3, none⟩ = some (.int .i64 (1 + c.eden)) := r3' 3
  have x4 : w3.cell? ⟨B2, 4, none⟩ = some (.int .i64 (1 + c.eden + c.surv)) := r3' 4
  have x5 : w3.cell? ⟨B2, 5, none⟩ = some (.int .i64 (1 + c.eden)) := r3' 5
  have x6 : w3.cell? ⟨B2, 6, none⟩ = some (.int .i64 (1 + c.eden + c.surv)) := r3' 6
  have x7 : w3.cell? ⟨B2, 7, none⟩ = some (.int .i64 (1 + c.eden + c.surv + c.surv)) := r3' 7
  have x8 : w3.cell? ⟨B2, 8, none⟩ = some (.int .i64 (1 + c.eden + c.surv)) := r3' 8
  have x9 : w3.cell? ⟨B2, 9, none⟩ = some (.int .i64 (1 + c.eden + c.surv + c.surv)) := r3' 9
  have x10 : w3.cell? ⟨B2, 10, none⟩ = some (.int .i64 (1 + c.eden + c.surv + c.surv + c.ten)) := r3' 10
  have x11 : w3.cell? ⟨B2, 11, none⟩ = some (.int .i64 (1 + c.eden + c.surv + c.surv)) := r3' 11
  obtain ⟨i0, hi0, hz0, hz1, hz2⟩ := info_parts Tryd.infoU64
  have hw0 : 0 ≤ c.words ∧ c.words ≤ 262145 := by
    obtain ⟨e0, e1, s0, s1, t0, t1, -⟩ := Hh.out
    unfold Cfg.words; omega
  have hmk : ∀ w, (Instr.makeSlice 54 (.int .i64 (1 + c.eden + c.surv + c.surv + c.ten)) (.int .i64 (1 + c.eden + c.surv + c.surv + c.ten))).run Tryd.prog w = .ok (.slice (some ⟨w.heap.size, 0, none⟩) c.words.toNat c.words.toNat) (w.alloc (.cells (madeCells #[.int .u64 0] c.words.toNat) 36)) := fun w => by
    have := run_make (P := Tryd.prog) w 54 36 i0 (.int .u64 0) Tryd.underlying54 hi0 hz0 .i64 .i64 c.words c.words hw0.1 (Int.le_refl _) (by rw [hz2]; omega) (by omega)
    rw [hz1, Nat.mul_one] at this
    exact this
  clear hi0 hz0 hz1 hz2 r3 r3' f2 f3 hw0
  go_region
  clear k0 k1 k2 k3 k4 k5 k6 k7 k8 k9 k10 k11 k12 k13 x0 x1 x2 x3 x4 x5 x6 x7 x8 x9 x10 x11 hmk
  go_wp2
  go_ret2
  exact ⟨w3.heap.size + 1, w3.heap.size, rfl, new_ar w3 c Hh.out, by go_grown, by omega, by omega⟩

end Go.Proofs.YtpiemfchjlihfaaDoor
