import Derived.Test.YtbgnagjhkfkekaaGreatDoorPAa
import Derived.Deep.WholeRow
import Derived.Maps.AppendAt
import Derived.Laws.MakeOwn
/-
  Which configurations may be.
-/
set_option linter.unusedVariables false
namespace Go.Proofs.YtbgnagjhkfkekaaGreatDoor
open Go.RowKit

/-- A configuration as a value. -/
abbrev ccells (c : Cfg) : Array Value := #[.int .i64 c.eden, .int .i64 c.surv, .int .i64 c.ten, .int .i64 c.large, .int .i64 c.floor, .int .i64 c.num, .int .i64 c.den, .int .i64 c.target, .int .i64 c.maxAge, .int .i64 c.threads, .int .i64 c.slots, .int .i64 c.handles, .int .i64 c.buffer, .int .i64 c.workers]
abbrev cv (c : Cfg) : Value := .agg (ccells c)

/-- The bounds, number by number. -/
def bis (c : Cfg) : Nat → Int
  | 0 => c.eden
  | 1 => c.surv
  | 2 => c.ten
  | 3 => c.large
  | 4 => c.floor
  | 5 => c.num
  | 6 => c.den
  | 7 => c.target
  | 8 => c.maxAge
  | 9 => c.threads
  | 10 => c.slots
  | 11 => c.handles
  | 12 => c.buffer
  | _ => c.workers
def blo (c : Cfg) : Nat → Int
  | 0 => 64
  | 1 => 64
  | 2 => 64
  | 3 => 2
  | 4 => 0
  | 5 => c.den
  | 6 => 1
  | 7 => 1
  | 8 => 1
  | 9 => 1
  | 10 => 1
  | 11 => 0
  | 12 => 0
  | _ => 1
def bhi (c : Cfg) : Nat → Int
  | 0 => 65536
  | 1 => 65536
  | 2 => 65536
  | 3 => 65536
  | 4 => 65536
  | 5 => 65536
  | 6 => c.num
  | 7 => 100
  | 8 => 15
  | 9 => 8
  | 10 => 4096
  | 11 => 1024
  | 12 => c.eden
  | _ => 8

abbrev bcells (c : Cfg) : Array Value := #[.int .i64 c.eden, .int .i64 (64), .int .i64 (65536), .int .i64 c.surv, .int .i64 (64), .int .i64 (65536), .int .i64 c.ten, .int .i64 (64), .int .i64 (65536), .int .i64 c.large, .int .i64 (2), .int .i64 (65536), .int .i64 c.floor, .int .i64 (0), .int .i64 (65536), .int .i64 c.num, .int .i64 (c.den), .int .i64 (65536), .int .i64 c.den, .int .i64 (1), .int .i64 (c.num), .int .i64 c.target, .int .i64 (1), .int .i64 (100), .int .i64 c.maxAge, .int .i64 (1), .int .i64 (15), .int .i64 c.threads, .int .i64 (1), .int .i64 (8), .int .i64 c.slots, .int .i64 (1), .int .i64 (4096), .int .i64 c.handles, .int .i64 (0), .int .i64 (1024), .int .i64 c.buffer, .int .i64 (0), .int .i64 (c.eden), .int .i64 c.workers, .int .i64 (1), .int .i64 (8)]

def bagg (c : Cfg) : Value := .agg (bcells c)

theorem bidx (c : Cfg) (j : Nat) (hj : j < 14) (w : World) : (Instr.index 156 (bagg c) (.int .i64 j)).run Tryz.prog w = .ok (ev (bis c j) (blo c j) (bhi c j)) w := by
  obtain rfl | rfl | rfl | rfl | rfl | rfl | rfl | rfl | rfl | rfl | rfl | rfl | rfl | rfl : j = 0 ∨ j = 1 ∨ j = 2 ∨ j = 3 ∨ j = 4 ∨ j = 5 ∨ j = 6 ∨ j = 7 ∨ j = 8 ∨ j = 9 ∨ j = 10 ∨ j = 11 ∨ j = 12 ∨ j = 13 := by omega
  all_goals kernel_rfl

abbrev bzero : Array Value := #[.int .i64 0, .int .i64 0, .int .i64 0, .int .i64 0, .int .i64 0, .int .i64 0, .int .i64 0, .int .i64 0, .int .i64 0, .int .i64 0, .int .i64 0, .int .i64 0, .int .i64 0, .int .i64 0, .int .i64 0, .int .i64 0, .int .i64 0, .int .i64 0, .int .i64 0, .int .i64 0, .int .i64 0, .int .i64 0, .int .i64 0, .int .i64 0, .int .i64 0, .int .i64 0, .int .i64 0, .int .i64 0, .int .i64 0, .int .i64 0, .int .i64 0, .int .i64 0, .int .i64 0, .int .i64 0, .int .i64 0, .int .i64 0, .int .i64 0, .int .i64 0, .int .i64 0, .int .i64 0, .int .i64 0, .int .i64 0]

theorem bbuild (c : Cfg) (w : World) : (Instr.build 156 #[(0, ev c.eden 64 65536), (1, ev c.surv 64 65536), (2, ev c.ten 64 65536), (3, ev c.large 2 65536), (4, ev c.floor 0 65536), (5, ev c.num (c.den) 65536), (6, ev c.den 1 (c.num)), (7, ev c.target 1 100), (8, ev c.maxAge 1 15), (9, ev c.threads 1 8), (10, ev c.slots 1 4096), (11, ev c.handles 0 1024), (12, ev c.buffer 0 (c.eden)), (13, ev c.workers 1 8)]).run Tryz.prog w = .ok (bagg c) w := run_build w _ _ _ (by kernel_rfl)

theorem binfo : (Tryz.prog.info? 156).map (·.size) = some 42 := by kernel_rfl

theorem bstore (c : Cfg) (w : World) : (Instr.storeAt 156 (.pointer (some ⟨w.heap.size, 0, none⟩)) (bagg c)).run Tryz.prog (w.alloc (.cells bzero 156)) = .ok () (w.alloc (.cells (bcells c) 156)) :=
  run_storeAt_new (P := Tryz.prog) w 156 bzero (bcells c) binfo rfl (by kernel_rfl)

theorem bload (c : Cfg) (w : World) : (loadVar 156 ⟨w.heap.size, 0, none⟩).run Tryz.prog (w.alloc (.cells (bcells c) 156)) = .ok (bagg c) (w.alloc (.cells (bcells c) 156)) :=
  run_loadVar_new (P := Tryz.prog) w 156 (bcells c) 14 155 Tryz.underlying156 binfo

theorem results_cell1 {P : Program} {fn : Func} {p : Tmp} {ty : TypeId} (h : fn.results = #[.cell p ty]) {tmps : Array Value} {w : World} {v : Value} {A : Addr} (ha : tmps.getD p undef = .pointer (some A)) (hl : (loadVar ty A).run P w = .ok v w) :
    (results fn tmps).run P w = .ok v w := by
  have ha' : tmps[p]?.getD undef = .pointer (some A) := by simpa using ha
  simp [results, h, ha', asAddr, hl]

theorem wpList_build_as {P : Program} {ops : Array Oper} {rest : List Oper} {o : Oper} {a : Act} {w : World} {Q : Exit → Act → World → Prop} (hg : o.guard = none) (t : TypeId) (parts : Array (Nat × Operand)) (ho : o.op = .build t parts) (cells : Array Value) (v : Value) (hv : v = .agg cells)
    (hc : P.built t (parts.map fun (i, x) => (i, a.eval x)).toList = some cells)
    (h : wpList P ops Q rest (a.put o.dst v) w) : wpList P ops Q (o :: rest) a w :=
  wpList_build hg t parts ho (by rw [hc]; rfl) (by rw [hc]; subst hv; exact h)

set_option maxHeartbeats 4000000 in
set_option maxRecDepth 20000 in
theorem bounds14_any (c : Cfg) (w : World) :
    Calls Tryz.prog 90 #[cv c] w fun e w' => e = .returned (bagg c) ∧ Below w.heap.size w w' := by
  have k : ∀ j v, (ccells c)[j]? = some v → ((w.alloc (.cells (ccells c) 23)).alloc (.cells bzero 156)).cell? ⟨w.heap.size, j, none⟩ = some v := fun j v hv => by
    rw [cell_of_row _ _ j (ccells c) 23 (0, 0) ((Below.heap_alloc _ _ _ (by simp)).trans (heap_alloc_new w _))]
    exact hv
  have k0 := k 0 (.int .i64 c.eden) rfl
  have k1 := k 1 (.int .i64 c.surv) rfl
  have k2 := k 2 (.int .i64 c.ten) rfl
  have k3 := k 3 (.int .i64 c.large) rfl
  have k4 := k 4 (.int .i64 c.floor) rfl
  have k5 := k 5 (.int .i64 c.num) rfl
  have k6 := k 6 (.int .i64 c.den) rfl
  have k7 := k 7 (.int .i64 c.target) rfl
  have k8 := k 8 (.int .i64 c.maxAge) rfl
  have k9 := k 9 (.int .i64 c.threads) rfl
  have k10 := k 10 (.int .i64 c.slots) rfl
  have k11 := k 11 (.int .i64 c.handles) rfl
  have k12 := k 12 (.int .i64 c.buffer) rfl
  have k13 := k 13 (.int .i64 c.workers) rfl
  clear k
  go_enter Tryz.func90, Tryz.ntmps90
  go_upto_region 1 with fail
  have hB : Below w.heap.size w ((w.alloc (.cells (ccells c) 23)).alloc (.cells (bcells c) 156)) := by go_grown
  rw [show w.heap.size + 1 = (w.alloc (.cells (ccells c) 23)).heap.size by simp]
  generalize (w.alloc (.cells (ccells c) 23)) = W0 at *
  have h3 := bload c W0
  have hg := heap_alloc_last W0 (.cells bzero 156)
  go_wp2_with (first
    | (refine wpList_build_as rfl 156 _ rfl (bcells c) (bagg c) rfl (by kernel_rfl) ?_)
    | (refine wpList_store_row rfl 156 _ _ rfl W0.heap.size (bcells c) rfl rfl 156 bzero hg binfo rfl (by kernel_rfl) ?_; rw [World.setRow_alloc_new]; generalize (W0.alloc (.cells (bcells c) 156)) = W2 at *))
  clear k0 k1 k2 k3 k4 k5 k6 k7 k8 k9 k10 k11 k12 k13 hg
  go_wp2
  refine bodyPost_ret (results_cell1 Tryz.results90 rfl h3) rfl ?_
  exact ⟨rfl, hB⟩

theorem ok_of (c : Cfg) (h : ∀ j, j < 14 → blo c j ≤ bis c j ∧ bis c j ≤ bhi c j) : c.Ok := by
  have h0 := h 0 (by decide)
  have h1 := h 1 (by decide)
  have h2 := h 2 (by decide)
  have h3 := h 3 (by decide)
  have h4 := h 4 (by decide)
  have h5 := h 5 (by decide)
  have h6 := h 6 (by decide)
  have h7 := h 7 (by decide)
  have h8 := h 8 (by decide)
  have h9 := h 9 (by decide)
  have h10 := h 10 (by decide)
  have h11 := h 11 (by decide)
  have h12 := h 12 (by decide)
  have h13 := h 13 (by decide)
  simp only [bis, blo, bhi] at h0 h1 h2 h3 h4 h5 h6 h7 h8 h9 h10 h11 h12 h13
  constructor <;> omega

theorem of_ok (c : Cfg) (h : c.Ok) (j : Nat) (hj : j < 14) : blo c j ≤ bis c j ∧ bis c j ≤ bhi c j := by
  obtain ⟨e0, e1, s0, s1, t0, t1, l0, l1, f0, f1, d0, n0, n1, g0, g1, a0, a1, h0, h1, o0, o1, k0, k1, b0, b1, w0, w1⟩ := h
  match j, hj with
  | 0, _ | 1, _ | 2, _ | 3, _ | 4, _ | 5, _ | 6, _ | 7, _ | 8, _ | 9, _ | 10, _ | 11, _ | 12, _ | 13, _ => simp only [bis, blo, bhi]; omega
  | j + 14, h => omega

set_option maxHeartbeats 2000000 in
theorem valid_any (c : Cfg) (v : Bool) (hv : v = true ↔ c.Ok) (w : World) :
    Calls Tryz.prog 56 #[cv c] w fun e w' => e = .returned (.bool v) ∧ Below w.heap.size w w' := by
  have hb := bounds14_any c (w.alloc (.cells (ccells c) 23))
  have b0 : Below w.heap.size w (w.alloc (.cells (ccells c) 23)) := Below.alloc (Below.refl _ _) (Nat.le_refl _) _
  have Hv : Hid (v = true ↔ c.Ok) := hv
  clear hv
  go_enter Tryz.func56, Tryz.ntmps56
  go_wp2_with fail
  refine hb.mono ?_
  rintro e w1 ⟨rfl, b1⟩
  have b2 := b0.trans (b1.mono b0.size)
  clear hb b0 b1
  go_wp2
  go_loopw [7] (fun n wr => ∃ j : Nat, j ≤ 14 ∧ n = .int .i64 j ∧ Below w.heap.size w wr ∧ ∀ k, k < j → blo c k ≤ bis c k ∧ bis c k ≤ bhi c k) (fun n _ => 14 - (intOf n).toNat)
  case atStart => exact ⟨0, by omega, rfl, b2, fun k hk => by omega⟩
  case round =>
    obtain ⟨j, hj, rfl, bl, hq⟩ := hrel
    have Hq : Hid (∀ k, k < j → blo c k ≤ bis c k ∧ bis c k ≤ bhi c k) := hq
    clear hq
    by_cases hlt : j < 14
    · have hx := bidx c j hlt
      generalize hp : bis c j = p, hl : blo c j = q, hh : bhi c j = r at hx
      have Hp : Hid (bis c j = p) := hp
      have Hl : Hid (blo c j = q) := hl
      have Hr : Hid (bhi c j = r) := hh
      clear hp hl hh
      have hji : (j : Int) < 14 := by omega
      by_cases c1 : p < q
      · have h0 : Hid (v = false) := by
          show v = false
          refine Bool.eq_false_iff.2 fun e => ?_
          have := of_ok c (Hv.out.1 e) j hlt
          rw [Hp.out, Hl.out] at this
          omega
        go_wp2
        go_ret
        refine ⟨by rw [h0.out]; rfl, ?_⟩
        go_grown
        exact bl.size
      · by_cases c2 : r < p
        · have h0 : Hid (v = false) := by
            show v = false
            refine Bool.eq_false_iff.2 fun e => ?_
            have := of_ok c (Hv.out.1 e) j hlt
            rw [Hp.out, Hr.out] at this
            omega
          go_wp2
          go_ret
          refine ⟨by rw [h0.out]; rfl, ?_⟩
          go_grown
          exact bl.size
        · go_wp2
          go_roundw
          case rel =>
            refine ⟨j + 1, hlt, by go_num, Below.alloc bl bl.size _, fun k hk => ?_⟩
            by_cases e : k = j
            · subst e; rw [Hp.out, Hl.out, Hr.out]; omega
            · exact Hq.out k (by omega)
          case measure => simp [intOf]; omega
    · obtain rfl : j = 14 := by omega
      have h0 : Hid (v = true) := Hv.out.2 (ok_of c Hq.out)
      go_wp2
      go_ret
      exact ⟨by rw [h0.out]; rfl, bl⟩

end Go.Proofs.YtbgnagjhkfkekaaGreatDoor

/-
  extents, New.
-/
set_option linter.unusedVariables false
namespace Go.Proofs.YtbgnagjhkfkekaaGreatDoor
open Go.RowKit

abbrev iv4 (a b d e : Int) : Value := .agg #[.int .i64 a, .int .i64 b, .int .i64 d, .int .i64 e]

theorem jdx0 (a b d e : Int) (w : World) : (Instr.index 158 (iv4 a b d e) (.int .i64 0)).run Tryz.prog w = .ok (.int .i64 a) w := by kernel_rfl
theorem jdx1 (a b d e : Int) (w : World) : (Instr.index 158 (iv4 a b d e) (.int .i64 1)).run Tryz.prog w = .ok (.int .i64 b) w := by kernel_rfl
theorem jdx2 (a b d e : Int) (w : World) : (Instr.index 158 (iv4 a b d e) (.int .i64 2)).run Tryz.prog w = .ok (.int .i64 d) w := by kernel_rfl
theorem jdx3 (a b d e : Int) (w : World) : (Instr.index 158 (iv4 a b d e) (.int .i64 3)).run Tryz.prog w = .ok (.int .i64 e) w := by kernel_rfl

set_option maxHeartbeats 4000000 in
theorem extents_any (c : Cfg) (h : c.Ok) (w : World) :
    Calls Tryz.prog 57 #[cv c] w fun e w' => e = .returned (.tuple #[ev12 1 (1 + c.eden) 1 (1 + c.eden) (1 + c.eden + c.surv) (1 + c.eden) (1 + c.eden + c.surv) (1 + c.eden + c.surv + c.surv) (1 + c.eden + c.surv) (1 + c.eden + c.surv + c.surv) (1 + c.eden + c.surv + c.surv + c.ten) (1 + c.eden + c.surv + c.surv), .int .i64 (1 + c.eden + c.surv + c.surv + c.ten)]) ∧ Below w.heap.size w w' := by
  have q0 := h.e0
  have q1 := h.e1
  have q2 := h.s0
  have q3 := h.s1
  have q4 := h.t0
  have q5 := h.t1
  clear h
  have e0 := jdx0 c.eden c.surv c.surv c.ten
  have e1 := jdx1 c.eden c.surv c.surv c.ten
  have e2 := jdx2 c.eden c.surv c.surv c.ten
  have e3 := jdx3 c.eden c.surv c.surv c.ten
  go_enter Tryz.func57, Tryz.ntmps57
  go_wp2
  go_rounds 5
  go_returns
  refine ⟨rfl, ?_⟩
  go_grown

/-- The tops of a new arena. -/
def tops0 (c : Cfg) : Tps := ⟨1, 1 + c.eden, 1 + c.eden + c.surv, 1 + c.eden + c.surv + c.surv⟩

set_option maxHeartbeats 1000000 in
theorem new_no (c : Cfg) (h : ¬ c.Ok) (w : World) :
    Calls Tryz.prog 23 #[cv c] w fun e w' => e = .returned (.tuple #[.pointer none, .int .i64 30]) ∧ Below w.heap.size w w' := by
  have hv := valid_any c false (by simp [h]) (w.alloc (.cells (ccells c) 23))
  have b0 : Below w.heap.size w (w.alloc (.cells (ccells c) 23)) := Below.alloc (Below.refl _ _) (Nat.le_refl _) _
  clear h
  go_enter Tryz.func23, Tryz.ntmps23
  go_wp2_with fail
  refine hv.mono ?_
  rintro e w1 ⟨rfl, b1⟩
  have b2 := b0.trans (b1.mono b0.size)
  clear b0 b1 hv
  go_wp2
  go_ret2
  exact ⟨rfl, b2⟩

end Go.Proofs.YtbgnagjhkfkekaaGreatDoor

/-
  New.
-/
set_option linter.unusedVariables false
namespace Go.Proofs.YtbgnagjhkfkekaaGreatDoor
open Go.RowKit

theorem Tryz.infoU64 : (Tryz.prog.info? 58).map (fun i => (i.zero, i.size, i.bytes)) = some (some (.int .u64 0), 1, 8) := by kernel_rfl

/-- A configuration in a block. -/
structure Cfd (w : World) (b : Nat) (c : Cfg) : Prop where
  at_ : w.heap[b]? = some (.cells (ccells c) 23 (0, 0))

theorem Cfd.new (w : World) (c : Cfg) : Cfd (w.alloc (.cells (ccells c) 23)) w.heap.size c := ⟨heap_alloc_new w _⟩
theorem Cfd.lt {w : World} {b : Nat} {c : Cfg} (h : Cfd w b c) : b < w.heap.size := (Array.getElem?_eq_some_iff.1 h.at_).1
theorem Cfd.below {w w' : World} {b : Nat} {c : Cfg} (h : Cfd w b c) (l : Below w.heap.size w w') : Cfd w' b c := ⟨(l.block b h.lt).trans h.at_⟩
theorem Cfd.cell {w : World} {b : Nat} {c : Cfg} (h : Cfd w b c) (j : Nat) : w.cell? ⟨b, j, none⟩ = (ccells c)[j]? := cell_of_row _ _ j _ _ _ h.at_

abbrev ncells (c : Cfg) (g : Nat) : Array Value := #[.int .i64 c.eden, .int .i64 c.surv, .int .i64 c.ten, .int .i64 c.large, .int .i64 c.floor, .int .i64 c.num, .int .i64 c.den, .int .i64 c.target, .int .i64 c.maxAge, .int .i64 c.threads, .int .i64 c.slots, .int .i64 c.handles, .int .i64 c.buffer, .int .i64 c.workers, .slice (some ⟨g, 0, none⟩) c.words.toNat c.words.toNat, .int .i64 1, .int .i64 (1 + c.eden), .int .i64 1, .int .i64 (1 + c.eden), .int .i64 (1 + c.eden + c.surv), .int .i64 (1 + c.eden), .int .i64 (1 + c.eden + c.surv), .int .i64 (1 + c.eden + c.surv + c.surv), .int .i64 (1 + c.eden + c.surv), .int .i64 (1 + c.eden + c.surv + c.surv), .int .i64 (1 + c.eden + c.surv + c.surv + c.ten), .int .i64 (1 + c.eden + c.surv + c.surv), .bool false]

theorem new_ar (w : World) (c : Cfg) (h : c.Ok) : Ar ((w.alloc (.cells (madeCells #[.int .u64 0] c.words.toNat) 58)).alloc (.cells (ncells c w.heap.size) 111)).drew (w.heap.size + 1) w.heap.size c (tops0 c) false (fun _ => 0) := by
  have h1 := World.rowIs_alloc (w.alloc (.cells (madeCells #[.int .u64 0] c.words.toNat) 58)) (ncells c w.heap.size) 111 (af c w.heap.size c.words.toNat (tops0 c) false) (by
    intro i hi
    match i, hi with
    | 0, _ | 1, _ | 2, _ | 3, _ | 4, _ | 5, _ | 6, _ | 7, _ | 8, _ | 9, _ | 10, _ | 11, _ | 12, _ | 13, _ | 14, _ | 15, _ | 16, _ | 17, _ | 18, _ | 19, _ | 20, _ | 21, _ | 22, _ | 23, _ | 24, _ | 25, _ | 26, _ | 27, _ => rfl
    | j + 28, h => exact absurd (show j + 28 < 28 from h) (by omega))
  rw [World.size_alloc] at h1
  have h2 := (World.rowIs_made w (.int .u64 0) c.words.toNat 58).alloc (.cells (ncells c w.heap.size) 111)
  have e0 := h.e0; have s0 := h.s0; have t0 := h.t0
  exact ⟨h1.drew, h2.drew, h, fun _ => ⟨by decide, by decide⟩, Int.le_refl _, by simp only [tops0]; omega, Int.le_refl _, by simp only [tops0]; omega, Int.le_refl _, by simp only [tops0]; omega, Int.le_refl _, by simp only [tops0]; omega⟩

set_option maxHeartbeats 4000000 in
theorem new_yes (c : Cfg) (h : c.Ok) (w : World) :
    Calls Tryz.prog 23 #[cv c] w fun e w' => ∃ b g, e = .returned (.tuple #[.pointer (some ⟨b, 0, none⟩), .int .i64 0]) ∧ Ar w' b g c (tops0 c) false (fun _ => 0) ∧ Below w.heap.size w w' ∧ w.heap.size ≤ b ∧ w.heap.size ≤ g := by
  have hv := valid_any c true (by simp [h]) (w.alloc (.cells (ccells c) 23))
  have b0 : Below w.heap.size w (w.alloc (.cells (ccells c) 23)) := Below.alloc (Below.refl _ _) (Nat.le_refl _) _
  have f0 := Cfd.new w c
  have Hh : Hid c.Ok := h
  clear h
  go_enter Tryz.func23, Tryz.ntmps23
  go_wp2_with fail
  refine hv.mono ?_
  rintro e w1 ⟨rfl, b1⟩
  have b2 := b0.trans (b1.mono b0.size)
  have f1 := f0.below b1
  clear b0 b1 hv f0
  have k0 : w1.cell? ⟨w.heap.size, 0, none⟩ = some (.int .i64 c.eden) := f1.cell 0
  have k1 : w1.cell? ⟨w.heap.size, 1, none⟩ = some (.int .i64 c.surv) := f1.cell 1
  have k2 : w1.cell? ⟨w.heap.size, 2, none⟩ = some (.int .i64 c.ten) := f1.cell 2
  have k3 : w1.cell? ⟨w.heap.size, 3, none⟩ = some (.int .i64 c.large) := f1.cell 3
  have k4 : w1.cell? ⟨w.heap.size, 4, none⟩ = some (.int .i64 c.floor) := f1.cell 4
  have k5 : w1.cell? ⟨w.heap.size, 5, none⟩ = some (.int .i64 c.num) := f1.cell 5
  have k6 : w1.cell? ⟨w.heap.size, 6, none⟩ = some (.int .i64 c.den) := f1.cell 6
  have k7 : w1.cell? ⟨w.heap.size, 7, none⟩ = some (.int .i64 c.target) := f1.cell 7
  have k8 : w1.cell? ⟨w.heap.size, 8, none⟩ = some (.int .i64 c.maxAge) := f1.cell 8
  have k9 : w1.cell? ⟨w.heap.size, 9, none⟩ = some (.int .i64 c.threads) := f1.cell 9
  have k10 : w1.cell? ⟨w.heap.size, 10, none⟩ = some (.int .i64 c.slots) := f1.cell 10
  have k11 : w1.cell? ⟨w.heap.size, 11, none⟩ = some (.int .i64 c.handles) := f1.cell 11
  have k12 : w1.cell? ⟨w.heap.size, 12, none⟩ = some (.int .i64 c.buffer) := f1.cell 12
  have k13 : w1.cell? ⟨w.heap.size, 13, none⟩ = some (.int .i64 c.workers) := f1.cell 13
  go_wp2_with fail
  clear k0 k1 k2 k3 k4 k5 k6 k7 k8 k9 k10 k11 k12 k13
  refine (extents_any c Hh.out w1).mono ?_
  rintro e w2 ⟨rfl, b3⟩
  have f2 := f1.below b3
  have b4 := b2.trans (b3.mono b2.size)
  clear b2 b3 f1
  go_upto_region 4 with fail
  have b5 := Below.alloc b4 b4.size (.cells #[.int .i64 1, .int .i64 (1 + c.eden), .int .i64 1, .int .i64 (1 + c.eden), .int .i64 (1 + c.eden + c.surv), .int .i64 (1 + c.eden), .int .i64 (1 + c.eden + c.surv), .int .i64 (1 + c.eden + c.surv + c.surv), .int .i64 (1 + c.eden + c.surv), .int .i64 (1 + c.eden + c.surv + c.surv), .int .i64 (1 + c.eden + c.surv + c.surv + c.ten), .int .i64 (1 + c.eden + c.surv + c.surv)] 107)
  have f3 := f2.below (Below.alloc (Below.refl _ _) (Nat.le_refl _) (.cells #[.int .i64 1, .int .i64 (1 + c.eden), .int .i64 1, .int .i64 (1 + c.eden), .int .i64 (1 + c.eden + c.surv), .int .i64 (1 + c.eden), .int .i64 (1 + c.eden + c.surv), .int .i64 (1 + c.eden + c.surv + c.surv), .int .i64 (1 + c.eden + c.surv), .int .i64 (1 + c.eden + c.surv + c.surv), .int .i64 (1 + c.eden + c.surv + c.surv + c.ten), .int .i64 (1 + c.eden + c.surv + c.surv)] 107))
  have r3 := heap_alloc_new w2 (.cells #[.int .i64 1, .int .i64 (1 + c.eden), .int .i64 1, .int .i64 (1 + c.eden), .int .i64 (1 + c.eden + c.surv), .int .i64 (1 + c.eden), .int .i64 (1 + c.eden + c.surv), .int .i64 (1 + c.eden + c.surv + c.surv), .int .i64 (1 + c.eden + c.surv), .int .i64 (1 + c.eden + c.surv + c.surv), .int .i64 (1 + c.eden + c.surv + c.surv + c.ten), .int .i64 (1 + c.eden + c.surv + c.surv)] 107)
  have hlt := b4.size
  generalize w2.alloc (.cells #[.int .i64 1, .int .i64 (1 + c.eden), .int .i64 1, .int .i64 (1 + c.eden), .int .i64 (1 + c.eden + c.surv), .int .i64 (1 + c.eden), .int .i64 (1 + c.eden + c.surv), .int .i64 (1 + c.eden + c.surv + c.surv), .int .i64 (1 + c.eden + c.surv), .int .i64 (1 + c.eden + c.surv + c.surv), .int .i64 (1 + c.eden + c.surv + c.surv + c.ten), .int .i64 (1 + c.eden + c.surv + c.surv)] 107) = w3 at *
  generalize w2.heap.size = B2 at *
  have r3' : ∀ j, w3.cell? ⟨B2, j, none⟩ = (#[.int .i64 1, .int .i64 (1 + c.eden), .int .i64 1, .int .i64 (1 + c.eden), .int .i64 (1 + c.eden + c.surv), .int .i64 (1 + c.eden), .int .i64 (1 + c.eden + c.surv), .int .i64 (1 + c.eden + c.surv + c.surv), .int .i64 (1 + c.eden + c.surv), .int .i64 (1 + c.eden + c.surv + c.surv), .int .i64 (1 + c.eden + c.surv + c.surv + c.ten), .int .i64 (1 + c.eden + c.surv + c.surv)] : Array Value)[j]? := fun j => cell_of_row _ _ j _ _ _ r3
  have hB2 := (Array.getElem?_eq_some_iff.1 r3).1
  have hB0 := f3.lt
  have k0 : w3.cell? ⟨w.heap.size, 0, none⟩ = some (.int .i64 c.eden) := f3.cell 0
  have k1 : w3.cell? ⟨w.heap.size, 1, none⟩ = some (.int .i64 c.surv) := f3.cell 1
  have k2 : w3.cell? ⟨w.heap.size, 2, none⟩ = some (.int .i64 c.ten) := f3.cell 2
  have k3 : w3.cell? ⟨w.heap.size, 3, none⟩ = some (.int .i64 c.large) := f3.cell 3
  have k4 : w3.cell? ⟨w.heap.size, 4, none⟩ = some (.int .i64 c.floor) := f3.cell 4
  have k5 : w3.cell? ⟨w.heap.size, 5, none⟩ = some (.int .i64 c.num) := f3.cell 5
  have k6 : w3.cell? ⟨w.heap.size, 6, none⟩ = some (.int .i64 c.den) := f3.cell 6
  have k7 : w3.cell? ⟨w.heap.size, 7, none⟩ = some (.int .i64 c.target) := f3.cell 7
  have k8 : w3.cell? ⟨w.heap.size, 8, none⟩ = some (.int .i64 c.maxAge) := f3.cell 8
  have k9 : w3.cell? ⟨w.heap.size, 9, none⟩ = some (.int .i64 c.threads) := f3.cell 9
  have k10 : w3.cell? ⟨w.heap.size, 10, none⟩ = some (.int .i64 c.slots) := f3.cell 10
  have k11 : w3.cell? ⟨w.heap.size, 11, none⟩ = some (.int .i64 c.handles) := f3.cell 11
  have k12 : w3.cell? ⟨w.heap.size, 12, none⟩ = some (.int .i64 c.buffer) := f3.cell 12
  have k13 : w3.cell? ⟨w.heap.size, 13, none⟩ = some (.int .i64 c.workers) := f3.cell 13
  have x0 : w3.cell? ⟨B2, 0, none⟩ = some (.int .i64 1) := r3' 0
  have x1 : w3.cell? ⟨B2, 1, none⟩ = some (.int .i64 (1 + c.eden)) := r3' 1
  have x2 : w3.cell? ⟨B2, 2, none⟩ = some (.int .i64 1) := r3' 2
  have x3 : w3.cell? ⟨B2, 3, none⟩ = some (.int .i64 (1 + c.eden)) := r3' 3
  have x4 : w3.cell? ⟨B2, 4, none⟩ = some (.int .i64 (1 + c.eden + c.surv)) := r3' 4
  have x5 : w3.cell? ⟨B2, 5, none⟩ = some (.int .i64 (1 + c.eden)) := r3' 5
  have x6 : w3.cell? ⟨B2, 6, none⟩ = some (.int .i64 (1 + c.eden + c.surv)) := r3' 6
  have x7 : w3.cell? ⟨B2, 7, none⟩ = some (.int .i64 (1 + c.eden + c.surv + c.surv)) := r3' 7
  have x8 : w3.cell? ⟨B2, 8, none⟩ = some (.int .i64 (1 + c.eden + c.surv)) := r3' 8
  have x9 : w3.cell? ⟨B2, 9, none⟩ = some (.int .i64 (1 + c.eden + c.surv + c.surv)) := r3' 9
  have x10 : w3.cell? ⟨B2, 10, none⟩ = some (.int .i64 (1 + c.eden + c.surv + c.surv + c.ten)) := r3' 10
  have x11 : w3.cell? ⟨B2, 11, none⟩ = some (.int .i64 (1 + c.eden + c.surv + c.surv)) := r3' 11
  obtain ⟨i0, hi0, hz0, hz1, hz2⟩ := info_parts Tryz.infoU64
  have hw0 : 0 ≤ c.words ∧ c.words ≤ 262145 := by
    obtain ⟨e0, e1, s0, s1, t0, t1, -⟩ := Hh.out
    unfold Cfg.words; omega
  have hmk : ∀ w, (Instr.makeSlice 61 (.int .i64 (1 + c.eden + c.surv + c.surv + c.ten)) (.int .i64 (1 + c.eden + c.surv + c.surv + c.ten))).run Tryz.prog w = .ok (.slice (some ⟨w.heap.size, 0, none⟩) c.words.toNat c.words.toNat) (w.alloc (.cells (madeCells #[.int .u64 0] c.words.toNat) 58)) := fun w => by
    have := run_make (P := Tryz.prog) w 61 58 i0 (.int .u64 0) Tryz.underlying61 hi0 hz0 .i64 .i64 c.words c.words hw0.1 (Int.le_refl _) (by rw [hz2]; omega) (by omega)
    rw [hz1, Nat.mul_one] at this
    exact this
  clear hi0 hz0 hz1 hz2 r3 r3' f2 f3 hw0
  go_region
  clear k0 k1 k2 k3 k4 k5 k6 k7 k8 k9 k10 k11 k12 k13 x0 x1 x2 x3 x4 x5 x6 x7 x8 x9 x10 x11 hmk
  go_wp2
  go_ret2
  exact ⟨w3.heap.size + 1, w3.heap.size, rfl, new_ar w3 c Hh.out, by go_grown, by omega, by omega⟩

end Go.Proofs.YtbgnagjhkfkekaaGreatDoor

