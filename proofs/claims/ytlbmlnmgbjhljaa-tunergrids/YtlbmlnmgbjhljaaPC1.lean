/-
  Which configurations may be.
-/
import Derived.Test.YtlbmlnmgbjhljaaRows
import Derived.WalkKit
import Derived.WalkSpells
import Derived.WalkLawsBesides
import Derived.Deep.QuietTactic
import Derived.BigQuiet
import Derived.Deep.DeepFit
import Derived.Deep.OwnRows
import Derived.Deep.WholeRow
import Derived.Deep.CutRange
import Derived.Lib.LazyBuf
import Derived.Lib.SliceRun
import Derived.Handy
set_option linter.unusedVariables false
set_option maxRecDepth 20000
namespace Go.Proofs.Ytlbmlnmgbjhljaa
open Go.RowKit

/-- A configuration. -/
structure Cfg where
  eden : Int
  surv : Int
  ten : Int
  large : Int
  floor : Int
  num : Int
  den : Int
  target : Int
  maxAge : Int
  threads : Int
  slots : Int
  handles : Int
  buffer : Int
  workers : Int

/-- P3.1. -/
structure Cfg.Ok (c : Cfg) : Prop where
  e0 : 64 ≤ c.eden
  e1 : c.eden ≤ 65536
  s0 : 64 ≤ c.surv
  s1 : c.surv ≤ 65536
  t0 : 64 ≤ c.ten
  t1 : c.ten ≤ 65536
  l0 : 2 ≤ c.large
  l1 : c.large ≤ 65536
  f0 : 0 ≤ c.floor
  f1 : c.floor ≤ 65536
  d0 : 1 ≤ c.den
  n0 : c.den ≤ c.num
  n1 : c.num ≤ 65536
  g0 : 1 ≤ c.target
  g1 : c.target ≤ 100
  a0 : 1 ≤ c.maxAge
  a1 : c.maxAge ≤ 15
  h0 : 1 ≤ c.threads
  h1 : c.threads ≤ 8
  o0 : 1 ≤ c.slots
  o1 : c.slots ≤ 4096
  k0 : 0 ≤ c.handles
  k1 : c.handles ≤ 1024
  b0 : 0 ≤ c.buffer
  b1 : c.buffer ≤ c.eden
  w0 : 1 ≤ c.workers
  w1 : c.workers ≤ 8

abbrev ev (a b t : Int) : Value := .agg #[.int .i64 a, .int .i64 b, .int .i64 t]

/-- A configuration as a value. -/
abbrev ccells (c : Cfg) : Array Value := #[.int .i64 c.eden, .int .i64 c.surv, .int .i64 c.ten, .int .i64 c.large, .int .i64 c.floor, .int .i64 c.num, .int .i64 c.den, .int .i64 c.target, .int .i64 c.maxAge, .int .i64 c.threads, .int .i64 c.slots, .int .i64 c.handles, .int .i64 c.buffer, .int .i64 c.workers]
abbrev cv (c : Cfg) : Value := .agg (ccells c)

/-- The bounds, number by number. -/
def bis (c : Cfg) : Nat → Int
  | 0 => c.eden
  | 1 => c.surv
  | 2 => c.ten
  | 3 => c.large
  | 4 => c.floor
  | 5 => c.num
  | 6 => c.den
  | 7 => c.target
  | 8 => c.maxAge
  | 9 => c.threads
  | 10 => c.slots
  | 11 => c.handles
  | 12 => c.buffer
  | _ => c.workers
def blo (c : Cfg) : Nat → Int
  | 0 => 64
  | 1 => 64
  | 2 => 64
  | 3 => 2
  | 4 => 0
  | 5 => c.den
  | 6 => 1
  | 7 => 1
  | 8 => 1
  | 9 => 1
  | 10 => 1
  | 11 => 0
  | 12 => 0
  | _ => 1
def bhi (c : Cfg) : Nat → Int
  | 0 => 65536
  | 1 => 65536
  | 2 => 65536
  | 3 => 65536
  | 4 => 65536
  | 5 => 65536
  | 6 => c.num
  | 7 => 100
  | 8 => 15
  | 9 => 8
  | 10 => 4096
  | 11 => 1024
  | 12 => c.eden
  | _ => 8

abbrev bcells (c : Cfg) : Array Value := #[.int .i64 c.eden, .int .i64 (64), .int .i64 (65536), .int .i64 c.surv, .int .i64 (64), .int .i64 (65536), .int .i64 c.ten, .int .i64 (64), .int .i64 (65536), .int .i64 c.large, .int .i64 (2), .int .i64 (65536), .int .i64 c.floor, .int .i64 (0), .int .i64 (65536), .int .i64 c.num, .int .i64 (c.den), .int .i64 (65536), .int .i64 c.den, .int .i64 (1), .int .i64 (c.num), .int .i64 c.target, .int .i64 (1), .int .i64 (100), .int .i64 c.maxAge, .int .i64 (1), .int .i64 (15), .int .i64 c.threads, .int .i64 (1), .int .i64 (8), .int .i64 c.slots, .int .i64 (1), .int .i64 (4096), .int .i64 c.handles, .int .i64 (0), .int .i64 (1024), .int .i64 c.buffer, .int .i64 (0), .int .i64 (c.eden), .int .i64 c.workers, .int .i64 (1), .int .i64 (8)]

def bagg (c : Cfg) : Value := .agg (bcells c)

theorem bidx (c : Cfg) (j : Nat) (hj : j < 14) (w : World) : (Instr.index 48 (bagg c) (.int .i64 j)).run Try.prog w = .ok (ev (bis c j) (blo c j) (bhi c j)) w := by
  obtain rfl | rfl | rfl | rfl | rfl | rfl | rfl | rfl | rfl | rfl | rfl | rfl | rfl | rfl : j = 0 ∨ j = 1 ∨ j = 2 ∨ j = 3 ∨ j = 4 ∨ j = 5 ∨ j = 6 ∨ j = 7 ∨ j = 8 ∨ j = 9 ∨ j = 10 ∨ j = 11 ∨ j = 12 ∨ j = 13 := by omega
  all_goals kernel_rfl

abbrev bzero : Array Value := #[.int .i64 0, .int .i64 0, .int .i64 0, .int .i64 0, .int .i64 0, .int .i64 0, .int .i64 0, .int .i64 0, .int .i64 0, .int .i64 0, .int .i64 0, .int .i64 0, .int .i64 0, .int .i64 0, .int .i64 0, .int .i64 0, .int .i64 0, .int .i64 0, .int .i64 0, .int .i64 0, .int .i64 0, .int .i64 0, .int .i64 0, .int .i64 0, .int .i64 0, .int .i64 0, .int .i64 0, .int .i64 0, .int .i64 0, .int .i64 0, .int .i64 0, .int .i64 0, .int .i64 0, .int .i64 0, .int .i64 0, .int .i64 0, .int .i64 0, .int .i64 0, .int .i64 0, .int .i64 0, .int .i64 0, .int .i64 0]

theorem bbuild (c : Cfg) (w : World) : (Instr.build 48 #[(0, ev c.eden 64 65536), (1, ev c.surv 64 65536), (2, ev c.ten 64 65536), (3, ev c.large 2 65536), (4, ev c.floor 0 65536), (5, ev c.num (c.den) 65536), (6, ev c.den 1 (c.num)), (7, ev c.target 1 100), (8, ev c.maxAge 1 15), (9, ev c.threads 1 8), (10, ev c.slots 1 4096), (11, ev c.handles 0 1024), (12, ev c.buffer 0 (c.eden)), (13, ev c.workers 1 8)]).run Try.prog w = .ok (bagg c) w := run_build w _ _ _ (by kernel_rfl)

theorem binfo : (Try.prog.info? 48).map (·.size) = some 42 := by kernel_rfl

theorem bstore (c : Cfg) (w : World) : (Instr.storeAt 48 (.pointer (some ⟨w.heap.size, 0, none⟩)) (bagg c)).run Try.prog (w.alloc (.cells bzero 48)) = .ok () (w.alloc (.cells (bcells c) 48)) :=
  run_storeAt_new (P := Try.prog) w 48 bzero (bcells c) binfo rfl (by kernel_rfl)

theorem bload (c : Cfg) (w : World) : (loadVar 48 ⟨w.heap.size, 0, none⟩).run Try.prog (w.alloc (.cells (bcells c) 48)) = .ok (bagg c) (w.alloc (.cells (bcells c) 48)) :=
  run_loadVar_new (P := Try.prog) w 48 (bcells c) 14 47 Try.underlying48 binfo

theorem results_cell1 {P : Program} {fn : Func} {p : Tmp} {ty : TypeId} (h : fn.results = #[.cell p ty]) {tmps : Array Value} {w : World} {v : Value} {A : Addr} (ha : tmps.getD p undef = .pointer (some A)) (hl : (loadVar ty A).run P w = .ok v w) :
    (results fn tmps).run P w = .ok v w := by
  have ha' : tmps[p]?.getD undef = .pointer (some A) := by simpa using ha
  simp [results, h, ha', asAddr, hl]

theorem wpList_build_as {P : Program} {ops : Array Oper} {rest : List Oper} {o : Oper} {a : Act} {w : World} {Q : Exit → Act → World → Prop} (hg : o.guard = none) (t : TypeId) (parts : Array (Nat × Operand)) (ho : o.op = .build t parts) (cells : Array Value) (v : Value) (hv : v = .agg cells)
    (hc : P.built t (parts.map fun (i, x) => (i, a.eval x)).toList = some cells)
    (h : wpList P ops Q rest (a.put o.dst v) w) : wpList P ops Q (o :: rest) a w :=
  wpList_build hg t parts ho (by rw [hc]; rfl) (by rw [hc]; subst hv; exact h)

set_option maxHeartbeats 4000000 in
set_option maxRecDepth 20000 in
theorem bounds14_any (c : Cfg) (w : World) :
    Calls Try.prog 19 #[cv c] w fun e w' => e = .returned (bagg c) ∧ Below w.heap.size w w' := by
  have k : ∀ j v, (ccells c)[j]? = some v → ((w.alloc (.cells (ccells c) 28)).alloc (.cells bzero 48)).cell? ⟨w.heap.size, j, none⟩ = some v := fun j v hv => by
    rw [cell_of_row _ _ j (ccells c) 28 (0, 0) ((Below.heap_alloc _ _ _ (by simp)).trans (heap_alloc_new w _))]
    exact hv
  have k0 := k 0 (.int .i64 c.eden) rfl
  have k1 := k 1 (.int .i64 c.surv) rfl
  have k2 := k 2 (.int .i64 c.ten) rfl
  have k3 := k 3 (.int .i64 c.large) rfl
  have k4 := k 4 (.int .i64 c.floor) rfl
  have k5 := k 5 (.int .i64 c.num) rfl
  have k6 := k 6 (.int .i64 c.den) rfl
  have k7 := k 7 (.int .i64 c.target) rfl
  have k8 := k 8 (.int .i64 c.maxAge) rfl
  have k9 := k 9 (.int .i64 c.threads) rfl
  have k10 := k 10 (.int .i64 c.slots) rfl
  have k11 := k 11 (.int .i64 c.handles) rfl
  have k12 := k 12 (.int .i64 c.buffer) rfl
  have k13 := k 13 (.int .i64 c.workers) rfl
  clear k
  go_enter Try.func19, Try.ntmps19
  go_upto_region 1 with fail
  have hB : Below w.heap.size w ((w.alloc (.cells (ccells c) 28)).alloc (.cells (bcells c) 48)) := by go_grown
  rw [show w.heap.size + 1 = (w.alloc (.cells (ccells c) 28)).heap.size by simp]
  generalize (w.alloc (.cells (ccells c) 28)) = W0 at *
  have h3 := bload c W0
  have hg := heap_alloc_last W0 (.cells bzero 48)
  go_wp2_with (first
    | (refine wpList_build_as rfl 48 _ rfl (bcells c) (bagg c) rfl (by kernel_rfl) ?_)
    | (refine wpList_store_row rfl 48 _ _ rfl W0.heap.size (bcells c) rfl rfl 48 bzero hg binfo rfl (by kernel_rfl) ?_; rw [World.setRow_alloc_new]; generalize (W0.alloc (.cells (bcells c) 48)) = W2 at *))
  clear k0 k1 k2 k3 k4 k5 k6 k7 k8 k9 k10 k11 k12 k13 hg
  go_wp2
  refine bodyPost_ret (results_cell1 Try.results19 rfl h3) rfl ?_
  exact ⟨rfl, hB⟩

theorem ok_of (c : Cfg) (h : ∀ j, j < 14 → blo c j ≤ bis c j ∧ bis c j ≤ bhi c j) : c.Ok := by
  have h0 := h 0 (by decide)
  have h1 := h 1 (by decide)
  have h2 := h 2 (by decide)
  have h3 := h 3 (by decide)
  have h4 := h 4 (by decide)
  have h5 := h 5 (by decide)
  have h6 := h 6 (by decide)
  have h7 := h 7 (by decide)
  have h8 := h 8 (by decide)
  have h9 := h 9 (by decide)
  have h10 := h 10 (by decide)
  have h11 := h 11 (by decide)
  have h12 := h 12 (by decide)
  have h13 := h 13 (by decide)
  simp only [bis, blo, bhi] at h0 h1 h2 h3 h4 h5 h6 h7 h8 h9 h10 h11 h12 h13
  constructor <;> omega

theorem of_ok (c : Cfg) (h : c.Ok) (j : Nat) (hj : j < 14) : blo c j ≤ bis c j ∧ bis c j ≤ bhi c j := by
  obtain ⟨e0, e1, s0, s1, t0, t1, l0, l1, f0, f1, d0, n0, n1, g0, g1, a0, a1, h0, h1, o0, o1, k0, k1, b0, b1, w0, w1⟩ := h
  match j, hj with
  | 0, _ | 1, _ | 2, _ | 3, _ | 4, _ | 5, _ | 6, _ | 7, _ | 8, _ | 9, _ | 10, _ | 11, _ | 12, _ | 13, _ => simp only [bis, blo, bhi]; omega
  | j + 14, h => omega

set_option maxHeartbeats 2000000 in
theorem valid_any (c : Cfg) (v : Bool) (hv : v = true ↔ c.Ok) (w : World) :
    Calls Try.prog 13 #[cv c] w fun e w' => e = .returned (.bool v) ∧ Below w.heap.size w w' := by
  have hb := bounds14_any c (w.alloc (.cells (ccells c) 28))
  have b0 : Below w.heap.size w (w.alloc (.cells (ccells c) 28)) := Below.alloc (Below.refl _ _) (Nat.le_refl _) _
  have Hv : Hid (v = true ↔ c.Ok) := hv
  clear hv
  go_enter Try.func13, Try.ntmps13
  go_wp2_with fail
  refine hb.mono ?_
  rintro e w1 ⟨rfl, b1⟩
  have b2 := b0.trans (b1.mono b0.size)
  clear hb b0 b1
  go_wp2
  go_loopw [7] (fun n wr => ∃ j : Nat, j ≤ 14 ∧ n = .int .i64 j ∧ Below w.heap.size w wr ∧ ∀ k, k < j → blo c k ≤ bis c k ∧ bis c k ≤ bhi c k) (fun n _ => 14 - (intOf n).toNat)
  case atStart => exact ⟨0, by omega, rfl, b2, fun k hk => by omega⟩
  case round =>
    obtain ⟨j, hj, rfl, bl, hq⟩ := hrel
    have Hq : Hid (∀ k, k < j → blo c k ≤ bis c k ∧ bis c k ≤ bhi c k) := hq
    clear hq
    by_cases hlt : j < 14
    · have hx := bidx c j hlt
      generalize hp : bis c j = p, hl : blo c j = q, hh : bhi c j = r at hx
      have Hp : Hid (bis c j = p) := hp
      have Hl : Hid (blo c j = q) := hl
      have Hr : Hid (bhi c j = r) := hh
      clear hp hl hh
      have hji : (j : Int) < 14 := by omega
      by_cases c1 : p < q
      · have h0 : Hid (v = false) := by
          show v = false
          refine Bool.eq_false_iff.2 fun e => ?_
          have := of_ok c (Hv.out.1 e) j hlt
          rw [Hp.out, Hl.out] at this
          omega
        go_wp2
        go_ret
        refine ⟨by rw [h0.out]; rfl, ?_⟩
        go_grown
        exact bl.size
      · by_cases c2 : r < p
        · have h0 : Hid (v = false) := by
            show v = false
            refine Bool.eq_false_iff.2 fun e => ?_
            have := of_ok c (Hv.out.1 e) j hlt
            rw [Hp.out, Hr.out] at this
            omega
          go_wp2
          go_ret
          refine ⟨by rw [h0.out]; rfl, ?_⟩
          go_grown
          exact bl.size
        · go_wp2
          go_roundw
          case rel =>
            refine ⟨j + 1, hlt, by go_num, Below.alloc bl bl.size _, fun k hk => ?_⟩
            by_cases e : k = j
            · subst e; rw [Hp.out, Hl.out, Hr.out]; omega
            · exact Hq.out k (by omega)
          case measure => simp [intOf]; omega
    · obtain rfl : j = 14 := by omega
      have h0 : Hid (v = true) := Hv.out.2 (ok_of c Hq.out)
      go_wp2
      go_ret
      exact ⟨by rw [h0.out]; rfl, bl⟩

/-- A configuration in a block. -/
structure Cfd (w : World) (b : Nat) (c : Cfg) : Prop where
  at_ : w.heap[b]? = some (.cells (ccells c) 28 (0, 0))

theorem Cfd.new (w : World) (c : Cfg) : Cfd (w.alloc (.cells (ccells c) 28)) w.heap.size c := ⟨heap_alloc_new w _⟩
theorem Cfd.lt {w : World} {b : Nat} {c : Cfg} (h : Cfd w b c) : b < w.heap.size := (Array.getElem?_eq_some_iff.1 h.at_).1
theorem Cfd.below {w w' : World} {b : Nat} {c : Cfg} (h : Cfd w b c) (l : Below w.heap.size w w') : Cfd w' b c := ⟨(l.block b h.lt).trans h.at_⟩
theorem Cfd.cell {w : World} {b : Nat} {c : Cfg} (h : Cfd w b c) (j : Nat) : w.cell? ⟨b, j, none⟩ = (ccells c)[j]? := cell_of_row _ _ j _ _ _ h.at_

end Go.Proofs.Ytlbmlnmgbjhljaa
