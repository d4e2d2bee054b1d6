import Derived.Test.YtbgnagjhkfkekaaGreatDoorPCa
import Derived.Deep.OwnRows
import Derived.Lib.LazyBuf
import Derived.Handy
import Derived.Lib.SliceRun
/-
  An arena in memory: its own block and its words.
-/
set_option linter.unusedVariables false
namespace Go.Proofs.YtbgnagjhkfkekaaGreatDoor
open Go.RowKit

/-- A configuration. -/
structure Cfg where
  eden : Int
  surv : Int
  ten : Int
  large : Int
  floor : Int
  num : Int
  den : Int
  target : Int
  maxAge : Int
  threads : Int
  slots : Int
  handles : Int
  buffer : Int
  workers : Int

/-- P3.1. -/
structure Cfg.Ok (c : Cfg) : Prop where
  e0 : 64 ≤ c.eden
  e1 : c.eden ≤ 65536
  s0 : 64 ≤ c.surv
  s1 : c.surv ≤ 65536
  t0 : 64 ≤ c.ten
  t1 : c.ten ≤ 65536
  l0 : 2 ≤ c.large
  l1 : c.large ≤ 65536
  f0 : 0 ≤ c.floor
  f1 : c.floor ≤ 65536
  d0 : 1 ≤ c.den
  n0 : c.den ≤ c.num
  n1 : c.num ≤ 65536
  g0 : 1 ≤ c.target
  g1 : c.target ≤ 100
  a0 : 1 ≤ c.maxAge
  a1 : c.maxAge ≤ 15
  h0 : 1 ≤ c.threads
  h1 : c.threads ≤ 8
  o0 : 1 ≤ c.slots
  o1 : c.slots ≤ 4096
  k0 : 0 ≤ c.handles
  k1 : c.handles ≤ 1024
  b0 : 0 ≤ c.buffer
  b1 : c.buffer ≤ c.eden
  w0 : 1 ≤ c.workers
  w1 : c.workers ≤ 8

/-- How many words the array has. -/
def Cfg.words (c : Cfg) : Int := 1 + c.eden + c.surv + c.surv + c.ten

/-- A space's first word, and the one behind its last (P3.4). -/
def fst (c : Cfg) (s : Int) : Int := if s = 1 then 1 else if s = 2 then 1 + c.eden else if s = 3 then 1 + c.eden + c.surv else if s = 4 then 1 + c.eden + c.surv + c.surv else 0
def bhd (c : Cfg) (s : Int) : Int := if s = 1 then 1 + c.eden else if s = 2 then 1 + c.eden + c.surv else if s = 3 then 1 + c.eden + c.surv + c.surv else if s = 4 then 1 + c.eden + c.surv + c.surv + c.ten else 0

/-- The tops. -/
structure Tps where
  t1 : Int
  t2 : Int
  t3 : Int
  t4 : Int

def Tps.top (x : Tps) (s : Int) : Int := if s = 1 then x.t1 else if s = 2 then x.t2 else if s = 3 then x.t3 else if s = 4 then x.t4 else 0

def Tps.put (x : Tps) (s v : Int) : Tps := ⟨if s = 1 then v else x.t1, if s = 2 then v else x.t2, if s = 3 then v else x.t3, if s = 4 then v else x.t4⟩

theorem Tps.top_put (x : Tps) (s v : Int) (h : 1 ≤ s ∧ s ≤ 4) : (x.put s v).top s = v := by
  obtain rfl | rfl | rfl | rfl : s = 1 ∨ s = 2 ∨ s = 3 ∨ s = 4 := by omega
  all_goals simp [Tps.put, Tps.top]

theorem Tps.top_put_ne (x : Tps) (s v r : Int) (h : r ≠ s) : (x.put s v).top r = x.top r := by
  unfold Tps.put Tps.top
  dsimp only
  repeat' split
  all_goals first | rfl | (exfalso; omega)

/-- The arena's own cells. -/
def af (c : Cfg) (g n : Nat) (x : Tps) (sw : Bool) : Nat → Value
  | 0 => .int .i64 c.eden
  | 1 => .int .i64 c.surv
  | 2 => .int .i64 c.ten
  | 3 => .int .i64 c.large
  | 4 => .int .i64 c.floor
  | 5 => .int .i64 c.num
  | 6 => .int .i64 c.den
  | 7 => .int .i64 c.target
  | 8 => .int .i64 c.maxAge
  | 9 => .int .i64 c.threads
  | 10 => .int .i64 c.slots
  | 11 => .int .i64 c.handles
  | 12 => .int .i64 c.buffer
  | 13 => .int .i64 c.workers
  | 14 => .slice (some ⟨g, 0, none⟩) n n
  | 15 => .int .i64 1
  | 16 => .int .i64 (1 + c.eden)
  | 17 => .int .i64 x.t1
  | 18 => .int .i64 (1 + c.eden)
  | 19 => .int .i64 (1 + c.eden + c.surv)
  | 20 => .int .i64 x.t2
  | 21 => .int .i64 (1 + c.eden + c.surv)
  | 22 => .int .i64 (1 + c.eden + c.surv + c.surv)
  | 23 => .int .i64 x.t3
  | 24 => .int .i64 (1 + c.eden + c.surv + c.surv)
  | 25 => .int .i64 (1 + c.eden + c.surv + c.surv + c.ten)
  | 26 => .int .i64 x.t4
  | _ => .bool sw

/-- The arena in block b, its words in block g. -/
structure Ar (w : World) (b g : Nat) (c : Cfg) (x : Tps) (sw : Bool) (ws : Nat → Int) : Prop where
  own : w.rowIs b 111 28 (af c g c.words.toNat x sw)
  row : w.rowIs g 58 c.words.toNat (fun j => .int .u64 (ws j))
  ok : c.Ok
  wd : ∀ j, Wd (ws j)
  t10 : 1 ≤ x.t1
  t11 : x.t1 ≤ 1 + c.eden
  t20 : 1 + c.eden ≤ x.t2
  t21 : x.t2 ≤ 1 + c.eden + c.surv
  t30 : 1 + c.eden + c.surv ≤ x.t3
  t31 : x.t3 ≤ 1 + c.eden + c.surv + c.surv
  t40 : 1 + c.eden + c.surv + c.surv ≤ x.t4
  t41 : x.t4 ≤ 1 + c.eden + c.surv + c.surv + c.ten

/-- From w to w' only the blocks of F may have turned; blocks may have been laid. -/
structure Touch (F : List Nat) (w w' : World) : Prop where
  os : w'.os = w.os
  tape : w'.tape = w.tape
  output : w'.output = w.output
  size : w.heap.size ≤ w'.heap.size
  block : ∀ k, k < w.heap.size → k ∉ F → w'.heap[k]? = w.heap[k]?

theorem Touch.refl (F : List Nat) (w : World) : Touch F w w := ⟨rfl, rfl, rfl, Nat.le_refl _, fun _ _ _ => rfl⟩

/-- A second step over blocks that the first one had or has laid. -/
theorem Touch.then {F G : List Nat} {a b c : World} (h : Touch F a b) (k : Touch G b c) (hs : ∀ x, x ∈ G → x ∈ F ∨ a.heap.size ≤ x) : Touch F a c :=
  ⟨k.os.trans h.os, k.tape.trans h.tape, k.output.trans h.output, Nat.le_trans h.size k.size,
    fun i hi hn => (k.block i (Nat.lt_of_lt_of_le hi h.size) (fun hm => by rcases hs i hm with h1 | h1; exact hn h1; omega)).trans (h.block i hi hn)⟩

theorem Touch.trans {F : List Nat} {a b c : World} (h : Touch F a b) (k : Touch F b c) : Touch F a c := h.then k (fun _ h => .inl h)

theorem Touch.of_below {w w' : World} (h : Below w.heap.size w w') (F : List Nat) : Touch F w w' :=
  ⟨h.os, h.tape, h.output, h.size, fun k hk _ => h.block k hk⟩

theorem Touch.below {F : List Nat} {w w' : World} {B : Nat} (h : Touch F w w') (hB : B ≤ w.heap.size) (hF : ∀ k, k ∈ F → B ≤ k) : Below B w w' :=
  ⟨h.os, h.tape, h.output, h.size, fun k hk => h.block k (by omega) (fun hm => by have := hF k hm; omega)⟩

theorem Touch.setCell {F : List Nat} (w : World) (a : Addr) (u : Value) (h : a.block ∈ F) : Touch F w (w.setCell a u) :=
  ⟨rfl, rfl, rfl, by simp [World.setCell], fun k _ hn => Below.heap_setCell _ _ _ _ (fun e => hn (e ▸ h))⟩

theorem Touch.setCells {F : List Nat} (b : Nat) (h : b ∈ F) : ∀ (vs : List Value) (o : Nat) (w : World), Touch F w (w.setCells b o vs)
  | [], _, w => Touch.refl F w
  | v :: r, o, w => (Touch.setCell w ⟨b, o, none⟩ v h).trans (Touch.setCells b h r (o + 1) _)

theorem Touch.drewN (F : List Nat) (w : World) (n : Nat) : Touch F w (w.drewN n) := ⟨rfl, rfl, rfl, Nat.le_refl _, fun _ _ _ => rfl⟩

theorem Touch.alloc (F : List Nat) (w : World) (o : Obj) : Touch F w (w.alloc o) :=
  ⟨rfl, rfl, rfl, by simp, fun k hk _ => Below.heap_alloc w o k hk⟩

theorem Ar.keep {w w' : World} {b g : Nat} {c : Cfg} {x : Tps} {sw : Bool} {ws : Nat → Int} (h : Ar w b g c x sw ws) (hb : w'.heap[b]? = w.heap[b]?) (hg : w'.heap[g]? = w.heap[g]?) : Ar w' b g c x sw ws :=
  ⟨h.own.of_block hb, h.row.of_block hg, h.ok, h.wd, h.t10, h.t11, h.t20, h.t21, h.t30, h.t31, h.t40, h.t41⟩

theorem Ar.below {w w' : World} {b g : Nat} {c : Cfg} {x : Tps} {sw : Bool} {ws : Nat → Int} (h : Ar w b g c x sw ws) (l : Below w.heap.size w w') : Ar w' b g c x sw ws :=
  h.keep (l.block _ h.own.lt) (l.block _ h.row.lt)

theorem Ar.touch {w w' : World} {b g : Nat} {c : Cfg} {x : Tps} {sw : Bool} {ws : Nat → Int} {F : List Nat} (h : Ar w b g c x sw ws) (l : Touch F w w') (hb : b ∉ F) (hg : g ∉ F) : Ar w' b g c x sw ws :=
  h.keep (l.block _ h.own.lt hb) (l.block _ h.row.lt hg)

theorem Ar.words {w : World} {b g : Nat} {c : Cfg} {x : Tps} {sw : Bool} {ws : Nat → Int} (h : Ar w b g c x sw ws) : 257 ≤ c.words ∧ c.words ≤ 262145 := by
  have := h.ok.e0; have := h.ok.e1; have := h.ok.s0; have := h.ok.s1; have := h.ok.t0; have := h.ok.t1
  unfold Cfg.words; omega

theorem Ar.ne {w : World} {b g : Nat} {c : Cfg} {x : Tps} {sw : Bool} {ws : Nat → Int} (h : Ar w b g c x sw ws) : b ≠ g := by
  rintro rfl
  obtain ⟨c1, h1, -, -⟩ := h.own
  obtain ⟨c2, h2, -, -⟩ := h.row
  rw [h1] at h2
  simp only [Option.some.injEq, Obj.cells.injEq] at h2
  exact absurd h2.2.1 (by decide)

/-- The word number i; 0 if there is none. -/
def wat (c : Cfg) (ws : Nat → Int) (i : Int) : Int := if 0 ≤ i ∧ i < c.words then ws i.toNat else 0

theorem Ar.wat_wd {w : World} {b g : Nat} {c : Cfg} {x : Tps} {sw : Bool} {ws : Nat → Int} (h : Ar w b g c x sw ws) (i : Int) : Wd (wat c ws i) := by
  unfold wat
  split
  · exact h.wd _
  · exact ⟨by decide, by decide⟩

theorem Ar.cell14 {w : World} {b g : Nat} {c : Cfg} {x : Tps} {sw : Bool} {ws : Nat → Int} (h : Ar w b g c x sw ws) : w.cell? ⟨b, 14, none⟩ = some (.slice (some ⟨g, 0, none⟩) c.words.toNat c.words.toNat) := h.own.cell (i := 14) (by decide)
theorem Ar.cell27 {w : World} {b g : Nat} {c : Cfg} {x : Tps} {sw : Bool} {ws : Nat → Int} (h : Ar w b g c x sw ws) : w.cell? ⟨b, 27, none⟩ = some (.bool sw) := h.own.cell (i := 27) (by decide)

theorem Ar.cellAt {w : World} {b g : Nat} {c : Cfg} {x : Tps} {sw : Bool} {ws : Nat → Int} (h : Ar w b g c x sw ws) (i : Int) (h0 : 0 ≤ i) (h1 : i < c.words) : w.cell? ⟨g, i.toNat, none⟩ = some (.int .u64 (wat c ws i)) := by
  rw [h.row.cell (i := i.toNat) (by omega), wat, if_pos ⟨h0, h1⟩]

end Go.Proofs.YtbgnagjhkfkekaaGreatDoor

/-
  The small calls of an arena.
-/
set_option linter.unusedVariables false
namespace Go.Proofs.YtbgnagjhkfkekaaGreatDoor
open Go.RowKit

set_option maxHeartbeats 400000 in
theorem isSpace_any (s : Int) (w : World) :
    Calls Tryz.prog 97 #[.int .i64 s] w fun e w' => e = .returned (.bool (decide (1 ≤ s ∧ s ≤ 4))) ∧ w = w' := by
  by_cases h1 : 1 ≤ s
  · go_enter Tryz.func97, Tryz.ntmps97
    go_wp2
    go_ret
    simp [h1]
  · go_enter Tryz.func97, Tryz.ntmps97
    go_wp2
    go_ret
    simp
    omega

set_option maxHeartbeats 400000 in
theorem has_any (a : Option Addr) (n cap : Nat) (i : Int) (w : World) :
    Calls Tryz.prog 63 #[.slice a n cap, .int .i64 i] w fun e w' => e = .returned (.bool (decide (0 ≤ i ∧ i < (n : Int)))) ∧ w = w' := by
  by_cases h1 : 0 ≤ i
  · go_enter Tryz.func63, Tryz.ntmps63
    go_wp2
    go_ret
    simp [h1]
  · go_enter Tryz.func63, Tryz.ntmps63
    go_wp2
    go_ret
    simp
    omega

abbrev ev (a b t : Int) : Value := .agg #[.int .i64 a, .int .i64 b, .int .i64 t]
abbrev ecells (a b t : Int) : Array Value := #[.int .i64 a, .int .i64 b, .int .i64 t]

set_option maxHeartbeats 1000000 in
theorem extent_any (b g : Nat) (c : Cfg) (x : Tps) (sw : Bool) (ws : Nat → Int) (s : Int) (w : World) (h : Ar w b g c x sw ws) :
    Calls Tryz.prog 67 #[.pointer (some ⟨b, 0, none⟩), .int .i64 s] w fun e w' => e = .returned (ev (fst c s) (bhd c s) (x.top s)) ∧ Below w.heap.size w w' := by
  by_cases hs : 1 ≤ s ∧ s ≤ 4
  · have hd : decide (1 ≤ s ∧ s ≤ 4) = true := decide_eq_true hs
    have k : ∀ j, j < 28 → (w.alloc (.cells (ecells 0 0 0) 106)).cell? ⟨b, j, none⟩ = some (af c g c.words.toNat x sw j) := fun j hj => (h.own.alloc _).cell hj
    have hbl := h.own.lt
    clear h
    obtain rfl | rfl | rfl | rfl : s = 1 ∨ s = 2 ∨ s = 3 ∨ s = 4 := by omega
    · have k0 := k 15 (by decide)
      have k1 := k 16 (by decide)
      have k2 := k 17 (by decide)
      simp only [af] at k0 k1 k2
      clear k hs
      go_enter Tryz.func67, Tryz.ntmps67
      go_wp2_with fail
      refine (isSpace_any _ _).mono ?_
      rintro e w' ⟨rfl, rfl⟩
      rw [hd]
      go_wp2
      go_returns
      refine ⟨rfl, ?_⟩
      go_grown
    · have k0 := k 18 (by decide)
      have k1 := k 19 (by decide)
      have k2 := k 20 (by decide)
      simp only [af] at k0 k1 k2
      clear k hs
      go_enter Tryz.func67, Tryz.ntmps67
      go_wp2_with fail
      refine (isSpace_any _ _).mono ?_
      rintro e w' ⟨rfl, rfl⟩
      rw [hd]
      go_wp2
      go_returns
      refine ⟨rfl, ?_⟩
      go_grown
    · have k0 := k 21 (by decide)
      have k1 := k 22 (by decide)
      have k2 := k 23 (by decide)
      simp only [af] at k0 k1 k2
      clear k hs
      go_enter Tryz.func67, Tryz.ntmps67
      go_wp2_with fail
      refine (isSpace_any _ _).mono ?_
      rintro e w' ⟨rfl, rfl⟩
      rw [hd]
      go_wp2
      go_returns
      refine ⟨rfl, ?_⟩
      go_grown
    · have k0 := k 24 (by decide)
      have k1 := k 25 (by decide)
      have k2 := k 26 (by decide)
      simp only [af] at k0 k1 k2
      clear k hs
      go_enter Tryz.func67, Tryz.ntmps67
      go_wp2_with fail
      refine (isSpace_any _ _).mono ?_
      rintro e w' ⟨rfl, rfl⟩
      rw [hd]
      go_wp2
      go_returns
      refine ⟨rfl, ?_⟩
      go_grown
  · have hd : decide (1 ≤ s ∧ s ≤ 4) = false := decide_eq_false hs
    have e1 : fst c s = 0 := by unfold fst; rw [if_neg (by omega), if_neg (by omega), if_neg (by omega), if_neg (by omega)]
    have e2 : bhd c s = 0 := by unfold bhd; rw [if_neg (by omega), if_neg (by omega), if_neg (by omega), if_neg (by omega)]
    have e3 : x.top s = 0 := by unfold Tps.top; rw [if_neg (by omega), if_neg (by omega), if_neg (by omega), if_neg (by omega)]
    rw [e1, e2, e3]
    clear e1 e2 e3 h hs
    go_enter Tryz.func67, Tryz.ntmps67
    go_wp2_with fail
    refine (isSpace_any _ _).mono ?_
    rintro e w' ⟨rfl, rfl⟩
    rw [hd]
    go_wp2
    go_returns
    refine ⟨rfl, ?_⟩
    go_grown

theorem ext_top (p q r : Int) (w : World) : (Instr.field 106 (ev p q r) 2).run Tryz.prog w = .ok (.int .i64 r) w := by kernel_rfl

set_option maxHeartbeats 400000 in
theorem top_any (b g : Nat) (c : Cfg) (x : Tps) (sw : Bool) (ws : Nat → Int) (s : Int) (w : World) (h : Ar w b g c x sw ws) :
    Calls Tryz.prog 53 #[.pointer (some ⟨b, 0, none⟩), .int .i64 s] w fun e w' => e = .returned (.int .i64 (x.top s)) ∧ Below w.heap.size w w' := by
  have hx := extent_any b g c x sw ws s w h
  generalize fst c s = p, bhd c s = q, x.top s = r at hx ⊢
  clear h
  have hf := ext_top p q r
  go_enter Tryz.func53, Tryz.ntmps53
  go_wp2_with fail
  refine hx.mono ?_
  rintro e w1 ⟨rfl, b1⟩
  go_wp2
  go_ret
  exact ⟨rfl, b1⟩

set_option maxHeartbeats 400000 in
theorem bounds_any (b g : Nat) (c : Cfg) (x : Tps) (sw : Bool) (ws : Nat → Int) (s : Int) (w : World) (h : Ar w b g c x sw ws) :
    Calls Tryz.prog 29 #[.pointer (some ⟨b, 0, none⟩), .int .i64 s] w fun e w' => e = .returned (.tuple #[.int .i64 (fst c s), .int .i64 (bhd c s)]) ∧ Below w.heap.size w w' := by
  have hx := extent_any b g c x sw ws s w h
  generalize fst c s = p, bhd c s = q, x.top s = r at hx ⊢
  clear h
  go_enter Tryz.func29, Tryz.ntmps29
  go_wp2_with fail
  refine hx.mono ?_
  rintro e w1 ⟨rfl, b1⟩
  go_wp2
  go_quiet (fail)
  go_wp2
  go_ret2
  exact ⟨rfl, below_drewN (Below.alloc b1 b1.size _) _⟩

theorem Ar.sub_in {w : World} {b g : Nat} {c : Cfg} {x : Tps} {sw : Bool} {ws : Nat → Int} (h : Ar w b g c x sw ws) (s : Int) : 0 ≤ fst c s ∧ fst c s ≤ x.top s ∧ x.top s ≤ bhd c s ∧ bhd c s ≤ c.words := by
  obtain ⟨-, -, ok, -, a, b, d, e, f, g', i, j⟩ := h
  have := ok.e0; have := ok.e1; have := ok.s0; have := ok.s1; have := ok.t0; have := ok.t1
  unfold fst bhd Tps.top Cfg.words
  repeat' split
  all_goals omega

set_option maxHeartbeats 400000 in
theorem free_any (b g : Nat) (c : Cfg) (x : Tps) (sw : Bool) (ws : Nat → Int) (s : Int) (w : World) (h : Ar w b g c x sw ws) :
    Calls Tryz.prog 92 #[.pointer (some ⟨b, 0, none⟩), .int .i64 s] w fun e w' => e = .returned (.int .i64 (bhd c s - x.top s)) ∧ Below w.heap.size w w' := by
  have hx := extent_any b g c x sw ws s w h
  obtain ⟨p0, p1, p2, p3⟩ := h.sub_in s
  have q := h.words
  generalize fst c s = p, bhd c s = q, x.top s = r at hx p0 p1 p2 p3 ⊢
  clear h
  go_enter Tryz.func92, Tryz.ntmps92
  go_wp2_with fail
  refine hx.mono ?_
  rintro e w1 ⟨rfl, b1⟩
  go_wp2
  go_ret
  refine ⟨rfl, ?_⟩
  go_grown
  exact b1.size

set_option maxHeartbeats 1000000 in
theorem setTop_cell (b : Nat) (s v : Int) (hs : 1 ≤ s ∧ s ≤ 4) (w : World) (f : Nat → Value) (h : w.rowIs b 111 28 f) :
    Calls Tryz.prog 94 #[.pointer (some ⟨b, 0, none⟩), .int .i64 s, .int .i64 v] w fun e w' => e = .returned (.tuple #[]) ∧ w' = w.setCell ⟨b, (14 + 3 * s).toNat, none⟩ (.int .i64 v) := by
  have k : ∀ j, j < 28 → w.cell? ⟨b, j, none⟩ = some (f j) := fun j hj => h.cell hj
  have z : ∀ j, w.frozen? ⟨b, j, none⟩ = false := fun j => h.frozen j
  clear h
  obtain rfl | rfl | rfl | rfl : s = 1 ∨ s = 2 ∨ s = 3 ∨ s = 4 := by omega
  · have k2 := k 17 (by decide)
    have z2 := z 17
    clear k hs z
    go_enter Tryz.func94, Tryz.ntmps94
    go_wp2
    go_returns
    exact ⟨rfl, rfl⟩
  · have k2 := k 20 (by decide)
    have z2 := z 20
    clear k hs z
    go_enter Tryz.func94, Tryz.ntmps94
    go_wp2
    go_returns
    exact ⟨rfl, rfl⟩
  · have k2 := k 23 (by decide)
    have z2 := z 23
    clear k hs z
    go_enter Tryz.func94, Tryz.ntmps94
    go_wp2
    go_returns
    exact ⟨rfl, rfl⟩
  · have k2 := k 26 (by decide)
    have z2 := z 26
    clear k hs z
    go_enter Tryz.func94, Tryz.ntmps94
    go_wp2
    go_returns
    exact ⟨rfl, rfl⟩

theorem af_top (c : Cfg) (g n : Nat) (x : Tps) (sw : Bool) (s v : Int) (hs : 1 ≤ s ∧ s ≤ 4) (j : Nat) : (if j = (14 + 3 * s).toNat then Value.int .i64 v else af c g n x sw j) = af c g n (x.put s v) sw j := by
  obtain rfl | rfl | rfl | rfl : s = 1 ∨ s = 2 ∨ s = 3 ∨ s = 4 := by omega
  all_goals
    match j with
    | 0 | 1 | 2 | 3 | 4 | 5 | 6 | 7 | 8 | 9 | 10 | 11 | 12 | 13 | 14 | 15 | 16 | 17 | 18 | 19 | 20 | 21 | 22 | 23 | 24 | 25 | 26 => simp [af, Tps.put]
    | j + 27 => simp [af]; try omega

theorem setTop_any (b g : Nat) (c : Cfg) (x : Tps) (sw : Bool) (ws : Nat → Int) (s v : Int) (hs : 1 ≤ s ∧ s ≤ 4) (h0 : fst c s ≤ v) (h1 : v ≤ bhd c s) (w : World) (h : Ar w b g c x sw ws) :
    Calls Tryz.prog 94 #[.pointer (some ⟨b, 0, none⟩), .int .i64 s, .int .i64 v] w fun e w' => e = .returned (.tuple #[]) ∧ Ar w' b g c (x.put s v) sw ws ∧ Touch [b] w w' ∧ w'.heap.size = w.heap.size := by
  refine (setTop_cell b s v hs w _ h.own).mono ?_
  rintro e w' ⟨rfl, rfl⟩
  have hn := h.ne
  refine ⟨rfl, ?_, Touch.setCell _ _ _ (by simp), by simp [World.setCell]⟩
  obtain ⟨o, r, ok, wd, a, b', d, e, f, g', i, j⟩ := h
  refine ⟨(o.set _ _).congr (fun j _ => af_top c g _ x sw s v hs j), r.setOther (fun e => hn e.symm) _, ok, wd, ?_, ?_, ?_, ?_, ?_, ?_, ?_, ?_⟩
  all_goals
    obtain rfl | rfl | rfl | rfl : s = 1 ∨ s = 2 ∨ s = 3 ∨ s = 4 := by omega
    all_goals
      simp [fst] at h0
      simp [bhd] at h1
      simp only [Tps.put]
      simp
      omega

theorem Ar.cellW {w : World} {b g : Nat} {c : Cfg} {x : Tps} {sw : Bool} {ws : Nat → Int} (h : Ar w b g c x sw ws) (i : Int) (h0 : 0 ≤ i) (h1 : i < c.words) (n : Nat) (hn : (n : Int) = i) : w.cell? ⟨g, n, none⟩ = some (.int .u64 (wat c ws i)) := by
  rw [h.row.cell (i := n) (by omega), wat, if_pos ⟨h0, h1⟩, ← hn, Int.toNat_natCast]

end Go.Proofs.YtbgnagjhkfkekaaGreatDoor

/-
  Words are written, taken, given back.
-/
set_option linter.unusedVariables false
namespace Go.Proofs.YtbgnagjhkfkekaaGreatDoor
open Go.RowKit

/-- A word is written. -/
def upd (ws : Nat → Int) (n : Nat) (v : Int) : Nat → Int := fun j => if j = n then v else ws j

/-- Words become 0. -/
def zer (ws : Nat → Int) (o n : Nat) : Nat → Int := fun j => if o ≤ j ∧ j < o + n then 0 else ws j

theorem Ar.set {w : World} {b g : Nat} {c : Cfg} {x : Tps} {sw : Bool} {ws : Nat → Int} (h : Ar w b g c x sw ws) (n : Nat) (v : Int) (hv : Wd v) : Ar (w.setCell ⟨g, n, none⟩ (.int .u64 v)) b g c x sw (upd ws n v) := by
  have hn := h.ne
  obtain ⟨o, r, ok, wd, a, b', d, e, f, g', i, j⟩ := h
  refine ⟨o.setOther hn _, (r.set n _).congr (fun j _ => ?_), ok, fun j => ?_, a, b', d, e, f, g', i, j⟩
  · unfold upd; split <;> rfl
  · unfold upd; split
    · exact hv
    · exact wd j

theorem Ar.zero {w : World} {b g : Nat} {c : Cfg} {x : Tps} {sw : Bool} {ws : Nat → Int} (h : Ar w b g c x sw ws) (o n : Nat) : Ar (w.setCells g o (List.replicate n (.int .u64 0))) b g c x sw (zer ws o n) := by
  have hn := h.ne
  obtain ⟨ow, r, ok, wd, a, b', d, e, f, g', i, j⟩ := h
  refine ⟨rowIs_setCells_other hn _ _ _ ow, (rowIs_setCells _ o _ _ r).congr (fun j _ => ?_), ok, fun j => ?_, a, b', d, e, f, g', i, j⟩
  · simp only [List.length_replicate]
    unfold zer
    by_cases hj : o ≤ j ∧ j < o + n
    · rw [if_pos hj, if_pos hj, List.getElem?_replicate, if_pos (by omega)]; rfl
    · rw [if_neg hj, if_neg hj]
  · unfold zer; split
    · exact ⟨by decide, by decide⟩
    · exact wd j

theorem wat_upd (c : Cfg) (ws : Nat → Int) (n : Nat) (v i : Int) (hn : (n : Int) < c.words) : wat c (upd ws n v) i = if i = n then v else wat c ws i := by
  unfold wat upd
  by_cases h : 0 ≤ i ∧ i < c.words
  · rw [if_pos h, if_pos h]
    by_cases e : i = n
    · rw [if_pos e, if_pos (by omega)]
    · rw [if_neg e, if_neg (by omega)]
  · rw [if_neg h, if_neg h, if_neg (by omega)]

theorem wat_zer (c : Cfg) (ws : Nat → Int) (o n : Nat) (i : Int) : wat c (zer ws o n) i = if (o : Int) ≤ i ∧ i < o + n then 0 else wat c ws i := by
  unfold wat zer
  by_cases h : 0 ≤ i ∧ i < c.words
  · rw [if_pos h, if_pos h]
    by_cases e : (o : Int) ≤ i ∧ i < o + n
    · rw [if_pos e, if_pos (by omega)]
    · rw [if_neg e, if_neg (by omega)]
  · rw [if_neg h, if_neg h]; simp

set_option maxHeartbeats 400000 in
theorem piece_any (b g : Nat) (c : Cfg) (x : Tps) (sw : Bool) (ws : Nat → Int) (p n : Nat) (hp : (p : Int) + n ≤ c.words) (hn : 0 < n) (w : World) (h : Ar w b g c x sw ws) :
    Calls Tryz.prog 93 #[.pointer (some ⟨b, 0, none⟩), .int .i64 p, .int .i64 n] w fun e w' => e = .returned (.slice (some ⟨g, p, none⟩) n n) ∧ w = w' := by
  have k := h.cell14
  have q := h.words
  have hN : (c.words.toNat : Int) = c.words := Int.toNat_of_nonneg (by omega)
  generalize c.words.toNat = N at k hN
  clear h
  go_enter Tryz.func93, Tryz.ntmps93
  go_wp2
  go_ret
  refine ⟨?_, rfl⟩
  simp

set_option maxHeartbeats 400000 in
theorem set_out (a : Option Addr) (n cap : Nat) (i v : Int) (hi : ¬ (0 ≤ i ∧ i < (n : Int))) (w : World) :
    Calls Tryz.prog 64 #[.slice a n cap, .int .i64 i, .int .u64 v] w fun e w' => e = .returned (.bool false) ∧ w = w' := by
  have hd := decide_eq_false hi
  clear hi
  go_enter Tryz.func64, Tryz.ntmps64
  go_wp2_with fail
  refine (has_any _ _ _ _ _).mono ?_
  rintro e w' ⟨rfl, rfl⟩
  rw [hd]
  go_wp2
  go_ret
  exact ⟨rfl, rfl⟩

set_option maxHeartbeats 400000 in
theorem set_in (g o n cap i : Nat) (v : Int) (hi : i < n) (hc : n ≤ cap) (u : Value) (w : World) (hcell : w.cell? ⟨g, o + i, none⟩ = some u) (hfz : w.frozen? ⟨g, o + i, none⟩ = false) :
    Calls Tryz.prog 64 #[.slice (some ⟨g, o, none⟩) n cap, .int .i64 i, .int .u64 v] w fun e w' => e = .returned (.bool true) ∧ w' = w.setCell ⟨g, o + i, none⟩ (.int .u64 v) := by
  have hd : decide (0 ≤ (i : Int) ∧ (i : Int) < (n : Int)) = true := decide_eq_true (by omega)
  go_enter Tryz.func64, Tryz.ntmps64
  go_wp2_with fail
  refine (has_any _ _ _ _ _).mono ?_
  rintro e w' ⟨rfl, rfl⟩
  rw [hd]
  go_wp2
  go_ret
  exact ⟨rfl, rfl⟩

set_option maxHeartbeats 400000 in
theorem take_no (b g : Nat) (c : Cfg) (x : Tps) (sw : Bool) (ws : Nat → Int) (s n : Int) (hn : ¬ (1 ≤ n ∧ n ≤ bhd c s - x.top s)) (w : World) (h : Ar w b g c x sw ws) :
    Calls Tryz.prog 59 #[.pointer (some ⟨b, 0, none⟩), .int .i64 s, .int .i64 n] w fun e w' => e = .returned (.tuple #[.int .i64 0, .bool false]) ∧ Below w.heap.size w w' := by
  have hf := free_any b g c x sw ws s w h
  generalize bhd c s - x.top s = f at hf hn
  clear h
  by_cases h1 : n < 1
  · clear hn hf
    go_enter Tryz.func59, Tryz.ntmps59
    go_wp2
    go_ret2
    exact ⟨rfl, Below.refl _ _⟩
  · have h2 : f < n := by omega
    clear hn
    go_enter Tryz.func59, Tryz.ntmps59
    go_wp2_with fail
    refine hf.mono ?_
    rintro e w1 ⟨rfl, b1⟩
    go_wp2
    go_ret2
    exact ⟨rfl, b1⟩

theorem bhd_zero {c : Cfg} {s : Int} (h : ¬ (1 ≤ s ∧ s ≤ 4)) : bhd c s = 0 := by
  unfold bhd; rw [if_neg (by omega), if_neg (by omega), if_neg (by omega), if_neg (by omega)]
theorem fst_zero {c : Cfg} {s : Int} (h : ¬ (1 ≤ s ∧ s ≤ 4)) : fst c s = 0 := by
  unfold fst; rw [if_neg (by omega), if_neg (by omega), if_neg (by omega), if_neg (by omega)]
theorem top_zero {x : Tps} {s : Int} (h : ¬ (1 ≤ s ∧ s ≤ 4)) : x.top s = 0 := by
  unfold Tps.top; rw [if_neg (by omega), if_neg (by omega), if_neg (by omega), if_neg (by omega)]

set_option maxHeartbeats 1000000 in
theorem take_yes (b g : Nat) (c : Cfg) (x : Tps) (sw : Bool) (ws : Nat → Int) (s : Int) (p n : Nat) (hp : x.top s = p) (h0 : 0 < n) (h1 : (p : Int) + n ≤ bhd c s) (w : World) (h : Ar w b g c x sw ws) :
    Calls Tryz.prog 59 #[.pointer (some ⟨b, 0, none⟩), .int .i64 s, .int .i64 n] w fun e w' => e = .returned (.tuple #[.int .i64 p, .bool true]) ∧ Ar w' b g c (x.put s (p + n)) sw (zer ws p n) ∧ Touch [b, g] w w' := by
  have hs : 1 ≤ s ∧ s ≤ 4 := by
    refine Decidable.byContradiction fun hs => ?_
    rw [bhd_zero hs] at h1
    omega
  obtain ⟨p0, p1, p2, p3⟩ := h.sub_in s
  have hf := free_any b g c x sw ws s w h
  have hle : (n : Int) ≤ bhd c s - x.top s := by omega
  have hwo := h.words
  generalize hff : bhd c s - x.top s = f at hf hle
  clear hff
  have Hh : Hid (Ar w b g c x sw ws) := h
  clear h
  go_enter Tryz.func59, Tryz.ntmps59
  go_wp2_with fail
  refine hf.mono ?_
  rintro e w1 ⟨rfl, b1⟩
  have ha1 := Hh.out.below b1
  have ht := top_any b g c x sw ws s w1 ha1
  rw [hp] at ht
  have Ha1 : Hid (Ar w1 b g c x sw ws) := ha1
  clear hf ha1
  go_wp2_with fail
  refine ht.mono ?_
  rintro e w2 ⟨rfl, b2⟩
  have b3 := b1.trans (b2.mono b1.size)
  have ha2 := Ha1.out.below b2
  have hpc := piece_any b g c x sw ws p n (by omega) h0 w2 ha2
  have hcl : ∀ ty, (Builtin.clear_ #[61] ty #[.slice (some ⟨g, p, none⟩) n n]).run Tryz.prog w2 = .ok (.tuple #[]) (w2.setCells g p (List.replicate n (.int .u64 0))) := fun ty =>
    Lib.run_clear_slice w2 _ _ ty _ Tryz.underlying61 Tryz.zeroValue58 rfl rfl g p _ _ h0
      (fun t ht => by rw [ha2.row.cell (i := p + t) (by omega)]; rfl) (fun t ht => ha2.row.frozen _)
  have ha3 := ha2.zero p n
  have hst := setTop_any b g c x sw (zer ws p n) s (p + n) hs (by omega) (by omega) _ ha3
  have ht3 : Touch [b, g] w (w2.setCells g p (List.replicate n (.int .u64 0))) := (Touch.of_below b3 _).trans (Touch.setCells g (by simp) _ _ _)
  clear ht b1 b2 ha2 b3 ha3
  go_wp2_with fail
  refine hpc.mono ?_
  rintro e w' ⟨rfl, rfl⟩
  clear hpc
  go_wp2_with fail
  generalize (w2.setCells g p (List.replicate n (.int .u64 0))) = w3 at hst ht3 ⊢
  clear hcl
  refine hst.mono ?_
  rintro e w4 ⟨rfl, ha4, ht4, -⟩
  have Ha4 : Hid (Ar w4 b g c (x.put s (p + n)) sw (zer ws p n)) := ha4
  have ht5 := ht3.then ht4 (fun x h => .inl (by simp at h; simp [h]))
  clear hst ha4 ht4 ht3
  go_wp2
  go_ret2
  exact ⟨rfl, Ha4.out, ht5⟩

end Go.Proofs.YtbgnagjhkfkekaaGreatDoor

/-
  Cut, To, Swap, Space, Young.
-/
set_option linter.unusedVariables false
namespace Go.Proofs.YtbgnagjhkfkekaaGreatDoor
open Go.RowKit

theorem af_sw (c : Cfg) (g n : Nat) (x : Tps) (sw sw' : Bool) (j : Nat) (hj : j < 28) : (if j = 27 then Value.bool sw' else af c g n x sw j) = af c g n x sw' j := by
  match j, hj with
  | 0, _ | 1, _ | 2, _ | 3, _ | 4, _ | 5, _ | 6, _ | 7, _ | 8, _ | 9, _ | 10, _ | 11, _ | 12, _ | 13, _ | 14, _ | 15, _ | 16, _ | 17, _ | 18, _ | 19, _ | 20, _ | 21, _ | 22, _ | 23, _ | 24, _ | 25, _ | 26, _ | 27, _ => simp [af]
  | j + 28, h => omega

/-- The space in which a word lies (P3.6). -/
def spc (c : Cfg) (i : Int) : Int := if i < 1 then 0 else if i < 1 + c.eden then 1 else if i < 1 + c.eden + c.surv then 2 else if i < 1 + c.eden + c.surv + c.surv then 3 else if i < 1 + c.eden + c.surv + c.surv + c.ten then 4 else 0

abbrev ev12 (a b d e f g h i j k l m : Int) : Value := .agg #[.int .i64 a, .int .i64 b, .int .i64 d, .int .i64 e, .int .i64 f, .int .i64 g, .int .i64 h, .int .i64 i, .int .i64 j, .int .i64 k, .int .i64 l, .int .i64 m]

theorem idx0 (a b d e f g h i j k l m : Int) (w : World) : (Instr.index 107 (ev12 a b d e f g h i j k l m) (.int .i64 0)).run Tryz.prog w = .ok (ev a b d) w := by kernel_rfl
theorem idx1 (a b d e f g h i j k l m : Int) (w : World) : (Instr.index 107 (ev12 a b d e f g h i j k l m) (.int .i64 1)).run Tryz.prog w = .ok (ev e f g) w := by kernel_rfl
theorem idx2 (a b d e f g h i j k l m : Int) (w : World) : (Instr.index 107 (ev12 a b d e f g h i j k l m) (.int .i64 2)).run Tryz.prog w = .ok (ev h i j) w := by kernel_rfl
theorem idx3 (a b d e f g h i j k l m : Int) (w : World) : (Instr.index 107 (ev12 a b d e f g h i j k l m) (.int .i64 3)).run Tryz.prog w = .ok (ev k l m) w := by kernel_rfl

set_option maxHeartbeats 2000000 in
theorem space_core (b : Nat) (f1 f2 f3 f4 f5 t1 t2 t3 t4 i r : Int) (hr : Hid (r = if i < f1 then 0 else if i < f2 then 1 else if i < f3 then 2 else if i < f4 then 3 else if i < f5 then 4 else 0)) (o1 : f1 ≤ f2) (o2 : f2 ≤ f3) (o3 : f3 ≤ f4) (o4 : f4 ≤ f5) (w : World)
    (k0 : w.cell? ⟨b, 15, none⟩ = some (.int .i64 f1)) (k1 : w.cell? ⟨b, 16, none⟩ = some (.int .i64 f2)) (k2 : w.cell? ⟨b, 17, none⟩ = some (.int .i64 t1))
    (k3 : w.cell? ⟨b, 18, none⟩ = some (.int .i64 f2)) (k4 : w.cell? ⟨b, 19, none⟩ = some (.int .i64 f3)) (k5 : w.cell? ⟨b, 20, none⟩ = some (.int .i64 t2))
    (k6 : w.cell? ⟨b, 21, none⟩ = some (.int .i64 f3)) (k7 : w.cell? ⟨b, 22, none⟩ = some (.int .i64 f4)) (k8 : w.cell? ⟨b, 23, none⟩ = some (.int .i64 t3))
    (k9 : w.cell? ⟨b, 24, none⟩ = some (.int .i64 f4)) (k10 : w.cell? ⟨b, 25, none⟩ = some (.int .i64 f5)) (k11 : w.cell? ⟨b, 26, none⟩ = some (.int .i64 t4)) :
    Calls Tryz.prog 98 #[.pointer (some ⟨b, 0, none⟩), .int .i64 i] w fun e w' => e = .returned (.int .i64 r) ∧ Below w.heap.size w w' := by
  have e0 := idx0 f1 f2 t1 f2 f3 t2 f3 f4 t3 f4 f5 t4
  have e1 := idx1 f1 f2 t1 f2 f3 t2 f3 f4 t3 f4 f5 t4
  have e2 := idx2 f1 f2 t1 f2 f3 t2 f3 f4 t3 f4 f5 t4
  have e3 := idx3 f1 f2 t1 f2 f3 t2 f3 f4 t3 f4 f5 t4
  go_enter Tryz.func98, Tryz.ntmps98
  go_wp2
  clear k0 k1 k2 k3 k4 k5 k6 k7 k8 k9 k10 k11
  go_loopw [11] (fun n wr => ∃ j : Int, 0 ≤ j ∧ j ≤ 4 ∧ n = .int .i64 j ∧ Below w.heap.size w wr ∧ (0 < j → i < f1 ∨ f2 ≤ i) ∧ (1 < j → i < f1 ∨ f3 ≤ i) ∧ (2 < j → i < f1 ∨ f4 ≤ i) ∧ (3 < j → i < f1 ∨ f5 ≤ i)) (fun n _ => 4 - (intOf n).toNat)
  case atStart => exact ⟨0, by omega, by omega, rfl, Below.refl _ _, by omega, by omega, by omega, by omega⟩
  case round =>
    obtain ⟨j, hj0, hj, rfl, bl, q1, q2, q3, q4⟩ := hrel
    obtain rfl | rfl | rfl | rfl | rfl : j = 0 ∨ j = 1 ∨ j = 2 ∨ j = 3 ∨ j = 4 := by omega
    · by_cases c1 : f1 ≤ i
      · by_cases c2 : i < f2
        · have hr0 : r = 1 := by
            rw [hr.out]
            repeat' split
            all_goals first | rfl | (exfalso; omega)
          clear q1 q2 q3 q4 hr
          go_wp2
          go_ret
          refine ⟨by subst hr0; rfl, ?_⟩
          go_grown
          exact bl.size
        · go_wp2
          go_roundw
          case rel => exact ⟨1, by omega, by omega, rfl, Below.alloc bl bl.size _, by omega, by omega, by omega, by omega⟩
          case measure => simp [intOf]
      · go_wp2
        go_roundw
        case rel => exact ⟨1, by omega, by omega, rfl, Below.alloc bl bl.size _, by omega, by omega, by omega, by omega⟩
        case measure => simp [intOf]
    · by_cases c1 : f2 ≤ i
      · by_cases c2 : i < f3
        · have hr0 : r = 2 := by
            rw [hr.out]
            repeat' split
            all_goals first | rfl | (exfalso; omega)
          clear q1 q2 q3 q4 hr
          go_wp2
          go_ret
          refine ⟨by subst hr0; rfl, ?_⟩
          go_grown
          exact bl.size
        · go_wp2
          go_roundw
          case rel => exact ⟨2, by omega, by omega, rfl, Below.alloc bl bl.size _, by omega, by omega, by omega, by omega⟩
          case measure => simp [intOf]
      · go_wp2
        go_roundw
        case rel => exact ⟨2, by omega, by omega, rfl, Below.alloc bl bl.size _, by omega, by omega, by omega, by omega⟩
        case measure => simp [intOf]
    · by_cases c1 : f3 ≤ i
      · by_cases c2 : i < f4
        · have hr0 : r = 3 := by
            rw [hr.out]
            repeat' split
            all_goals first | rfl | (exfalso; omega)
          clear q1 q2 q3 q4 hr
          go_wp2
          go_ret
          refine ⟨by subst hr0; rfl, ?_⟩
          go_grown
          exact bl.size
        · go_wp2
          go_roundw
          case rel => exact ⟨3, by omega, by omega, rfl, Below.alloc bl bl.size _, by omega, by omega, by omega, by omega⟩
          case measure => simp [intOf]
      · go_wp2
        go_roundw
        case rel => exact ⟨3, by omega, by omega, rfl, Below.alloc bl bl.size _, by omega, by omega, by omega, by omega⟩
        case measure => simp [intOf]
    · by_cases c1 : f4 ≤ i
      · by_cases c2 : i < f5
        · have hr0 : r = 4 := by
            rw [hr.out]
            repeat' split
            all_goals first | rfl | (exfalso; omega)
          clear q1 q2 q3 q4 hr
          go_wp2
          go_ret
          refine ⟨by subst hr0; rfl, ?_⟩
          go_grown
          exact bl.size
        · go_wp2
          go_roundw
          case rel => exact ⟨4, by omega, by omega, rfl, Below.alloc bl bl.size _, by omega, by omega, by omega, by omega⟩
          case measure => simp [intOf]
      · go_wp2
        go_roundw
        case rel => exact ⟨4, by omega, by omega, rfl, Below.alloc bl bl.size _, by omega, by omega, by omega, by omega⟩
        case measure => simp [intOf]
    · have hr0 : r = 0 := by
        rw [hr.out]
        repeat' split
        all_goals first | rfl | (exfalso; omega)
      clear q1 q2 q3 q4 hr
      go_wp2
      go_ret
      exact ⟨by subst hr0; rfl, bl⟩

theorem space_any (b g : Nat) (c : Cfg) (x : Tps) (sw : Bool) (ws : Nat → Int) (i : Int) (w : World) (h : Ar w b g c x sw ws) :
    Calls Tryz.prog 98 #[.pointer (some ⟨b, 0, none⟩), .int .i64 i] w fun e w' => e = .returned (.int .i64 (spc c i)) ∧ Below w.heap.size w w' := by
  have := h.ok.e0; have := h.ok.s0; have := h.ok.t0
  have k : ∀ j, j < 28 → w.cell? ⟨b, j, none⟩ = some (af c g c.words.toNat x sw j) := fun j hj => h.own.cell hj
  exact space_core b 1 _ _ _ _ _ _ _ _ i _ rfl (by omega) (by omega) (by omega) (by omega) w (k 15 (by decide)) (k 16 (by decide)) (k 17 (by decide)) (k 18 (by decide)) (k 19 (by decide)) (k 20 (by decide)) (k 21 (by decide)) (k 22 (by decide)) (k 23 (by decide)) (k 24 (by decide)) (k 25 (by decide)) (k 26 (by decide))

end Go.Proofs.YtbgnagjhkfkekaaGreatDoor

