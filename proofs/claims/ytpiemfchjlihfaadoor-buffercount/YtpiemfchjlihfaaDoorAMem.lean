/-
  An arena in memory: its own block and its words.
-/
import Derived.Test.YtpiemfchjlihfaaDoorCTagA
import Derived.Deep.OwnRows
import Derived.Lib.LazyBuf
set_option linter.unusedVariables false
namespace Go.Proofs.YtpiemfchjlihfaaDoor
open Go.RowKit

/-- A configuration. -/
structure Cfg where
  eden : Int
  surv : Int
  ten : Int
  large : Int
  floor : Int
  num : Int
  den : Int
  target : Int
  maxAge : Int
  threads : Int
  slots : Int
  handles : Int
  buffer : Int
  workers : Int

/-- P3.1. -/
structure Cfg.Ok (c : Cfg) : Prop where
  e0 : 64 ≤ c.eden
  e1 : c.eden ≤ 65536
  s0 : 64 ≤ c.surv
  s1 : c.surv ≤ 65536
  t0 : 64 ≤ c.ten
  t1 : c.ten ≤ 65536
  l0 : 2 ≤ c.large
  l1 : c.large ≤ 65536
  f0 : 0 ≤ c.floor
  f1 : c.floor ≤ 65536
  d0 : 1 ≤ c.den
  n0 : c.den ≤ c.num
  n1 : c.num ≤ 65536
  g0 : 1 ≤ c.target
  g1 : c.target ≤ 100
  a0 : 1 ≤ c.maxAge
  a1 : c.maxAge ≤ 15
  h0 : 1 ≤ c.threads
  h1 : c.threads ≤ 8
  o0 : 1 ≤ c.slots
  o1 : c.slots ≤ 4096
  k0 : 0 ≤ c.handles
  k1 : c.handles ≤ 1024
  b0 : 0 ≤ c.buffer
  b1 : c.buffer ≤ c.eden
  w0 : 1 ≤ c.workers
  w1 : c.workers ≤ 8

/-- How many words the array has. -/
def Cfg.words (c : Cfg) : Int := 1 + c.eden + c.surv + c.surv + c.ten

/-- A space's first word, and the one behind its last (P3.4). -/
def fst (c : Cfg) (s : Int) : Int := if s = 1 then 1 else if s = 2 then 1 + c.eden else if s = 3 then 1 + c.eden + c.surv else if s = 4 then 1 + c.eden + c.surv + c.surv else 0
def bhd (c : Cfg) (s : Int) : Int := if s = 1 then 1 + c.eden else if s = 2 then 1 + c.eden + c.surv else if s = 3 then 1 + c.eden + c.surv + c.surv else if s = 4 then 1 + c.eden + c.surv + c.surv + c.ten else 0

/-- The tops. -/
structure Tps where
  t1 : Int
  t2 : Int
  t3 : Int
  t4 : Int

def Tps.top (x : Tps) (s : Int) : Int := if s = 1 then x.t1 else if s = 2 then x.t2 else if s = 3 then x.t3 else if s = 4 then x.t4 else 0

def Tps.put (x : Tps) (s v : Int) : Tps := ⟨if s = 1 then v else x.t1, if s = 2 then v else x.t2, if s = 3 then v else x.t3, if s = 4 then v else x.t4⟩

theorem Tps.top_put (x : Tps) (s v : Int) (h : 1 ≤ s ∧ s ≤ 4) : (x.put s v).top s = v := by
  obtain rfl | rfl | rfl | rfl : s = 1 ∨ s = 2 ∨ s = 3 ∨ s = 4 := by omega
  all_goals simp [Tps.put, Tps.top]

theorem Tps.top_put_ne (x : Tps) (s v r : Int) (h : r ≠ s) : (x.put s v).top r = x.top r := by
  unfold Tps.put Tps.top
  dsimp only
  repeat' split
  all_goals first | rfl | (exfalso; omega)

/-- The arena's own cells. -/
def af (c : Cfg) (g n : Nat) (x : Tps) (sw : Bool) : Nat → Value
  | 0 => .int .i64 c.eden
  | 1 => .int .i64 c.surv
  | 2 => .int .i64 c.ten
  | 3 => .int .i64 c.large
  | 4 => .int .i64 c.floor
  | 5 => .int .i64 c.num
  | 6 => .int .i64 c.den
  | 7 => .int .i64 c.target
  | 8 => .int .i64 c.maxAge
  | 9 => .int .i64 c.threads
  | 10 => .int .i64 c.slots
  | 11 => .int .i64 c.handles
  | 12 => .int .i64 c.buffer
  | 13 => .int .i64 c.workers
  | 14 => .slice (some ⟨g, 0, none⟩) n n
  | 15 => .int .i64 1
  | 16 => .int .i64 (1 + c.eden)
  | 17 => .int .i64 x.t1
  | 18 => .int .i64 (1 + c.eden)
  | 19 => .int .i64 (1 + c.eden + c.surv)
  | 20 => .int .i64 x.t2
  | 21 => .int .i64 (1 + c.eden + c.surv)
  | 22 => .int .i64 (1 + c.eden + c.surv + c.surv)
  | 23 => .int .i64 x.t3
  | 24 => .int .i64 (1 + c.eden + c.surv + c.surv)
  | 25 => .int .i64 (1 + c.eden + c.surv + c.surv + c.ten)
  | 26 => .int .i64 x.t4
  | _ => .bool sw

/-- The arena in block b, its words in block g. -/
structure Ar (w : World) (b g : Nat) (c : Cfg) (x : Tps) (sw : Bool) (ws : Nat → Int) : Prop where
  own : w.rowIs b 66 28 (af c g c.words.toNat x sw)
  row : w.rowIs g 36 c.words.toNat (fun j => .int .u64 (ws j))
  ok : c.Ok
  wd : ∀ j, Wd (ws j)
  t10 : 1 ≤ x.t1
  t11 : x.t1 ≤ 1 + c.eden
  t20 : 1 + c.eden ≤ x.t2
  t21 : x.t2 ≤ 1 + c.eden + c.surv
  t30 : 1 + c.eden + c.surv ≤ x.t3
  t31 : x.t3 ≤ 1 + c.eden + c.surv + c.surv
  t40 : 1 + c.eden + c.surv + c.surv ≤ x.t4
  t41 : x.t4 ≤ 1 + c.eden + c.surv + c.surv + c.ten

/-- From w to w' only the blocks of F may have turned; blocks may have been laid. -/
structure Touch (F : List Nat) (w w' : World) : Prop where
  os : w'.os = w.os
  tape : w'.tape = w.tape
  output : w'.output = w.output
  size : w.heap.size ≤ w'.heap.size
  block : ∀ k, k < w.heap.size → k ∉ F → w'.heap[k]? = w.heap[k]?

theorem Touch.refl (F : List Nat) (w : World) : Touch F w w := ⟨rfl, rfl, rfl, Nat.le_refl _, fun _ _ _ => rfl⟩

/-- A second step over blocks that the first one had or has laid. -/
theorem Touch.then {F G : List Nat} {a b c : World} (h : Touch F a b) (k : Touch G b c) (hs : ∀ x, x ∈ G → x ∈ F ∨ a.heap.size ≤ x) : Touch F a c :=
  ⟨k.os.trans h.os, k.tape.trans h.tape, k.output.trans h.output, Nat.le_trans h.size k.size,
    fun i hi hn => (k.block i (Nat.lt_of_lt_of_le hi h.size) (fun hm => by rcases hs i hm with h1 | h1; exact hn h1; omega)).trans (h.block i hi hn)⟩

theorem Touch.trans {F : List Nat} {a b c : World} (h : Touch F a b) (k : Touch F b c) : Touch F a c := h.then k (fun _ h => .inl h)

theorem Touch.of_below {w w' : World} (h : Below w.heap.size w w') (F : List Nat) : Touch F w w' :=
  ⟨h.os, h.tape, h.output, h.size, fun k hk _ => h.block k hk⟩

theorem Touch.below {F : List Nat} {w w' : World} {B : Nat} (h : Touch F w w') (hB : B ≤ w.heap.size) (hF : ∀ k, k ∈ F → B ≤ k) : Below B w w' :=
  ⟨h.os, h.tape, h.output, h.size, fun k hk => h.block k (by omega) (fun hm => by have := hF k hm; omega)⟩

theorem Touch.setCell {F : List Nat} (w : World) (a : Addr) (u : Value) (h : a.block ∈ F) : Touch F w (w.setCell a u) :=
  ⟨rfl, rfl, rfl, by simp [World.setCell], fun k _ hn => Below.heap_setCell _ _ _ _ (fun e => hn (e ▸ h))⟩

theorem Touch.setCells {F : List Nat} (b : Nat) (h : b ∈ F) : ∀ (vs : List Value) (o : Nat) (w : World), Touch F w (w.setCells b o vs)
  | [], _, w => Touch.refl F w
  | v :: r, o, w => (Touch.setCell w ⟨b, o, none⟩ v h).trans (Touch.setCells b h r (o + 1) _)

theorem Touch.drewN (F : List Nat) (w : World) (n : Nat) : Touch F w (w.drewN n) := ⟨rfl, rfl, rfl, Nat.le_refl _, fun _ _ _ => rfl⟩

theorem Touch.alloc (F : List Nat) (w : World) (o : Obj) : Touch F w (w.alloc o) :=
  ⟨rfl, rfl, rfl, by simp, fun k hk _ => Below.heap_alloc w o k hk⟩

theorem Ar.keep {w w' : World} {b g : Nat} {c : Cfg} {x : Tps} {sw : Bool} {ws : Nat → Int} (h : Ar w b g c x sw ws) (hb : w'.heap[b]? = w.heap[b]?) (hg : w'.heap[g]? = w.heap[g]?) : Ar w' b g c x sw ws :=
  ⟨h.own.of_block hb, h.row.of_block hg, h.ok, h.wd, h.t10, h.t11, h.t20, h.t21, h.t30, h.t31, h.t40, h.t41⟩

theorem Ar.below {w w' : World} {b g : Nat} {c : Cfg} {x : Tps} {sw : Bool} {ws : Nat → Int} (h : Ar w b g c x sw ws) (l : Below w.heap.size w w') : Ar w' b g c x sw ws :=
  h.keep (l.block _ h.own.lt) (l.block _ h.row.lt)

theorem Ar.touch {w w' : World} {b g : Nat} {c : Cfg} {x : Tps} {sw : Bool} {ws : Nat → Int} {F : List Nat} (h : Ar w b g c x sw ws) (l : Touch F w w') (hb : b ∉ F) (hg : g ∉ F) : Ar w' b g c x sw ws :=
  h.keep (l.block _ h.own.lt hb) (l.block _ h.row.lt hg)

theorem Ar.words {w : World} {b g : Nat} {c : Cfg} {x : Tps} {sw : Bool} {ws : Nat → Int} (h : Ar w b g c x sw ws) : 257 ≤ c.words ∧ c.words ≤ 262145 := by
  have := h.ok.e0; have := h.ok.e1; have := h.ok.s0; have := h.ok.s1; have := h.ok.t0; have := h.ok.t1
  unfold Cfg.words; omega

theorem Ar.ne {w : World} {b g : Nat} {c : Cfg} {x : Tps} {sw : Bool} {ws : Nat → Int} (h : Ar w b g c x sw ws) : b ≠ g := by
  rintro rfl
  obtain ⟨c1, h1, -, -⟩ := h.own
  obtain ⟨c2, h2, -, -⟩ := h.row
  rw [h1] at h2
  simp only [Option.some.injEq, Obj.cells.injEq] at h2
  exact absurd h2.2.1 (by decide)

/-- The word number i; 0 if there is none. -/
def wat (c : Cfg) (ws : Nat → Int) (i : Int) : Int := if 0 ≤ i ∧ i < c.words then ws i.toNat else 0

theorem Ar.wat_wd {w : World} {b g : Nat} {c : Cfg} {x : Tps} {sw : Bool} {ws : Nat → Int} (h : Ar w b g c x sw ws) (i : Int) : Wd (wat c ws i) := by
  unfold wat
  split
  · exact h.wd _
  · exact ⟨by decide, by decide⟩

theorem Ar.cell14 {w : World} {b g : Nat} {c : Cfg} {x : Tps} {sw : Bool} {ws : Nat → Int} (h : Ar w b g c x sw ws) : w.cell? ⟨b, 14, none⟩ = some (.slice (some ⟨g, 0, none⟩) c.words.toNat c.words.toNat) := h.own.cell (i := 14) (by decide)
theorem Ar.cell27 {w : World} {b g : Nat} {c : Cfg} {x : Tps} {sw : Bool} {ws : Nat → Int} (h : Ar w b g c x sw ws) : w.cell? ⟨b, 27, none⟩ = some (.bool sw) := h.own.cell (i := 27) (by decide)

theorem Ar.cellAt {w : World} {b g : Nat} {c : Cfg} {x : Tps} {sw : Bool} {ws : Nat → Int} (h : Ar w b g c x sw ws) (i : Int) (h0 : 0 ≤ i) (h1 : i < c.words) : w.cell? ⟨g, i.toNat, none⟩ = some (.int .u64 (wat c ws i)) := by
  rw [h.row.cell (i := i.toNat) (by omega), wat, if_pos ⟨h0, h1⟩]

end Go.Proofs.YtpiemfchjlihfaaDoor
