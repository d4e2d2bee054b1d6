/-
  Marks: a map in memory, the two tables, steps over blocks.
-/
import Derived.Test.YtlnfhnahnmblmabDoorMP
import Derived.WalkSpells
import Derived.WalkLawsBesides
import Derived.Below
import Derived.Deep.QuietTactic
import Derived.Deep.OwnRows
import Derived.BigQuiet
import Derived.Handy
import Derived.Laws.StructEq
import Derived.Shelf.Spec.TrailingZeros
set_option linter.unusedVariables false
namespace Go.Proofs.YtlnfhnahnmblmabDoor
open Go.RowKit

/-- From w to w' only the blocks of F may have turned; blocks may have been laid. -/
structure Touch (F : List Nat) (w w' : World) : Prop where
  os : w'.os = w.os
  tape : w'.tape = w.tape
  output : w'.output = w.output
  size : w.heap.size ≤ w'.heap.size
  block : ∀ k, k < w.heap.size → k ∉ F → w'.heap[k]? = w.heap[k]?

theorem Touch.refl (F : List Nat) (w : World) : Touch F w w := ⟨rfl, rfl, rfl, Nat.le_refl _, fun _ _ _ => rfl⟩

/-- A second step over blocks that the first one had or has laid. -/
theorem Touch.then {F G : List Nat} {a b c : World} (h : Touch F a b) (k : Touch G b c) (hs : ∀ x, x ∈ G → x ∈ F ∨ a.heap.size ≤ x) : Touch F a c :=
  ⟨k.os.trans h.os, k.tape.trans h.tape, k.output.trans h.output, Nat.le_trans h.size k.size,
    fun i hi hn => (k.block i (Nat.lt_of_lt_of_le hi h.size) (fun hm => by rcases hs i hm with h1 | h1; exact hn h1; omega)).trans (h.block i hi hn)⟩

theorem Touch.trans {F : List Nat} {a b c : World} (h : Touch F a b) (k : Touch F b c) : Touch F a c := h.then k (fun _ h => .inl h)

theorem Touch.wide {F G : List Nat} {a b : World} (h : Touch F a b) (hs : ∀ x, x ∈ F → x ∈ G ∨ a.heap.size ≤ x) : Touch G a b := (Touch.refl G a).then h hs

theorem Touch.of_below {w w' : World} (h : Below w.heap.size w w') (F : List Nat) : Touch F w w' :=
  ⟨h.os, h.tape, h.output, h.size, fun k hk _ => h.block k hk⟩

theorem Touch.below {F : List Nat} {w w' : World} {B : Nat} (h : Touch F w w') (hB : B ≤ w.heap.size) (hF : ∀ k, k ∈ F → B ≤ k) : Below B w w' :=
  ⟨h.os, h.tape, h.output, h.size, fun k hk => h.block k (by omega) (fun hm => by have := hF k hm; omega)⟩

theorem Touch.setCell {F : List Nat} (w : World) (a : Addr) (u : Value) (h : a.block ∈ F) : Touch F w (w.setCell a u) :=
  ⟨rfl, rfl, rfl, by simp [World.setCell], fun k _ hn => Below.heap_setCell _ _ _ _ (fun e => hn (e ▸ h))⟩

theorem Touch.drewN (F : List Nat) (w : World) (n : Nat) : Touch F w (w.drewN n) := ⟨rfl, rfl, rfl, Nat.le_refl _, fun _ _ _ => rfl⟩

theorem Touch.alloc (F : List Nat) (w : World) (o : Obj) : Touch F w (w.alloc o) :=
  ⟨rfl, rfl, rfl, by simp, fun k hk _ => Below.heap_alloc w o k hk⟩

theorem Touch.cell {F : List Nat} {w w' : World} (h : Touch F w w') {a : Addr} {v : Value} (hc : w.cell? a = some v) (hn : a.block ∉ F) : w'.cell? a = some v :=
  (World.cell?_of_block (w := w) (h.block _ (World.block_lt_of_cell? _ _ hc) hn)).trans hc

/-- What the two tables hold. -/
structure Laid (w : World) : Prop where
  tz : TabAt 1 Lib.deBruijn64tab w
  hb : ∀ j, j < 16 → w.cell? ⟨0, j, none⟩ = some (.int .i64 (half j : Nat))

theorem Laid.touch {F : List Nat} {w w' : World} (h : Laid w) (t : Touch F w w') (h1 : 1 ∉ F) (h2 : 0 ∉ F) : Laid w' :=
  ⟨fun j hj => t.cell (h.tz j hj) h1, fun j hj => t.cell (h.hb j hj) h2⟩
theorem Laid.below {w w' : World} (h : Laid w) (t : Below w.heap.size w w') : Laid w' := h.touch (Touch.of_below t []) (by simp) (by simp)
theorem Laid.size {w : World} (h : Laid w) : 1 < w.heap.size ∧ 0 < w.heap.size :=
  ⟨World.block_lt_of_cell? _ _ (h.tz 0 (by decide)), World.block_lt_of_cell? _ _ (h.hb 0 (by decide))⟩

/-- How many words of bits. -/
def wds (n : Nat) : Nat := (n + 63) / 64

/-- A map's own two cells. -/
def mf (n g : Nat) : Nat → Value
  | 0 => .int .i64 n
  | _ => .slice (some ⟨g, 0, none⟩) (wds n) (wds n)

/-- A map of n words in block b, its bits in block g. -/
structure Mp (w : World) (b g n : Nat) (M : Nat → Bool) : Prop where
  own : w.rowIs b 57 2 (mf n g)
  row : w.rowIs g 59 (wds n) (fun i => .int .u64 (wd M i : Nat))
  le : n ≤ 1048576
  out : ∀ k, n ≤ k → M k = false

theorem Mp.keep {w w' : World} {b g n : Nat} {M : Nat → Bool} (h : Mp w b g n M) (hb : w'.heap[b]? = w.heap[b]?) (hg : w'.heap[g]? = w.heap[g]?) : Mp w' b g n M :=
  ⟨h.own.of_block hb, h.row.of_block hg, h.le, h.out⟩
theorem Mp.below {w w' : World} {b g n : Nat} {M : Nat → Bool} (h : Mp w b g n M) (l : Below w.heap.size w w') : Mp w' b g n M := h.keep (l.block _ h.own.lt) (l.block _ h.row.lt)
theorem Mp.touch {w w' : World} {b g n : Nat} {M : Nat → Bool} {F : List Nat} (h : Mp w b g n M) (l : Touch F w w') (hb : b ∉ F) (hg : g ∉ F) : Mp w' b g n M := h.keep (l.block _ h.own.lt hb) (l.block _ h.row.lt hg)
theorem Mp.c0 {w : World} {b g n : Nat} {M : Nat → Bool} (h : Mp w b g n M) : w.cell? ⟨b, 0, none⟩ = some (.int .i64 n) := h.own.cell (i := 0) (by decide)
theorem Mp.c1 {w : World} {b g n : Nat} {M : Nat → Bool} (h : Mp w b g n M) : w.cell? ⟨b, 1, none⟩ = some (.slice (some ⟨g, 0, none⟩) (wds n) (wds n)) := h.own.cell (i := 1) (by decide)
theorem Mp.at {w : World} {b g n : Nat} {M : Nat → Bool} (h : Mp w b g n M) {i : Nat} (hi : i < wds n) : w.cell? ⟨g, i, none⟩ = some (.int .u64 (wd M i : Nat)) := h.row.cell hi

theorem Mp.ne {w : World} {b g n : Nat} {M : Nat → Bool} (h : Mp w b g n M) : b ≠ g := by
  rintro rfl
  obtain ⟨c1, h1, -, -⟩ := h.own
  obtain ⟨c2, h2, -, -⟩ := h.row
  rw [h1] at h2
  simp only [Option.some.injEq, Obj.cells.injEq] at h2
  exact absurd h2.2.1 (by decide)

theorem Mp.congr {w : World} {b g n : Nat} {M N : Nat → Bool} (h : Mp w b g n M) (e : ∀ k, M k = N k) : Mp w b g n N := by
  have : M = N := funext e
  subst this; exact h

end Go.Proofs.YtlnfhnahnmblmabDoor
