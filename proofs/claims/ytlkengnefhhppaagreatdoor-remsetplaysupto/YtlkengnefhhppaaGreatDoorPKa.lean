import Derived.Test.YtlkengnefhhppaaGreatDoorRows
import Derived.WalkKit
import Derived.WalkSpells
import Derived.WalkLawsBesides
import Derived.RangeFuncBox
import Derived.Maps.AppendAt
import Derived.Deep.QuietTactic
import Derived.BigQuiet
import Derived.Deep.DeepFit
import Derived.Deep.OwnRows
import Derived.Deep.Cut
import Derived.Deep.CutRange
import Derived.Handy
import Derived.Deep.MidRow
import Derived.Deep.WholeRow
set_option linter.unusedVariables false
set_option maxHeartbeats 8000000
set_option maxRecDepth 20000
namespace Go.Proofs.YtlkengnefhhppaaGreatDoor.Kg
open Go.RowKit
structure Touch (F : List Nat) (w w' : World) : Prop where
 os : w'.os = w.os
 tape : w'.tape = w.tape
 output : w'.output = w.output
 size : w.heap.size ≤ w'.heap.size
 block : ∀ k, k < w.heap.size → k ∉ F → w'.heap[k]? = w.heap[k]?
theorem Touch.refl (F : List Nat) (w : World) : Touch F w w := ⟨rfl, rfl, rfl, Nat.le_refl _, fun _ _ _ => rfl⟩
theorem Touch.mono {F G : List Nat} {a b : World} (h : Touch F a b) (hs : ∀ k, k ∈ F → k ∈ G ∨ a.heap.size ≤ k) : Touch G a b :=
 ⟨h.os, h.tape, h.output, h.size, fun k hk hn => h.block k hk (fun hm => by rcases hs k hm with h1 | h1; exact hn h1; omega)⟩
theorem Touch.trans {F : List Nat} {a b c : World} (h : Touch F a b) (k : Touch F b c) : Touch F a c :=
 ⟨k.os.trans h.os, k.tape.trans h.tape, k.output.trans h.output, Nat.le_trans h.size k.size,
  fun i hi hn => (k.block i (Nat.lt_of_lt_of_le hi h.size) hn).trans (h.block i hi hn)⟩
theorem Touch.then {F G : List Nat} {a b c : World} (h : Touch F a b) (k : Touch G b c) (hs : ∀ x, x ∈ G → x ∈ F ∨ a.heap.size ≤ x) : Touch F a c :=
 ⟨k.os.trans h.os, k.tape.trans h.tape, k.output.trans h.output, Nat.le_trans h.size k.size,
  fun i hi hn => (k.block i (Nat.lt_of_lt_of_le hi h.size) (fun hm => by rcases hs i hm with h1 | h1; exact hn h1; omega)).trans (h.block i hi hn)⟩
theorem Touch.drewN (F : List Nat) (w : World) (n : Nat) : Touch F w (w.drewN n) := ⟨rfl, rfl, rfl, Nat.le_refl _, fun _ _ _ => rfl⟩
theorem Touch.drew (F : List Nat) (w : World) : Touch F w w.drew := ⟨rfl, rfl, rfl, Nat.le_refl _, fun _ _ _ => rfl⟩
theorem Touch.alloc (F : List Nat) (w : World) (o : Obj) : Touch F w (w.alloc o) :=
 ⟨rfl, rfl, rfl, by simp, fun k hk _ => Below.heap_alloc w o k hk⟩
theorem Touch.setCell {F : List Nat} (w : World) (a : Addr) (u : Value) (h : a.block ∈ F) : Touch F w (w.setCell a u) :=
 ⟨rfl, rfl, rfl, by simp [World.setCell], fun k _ hn => Below.heap_setCell _ _ _ _ (fun e => hn (e ▸ h))⟩
theorem Touch.grown {F : List Nat} {w w' : World} {row : Option Nat} (hg : w.grownBy w' row) (hr : ∀ k, row = some k → k ∈ F) : Touch F w w' :=
 ⟨hg.os, hg.tape, hg.output, hg.size, fun k hk hn => hg.block k hk (fun e => hn (hr k e.symm))⟩
theorem Touch.below {F : List Nat} {w w' : World} {B : Nat} (h : Touch F w w') (hB : B ≤ w.heap.size) (hF : ∀ k, k ∈ F → B ≤ k) : Below B w w' :=
 ⟨h.os, h.tape, h.output, h.size, fun k hk => h.block k (by omega) (fun hm => by have := hF k hm; omega)⟩
theorem Touch.of_below {w w' : World} (h : Below w.heap.size w w') (F : List Nat) : Touch F w w' :=
 ⟨h.os, h.tape, h.output, h.size, fun k hk _ => h.block k hk⟩
def Newer (n : Nat) (F F' : List Nat) : Prop := ∀ k, k ∈ F' → k ∈ F ∨ n ≤ k
theorem Newer.refl (n : Nat) (F : List Nat) : Newer n F F := fun _ h => .inl h
theorem heap_cell {w : World} {b t : Nat} {cs : Array Value} (h : w.heap[b]? = some (.cells cs t (0, 0))) (j : Nat) : w.cell? ⟨b, j, none⟩ = cs[j]? := cell_of_row w b j cs t (0, 0) h
theorem heap_frozen {w : World} {b t : Nat} {cs : Array Value} (h : w.heap[b]? = some (.cells cs t (0, 0))) (j : Nat) : w.frozen? ⟨b, j, none⟩ = false := by
 simp [World.frozen?, h]
theorem heap_set {w : World} {b t : Nat} {cs : Array Value} (h : w.heap[b]? = some (.cells cs t (0, 0))) (j : Nat) (u : Value) :
  (w.setCell ⟨b, j, none⟩ u).heap[b]? = some (.cells (cs.setIfInBounds j u) t (0, 0)) := by
 simp [World.setCell, Array.getElem?_modify, h]
theorem heap_lt {w : World} {b : Nat} {o : Obj} (h : w.heap[b]? = some o) : b < w.heap.size := (Array.getElem?_eq_some_iff.1 h).1
theorem row_base {w : World} {base base' n e size : Nat} {v : Value} {xs : List Value} (h : w.ownsRow base e size v n xs) (hle : base' ≤ base) : w.ownsRow base' e size v n xs := by
 refine ⟨h.1, ?_⟩
 rcases h.2 with hn | ⟨g, cap, cur, rfl, hb, rest⟩
 ·exact .inl hn
 ·exact .inr ⟨g, cap, cur, rfl, by omega, rest⟩
theorem row_keep2 {w w' : World} {base n e size : Nat} {v : Value} {xs : List Value} {G : List Nat} (h : w.ownsRow base e size v n xs) (ht : Touch G w w') (ha : ∀ k, v.ownBlock = some k → k ∉ G) : w'.ownsRow base e size v n xs := by
 refine ⟨h.1, ?_⟩
 rcases h.2 with hn | ⟨g, cap, cur, rfl, hb', hg, rest⟩
 ·exact .inl hn
 ·refine .inr ⟨g, cap, cur, rfl, hb', ?_, rest⟩
  rw [ht.block g (heap_lt hg) (ha g rfl)]; exact hg
theorem Tryz.infoInt : (Tryz.prog.info? 3).map (fun i => (i.zero, i.size, i.bytes)) = some (some (.int .i64 0), 1, 8) := by kernel_rfl
abbrev ints (xs : List Int) : List Value := xs.map (Value.int .i64)
theorem row_ne {w : World} {b base t n : Nat} {cs : Array Value} {v : Value} {xs : List Value} {e : Nat} (hh : w.heap[b]? = some (.cells cs t (0, 0))) (hr : w.ownsRow base e 1 v n xs) (hte : t ≠ e := by decide) : some b ≠ v.ownBlock := by
 intro h
 rcases hr.2 with ⟨rfl, _⟩ | ⟨g, cap, cur, rfl, _, hg, _⟩
 ·simp [Value.ownBlock] at h
 ·simp only [Value.ownBlock, Option.some.injEq] at h
  subst h
  rw [hh] at hg
  simp only [Option.some.injEq, Obj.cells.injEq] at hg
  exact hte hg.2.1
theorem ownsRow_setOther {w : World} {base : Nat} {e : TypeId} {size : Nat} {v : Value} {n : Nat} {xs : List Value} (h : w.ownsRow base e size v n xs) {a : Addr} (ha : some a.block ≠ v.ownBlock) (u : Value) : (w.setCell a u).ownsRow base e size v n xs := by
 obtain ⟨h1, h2⟩ := h
 refine ⟨h1, ?_⟩
 rcases h2 with h2 | ⟨g, cap, cur, rfl, hg, hh, r⟩
 ·exact Or.inl h2
 ·exact Or.inr ⟨g, cap, cur, rfl, hg, by rw [Below.heap_setCell _ _ _ _ (fun e => ha (by rw [← e]; rfl))]; exact hh, r⟩
def bkc (f : Nat → Value) : Array Value := ((List.range 121).map f).toArray
theorem bkc_size (f : Nat → Value) : (bkc f).size = 121 := by simp [bkc]
theorem bkc_get (f : Nat → Value) (i : Nat) (h : i < 121) : (bkc f)[i]? = some (f i) := by simp [bkc, h]
def put (f : Nat → Value) (j : Nat) (v : Value) : Nat → Value := fun i => if i = j then v else f i
theorem put_same (f : Nat → Value) (j : Nat) (v : Value) : put f j v j = v := by simp [put]
theorem put_ne (f : Nat → Value) {j i : Nat} (v : Value) (h : i ≠ j) : put f j v i = f i := by simp [put, h]
theorem put_self (f : Nat → Value) (j : Nat) (v : Value) (h : f j = v) : put f j v = f := by
 funext i; unfold put; split
 ·subst_vars; rfl
 ·rfl
theorem bkc_set (f : Nat → Value) (i : Nat) (v : Value) (h : i < 121) : (bkc f).setIfInBounds i v = bkc (put f i v) := by
 apply Array.ext_getElem?
 intro j
 rw [Array.getElem?_setIfInBounds]
 by_cases hj : i = j
 ·subst hj
  rw [if_pos rfl, bkc_get _ _ h, put_same]; simp [bkc_size]; omega
 ·rw [if_neg hj]
  by_cases hj2 : j < 121
  ·rw [bkc_get _ _ hj2, bkc_get _ _ hj2, put_ne _ _ (fun e => hj e.symm)]
  ·rw [Array.getElem?_eq_none (by rw [bkc_size]; omega), Array.getElem?_eq_none (by rw [bkc_size]; omega)]
def Bk (w : World) (b : Nat) (f : Nat → Value) : Prop := w.heap[b]? = some (.cells (bkc f) 75 (0, 0))
theorem Bk.cell {w : World} {b : Nat} {f : Nat → Value} (h : Bk w b f) (i : Nat) (hi : i < 121 := by decide) : w.cell? ⟨b, i, none⟩ = some (f i) := (heap_cell h i).trans (bkc_get f i hi)
theorem Bk.frozen {w : World} {b : Nat} {f : Nat → Value} (h : Bk w b f) (i : Nat) : w.frozen? ⟨b, i, none⟩ = false := heap_frozen h i
theorem Bk.set {w : World} {b : Nat} {f : Nat → Value} (h : Bk w b f) (i : Nat) (v : Value) (hi : i < 121 := by decide) : Bk (w.setCell ⟨b, i, none⟩ v) b (put f i v) := by
 have := heap_set h i v
 rw [bkc_set f i v hi] at this
 exact this
theorem Bk.touch {w w' : World} {b : Nat} {f : Nat → Value} {G : List Nat} (h : Bk w b f) (ht : Touch G w w') (hb : b ∉ G) : Bk w' b f := (ht.block b (heap_lt h) hb).trans h
theorem Bk.lt {w : World} {b : Nat} {f : Nat → Value} (h : Bk w b f) : b < w.heap.size := heap_lt h
structure Nil9 (f : Nat → Value) (o : Nat) : Prop where
 c0 : f o = .slice none 0 0
 c1 : f (o + 1) = .slice none 0 0
 c2 : f (o + 2) = .slice none 0 0
 c3 : f (o + 3) = .slice none 0 0
 c4 : f (o + 4) = .slice none 0 0
 c5 : f (o + 5) = .slice none 0 0
 c6 : f (o + 6) = .slice none 0 0
 c7 : f (o + 7) = .slice none 0 0
end Go.Proofs.YtlkengnefhhppaaGreatDoor.Kg
