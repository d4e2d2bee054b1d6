import Derived.Test.YtbgnagjhkfkekaaGreatDoorRows
import Derived.WalkKit
import Derived.Laws.BitsAllLaws
import Derived.Lib.TrailingZeros
import Derived.WalkSpells
import Derived.WalkLawsBesides
import Derived.Below
import Derived.Deep.QuietTactic
import Derived.Deep.OwnRows
import Derived.BigQuiet
import Derived.Handy
import Derived.Laws.StructEq
import Derived.Shelf.Spec.TrailingZeros
import Derived.RangeFuncNested
import Derived.RangeFuncBound
import Derived.RangeFuncCalls
import Derived.RangeFuncLeaves
import Derived.Shelf.Abstract
import Derived.Shelf.RegionOpen
import Derived.OwnWalkIn
import Derived.TacticsInMore
import Derived.LoopNIn
import Derived.LoopIn
import Derived.StillTail
/-
  Marks: the pure side. Words out of truths, counts, pieces.
-/
set_option linter.unusedVariables false
namespace Go.Proofs.YtbgnagjhkfkekaaGreatDoor.Mk
open Go.RowKit

/-- A number out of truths: bit j is f j, for j below k. -/
def bld (f : Nat → Bool) : Nat → Nat
  | 0 => 0
  | k + 1 => 2 ^ k * (f k).toNat + bld f k

theorem bld_lt (f : Nat → Bool) : ∀ k, bld f k < 2 ^ k
  | 0 => by simp [bld]
  | k + 1 => by
    have := bld_lt f k
    simp only [bld, Nat.pow_succ]
    cases f k <;> simp <;> omega

theorem bld_bit (f : Nat → Bool) : ∀ k j, (bld f k).testBit j = (decide (j < k) && f j)
  | 0, j => by simp [bld]
  | k + 1, j => by
    simp only [bld]
    rw [Nat.testBit_two_pow_mul_add _ (bld_lt f k), bld_bit f k j]
    by_cases h : j < k
    · simp [h, show j < k + 1 by omega]
    · by_cases h2 : j = k
      · subst h2; cases f j <;> simp
      · have h3 : ¬ j < k + 1 := by omega
        have h4 : j - k ≠ 0 := by omega
        obtain ⟨d, hd⟩ : ∃ d, j - k = d + 1 := ⟨j - k - 1, by omega⟩
        simp only [h, h3, if_false, decide_false, Bool.false_and, hd]
        cases f k <;> simp [Nat.testBit_succ]

/-- The word number i of these marks. -/
def wd (M : Nat → Bool) (i : Nat) : Nat := bld (fun j => M (64 * i + j)) 64

theorem wd_lt (M : Nat → Bool) (i : Nat) : wd M i < 18446744073709551616 := bld_lt _ 64
theorem wd_bit (M : Nat → Bool) (i j : Nat) : (wd M i).testBit j = (decide (j < 64) && M (64 * i + j)) := bld_bit _ 64 j

theorem wd_congr {M N : Nat → Bool} {i : Nat} (h : ∀ j, j < 64 → M (64 * i + j) = N (64 * i + j)) : wd M i = wd N i := by
  apply Nat.eq_of_testBit_eq
  intro j
  rw [wd_bit, wd_bit]
  by_cases hj : j < 64
  · rw [h j hj]
  · simp [hj]

theorem wd_none (i : Nat) : wd (fun _ => false) i = 0 := by
  apply Nat.eq_of_testBit_eq
  intro j
  rw [wd_bit]; simp

/-- The bits from a up to ahead of b. -/
def mk (a b : Nat) : Nat := 2 ^ b - 2 ^ a

theorem mk_bit {a b : Nat} (h : a ≤ b) (j : Nat) : (mk a b).testBit j = (decide (a ≤ j) && decide (j < b)) := by
  have h1 : 2 ^ a ≤ 2 ^ b := Nat.pow_le_pow_right (by omega) h
  have h0 : 0 < 2 ^ a := Nat.two_pow_pos a
  have e : mk a b = 2 ^ b - ((2 ^ a - 1) + 1) := by unfold mk; omega
  rw [e, Nat.testBit_two_pow_sub_succ (by omega), Nat.testBit_two_pow_sub_one]
  by_cases h2 : j < a
  · simp [h2, show ¬ a ≤ j by omega]
  · simp [h2, show a ≤ j by omega]

theorem mk_lt {a b : Nat} (hb : b ≤ 64) : mk a b < 18446744073709551616 := by
  have h1 : 2 ^ b ≤ 2 ^ 64 := Nat.pow_le_pow_right (by omega) hb
  have h0 : 0 < 2 ^ a := Nat.two_pow_pos a
  unfold mk
  omega

/-- How many below n. -/
def rk (M : Nat → Bool) : Nat → Nat
  | 0 => 0
  | n + 1 => rk M n + (M n).toNat

theorem rk_le (M : Nat → Bool) : ∀ n, rk M n ≤ n
  | 0 => by simp [rk]
  | n + 1 => by have := rk_le M n; simp only [rk]; cases M n <;> simp <;> omega

theorem rk_mono (M : Nat → Bool) {a b : Nat} (h : a ≤ b) : rk M a ≤ rk M b := by
  induction h with
  | refl => exact Nat.le_refl _
  | step h ih => simp only [rk]; omega

theorem rk_add (M : Nat → Bool) (a : Nat) : ∀ n, rk M (a + n) = rk M a + rk (fun j => M (a + j)) n
  | 0 => by simp [rk]
  | n + 1 => by
    rw [← Nat.add_assoc]
    simp only [rk]
    rw [rk_add M a n]; omega

theorem rk_congr {M N : Nat → Bool} : ∀ n, (∀ j, j < n → M j = N j) → rk M n = rk N n
  | 0, _ => by simp [rk]
  | n + 1, h => by
    simp only [rk]
    rw [rk_congr n (fun j hj => h j (by omega)), h n (by omega)]

theorem rk_none {M : Nat → Bool} : ∀ n, (∀ j, j < n → M j = false) → rk M n = 0
  | 0, _ => by simp [rk]
  | n + 1, h => by
    simp only [rk]
    rw [rk_none n (fun j hj => h j (by omega)), h n (by omega)]; rfl

/-- Two marked words with as many below them are one. -/
theorem rk_inj {M : Nat → Bool} {a b : Nat} (ha : M a = true) (hb : M b = true) (h : rk M a = rk M b) : a = b := by
  rcases Nat.lt_trichotomy a b with h1 | h1 | h1
  · have := rk_mono M (show a + 1 ≤ b by omega); simp only [rk, ha, Bool.toNat_true] at this; omega
  · exact h1
  · have := rk_mono M (show b + 1 ≤ a by omega); simp only [rk, hb, Bool.toNat_true] at this; omega

theorem rk_lt {M : Nat → Bool} {a n : Nat} (ha : M a = true) (h : a < n) : rk M a < rk M n := by
  have := rk_mono M (show a + 1 ≤ n by omega); simp only [rk, ha, Bool.toNat_true] at this; omega

/-- Each number below the count is some word's. -/
theorem rk_at {M : Nat → Bool} : ∀ n t, t < rk M n → ∃ a, a < n ∧ M a = true ∧ rk M a = t
  | 0, t, h => by simp [rk] at h
  | n + 1, t, h => by
    by_cases h1 : t < rk M n
    · obtain ⟨a, h2, h3, h4⟩ := rk_at n t h1
      exact ⟨a, by omega, h3, h4⟩
    · simp only [rk] at h
      cases hm : M n <;> rw [hm] at h <;> simp at h
      · omega
      · exact ⟨n, by omega, hm, by omega⟩

/-- How many bits are set. -/
def pop (u : Nat) : Nat := rk u.testBit 64

theorem pop_le (u : Nat) : pop u ≤ 64 := rk_le _ 64
theorem pop_zero : pop 0 = 0 := rk_none 64 (fun j _ => by simp)

theorem rk_div16 (u : Nat) (h : u < 18446744073709551616) : pop u = rk (u % 16).testBit 4 + pop (u / 16) := by
  unfold pop
  have e := rk_add u.testBit 4 60
  rw [show (4 : Nat) + 60 = 64 by rfl] at e
  rw [e]
  have e1 : rk u.testBit 4 = rk (u % 16).testBit 4 := rk_congr 4 (fun j hj => by
    rw [show (16 : Nat) = 2 ^ 4 by rfl, Nat.testBit_mod_two_pow]; simp [hj])
  have e2 : rk (fun j => u.testBit (4 + j)) 60 = rk (u / 16).testBit 60 := rk_congr 60 (fun j _ => by
    rw [show (16 : Nat) = 2 ^ 4 by rfl, Nat.testBit_div_two_pow, Nat.add_comm])
  have e3 : rk (u / 16).testBit 64 = rk (u / 16).testBit 60 + rk (fun j => (u / 16).testBit (60 + j)) 4 := rk_add (u / 16).testBit 60 4
  have e4 : rk (fun j => (u / 16).testBit (60 + j)) 4 = 0 := rk_none 4 (fun j _ => by
    apply Nat.testBit_lt_two_pow
    have : 2 ^ 60 ≤ 2 ^ (60 + j) := Nat.pow_le_pow_right (by omega) (by omega)
    omega)
  rw [e1, e2, e3, e4]; omega

/-- The table of half bytes. -/
def half (i : Nat) : Nat := rk i.testBit 4

/-- A word's bits of a stretch, counted. -/
theorem pop_piece (M : Nat → Bool) (i a b : Nat) (h : a ≤ b) (hb : b ≤ 64) : pop (wd M i &&& mk a b) + rk M (64 * i + a) = rk M (64 * i + b) := by
  have key : ∀ n, n ≤ 64 → rk (wd M i &&& mk a b).testBit n + rk M (64 * i + min n a) = rk M (64 * i + min n b) := by
    intro n
    induction n with
    | zero => intro _; simp [rk]
    | succ n ih =>
      intro hn
      have ih := ih (by omega)
      simp only [rk]
      have eb : (wd M i &&& mk a b).testBit n = (M (64 * i + n) && (decide (a ≤ n) && decide (n < b))) := by
        rw [Nat.testBit_and, wd_bit, mk_bit h]; simp [show n < 64 by omega]
      rw [eb]
      by_cases h1 : n < a
      · rw [show min (n + 1) a = min n a + 1 by omega, show min (n + 1) b = min n b + 1 by omega, show min n a = n by omega, show min n b = n by omega]
        rw [show min n a = n by omega, show min n b = n by omega] at ih
        rw [← Nat.add_assoc]
        simp only [rk, show ¬ a ≤ n by omega, decide_false, Bool.false_and, Bool.and_false, Bool.toNat_false]
        omega
      · by_cases h2 : n < b
        · rw [show min (n + 1) a = a by omega, show min (n + 1) b = n + 1 by omega]
          rw [show min n a = a by omega, show min n b = n by omega] at ih
          rw [← Nat.add_assoc (64 * i)]
          simp only [rk, show a ≤ n by omega, h2, decide_true, Bool.and_true]
          omega
        · rw [show min (n + 1) a = a by omega, show min (n + 1) b = b by omega]
          rw [show min n a = a by omega, show min n b = b by omega] at ih
          simp only [h2, decide_false, Bool.and_false, Bool.toNat_false]
          omega
  have := key 64 (by omega)
  rw [show min 64 a = a by omega, show min 64 b = b by omega] at this
  exact this

theorem mk_full : mk 0 64 = 18446744073709551615 := by decide

theorem and_full {u : Nat} (h : u < 18446744073709551616) : u &&& mk 0 64 = u := by
  apply Nat.eq_of_testBit_eq
  intro j
  rw [Nat.testBit_and, mk_bit (by omega)]
  by_cases hj : j < 64
  · simp [hj]
  · have : u.testBit j = false := Nat.testBit_lt_two_pow (Nat.lt_of_lt_of_le h (by
      have : 2 ^ 64 ≤ 2 ^ j := Nat.pow_le_pow_right (by omega) (by omega)
      omega))
    simp [this]

theorem pop_wd (M : Nat → Bool) (i : Nat) : pop (wd M i) + rk M (64 * i) = rk M (64 * i + 64) := by
  have := pop_piece M i 0 64 (by omega) (by omega)
  rwa [and_full (wd_lt M i)] at this

/-- Where the lowest set bit stands. -/
theorem ctz_spec {u : Nat} (h0 : u ≠ 0) (h : u < 18446744073709551616) : Lib.ctz 64 u < 64 ∧ u.testBit (Lib.ctz 64 u) = true ∧ (∀ j, j < Lib.ctz 64 u → u.testBit j = false) := by
  have e : Lib.ctz 64 u = Lib.ctzFrom 64 u := by simp [Lib.ctz, h0]
  obtain ⟨m, hm, hk⟩ := Lib.ctzFrom_spec 64 u (by omega) h
  rw [e]
  generalize Lib.ctzFrom 64 u = q at hm hk
  have hb : ∀ j, u.testBit j = if j < q then false else (2 * m + 1).testBit (j - q) := by
    intro j
    have := Nat.testBit_two_pow_mul_add (2 * m + 1) (b := 0) (i := q) (Nat.two_pow_pos q) j
    rw [Nat.add_zero, ← hm] at this
    simpa using this
  refine ⟨hk, ?_, ?_⟩
  · rw [hb]; simp
  · intro j hj; rw [hb]; simp [hj]

/-- The lowest set bit struck. -/
theorem strike {u : Nat} (h0 : u ≠ 0) (h : u < 18446744073709551616) (j : Nat) : (u &&& (u - 1)).testBit j = (u.testBit j && decide (j ≠ Lib.ctz 64 u)) := by
  have e : Lib.ctz 64 u = Lib.ctzFrom 64 u := by simp [Lib.ctz, h0]
  obtain ⟨m, hm, hk⟩ := Lib.ctzFrom_spec 64 u (by omega) h
  rw [e]
  generalize Lib.ctzFrom 64 u = q at hm hk
  have hp : 0 < 2 ^ q := Nat.two_pow_pos q
  have hb : ∀ j, u.testBit j = if j < q then false else (2 * m + 1).testBit (j - q) := by
    intro j
    have := Nat.testBit_two_pow_mul_add (2 * m + 1) (b := 0) (i := q) hp j
    rw [Nat.add_zero, ← hm] at this
    simpa using this
  have he : u - 1 = 2 ^ q * (2 * m) + (2 ^ q - 1) := by
    rw [hm, Nat.mul_add]; omega
  have hc : ∀ j, (u - 1).testBit j = if j < q then decide (j < q) else (2 * m).testBit (j - q) := by
    intro j
    rw [he, Nat.testBit_two_pow_mul_add (2 * m) (b := 2 ^ q - 1) (i := q) (by omega) j, Nat.testBit_two_pow_sub_one]
  rw [Nat.testBit_and, hb, hc]
  by_cases h1 : j < q
  · simp [h1]
  · by_cases h2 : j = q
    · subst h2; simp
    · obtain ⟨d, hd⟩ : ∃ d, j - q = d + 1 := ⟨j - q - 1, by omega⟩
      simp only [h1, if_false, hd, Nat.testBit_succ, h2, ne_eq, not_false_eq_true, decide_true, Bool.and_true]
      rw [show (2 * m + 1) / 2 = m by omega, show 2 * m / 2 = m by omega, Bool.and_self]

theorem rk_strike {u : Nat} (h0 : u ≠ 0) (h : u < 18446744073709551616) {p : Nat} (hp : u.testBit p = true) (hne : p ≠ Lib.ctz 64 u) : (u &&& (u - 1)).testBit p = true ∧ rk (u &&& (u - 1)).testBit p + 1 = rk u.testBit p := by
  obtain ⟨hq, hs, hl⟩ := ctz_spec h0 h
  have hst := strike h0 h
  generalize Lib.ctz 64 u = q at *
  have hqp : q < p := by
    rcases Nat.lt_trichotomy p q with h1 | h1 | h1
    · rw [hl p h1] at hp; cases hp
    · exact absurd h1 hne
    · exact h1
  refine ⟨by rw [hst, hp]; simp [hne], ?_⟩
  have key : ∀ n, rk (u &&& (u - 1)).testBit n + (decide (q < n)).toNat = rk u.testBit n := by
    intro n
    induction n with
    | zero => simp [rk]
    | succ n ih =>
      simp only [rk, hst n]
      by_cases h1 : n = q
      · subst h1; simp [hs] at ih ⊢; omega
      · by_cases h2 : q < n
        · simp [h1, h2, show q < n + 1 by omega] at ih ⊢; omega
        · simp [h1, h2, show ¬ q < n + 1 by omega] at ih ⊢; omega
  have := key p
  simpa [hqp] using this

/-- A stretch of words with these marks beside. -/
def add (M : Nat → Bool) (f e : Nat) : Nat → Bool := fun k => M k || (decide (f ≤ k) && decide (k < e))

theorem wd_or (M : Nat → Bool) (i a b : Nat) (h : a ≤ b) (hb : b ≤ 64) : wd M i ||| mk a b = wd (add M (64 * i + a) (64 * i + b)) i := by
  apply Nat.eq_of_testBit_eq
  intro j
  rw [Nat.testBit_or, wd_bit, wd_bit, mk_bit h]
  unfold add
  by_cases hj : j < 64
  · simp [hj]
  · simp [hj]; omega

theorem wd_other (M : Nat → Bool) (i k a b : Nat) (h : a ≤ b) (hb : b ≤ 64) (hk : k ≠ i) : wd (add M (64 * i + a) (64 * i + b)) k = wd M k := by
  apply wd_congr
  intro j hj
  unfold add
  have : (decide (64 * i + a ≤ 64 * k + j) && decide (64 * k + j < 64 * i + b)) = false := by
    simp; omega
  rw [this]; simp

end Go.Proofs.YtbgnagjhkfkekaaGreatDoor.Mk

/-
  Marks: a map in memory, the two tables, steps over blocks.
-/
set_option linter.unusedVariables false
namespace Go.Proofs.YtbgnagjhkfkekaaGreatDoor.Mk
open Go.RowKit

/-- From w to w' only the blocks of F may have turned; blocks may have been laid. -/
structure Touch (F : List Nat) (w w' : World) : Prop where
  os : w'.os = w.os
  tape : w'.tape = w.tape
  output : w'.output = w.output
  size : w.heap.size ≤ w'.heap.size
  block : ∀ k, k < w.heap.size → k ∉ F → w'.heap[k]? = w.heap[k]?

theorem Touch.refl (F : List Nat) (w : World) : Touch F w w := ⟨rfl, rfl, rfl, Nat.le_refl _, fun _ _ _ => rfl⟩

/-- A second step over blocks that the first one had or has laid. -/
theorem Touch.then {F G : List Nat} {a b c : World} (h : Touch F a b) (k : Touch G b c) (hs : ∀ x, x ∈ G → x ∈ F ∨ a.heap.size ≤ x) : Touch F a c :=
  ⟨k.os.trans h.os, k.tape.trans h.tape, k.output.trans h.output, Nat.le_trans h.size k.size,
    fun i hi hn => (k.block i (Nat.lt_of_lt_of_le hi h.size) (fun hm => by rcases hs i hm with h1 | h1; exact hn h1; omega)).trans (h.block i hi hn)⟩

theorem Touch.trans {F : List Nat} {a b c : World} (h : Touch F a b) (k : Touch F b c) : Touch F a c := h.then k (fun _ h => .inl h)

theorem Touch.wide {F G : List Nat} {a b : World} (h : Touch F a b) (hs : ∀ x, x ∈ F → x ∈ G ∨ a.heap.size ≤ x) : Touch G a b := (Touch.refl G a).then h hs

theorem Touch.of_below {w w' : World} (h : Below w.heap.size w w') (F : List Nat) : Touch F w w' :=
  ⟨h.os, h.tape, h.output, h.size, fun k hk _ => h.block k hk⟩

theorem Touch.below {F : List Nat} {w w' : World} {B : Nat} (h : Touch F w w') (hB : B ≤ w.heap.size) (hF : ∀ k, k ∈ F → B ≤ k) : Below B w w' :=
  ⟨h.os, h.tape, h.output, h.size, fun k hk => h.block k (by omega) (fun hm => by have := hF k hm; omega)⟩

theorem Touch.setCell {F : List Nat} (w : World) (a : Addr) (u : Value) (h : a.block ∈ F) : Touch F w (w.setCell a u) :=
  ⟨rfl, rfl, rfl, by simp [World.setCell], fun k _ hn => Below.heap_setCell _ _ _ _ (fun e => hn (e ▸ h))⟩

theorem Touch.drewN (F : List Nat) (w : World) (n : Nat) : Touch F w (w.drewN n) := ⟨rfl, rfl, rfl, Nat.le_refl _, fun _ _ _ => rfl⟩

theorem Touch.alloc (F : List Nat) (w : World) (o : Obj) : Touch F w (w.alloc o) :=
  ⟨rfl, rfl, rfl, by simp, fun k hk _ => Below.heap_alloc w o k hk⟩

theorem Touch.cell {F : List Nat} {w w' : World} (h : Touch F w w') {a : Addr} {v : Value} (hc : w.cell? a = some v) (hn : a.block ∉ F) : w'.cell? a = some v :=
  (World.cell?_of_block (w := w) (h.block _ (World.block_lt_of_cell? _ _ hc) hn)).trans hc

/-- How many words of bits. -/
def wds (n : Nat) : Nat := (n + 63) / 64

/-- A map's own two cells. -/
def mf (n g : Nat) : Nat → Value
  | 0 => .int .i64 n
  | _ => .slice (some ⟨g, 0, none⟩) (wds n) (wds n)

/-- A map of n words in block b, its bits in block g. -/
structure Mp (w : World) (b g n : Nat) (M : Nat → Bool) : Prop where
  own : w.rowIs b 128 2 (mf n g)
  row : w.rowIs g 58 (wds n) (fun i => .int .u64 (wd M i : Nat))
  le : n ≤ 1048576
  out : ∀ k, n ≤ k → M k = false

theorem Mp.keep {w w' : World} {b g n : Nat} {M : Nat → Bool} (h : Mp w b g n M) (hb : w'.heap[b]? = w.heap[b]?) (hg : w'.heap[g]? = w.heap[g]?) : Mp w' b g n M :=
  ⟨h.own.of_block hb, h.row.of_block hg, h.le, h.out⟩
theorem Mp.below {w w' : World} {b g n : Nat} {M : Nat → Bool} (h : Mp w b g n M) (l : Below w.heap.size w w') : Mp w' b g n M := h.keep (l.block _ h.own.lt) (l.block _ h.row.lt)
theorem Mp.touch {w w' : World} {b g n : Nat} {M : Nat → Bool} {F : List Nat} (h : Mp w b g n M) (l : Touch F w w') (hb : b ∉ F) (hg : g ∉ F) : Mp w' b g n M := h.keep (l.block _ h.own.lt hb) (l.block _ h.row.lt hg)
theorem Mp.c0 {w : World} {b g n : Nat} {M : Nat → Bool} (h : Mp w b g n M) : w.cell? ⟨b, 0, none⟩ = some (.int .i64 n) := h.own.cell (i := 0) (by decide)
theorem Mp.c1 {w : World} {b g n : Nat} {M : Nat → Bool} (h : Mp w b g n M) : w.cell? ⟨b, 1, none⟩ = some (.slice (some ⟨g, 0, none⟩) (wds n) (wds n)) := h.own.cell (i := 1) (by decide)
theorem Mp.at {w : World} {b g n : Nat} {M : Nat → Bool} (h : Mp w b g n M) {i : Nat} (hi : i < wds n) : w.cell? ⟨g, i, none⟩ = some (.int .u64 (wd M i : Nat)) := h.row.cell hi

theorem Mp.ne {w : World} {b g n : Nat} {M : Nat → Bool} (h : Mp w b g n M) : b ≠ g := by
  rintro rfl
  obtain ⟨c1, h1, -, -⟩ := h.own
  obtain ⟨c2, h2, -, -⟩ := h.row
  rw [h1] at h2
  simp only [Option.some.injEq, Obj.cells.injEq] at h2
  exact absurd h2.2.1 (by decide)

theorem Mp.congr {w : World} {b g n : Nat} {M N : Nat → Bool} (h : Mp w b g n M) (e : ∀ k, M k = N k) : Mp w b g n N := by
  have : M = N := funext e
  subst this; exact h

end Go.Proofs.YtbgnagjhkfkekaaGreatDoor.Mk

/-
  mask, ones, TrailingZeros64, place.
-/
set_option linter.unusedVariables false
set_option maxRecDepth 20000
namespace Go.Proofs.YtbgnagjhkfkekaaGreatDoor.Mk
open Go.RowKit

theorem cast1 (K a m : Nat) : ((K * 2 ^ a % m : Nat) : Int) = (K : Int) * 2 ^ a % (m : Int) := by push_cast; rfl
theorem cast2 (K a : Nat) : ((K / 2 ^ a : Nat) : Int) = (K : Int) / 2 ^ a := by push_cast; rfl

theorem mask_eq (a b : Nat) (h : a ≤ b) (hb : b ≤ 64) : bits .and .u64 (IntKind.u64.wrap (18446744073709551615 * 2 ^ a)) (18446744073709551615 / 2 ^ (64 - b)) = ((mk a b : Nat) : Int) := by
  have e1 : IntKind.u64.wrap (18446744073709551615 * 2 ^ a) = ((18446744073709551615 * 2 ^ a % 18446744073709551616 : Nat) : Int) := by
    rw [IntKind.wrap_u64, cast1]; rfl
  have e2 : (18446744073709551615 / 2 ^ (64 - b) : Int) = ((18446744073709551615 / 2 ^ (64 - b) : Nat) : Int) := by rw [cast2]; rfl
  have l2 : 18446744073709551615 / 2 ^ (64 - b) ≤ 18446744073709551615 := Nat.div_le_self _ _
  rw [e1, e2, u64_and_nat _ _ (Nat.mod_lt _ (by decide)) (by omega)]
  congr 1
  apply Nat.eq_of_testBit_eq
  intro j
  rw [Nat.testBit_and, mk_bit h, show (18446744073709551616 : Nat) = 2 ^ 64 by rfl, Nat.testBit_mod_two_pow, Nat.testBit_mul_two_pow, Nat.testBit_div_two_pow, show (18446744073709551615 : Nat) = 2 ^ 64 - 1 by rfl, Nat.testBit_two_pow_sub_one, Nat.testBit_two_pow_sub_one]
  by_cases h1 : a ≤ j <;> by_cases h2 : j < b <;> simp [h1, h2] <;> omega

set_option maxHeartbeats 400000 in
theorem mask_any (a b : Nat) (h : a ≤ b) (hb : b ≤ 64) (ha : a < 64) (w : World) :
    Calls Tryz.prog 101 #[.int .i64 a, .int .i64 b] w fun e w' => e = .returned (.int .u64 (mk a b : Nat)) ∧ ∃ n, w' = w.drewN n := by
  go_enter Tryz.func101, Tryz.ntmps101
  go_wp2
  go_quiet (fail)
  go_wp2
  go_ret
  refine ⟨?_, _, rfl⟩
  rw [← mask_eq a b h hb]
  rfl

theorem pop_pos {u : Nat} (h0 : u ≠ 0) (h : u < 18446744073709551616) : 0 < pop u := by
  obtain ⟨h1, h2, -⟩ := ctz_spec h0 h
  have := rk_lt (M := u.testBit) h2 h1
  unfold pop; omega

set_option maxHeartbeats 1000000 in
theorem tz_core (x k idx : Nat) (w : World) (hx0 : ((x : Int) == 0) = false)
    (key : IntKind.u64.wrap (bits BinOp.and IntKind.u64 (x : Int) (IntKind.u64.wrap (-(x : Int))) * 285870213051353865) / 288230376151711744 = (idx : Int))
    (hi : idx < 64) (hk : k < 64) (hcell : w.cell? ⟨4, idx, none⟩ = some (.int .u8 k)) :
    Calls Tryz.prog 153 #[.int .u64 x] w fun e w' => e = .returned (.int .i64 k) ∧ w = w' := by
  go_enter Tryz.func153, Tryz.ntmps153
  go_wp2_with (simp only [key])
  go_ret
  exact ⟨rfl, rfl⟩

end Go.Proofs.YtbgnagjhkfkekaaGreatDoor.Mk

/-
  pieces: a stretch of bits, cut at the words.
-/
set_option linter.unusedVariables false
namespace Go.Proofs.YtbgnagjhkfkekaaGreatDoor.Mk
open Go.RowKit Go.Shelf

attribute [local go_sem] Oper.semAt_some

/-- A piece: within one word. -/
abbrev Pc (e : Nat) := { x : Nat × Nat // x.1 < x.2 ∧ x.2 ≤ e ∧ x.2 ≤ x.1 / 64 * 64 + 64 }

def pcs (e f : Nat) : List (Pc e) :=
  if h : f < e then ⟨(f, min e (f / 64 * 64 + 64)), by refine ⟨?_, ?_, ?_⟩ <;> (dsimp only; omega)⟩ :: pcs e (min e (f / 64 * 64 + 64)) else []
termination_by e - f
decreasing_by omega

theorem pcs_nil {e f : Nat} (h : e ≤ f) : pcs e f = [] := by rw [pcs]; simp; omega
theorem pcs_cons {e f : Nat} (h : f < e) : ∃ hp, pcs e f = ⟨(f, min e (f / 64 * 64 + 64)), hp⟩ :: pcs e (min e (f / 64 * 64 + 64)) := by
  rw [pcs]; simp [h]; omega

abbrev encP {e : Nat} (x : Pc e) : Array Value := #[.int .i64 ((x.1.1 : Int) / 64), .int .u64 (mk (x.1.1 % 64) (x.1.2 - x.1.1 / 64 * 64) : Nat)]

/-- A round leaves the iterator's two variables alone. -/
def Kp2 (cf cb : Nat) (W W' : World) : Prop := W'.heap[cf]? = W.heap[cf]? ∧ W'.heap[cb]? = W.heap[cb]?

theorem pieces_any (f e : Int) (w : World) :
    Calls Tryz.prog 70 #[.int .i64 f, .int .i64 e] w fun r w' => r = .returned (.func (.func 100) #[] #[.pointer (some ⟨w.heap.size, 0, none⟩), .pointer (some ⟨w.heap.size + 1, 0, none⟩)]) ∧ w' = (w.alloc (.cells #[.int .i64 f] 3)).alloc (.cells #[.int .i64 e] 3) := by
  go_enter Tryz.func70, Tryz.ntmps70
  go_wp2
  go_ret
  exact ⟨rfl, rfl⟩

set_option maxRecDepth 100000 in
set_option maxHeartbeats 4000000 in
theorem pieces_stops (n cf cb : Nat) (f : Nat) (be : Int) (e : Nat) (he : e = be.toNat) (hel : e ≤ 1048576) (hf63 : f < 9223372036854775808) (w : World) (h1 : w.cell? ⟨cf, 0, none⟩ = some (.int .i64 f)) (h2 : w.cell? ⟨cb, 0, none⟩ = some (.int .i64 be)) :
    SeqStopsK Fence.wide n Tryz.prog 100 #[.pointer (some ⟨cf, 0, none⟩), .pointer (some ⟨cb, 0, none⟩)] (encP (e := e)) (Kp2 cf cb) (fun xs => xs = pcs e f) (fun pre => pre <+: pcs e f) (pcs e f).length w := fun lp J Jx W hW hJ hJx hY h0 => by
  have k1 : W.cell? ⟨cf, 0, none⟩ = some (.int .i64 f) := (hW.cell (World.block_lt_of_cell? _ _ h1)).trans h1
  have k2 : W.cell? ⟨cb, 0, none⟩ = some (.int .i64 be) := (hW.cell (World.block_lt_of_cell? _ _ h2)).trans h2
  clear h1 h2 hW
  have HY : Hid (∀ (pre : List (Pc e)) x W1, J pre W1 → pre.length < (pcs e f).length → YieldAt Fence.wide (n - 1) Tryz.prog lp (encP x) W1 fun e W' =>
      (e = .returned (.bool true) ∧ J (pre ++ [x]) W' ∧ Kp2 cf cb W1 W') ∨ (e = .returned (.bool false) ∧ Jx (pre ++ [x]) W')) := hY
  have HJ : Hid (AbidesFrom W.heap.size J) := hJ
  clear hY hJ
  refine callsIn_of_wp Tryz.func100 rfl trivial ?_ rfl
  simp only [Tryz.ntmps100, List.size_toArray, List.length_cons, List.length_nil, Nat.reduceAdd, Nat.reduceSub, Array.replicate_succ, Array.replicate_zero, List.push_toArray, List.append_toArray, List.nil_append, List.cons_append]
  gi_wp2
  gi_loopw [4] (fun v wr => ∃ (pre : List (Pc e)) (a : Nat), v = .int .i64 a ∧ a < 9223372036854775808 ∧ pcs e f = pre ++ pcs e a ∧ J pre wr ∧ wr.cell? ⟨cb, 0, none⟩ = some (.int .i64 be)) (fun v _ => (be - intOf v).toNat)
  case atStart => exact ⟨[], f, rfl, hf63, rfl, h0, k2⟩
  case round =>
    obtain ⟨pre, a, rfl, ha, hl, hJr, k3⟩ := hrel
    have Hl : Hid (pcs e f = pre ++ pcs e a) := hl
    have HJr : Hid (J pre wr) := hJr
    clear hl hJr k1 k2 h0
    by_cases hae : (a : Int) < be
    · gi_wp2
      refine wpIn_wide.2 ?_
      go_quiet (fail)
      obtain ⟨q, hq⟩ : ∃ q : Nat, q = min e (a / 64 * 64 + 64) := ⟨_, rfl⟩
      have hqi : (if ((a : Int) / 64 + 1) * 64 < be then ((a : Int) / 64 + 1) * 64 else be) = (q : Int) := by
        split <;> omega
      rw [hqi]
      have haq : a < q := by omega
      have hqe : q ≤ e := by omega
      have hqa : q ≤ a / 64 * 64 + 64 := by omega
      obtain ⟨hp, hpc⟩ := pcs_cons (e := e) (f := a) (by omega)
      have hl2 : pcs e f = pre ++ ⟨(a, q), ⟨haq, hqe, hqa⟩⟩ :: pcs e q := by
        rw [Hl.out, hpc]; subst hq; rfl
      have hJ1 : J pre (wr.drewN nq) := HJ.out _ _ _ none HJr.out ⟨rfl, rfl, rfl, Nat.le_refl _, fun _ _ _ => rfl⟩ (fun r e => by cases e)
      have hm := mask_any (a % 64) (q - a / 64 * 64) (by omega) (by omega) (by omega) (wr.drewN nq)
      rw [show ((a % 64 : Nat) : Int) = (a : Int) - (a : Int) / 64 * 64 by omega, show ((q - a / 64 * 64 : Nat) : Int) = (q : Int) - (a : Int) / 64 * 64 by omega] at hm
      have HL2 : Hid (pcs e f = pre ++ ⟨(a, q), ⟨haq, hqe, hqa⟩⟩ :: pcs e q) := hl2
      clear hqi hq hp hpc hl2 Hl HJr
      generalize hw1 : wr.drewN nq = w1 at *
      have k4 : w1.cell? ⟨cb, 0, none⟩ = some (.int .i64 be) := by rw [← hw1]; exact k3
      clear hw1 k3
      gi_wp2
      refine ⟨trivial, fun h => (by cases h), (callsIn_wide.2 hm).mono ?_⟩
      rintro r w2 ⟨rfl, nn, hw2⟩
      have hJ2 : J pre w2 := HJ.out _ _ _ none hJ1 (by rw [hw2]; exact ⟨rfl, rfl, rfl, Nat.le_refl _, fun _ _ _ => rfl⟩) (fun r e => by cases e)
      have k5 : w2.cell? ⟨cb, 0, none⟩ = some (.int .i64 be) := by rw [hw2]; exact k4
      obtain ⟨fn, tmps, assign, body, hy, hR⟩ := HY.out pre ⟨(a, q), ⟨haq, hqe, hqa⟩⟩ w2 hJ2 (by rw [HL2.out]; simp)
      clear hm hJ1 k4 hJ2 hw2
      dsimp only [encP] at hy
      gi_wp2
      refine ⟨fun h => (by cases h), hR.mono ?_⟩
      rintro e' w3 (⟨rfl, hJ3, hk3⟩ | ⟨rfl, hJ3⟩)
      · have k6 : w3.cell? ⟨cb, 0, none⟩ = some (.int .i64 be) := (World.cell?_of_block (w := w2) hk3.2).trans k5
        have HJ3 : Hid (J _ w3) := hJ3
        clear hy hR k5 hk3 hJ3
        gi_wp2
        go_roundw
        case rel => exact ⟨_, q, rfl, by omega, by rw [HL2.out, List.append_assoc]; rfl, HJ3.out, k6⟩
        case measure => simp [intOf]; omega
      · have HJ3 : Hid (Jx _ w3) := hJ3
        clear hy hR k5 hJ3
        gi_wp2
        refine bodyPost_ret (results_none rfl _ _ _) rfl ?_
        exact ⟨⟨_, rfl⟩, .inr ⟨_, ⟨pcs e q, by rw [HL2.out, List.append_assoc]; rfl⟩, HJ3.out⟩⟩
    · gi_wp2
      go_end0
      refine ⟨⟨_, rfl⟩, .inl ?_⟩
      rw [Hl.out, pcs_nil (by omega), List.append_nil]
      exact HJr.out
end Go.Proofs.YtbgnagjhkfkekaaGreatDoor.Mk

/-
  A region that draws its order, within a round of a range over a function.
-/
set_option linter.unusedVariables false
namespace Go.Proofs.YtbgnagjhkfkekaaGreatDoor.Mk
open Go.RowKit Go.Shelf

theorem rows_round {P : Program} {row : String} {args : Array Value} {w : World} {R : Value → World → Prop} {l n : Nat} (h : Rows P row args w R) : RowsIn (Fence.wide.inRound l) n P row args w R :=
  fun c cs _ => let ⟨v, w', r, s⟩ := h c cs; ⟨v, w', r, stepsIn_wide.2 s⟩

theorem oper_round {P : Program} {o : Oper} {a : Act} {w : World} {K : Act → World → Prop} {Q : Exit → Act → World → Prop} {l n : Nat} (hnd : ∀ c, o.op ≠ .defer c) (h : o.wp P a w K Q) : o.wpIn (Fence.wide.inRound l) n P a w K Q := by
  refine ⟨fun _ _ => trivial, ?_⟩
  rw [Fence.inRound_round, Oper.semAt_some _ _ _ hnd]
  unfold Oper.wp at h
  generalize (execOp a.eval o).run P w = r at *
  cases r with
  | ok x w' =>
    cases x with
    | value v => exact h
    | skip => exact h
    | defer d => exact h
    | enter f args => exact ⟨fun h => (by cases h), (callsIn_wide.2 h).inRound l⟩
    | row row args => exact ⟨fun h => (by cases h), rows_round h⟩
    | _ => exact h.elim
  | halt x w' =>
    cases x with
    | panic v => exact h
    | _ => exact h.elim

theorem op_round {P : Program} {ops : Array Oper} {Q : Exit → Act → World → Prop} {i : Nat} {K K' : Act → World → Prop} {a : Act} {w : World} {l n : Nat} (hnd : ∀ (i : Nat) (o : Oper), ops[i]? = some o → ∀ c, o.op ≠ .defer c) (hno : ¬ LetsOut Q) (hk : ∀ a w, K a w → K' a w)
    (h : wpOp P ops Q i K a w) : wpOpIn (Fence.wide.inRound l) n P ops Q i K' a w := by
  unfold wpOp at h
  unfold wpOpIn
  split
  · rename_i ho; simp only [ho] at h; exact hk _ _ h
  · rename_i o ho
    simp only [ho] at h
    split
    · rename_i hw
      simp only [hw, if_true] at h
      rcases h with h | ⟨_, h⟩
      · exact Oper.wpIn_mono hk (oper_round (hnd i o ho) h)
      · exact absurd h hno
    · rename_i hw
      simp only [hw] at h
      exact ⟨fun _ _ => trivial, hk _ _ h⟩

theorem any_round {P : Program} {md : Region.Mode} {ops : Array Oper} {Q : Exit → Act → World → Prop} {l n : Nat} (hnd : ∀ (i : Nat) (o : Oper), ops[i]? = some o → ∀ c, o.op ≠ .defer c) (hno : ¬ LetsOut Q) :
    ∀ (fuel : Nat) (listed : Array Bool) (a : Act) (w : World), wpAny P md ops Q fuel listed a w → wpAnyIn (Fence.wide.inRound l) n P md ops Q fuel listed a w
  | 0, _, _, _, h => h
  | fuel + 1, listed, a, w, h => ⟨h.1, fun i hi => op_round hnd hno (fun a' w' h' => any_round hnd hno fuel _ a' w' h') (h.2 i hi)⟩

/-- None of these is a defer statement. -/
def noDefer (l : List Oper) : Bool := l.all fun o => match o.op with | .defer _ => false | _ => true

theorem noDefer_spec {l : List Oper} (h : noDefer l = true) (i : Nat) (o : Oper) (ho : l.toArray[i]? = some o) (c) : o.op ≠ .defer c := by
  intro e
  have hm : o ∈ l := by
    rw [List.getElem?_toArray] at ho
    exact List.mem_of_getElem? ho
  have := List.all_eq_true.1 h o hm
  rw [e] at this
  cases this

/-- A region that only reads, in a round. -/
theorem quiet_round {P : Program} {id : Nat} {Q : Exit → Act → World → Prop} {a : Act} {w : World} {l : List Oper} {lp n : Nat} (hm : P.follows .mixedOrders = true) (hB : Region.lexB .any l.toArray = true) (hd : noDefer l = true) (hno : ¬ LetsOut Q)
    (h : wpQuiet P l.toArray (fun w' => ∃ n, w' = w.drewN n) (fun a' => ∀ w', (∃ n, w' = w.drewN n) → Q .normal a' w') l a) : (Code.region id l.toArray true).wpIn (Fence.wide.inRound lp) n P Q a w := by
  simp only [Region.lexB, Bool.and_eq_true] at hB
  refine wpIn_region_any hm (any_round (noDefer_spec hd) hno _ _ _ _ (wpAny_of_quiet (C := fun w' => ∃ n, w' = w.drewN n) (Q := fun a' => ∀ w', (∃ n, w' = w.drewN n) → Q .normal a' w') (fun _ w' hw' h => h w' hw') _ _ _ _ ⟨1, rfl⟩ ?_))
  have := wpAnyQ_lex (P := P) (C := fun w' => ∃ n, w' = w.drewN n) (md := .any) hB.1 l 0 (Array.replicate l.toArray.size false) a (by simp) (by simpa using hB.2) h
  simpa using this

/-- A region that reads and ends with writes in a forced order, in a round. -/
theorem tail_round {P : Program} {id : Nat} {Q : Exit → Act → World → Prop} {a : Act} {w : World} {l : List Oper} {lp m : Nat} (n : Nat) (hm : P.follows .mixedOrders = true) (hB : Region.lexTailB .any l.toArray n = true) (hd : noDefer l = true) (hno : ¬ LetsOut Q)
    (h : wpStill P l.toArray { w with drawn := w.drawn + 1 } (fun a' => wpList P l.toArray Q (l.drop n) a' { w with drawn := w.drawn + 1 }) (l.take n) a) : (Code.region id l.toArray true).wpIn (Fence.wide.inRound lp) m P Q a w := by
  simp only [Region.lexTailB, Bool.and_eq_true, decide_eq_true_eq] at hB
  obtain ⟨⟨⟨⟨hsel, hn⟩, hs⟩, hc⟩, hlex⟩ := hB
  have hn' : n < l.length := by simpa using hn
  have htl : (l.take n).length = n := by simp; omega
  have hdl : (l.drop n).length = l.toArray.size - n := by simp
  have inv0 : HeadInv .any l.toArray n (Array.replicate l.toArray.size false) :=
    ⟨by simp, fun j oj _ hl => (by rw [getD_replicate_false] at hl; cases hl), fun t _ ht => getD_in (by simpa using ht) (getD_replicate_false _ _)⟩
  have H := wpAnyL_lex (md := .any) (g := l.toArray.size - n) hsel hs hc hn (l.take n) 0 _ a (fun j hj => by
    have hj' : j < n := by rw [htl] at hj; exact hj
    simp [hj']) (by simpa using htl) inv0 (by rw [htl]; exact hlex) h
  refine wpIn_region_any hm (any_round (noDefer_spec hd) hno _ _ _ _ ?_)
  have := wpAny_of_head (Q' := Q) (g := l.toArray.size - n) (fun listed a' hL => by
    have := wpAny_of_seq (md := .any) (Q' := Q) (l.drop n) n listed a' { w with drawn := w.drawn + 1 } (fun j => by simp [List.getElem?_drop]) (by rw [hdl]; exact hL.1) hL.2
    rwa [hdl] at this) _ _ _ H
  rw [htl, show n + (l.toArray.size - n) = l.toArray.size by omega] at this
  exact this

theorem still_of_quiet {P : Program} {ops : Array Oper} {w0 : World} {Q : Act → Prop} : ∀ (l : List Oper) (a : Act), wpQuiet P ops (fun w' => w' = w0) Q l a → wpStill P ops w0 Q l a
  | [], _, h => h
  | o :: rest, a, h => by
    unfold wpQuiet at h
    unfold wpStill
    by_cases hw : Region.wanted o (yielded ops a.tmps) = true
    · rw [if_pos hw] at h ⊢
      obtain ⟨v, h1, h2⟩ := h
      have h3 := h1 w0 rfl
      have h4 := still_of_quiet rest _ h2
      unfold Oper.quietAt at h3
      unfold Oper.still
      cases hr : (execOp a.eval o).run P w0 with
      | ok x w' =>
        rw [hr] at h3
        cases x with
        | value u => exact ⟨h3.1, by rw [h3.2]; exact h4⟩
        | skip => exact ⟨h3.1, by rw [← h3.2]; exact h4⟩
        | enter f args => exact ⟨h3.1, v, h3.2, h4⟩
        | _ => exact h3.elim
      | _ => rw [hr] at h3; exact h3.elim
    · rw [if_neg hw] at h ⊢
      exact still_of_quiet rest _ h

theorem qtail_round {P : Program} {id : Nat} {Q : Exit → Act → World → Prop} {a : Act} {w : World} {l : List Oper} {lp m : Nat} (n : Nat) (hm : P.follows .mixedOrders = true) (hB : Region.lexTailB .any l.toArray n = true) (hd : noDefer l = true) (hno : ¬ LetsOut Q)
    (h : wpQuiet P l.toArray (fun w' => w' = w.drew) (fun a' => wpList P l.toArray Q (l.drop n) a' w.drew) (l.take n) a) : (Code.region id l.toArray true).wpIn (Fence.wide.inRound lp) m P Q a w :=
  tail_round n hm hB hd hno (still_of_quiet _ _ h)

theorem quiet_tail {P : Program} {id : Nat} {Q : Exit → Act → World → Prop} {a : Act} {w : World} {l : List Oper} (n : Nat) (hm : P.follows .mixedOrders = true) (hB : Region.lexTailB .any l.toArray n = true)
    (h : wpQuiet P l.toArray (fun w' => w' = w.drew) (fun a' => wpList P l.toArray Q (l.drop n) a' w.drew) (l.take n) a) : (Code.region id l.toArray true).wp P Q a w := wp_region_still_tail n hm hB (still_of_quiet _ _ h)

theorem mixed : Tryz.prog.follows .mixedOrders = true := by kernel_rfl

end Go.Proofs.YtbgnagjhkfkekaaGreatDoor.Mk

