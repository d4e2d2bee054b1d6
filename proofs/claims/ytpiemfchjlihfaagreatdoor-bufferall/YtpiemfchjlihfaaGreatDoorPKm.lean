import Derived.Test.YtpiemfchjlihfaaGreatDoorRows
import Derived.WalkKit
import Derived.WalkSpells
import Derived.WalkLawsBesides
import Derived.RangeFuncBox
import Derived.Maps.AppendAt
import Derived.Deep.QuietTactic
import Derived.BigQuiet
import Derived.Deep.DeepFit
import Derived.Deep.OwnRows
import Derived.Deep.RegionLaw
import Derived.StillTailTactics
import Derived.StillTail
/-
  Plain memory: a step that touches only listed blocks.
-/
set_option linter.unusedVariables false
set_option maxRecDepth 20000
namespace Go.Proofs.YtpiemfchjlihfaaGreatDoor.Kg
open Go.RowKit

/-- From w to w' only the blocks of F may have turned; blocks may have been laid. -/
structure Touch (F : List Nat) (w w' : World) : Prop where
  os : w'.os = w.os
  tape : w'.tape = w.tape
  output : w'.output = w.output
  size : w.heap.size ≤ w'.heap.size
  block : ∀ k, k < w.heap.size → k ∉ F → w'.heap[k]? = w.heap[k]?

theorem Touch.refl (F : List Nat) (w : World) : Touch F w w := ⟨rfl, rfl, rfl, Nat.le_refl _, fun _ _ _ => rfl⟩

theorem Touch.mono {F G : List Nat} {a b : World} (h : Touch F a b) (hs : ∀ k, k ∈ F → k ∈ G ∨ a.heap.size ≤ k) : Touch G a b :=
  ⟨h.os, h.tape, h.output, h.size, fun k hk hn => h.block k hk (fun hm => by rcases hs k hm with h1 | h1; exact hn h1; omega)⟩

theorem Touch.trans {F : List Nat} {a b c : World} (h : Touch F a b) (k : Touch F b c) : Touch F a c :=
  ⟨k.os.trans h.os, k.tape.trans h.tape, k.output.trans h.output, Nat.le_trans h.size k.size,
    fun i hi hn => (k.block i (Nat.lt_of_lt_of_le hi h.size) hn).trans (h.block i hi hn)⟩

/-- A second step over blocks that the first one had or has laid. -/
theorem Touch.then {F G : List Nat} {a b c : World} (h : Touch F a b) (k : Touch G b c) (hs : ∀ x, x ∈ G → x ∈ F ∨ a.heap.size ≤ x) : Touch F a c :=
  ⟨k.os.trans h.os, k.tape.trans h.tape, k.output.trans h.output, Nat.le_trans h.size k.size,
    fun i hi hn => (k.block i (Nat.lt_of_lt_of_le hi h.size) (fun hm => by rcases hs i hm with h1 | h1; exact hn h1; omega)).trans (h.block i hi hn)⟩

theorem Touch.drewN (F : List Nat) (w : World) (n : Nat) : Touch F w (w.drewN n) := ⟨rfl, rfl, rfl, Nat.le_refl _, fun _ _ _ => rfl⟩

theorem Touch.drew (F : List Nat) (w : World) : Touch F w w.drew := ⟨rfl, rfl, rfl, Nat.le_refl _, fun _ _ _ => rfl⟩

theorem Touch.alloc (F : List Nat) (w : World) (o : Obj) : Touch F w (w.alloc o) :=
  ⟨rfl, rfl, rfl, by simp, fun k hk _ => Below.heap_alloc w o k hk⟩

theorem Touch.setCell {F : List Nat} (w : World) (a : Addr) (u : Value) (h : a.block ∈ F) : Touch F w (w.setCell a u) :=
  ⟨rfl, rfl, rfl, by simp [World.setCell], fun k _ hn => Below.heap_setCell _ _ _ _ (fun e => hn (e ▸ h))⟩

theorem Touch.grown {F : List Nat} {w w' : World} {row : Option Nat} (hg : w.grownBy w' row) (hr : ∀ k, row = some k → k ∈ F) : Touch F w w' :=
  ⟨hg.os, hg.tape, hg.output, hg.size, fun k hk hn => hg.block k hk (fun e => hn (hr k e.symm))⟩

theorem Touch.below {F : List Nat} {w w' : World} {B : Nat} (h : Touch F w w') (hB : B ≤ w.heap.size) (hF : ∀ k, k ∈ F → B ≤ k) : Below B w w' :=
  ⟨h.os, h.tape, h.output, h.size, fun k hk => h.block k (by omega) (fun hm => by have := hF k hm; omega)⟩

theorem Touch.of_below {w w' : World} (h : Below w.heap.size w w') (F : List Nat) : Touch F w w' :=
  ⟨h.os, h.tape, h.output, h.size, fun k hk _ => h.block k hk⟩

/-- The new footprint of a container: the old one's blocks, or newer ones. -/
def Newer (n : Nat) (F F' : List Nat) : Prop := ∀ k, k ∈ F' → k ∈ F ∨ n ≤ k

theorem Newer.refl (n : Nat) (F : List Nat) : Newer n F F := fun _ h => .inl h

/-- Two footprints that have no block in common. -/
def Apart (F G : List Nat) : Prop := ∀ k, k ∈ F → k ∉ G

theorem Apart.symm {F G : List Nat} (h : Apart F G) : Apart G F := fun k hk hf => h k hf hk

theorem Apart.newer {n : Nat} {F F' G : List Nat} (h : Apart F G) (hn : Newer n F F') (hG : ∀ k, k ∈ G → k < n) : Apart F' G := by
  intro k hk hg
  rcases hn k hk with h1 | h1
  · exact h k h1 hg
  · have := hG k hg; omega

theorem heap_cell {w : World} {b t : Nat} {cs : Array Value} (h : w.heap[b]? = some (.cells cs t (0, 0))) (j : Nat) : w.cell? ⟨b, j, none⟩ = cs[j]? := cell_of_row w b j cs t (0, 0) h

theorem heap_frozen {w : World} {b t : Nat} {cs : Array Value} (h : w.heap[b]? = some (.cells cs t (0, 0))) (j : Nat) : w.frozen? ⟨b, j, none⟩ = false := by
  simp [World.frozen?, h]

theorem heap_set {w : World} {b t : Nat} {cs : Array Value} (h : w.heap[b]? = some (.cells cs t (0, 0))) (j : Nat) (u : Value) :
    (w.setCell ⟨b, j, none⟩ u).heap[b]? = some (.cells (cs.setIfInBounds j u) t (0, 0)) := by
  simp [World.setCell, Array.getElem?_modify, h]

theorem heap_lt {w : World} {b : Nat} {o : Obj} (h : w.heap[b]? = some o) : b < w.heap.size := (Array.getElem?_eq_some_iff.1 h).1

theorem row_base {w : World} {base base' n e size : Nat} {v : Value} {xs : List Value} (h : w.ownsRow base e size v n xs) (hle : base' ≤ base) : w.ownsRow base' e size v n xs := by
  refine ⟨h.1, ?_⟩
  rcases h.2 with hn | ⟨g, cap, cur, rfl, hb, rest⟩
  · exact .inl hn
  · exact .inr ⟨g, cap, cur, rfl, by omega, rest⟩

theorem row_keep2 {w w' : World} {base n e size : Nat} {v : Value} {xs : List Value} {G : List Nat} (h : w.ownsRow base e size v n xs) (ht : Touch G w w') (ha : ∀ k, v.ownBlock = some k → k ∉ G) : w'.ownsRow base e size v n xs := by
  refine ⟨h.1, ?_⟩
  rcases h.2 with hn | ⟨g, cap, cur, rfl, hb', hg, rest⟩
  · exact .inl hn
  · refine .inr ⟨g, cap, cur, rfl, hb', ?_, rest⟩
    rw [ht.block g (heap_lt hg) (ha g rfl)]; exact hg

theorem Tryz.infoInt : (Tryz.prog.info? 3).map (fun i => (i.zero, i.size, i.bytes)) = some (some (.int .i64 0), 1, 8) := by kernel_rfl

abbrev ints (xs : List Int) : List Value := xs.map (Value.int .i64)

/-- A block of another type is no row of numbers. -/
theorem row_ne {w : World} {b base t n : Nat} {cs : Array Value} {v : Value} {xs : List Value} {e : Nat} (hh : w.heap[b]? = some (.cells cs t (0, 0))) (hr : w.ownsRow base e 1 v n xs) (hte : t ≠ e := by decide) : some b ≠ v.ownBlock := by
  intro h
  rcases hr.2 with ⟨rfl, _⟩ | ⟨g, cap, cur, rfl, _, hg, _⟩
  · simp [Value.ownBlock] at h
  · simp only [Value.ownBlock, Option.some.injEq] at h
    subst h
    rw [hh] at hg
    simp only [Option.some.injEq, Obj.cells.injEq] at hg
    exact hte hg.2.1

theorem ownsRow_setOther {w : World} {base : Nat} {e : TypeId} {size : Nat} {v : Value} {n : Nat} {xs : List Value} (h : w.ownsRow base e size v n xs) {a : Addr} (ha : some a.block ≠ v.ownBlock) (u : Value) : (w.setCell a u).ownsRow base e size v n xs := by
  obtain ⟨h1, h2⟩ := h
  refine ⟨h1, ?_⟩
  rcases h2 with h2 | ⟨g, cap, cur, rfl, hg, hh, r⟩
  · exact Or.inl h2
  · exact Or.inr ⟨g, cap, cur, rfl, hg, by rw [Below.heap_setCell _ _ _ _ (fun e => ha (by rw [← e]; rfl))]; exact hh, r⟩

end Go.Proofs.YtpiemfchjlihfaaGreatDoor.Kg

/-
  A region that reads and ends with writes in a forced order.
-/
set_option linter.unusedVariables false
namespace Go.Proofs.YtpiemfchjlihfaaGreatDoor.Kg
open Go.RowKit

theorem still_tail {P : Program} {id : Nat} {Q : Exit → Act → World → Prop} {a : Act} {w : World} {l : List Oper} (n : Nat) (hm : P.follows .mixedOrders = true) (hB : Region.lexTailB .any l.toArray n = true)
    (h : wpStill P l.toArray w.drew (fun a' => wpList P l.toArray Q (l.drop n) a' w.drew) (l.take n) a) : (Code.region id l.toArray true).wp P Q a w := wp_region_still_tail n hm hB h

theorem still_of_quiet {P : Program} {ops : Array Oper} {w0 : World} {Q : Act → Prop} : ∀ (l : List Oper) (a : Act), wpQuiet P ops (fun w' => w' = w0) Q l a → wpStill P ops w0 Q l a
  | [], _, h => h
  | o :: rest, a, h => by
    unfold wpQuiet at h
    unfold wpStill
    by_cases hw : Region.wanted o (yielded ops a.tmps) = true
    · rw [if_pos hw] at h ⊢
      obtain ⟨v, h1, h2⟩ := h
      have h3 := h1 w0 rfl
      have h4 := still_of_quiet rest _ h2
      unfold Oper.quietAt at h3
      unfold Oper.still
      cases hr : (execOp a.eval o).run P w0 with
      | ok x w' =>
        rw [hr] at h3
        cases x with
        | value u => exact ⟨h3.1, by rw [h3.2]; exact h4⟩
        | skip => exact ⟨h3.1, by rw [← h3.2]; exact h4⟩
        | enter f args => exact ⟨h3.1, v, h3.2, h4⟩
        | _ => exact h3.elim
      | _ => rw [hr] at h3; exact h3.elim
    · rw [if_neg hw] at h ⊢
      exact still_of_quiet rest _ h

theorem quiet_tail {P : Program} {id : Nat} {Q : Exit → Act → World → Prop} {a : Act} {w : World} {l : List Oper} (n : Nat) (hm : P.follows .mixedOrders = true) (hB : Region.lexTailB .any l.toArray n = true)
    (h : wpQuiet P l.toArray (fun w' => w' = w.drew) (fun a' => wpList P l.toArray Q (l.drop n) a' w.drew) (l.take n) a) : (Code.region id l.toArray true).wp P Q a w := still_tail n hm hB (still_of_quiet _ _ h)

theorem mixed : Tryz.prog.follows .mixedOrders = true := by kernel_rfl

end Go.Proofs.YtpiemfchjlihfaaGreatDoor.Kg

/-
  A region that draws its order: reads, then a call, then what is done with its answer.
-/
set_option linter.unusedVariables false
namespace Go.Proofs.YtpiemfchjlihfaaGreatDoor.Kg
open Go.RowKit

/-- Whatever lies behind number n waits for n or for another one behind n. -/
def lateB (md : Region.Mode) (ops : Array Oper) (n : Nat) : Bool :=
  (List.range ops.size).all fun t => decide (t ≤ n) || (List.range t).any fun u => decide (n ≤ u) && Region.waitsFor md ops t u

/-- The head in its lexical order; then n alone; then the rest in its lexical order. -/
def partB (md : Region.Mode) (ops : Array Oper) (n : Nat) : Nat → Nat → Array Bool → Bool
  | 0, _, listed => decide (Region.ready md ops listed = [n]) && Region.lexFrom md ops (ops.size - (n + 1)) (n + 1) (listed.setIfInBounds n true)
  | f + 1, k, listed => (Region.ready md ops listed).contains k && Region.free md ops listed k && partB md ops n f (k + 1) (listed.setIfInBounds k true)

def callB (md : Region.Mode) (ops : Array Oper) (n : Nat) : Bool :=
  Region.noSelect ops && decide (n < ops.size) && Region.sinkB md ops n && lateB md ops n && partB md ops n n 0 (Array.replicate ops.size false)

theorem late_waits {md : Region.Mode} {ops : Array Oper} {n : Nat} {listed : Array Bool} (hs : Region.sinkB md ops n = true) (hl : lateB md ops n = true) (inv : HeadInv md ops n listed) {i : Nat} (hi : i < n) (hun : listed.getD i true = false) {t : Nat} (ht : n ≤ t) : t ∉ Region.ready md ops listed := by
  intro hr
  obtain ⟨_, ot, hot, hall⟩ := mem_ready.1 hr
  have htl : t < ops.size := (Array.getElem?_eq_some_iff.1 hot).1
  rcases Nat.lt_or_ge n t with h | h
  · have h1 := List.all_eq_true.1 hl t (List.mem_range.2 htl)
    simp only [Bool.or_eq_true, decide_eq_true_eq] at h1
    rcases h1 with h1 | h1
    · omega
    · obtain ⟨u, hu, hu2⟩ := List.any_eq_true.1 h1
      simp only [Bool.and_eq_true, decide_eq_true_eq] at hu2
      have hut := List.mem_range.1 hu
      obtain ⟨o', ho', e, he, hb, hon⟩ := Region.waitsFor_spec hu2.2
      cases Option.some.inj (ho'.symm.trans hot)
      have h2 := hall e he hb
      rw [hon, getD_both (inv.tail u hu2.1 (by omega))] at h2
      cases h2
  · obtain rfl : t = n := by omega
    clear ht h
    -- the last of the head that isn't listed
    have key : ∀ d i, t - i = d → i < t → listed.getD i true = false → False := by
      intro d
      induction d using Nat.strongRecOn with
      | _ d ih =>
        intro i hd hi hun
        obtain ⟨j, hj, hj2⟩ := List.any_eq_true.1 (List.all_eq_true.1 hs i (List.mem_range.2 hi))
        simp only [Bool.and_eq_true, decide_eq_true_eq] at hj2
        have hjt := List.mem_range.1 hj
        obtain ⟨oj, hoj, e, he, hb, hon⟩ := Region.waitsFor_spec hj2.2
        rcases Nat.lt_or_ge j t with h | h
        · cases hlj : listed.getD j false with
          | true =>
            have h2 := inv.closed j oj hoj hlj e he hb
            rw [hon, getD_both hun] at h2
            cases h2
          | false => exact ih (t - j) (by omega) j rfl h (getD_in (by rw [inv.size]; omega) hlj)
        · obtain rfl : j = t := by omega
          cases Option.some.inj (hoj.symm.trans hot)
          have h2 := hall e he hb
          rw [hon, getD_both hun] at h2
          cases h2
    exact key _ i rfl hi hun

section
variable {P : Program} {ops : Array Oper} {md : Region.Mode} {w : World}

theorem headL_first {n i : Nat} {oi : Oper} {v : Value} {L : Array Bool → Act → Prop} (hi : ops[i]? = some oi) (hsel : ∀ (j : Nat) (o : Oper) cs b, ops[j]? = some o → o.op ≠ .select cs b)
    (hs : Region.sinkB md ops n = true) (hl : lateB md ops n = true) (hin : i < n) (hdone : ∀ listed a, L listed a → ∀ j ∈ Region.ready md ops listed, n ≤ j) :
    ∀ (f : Nat) (listed : Array Bool) (a : Act), HeadInv md ops n listed →
      (∀ j oj, ops[j]? = some oj → j ≠ i → listed.getD j true = false → (∀ e ∈ oj.after, Region.binds md e = true → e.on ≠ i) → oi.apart ops oj = true) →
      i ∈ Region.ready md ops listed → YieldsAt P ops w oi v a →
      wpAnyL P md ops w n L f (listed.setIfInBounds i true) (a.put oi.dst v) → wpAnyL P md ops w n L (f + 1) listed a
  | f, listed, a, inv, hfree, hr, hy, H => by
    have hun := (mem_ready.1 hr).1
    refine ⟨fun h => (by rw [h] at hr; cases hr), fun j hj => ?_⟩
    have hjn : j < n := Nat.lt_of_not_le fun h => late_waits hs hl inv hin hun h hj
    refine ⟨hjn, ?_⟩
    by_cases hji : j = i
    · subst hji; exact hy.stOp hi H
    · match f, H with
      | 0, H => have := hdone _ _ H j (ready_mono hj hji); omega
      | f + 1, H =>
        have h1 := (H.2 j (ready_mono hj hji)).2
        obtain ⟨hjun, oj, hoj, hall⟩ := mem_ready.1 hj
        have hnot : ∀ e ∈ oj.after, Region.binds md e = true → e.on ≠ i := fun e he hb heq => by
          have h1 := hall e he hb
          rw [heq, getD_both hun] at h1
          cases h1
        refine stOp_mono (fun a' h3 => headL_first hi hsel hs hl hin hdone f (listed.setIfInBounds j true) a' (inv.set hj hjn) (fun k ok hk hki hun' hno => ?_) (ready_mono hr (Ne.symm hji)) h3.1 ?_)
          (stOp_put hoj (hfree j oj hoj hji hjun hnot) (fun cs b => hsel i oi cs b hi) (fun cs b => hsel j oj cs b hoj) hy h1)
        · refine hfree k ok hk hki ?_ hno
          by_cases hjk : j = k
          · subst hjk; exact hjun
          · rwa [getD_set_ne true hjk] at hun'
        · rw [Array.setIfInBounds_comm _ _ hji]
          exact h3.2

theorem headL_lex {n : Nat} {Lq : Act → Prop} (hsel : Region.noSelect ops = true) (hs : Region.sinkB md ops n = true) (hl : lateB md ops n = true) :
    ∀ (l : List Oper) (k : Nat) (listed : Array Bool) (a : Act), (∀ j, j < l.length → l[j]? = ops[k + j]?) → k + l.length = n → HeadInv md ops n listed → partB md ops n l.length k listed = true → wpStill P ops w Lq l a →
    wpAnyL P md ops w n (fun listed' a' => (Region.ready md ops listed' = [n] ∧ Region.lexFrom md ops (ops.size - (n + 1)) (n + 1) (listed'.setIfInBounds n true) = true) ∧ Lq a') l.length listed a
  | [], k, listed, a, _, _, _, hB, h => by
    simp only [List.length_nil, partB, Bool.and_eq_true, decide_eq_true_eq] at hB
    exact ⟨hB, h⟩
  | o :: l, k, listed, a, hll, hk, inv, hB, h => by
    have h0 : ops[k]? = some o := by simpa using (hll 0 (by simp)).symm
    simp only [List.length_cons, partB, Bool.and_eq_true] at hB
    obtain ⟨⟨hr, hf⟩, hB'⟩ := hB
    have hkn : k < n := by simp only [List.length_cons] at hk; omega
    have hr' : k ∈ Region.ready md ops listed := by simpa using hr
    have hst : stOp P ops w k (wpStill P ops w Lq l) a := by unfold stOp; simp only [h0]; exact h
    obtain ⟨v, hy, hK⟩ := yieldsAt_of_stOp h0 hst
    exact headL_first h0 (Region.noSelect_spec hsel) hs hl hkn (fun listed' a' hL j hj => by rw [hL.1.1] at hj; simp at hj; omega) l.length listed a inv (Region.free_spec h0 hf) hr' hy
      (headL_lex hsel hs hl l (k + 1) _ _ (fun j hj => by have := hll (j + 1) (by simp; omega); simpa [Nat.add_assoc, Nat.add_comm 1 j] using this) (by simp only [List.length_cons] at hk; omega) (inv.set hr' hkn) hB' hK)
end

/-- Behind the call: the rest reads at most. -/
def thenQuiet (P : Program) (ops : Array Oper) (rest : List Oper) (Q : Exit → Act → World → Prop) : Exit → Act → World → Prop
  | .normal, a, w => wpQuiet P ops (fun w' => w' = w) (fun a' => Q .normal a' w) rest a
  | e, a, w => Q e a w

theorem thenQuiet_mk {P : Program} {ops : Array Oper} {rest : List Oper} {Q : Exit → Act → World → Prop} {a : Act} {w : World} (h : wpQuiet P ops (fun w' => w' = w) (fun a' => Q .normal a' w) rest a) : thenQuiet P ops rest Q .normal a w := h

theorem op_then {P : Program} {ops rops : Array Oper} {rest : List Oper} {o : Oper} {Q : Exit → Act → World → Prop} {K : Act → World → Prop} {a : Act} {w : World} (hq : ∀ a w, thenQuiet P rops rest Q .normal a w → K a w) {i : Nat} (hi : ops[i]? = some o)
    (h : wpList P ops (thenQuiet P rops rest Q) [o] a w) : wpOp P ops Q i K a w := by
  have hlo : LetsOut (thenQuiet P rops rest Q) → LetsOut Q := fun ⟨a, w, h⟩ => ⟨a, w, h⟩
  unfold wpOp
  simp only [hi]
  unfold wpList at h
  split
  · rename_i hw
    simp only [hw, if_true] at h
    rcases h with h | ⟨h1, h2⟩
    · left
      unfold Oper.wp at h ⊢
      generalize (execOp a.eval o).run P w = r at *
      cases r with
      | ok n w' =>
        cases n <;> simp only [Oper.upon] at h ⊢
        case value u => exact hq _ _ h
        case skip => exact hq _ _ h
        case defer d => exact hq _ _ h
        case enter f args =>
          refine Calls.mono h fun e w'' he => ?_
          cases e with
          | returned u => exact hq _ _ he
          | panicked c => exact he
          | outgrown => exact hlo he
        case row row args => exact Rows.mono h fun u w'' he => hq _ _ he
      | halt x w' =>
        cases x <;> simp only [Oper.upon] at h ⊢
        case panic u => exact h
    · exact .inr ⟨h1, hlo h2⟩
  · rename_i hw
    simp only [hw] at h
    exact hq _ _ h

/-- A region that draws: its first n operations read, the next one is a call (or writes), the others read at most. -/
theorem quiet_call {P : Program} {id : Nat} {Q : Exit → Act → World → Prop} {a : Act} {w : World} {l : List Oper} (n : Nat) (hm : P.follows .mixedOrders = true) (hB : callB .any l.toArray n = true)
    (h : wpQuiet P l.toArray (fun w' => w' = w.drew) (fun a' => wpList P l.toArray (thenQuiet P l.toArray (l.drop (n + 1)) Q) ((l.drop n).take 1) a' w.drew) (l.take n) a) : (Code.region id l.toArray true).wp P Q a w := by
  simp only [callB, Bool.and_eq_true, decide_eq_true_eq] at hB
  obtain ⟨⟨⟨⟨hsel, hn⟩, hs⟩, hl⟩, hp⟩ := hB
  have hn' : n < l.length := by simpa using hn
  have htl : (l.take n).length = n := by simp; omega
  obtain ⟨o, ho⟩ : ∃ o, l[n]? = some o := ⟨_, List.getElem?_eq_getElem hn'⟩
  have hd1 : (l.drop n).take 1 = [o] := by
    rw [List.drop_eq_getElem_cons hn', List.take_succ_cons, List.take_zero]
    rw [List.getElem?_eq_getElem hn'] at ho
    rw [Option.some.inj ho]
  have inv0 : HeadInv .any l.toArray n (Array.replicate l.toArray.size false) :=
    ⟨by simp, fun j oj _ hl => (by rw [getD_replicate_false] at hl; cases hl), fun t _ ht => getD_in (by simpa using ht) (getD_replicate_false _ _)⟩
  have H := headL_lex (md := .any) hsel hs hl (l.take n) 0 _ a (fun j hj => by
    have hj' : j < n := by rw [htl] at hj; exact hj
    simp [hj']) (by simpa using htl) inv0 (by rw [htl]; exact hp) (still_of_quiet _ _ h)
  refine wp_region_any hm ?_
  have hlen : (l.drop (n + 1)).length = l.toArray.size - (n + 1) := by simp
  have := wpAny_of_head (Q' := Q) (g := (l.toArray.size - (n + 1)) + 1) (fun listed a' hL => by
    obtain ⟨⟨h1, h2⟩, h3⟩ := hL
    rw [hd1] at h3
    refine ⟨fun h0 => (by rw [h1] at h0; cases h0), fun i hi => ?_⟩
    rw [h1] at hi
    obtain rfl : i = n := by simpa using hi
    refine op_then (fun a2 w2 hq => ?_) (by simpa using ho) h3
    have hq' : wpQuiet P l.toArray (fun w' => w' = w2) (fun a' => Q .normal a' w2) (l.drop (i + 1)) a2 := hq
    have := wpAnyQ_lex (md := .any) hsel (l.drop (i + 1)) (i + 1) (listed.setIfInBounds i true) a2 (fun j => by simp [List.getElem?_drop]) (by rw [hlen]; exact h2) hq'
    rw [hlen] at this
    exact wpAny_of_quiet (C := fun w' => w' = w2) (fun a3 w3 hw hq3 => by rw [hw]; exact hq3) _ _ _ _ rfl this) _ _ _ H
  rw [htl, show n + (l.toArray.size - (n + 1) + 1) = l.toArray.size by omega] at this
  exact this
end Go.Proofs.YtpiemfchjlihfaaGreatDoor.Kg

/-
  A region that draws: its head reads and calls what only lays blocks; then a call (or a write), and the rest reads at most. (quiet_call, over a class of worlds.)
-/
set_option linter.unusedVariables false
namespace Go.Proofs.YtpiemfchjlihfaaGreatDoor.Kg
open Go.RowKit

structure Bel (w : World) where
  v : World
  h : Below w.heap.size w v

theorem region_below {P : Program} {id : Nat} {Q : Exit → Act → World → Prop} {a : Act} {w : World} {l : List Oper} (hm : P.follows .mixedOrders = true) (hB : Region.lexB .any l.toArray = true)
    (h : wpQuiet P l.toArray (fun w' => ∃ p : Bel w, w' = p.v) (fun a' => ∀ w', (∃ p : Bel w, w' = p.v) → Q .normal a' w') l a) : (Code.region id l.toArray true).wp P Q a w :=
  wp_region_quiet (C := fun w' => ∃ p : Bel w, w' = p.v) hm hB ⟨⟨w.drewN 1, below_drewN (Below.refl _ _) 1⟩, rfl⟩ (by simpa using h)

theorem calls_bel {P : Program} {f : FuncId} {args : Array Value} {w : World} {p : Bel w} {v : Value} (h : Calls P f args p.v fun e w' => e = .returned v ∧ Below p.v.heap.size p.v w') : Calls P f args p.v fun e w'' => e = .returned v ∧ ∃ q : Bel w, w'' = q.v :=
  h.mono fun _ w'' ⟨he, l⟩ => ⟨he, ⟨w'', p.h.trans (l.mono p.h.size)⟩, rfl⟩

section
variable {P : Program} {ops : Array Oper} {md : Region.Mode} {C : World → Prop}

def wpAnyQL (P : Program) (md : Region.Mode) (ops : Array Oper) (C : World → Prop) (n : Nat) (L : Array Bool → Act → Prop) : Nat → Array Bool → Act → Prop
  | 0, listed, a => L listed a
  | f + 1, listed, a =>
    Region.ready md ops listed ≠ [] ∧ ∀ i ∈ Region.ready md ops listed, i < n ∧ qOp P ops C i (wpAnyQL P md ops C n L f (listed.setIfInBounds i true)) a

theorem wpAny_of_headQ {n g : Nat} {L : Array Bool → Act → Prop} {Q' : Exit → Act → World → Prop} (hL : ∀ listed a w, C w → L listed a → wpAny P md ops Q' g listed a w) :
    ∀ (f : Nat) (listed : Array Bool) (a : Act) (w : World), C w → wpAnyQL P md ops C n L f listed a → wpAny P md ops Q' (f + g) listed a w
  | 0, listed, a, w, hw, h => by rw [Nat.zero_add]; exact hL _ _ _ hw h
  | f + 1, listed, a, w, hw, h => by
    rw [show f + 1 + g = (f + g) + 1 by omega]
    exact ⟨fun h0 => absurd h0 h.1, fun i hi => wpOp_of_qOp hw (fun a' w' hw' h' => wpAny_of_headQ hL f _ a' w' hw' h') (h.2 i hi).2⟩

theorem headQ_first {n i : Nat} {oi : Oper} {v : Value} {L : Array Bool → Act → Prop} (hi : ops[i]? = some oi) (hsel : ∀ (j : Nat) (o : Oper) cs b, ops[j]? = some o → o.op ≠ .select cs b)
    (hs : Region.sinkB md ops n = true) (hl : lateB md ops n = true) (hin : i < n) (hdone : ∀ listed a, L listed a → ∀ j ∈ Region.ready md ops listed, n ≤ j) :
    ∀ (f : Nat) (listed : Array Bool) (a : Act), HeadInv md ops n listed →
      (∀ j oj, ops[j]? = some oj → j ≠ i → listed.getD j true = false → (∀ e ∈ oj.after, Region.binds md e = true → e.on ≠ i) → oi.apart ops oj = true) →
      i ∈ Region.ready md ops listed → YieldsIn P ops C oi v a →
      wpAnyQL P md ops C n L f (listed.setIfInBounds i true) (a.put oi.dst v) → wpAnyQL P md ops C n L (f + 1) listed a
  | f, listed, a, inv, hfree, hr, hy, H => by
    have hun := (mem_ready.1 hr).1
    refine ⟨fun h => (by rw [h] at hr; cases hr), fun j hj => ?_⟩
    have hjn : j < n := Nat.lt_of_not_le fun h => late_waits hs hl inv hin hun h hj
    refine ⟨hjn, ?_⟩
    by_cases hji : j = i
    · subst hji; exact hy.qOp hi H
    · match f, H with
      | 0, H => have := hdone _ _ H j (ready_mono hj hji); omega
      | f + 1, H =>
        have h1 := (H.2 j (ready_mono hj hji)).2
        obtain ⟨hjun, oj, hoj, hall⟩ := mem_ready.1 hj
        have hnot : ∀ e ∈ oj.after, Region.binds md e = true → e.on ≠ i := fun e he hb heq => by
          have h1 := hall e he hb
          rw [heq, getD_both hun] at h1
          cases h1
        refine qOp_mono (fun a' h3 => headQ_first hi hsel hs hl hin hdone f (listed.setIfInBounds j true) a' (inv.set hj hjn) (fun k ok hk hki hun' hno => ?_) (ready_mono hr (Ne.symm hji)) h3.1 ?_)
          (qOp_put hoj (hfree j oj hoj hji hjun hnot) (fun cs b => hsel i oi cs b hi) (fun cs b => hsel j oj cs b hoj) hy h1)
        · refine hfree k ok hk hki ?_ hno
          by_cases hjk : j = k
          · subst hjk; exact hjun
          · rwa [getD_set_ne true hjk] at hun'
        · rw [Array.setIfInBounds_comm _ _ hji]
          exact h3.2

theorem headQ_lex {n : Nat} {Lq : Act → Prop} (hsel : Region.noSelect ops = true) (hs : Region.sinkB md ops n = true) (hl : lateB md ops n = true) :
    ∀ (l : List Oper) (k : Nat) (listed : Array Bool) (a : Act), (∀ j, j < l.length → l[j]? = ops[k + j]?) → k + l.length = n → HeadInv md ops n listed → partB md ops n l.length k listed = true → wpQuiet P ops C Lq l a →
    wpAnyQL P md ops C n (fun listed' a' => (Region.ready md ops listed' = [n] ∧ Region.lexFrom md ops (ops.size - (n + 1)) (n + 1) (listed'.setIfInBounds n true) = true) ∧ Lq a') l.length listed a
  | [], k, listed, a, _, _, _, hB, h => by
    simp only [List.length_nil, partB, Bool.and_eq_true, decide_eq_true_eq] at hB
    exact ⟨hB, h⟩
  | o :: l, k, listed, a, hll, hk, inv, hB, h => by
    have h0 : ops[k]? = some o := by simpa using (hll 0 (by simp)).symm
    simp only [List.length_cons, partB, Bool.and_eq_true] at hB
    obtain ⟨⟨hr, hf⟩, hB'⟩ := hB
    have hkn : k < n := by simp only [List.length_cons] at hk; omega
    have hr' : k ∈ Region.ready md ops listed := by simpa using hr
    have hst : qOp P ops C k (wpQuiet P ops C Lq l) a := by unfold qOp; simp only [h0]; exact h
    obtain ⟨v, hy, hK⟩ := yieldsIn_of_qOp h0 hst
    exact headQ_first h0 (Region.noSelect_spec hsel) hs hl hkn (fun listed' a' hL j hj => by rw [hL.1.1] at hj; simp at hj; omega) l.length listed a inv (Region.free_spec h0 hf) hr' hy
      (headQ_lex hsel hs hl l (k + 1) _ _ (fun j hj => by have := hll (j + 1) (by simp; omega); simpa [Nat.add_assoc, Nat.add_comm 1 j] using this) (by simp only [List.length_cons] at hk; omega) (inv.set hr' hkn) hB' hK)
end

/-- A region that draws: its first n operations read or lay blocks, the next one is a call (or writes), the others read at most. -/
theorem below_call {P : Program} {id : Nat} {Q : Exit → Act → World → Prop} {a : Act} {w : World} {l : List Oper} (n : Nat) (hm : P.follows .mixedOrders = true) (hB : callB .any l.toArray n = true)
    (h : wpQuiet P l.toArray (fun w' => ∃ p : Bel w, w' = p.v) (fun a' => ∀ w', (∃ p : Bel w, w' = p.v) → wpList P l.toArray (thenQuiet P l.toArray (l.drop (n + 1)) Q) ((l.drop n).take 1) a' w') (l.take n) a) : (Code.region id l.toArray true).wp P Q a w := by
  simp only [callB, Bool.and_eq_true, decide_eq_true_eq] at hB
  obtain ⟨⟨⟨⟨hsel, hn⟩, hs⟩, hl⟩, hp⟩ := hB
  have hn' : n < l.length := by simpa using hn
  have htl : (l.take n).length = n := by simp; omega
  obtain ⟨o, ho⟩ : ∃ o, l[n]? = some o := ⟨_, List.getElem?_eq_getElem hn'⟩
  have hd1 : (l.drop n).take 1 = [o] := by
    rw [List.drop_eq_getElem_cons hn', List.take_succ_cons, List.take_zero]
    rw [List.getElem?_eq_getElem hn'] at ho
    rw [Option.some.inj ho]
  have inv0 : HeadInv .any l.toArray n (Array.replicate l.toArray.size false) :=
    ⟨by simp, fun j oj _ hl => (by rw [getD_replicate_false] at hl; cases hl), fun t _ ht => getD_in (by simpa using ht) (getD_replicate_false _ _)⟩
  have H := headQ_lex (md := .any) hsel hs hl (l.take n) 0 _ a (fun j hj => by
    have hj' : j < n := by rw [htl] at hj; exact hj
    simp [hj']) (by simpa using htl) inv0 (by rw [htl]; exact hp) h
  refine wp_region_any hm ?_
  have hlen : (l.drop (n + 1)).length = l.toArray.size - (n + 1) := by simp
  have := wpAny_of_headQ (Q' := Q) (g := (l.toArray.size - (n + 1)) + 1) (fun listed a' w' hw' hL => by
    obtain ⟨⟨h1, h2⟩, h3⟩ := hL
    rw [hd1] at h3
    refine ⟨fun h0 => (by rw [h1] at h0; cases h0), fun i hi => ?_⟩
    rw [h1] at hi
    obtain rfl : i = n := by simpa using hi
    refine op_then (fun a2 w2 hq => ?_) (by simpa using ho) (h3 w' hw')
    have hq' : wpQuiet P l.toArray (fun w' => w' = w2) (fun a' => Q .normal a' w2) (l.drop (i + 1)) a2 := hq
    have := wpAnyQ_lex (md := .any) hsel (l.drop (i + 1)) (i + 1) (listed.setIfInBounds i true) a2 (fun j => by simp [List.getElem?_drop]) (by rw [hlen]; exact h2) hq'
    rw [hlen] at this
    exact wpAny_of_quiet (C := fun w' => w' = w2) (fun a3 w3 hw hq3 => by rw [hw]; exact hq3) _ _ _ _ rfl this) _ _ _ _ (⟨⟨w.drewN 1, below_drewN (Below.refl _ _) 1⟩, rfl⟩ : ∃ p : Bel w, w.drew = p.v) H
  rw [htl, show n + (l.toArray.size - (n + 1) + 1) = l.toArray.size by omega] at this
  exact this

end Go.Proofs.YtpiemfchjlihfaaGreatDoor.Kg

/-
  A region that draws, all of whose operations are quiet in a class of worlds but one, a call whose value may differ from world to world: what follows is asked for every value that it may hand back.
-/
set_option linter.unusedVariables false
namespace Go.Proofs.YtpiemfchjlihfaaGreatDoor.Kg
open Go.RowKit

/-- These operations never enter a function. -/
def plainOp : Op → Bool
  | .move _ | .assign _ | .pick _ _ _ | .load _ _ | .binOp _ _ _ _ _ | .unOp _ _ _ | .convert _ _ _ | .fieldAddr _ _ _ | .field _ _ _ | .indexAddr _ _ _ | .index _ _ _ | .extract _ _ => true
  | _ => false

/-- The operations behind number n wait for it, or are plain. -/
def looseB (md : Region.Mode) (ops : Array Oper) (n : Nat) : Bool :=
  (List.range ops.size).all fun j => j == n || (match ops[j]? with
    | none => true
    | some o => plainOp o.op || o.after.any (fun e => Region.binds md e && e.on == n))

section
variable {P : Program} {ops : Array Oper} {md : Region.Mode} {C : World → Prop}

theorem run_value_only {s : Sem Value} {w w' : World} {n : Next} (h : (do pure (Next.value (← s)) : Sem Next).run P w = .ok n w') : ∃ u, n = .value u := by
  rw [Sem.run_bind] at h
  generalize s.run P w = r at h
  cases r with
  | ok a w2 =>
    simp only [Result.andThen_ok, Sem.run_pure] at h
    injection h with h1 h2
    exact ⟨_, h1.symm⟩
  | halt x w2 => simp at h

theorem run_pick_only {s : Sem Bool} {x y : Value} {w w' : World} {n : Next} (h : (do pure (Next.value (if ← s then x else y)) : Sem Next).run P w = .ok n w') : ∃ u, n = .value u := by
  rw [Sem.run_bind] at h
  generalize s.run P w = r at h
  cases r with
  | ok a w2 =>
    simp only [Result.andThen_ok, Sem.run_pure] at h
    injection h with h1 h2
    exact ⟨_, h1.symm⟩
  | halt x w2 => simp at h

theorem plain_value {o : Oper} (hp : plainOp o.op = true) {ρ : Operand → Value} {w w' : World} {n : Next} (h : (execOp ρ o).run P w = .ok n w') : ∃ u, n = .value u := by
  unfold execOp at h
  unfold plainOp at hp
  split at hp
  all_goals first | (rename_i he; rw [he] at h; exact run_value_only h) | (rename_i he; rw [he] at h; exact run_pick_only h) | (rename_i he; rw [he] at h; injection h with h1 h2; exact ⟨_, h1.symm⟩) | (cases hp)

/-- In every world of the class the operation enters a function that hands back a value of R, and leaves a world of the class. -/
def LooseIn (P : Program) (ops : Array Oper) (C : World → Prop) (o : Oper) (R : Value → Prop) (a : Act) : Prop :=
  Region.wanted o (yielded ops a.tmps) = true ∧ ∀ w, C w → ∃ f args, (execOp a.eval o).run P w = .ok (.enter f args) w ∧ Calls P f args w (fun e w'' => ∃ v, e = .returned v ∧ R v ∧ C w'')

def lOp (P : Program) (ops : Array Oper) (C : World → Prop) (n : Nat) (R : Value → Prop) (i : Nat) (K : Act → Prop) (a : Act) : Prop :=
  if i = n then ∃ o, ops[n]? = some o ∧ LooseIn P ops C o R a ∧ ∀ v, R v → K (a.put o.dst v) else qOp P ops C i K a

theorem lOp_mono {n i : Nat} {R : Value → Prop} {a : Act} {K K' : Act → Prop} (h : ∀ a, K a → K' a) (hh : lOp P ops C n R i K a) : lOp P ops C n R i K' a := by
  unfold lOp at *
  split
  · rename_i hi
    rw [if_pos hi] at hh
    obtain ⟨o, h1, h2, h3⟩ := hh
    exact ⟨o, h1, h2, fun v hv => h _ (h3 v hv)⟩
  · rename_i hi
    rw [if_neg hi] at hh
    exact qOp_mono h hh

def wpAnyL (P : Program) (md : Region.Mode) (ops : Array Oper) (C : World → Prop) (n : Nat) (R : Value → Prop) (Q : Act → Prop) : Nat → Array Bool → Act → Prop
  | 0, listed, a => Region.ready md ops listed = [] ∧ Q a
  | fuel + 1, listed, a =>
    (Region.ready md ops listed = [] → Q a) ∧
    ∀ i ∈ Region.ready md ops listed, lOp P ops C n R i (wpAnyL P md ops C n R Q fuel (listed.setIfInBounds i true)) a

theorem wpOp_of_lOp {n i : Nat} {R : Value → Prop} {a : Act} {K : Act → Prop} {K' : Act → World → Prop} {Q' : Exit → Act → World → Prop} {w : World} (hC : C w) (h : ∀ a w', C w' → K a → K' a w') (hh : lOp P ops C n R i K a) : wpOp P ops Q' i K' a w := by
  unfold lOp at hh
  split at hh
  · rename_i hi
    subst hi
    obtain ⟨o, h1, ⟨h2, h4⟩, h3⟩ := hh
    obtain ⟨f, args, h5, h6⟩ := h4 w hC
    unfold wpOp
    simp only [h1, h2, if_true]
    refine .inl ?_
    unfold Oper.wp
    rw [h5]
    simp only [Oper.upon]
    exact h6.mono fun e w'' ⟨v, he, hv, hw''⟩ => by subst he; exact h _ _ hw'' (h3 v hv)
  · exact wpOp_of_qOp hC h hh

theorem wpAny_of_loose {n : Nat} {R : Value → Prop} {Q : Act → Prop} {Q' : Exit → Act → World → Prop} (hQ : ∀ a w, C w → Q a → Q' .normal a w) : ∀ (fuel : Nat) (listed : Array Bool) (a : Act) (w : World), C w →
    wpAnyL P md ops C n R Q fuel listed a → wpAny P md ops Q' fuel listed a w
  | 0, _, _, _, hw, h => ⟨h.1, hQ _ _ hw h.2⟩
  | fuel + 1, _, _, _, hw, h => ⟨fun h0 => hQ _ _ hw (h.1 h0), fun i hi => wpOp_of_lOp hw (fun a' w' hw' => wpAny_of_loose hQ fuel _ a' w' hw') (h.2 i hi)⟩

theorem LooseIn.of_same {o : Oper} {R : Value → Prop} {a a' : Act} (hy : LooseIn P ops C o R a) (he : execOp a'.eval o = execOp a.eval o)
    (hw : Region.wanted o (yielded ops a'.tmps) = Region.wanted o (yielded ops a.tmps)) : LooseIn P ops C o R a' := by
  unfold LooseIn at *
  rw [he, hw]
  exact hy

/-- A quiet operation oi may come ahead of whatever is apart from it. -/
theorem lOp_put {n j : Nat} {R : Value → Prop} {oi oj : Oper} {v : Value} (hj : ops[j]? = some oj) (hap : oi.apart ops oj = true)
    (hsi : ∀ cs b, oi.op ≠ .select cs b) (hsj : ∀ cs b, oj.op ≠ .select cs b) {K : Act → Prop} {a : Act}
    (hy : YieldsIn P ops C oi v a) (h : lOp P ops C n R j K (a.put oi.dst v)) :
    lOp P ops C n R j (fun a' => YieldsIn P ops C oi v a' ∧ K (a'.put oi.dst v)) a := by
  unfold lOp at *
  by_cases hjn : j = n
  · rw [if_pos hjn] at h ⊢
    subst hjn
    obtain ⟨o, h1, h2, h3⟩ := h
    obtain rfl : o = oj := by rw [hj] at h1; exact (Option.some.inj h1).symm
    obtain ⟨p1, p2, p3⟩ := Oper.apart_spec hap
    refine ⟨o, h1, h2.of_same (execOp_put o hsj a oi.dst v p1).symm (wanted_put o a oi.dst v p1).symm, fun u hu => ⟨hy.of_same (execOp_put oi hsi a o.dst u p3) (wanted_put oi a o.dst u p3), ?_⟩⟩
    rw [← Act.put_comm a v u p2]
    exact h3 u hu
  · rw [if_neg hjn] at h ⊢
    exact qOp_put hj hap hsi hsj hy h

theorem wpAnyL_first {n : Nat} {R : Value → Prop} {Q : Act → Prop} {i : Nat} {oi : Oper} {v : Value} (hin : i ≠ n) (hi : ops[i]? = some oi) (hsel : ∀ (j : Nat) (o : Oper) cs b, ops[j]? = some o → o.op ≠ .select cs b) :
    ∀ (fuel : Nat) (listed : Array Bool) (a : Act),
      (∀ j oj, ops[j]? = some oj → j ≠ i → listed.getD j true = false → (∀ e ∈ oj.after, Region.binds md e = true → e.on ≠ i) → oi.apart ops oj = true) →
      i ∈ Region.ready md ops listed → YieldsIn P ops C oi v a →
      wpAnyL P md ops C n R Q fuel (listed.setIfInBounds i true) (a.put oi.dst v) → wpAnyL P md ops C n R Q (fuel + 1) listed a := by
  intro fuel
  induction fuel with
  | zero =>
    intro listed a _ hr hy H
    refine ⟨fun h => (by rw [h] at hr; cases hr), fun j hj => ?_⟩
    by_cases hji : j = i
    · subst hji; unfold lOp; rw [if_neg hin]; exact hy.qOp hi H
    · have := ready_mono hj hji
      rw [H.1] at this
      cases this
  | succ fuel ih =>
    intro listed a hfree hr hy H
    refine ⟨fun h => (by rw [h] at hr; cases hr), fun j hj => ?_⟩
    by_cases hji : j = i
    · subst hji; unfold lOp; rw [if_neg hin]; exact hy.qOp hi H
    · have h1 := H.2 j (ready_mono hj hji)
      obtain ⟨hjun, oj, hoj, hall⟩ := mem_ready.1 hj
      have hnot : ∀ e ∈ oj.after, Region.binds md e = true → e.on ≠ i := fun e he hb heq => by
        have h1 := hall e he hb
        rw [heq, getD_both (mem_ready.1 hr).1] at h1
        cases h1
      have h2 := lOp_put hoj (hfree j oj hoj hji hjun hnot) (fun cs b => hsel i oi cs b hi) (fun cs b => hsel j oj cs b hoj) hy h1
      have hfree' : ∀ k ok, ops[k]? = some ok → k ≠ i → (listed.setIfInBounds j true).getD k true = false →
          (∀ e ∈ ok.after, Region.binds md e = true → e.on ≠ i) → oi.apart ops ok = true := fun k ok hk hki hun hno => by
        refine hfree k ok hk hki ?_ hno
        by_cases hjk : j = k
        · subst hjk; exact hjun
        · rw [getD_set_ne true hjk] at hun; exact hun
      refine lOp_mono (fun a' h3 => ih (listed.setIfInBounds j true) a' hfree' (ready_mono hr (Ne.symm hji)) h3.1 ?_) h2
      rw [Array.setIfInBounds_comm _ _ hji]
      exact h3.2

/-- The loose operation may come first. -/
theorem wpAnyL_loose {n : Nat} {R : Value → Prop} {Q : Act → Prop} {oi : Oper} {w0 : World} (h0 : C w0) (hi : ops[n]? = some oi) (hsel : ∀ (j : Nat) (o : Oper) cs b, ops[j]? = some o → o.op ≠ .select cs b) (hpl : looseB md ops n = true) :
    ∀ (fuel : Nat) (listed : Array Bool) (a : Act),
      (∀ j oj, ops[j]? = some oj → j ≠ n → listed.getD j true = false → (∀ e ∈ oj.after, Region.binds md e = true → e.on ≠ n) → oi.apart ops oj = true) →
      n ∈ Region.ready md ops listed → LooseIn P ops C oi R a →
      (∀ v, R v → wpAnyL P md ops C n R Q fuel (listed.setIfInBounds n true) (a.put oi.dst v)) → wpAnyL P md ops C n R Q (fuel + 1) listed a := by
  intro fuel
  have hex : ∀ a, LooseIn P ops C oi R a → ∃ v, R v := fun a hy => by
    obtain ⟨f, args, _, h6⟩ := hy.2 w0 h0
    obtain ⟨e, w', fr, ⟨v, _, hv, _⟩, _⟩ := h6 []
    exact ⟨v, hv⟩
  induction fuel with
  | zero =>
    intro listed a _ hr hy H
    refine ⟨fun h => (by rw [h] at hr; cases hr), fun j hj => ?_⟩
    by_cases hji : j = n
    · subst hji; unfold lOp; rw [if_pos rfl]; exact ⟨oi, hi, hy, H⟩
    · have := ready_mono hj hji
      obtain ⟨v, hv⟩ := hex a hy
      rw [(H v hv).1] at this
      cases this
  | succ fuel ih =>
    intro listed a hfree hr hy H
    refine ⟨fun h => (by rw [h] at hr; cases hr), fun j hj => ?_⟩
    by_cases hji : j = n
    · subst hji; unfold lOp; rw [if_pos rfl]; exact ⟨oi, hi, hy, H⟩
    · obtain ⟨hjun, oj, hoj, hall⟩ := mem_ready.1 hj
      have hnot : ∀ e ∈ oj.after, Region.binds md e = true → e.on ≠ n := fun e he hb heq => by
        have h1 := hall e he hb
        rw [heq, getD_both (mem_ready.1 hr).1] at h1
        cases h1
      have hap := hfree j oj hoj hji hjun hnot
      obtain ⟨p1, p2, p3⟩ := Oper.apart_spec hap
      have hsi : ∀ cs b, oi.op ≠ .select cs b := fun cs b => hsel n oi cs b hi
      have hsj : ∀ cs b, oj.op ≠ .select cs b := fun cs b => hsel j oj cs b hoj
      have hplain : plainOp oj.op = true := by
        have hlt : j < ops.size := by
          rcases Nat.lt_or_ge j ops.size with h | h
          · exact h
          · rw [Array.getElem?_eq_none h] at hoj; cases hoj
        have := List.all_eq_true.1 hpl j (List.mem_range.2 hlt)
        simp only [hoj, Bool.or_eq_true, beq_iff_eq, hji, false_or] at this
        rcases this with h | h
        · exact h
        · obtain ⟨e, he, h'⟩ := Array.any_eq_true'.1 h
          simp only [Bool.and_eq_true, beq_iff_eq] at h'
          exact absurd h'.2 (hnot e he h'.1)
      have keep : ∀ (a : Act), LooseIn P ops C oi R a → ∀ u, LooseIn P ops C oi R (a.put oj.dst u) := fun a hy u =>
        hy.of_same (execOp_put oi hsi a oj.dst u p3) (wanted_put oi a oj.dst u p3)
      have hfree' : ∀ k ok, ops[k]? = some ok → k ≠ n → (listed.setIfInBounds j true).getD k true = false →
          (∀ e ∈ ok.after, Region.binds md e = true → e.on ≠ n) → oi.apart ops ok = true := fun k ok hk hki hun hno => by
        refine hfree k ok hk hki ?_ hno
        by_cases hjk : j = k
        · subst hjk; exact hjun
        · rw [getD_set_ne true hjk] at hun; exact hun
      have hr' := ready_mono hr (Ne.symm hji)
      have step : ∀ u, (∀ v, R v → wpAnyL P md ops C n R Q fuel ((listed.setIfInBounds n true).setIfInBounds j true) ((a.put oi.dst v).put oj.dst u)) → wpAnyL P md ops C n R Q (fuel + 1) (listed.setIfInBounds j true) (a.put oj.dst u) := fun u hu =>
        ih (listed.setIfInBounds j true) (a.put oj.dst u) hfree' hr' (keep a hy u) fun v hv => by
          rw [Array.setIfInBounds_comm _ _ hji, ← Act.put_comm a v u p2]
          exact hu v hv
      have hH : ∀ v, R v → qOp P ops C j (wpAnyL P md ops C n R Q fuel ((listed.setIfInBounds n true).setIfInBounds j true)) (a.put oi.dst v) := fun v hv => by
        have := (H v hv).2 j (ready_mono hj hji)
        unfold lOp at this
        rwa [if_neg hji] at this
      unfold lOp
      rw [if_neg hji]
      unfold qOp at hH ⊢
      simp only [hoj] at hH ⊢
      by_cases hw : Region.wanted oj (yielded ops a.tmps) = true
      · rw [if_pos hw]
        have hH' : ∀ v, R v → ∃ u, (∀ w, C w → oj.quietAt P a C w u) ∧ wpAnyL P md ops C n R Q fuel ((listed.setIfInBounds n true).setIfInBounds j true) ((a.put oi.dst v).put oj.dst u) := fun v hv => by
          have h1 := hH v hv
          rw [wanted_put oj a oi.dst v p1, if_pos hw] at h1
          obtain ⟨u, hu, hn⟩ := h1
          refine ⟨u, fun w hw' => ?_, hn⟩
          have := hu w hw'
          unfold Oper.quietAt at *
          rwa [execOp_put oj hsj a oi.dst v p1] at this
        obtain ⟨v0, hv0⟩ := hex a hy
        obtain ⟨u, hu, _⟩ := hH' v0 hv0
        refine ⟨u, hu, step u fun v hv => ?_⟩
        obtain ⟨u', hu', hn⟩ := hH' v hv
        obtain rfl : u = u' := by
          have q1 := hu w0 h0
          have q2 := hu' w0 h0
          unfold Oper.quietAt at q1 q2
          generalize hrr : (execOp a.eval oj).run P w0 = r at q1 q2
          cases r with
          | ok nx w' =>
            obtain ⟨x, rfl⟩ := plain_value hplain hrr
            simp only [Oper.quietUpon] at q1 q2
            rw [← q1.2, ← q2.2]
          | halt x w' => simp only [Oper.quietUpon] at q1
        exact hn
      · rw [if_neg hw]
        refine step undef fun v hv => ?_
        have h1 := hH v hv
        rw [wanted_put oj a oi.dst v p1, if_neg hw] at h1
        exact h1

theorem wpAnyL_lex {n : Nat} {R : Value → Prop} {Q : Act → Prop} {w0 : World} (h0 : C w0) (hs : Region.noSelect ops = true) (hpl : looseB md ops n = true) : ∀ (l : List Oper) (k : Nat) (listed : Array Bool) (a : Act), n < k → (∀ j, l[j]? = ops[k + j]?) →
    Region.lexFrom md ops l.length k listed = true → wpQuiet P ops C Q l a → wpAnyL P md ops C n R Q l.length listed a
  | [], _, _, _, _, _, hB, h => ⟨by simpa [Region.lexFrom] using hB, h⟩
  | o :: l, k, listed, a, hk, hl, hB, h => by
    have h0' : ops[k]? = some o := by simpa using (hl 0).symm
    simp only [List.length_cons, Region.lexFrom, Bool.and_eq_true] at hB
    obtain ⟨⟨hr, hf⟩, hB'⟩ := hB
    have hst : qOp P ops C k (wpQuiet P ops C Q l) a := by unfold qOp; simp only [h0']; exact h
    obtain ⟨v, hy, hK⟩ := yieldsIn_of_qOp h0' hst
    exact wpAnyL_first (by omega) h0' (Region.noSelect_spec hs) l.length listed a (Region.free_spec h0' hf) (by simpa using hr) hy
      (wpAnyL_lex h0 hs hpl l (k + 1) _ _ (by omega) (fun j => by have := hl (j + 1); simpa [Nat.add_assoc, Nat.add_comm 1 j] using this) hB' hK)

/-- The head, then the loose one, then the rest. -/
theorem wpAnyL_whole {n : Nat} {R : Value → Prop} {Q : Act → Prop} {w0 : World} (h0 : C w0) (hs : Region.noSelect ops = true) (hpl : looseB md ops n = true) {on : Oper} (hn : ops[n]? = some on) : ∀ (m k : Nat) (listed : Array Bool) (a : Act), k + m = n →
    Region.lexFrom md ops (ops.size - k) k listed = true → wpQuiet P ops C (fun a' => LooseIn P ops C on R a' ∧ ∀ v, R v → wpQuiet P ops C Q (ops.toList.drop (n + 1)) (a'.put on.dst v)) ((ops.toList.drop k).take m) a → wpAnyL P md ops C n R Q (ops.size - k) listed a
  | 0, k, listed, a, hk, hB, h => by
    obtain rfl : k = n := by omega
    have hlt : k < ops.size := by
      rcases Nat.lt_or_ge k ops.size with h | h
      · exact h
      · rw [Array.getElem?_eq_none h] at hn; cases hn
    obtain ⟨h1, h2⟩ : LooseIn P ops C on R a ∧ ∀ v, R v → wpQuiet P ops C Q (ops.toList.drop (k + 1)) (a.put on.dst v) := by simpa [wpQuiet] using h
    have hsz : ops.size - k = (ops.toList.drop (k + 1)).length + 1 := by simp; omega
    rw [hsz] at hB ⊢
    simp only [Region.lexFrom, Bool.and_eq_true] at hB
    obtain ⟨⟨hr, hf⟩, hB'⟩ := hB
    exact wpAnyL_loose h0 hn (Region.noSelect_spec hs) hpl _ listed a (Region.free_spec hn hf) (by simpa using hr) h1 fun v hv =>
      wpAnyL_lex h0 hs hpl _ (k + 1) _ _ (by omega) (fun j => by simp [List.getElem?_drop]) hB' (h2 v hv)
  | m + 1, k, listed, a, hk, hB, h => by
    have hlt : n < ops.size := by
      rcases Nat.lt_or_ge n ops.size with h | h
      · exact h
      · rw [Array.getElem?_eq_none h] at hn; cases hn
    have hkl : k < ops.toList.length := by simp; omega
    obtain ⟨o, ho⟩ : ∃ o, ops.toList[k]? = some o := ⟨_, List.getElem?_eq_getElem hkl⟩
    have h0' : ops[k]? = some o := by simpa using ho
    have hd : (ops.toList.drop k).take (m + 1) = o :: (ops.toList.drop (k + 1)).take m := by
      rw [List.drop_eq_getElem_cons hkl, List.take_succ_cons]
      rw [List.getElem?_eq_getElem hkl] at ho
      rw [Option.some.inj ho]
    rw [hd] at h
    have hsz : ops.size - k = (ops.size - (k + 1)) + 1 := by omega
    rw [hsz] at hB ⊢
    simp only [Region.lexFrom, Bool.and_eq_true] at hB
    obtain ⟨⟨hr, hf⟩, hB'⟩ := hB
    have hst : qOp P ops C k (wpQuiet P ops C (fun a' => LooseIn P ops C on R a' ∧ ∀ v, R v → wpQuiet P ops C Q (ops.toList.drop (n + 1)) (a'.put on.dst v)) ((ops.toList.drop (k + 1)).take m)) a := by unfold qOp; simp only [h0']; exact h
    obtain ⟨v, hy, hK⟩ := yieldsIn_of_qOp h0' hst
    exact wpAnyL_first (by omega) h0' (Region.noSelect_spec hs) _ listed a (Region.free_spec h0' hf) (by simpa using hr) hy
      (wpAnyL_whole h0 hs hpl hn m (k + 1) _ _ (by omega) hB' hK)
end

theorem wpQuiet_mono {P : Program} {ops : Array Oper} {C : World → Prop} {Q Q' : Act → Prop} (h : ∀ a, Q a → Q' a) : ∀ (l : List Oper) (a : Act), wpQuiet P ops C Q l a → wpQuiet P ops C Q' l a
  | [], a, hh => h a hh
  | o :: l, a, hh => by
    unfold wpQuiet at hh ⊢
    split
    · rename_i hw
      rw [if_pos hw] at hh
      exact Oper.quiet_mono (fun a' h' => wpQuiet_mono h l a' h') hh
    · rename_i hw
      rw [if_neg hw] at hh
      exact wpQuiet_mono h l _ hh

/-- A region that draws: all its operations read or lay blocks; number n calls a function whose value may differ from world to world (it is one of R). -/
theorem below_loose {P : Program} {id : Nat} {Q : Exit → Act → World → Prop} {a : Act} {w : World} {l : List Oper} (n : Nat) (R : Value → Prop) {on : Oper} (hn : l[n]? = some on) (hm : P.follows .mixedOrders = true) (hB : Region.lexB .any l.toArray = true) (hpl : looseB .any l.toArray n = true)
    (h : wpQuiet P l.toArray (fun w' => ∃ p : Bel w, w' = p.v) (fun a' => LooseIn P l.toArray (fun w' => ∃ p : Bel w, w' = p.v) on R a' ∧ ∀ v, R v → wpQuiet P l.toArray (fun w' => ∃ p : Bel w, w' = p.v) (fun a' => ∀ w', (∃ p : Bel w, w' = p.v) → Q .normal a' w') (l.drop (n + 1)) (a'.put on.dst v)) (l.take n) a) : (Code.region id l.toArray true).wp P Q a w := by
  simp only [Region.lexB, Bool.and_eq_true] at hB
  have hC : ∃ p : Bel w, w.drew = p.v := ⟨⟨w.drewN 1, below_drewN (Below.refl _ _) 1⟩, rfl⟩
  refine wp_region_any hm (wpAny_of_loose (C := fun w' => ∃ p : Bel w, w' = p.v) (n := n) (R := R) (Q := fun a' => ∀ w', (∃ p : Bel w, w' = p.v) → Q .normal a' w') (fun _ w' hw' h => h w' hw') _ _ _ _ hC ?_)
  have := wpAnyL_whole (C := fun w' => ∃ p : Bel w, w' = p.v) (R := R) (Q := fun a' => ∀ w', (∃ p : Bel w, w' = p.v) → Q .normal a' w') hC hB.1 hpl (by simpa using hn) n 0 (Array.replicate l.toArray.size false) a (by simp) (by simpa using hB.2) (by simpa using h)
  simpa using this

/-- The same, what follows in a form that the walk takes: the loose operation moves its value into its slot. -/
theorem below_loose_as {P : Program} {id : Nat} {Q : Exit → Act → World → Prop} {a : Act} {w : World} {l : List Oper} (n : Nat) (R : Value → Prop) {d : Option Tmp} {op : Op} {ty : TypeId} {ps : String} {af : Array Edge} {gd : Option (Nat × Bool)} (hn : l[n]? = some ⟨d, op, ty, ps, af, gd⟩) (hm : P.follows .mixedOrders = true) (hB : Region.lexB .any l.toArray = true) (hpl : looseB .any l.toArray n = true)
    (h : wpQuiet P l.toArray (fun w' => ∃ p : Bel w, w' = p.v) (fun a' => LooseIn P l.toArray (fun w' => ∃ p : Bel w, w' = p.v) ⟨d, op, ty, ps, af, gd⟩ R a' ∧ ∀ v, R v → wpQuiet P l.toArray (fun w' => ∃ p : Bel w, w' = p.v) (fun a' => ∀ w', (∃ p : Bel w, w' = p.v) → Q .normal a' w') (⟨d, .move (.const v), ty, ps, af, gd⟩ :: l.drop (n + 1)) a') (l.take n) a) : (Code.region id l.toArray true).wp P Q a w := by
  refine below_loose n R hn hm hB hpl ?_
  refine wpQuiet_mono (fun a' h' => ⟨h'.1, fun v hv => ?_⟩) _ _ h
  have h2 := h'.2 v hv
  have hw : Region.wanted ⟨d, .move (.const v), ty, ps, af, gd⟩ (yielded l.toArray a'.tmps) = true := h'.1.1
  unfold wpQuiet at h2
  rw [if_pos hw] at h2
  obtain ⟨u, h3, h4⟩ := h2
  have h5 := h3 w.drew ⟨⟨w.drewN 1, below_drewN (Below.refl _ _) 1⟩, rfl⟩
  unfold Oper.quietAt execOp at h5
  simp only [Sem.run_pure, Oper.quietUpon] at h5
  rw [← h5.2] at h4
  exact h4

end Go.Proofs.YtpiemfchjlihfaaGreatDoor.Kg

/-
  A region that draws, one of whose operations lays a block at any time: its head reads, with one call that lays blocks at most; then the block, and writes in a forced chain.
-/
set_option linter.unusedVariables false
namespace Go.Proofs.YtpiemfchjlihfaaGreatDoor.Kg
open Go.RowKit

section
variable {P : Program} {ops : Array Oper} {md : Region.Mode} {C : World → Prop}

/-- All that it may hand back is a value. -/
def onlyVal (P : Program) (s : Sem Next) : Prop := ∀ w n w', s.run P w = .ok n w' → ∃ u, n = .value u

theorem onlyVal_bind {α : Type} {s : Sem α} {k : α → Sem Next} (h : ∀ a, onlyVal P (k a)) : onlyVal P (s >>= k) := by
  intro w n w' hr
  rw [Sem.run_bind] at hr
  generalize s.run P w = r at hr
  cases r with
  | ok a w2 =>
    simp only [Result.andThen_ok] at hr
    exact h a _ _ _ hr
  | halt x w2 => simp at hr

theorem onlyVal_pure (u : Value) : onlyVal P (pure (Next.value u)) := fun w n w' h => by
  rw [Sem.run_pure] at h
  injection h with h1 h2
  exact ⟨u, h1.symm⟩

theorem onlyVal_panic : onlyVal P (runtimePanic .nilDeref) := fun w n w' h => by
  simp [runtimePanic, goPanic] at h

def plain2 : Op → Bool
  | .call c => (match c.callee with | .builtin .len => true | .builtin .cap => true | .builtin .min => true | .builtin .max => true | _ => false)
  | .nilCheck _ => true
  | o => plainOp o

theorem nil_only (o : Oper) (x : Operand) (he : o.op = .nilCheck x) (ρ : Operand → Value) : onlyVal P (execOp ρ o) := by
  unfold execOp
  rw [he]
  dsimp only
  split
  · exact onlyVal_panic
  · exact onlyVal_panic
  · exact onlyVal_panic
  · split
    · exact onlyVal_panic
    · refine onlyVal_bind fun p => onlyVal_bind fun q => ?_
      split
      · refine onlyVal_bind fun _ => onlyVal_pure _
      · exact onlyVal_pure _
    · exact onlyVal_pure _
  · exact onlyVal_pure _

theorem plain2_only {o : Oper} (hp : plain2 o.op = true) (ρ : Operand → Value) : onlyVal P (execOp ρ o) := by
  intro w n w' h
  unfold plain2 at hp
  split at hp
  · rename_i c he
    unfold execOp at h
    rw [he] at h
    dsimp only at h
    split at hp
    all_goals first | (rename_i hc; simp only [resolve, hc, pure_bind, invoke, builtin] at h; exact run_value_only h) | (cases hp)
  · rename_i x he
    exact nil_only o x he ρ w n w' h
  · exact plain_value hp h

/-- In every world of the class the operation yields this value, and the world has only grown. -/
def Grow (P : Program) (ops : Array Oper) (C : World → Prop) (o : Oper) (v : Value) (a : Act) : Prop :=
  (Region.wanted o (yielded ops a.tmps) = true ∧ ∀ w, C w → (execOp a.eval o).run P w = .ok (.value v) w ∨ ∃ f args, (execOp a.eval o).run P w = .ok (.enter f args) w ∧ Calls P f args w (fun e w'' => e = .returned v ∧ Below w.heap.size w w'')) ∨
  (Region.wanted o (yielded ops a.tmps) = false ∧ v = undef)

theorem Grow.of_same {o : Oper} {v : Value} {a a' : Act} (hy : Grow P ops C o v a) (he : execOp a'.eval o = execOp a.eval o)
    (hw : Region.wanted o (yielded ops a'.tmps) = Region.wanted o (yielded ops a.tmps)) : Grow P ops C o v a' := by
  unfold Grow at *
  rw [he, hw]
  exact hy

theorem Grow.of_quiet {o : Oper} {v : Value} {a : Act} (hp : plain2 o.op = true) (hy : YieldsIn P ops C o v a) : Grow P ops C o v a := by
  rcases hy with ⟨h1, h2⟩ | h
  · refine .inl ⟨h1, fun w hw => ?_⟩
    have h3 := h2 w hw
    unfold Oper.quietAt at h3
    have h4 := plain2_only (P := P) hp a.eval w
    generalize (execOp a.eval o).run P w = r at h3 h4
    cases r with
    | ok n w' =>
      obtain ⟨u, rfl⟩ := h4 n w' rfl
      simp only [Oper.quietUpon] at h3
      obtain ⟨rfl, rfl⟩ := h3
      exact .inl rfl
    | halt x w' => exact absurd h3 (by simp [Oper.quietUpon])
  · exact .inr h

/-- The head, the block at any time. -/
def wpAnyA (P : Program) (md : Region.Mode) (ops : Array Oper) (C : World → Prop) (n base : Nat) (dst : Option Nat) (L : Nat → Array Bool → Act → Prop) : Option Nat → Nat → Array Bool → Act → Prop
  | x, 0, listed, a => ∃ X, x = some X ∧ L X listed a
  | x, f + 1, listed, a => Region.ready md ops listed ≠ [] ∧ ∀ i ∈ Region.ready md ops listed,
      (i < n ∧ ∃ o v, ops[i]? = some o ∧ Grow P ops C o v a ∧ wpAnyA P md ops C n base dst L x f (listed.setIfInBounds i true) (a.put o.dst v)) ∨
      (i = n ∧ x = none ∧ ∀ X, base ≤ X → wpAnyA P md ops C n base dst L (some X) f (listed.setIfInBounds n true) (a.put dst (.pointer (some ⟨X, 0, none⟩))))


theorem wpAny_of_A {n base g : Nat} {oA : Oper} {ob : Obj} {L : Nat → Array Bool → Act → Prop} {Q : Exit → Act → World → Prop} (hC : ∀ w w', C w → Below w.heap.size w w' → C w') (hb : ∀ w, C w → base ≤ w.heap.size)
    (hn : ops[n]? = some oA) (hg : oA.guard = none) (hA : ∀ ρ w, (execOp ρ oA).run P w = .ok (.value (.pointer (some ⟨w.heap.size, 0, none⟩))) (w.alloc ob))
    (hL : ∀ X listed a w, C w → base ≤ X → w.heap[X]? = some ob → L X listed a → wpAny P md ops Q g listed a w) :
    ∀ (x : Option Nat) (f : Nat) (listed : Array Bool) (a : Act) (w : World), C w → (∀ X, x = some X → base ≤ X ∧ w.heap[X]? = some ob) → wpAnyA P md ops C n base oA.dst L x f listed a → wpAny P md ops Q (f + g) listed a w
  | x, 0, listed, a, w, hw, hx, h => by
    obtain ⟨X, rfl, hl⟩ := h
    rw [Nat.zero_add]
    exact hL X _ _ _ hw (hx X rfl).1 (hx X rfl).2 hl
  | x, f + 1, listed, a, w, hw, hx, h => by
    rw [show f + 1 + g = (f + g) + 1 by omega]
    refine ⟨fun h0 => absurd h0 h.1, fun i hi => ?_⟩
    rcases h.2 i hi with ⟨hin, o, v, ho, hy, hk⟩ | ⟨rfl, rfl, hk⟩
    · unfold wpOp
      simp only [ho]
      rcases hy with ⟨h1, h2⟩ | ⟨h1, rfl⟩
      · simp only [h1, if_true]
        refine .inl ?_
        unfold Oper.wp
        rcases h2 w hw with h3 | ⟨fn, args, h3, h4⟩
        · rw [h3]
          simp only [Oper.upon]
          exact wpAny_of_A hC hb hn hg hA hL x f _ _ w hw hx hk
        · rw [h3]
          simp only [Oper.upon]
          refine h4.mono fun e w'' ⟨he, hl⟩ => ?_
          subst he
          exact wpAny_of_A hC hb hn hg hA hL x f _ _ w'' (hC _ _ hw hl) (fun X hX => ⟨(hx X hX).1, (hl.block X (Array.getElem?_eq_some_iff.1 (hx X hX).2).1).trans (hx X hX).2⟩) hk
      · simp only [h1]
        exact wpAny_of_A hC hb hn hg hA hL x f _ _ w hw hx hk
    · have h1 : Region.wanted oA (yielded ops a.tmps) = true := by simp [Region.wanted, hg]
      unfold wpOp
      simp only [hn, h1, if_true]
      refine .inl ?_
      unfold Oper.wp
      rw [hA]
      simp only [Oper.upon]
      exact wpAny_of_A hC hb hn hg hA hL (some w.heap.size) f _ _ _ (hC _ _ hw (Below.alloc (Below.refl _ _) (Nat.le_refl _) _)) (fun X hX => by
        obtain rfl := Option.some.inj hX
        exact ⟨hb w hw, heap_alloc_new w ob⟩) (hk _ (hb w hw))

theorem A_first {n base i : Nat} {oi oA : Oper} {v : Value} {L : Nat → Array Bool → Act → Prop} (hi : ops[i]? = some oi) (hn : ops[n]? = some oA) (hsel : ∀ (j : Nat) (o : Oper) cs b, ops[j]? = some o → o.op ≠ .select cs b)
    (hs : Region.sinkB md ops (n + 1) = true) (hl : lateB md ops (n + 1) = true) (hin : i < n) (hdone : ∀ X listed a, L X listed a → ∀ j ∈ Region.ready md ops listed, n + 1 ≤ j) :
    ∀ (x : Option Nat) (f : Nat) (listed : Array Bool) (a : Act), HeadInv md ops (n + 1) listed →
      (∀ j oj, ops[j]? = some oj → j ≠ i → listed.getD j true = false → (∀ e ∈ oj.after, Region.binds md e = true → e.on ≠ i) → oi.apart ops oj = true) →
      i ∈ Region.ready md ops listed → Grow P ops C oi v a →
      wpAnyA P md ops C n base oA.dst L x f (listed.setIfInBounds i true) (a.put oi.dst v) → wpAnyA P md ops C n base oA.dst L x (f + 1) listed a
  | x, f, listed, a, inv, hfree, hr, hy, H => by
    have hun := (mem_ready.1 hr).1
    refine ⟨fun h => (by rw [h] at hr; cases hr), fun j hj => ?_⟩
    have hjn : j < n + 1 := Nat.lt_of_not_le fun h => late_waits hs hl inv (by omega) hun h hj
    by_cases hji : j = i
    · subst hji
      exact .inl ⟨hin, oi, v, hi, hy, H⟩
    · match f, H with
      | 0, ⟨X, _, H⟩ => have := hdone _ _ _ H j (ready_mono hj hji); omega
      | f + 1, H =>
        obtain ⟨hjun, oj, hoj, hall⟩ := mem_ready.1 hj
        have hnot : ∀ e ∈ oj.after, Region.binds md e = true → e.on ≠ i := fun e he hb heq => by
          have h1 := hall e he hb
          rw [heq, getD_both hun] at h1
          cases h1
        obtain ⟨p1, p2, p3⟩ := Oper.apart_spec (hfree j oj hoj hji hjun hnot)
        have hfree' : ∀ k ok, ops[k]? = some ok → k ≠ i → (listed.setIfInBounds j true).getD k true = false →
          (∀ e ∈ ok.after, Region.binds md e = true → e.on ≠ i) → oi.apart ops ok = true := fun k ok hk hki hun' hno => by
          refine hfree k ok hk hki ?_ hno
          by_cases hjk : j = k
          · subst hjk; exact hjun
          · rwa [getD_set_ne true hjk] at hun'
        have keep : ∀ u, Grow P ops C oi v (a.put oj.dst u) := fun u => hy.of_same (execOp_put oi (fun cs b => hsel i oi cs b hi) a oj.dst u p3) (wanted_put oi a oj.dst u p3)
        rcases H.2 j (ready_mono hj hji) with ⟨hj2, o, u, ho, gj, hk⟩ | ⟨rfl, rfl, hk⟩
        · obtain rfl : o = oj := by rw [hoj] at ho; exact (Option.some.inj ho).symm
          refine .inl ⟨hj2, o, u, hoj, gj.of_same (execOp_put o (fun cs b => hsel j o cs b hoj) a oi.dst v p1).symm (wanted_put o a oi.dst v p1).symm, ?_⟩
          refine A_first hi hn hsel hs hl hin hdone x f (listed.setIfInBounds j true) _ (inv.set hj hjn) hfree' (ready_mono hr (Ne.symm hji)) (keep u) ?_
          rw [Array.setIfInBounds_comm _ _ hji, ← Act.put_comm a v u p2]
          exact hk
        · obtain rfl : oA = oj := by rw [hoj] at hn; exact (Option.some.inj hn).symm
          refine .inr ⟨rfl, rfl, fun X hX => ?_⟩
          refine A_first hi hn hsel hs hl hin hdone (some X) f (listed.setIfInBounds j true) _ (inv.set hj hjn) hfree' (ready_mono hr (Ne.symm hji)) (keep _) ?_
          rw [Array.setIfInBounds_comm _ _ hji, ← Act.put_comm a v _ p2]
          exact hk X hX

/-- The head in its lexical order; then n alone; then the rest, forced. -/
def partA (md : Region.Mode) (ops : Array Oper) (n : Nat) : Nat → Nat → Array Bool → Bool
  | 0, _, listed => decide (Region.ready md ops listed = [n]) && (Region.seqB md ops (ops.size - (n + 1)) (n + 1) (listed.setIfInBounds n true) && (Region.ready md ops (listed.setIfInBounds n true)).all fun j => decide (n + 1 ≤ j))
  | f + 1, k, listed => (Region.ready md ops listed).contains k && Region.free md ops listed k && partA md ops n f (k + 1) (listed.setIfInBounds k true)

/-- A walk of the lexical order. -/
def wpG (P : Program) (ops : Array Oper) (C : World → Prop) (Lq : Act → Prop) : List Oper → Act → Prop
  | [], a => Lq a
  | o :: l, a => ∃ v, Grow P ops C o v a ∧ wpG P ops C Lq l (a.put o.dst v)

theorem wpG_quiet {Lq K : Act → Prop} {l2 : List Oper} (hK : ∀ a, K a → wpG P ops C Lq l2 a) : ∀ (l : List Oper) (a : Act), (∀ o, o ∈ l → plain2 o.op = true) → wpQuiet P ops C K l a → wpG P ops C Lq (l ++ l2) a
  | [], a, _, h => hK a h
  | o :: l, a, hp, h => by
    have h' : if Region.wanted o (yielded ops a.tmps) then o.quiet P a C (wpQuiet P ops C K l) else wpQuiet P ops C K l (a.put o.dst undef) := h
    by_cases hw : Region.wanted o (yielded ops a.tmps) = true
    · rw [if_pos hw] at h'
      obtain ⟨v, h1, h2⟩ := h'
      exact ⟨v, Grow.of_quiet (hp o (by simp)) (.inl ⟨hw, h1⟩), wpG_quiet hK l _ (fun o' ho' => hp o' (by simp [ho'])) h2⟩
    · rw [if_neg hw] at h'
      exact ⟨undef, .inr ⟨by simpa using hw, rfl⟩, wpG_quiet hK l _ (fun o' ho' => hp o' (by simp [ho'])) h'⟩

theorem A_lex {n base : Nat} {oA : Oper} {Lq : Nat → Act → Prop} (hn : ops[n]? = some oA) (hsel : Region.noSelect ops = true) (hs : Region.sinkB md ops (n + 1) = true) (hl : lateB md ops (n + 1) = true) :
    ∀ (l : List Oper) (k : Nat) (listed : Array Bool) (a : Act), (∀ j, j < l.length → l[j]? = ops[k + j]?) → k + l.length = n → HeadInv md ops (n + 1) listed → partA md ops n l.length k listed = true →
    wpG P ops C (fun a' => ∀ X, base ≤ X → Lq X (a'.put oA.dst (.pointer (some ⟨X, 0, none⟩)))) l a →
    wpAnyA P md ops C n base oA.dst (fun X listed' a' => (Region.seqB md ops (ops.size - (n + 1)) (n + 1) listed' = true ∧ ∀ j ∈ Region.ready md ops listed', n + 1 ≤ j) ∧ Lq X a') none (l.length + 1) listed a
  | [], k, listed, a, _, _, _, hB, h => by
    simp only [List.length_nil, partA, Bool.and_eq_true, decide_eq_true_eq, List.all_eq_true] at hB
    refine ⟨fun h0 => (by rw [hB.1] at h0; cases h0), fun i hi => ?_⟩
    rw [hB.1] at hi
    obtain rfl : i = n := by simpa using hi
    exact .inr ⟨rfl, rfl, fun X hX => ⟨X, rfl, hB.2, h X hX⟩⟩
  | o :: l, k, listed, a, hll, hk, inv, hB, h => by
    have h0 : ops[k]? = some o := by simpa using (hll 0 (by simp)).symm
    simp only [List.length_cons, partA, Bool.and_eq_true] at hB
    obtain ⟨⟨hr, hf⟩, hB'⟩ := hB
    have hkn : k < n := by simp only [List.length_cons] at hk; omega
    have hr' : k ∈ Region.ready md ops listed := by simpa using hr
    obtain ⟨v, hy, hK⟩ := h
    exact A_first h0 hn (Region.noSelect_spec hsel) hs hl hkn (fun X listed' a' hL => hL.1.2) none (l.length + 1) listed a inv (Region.free_spec h0 hf) hr' hy
      (A_lex hn hsel hs hl l (k + 1) _ _ (fun j hj => by have := hll (j + 1) (by simp; omega); simpa [Nat.add_assoc, Nat.add_comm 1 j] using this) (by simp only [List.length_cons] at hk; omega) (inv.set hr' (by omega)) hB' hK)

end

def allocB (l : List Oper) (c n : Nat) : Bool :=
  Region.noSelect l.toArray && decide (n < l.length) && decide (c < n) && Region.sinkB .any l.toArray (n + 1) && lateB .any l.toArray (n + 1) && partA .any l.toArray n n 0 (Array.replicate l.toArray.size false) && (l.take c).all (fun o => plain2 o.op) && ((l.take n).drop (c + 1)).all (fun o => plain2 o.op)

/-- A region that draws: its first n operations read, but for number c, a call that lays blocks at most; number n lays a block at any time; what follows writes in a forced chain. -/
theorem alloc_call {P : Program} {id : Nat} {Q : Exit → Act → World → Prop} {a : Act} {w : World} {l : List Oper} (c n : Nat) (oc oA : Oper) (t : TypeId) (ob : Obj) (hc : l[c]? = some oc) (hn : l[n]? = some oA) (ho : oA.op = .alloc t) (hg : oA.guard = none)
    (hA : ∀ w, (Instr.alloc t true (.tuple #[])).run P w = .ok (.pointer (some ⟨w.heap.size, 0, none⟩)) (w.alloc ob)) (hm : P.follows .mixedOrders = true) (hB : allocB l c n = true)
    (h : wpQuiet P l.toArray (fun w' => ∃ p : Bel w, w' = p.v) (fun a1 => ∃ v, Grow P l.toArray (fun w' => ∃ p : Bel w, w' = p.v) oc v a1 ∧
      wpQuiet P l.toArray (fun w' => ∃ p : Bel w, w' = p.v) (fun a2 => ∀ (p : Bel w) X, w.heap.size ≤ X → p.v.heap[X]? = some ob → wpList P l.toArray Q (l.drop (n + 1)) (a2.put oA.dst (.pointer (some ⟨X, 0, none⟩))) p.v) ((l.take n).drop (c + 1)) (a1.put oc.dst v)) (l.take c) a) :
    (Code.region id l.toArray true).wp P Q a w := by
  simp only [allocB, Bool.and_eq_true, decide_eq_true_eq, List.all_eq_true] at hB
  obtain ⟨⟨⟨⟨⟨⟨⟨hsel, hnl⟩, hcn⟩, hs⟩, hl⟩, hp⟩, hp1⟩, hp2⟩ := hB
  have htl : (l.take n).length = n := by simp; omega
  have hdl : (l.drop (n + 1)).length = l.toArray.size - (n + 1) := by simp
  have inv0 : HeadInv .any l.toArray (n + 1) (Array.replicate l.toArray.size false) :=
    ⟨by simp, fun j oj _ hl => (by rw [getD_replicate_false] at hl; cases hl), fun t _ ht => getD_in (by simpa using ht) (getD_replicate_false _ _)⟩
  have hcut : l.take n = l.take c ++ oc :: (l.take n).drop (c + 1) := by
    have h1 : (l.take n)[c]? = some oc := by rw [List.getElem?_take, if_pos hcn]; exact hc
    have h2 : c < (l.take n).length := by omega
    rw [List.getElem?_eq_getElem h2] at h1
    have h3 : (l.take n).take c = l.take c := by rw [List.take_take]; congr 1; omega
    have h4 := List.take_append_drop c (l.take n)
    rw [h3, List.drop_eq_getElem_cons h2, Option.some.inj h1] at h4
    exact h4.symm
  have G : wpG P l.toArray (fun w' => ∃ p : Bel w, w' = p.v) (fun a2 => ∀ X, w.heap.size ≤ X → ∀ w', (∃ p : Bel w, w' = p.v) → w'.heap[X]? = some ob → wpList P l.toArray Q (l.drop (n + 1)) (a2.put oA.dst (.pointer (some ⟨X, 0, none⟩))) w') (l.take n) a := by
    rw [hcut]
    refine wpG_quiet (fun a1 ⟨v, h1, h2⟩ => ?_) _ a hp1 h
    refine ⟨v, h1, ?_⟩
    have := wpG_quiet (l2 := []) (K := fun a2 => ∀ (p : Bel w) X, w.heap.size ≤ X → p.v.heap[X]? = some ob → wpList P l.toArray Q (l.drop (n + 1)) (a2.put oA.dst (.pointer (some ⟨X, 0, none⟩))) p.v) (Lq := fun a2 => ∀ X, w.heap.size ≤ X → ∀ w', (∃ p : Bel w, w' = p.v) → w'.heap[X]? = some ob → wpList P l.toArray Q (l.drop (n + 1)) (a2.put oA.dst (.pointer (some ⟨X, 0, none⟩))) w') (fun a2 h3 X hX w' ⟨p, hw'⟩ h4 => by subst hw'; exact h3 p X hX h4) _ _ hp2 h2
    rwa [List.append_nil] at this
  have H := A_lex (md := .any) (base := w.heap.size) (Lq := fun X a' => ∀ w', (∃ p : Bel w, w' = p.v) → w'.heap[X]? = some ob → wpList P l.toArray Q (l.drop (n + 1)) a' w') (by simpa using hn) hsel hs hl (l.take n) 0 _ a (fun j hj => by
    have hj' : j < n := by rw [htl] at hj; exact hj
    simp [hj']) (by simpa using htl) inv0 (by rw [htl]; exact hp) G
  refine wp_region_any hm ?_
  have := wpAny_of_A (Q := Q) (g := l.toArray.size - (n + 1)) (ob := ob) (fun w1 w2 ⟨p, hp⟩ hl => by subst hp; exact ⟨⟨w2, p.h.trans (hl.mono p.h.size)⟩, rfl⟩) (fun w1 ⟨p, hp⟩ => by subst hp; exact p.h.size) (by simpa using hn) hg
    (fun ρ w1 => by
      unfold execOp
      rw [ho]
      dsimp only
      rw [Sem.run_bind, hA]
      rfl)
    (fun X listed a' w' hw' hX hob hL => by
      have := wpAny_of_seq (md := .any) (Q' := Q) (l.drop (n + 1)) (n + 1) listed a' w' (fun j => by simp [List.getElem?_drop]) (by rw [hdl]; exact hL.1.1) (hL.2 w' hw' hob)
      rwa [hdl] at this) none _ _ _ w.drew (⟨⟨w.drewN 1, below_drewN (Below.refl _ _) 1⟩, rfl⟩ : ∃ p : Bel w, w.drew = p.v) (fun X h => nomatch h) H
  rw [htl, show n + 1 + (l.toArray.size - (n + 1)) = l.toArray.size by simp; omega] at this
  exact this

end Go.Proofs.YtpiemfchjlihfaaGreatDoor.Kg

