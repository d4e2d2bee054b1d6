import Derived.Test.YtckgcpoheodbcaaDoorPKn
import Derived.Deep.RegionHeld3
import Derived.Test.YtckgcpoheodbcaaDoorLD6
/-
  A region that draws, over a condition S on the world that all but its last operation keep: number L, the last one, waits for all others (a store into a cell that S tells of, say).
-/
set_option linter.unusedVariables false
namespace Go.Proofs.YtckgcpoheodbcaaDoor.Kg
open Go.RowKit

section
variable {P : Program} {ops : Array Oper} {Q : Exit → Act → World → Prop} {md : Region.Mode} {S : World → Prop} {L : Nat}

/-- Number L waits for all others. -/
def waitB (md : Region.Mode) (ops : Array Oper) (L : Nat) : Bool :=
  (List.range ops.size).all fun i => i == L || (match ops[L]? with
    | some o => o.after.any (fun e => Region.binds md e && e.on == i)
    | none => false)

theorem wait_spec (h : waitB md ops L = true) {listed : Array Bool} (hr : L ∈ Region.ready md ops listed) {i : Nat} (hi : i < ops.size) (hne : i ≠ L) : listed.getD i false = true := by
  have h1 := List.all_eq_true.1 h i (List.mem_range.2 hi)
  obtain ⟨h2, h3, o, ho, h4⟩ := mem_rdy2.1 hr
  simp only [ho, Bool.or_eq_true, beq_iff_eq, hne, false_or] at h1
  obtain ⟨e, he, h5⟩ := Array.any_eq_true'.1 h1
  simp only [Bool.and_eq_true, beq_iff_eq] at h5
  rw [← h5.2]
  exact h4 e he h5.1

/-- Whatever order is picked from here on, and S holds behind every operation but number L. -/
def wpAnyE (P : Program) (md : Region.Mode) (ops : Array Oper) (Q : Exit → Act → World → Prop) (S : World → Prop) (L : Nat) : Nat → Array Bool → Act → World → Prop
  | 0, listed, a, w => Region.ready md ops listed = [] ∧ Q .normal a w
  | fuel + 1, listed, a, w =>
    (Region.ready md ops listed = [] → Q .normal a w) ∧
    ∀ i ∈ Region.ready md ops listed, wpOp P ops Q i (fun a' w' => (i ≠ L → S w') ∧ wpAnyE P md ops Q S L fuel (listed.setIfInBounds i true) a' w') a w

theorem wpAny_of_E : ∀ (fuel : Nat) (listed : Array Bool) (a : Act) (w : World), wpAnyE P md ops Q S L fuel listed a w → wpAny P md ops Q fuel listed a w
  | 0, _, _, _, h => h
  | fuel + 1, _, _, _, h => ⟨h.1, fun i hi => wpOp_mono (fun a' w' h' => wpAny_of_E fuel _ a' w' h'.2) (h.2 i hi)⟩

theorem wpAnyE_first (hL : waitB md ops L = true) {i : Nat} (hiL : i ≠ L) {oi : Oper} {v : Value} (hi : ops[i]? = some oi) (hsel : ∀ (j : Nat) (o : Oper) cs b, ops[j]? = some o → o.op ≠ .select cs b)
    (hQ : ∀ c a w, Q (.panic c) (a.put oi.dst v) w → Q (.panic c) a w) :
    ∀ (fuel : Nat) (listed : Array Bool) (a : Act) (w : World),
      (∀ j oj, ops[j]? = some oj → j ≠ i → listed.getD j true = false → (∀ e ∈ oj.after, Region.binds md e = true → e.on ≠ i) → oi.apart ops oj = true) →
      i ∈ Region.ready md ops listed → YieldsIf P ops S oi v a → S w →
      wpAnyE P md ops Q S L fuel (listed.setIfInBounds i true) (a.put oi.dst v) w → wpAnyE P md ops Q S L (fuel + 1) listed a w := by
  have hsz : i < ops.size := by
    rcases Nat.lt_or_ge i ops.size with h | h
    · exact h
    · rw [Array.getElem?_eq_none h] at hi; cases hi
  intro fuel
  induction fuel with
  | zero =>
    intro listed a w _ hr hy hS H
    refine ⟨fun h => (by rw [h] at hr; cases hr), fun j hj => ?_⟩
    by_cases hji : j = i
    · subst hji; exact hy.wpOp hi hS ⟨fun _ => hS, H⟩
    · have := ready_mono hj hji
      rw [H.1] at this
      cases this
  | succ fuel ih =>
    intro listed a w hfree hr hy hS H
    refine ⟨fun h => (by rw [h] at hr; cases hr), fun j hj => ?_⟩
    by_cases hji : j = i
    · subst hji; exact hy.wpOp hi hS ⟨fun _ => hS, H⟩
    · have hjL : j ≠ L := fun e => by
        subst e
        have h1 := wait_spec hL hj hsz hiL
        have h2 := (mem_ready.1 hr).1
        rw [getD_both h2] at h1
        cases h1
      have h1 := H.2 j (ready_mono hj hji)
      obtain ⟨hjun, oj, hoj, hall⟩ := mem_ready.1 hj
      have hnot : ∀ e ∈ oj.after, Region.binds md e = true → e.on ≠ i := fun e he hb heq => by
        have h1 := hall e he hb
        rw [heq, getD_both (mem_ready.1 hr).1] at h1
        cases h1
      have h2 := wpOp_putIf hoj (hfree j oj hoj hji hjun hnot) (fun cs b => hsel i oi cs b hi) (fun cs b => hsel j oj cs b hoj) hQ hy h1
      have hfree' : ∀ k ok, ops[k]? = some ok → k ≠ i → (listed.setIfInBounds j true).getD k true = false →
          (∀ e ∈ ok.after, Region.binds md e = true → e.on ≠ i) → oi.apart ops ok = true := fun k ok hk hki hun hno => by
        refine hfree k ok hk hki ?_ hno
        by_cases hjk : j = k
        · subst hjk; exact hjun
        · rw [getD_set_ne true hjk] at hun; exact hun
      refine wpOp_mono (fun a' w' h3 => ⟨h3.2.1, ih (listed.setIfInBounds j true) a' w' hfree' (ready_mono hr (Ne.symm hji)) h3.1 (h3.2.1 hjL) ?_⟩) h2
      rw [Array.setIfInBounds_comm _ _ hji]
      exact h3.2.2

theorem wpAnyE_take {i : Nat} {oi : Oper} {v : Value} {fuel : Nat} {listed : Array Bool} {a : Act} {w : World} (hL : waitB md ops L = true) (hiL : i ≠ L) (hi : ops[i]? = some oi)
    (hs : Region.noSelect ops = true) (hf : Region.free md ops listed i = true) (hr : (Region.ready md ops listed).contains i = true)
    (hQ : ∀ c a w, Q (.panic c) (a.put oi.dst v) w → Q (.panic c) a w) (hy : YieldsIf P ops S oi v a) (hS : S w)
    (h : wpAnyE P md ops Q S L fuel (listed.setIfInBounds i true) (a.put oi.dst v) w) : wpAnyE P md ops Q S L (fuel + 1) listed a w :=
  wpAnyE_first hL hiL hi (Region.noSelect_spec hs) hQ fuel listed a w (Region.free_spec hi hf) (by simpa using hr) hy hS h

/-- The one that may come up comes up; behind it S is to be shown anew. -/
theorem wpAnyE_one {i : Nat} {o : Oper} {fuel : Nat} {listed : Array Bool} {a : Act} {w : World} (hr : Region.ready md ops listed = [i]) (ho : ops[i]? = some o)
    (h : ∀ K' : Act → World → Prop, Shut (∀ a w, S w → (S w → wpAnyE P md ops Q S L fuel (listed.setIfInBounds i true) a w) → K' a w) → if Region.wanted o (yielded ops a.tmps) = true then Oper.wp P o a w K' Q else K' (a.put o.dst undef) w) : wpAnyE P md ops Q S L (fuel + 1) listed a w := by
  refine ⟨fun h0 => (by rw [hr] at h0; cases h0), fun j hj => ?_⟩
  rw [hr] at hj
  obtain rfl : j = i := by simpa using hj
  exact wpOp_step ho (fun K' hK => h K' (fun a w hS hW => hK a w ⟨fun _ => hS, hW hS⟩))

/-- The last one comes up. -/
theorem wpAnyE_last {o : Oper} {fuel : Nat} {listed : Array Bool} {a : Act} {w : World} (hr : Region.ready md ops listed = [L]) (hr2 : Region.ready md ops (listed.setIfInBounds L true) = []) (ho : ops[L]? = some o)
    (h : ∀ K' : Act → World → Prop, Shut (∀ a w, Q .normal a w → K' a w) → if Region.wanted o (yielded ops a.tmps) = true then Oper.wp P o a w K' Q else K' (a.put o.dst undef) w) : wpAnyE P md ops Q S L (fuel + 1) listed a w := by
  refine ⟨fun h0 => (by rw [hr] at h0; cases h0), fun j hj => ?_⟩
  rw [hr] at hj
  obtain rfl : j = L := by simpa using hj
  refine wpOp_step ho (fun K' hK => h K' (fun a w hq => hK a w ⟨fun h => absurd rfl h, ?_⟩))
  cases fuel with
  | zero => exact ⟨hr2, hq⟩
  | succ f => exact ⟨fun _ => hq, fun i hi => by rw [hr2] at hi; cases hi⟩

/-- The beginning. -/
theorem wp_region_E {id : Nat} {a : Act} {w : World} (L : Nat) (hm : P.follows .mixedOrders = true) (hS : S w.drew)
    (h : S w.drew → wpAnyE P .any ops Q S L ops.size (Array.replicate ops.size false) a w.drew) : (Code.region id ops true).wp P Q a w :=
  wp_region_any hm (wpAny_of_E _ _ _ _ (h hS))

end

end Go.Proofs.YtckgcpoheodbcaaDoor.Kg

/-
  Dominators: a list of lists of one's own.
-/
set_option linter.unusedVariables false
set_option maxRecDepth 20000
namespace Go.Proofs.YtckgcpoheodbcaaDoor
open Go.RowKit Go.Shelf Go.Proofs.YtckgcpoheodbcaaDoor.Lt

/-- A list of lists in block R. -/
structure Ll (w : World) (B R p : Nat) (vs : Nat → Value) (L : Nat → List Int) : Prop where
  h : ∃ cs, w.heap[R]? = some (.cells cs 24 (0, 0)) ∧ cs.size = p ∧ ∀ i, i < p → cs[i]? = some (vs i)
  l : ∀ i, i < p → Il w B (vs i) (L i)
  d : ∀ i j k, i < p → j < p → (vs i).ownBlock = some k → (vs j).ownBlock = some k → i = j
  lo : B ≤ R

/-- Its blocks. -/
def llF (R p : Nat) (vs : Nat → Value) : List Nat := R :: (List.range p).filterMap (fun i => (vs i).ownBlock)

variable {w w' : World} {B R p : Nat} {vs : Nat → Value} {L : Nat → List Int}

theorem mem_llF {k : Nat} : k ∈ llF R p vs ↔ k = R ∨ ∃ i, i < p ∧ (vs i).ownBlock = some k := by
  simp [llF, List.mem_filterMap]

theorem Ll.lt (h : Ll w B R p vs L) : R < w.heap.size := by
  obtain ⟨cs, h1, -⟩ := h.h
  exact Kg.heap_lt h1

theorem Ll.ne (h : Ll w B R p vs L) {i : Nat} (hi : i < p) : (vs i).ownBlock ≠ some R := fun e => by
  obtain ⟨cs, h1, -⟩ := h.h
  exact Kg.row_ne h1 (h.l i hi) (by decide) e.symm

theorem Ll.mem (h : Ll w B R p vs L) : ∀ k, k ∈ llF R p vs → B ≤ k ∧ k < w.heap.size := fun k hk => by
  rcases mem_llF.1 hk with rfl | ⟨i, hi, h1⟩
  · exact ⟨h.lo, h.lt⟩
  · exact World.ownsRow.lt (h.l i hi) k h1

theorem Ll.cell (h : Ll w B R p vs L) {i : Nat} (hi : i < p) : w.cell? ⟨R, i, none⟩ = some (vs i) := by
  obtain ⟨cs, h1, -, h2⟩ := h.h
  exact (Kg.heap_cell h1 i).trans (h2 i hi)

theorem Ll.frozen (h : Ll w B R p vs L) (i : Nat) : w.frozen? ⟨R, i, none⟩ = false := by
  obtain ⟨cs, h1, -⟩ := h.h
  exact Kg.heap_frozen h1 i

theorem Ll.keep (h : Ll w B R p vs L) {G : List Nat} (ht : Kg.Touch G w w') (hG : ∀ k, k ∈ llF R p vs → k ∉ G) : Ll w' B R p vs L := by
  obtain ⟨cs, h1, h2, h3⟩ := h.h
  exact ⟨⟨cs, (ht.block _ (Kg.heap_lt h1) (hG R (mem_llF.2 (.inl rfl)))).trans h1, h2, h3⟩, fun i hi => Kg.row_keep2 (h.l i hi) ht (fun k hk => hG k (mem_llF.2 (.inr ⟨i, hi, hk⟩))), h.d, h.lo⟩

/-- Another list in its cell number i: the old one grown, or none. -/
theorem Ll.put (h : Ll w B R p vs L) {i : Nat} (hi : i < p) {w8 : World} {v8 : Value} {l8 : List Int} (ht : Kg.Touch (vs i).ownBlock.toList w w8) (ho : Il w8 B v8 l8) (hn : ∀ k, v8.ownBlock = some k → (vs i).ownBlock = some k ∨ w.heap.size ≤ k) :
    Hid (Ll (w8.setCell ⟨R, i, none⟩ v8) B R p (fun j => if j = i then v8 else vs j) (fun j => if j = i then l8 else L j) ∧ Kg.Touch (llF R p vs) w (w8.setCell ⟨R, i, none⟩ v8) ∧ Kg.Newer w.heap.size (llF R p vs) (llF R p (fun j => if j = i then v8 else vs j))) ∧ w8.cell? ⟨R, i, none⟩ = some (vs i) ∧ w8.frozen? ⟨R, i, none⟩ = false := by
  obtain ⟨cs, h1, h2, h3⟩ := h.h
  have hR : R ∉ (vs i).ownBlock.toList := fun hm => by rw [Option.mem_toList] at hm; exact h.ne hi hm
  have h8 := (ht.block _ (Kg.heap_lt h1) hR).trans h1
  have hR8 : v8.ownBlock ≠ some R := fun e => Kg.row_ne h8 ho (by decide) e.symm
  have tS : Kg.Touch [R] w8 (w8.setCell ⟨R, i, none⟩ v8) := Kg.Touch.setCell _ _ _ (by simp)
  refine ⟨⟨⟨⟨cs.setIfInBounds i v8, Kg.heap_set h8 i v8, by simpa using h2, fun j hj => ?_⟩, fun j hj => ?_, fun a b k ha hb h4 h5 => ?_, h.lo⟩, ?_, fun k hk => ?_⟩, (Kg.heap_cell h8 i).trans (h3 i hi), Kg.heap_frozen h8 i⟩
  · rw [Array.getElem?_setIfInBounds]
    by_cases e : i = j
    · subst e
      rw [if_pos rfl, if_pos (by omega), if_pos rfl]
    · rw [if_neg e, if_neg (fun h => e h.symm)]
      exact h3 j hj
  · by_cases e : j = i
    · rw [if_pos e, if_pos e]
      exact Kg.row_keep2 ho tS (fun k hk => by simp only [List.mem_singleton]; exact fun e => hR8 (by rw [hk, e]))
    · rw [if_neg e, if_neg e]
      have h6 := Kg.row_keep2 (h.l j hj) ht (fun k hk hm => by rw [Option.mem_toList] at hm; exact e (h.d j i k hj hi hk hm))
      exact Kg.row_keep2 h6 tS (fun k hk => by simp only [List.mem_singleton]; exact fun e => h.ne hj (by rw [hk, e]))
  · by_cases ea : a = i
    · by_cases eb : b = i
      · rw [ea, eb]
      · rw [if_pos ea] at h4
        rw [if_neg eb] at h5
        rcases hn k h4 with h6 | h6
        · exact absurd (h.d b i k hb hi h5 h6) eb
        · have := (World.ownsRow.lt (h.l b hb) k h5).2
          omega
    · rw [if_neg ea] at h4
      by_cases eb : b = i
      · rw [if_pos eb] at h5
        rcases hn k h5 with h6 | h6
        · exact absurd (h.d a i k ha hi h4 h6) ea
        · have := (World.ownsRow.lt (h.l a ha) k h4).2
          omega
      · rw [if_neg eb] at h5
        exact h.d a b k ha hb h4 h5
  · exact (ht.mono (fun k hk => .inl (mem_llF.2 (.inr ⟨i, hi, by rw [Option.mem_toList] at hk; exact hk⟩)))).trans (tS.mono (fun k hk => .inl (mem_llF.2 (.inl (by simpa using hk)))))
  · rcases mem_llF.1 hk with h4 | ⟨j, hj, h4⟩
    · exact .inl (mem_llF.2 (.inl h4))
    · by_cases e : j = i
      · rw [if_pos e] at h4
        rcases hn k h4 with h6 | h6
        · exact .inl (mem_llF.2 (.inr ⟨i, hi, h6⟩))
        · exact .inr h6
      · rw [if_neg e] at h4
        exact .inl (mem_llF.2 (.inr ⟨j, hj, h4⟩))

/-- One more behind the list in its cell number i. -/
theorem Ll.push (h : Ll w B R p vs L) (hB : B ≤ w.heap.size) {i : Nat} (hi : i < p) {w8 : World} {v8 : Value} {x : Int} (h8 : w8.ownsRow B 3 1 v8 ((L i).length + 1) (Kg.ints (L i) ++ [.int .i64 x])) (g8 : (w.alloc (.cells #[.int .i64 x] 3)).grownBy w8 (vs i).ownBlock) (e8 : v8.ownBlock = (vs i).ownBlock ∨ v8.ownBlock = some (w.alloc (.cells #[.int .i64 x] 3)).heap.size) :
    Hid (Ll (w8.setCell ⟨R, i, none⟩ v8) B R p (fun j => if j = i then v8 else vs j) (fun j => if j = i then L i ++ [x] else L j) ∧ Kg.Touch (llF R p vs) w (w8.setCell ⟨R, i, none⟩ v8) ∧ Kg.Newer w.heap.size (llF R p vs) (llF R p (fun j => if j = i then v8 else vs j))) ∧ w8.cell? ⟨R, i, none⟩ = some (vs i) ∧ w8.frozen? ⟨R, i, none⟩ = false := by
  obtain ⟨s1, s2, -⟩ := Il.snoc (h.l i hi) h8 g8 hB
  have h10 : (w.alloc (.cells #[.int .i64 x] 3)).heap.size = w.heap.size + 1 := by simp
  rw [h10] at e8
  refine h.put hi s2 s1 (fun k hk => ?_)
  rcases e8 with h9 | h9
  · exact .inl (by rw [← h9]; exact hk)
  · rw [h9] at hk; cases hk; exact .inr (by omega)

end Go.Proofs.YtckgcpoheodbcaaDoor

