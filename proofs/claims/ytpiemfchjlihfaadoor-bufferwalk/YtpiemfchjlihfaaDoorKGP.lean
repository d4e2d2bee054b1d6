/-
  A region that draws may be written in another order: what floats comes first. (The edges go with it.)
-/
import Derived.Test.YtpiemfchjlihfaaDoorA11
import Derived.Test.YtpiemfchjlihfaaDoorPKm
set_option linter.unusedVariables false
namespace Go.Proofs.YtpiemfchjlihfaaDoor.Kg
open Go.RowKit

theorem mem_rdy {md : Region.Mode} {ops : Array Oper} {listed : Array Bool} {i : Nat} : i ∈ Region.ready md ops listed ↔ i < ops.size ∧ listed.getD i true = false ∧ ∃ o, ops[i]? = some o ∧ ∀ e, e ∈ o.after → Region.binds md e = true → listed.getD e.on false = true := by
  unfold Region.ready
  rw [List.mem_filter, List.mem_range]
  constructor
  · rintro ⟨h1, h2⟩
    refine ⟨h1, ?_⟩
    rw [Array.getElem?_eq_getElem h1] at h2 ⊢
    simp only [Option.map_some, Option.getD_some, Bool.and_eq_true, Bool.not_eq_true', Array.all_eq_true_iff_forall_mem, Bool.or_eq_true] at h2
    refine ⟨h2.1, _, rfl, fun e he hb => ?_⟩
    rcases h2.2 e he with h | h
    · rw [hb] at h; cases h
    · exact h
  · rintro ⟨h1, h2, o, ho, h3⟩
    refine ⟨h1, ?_⟩
    rw [ho]
    simp only [Option.map_some, Option.getD_some, Bool.and_eq_true, Bool.not_eq_true', Array.all_eq_true_iff_forall_mem, Bool.or_eq_true]
    refine ⟨h2, fun e he => ?_⟩
    cases hb : Region.binds md e
    · exact .inl rfl
    · exact .inr (h3 e he hb)

theorem op_moved {P : Program} {ops ops' : Array Oper} {Q : Exit → Act → World → Prop} {i j : Nat} {K K' : Act → World → Prop} {a : Act} {w : World} {o : Oper} {x : Array Edge} (h1 : ops[i]? = some o) (h2 : ops'[j]? = some { o with after := x }) (hg : o.guard = none) (hK : ∀ a w, K' a w → K a w) (h : wpOp P ops' Q j K' a w) : wpOp P ops Q i K a w := by
  unfold wpOp at h ⊢
  rw [h1]
  rw [h2] at h
  have e1 : Region.wanted o (yielded ops a.tmps) = true := by unfold Region.wanted; rw [hg]
  have e2 : Region.wanted { o with after := x } (yielded ops' a.tmps) = true := by unfold Region.wanted; simp only [hg]
  simp only [e1, e2, if_true] at h ⊢
  rcases h with h | h
  · exact .inl (Oper.wp_mono hK h)
  · exact .inr h

theorem getD_set (l : Array Bool) (i k : Nat) (b : Bool) (hi : i < l.size) : (l.setIfInBounds i true).getD k b = if k = i then true else l.getD k b := by
  simp only [Array.getD_eq_getD_getElem?, Array.getElem?_setIfInBounds]
  by_cases h : i = k
  · subst h; simp [hi]
  · rw [if_neg h, if_neg (fun e => h e.symm)]

theorem getD_bth (l : Array Bool) (i : Nat) (hi : i < l.size) (b c : Bool) : l.getD i b = l.getD i c := by
  simp only [Array.getD_eq_getD_getElem?, Array.getElem?_eq_getElem hi, Option.getD_some]

/-- The region in another order. -/
theorem perm_any {P : Program} {md : Region.Mode} {ops ops' : Array Oper} {Q : Exit → Act → World → Prop} (f : Nat → Nat) (n : Nat) (hs : ops.size = n) (hs' : ops'.size = n) (hin : ∀ i, i < n → f i < n) (hinj : ∀ i j, i < n → j < n → f i = f j → i = j) (hsur : ∀ j, j < n → ∃ i, i < n ∧ f i = j)
    (hop : ∀ i, i < n → ∃ o, ops[i]? = some o ∧ ops'[f i]? = some { o with after := o.after.map fun e => { e with on := f e.on } } ∧ o.guard = none ∧ ∀ e, e ∈ o.after → e.on < n) :
    ∀ (g : Nat) (listed listed' : Array Bool) (a : Act) (w : World), listed.size = n → listed'.size = n → (∀ i, i < n → listed'.getD (f i) false = listed.getD i false) → wpAny P md ops' Q g listed' a w → wpAny P md ops Q g listed a w := by
  have rdy : ∀ (listed listed' : Array Bool), listed.size = n → listed'.size = n → (∀ i, i < n → listed'.getD (f i) false = listed.getD i false) → ∀ i, i < n → (f i ∈ Region.ready md ops' listed' ↔ i ∈ Region.ready md ops listed) := by
    intro listed listed' hl hl' hll i hi
    obtain ⟨o, ho, ho', hg, he⟩ := hop i hi
    rw [mem_rdy, mem_rdy, hs, hs', ho, ho', getD_bth listed' (f i) (by rw [hl']; exact hin i hi) true false, hll i hi, getD_bth listed i (by omega) false true]
    constructor
    · rintro ⟨_, h2, o2, e2, h3⟩
      obtain rfl := Option.some.inj e2
      refine ⟨hi, h2, o, rfl, fun e hm hb => ?_⟩
      have := h3 { e with on := f e.on } (Array.mem_map.2 ⟨e, hm, rfl⟩) hb
      rw [← hll _ (he e hm)]
      exact this
    · rintro ⟨_, h2, o2, e2, h3⟩
      obtain rfl := Option.some.inj e2
      refine ⟨hin i hi, h2, _, rfl, fun e hm hb => ?_⟩
      obtain ⟨e0, hm0, rfl⟩ := Array.mem_map.1 hm
      show listed'.getD (f e0.on) false = true
      rw [hll _ (he e0 hm0)]
      exact h3 e0 hm0 hb
  have nil : ∀ (listed listed' : Array Bool), listed.size = n → listed'.size = n → (∀ i, i < n → listed'.getD (f i) false = listed.getD i false) → Region.ready md ops listed = [] → Region.ready md ops' listed' = [] := by
    intro listed listed' hl hl' hll h0
    refine List.eq_nil_iff_forall_not_mem.2 fun j hj => ?_
    have hjn : j < n := by have := (mem_rdy.1 hj).1; omega
    obtain ⟨i, hi, rfl⟩ := hsur j hjn
    have := (rdy listed listed' hl hl' hll i hi).1 hj
    rw [h0] at this
    cases this
  have lin : ∀ (listed listed' : Array Bool), listed.size = n → listed'.size = n → (∀ i, i < n → listed'.getD (f i) false = listed.getD i false) → Region.ready md ops' listed' = [] → Region.ready md ops listed = [] := by
    intro listed listed' hl hl' hll h0
    refine List.eq_nil_iff_forall_not_mem.2 fun i hi => ?_
    have hin' : i < n := by have := (mem_rdy.1 hi).1; omega
    have := (rdy listed listed' hl hl' hll i hin').2 hi
    rw [h0] at this
    cases this
  intro g
  induction g with
  | zero =>
    intro listed listed' a w hl hl' hll h
    unfold wpAny at h ⊢
    exact ⟨lin listed listed' hl hl' hll h.1, h.2⟩
  | succ g ih =>
    intro listed listed' a w hl hl' hll h
    unfold wpAny at h ⊢
    refine ⟨fun h0 => h.1 (nil listed listed' hl hl' hll h0), fun i hi => ?_⟩
    have hin' : i < n := by have := (mem_rdy.1 hi).1; omega
    have h2 := h.2 (f i) ((rdy listed listed' hl hl' hll i hin').2 hi)
    obtain ⟨o, ho, ho', hg, he⟩ := hop i hin'
    refine op_moved ho ho' hg (fun a w hk => ?_) h2
    refine ih _ _ a w (by simpa using hl) (by simpa using hl') (fun k hk' => ?_) hk
    rw [getD_set _ _ _ _ (by rw [hl']; exact hin i hin'), getD_set _ _ _ _ (by omega), hll k hk']
    by_cases e : k = i
    · subst e; simp
    · rw [if_neg e, if_neg (fun h9 => e (hinj k i hk' hin' h9))]

/-- Reads, then writes in a forced order: any order of the region. -/
theorem tail_any {P : Program} {Q : Exit → Act → World → Prop} {a : Act} {w : World} {l : List Oper} (n : Nat) (hB : Region.lexTailB .any l.toArray n = true)
    (h : wpQuiet P l.toArray (fun w' => w' = w) (fun a' => wpList P l.toArray Q (l.drop n) a' w) (l.take n) a) : wpAny P .any l.toArray Q l.toArray.size (Array.replicate l.toArray.size false) a w := by
  simp only [Region.lexTailB, Bool.and_eq_true, decide_eq_true_eq] at hB
  obtain ⟨⟨⟨⟨hsel, hn⟩, hs⟩, hc⟩, hlex⟩ := hB
  have hn' : n < l.length := by simpa using hn
  have htl : (l.take n).length = n := by simp; omega
  have hdl : (l.drop n).length = l.toArray.size - n := by simp
  have inv0 : HeadInv .any l.toArray n (Array.replicate l.toArray.size false) :=
    ⟨by simp, fun j oj _ hl => (by rw [getD_replicate_false] at hl; cases hl), fun t _ ht => getD_in (by simpa using ht) (getD_replicate_false _ _)⟩
  have H := wpAnyL_lex (md := .any) (g := l.toArray.size - n) hsel hs hc hn (l.take n) 0 _ a (fun j hj => by
    have hj' : j < n := by rw [htl] at hj; exact hj
    simp [hj']) (by simpa using htl) inv0 (by rw [htl]; exact hlex) (still_of_quiet _ _ h)
  have := wpAny_of_head (Q' := Q) (g := l.toArray.size - n) (fun listed a' hL => by
    have := wpAny_of_seq (md := .any) (Q' := Q) (l.drop n) n listed a' w (fun j => by simp [List.getElem?_drop]) (by rw [hdl]; exact hL.1) hL.2
    rwa [hdl] at this) _ _ _ H
  rwa [htl, show n + (l.toArray.size - n) = l.toArray.size by omega] at this

/-- A region whose floating operations are put ahead, then quiet_tail. -/
theorem perm_tail {P : Program} {id : Nat} {Q : Exit → Act → World → Prop} {a : Act} {w : World} {l : List Oper} (l' : List Oper) (f : Nat → Nat) (n : Nat) (hm : P.follows .mixedOrders = true) (hs : l'.length = l.length) (hin : ∀ i, i < l.length → f i < l.length) (hinj : ∀ i j, i < l.length → j < l.length → f i = f j → i = j) (hsur : ∀ j, j < l.length → ∃ i, i < l.length ∧ f i = j)
    (hop : ∀ i, i < l.length → ∃ o, l.toArray[i]? = some o ∧ l'.toArray[f i]? = some { o with after := o.after.map fun e => { e with on := f e.on } } ∧ o.guard = none ∧ ∀ e, e ∈ o.after → e.on < l.length)
    (hB : Region.lexTailB .any l'.toArray n = true)
    (h : wpQuiet P l'.toArray (fun w' => w' = w.drew) (fun a' => wpList P l'.toArray Q (l'.drop n) a' w.drew) (l'.take n) a) : (Code.region id l.toArray true).wp P Q a w := by
  refine wp_region_any hm ?_
  refine perm_any f l.length (by simp) (by simp [hs]) hin hinj hsur hop _ _ (Array.replicate l.toArray.size false) a _ (by simp) (by simp) (fun i hi => ?_) ?_
  · rw [getD_replicate_false, getD_replicate_false]
  · have := tail_any n hB h
    rw [show l'.toArray.size = l.toArray.size by simp [hs]] at this
    exact this

/-- The operation with its edges renumbered. -/
def moved (f : Nat → Nat) (o : Oper) : Oper := { o with after := o.after.map fun e => { e with on := f e.on } }

/-- perm_tail with what is to be looked through as two closed equations. -/
theorem perm_tail_lit {P : Program} {id : Nat} {Q : Exit → Act → World → Prop} {a : Act} {w : World} {l : List Oper} (l' : List Oper) (f g : Nat → Nat) (n : Nat) (hm : P.follows .mixedOrders = true) (hs : l'.length = l.length) (hfg : ∀ i, i < l.length → (f i < l.length ∧ g i < l.length) ∧ g (f i) = i ∧ f (g i) = i)
    (hE : (List.range l.length).map (fun i => l'[f i]?) = l.map fun o => some (moved f o)) (hG : (l.all fun o => o.guard.isNone && o.after.all fun e => decide (e.on < l.length)) = true)
    (hB : Region.lexTailB .any l'.toArray n = true)
    (h : wpQuiet P l'.toArray (fun w' => w' = w.drew) (fun a' => wpList P l'.toArray Q (l'.drop n) a' w.drew) (l'.take n) a) : (Code.region id l.toArray true).wp P Q a w := by
  refine perm_tail l' f n hm hs (fun i hi => (hfg i hi).1.1) (fun i j hi hj e => ?_) (fun j hj => ⟨g j, (hfg j hj).1.2, (hfg j hj).2.2⟩) (fun i hi => ?_) hB h
  · rw [← (hfg i hi).2.1, ← (hfg j hj).2.1, e]
  · have e1 := congrArg (fun x => x[i]?) hE
    simp only [List.getElem?_map, List.getElem?_range hi, Option.map_some] at e1
    obtain ⟨o, ho⟩ : ∃ o, l[i]? = some o := ⟨_, List.getElem?_eq_getElem hi⟩
    rw [ho] at e1
    have hg := List.all_eq_true.1 hG o (List.mem_of_getElem? ho)
    simp only [Bool.and_eq_true, Option.isNone_iff_eq_none, Array.all_eq_true_iff_forall_mem, decide_eq_true_eq] at hg
    exact ⟨o, by simpa using ho, by simpa [moved] using Option.some.inj e1, hg.1, hg.2⟩

section
variable {P : Program} {ops : Array Oper} {md : Region.Mode} {C : World → Prop}

/-- Whatever lies from n on waits for all that lie ahead of n. -/
def phaseB (md : Region.Mode) (ops : Array Oper) (n : Nat) : Bool :=
  Region.noSelect ops && (List.range ops.size).all fun t => decide (t < n) || (List.range n).all fun i => Region.waitsFor md ops t i

/-- The head in its lexical order; what is listed then. -/
def lexP (md : Region.Mode) (ops : Array Oper) (n : Nat) (L0 : Array Bool) : Nat → Nat → Array Bool → Bool
  | 0, _, listed => decide (listed = L0) && (Region.ready md ops L0).all fun j => decide (n ≤ j)
  | f + 1, k, listed => (Region.ready md ops listed).contains k && Region.free md ops listed k && lexP md ops n L0 f (k + 1) (listed.setIfInBounds k true)

theorem phase_waits {n : Nat} {listed : Array Bool} (h : phaseB md ops n = true) {i t : Nat} (hi : i < n) (hun : listed.getD i true = false) (ht : n ≤ t) : t ∉ Region.ready md ops listed := fun hr => by
  obtain ⟨htl, _, ot, hot, hall⟩ := mem_rdy.1 hr
  simp only [phaseB, Bool.and_eq_true] at h
  have h1 := List.all_eq_true.1 h.2 t (List.mem_range.2 htl)
  simp only [Bool.or_eq_true, decide_eq_true_eq] at h1
  rcases h1 with h1 | h1
  · omega
  · obtain ⟨o', ho', e, he, hb, hon⟩ := Region.waitsFor_spec (List.all_eq_true.1 h1 i (List.mem_range.2 hi))
    cases Option.some.inj (ho'.symm.trans hot)
    have h2 := hall e he hb
    rw [hon, getD_both hun] at h2
    cases h2

theorem phase_first {n i : Nat} {oi : Oper} {v : Value} {L : Array Bool → Act → Prop} (hi : ops[i]? = some oi) (hsel : ∀ (j : Nat) (o : Oper) cs b, ops[j]? = some o → o.op ≠ .select cs b)
    (hph : phaseB md ops n = true) (hin : i < n) (hdone : ∀ listed a, L listed a → ∀ j ∈ Region.ready md ops listed, n ≤ j) :
    ∀ (f : Nat) (listed : Array Bool) (a : Act),
      (∀ j oj, ops[j]? = some oj → j ≠ i → listed.getD j true = false → (∀ e ∈ oj.after, Region.binds md e = true → e.on ≠ i) → oi.apart ops oj = true) →
      i ∈ Region.ready md ops listed → YieldsIn P ops C oi v a →
      wpAnyQL P md ops C n L f (listed.setIfInBounds i true) (a.put oi.dst v) → wpAnyQL P md ops C n L (f + 1) listed a
  | f, listed, a, hfree, hr, hy, H => by
    have hun := (mem_ready.1 hr).1
    refine ⟨fun h => (by rw [h] at hr; cases hr), fun j hj => ?_⟩
    have hjn : j < n := Nat.lt_of_not_le fun h => phase_waits hph hin hun h hj
    refine ⟨hjn, ?_⟩
    by_cases hji : j = i
    · subst hji; exact hy.qOp hi H
    · match f, H with
      | 0, H => have := hdone _ _ H j (ready_mono hj hji); omega
      | f + 1, H =>
        have h1 := (H.2 j (ready_mono hj hji)).2
        obtain ⟨hjun, oj, hoj, hall⟩ := mem_ready.1 hj
        have hnot : ∀ e ∈ oj.after, Region.binds md e = true → e.on ≠ i := fun e he hb heq => by
          have h1 := hall e he hb
          rw [heq, getD_both hun] at h1
          cases h1
        refine qOp_mono (fun a' h3 => phase_first hi hsel hph hin hdone f (listed.setIfInBounds j true) a' (fun k ok hk hki hun' hno => ?_) (ready_mono hr (Ne.symm hji)) h3.1 ?_)
          (qOp_put hoj (hfree j oj hoj hji hjun hnot) (fun cs b => hsel i oi cs b hi) (fun cs b => hsel j oj cs b hoj) hy h1)
        · refine hfree k ok hk hki ?_ hno
          by_cases hjk : j = k
          · subst hjk; exact hjun
          · rwa [getD_set_ne true hjk] at hun'
        · rw [Array.setIfInBounds_comm _ _ hji]
          exact h3.2

theorem phase_lex {n : Nat} {L0 : Array Bool} {Lq : Act → Prop} (hsel : Region.noSelect ops = true) (hph : phaseB md ops n = true) :
    ∀ (l : List Oper) (k : Nat) (listed : Array Bool) (a : Act), (∀ j, j < l.length → l[j]? = ops[k + j]?) → k + l.length = n → lexP md ops n L0 l.length k listed = true → wpQuiet P ops C Lq l a →
    wpAnyQL P md ops C n (fun listed' a' => (listed' = L0 ∧ ∀ j ∈ Region.ready md ops L0, n ≤ j) ∧ Lq a') l.length listed a
  | [], k, listed, a, _, _, hB, h => by
    simp only [List.length_nil, lexP, Bool.and_eq_true, decide_eq_true_eq, List.all_eq_true] at hB
    exact ⟨hB, h⟩
  | o :: l, k, listed, a, hll, hk, hB, h => by
    have h0 : ops[k]? = some o := by simpa using (hll 0 (by simp)).symm
    simp only [List.length_cons, lexP, Bool.and_eq_true] at hB
    obtain ⟨⟨hr, hf⟩, hB'⟩ := hB
    have hkn : k < n := by simp only [List.length_cons] at hk; omega
    have hr' : k ∈ Region.ready md ops listed := by simpa using hr
    have hst : qOp P ops C k (wpQuiet P ops C Lq l) a := by unfold qOp; simp only [h0]; exact h
    obtain ⟨v, hy, hK⟩ := yieldsIn_of_qOp h0 hst
    exact phase_first h0 (Region.noSelect_spec hsel) hph hkn (fun listed' a' hL j hj => by rw [hL.1.1] at hj; exact hL.1.2 j hj) l.length listed a (Region.free_spec h0 hf) hr' hy
      (phase_lex hsel hph l (k + 1) _ _ (fun j hj => by have := hll (j + 1) (by simp; omega); simpa [Nat.add_assoc, Nat.add_comm 1 j] using this) (by simp only [List.length_cons] at hk; omega) hB' hK)
end

/-- The head reads, and all that follows waits for it; the region in another order. -/
theorem perm_phase_lit {P : Program} {id : Nat} {Q : Exit → Act → World → Prop} {a : Act} {w : World} {l : List Oper} (l' : List Oper) (f g : Nat → Nat) (n m : Nat) (L0 : Array Bool) (hm : P.follows .mixedOrders = true) (hs : l'.length = l.length) (hnm : n + m = l'.length) (hfg : ∀ i, i < l.length → (f i < l.length ∧ g i < l.length) ∧ g (f i) = i ∧ f (g i) = i)
    (hE : (List.range l.length).map (fun i => l'[f i]?) = l.map fun o => some (moved f o)) (hG : (l.all fun o => o.guard.isNone && o.after.all fun e => decide (e.on < l.length)) = true)
    (hB : (phaseB .any l'.toArray n && lexP .any l'.toArray n L0 n 0 (Array.replicate l'.toArray.size false)) = true)
    (h : wpQuiet P l'.toArray (fun w' => ∃ p : Bel w, w' = p.v) (fun a' => ∀ w', (∃ p : Bel w, w' = p.v) → wpAny P .any l'.toArray Q m L0 a' w') (l'.take n) a) : (Code.region id l.toArray true).wp P Q a w := by
  refine wp_region_any hm ?_
  refine perm_any (ops := l.toArray) (ops' := l'.toArray) f l.length (by simp) (by simp [hs]) (fun i hi => (hfg i hi).1.1) (fun i j hi hj e => ?_) (fun j hj => ⟨g j, (hfg j hj).1.2, (hfg j hj).2.2⟩) (fun i hi => ?_) _ _ (Array.replicate l.toArray.size false) a _ (by simp) (by simp) (fun i hi => ?_) ?_
  · rw [← (hfg i hi).2.1, ← (hfg j hj).2.1, e]
  · have e1 := congrArg (fun x => x[i]?) hE
    simp only [List.getElem?_map, List.getElem?_range hi, Option.map_some] at e1
    obtain ⟨o, ho⟩ : ∃ o, l[i]? = some o := ⟨_, List.getElem?_eq_getElem hi⟩
    rw [ho] at e1
    have hg := List.all_eq_true.1 hG o (List.mem_of_getElem? ho)
    simp only [Bool.and_eq_true, Option.isNone_iff_eq_none, Array.all_eq_true_iff_forall_mem, decide_eq_true_eq] at hg
    exact ⟨o, by simpa using ho, by simpa [moved] using Option.some.inj e1, hg.1, hg.2⟩
  · rw [getD_replicate_false, getD_replicate_false]
  · simp only [Bool.and_eq_true] at hB
    have hph := hB.1
    simp only [phaseB, Bool.and_eq_true] at hph
    have hn' : n ≤ l'.length := by omega
    have htl : (l'.take n).length = n := by simp; omega
    have H := phase_lex (md := .any) hph.1 hB.1 (l'.take n) 0 _ a (fun j hj => by
      have hj' : j < n := by rw [htl] at hj; exact hj
      simp [hj']) (by simpa using htl) (by rw [htl]; exact hB.2) h
    have := wpAny_of_headQ (Q' := Q) (g := m) (C := fun w' => ∃ p : Bel w, w' = p.v) (fun listed a' w' hw' hL => by
      rw [hL.1.1]
      exact hL.2 w' hw') _ _ _ _ (⟨⟨w.drewN 1, below_drewN (Below.refl _ _) 1⟩, rfl⟩ : ∃ p : Bel w, w.drew = p.v) H
    rw [htl, hnm, hs] at this
    rw [show l'.toArray.size = l.toArray.size by simp [hs]] at this
    simpa using this

end Go.Proofs.YtpiemfchjlihfaaDoor.Kg
