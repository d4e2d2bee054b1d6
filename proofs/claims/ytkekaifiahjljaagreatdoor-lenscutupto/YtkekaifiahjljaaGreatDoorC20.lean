import Derived.Test.YtkekaifiahjljaaGreatDoorC19
set_option linter.unusedVariables false
set_option maxHeartbeats 8000000
namespace Go.Proofs.YtkekaifiahjljaaGreatDoor.Kg
open Go.RowKit
theorem mem_rdy2 {md : Region.Mode} {ops : Array Oper} {listed : Array Bool} {i : Nat} : i ∈ Region.ready md ops listed ↔ i < ops.size ∧ listed.getD i true = false ∧ ∃ o, ops[i]? = some o ∧ ∀ e, e ∈ o.after → Region.binds md e = true → listed.getD e.on false = true := by
  unfold Region.ready
  rw [List.mem_filter, List.mem_range]
  constructor
  · rintro ⟨h1, h2⟩
    refine ⟨h1, ?_⟩
    rw [Array.getElem?_eq_getElem h1] at h2 ⊢
    simp only [Option.map_some, Option.getD_some, Bool.and_eq_true, Bool.not_eq_true', Array.all_eq_true_iff_forall_mem, Bool.or_eq_true] at h2
    refine ⟨h2.1, _, rfl, fun e he hb => ?_⟩
    rcases h2.2 e he with h | h
    · rw [hb] at h; cases h
    · exact h
  · rintro ⟨h1, h2, o, ho, h3⟩
    refine ⟨h1, ?_⟩
    rw [ho]
    simp only [Option.map_some, Option.getD_some, Bool.and_eq_true, Bool.not_eq_true', Array.all_eq_true_iff_forall_mem, Bool.or_eq_true]
    refine ⟨h2, fun e he => ?_⟩
    cases hb : Region.binds md e
    · exact .inl rfl
    · exact .inr (h3 e he hb)
theorem getD_set2 (l : Array Bool) (i k : Nat) (b : Bool) (hi : i < l.size) : (l.setIfInBounds i true).getD k b = if k = i then true else l.getD k b := by
  simp only [Array.getD_eq_getD_getElem?, Array.getElem?_setIfInBounds]
  by_cases h : i = k
  · subst h; simp [hi]
  · rw [if_neg h, if_neg (fun e => h e.symm)]
theorem getD_bth2 (l : Array Bool) (i : Nat) (hi : i < l.size) (b c : Bool) : l.getD i b = l.getD i c := by
  simp only [Array.getD_eq_getD_getElem?, Array.getElem?_eq_getElem hi, Option.getD_some]
section
variable {P : Program} {ops : Array Oper} {md : Region.Mode} {C : World → Prop}
def looseB2 (md : Region.Mode) (ops : Array Oper) (n : Nat) : Bool :=
  (List.range ops.size).all fun j => j == n || (match ops[j]? with
    | none => true
    | some o => plain2 o.op || o.after.any (fun e => Region.binds md e && e.on == n))
theorem wpAnyL_loose2 {n : Nat} {R : Value → Prop} {Q : Act → Prop} {oi : Oper} {w0 : World} (h0 : C w0) (hi : ops[n]? = some oi) (hsel : ∀ (j : Nat) (o : Oper) cs b, ops[j]? = some o → o.op ≠ .select cs b) (hpl : looseB2 md ops n = true) :
    ∀ (fuel : Nat) (listed : Array Bool) (a : Act),
      (∀ j oj, ops[j]? = some oj → j ≠ n → listed.getD j true = false → (∀ e ∈ oj.after, Region.binds md e = true → e.on ≠ n) → oi.apart ops oj = true) →
      n ∈ Region.ready md ops listed → LooseIn P ops C oi R a →
      (∀ v, R v → wpAnyL P md ops C n R Q fuel (listed.setIfInBounds n true) (a.put oi.dst v)) → wpAnyL P md ops C n R Q (fuel + 1) listed a := by
  intro fuel
  have hex : ∀ a, LooseIn P ops C oi R a → ∃ v, R v := fun a hy => by
    obtain ⟨f, args, _, h6⟩ := hy.2 w0 h0
    obtain ⟨e, w', fr, ⟨v, _, hv, _⟩, _⟩ := h6 []
    exact ⟨v, hv⟩
  induction fuel with
  | zero =>
    intro listed a _ hr hy H
    refine ⟨fun h => (by rw [h] at hr; cases hr), fun j hj => ?_⟩
    by_cases hji : j = n
    · subst hji; unfold lOp; rw [if_pos rfl]; exact ⟨oi, hi, hy, H⟩
    · have := ready_mono hj hji
      obtain ⟨v, hv⟩ := hex a hy
      rw [(H v hv).1] at this
      cases this
  | succ fuel ih =>
    intro listed a hfree hr hy H
    refine ⟨fun h => (by rw [h] at hr; cases hr), fun j hj => ?_⟩
    by_cases hji : j = n
    · subst hji; unfold lOp; rw [if_pos rfl]; exact ⟨oi, hi, hy, H⟩
    · obtain ⟨hjun, oj, hoj, hall⟩ := mem_ready.1 hj
      have hnot : ∀ e ∈ oj.after, Region.binds md e = true → e.on ≠ n := fun e he hb heq => by
        have h1 := hall e he hb
        rw [heq, getD_both (mem_ready.1 hr).1] at h1
        cases h1
      have hap := hfree j oj hoj hji hjun hnot
      obtain ⟨p1, p2, p3⟩ := Oper.apart_spec hap
      have hsi : ∀ cs b, oi.op ≠ .select cs b := fun cs b => hsel n oi cs b hi
      have hsj : ∀ cs b, oj.op ≠ .select cs b := fun cs b => hsel j oj cs b hoj
      have hplain : plain2 oj.op = true := by
        have hlt : j < ops.size := by
          rcases Nat.lt_or_ge j ops.size with h | h
          · exact h
          · rw [Array.getElem?_eq_none h] at hoj; cases hoj
        have := List.all_eq_true.1 hpl j (List.mem_range.2 hlt)
        simp only [hoj, Bool.or_eq_true, beq_iff_eq, hji, false_or] at this
        rcases this with h | h
        · exact h
        · obtain ⟨e, he, h'⟩ := Array.any_eq_true'.1 h
          simp only [Bool.and_eq_true, beq_iff_eq] at h'
          exact absurd h'.2 (hnot e he h'.1)
      have keep : ∀ (a : Act), LooseIn P ops C oi R a → ∀ u, LooseIn P ops C oi R (a.put oj.dst u) := fun a hy u =>
        hy.of_same (execOp_put oi hsi a oj.dst u p3) (wanted_put oi a oj.dst u p3)
      have hfree' : ∀ k ok, ops[k]? = some ok → k ≠ n → (listed.setIfInBounds j true).getD k true = false →
          (∀ e ∈ ok.after, Region.binds md e = true → e.on ≠ n) → oi.apart ops ok = true := fun k ok hk hki hun hno => by
        refine hfree k ok hk hki ?_ hno
        by_cases hjk : j = k
        · subst hjk; exact hjun
        · rw [getD_set_ne true hjk] at hun; exact hun
      have hr' := ready_mono hr (Ne.symm hji)
      have step : ∀ u, (∀ v, R v → wpAnyL P md ops C n R Q fuel ((listed.setIfInBounds n true).setIfInBounds j true) ((a.put oi.dst v).put oj.dst u)) → wpAnyL P md ops C n R Q (fuel + 1) (listed.setIfInBounds j true) (a.put oj.dst u) := fun u hu =>
        ih (listed.setIfInBounds j true) (a.put oj.dst u) hfree' hr' (keep a hy u) fun v hv => by
          rw [Array.setIfInBounds_comm _ _ hji, ← Act.put_comm a v u p2]
          exact hu v hv
      have hH : ∀ v, R v → qOp P ops C j (wpAnyL P md ops C n R Q fuel ((listed.setIfInBounds n true).setIfInBounds j true)) (a.put oi.dst v) := fun v hv => by
        have := (H v hv).2 j (ready_mono hj hji)
        unfold lOp at this
        rwa [if_neg hji] at this
      unfold lOp
      rw [if_neg hji]
      unfold qOp at hH ⊢
      simp only [hoj] at hH ⊢
      by_cases hw : Region.wanted oj (yielded ops a.tmps) = true
      · rw [if_pos hw]
        have hH' : ∀ v, R v → ∃ u, (∀ w, C w → oj.quietAt P a C w u) ∧ wpAnyL P md ops C n R Q fuel ((listed.setIfInBounds n true).setIfInBounds j true) ((a.put oi.dst v).put oj.dst u) := fun v hv => by
          have h1 := hH v hv
          rw [wanted_put oj a oi.dst v p1, if_pos hw] at h1
          obtain ⟨u, hu, hn⟩ := h1
          refine ⟨u, fun w hw' => ?_, hn⟩
          have := hu w hw'
          unfold Oper.quietAt at *
          rwa [execOp_put oj hsj a oi.dst v p1] at this
        obtain ⟨v0, hv0⟩ := hex a hy
        obtain ⟨u, hu, _⟩ := hH' v0 hv0
        refine ⟨u, hu, step u fun v hv => ?_⟩
        obtain ⟨u', hu', hn⟩ := hH' v hv
        obtain rfl : u = u' := by
          have q1 := hu w0 h0
          have q2 := hu' w0 h0
          unfold Oper.quietAt at q1 q2
          generalize hrr : (execOp a.eval oj).run P w0 = r at q1 q2
          cases r with
          | ok nx w' =>
            obtain ⟨x, rfl⟩ := plain2_only hplain a.eval w0 _ _ hrr
            simp only [Oper.quietUpon] at q1 q2
            rw [← q1.2, ← q2.2]
          | halt x w' => simp only [Oper.quietUpon] at q1
        exact hn
      · rw [if_neg hw]
        refine step undef fun v hv => ?_
        have h1 := hH v hv
        rw [wanted_put oj a oi.dst v p1, if_neg hw] at h1
        exact h1
theorem wpAnyL_lex2 {n : Nat} {R : Value → Prop} {Q : Act → Prop} {w0 : World} (h0 : C w0) (hs : Region.noSelect ops = true) : ∀ (l : List Oper) (k : Nat) (listed : Array Bool) (a : Act), n < k → (∀ j, l[j]? = ops[k + j]?) →
    Region.lexFrom md ops l.length k listed = true → wpQuiet P ops C Q l a → wpAnyL P md ops C n R Q l.length listed a
  | [], _, _, _, _, _, hB, h => ⟨by simpa [Region.lexFrom] using hB, h⟩
  | o :: l, k, listed, a, hk, hl, hB, h => by
    have h0' : ops[k]? = some o := by simpa using (hl 0).symm
    simp only [List.length_cons, Region.lexFrom, Bool.and_eq_true] at hB
    obtain ⟨⟨hr, hf⟩, hB'⟩ := hB
    have hst : qOp P ops C k (wpQuiet P ops C Q l) a := by unfold qOp; simp only [h0']; exact h
    obtain ⟨v, hy, hK⟩ := yieldsIn_of_qOp h0' hst
    exact wpAnyL_first (by omega) h0' (Region.noSelect_spec hs) l.length listed a (Region.free_spec h0' hf) (by simpa using hr) hy
      (wpAnyL_lex2 h0 hs l (k + 1) _ _ (by omega) (fun j => by have := hl (j + 1); simpa [Nat.add_assoc, Nat.add_comm 1 j] using this) hB' hK)
theorem wpAnyL_whole2 {n : Nat} {R : Value → Prop} {Q : Act → Prop} {w0 : World} (h0 : C w0) (hs : Region.noSelect ops = true) (hpl : looseB2 md ops n = true) {on : Oper} (hn : ops[n]? = some on) : ∀ (m k : Nat) (listed : Array Bool) (a : Act), k + m = n →
    Region.lexFrom md ops (ops.size - k) k listed = true → wpQuiet P ops C (fun a' => LooseIn P ops C on R a' ∧ ∀ v, R v → wpQuiet P ops C Q (ops.toList.drop (n + 1)) (a'.put on.dst v)) ((ops.toList.drop k).take m) a → wpAnyL P md ops C n R Q (ops.size - k) listed a
  | 0, k, listed, a, hk, hB, h => by
    obtain rfl : k = n := by omega
    have hlt : k < ops.size := by
      rcases Nat.lt_or_ge k ops.size with h | h
      · exact h
      · rw [Array.getElem?_eq_none h] at hn; cases hn
    obtain ⟨h1, h2⟩ : LooseIn P ops C on R a ∧ ∀ v, R v → wpQuiet P ops C Q (ops.toList.drop (k + 1)) (a.put on.dst v) := by simpa [wpQuiet] using h
    have hsz : ops.size - k = (ops.toList.drop (k + 1)).length + 1 := by simp; omega
    rw [hsz] at hB ⊢
    simp only [Region.lexFrom, Bool.and_eq_true] at hB
    obtain ⟨⟨hr, hf⟩, hB'⟩ := hB
    exact wpAnyL_loose2 h0 hn (Region.noSelect_spec hs) hpl _ listed a (Region.free_spec hn hf) (by simpa using hr) h1 fun v hv =>
      wpAnyL_lex2 h0 hs _ (k + 1) _ _ (by omega) (fun j => by simp [List.getElem?_drop]) hB' (h2 v hv)
  | m + 1, k, listed, a, hk, hB, h => by
    have hlt : n < ops.size := by
      rcases Nat.lt_or_ge n ops.size with h | h
      · exact h
      · rw [Array.getElem?_eq_none h] at hn; cases hn
    have hkl : k < ops.toList.length := by simp; omega
    obtain ⟨o, ho⟩ : ∃ o, ops.toList[k]? = some o := ⟨_, List.getElem?_eq_getElem hkl⟩
    have h0' : ops[k]? = some o := by simpa using ho
    have hd : (ops.toList.drop k).take (m + 1) = o :: (ops.toList.drop (k + 1)).take m := by
      rw [List.drop_eq_getElem_cons hkl, List.take_succ_cons]
      rw [List.getElem?_eq_getElem hkl] at ho
      rw [Option.some.inj ho]
    rw [hd] at h
    have hsz : ops.size - k = (ops.size - (k + 1)) + 1 := by omega
    rw [hsz] at hB ⊢
    simp only [Region.lexFrom, Bool.and_eq_true] at hB
    obtain ⟨⟨hr, hf⟩, hB'⟩ := hB
    have hst : qOp P ops C k (wpQuiet P ops C (fun a' => LooseIn P ops C on R a' ∧ ∀ v, R v → wpQuiet P ops C Q (ops.toList.drop (n + 1)) (a'.put on.dst v)) ((ops.toList.drop (k + 1)).take m)) a := by unfold qOp; simp only [h0']; exact h
    obtain ⟨v, hy, hK⟩ := yieldsIn_of_qOp h0' hst
    exact wpAnyL_first (by omega) h0' (Region.noSelect_spec hs) _ listed a (Region.free_spec h0' hf) (by simpa using hr) hy
      (wpAnyL_whole2 h0 hs hpl hn m (k + 1) _ _ (by omega) hB' hK)
def lastB (md : Region.Mode) (ops : Array Oper) (m : Nat) : Bool :=
  decide (ops.size = m + 1) && ((List.range m).all fun i => match ops[i]? with
    | some o => o.guard.isNone && o.after.all (fun e => decide (e.on < i))
    | none => false) && (List.range m).all fun i => (match ops[m]? with
    | some o => o.after.any (fun e => Region.binds md e && e.on == i) && o.after.all (fun e => decide (e.on < m))
    | none => false)
def lastQ (P : Program) (ops : Array Oper) (m : Nat) (Q : Exit → Act → World → Prop) : Exit → Act → World → Prop
  | .normal, a, w => wpOp P ops Q m (Q .normal) a w
  | e, a, w => Q e a w
theorem op_last {P : Program} {ops ops' : Array Oper} {m : Nat} {Q : Exit → Act → World → Prop} {K K' : Act → World → Prop} {a : Act} {w : World} {i : Nat} {o : Oper} (h1 : ops[i]? = some o) (h2 : ops'[i]? = some o) (hg : o.guard = none) (hK : ∀ a w, K' a w → K a w)
    (h : wpOp P ops' (lastQ P ops m Q) i K' a w) : wpOp P ops Q i K a w := by
  have hlo : LetsOut (lastQ P ops m Q) → LetsOut Q := fun ⟨a, w, h⟩ => ⟨a, w, h⟩
  unfold wpOp at h ⊢
  rw [h1]
  rw [h2] at h
  have e1 : Region.wanted o (yielded ops a.tmps) = true := by unfold Region.wanted; rw [hg]
  have e2 : Region.wanted o (yielded ops' a.tmps) = true := by unfold Region.wanted; rw [hg]
  simp only [e1, e2, if_true] at h ⊢
  rcases h with h | ⟨h1, h2⟩
  · left
    unfold Oper.wp at h ⊢
    generalize (execOp a.eval o).run P w = r at *
    cases r with
    | ok n w' =>
      cases n <;> simp only [Oper.upon] at h ⊢
      case value u => exact hK _ _ h
      case skip => exact hK _ _ h
      case defer d => exact hK _ _ h
      case enter f args =>
        refine Calls.mono h fun e w'' he => ?_
        cases e with
        | returned u => exact hK _ _ he
        | panicked c => exact he
        | outgrown => exact hlo he
      case row row args => exact Rows.mono h fun u w'' he => hK _ _ he
    | halt x w' =>
      cases x <;> simp only [Oper.upon] at h ⊢
      case panic u => exact h
  · exact .inr ⟨h1, hlo h2⟩
theorem any_nil {Q : Exit → Act → World → Prop} {listed : Array Bool} {a : Act} {w : World} (hr : Region.ready md ops listed = []) (h : Q .normal a w) : ∀ g, wpAny P md ops Q g listed a w
  | 0 => ⟨hr, h⟩
  | g + 1 => ⟨fun _ => h, fun i hi => by rw [hr] at hi; cases hi⟩
theorem last_any {ops' : Array Oper} {Q : Exit → Act → World → Prop} {m : Nat} (hs : ops.size = m + 1) (hs' : ops'.size = m) (hop : ∀ i, i < m → ∃ o, ops[i]? = some o ∧ ops'[i]? = some o ∧ o.guard = none ∧ ∀ e, e ∈ o.after → e.on < i)
    (hlast : ∃ o, ops[m]? = some o ∧ (∀ i, i < m → ∃ e, e ∈ o.after ∧ Region.binds md e = true ∧ e.on = i) ∧ ∀ e, e ∈ o.after → Region.binds md e = true → e.on < m) :
    ∀ (g : Nat) (listed listed' : Array Bool) (a : Act) (w : World), listed.size = m + 1 → listed'.size = m → (∀ i, i < m → listed'.getD i false = listed.getD i false) → listed.getD m true = false →
      wpAny P md ops' (lastQ P ops m Q) g listed' a w → wpAny P md ops Q (g + 1) listed a w := by
  obtain ⟨oL, hoL, hall, hlt⟩ := hlast
  have rdy : ∀ (listed listed' : Array Bool), listed.size = m + 1 → listed'.size = m → (∀ i, i < m → listed'.getD i false = listed.getD i false) → ∀ i, i < m → (i ∈ Region.ready md ops' listed' ↔ i ∈ Region.ready md ops listed) := by
    intro listed listed' hl hl' hll i hi
    obtain ⟨o, ho, ho', hg, he⟩ := hop i hi
    rw [mem_rdy2, mem_rdy2, hs, hs', ho, ho', getD_bth2 listed' i (by omega) true false, hll i hi, getD_bth2 listed i (by omega) false true]
    constructor
    · rintro ⟨_, h2, o2, e2, h3⟩
      obtain rfl := Option.some.inj e2
      refine ⟨by omega, h2, o, rfl, fun e hm hb => ?_⟩
      have := he e hm
      rw [← hll _ (by omega)]
      exact h3 e hm hb
    · rintro ⟨_, h2, o2, e2, h3⟩
      obtain rfl := Option.some.inj e2
      refine ⟨hi, h2, o, rfl, fun e hm hb => ?_⟩
      have := he e hm
      rw [hll _ (by omega)]
      exact h3 e hm hb
  have full : ∀ (listed' : Array Bool), listed'.size = m → Region.ready md ops' listed' = [] → ∀ i, i < m → listed'.getD i false = true := by
    intro listed' hl' h0 i
    induction i using Nat.strongRecOn with
    | _ i ih =>
      intro hi
      cases hc : listed'.getD i false with
      | true => rfl
      | false =>
        obtain ⟨o, ho, ho', hg, he⟩ := hop i hi
        have : i ∈ Region.ready md ops' listed' := mem_rdy2.2 ⟨by omega, by rw [getD_bth2 listed' i (by omega) true false]; exact hc, o, ho', fun e hm hb => ih e.on (he e hm) (by have := he e hm; omega)⟩
        rw [h0] at this
        cases this
  have done : ∀ (g : Nat) (listed listed' : Array Bool) (a : Act) (w : World), listed.size = m + 1 → listed'.size = m → (∀ i, i < m → listed'.getD i false = listed.getD i false) → listed.getD m true = false → Region.ready md ops' listed' = [] → lastQ P ops m Q .normal a w → wpAny P md ops Q (g + 1) listed a w := by
    intro g listed listed' a w hl hl' hll hlm h0 hq
    have hf := full listed' hl' h0
    have hm : m ∈ Region.ready md ops listed := mem_rdy2.2 ⟨by omega, hlm, oL, hoL, fun e hm hb => by rw [← hll _ (hlt e hm hb)]; exact hf _ (hlt e hm hb)⟩
    refine ⟨fun h => (by rw [h] at hm; cases hm), fun i hi => ?_⟩
    have him : i = m := by
      have h1 := (mem_rdy2.1 hi).1
      rcases Nat.lt_or_ge i m with h2 | h2
      · have h3 := (rdy listed listed' hl hl' hll i h2).2 hi
        rw [h0] at h3
        cases h3
      · omega
    subst him
    refine wpOp_mono (fun a' w' h => any_nil ?_ h g) hq
    refine List.eq_nil_iff_forall_not_mem.2 fun j hj => ?_
    obtain ⟨h1, h2, -⟩ := mem_rdy2.1 hj
    rw [getD_set2 _ _ _ _ (by omega)] at h2
    by_cases e : j = i
    · rw [if_pos e] at h2; cases h2
    · rw [if_neg e] at h2
      have h3 := hf j (by omega)
      rw [hll j (by omega), getD_bth2 listed j (by omega) false true, h2] at h3
      cases h3
  intro g
  induction g with
  | zero =>
    intro listed listed' a w hl hl' hll hlm h
    exact done 0 listed listed' a w hl hl' hll hlm h.1 h.2
  | succ g ih =>
    intro listed listed' a w hl hl' hll hlm h
    by_cases h0 : Region.ready md ops' listed' = []
    · exact done (g + 1) listed listed' a w hl hl' hll hlm h0 (h.1 h0)
    · obtain ⟨j, hj⟩ := List.exists_mem_of_ne_nil _ h0
      have hjm : j < m := by have := (mem_rdy2.1 hj).1; omega
      have hj2 := (rdy listed listed' hl hl' hll j hjm).1 hj
      refine ⟨fun h => (by rw [h] at hj2; cases hj2), fun i hi => ?_⟩
      have him : i < m := by
        rcases Nat.lt_or_ge i m with h2 | h2
        · exact h2
        · obtain ⟨h3, -, o, ho, h4⟩ := mem_rdy2.1 hi
          have e : i = m := by omega
          subst e
          rw [hoL] at ho
          obtain rfl := Option.some.inj ho
          obtain ⟨ed, h5, h6, h7⟩ := hall j hjm
          have h8 := h4 ed h5 h6
          have h9 := (mem_rdy2.1 hj).2.1
          rw [h7, ← hll j hjm, getD_bth2 listed' j (by omega) false true, h9] at h8
          cases h8
      obtain ⟨o, ho, ho', hg, he⟩ := hop i him
      refine op_last ho ho' hg (fun a w hk => ?_) (h.2 i ((rdy listed listed' hl hl' hll i him).2 hi))
      refine ih _ _ a w (by simpa using hl) (by simpa using hl') (fun k hk' => ?_) ?_ hk
      · rw [getD_set2 _ _ _ _ (by omega), getD_set2 _ _ _ _ (by omega), hll k hk']
      · rw [getD_set2 _ _ _ _ (by omega), if_neg (by omega)]
        exact hlm
end
theorem loose_last {P : Program} {id : Nat} {Q : Exit → Act → World → Prop} {a : Act} {w : World} {l : List Oper} (C : World → Prop) (hC : C w.drew) (n m : Nat) (R : Value → Prop) {d : Option Tmp} {op : Op} {ty : TypeId} {ps : String} {af : Array Edge} {gd : Option (Nat × Bool)} (hn : (l.take m)[n]? = some ⟨d, op, ty, ps, af, gd⟩) (hm : P.follows .mixedOrders = true)
    (hB : Region.lexB .any (l.take m).toArray = true) (hpl : looseB2 .any (l.take m).toArray n = true) (hm0 : 0 < m) (hT : lastB .any l.toArray m = true)
    (h : wpQuiet P (l.take m).toArray C (fun a' => LooseIn P (l.take m).toArray C ⟨d, op, ty, ps, af, gd⟩ R a' ∧ ∀ v, R v → wpQuiet P (l.take m).toArray C (fun a' => ∀ w', C w' → wpList P l.toArray (thenQuiet P l.toArray [] Q) (l.drop m) a' w') (⟨d, .move (.const v), ty, ps, af, gd⟩ :: (l.take m).drop (n + 1)) a') ((l.take m).take n) a) : (Code.region id l.toArray true).wp P Q a w := by
  simp only [lastB, Bool.and_eq_true, decide_eq_true_eq] at hT
  obtain ⟨⟨hsz, hg⟩, hw⟩ := hT
  have hll : l.length = m + 1 := by simpa using hsz
  have htl : (l.take m).length = m := by simp; omega
  simp only [Region.lexB, Bool.and_eq_true] at hB
  obtain ⟨o, ho⟩ : ∃ o, l[m]? = some o := ⟨_, List.getElem?_eq_getElem (by omega)⟩
  have hdm : l.drop m = [o] := by
    rw [List.drop_eq_getElem_cons (by omega)]
    rw [List.getElem?_eq_getElem (by omega)] at ho
    rw [Option.some.inj ho, List.drop_eq_nil_of_le (by omega)]
  have H : wpAny P .any (l.take m).toArray (lastQ P l.toArray m Q) (l.take m).toArray.size (Array.replicate (l.take m).toArray.size false) a w.drew := by
    refine wpAny_of_loose (C := C) (n := n) (R := R) (Q := fun a' => ∀ w', C w' → wpList P l.toArray (thenQuiet P l.toArray [] Q) (l.drop m) a' w') (fun a' w' hw' h => ?_) _ _ _ _ hC ?_
    · have h2 := h w' hw'
      rw [hdm] at h2
      exact op_then (fun a w hq => hq) (by simpa using ho) h2
    · have h3 := wpAnyL_whole2 (C := C) (R := R) (Q := fun a' => ∀ w', C w' → wpList P l.toArray (thenQuiet P l.toArray [] Q) (l.drop m) a' w') hC hB.1 hpl (by simpa using hn) n 0 (Array.replicate (l.take m).toArray.size false) a (by simp) (by simpa using hB.2) (by
        have h4 : wpQuiet P (l.take m).toArray C (fun a' => LooseIn P (l.take m).toArray C ⟨d, op, ty, ps, af, gd⟩ R a' ∧ ∀ v, R v → wpQuiet P (l.take m).toArray C (fun a' => ∀ w', C w' → wpList P l.toArray (thenQuiet P l.toArray [] Q) (l.drop m) a' w') ((l.take m).drop (n + 1)) (a'.put d v)) ((l.take m).take n) a := by
          refine wpQuiet_mono (fun a' h' => ⟨h'.1, fun v hv => ?_⟩) _ _ h
          have h2 := h'.2 v hv
          have hw : Region.wanted ⟨d, .move (.const v), ty, ps, af, gd⟩ (yielded (l.take m).toArray a'.tmps) = true := h'.1.1
          unfold wpQuiet at h2
          rw [if_pos hw] at h2
          obtain ⟨u, h3, h4⟩ := h2
          have h5 := h3 w.drew hC
          unfold Oper.quietAt execOp at h5
          simp only [Sem.run_pure, Oper.quietUpon] at h5
          rw [← h5.2] at h4
          exact h4
        simpa using h4)
      simpa using h3
  refine wp_region_any hm ?_
  have hsz2 : l.toArray.size = (l.take m).toArray.size + 1 := by simp; omega
  rw [hsz2]
  refine last_any (md := .any) (m := m) (by simpa using hsz) (by simpa using htl) (fun i hi => ?_) ⟨o, by simpa using ho, fun i hi => ?_, fun e he hb => ?_⟩ _ _ _ a _ (by simp; omega) (by simpa using htl) (fun i hi => ?_) ?_ H
  · have h1 := List.all_eq_true.1 hg i (List.mem_range.2 hi)
    obtain ⟨x, hx⟩ : ∃ x, l[i]? = some x := ⟨_, List.getElem?_eq_getElem (by omega)⟩
    have hx' : l.toArray[i]? = some x := by simpa using hx
    rw [hx'] at h1
    simp only [Bool.and_eq_true, Option.isNone_iff_eq_none, Array.all_eq_true_iff_forall_mem, decide_eq_true_eq] at h1
    exact ⟨x, hx', by simp [hi, hx], h1.1, h1.2⟩
  · have h1 := List.all_eq_true.1 hw i (List.mem_range.2 hi)
    have ho' : l.toArray[m]? = some o := by simpa using ho
    rw [ho'] at h1
    simp only [Bool.and_eq_true] at h1
    obtain ⟨e, he, h2⟩ := Array.any_eq_true'.1 h1.1
    simp only [Bool.and_eq_true, beq_iff_eq] at h2
    exact ⟨e, he, h2.1, h2.2⟩
  · have h1 := List.all_eq_true.1 hw 0 (List.mem_range.2 hm0)
    have ho' : l.toArray[m]? = some o := by simpa using ho
    rw [ho'] at h1
    simp only [Bool.and_eq_true, Array.all_eq_true_iff_forall_mem, decide_eq_true_eq] at h1
    exact h1.2 e he
  · rw [getD_replicate_false, getD_replicate_false]
  · exact getD_in (by simp; omega) (getD_replicate_false _ _)
end Go.Proofs.YtkekaifiahjljaaGreatDoor.Kg
