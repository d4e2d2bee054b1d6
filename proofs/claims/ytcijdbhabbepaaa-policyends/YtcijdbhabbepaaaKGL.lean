/-
  A region that draws, all of whose operations are quiet in a class of worlds but one, a call whose value may differ from world to world: what follows is asked for every value that it may hand back.
-/
import Derived.Test.YtcijdbhabbepaaaKGB
set_option linter.unusedVariables false
namespace Go.Proofs.Ytcijdbhabbepaaa.Kg
open Go.RowKit

/-- These operations never enter a function. -/
def plainOp : Op → Bool
  | .move _ | .assign _ | .pick _ _ _ | .load _ _ | .binOp _ _ _ _ _ | .unOp _ _ _ | .convert _ _ _ | .fieldAddr _ _ _ | .field _ _ _ | .indexAddr _ _ _ | .index _ _ _ | .extract _ _ => true
  | _ => false

/-- The operations behind number n wait for it, or are plain. -/
def looseB (md : Region.Mode) (ops : Array Oper) (n : Nat) : Bool :=
  (List.range ops.size).all fun j => j == n || (match ops[j]? with
    | none => true
    | some o => plainOp o.op || o.after.any (fun e => Region.binds md e && e.on == n))

section
variable {P : Program} {ops : Array Oper} {md : Region.Mode} {C : World → Prop}

theorem run_value_only {s : Sem Value} {w w' : World} {n : Next} (h : (do pure (Next.value (← s)) : Sem Next).run P w = .ok n w') : ∃ u, n = .value u := by
  rw [Sem.run_bind] at h
  generalize s.run P w = r at h
  cases r with
  | ok a w2 =>
    simp only [Result.andThen_ok, Sem.run_pure] at h
    injection h with h1 h2
    exact ⟨_, h1.symm⟩
  | halt x w2 => simp at h

theorem run_pick_only {s : Sem Bool} {x y : Value} {w w' : World} {n : Next} (h : (do pure (Next.value (if ← s then x else y)) : Sem Next).run P w = .ok n w') : ∃ u, n = .value u := by
  rw [Sem.run_bind] at h
  generalize s.run P w = r at h
  cases r with
  | ok a w2 =>
    simp only [Result.andThen_ok, Sem.run_pure] at h
    injection h with h1 h2
    exact ⟨_, h1.symm⟩
  | halt x w2 => simp at h

theorem plain_value {o : Oper} (hp : plainOp o.op = true) {ρ : Operand → Value} {w w' : World} {n : Next} (h : (execOp ρ o).run P w = .ok n w') : ∃ u, n = .value u := by
  unfold execOp at h
  unfold plainOp at hp
  split at hp
  all_goals first | (rename_i he; rw [he] at h; exact run_value_only h) | (rename_i he; rw [he] at h; exact run_pick_only h) | (rename_i he; rw [he] at h; injection h with h1 h2; exact ⟨_, h1.symm⟩) | (cases hp)

/-- In every world of the class the operation enters a function that hands back a value of R, and leaves a world of the class. -/
def LooseIn (P : Program) (ops : Array Oper) (C : World → Prop) (o : Oper) (R : Value → Prop) (a : Act) : Prop :=
  Region.wanted o (yielded ops a.tmps) = true ∧ ∀ w, C w → ∃ f args, (execOp a.eval o).run P w = .ok (.enter f args) w ∧ Calls P f args w (fun e w'' => ∃ v, e = .returned v ∧ R v ∧ C w'')

def lOp (P : Program) (ops : Array Oper) (C : World → Prop) (n : Nat) (R : Value → Prop) (i : Nat) (K : Act → Prop) (a : Act) : Prop :=
  if i = n then ∃ o, ops[n]? = some o ∧ LooseIn P ops C o R a ∧ ∀ v, R v → K (a.put o.dst v) else qOp P ops C i K a

theorem lOp_mono {n i : Nat} {R : Value → Prop} {a : Act} {K K' : Act → Prop} (h : ∀ a, K a → K' a) (hh : lOp P ops C n R i K a) : lOp P ops C n R i K' a := by
  unfold lOp at *
  split
  · rename_i hi
    rw [if_pos hi] at hh
    obtain ⟨o, h1, h2, h3⟩ := hh
    exact ⟨o, h1, h2, fun v hv => h _ (h3 v hv)⟩
  · rename_i hi
    rw [if_neg hi] at hh
    exact qOp_mono h hh

def wpAnyL (P : Program) (md : Region.Mode) (ops : Array Oper) (C : World → Prop) (n : Nat) (R : Value → Prop) (Q : Act → Prop) : Nat → Array Bool → Act → Prop
  | 0, listed, a => Region.ready md ops listed = [] ∧ Q a
  | fuel + 1, listed, a =>
    (Region.ready md ops listed = [] → Q a) ∧
    ∀ i ∈ Region.ready md ops listed, lOp P ops C n R i (wpAnyL P md ops C n R Q fuel (listed.setIfInBounds i true)) a

theorem wpOp_of_lOp {n i : Nat} {R : Value → Prop} {a : Act} {K : Act → Prop} {K' : Act → World → Prop} {Q' : Exit → Act → World → Prop} {w : World} (hC : C w) (h : ∀ a w', C w' → K a → K' a w') (hh : lOp P ops C n R i K a) : wpOp P ops Q' i K' a w := by
  unfold lOp at hh
  split at hh
  · rename_i hi
    subst hi
    obtain ⟨o, h1, ⟨h2, h4⟩, h3⟩ := hh
    obtain ⟨f, args, h5, h6⟩ := h4 w hC
    unfold wpOp
    simp only [h1, h2, if_true]
    refine .inl ?_
    unfold Oper.wp
    rw [h5]
    simp only [Oper.upon]
    exact h6.mono fun e w'' ⟨v, he, hv, hw''⟩ => by subst he; exact h _ _ hw'' (h3 v hv)
  · exact wpOp_of_qOp hC h hh

theorem wpAny_of_loose {n : Nat} {R : Value → Prop} {Q : Act → Prop} {Q' : Exit → Act → World → Prop} (hQ : ∀ a w, C w → Q a → Q' .normal a w) : ∀ (fuel : Nat) (listed : Array Bool) (a : Act) (w : World), C w →
    wpAnyL P md ops C n R Q fuel listed a → wpAny P md ops Q' fuel listed a w
  | 0, _, _, _, hw, h => ⟨h.1, hQ _ _ hw h.2⟩
  | fuel + 1, _, _, _, hw, h => ⟨fun h0 => hQ _ _ hw (h.1 h0), fun i hi => wpOp_of_lOp hw (fun a' w' hw' => wpAny_of_loose hQ fuel _ a' w' hw') (h.2 i hi)⟩

theorem LooseIn.of_same {o : Oper} {R : Value → Prop} {a a' : Act} (hy : LooseIn P ops C o R a) (he : execOp a'.eval o = execOp a.eval o)
    (hw : Region.wanted o (yielded ops a'.tmps) = Region.wanted o (yielded ops a.tmps)) : LooseIn P ops C o R a' := by
  unfold LooseIn at *
  rw [he, hw]
  exact hy

/-- A quiet operation oi may come ahead of whatever is apart from it. -/
theorem lOp_put {n j : Nat} {R : Value → Prop} {oi oj : Oper} {v : Value} (hj : ops[j]? = some oj) (hap : oi.apart ops oj = true)
    (hsi : ∀ cs b, oi.op ≠ .select cs b) (hsj : ∀ cs b, oj.op ≠ .select cs b) {K : Act → Prop} {a : Act}
    (hy : YieldsIn P ops C oi v a) (h : lOp P ops C n R j K (a.put oi.dst v)) :
    lOp P ops C n R j (fun a' => YieldsIn P ops C oi v a' ∧ K (a'.put oi.dst v)) a := by
  unfold lOp at *
  by_cases hjn : j = n
  · rw [if_pos hjn] at h ⊢
    subst hjn
    obtain ⟨o, h1, h2, h3⟩ := h
    obtain rfl : o = oj := by rw [hj] at h1; exact (Option.some.inj h1).symm
    obtain ⟨p1, p2, p3⟩ := Oper.apart_spec hap
    refine ⟨o, h1, h2.of_same (execOp_put o hsj a oi.dst v p1).symm (wanted_put o a oi.dst v p1).symm, fun u hu => ⟨hy.of_same (execOp_put oi hsi a o.dst u p3) (wanted_put oi a o.dst u p3), ?_⟩⟩
    rw [← Act.put_comm a v u p2]
    exact h3 u hu
  · rw [if_neg hjn] at h ⊢
    exact qOp_put hj hap hsi hsj hy h

theorem wpAnyL_first {n : Nat} {R : Value → Prop} {Q : Act → Prop} {i : Nat} {oi : Oper} {v : Value} (hin : i ≠ n) (hi : ops[i]? = some oi) (hsel : ∀ (j : Nat) (o : Oper) cs b, ops[j]? = some o → o.op ≠ .select cs b) :
    ∀ (fuel : Nat) (listed : Array Bool) (a : Act),
      (∀ j oj, ops[j]? = some oj → j ≠ i → listed.getD j true = false → (∀ e ∈ oj.after, Region.binds md e = true → e.on ≠ i) → oi.apart ops oj = true) →
      i ∈ Region.ready md ops listed → YieldsIn P ops C oi v a →
      wpAnyL P md ops C n R Q fuel (listed.setIfInBounds i true) (a.put oi.dst v) → wpAnyL P md ops C n R Q (fuel + 1) listed a := by
  intro fuel
  induction fuel with
  | zero =>
    intro listed a _ hr hy H
    refine ⟨fun h => (by rw [h] at hr; cases hr), fun j hj => ?_⟩
    by_cases hji : j = i
    · subst hji; unfold lOp; rw [if_neg hin]; exact hy.qOp hi H
    · have := ready_mono hj hji
      rw [H.1] at this
      cases this
  | succ fuel ih =>
    intro listed a hfree hr hy H
    refine ⟨fun h => (by rw [h] at hr; cases hr), fun j hj => ?_⟩
    by_cases hji : j = i
    · subst hji; unfold lOp; rw [if_neg hin]; exact hy.qOp hi H
    · have h1 := H.2 j (ready_mono hj hji)
      obtain ⟨hjun, oj, hoj, hall⟩ := mem_ready.1 hj
      have hnot : ∀ e ∈ oj.after, Region.binds md e = true → e.on ≠ i := fun e he hb heq => by
        have h1 := hall e he hb
        rw [heq, getD_both (mem_ready.1 hr).1] at h1
        cases h1
      have h2 := lOp_put hoj (hfree j oj hoj hji hjun hnot) (fun cs b => hsel i oi cs b hi) (fun cs b => hsel j oj cs b hoj) hy h1
      have hfree' : ∀ k ok, ops[k]? = some ok → k ≠ i → (listed.setIfInBounds j true).getD k true = false →
          (∀ e ∈ ok.after, Region.binds md e = true → e.on ≠ i) → oi.apart ops ok = true := fun k ok hk hki hun hno => by
        refine hfree k ok hk hki ?_ hno
        by_cases hjk : j = k
        · subst hjk; exact hjun
        · rw [getD_set_ne true hjk] at hun; exact hun
      refine lOp_mono (fun a' h3 => ih (listed.setIfInBounds j true) a' hfree' (ready_mono hr (Ne.symm hji)) h3.1 ?_) h2
      rw [Array.setIfInBounds_comm _ _ hji]
      exact h3.2

/-- The loose operation may come first. -/
theorem wpAnyL_loose {n : Nat} {R : Value → Prop} {Q : Act → Prop} {oi : Oper} {w0 : World} (h0 : C w0) (hi : ops[n]? = some oi) (hsel : ∀ (j : Nat) (o : Oper) cs b, ops[j]? = some o → o.op ≠ .select cs b) (hpl : looseB md ops n = true) :
    ∀ (fuel : Nat) (listed : Array Bool) (a : Act),
      (∀ j oj, ops[j]? = some oj → j ≠ n → listed.getD j true = false → (∀ e ∈ oj.after, Region.binds md e = true → e.on ≠ n) → oi.apart ops oj = true) →
      n ∈ Region.ready md ops listed → LooseIn P ops C oi R a →
      (∀ v, R v → wpAnyL P md ops C n R Q fuel (listed.setIfInBounds n true) (a.put oi.dst v)) → wpAnyL P md ops C n R Q (fuel + 1) listed a := by
  intro fuel
  have hex : ∀ a, LooseIn P ops C oi R a → ∃ v, R v := fun a hy => by
    obtain ⟨f, args, _, h6⟩ := hy.2 w0 h0
    obtain ⟨e, w', fr, ⟨v, _, hv, _⟩, _⟩ := h6 []
    exact ⟨v, hv⟩
  induction fuel with
  | zero =>
    intro listed a _ hr hy H
    refine ⟨fun h => (by rw [h] at hr; cases hr), fun j hj => ?_⟩
    by_cases hji : j = n
    · subst hji; unfold lOp; rw [if_pos rfl]; exact ⟨oi, hi, hy, H⟩
    · have := ready_mono hj hji
      obtain ⟨v, hv⟩ := hex a hy
      rw [(H v hv).1] at this
      cases this
  | succ fuel ih =>
    intro listed a hfree hr hy H
    refine ⟨fun h => (by rw [h] at hr; cases hr), fun j hj => ?_⟩
    by_cases hji : j = n
    · subst hji; unfold lOp; rw [if_pos rfl]; exact ⟨oi, hi, hy, H⟩
    · obtain ⟨hjun, oj, hoj, hall⟩ := mem_ready.1 hj
      have hnot : ∀ e ∈ oj.after, Region.binds md e = true → e.on ≠ n := fun e he hb heq => by
        have h1 := hall e he hb
        rw [heq, getD_both (mem_ready.1 hr).1] at h1
        cases h1
      have hap := hfree j oj hoj hji hjun hnot
      obtain ⟨p1, p2, p3⟩ := Oper.apart_spec hap
      have hsi : ∀ cs b, oi.op ≠ .select cs b := fun cs b => hsel n oi cs b hi
      have hsj : ∀ cs b, oj.op ≠ .select cs b := fun cs b => hsel j oj cs b hoj
      have hplain : plainOp oj.op = true := by
        have hlt : j < ops.size := by
          rcases Nat.lt_or_ge j ops.size with h | h
          · exact h
          · rw [Array.getElem?_eq_none h] at hoj; cases hoj
        have := List.all_eq_true.1 hpl j (List.mem_range.2 hlt)
        simp only [hoj, Bool.or_eq_true, beq_iff_eq, hji, false_or] at this
        rcases this with h | h
        · exact h
        · obtain ⟨e, he, h'⟩ := Array.any_eq_true'.1 h
          simp only [Bool.and_eq_true, beq_iff_eq] at h'
          exact absurd h'.2 (hnot e he h'.1)
      have keep : ∀ (a : Act), LooseIn P ops C oi R a → ∀ u, LooseIn P ops C oi R (a.put oj.dst u) := fun a hy u =>
        hy.of_same (execOp_put oi hsi a oj.dst u p3) (wanted_put oi a oj.dst u p3)
      have hfree' : ∀ k ok, ops[k]? = some ok → k ≠ n → (listed.setIfInBounds j true).getD k true = false →
          (∀ e ∈ ok.after, Region.binds md e = true → e.on ≠ n) → oi.apart ops ok = true := fun k ok hk hki hun hno => by
        refine hfree k ok hk hki ?_ hno
        by_cases hjk : j = k
        · subst hjk; exact hjun
        · rw [getD_set_ne true hjk] at hun; exact hun
      have hr' := ready_mono hr (Ne.symm hji)
      have step : ∀ u, (∀ v, R v → wpAnyL P md ops C n R Q fuel ((listed.setIfInBounds n true).setIfInBounds j true) ((a.put oi.dst v).put oj.dst u)) → wpAnyL P md ops C n R Q (fuel + 1) (listed.setIfInBounds j true) (a.put oj.dst u) := fun u hu =>
        ih (listed.setIfInBounds j true) (a.put oj.dst u) hfree' hr' (keep a hy u) fun v hv => by
          rw [Array.setIfInBounds_comm _ _ hji, ← Act.put_comm a v u p2]
          exact hu v hv
      have hH : ∀ v, R v → qOp P ops C j (wpAnyL P md ops C n R Q fuel ((listed.setIfInBounds n true).setIfInBounds j true)) (a.put oi.dst v) := fun v hv => by
        have := (H v hv).2 j (ready_mono hj hji)
        unfold lOp at this
        rwa [if_neg hji] at this
      unfold lOp
      rw [if_neg hji]
      unfold qOp at hH ⊢
      simp only [hoj] at hH ⊢
      by_cases hw : Region.wanted oj (yielded ops a.tmps) = true
      · rw [if_pos hw]
        have hH' : ∀ v, R v → ∃ u, (∀ w, C w → oj.quietAt P a C w u) ∧ wpAnyL P md ops C n R Q fuel ((listed.setIfInBounds n true).setIfInBounds j true) ((a.put oi.dst v).put oj.dst u) := fun v hv => by
          have h1 := hH v hv
          rw [wanted_put oj a oi.dst v p1, if_pos hw] at h1
          obtain ⟨u, hu, hn⟩ := h1
          refine ⟨u, fun w hw' => ?_, hn⟩
          have := hu w hw'
          unfold Oper.quietAt at *
          rwa [execOp_put oj hsj a oi.dst v p1] at this
        obtain ⟨v0, hv0⟩ := hex a hy
        obtain ⟨u, hu, _⟩ := hH' v0 hv0
        refine ⟨u, hu, step u fun v hv => ?_⟩
        obtain ⟨u', hu', hn⟩ := hH' v hv
        obtain rfl : u = u' := by
          have q1 := hu w0 h0
          have q2 := hu' w0 h0
          unfold Oper.quietAt at q1 q2
          generalize hrr : (execOp a.eval oj).run P w0 = r at q1 q2
          cases r with
          | ok nx w' =>
            obtain ⟨x, rfl⟩ := plain_value hplain hrr
            simp only [Oper.quietUpon] at q1 q2
            rw [← q1.2, ← q2.2]
          | halt x w' => simp only [Oper.quietUpon] at q1
        exact hn
      · rw [if_neg hw]
        refine step undef fun v hv => ?_
        have h1 := hH v hv
        rw [wanted_put oj a oi.dst v p1, if_neg hw] at h1
        exact h1

theorem wpAnyL_lex {n : Nat} {R : Value → Prop} {Q : Act → Prop} {w0 : World} (h0 : C w0) (hs : Region.noSelect ops = true) (hpl : looseB md ops n = true) : ∀ (l : List Oper) (k : Nat) (listed : Array Bool) (a : Act), n < k → (∀ j, l[j]? = ops[k + j]?) →
    Region.lexFrom md ops l.length k listed = true → wpQuiet P ops C Q l a → wpAnyL P md ops C n R Q l.length listed a
  | [], _, _, _, _, _, hB, h => ⟨by simpa [Region.lexFrom] using hB, h⟩
  | o :: l, k, listed, a, hk, hl, hB, h => by
    have h0' : ops[k]? = some o := by simpa using (hl 0).symm
    simp only [List.length_cons, Region.lexFrom, Bool.and_eq_true] at hB
    obtain ⟨⟨hr, hf⟩, hB'⟩ := hB
    have hst : qOp P ops C k (wpQuiet P ops C Q l) a := by unfold qOp; simp only [h0']; exact h
    obtain ⟨v, hy, hK⟩ := yieldsIn_of_qOp h0' hst
    exact wpAnyL_first (by omega) h0' (Region.noSelect_spec hs) l.length listed a (Region.free_spec h0' hf) (by simpa using hr) hy
      (wpAnyL_lex h0 hs hpl l (k + 1) _ _ (by omega) (fun j => by have := hl (j + 1); simpa [Nat.add_assoc, Nat.add_comm 1 j] using this) hB' hK)

/-- The head, then the loose one, then the rest. -/
theorem wpAnyL_whole {n : Nat} {R : Value → Prop} {Q : Act → Prop} {w0 : World} (h0 : C w0) (hs : Region.noSelect ops = true) (hpl : looseB md ops n = true) {on : Oper} (hn : ops[n]? = some on) : ∀ (m k : Nat) (listed : Array Bool) (a : Act), k + m = n →
    Region.lexFrom md ops (ops.size - k) k listed = true → wpQuiet P ops C (fun a' => LooseIn P ops C on R a' ∧ ∀ v, R v → wpQuiet P ops C Q (ops.toList.drop (n + 1)) (a'.put on.dst v)) ((ops.toList.drop k).take m) a → wpAnyL P md ops C n R Q (ops.size - k) listed a
  | 0, k, listed, a, hk, hB, h => by
    obtain rfl : k = n := by omega
    have hlt : k < ops.size := by
      rcases Nat.lt_or_ge k ops.size with h | h
      · exact h
      · rw [Array.getElem?_eq_none h] at hn; cases hn
    obtain ⟨h1, h2⟩ : LooseIn P ops C on R a ∧ ∀ v, R v → wpQuiet P ops C Q (ops.toList.drop (k + 1)) (a.put on.dst v) := by simpa [wpQuiet] using h
    have hsz : ops.size - k = (ops.toList.drop (k + 1)).length + 1 := by simp; omega
    rw [hsz] at hB ⊢
    simp only [Region.lexFrom, Bool.and_eq_true] at hB
    obtain ⟨⟨hr, hf⟩, hB'⟩ := hB
    exact wpAnyL_loose h0 hn (Region.noSelect_spec hs) hpl _ listed a (Region.free_spec hn hf) (by simpa using hr) h1 fun v hv =>
      wpAnyL_lex h0 hs hpl _ (k + 1) _ _ (by omega) (fun j => by simp [List.getElem?_drop]) hB' (h2 v hv)
  | m + 1, k, listed, a, hk, hB, h => by
    have hlt : n < ops.size := by
      rcases Nat.lt_or_ge n ops.size with h | h
      · exact h
      · rw [Array.getElem?_eq_none h] at hn; cases hn
    have hkl : k < ops.toList.length := by simp; omega
    obtain ⟨o, ho⟩ : ∃ o, ops.toList[k]? = some o := ⟨_, List.getElem?_eq_getElem hkl⟩
    have h0' : ops[k]? = some o := by simpa using ho
    have hd : (ops.toList.drop k).take (m + 1) = o :: (ops.toList.drop (k + 1)).take m := by
      rw [List.drop_eq_getElem_cons hkl, List.take_succ_cons]
      rw [List.getElem?_eq_getElem hkl] at ho
      rw [Option.some.inj ho]
    rw [hd] at h
    have hsz : ops.size - k = (ops.size - (k + 1)) + 1 := by omega
    rw [hsz] at hB ⊢
    simp only [Region.lexFrom, Bool.and_eq_true] at hB
    obtain ⟨⟨hr, hf⟩, hB'⟩ := hB
    have hst : qOp P ops C k (wpQuiet P ops C (fun a' => LooseIn P ops C on R a' ∧ ∀ v, R v → wpQuiet P ops C Q (ops.toList.drop (n + 1)) (a'.put on.dst v)) ((ops.toList.drop (k + 1)).take m)) a := by unfold qOp; simp only [h0']; exact h
    obtain ⟨v, hy, hK⟩ := yieldsIn_of_qOp h0' hst
    exact wpAnyL_first (by omega) h0' (Region.noSelect_spec hs) _ listed a (Region.free_spec h0' hf) (by simpa using hr) hy
      (wpAnyL_whole h0 hs hpl hn m (k + 1) _ _ (by omega) hB' hK)
end

theorem wpQuiet_mono {P : Program} {ops : Array Oper} {C : World → Prop} {Q Q' : Act → Prop} (h : ∀ a, Q a → Q' a) : ∀ (l : List Oper) (a : Act), wpQuiet P ops C Q l a → wpQuiet P ops C Q' l a
  | [], a, hh => h a hh
  | o :: l, a, hh => by
    unfold wpQuiet at hh ⊢
    split
    · rename_i hw
      rw [if_pos hw] at hh
      exact Oper.quiet_mono (fun a' h' => wpQuiet_mono h l a' h') hh
    · rename_i hw
      rw [if_neg hw] at hh
      exact wpQuiet_mono h l _ hh

/-- A region that draws: all its operations read or lay blocks; number n calls a function whose value may differ from world to world (it is one of R). -/
theorem below_loose {P : Program} {id : Nat} {Q : Exit → Act → World → Prop} {a : Act} {w : World} {l : List Oper} (n : Nat) (R : Value → Prop) {on : Oper} (hn : l[n]? = some on) (hm : P.follows .mixedOrders = true) (hB : Region.lexB .any l.toArray = true) (hpl : looseB .any l.toArray n = true)
    (h : wpQuiet P l.toArray (fun w' => ∃ p : Bel w, w' = p.v) (fun a' => LooseIn P l.toArray (fun w' => ∃ p : Bel w, w' = p.v) on R a' ∧ ∀ v, R v → wpQuiet P l.toArray (fun w' => ∃ p : Bel w, w' = p.v) (fun a' => ∀ w', (∃ p : Bel w, w' = p.v) → Q .normal a' w') (l.drop (n + 1)) (a'.put on.dst v)) (l.take n) a) : (Code.region id l.toArray true).wp P Q a w := by
  simp only [Region.lexB, Bool.and_eq_true] at hB
  have hC : ∃ p : Bel w, w.drew = p.v := ⟨⟨w.drewN 1, below_drewN (Below.refl _ _) 1⟩, rfl⟩
  refine wp_region_any hm (wpAny_of_loose (C := fun w' => ∃ p : Bel w, w' = p.v) (n := n) (R := R) (Q := fun a' => ∀ w', (∃ p : Bel w, w' = p.v) → Q .normal a' w') (fun _ w' hw' h => h w' hw') _ _ _ _ hC ?_)
  have := wpAnyL_whole (C := fun w' => ∃ p : Bel w, w' = p.v) (R := R) (Q := fun a' => ∀ w', (∃ p : Bel w, w' = p.v) → Q .normal a' w') hC hB.1 hpl (by simpa using hn) n 0 (Array.replicate l.toArray.size false) a (by simp) (by simpa using hB.2) (by simpa using h)
  simpa using this

/-- The same, what follows in a form that the walk takes: the loose operation moves its value into its slot. -/
theorem below_loose_as {P : Program} {id : Nat} {Q : Exit → Act → World → Prop} {a : Act} {w : World} {l : List Oper} (n : Nat) (R : Value → Prop) {d : Option Tmp} {op : Op} {ty : TypeId} {ps : String} {af : Array Edge} {gd : Option (Nat × Bool)} (hn : l[n]? = some ⟨d, op, ty, ps, af, gd⟩) (hm : P.follows .mixedOrders = true) (hB : Region.lexB .any l.toArray = true) (hpl : looseB .any l.toArray n = true)
    (h : wpQuiet P l.toArray (fun w' => ∃ p : Bel w, w' = p.v) (fun a' => LooseIn P l.toArray (fun w' => ∃ p : Bel w, w' = p.v) ⟨d, op, ty, ps, af, gd⟩ R a' ∧ ∀ v, R v → wpQuiet P l.toArray (fun w' => ∃ p : Bel w, w' = p.v) (fun a' => ∀ w', (∃ p : Bel w, w' = p.v) → Q .normal a' w') (⟨d, .move (.const v), ty, ps, af, gd⟩ :: l.drop (n + 1)) a') (l.take n) a) : (Code.region id l.toArray true).wp P Q a w := by
  refine below_loose n R hn hm hB hpl ?_
  refine wpQuiet_mono (fun a' h' => ⟨h'.1, fun v hv => ?_⟩) _ _ h
  have h2 := h'.2 v hv
  have hw : Region.wanted ⟨d, .move (.const v), ty, ps, af, gd⟩ (yielded l.toArray a'.tmps) = true := h'.1.1
  unfold wpQuiet at h2
  rw [if_pos hw] at h2
  obtain ⟨u, h3, h4⟩ := h2
  have h5 := h3 w.drew ⟨⟨w.drewN 1, below_drewN (Below.refl _ _) 1⟩, rfl⟩
  unfold Oper.quietAt execOp at h5
  simp only [Sem.run_pure, Oper.quietUpon] at h5
  rw [← h5.2] at h4
  exact h4

end Go.Proofs.Ytcijdbhabbepaaa.Kg
