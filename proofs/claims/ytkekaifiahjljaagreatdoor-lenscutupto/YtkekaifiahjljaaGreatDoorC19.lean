import Derived.Test.YtkekaifiahjljaaGreatDoorC18
import Derived.Test.YtkekaifiahjljaaGreatDoorC10
set_option linter.unusedVariables false
set_option maxHeartbeats 8000000
set_option maxRecDepth 20000
namespace Go.Proofs.YtkekaifiahjljaaGreatDoor
open Go.RowKit Go.Shelf Go.Proofs.YtkekaifiahjljaaGreatDoor.Lt
def Fst (par : Nat → Nat) (p q : Nat) (σ : Nat → Nat) (B fb sb ab bb sc ac bc : Nat) (w : World) (F : List Nat) : Prop :=
  ∃ (tv : Value) (l : List Int) (fa bs : Nat → Nat), Frs w B fb p sb ab bb sc ac bc tv l (fun x => (σ x : Int)) (abv q fa) (bst q bs) ∧ Fo par p q σ fa bs ∧ F = fb :: sb :: ab :: bb :: tv.ownBlock.toList
variable {par : Nat → Nat} {p q : Nat} {σ : Nat → Nat} {B fb sb ab bb sc ac bc : Nat}
theorem Fst.mem {w : World} {F : List Nat} (h : Fst par p q σ B fb sb ab bb sc ac bc w F) : ∀ k, k ∈ F → B ≤ k ∧ k < w.heap.size := by
  obtain ⟨tv, l, fa, bs, h1, h2, rfl⟩ := h
  intro k hk
  simp only [List.mem_cons] at hk
  rcases hk with rfl | rfl | rfl | rfl | hk
  · exact ⟨h1.lo.1, Kg.heap_lt h1.h⟩
  · exact ⟨h1.lo.2.1, h1.s.lt⟩
  · exact ⟨h1.lo.2.2.1, h1.a.lt⟩
  · exact ⟨h1.lo.2.2.2, h1.b.lt⟩
  · rw [Option.mem_toList] at hk
    exact World.ownsRow.lt h1.t k hk
theorem Fst.keep {w w' : World} {F G : List Nat} (h : Fst par p q σ B fb sb ab bb sc ac bc w F) (ht : Kg.Touch G w w') (ha : ∀ k, k ∈ F → k ∉ G) : Fst par p q σ B fb sb ab bb sc ac bc w' F := by
  obtain ⟨tv, l, fa, bs, h1, h2, rfl⟩ := h
  exact ⟨tv, l, fa, bs, h1.touch ht (ha _ (by simp)) (ha _ (by simp)) (ha _ (by simp)) (ha _ (by simp)) (fun k hk => ha k (by simp [hk])), h2, rfl⟩
theorem Fst.drewN {w : World} {F : List Nat} (h : Fst par p q σ B fb sb ab bb sc ac bc w F) (n : Nat) : Fst par p q σ B fb sb ab bb sc ac bc (w.drewN n) F := h.keep (Kg.Touch.drewN [] w n) (by simp)
def Fsl (par : Nat → Nat) (p q : Nat) (σ : Nat → Nat) (B fb sb ab bb sc ac bc : Nat) (w : World) (F : List Nat) (w' : World) : Prop :=
  ∃ F', Fst par p q σ B fb sb ab bb sc ac bc w' F' ∧ Kg.Touch F w w' ∧ Kg.Newer w.heap.size F F'
def Low (par : Nat → Nat) (p q : Nat) (σ : Nat → Nat) (v u : Nat) : Prop := u < p ∧ (v < q → u = v) ∧ (q ≤ v → q ≤ u ∧ Anc par u v ∧ ∀ y, q ≤ y → Anc par y v → σ u ≤ σ y)
theorem lowest_any {E : Nat → Nat → Prop} (D : Dt E par p) (hp2 : p ≤ 2000000) (v : Nat) (hvp : v < p) (w : World) (F : List Nat) (h : Fst par p q σ B fb sb ab bb sc ac bc w F) (hB : B ≤ w.heap.size) :
    Calls Tryz.prog 163 #[.pointer (some ⟨fb, 0, none⟩), .int .i64 (v : Nat)] w fun e w' => ∃ u : Nat, e = .returned (.int .i64 (u : Nat)) ∧ Low par p q σ v u ∧ Fsl par p q σ B fb sb ab bb sc ac bc w F w' := by
  obtain ⟨tv, l, fa, bs, hR, hF, rfl⟩ := h
  obtain ⟨x0, x1, x2, x3⟩ := hR.cells
  have hvI : (v : Int) < (p : Int) := by omega
  have cv := hR.a.cell hvp
  by_cases hq : q ≤ v
  · have qs := shorten_any D hp2 hF v hq hvp w B fb sb ab bb sc ac bc tv l hR hB
    rw [abv_ge hq] at cv
    have g1 : ((fa v : Int) != -1) = true := bne_iff_ne.2 (by omega)
    clear hR hF
    go_enter Tryz.func163, Tryz.ntmps163
    go_wp2_with fail
    refine qs.mono ?_
    rintro e w1 ⟨rfl, tv1, l1, fa1, bs1, o1, o2, o3, o4, o5⟩
    have hlow := D.fo_low o2 hq hvp o3
    obtain ⟨y0, y1, y2, y3⟩ := o1.cells
    have cb := o1.b.cell hvp
    rw [bst_ge hq] at cb
    have hbp := D.le hvp hlow.2.1
    have HX : Hid (Low par p q σ v (bs1 v) ∧ Fsl par p q σ B fb sb ab bb sc ac bc w (fb :: sb :: ab :: bb :: tv.ownBlock.toList) w1) := by
      refine ⟨⟨by omega, fun h => by omega, fun _ => hlow⟩, _, ⟨tv1, l1, fa1, bs1, o1, o2, rfl⟩, o4.mono (fun k hk => .inl ?_), fun k hk => ?_⟩
      · simp only [frF, List.mem_cons] at hk ⊢
        rcases hk with h1 | h1 | h1 | h1
        · exact .inl h1
        · exact .inr (.inr (.inl h1))
        · exact .inr (.inr (.inr (.inl h1)))
        · exact .inr (.inr (.inr (.inr h1)))
      · simp only [List.mem_cons, Option.mem_toList] at hk ⊢
        rcases hk with h1 | h1 | h1 | h1 | h1
        · exact .inl (.inl h1)
        · exact .inl (.inr (.inl h1))
        · exact .inl (.inr (.inr (.inl h1)))
        · exact .inl (.inr (.inr (.inr (.inl h1))))
        · rcases o5 k h1 with h2 | h2
          · exact .inl (.inr (.inr (.inr (.inr h2))))
          · exact .inr h2
    clear qs o1 o2 o3 o4 o5 hlow
    go_wp2
    go_ret
    exact ⟨bs1 v, rfl, HX.out⟩
  · have hq' : v < q := by omega
    rw [abv_lt hq'] at cv
    have cb := hR.b.cell hvp
    rw [bst_lt hq'] at cb
    have HX : Hid (Low par p q σ v v ∧ Fsl par p q σ B fb sb ab bb sc ac bc w (fb :: sb :: ab :: bb :: tv.ownBlock.toList) w) :=
      ⟨⟨hvp, fun _ => rfl, fun h => by omega⟩, _, ⟨tv, l, fa, bs, hR, hF, rfl⟩, Kg.Touch.refl _ _, Kg.Newer.refl _ _⟩
    clear hR hF
    go_enter Tryz.func163, Tryz.ntmps163
    go_wp2
    go_ret
    exact ⟨v, rfl, HX.out⟩
theorem guess_any {E : Nat → Nat → Prop} (D : Dt E par p) (hp2 : p ≤ 2000000) (v : Nat) (hvq : q ≤ v) (hvp : v < p) (w : World) (F : List Nat) (h : Fst par p q σ B fb sb ab bb sc ac bc w F) (hB : B ≤ w.heap.size) :
    Calls Tryz.prog 112 #[.pointer (some ⟨fb, 0, none⟩), .int .i64 (v : Nat)] w fun e w' => ∃ u : Nat, q ≤ u ∧ Anc par u v ∧ (∀ y, q ≤ y → Anc par y v → σ u ≤ σ y) ∧ e = .returned (.int .i64 ((if σ u < σ v then u else σ v : Nat))) ∧ Fsl par p q σ B fb sb ab bb sc ac bc w F w' := by
  have qs := lowest_any D hp2 v hvp w F h hB
  clear h
  go_enter Tryz.func112, Tryz.ntmps112
  go_wp2_with fail
  refine qs.mono ?_
  rintro e w1 ⟨u, rfl, hl, hf⟩
  have HL : Hid (q ≤ u ∧ Anc par u v ∧ ∀ y, q ≤ y → Anc par y v → σ u ≤ σ y) := hl.2.2 hvq
  have hup := hl.1
  have HF : Hid (Fsl par p q σ B fb sb ab bb sc ac bc w F w1) := hf
  obtain ⟨F1, ⟨tv, l, fa, bs, hR, hF, rfl⟩, ht, hn⟩ := hf
  obtain ⟨x0, x1, x2, x3⟩ := hR.cells
  have csu := hR.s.cell hup
  have csv := hR.s.cell hvp
  have huI : (u : Int) < (p : Int) := by omega
  have hvI : (v : Int) < (p : Int) := by omega
  clear qs hl hR hF ht hn
  by_cases hlt : σ u < σ v
  · have g2 : decide ((σ u : Int) < (σ v : Int)) = true := decide_eq_true (by omega)
    go_upto_region 2 with fail
    go_quiet (fail)
    have HF2 : Hid (Fsl par p q σ B fb sb ab bb sc ac bc w F (w1.drewN nq)) := by
      obtain ⟨F1, h1, h2, h3⟩ := HF.out
      exact ⟨F1, h1.drewN _, h2.trans (Kg.Touch.drewN _ _ _), h3⟩
    clear x0 x1 x2 x3 csu csv HF
    generalize w1.drewN nq = w2 at *
    go_wp2
    go_ret
    exact ⟨u, HL.out.1, HL.out.2.1, HL.out.2.2, by rw [if_pos hlt]; rfl, HF2.out⟩
  · have g2 : decide ((σ u : Int) < (σ v : Int)) = false := decide_eq_false (by omega)
    go_upto_region 2 with fail
    go_quiet (fail)
    have HF2 : Hid (Fsl par p q σ B fb sb ab bb sc ac bc w F (w1.drewN nq)) := by
      obtain ⟨F1, h1, h2, h3⟩ := HF.out
      exact ⟨F1, h1.drewN _, h2.trans (Kg.Touch.drewN _ _ _), h3⟩
    clear x1 x2 x3 csu csv x0
    obtain ⟨F1, ⟨tv, l, fa, bs, hR, hF, rfl⟩, ht, hn⟩ := HF2.out
    obtain ⟨x0, x1, x2, x3⟩ := hR.cells
    have csv := hR.s.cell hvp
    clear hR hF ht hn HF
    generalize w1.drewN nq = w2 at *
    go_wp2
    go_ret
    exact ⟨u, HL.out.1, HL.out.2.1, HL.out.2.2, by rw [if_neg hlt]; rfl, HF2.out⟩
end Go.Proofs.YtkekaifiahjljaaGreatDoor
namespace Go.Proofs.YtkekaifiahjljaaGreatDoor.Kg
open Go.RowKit
def plainOp : Op → Bool
  | .move _ | .assign _ | .pick _ _ _ | .load _ _ | .binOp _ _ _ _ _ | .unOp _ _ _ | .convert _ _ _ | .fieldAddr _ _ _ | .field _ _ _ | .indexAddr _ _ _ | .index _ _ _ | .extract _ _ => true
  | _ => false
def looseB (md : Region.Mode) (ops : Array Oper) (n : Nat) : Bool :=
  (List.range ops.size).all fun j => j == n || (match ops[j]? with
    | none => true
    | some o => plainOp o.op || o.after.any (fun e => Region.binds md e && e.on == n))
section
variable {P : Program} {ops : Array Oper} {md : Region.Mode} {C : World → Prop}
theorem run_value_only {s : Sem Value} {w w' : World} {n : Next} (h : (do pure (Next.value (← s)) : Sem Next).run P w = .ok n w') : ∃ u, n = .value u := by
  rw [Sem.run_bind] at h
  generalize s.run P w = r at h
  cases r with
  | ok a w2 =>
    simp only [Result.andThen_ok, Sem.run_pure] at h
    injection h with h1 h2
    exact ⟨_, h1.symm⟩
  | halt x w2 => simp at h
theorem run_pick_only {s : Sem Bool} {x y : Value} {w w' : World} {n : Next} (h : (do pure (Next.value (if ← s then x else y)) : Sem Next).run P w = .ok n w') : ∃ u, n = .value u := by
  rw [Sem.run_bind] at h
  generalize s.run P w = r at h
  cases r with
  | ok a w2 =>
    simp only [Result.andThen_ok, Sem.run_pure] at h
    injection h with h1 h2
    exact ⟨_, h1.symm⟩
  | halt x w2 => simp at h
theorem plain_value {o : Oper} (hp : plainOp o.op = true) {ρ : Operand → Value} {w w' : World} {n : Next} (h : (execOp ρ o).run P w = .ok n w') : ∃ u, n = .value u := by
  unfold execOp at h
  unfold plainOp at hp
  split at hp
  all_goals first | (rename_i he; rw [he] at h; exact run_value_only h) | (rename_i he; rw [he] at h; exact run_pick_only h) | (rename_i he; rw [he] at h; injection h with h1 h2; exact ⟨_, h1.symm⟩) | (cases hp)
def LooseIn (P : Program) (ops : Array Oper) (C : World → Prop) (o : Oper) (R : Value → Prop) (a : Act) : Prop :=
  Region.wanted o (yielded ops a.tmps) = true ∧ ∀ w, C w → ∃ f args, (execOp a.eval o).run P w = .ok (.enter f args) w ∧ Calls P f args w (fun e w'' => ∃ v, e = .returned v ∧ R v ∧ C w'')
def lOp (P : Program) (ops : Array Oper) (C : World → Prop) (n : Nat) (R : Value → Prop) (i : Nat) (K : Act → Prop) (a : Act) : Prop :=
  if i = n then ∃ o, ops[n]? = some o ∧ LooseIn P ops C o R a ∧ ∀ v, R v → K (a.put o.dst v) else qOp P ops C i K a
theorem lOp_mono {n i : Nat} {R : Value → Prop} {a : Act} {K K' : Act → Prop} (h : ∀ a, K a → K' a) (hh : lOp P ops C n R i K a) : lOp P ops C n R i K' a := by
  unfold lOp at *
  split
  · rename_i hi
    rw [if_pos hi] at hh
    obtain ⟨o, h1, h2, h3⟩ := hh
    exact ⟨o, h1, h2, fun v hv => h _ (h3 v hv)⟩
  · rename_i hi
    rw [if_neg hi] at hh
    exact qOp_mono h hh
def wpAnyL (P : Program) (md : Region.Mode) (ops : Array Oper) (C : World → Prop) (n : Nat) (R : Value → Prop) (Q : Act → Prop) : Nat → Array Bool → Act → Prop
  | 0, listed, a => Region.ready md ops listed = [] ∧ Q a
  | fuel + 1, listed, a =>
    (Region.ready md ops listed = [] → Q a) ∧
    ∀ i ∈ Region.ready md ops listed, lOp P ops C n R i (wpAnyL P md ops C n R Q fuel (listed.setIfInBounds i true)) a
theorem wpOp_of_lOp {n i : Nat} {R : Value → Prop} {a : Act} {K : Act → Prop} {K' : Act → World → Prop} {Q' : Exit → Act → World → Prop} {w : World} (hC : C w) (h : ∀ a w', C w' → K a → K' a w') (hh : lOp P ops C n R i K a) : wpOp P ops Q' i K' a w := by
  unfold lOp at hh
  split at hh
  · rename_i hi
    subst hi
    obtain ⟨o, h1, ⟨h2, h4⟩, h3⟩ := hh
    obtain ⟨f, args, h5, h6⟩ := h4 w hC
    unfold wpOp
    simp only [h1, h2, if_true]
    refine .inl ?_
    unfold Oper.wp
    rw [h5]
    simp only [Oper.upon]
    exact h6.mono fun e w'' ⟨v, he, hv, hw''⟩ => by subst he; exact h _ _ hw'' (h3 v hv)
  · exact wpOp_of_qOp hC h hh
theorem wpAny_of_loose {n : Nat} {R : Value → Prop} {Q : Act → Prop} {Q' : Exit → Act → World → Prop} (hQ : ∀ a w, C w → Q a → Q' .normal a w) : ∀ (fuel : Nat) (listed : Array Bool) (a : Act) (w : World), C w →
    wpAnyL P md ops C n R Q fuel listed a → wpAny P md ops Q' fuel listed a w
  | 0, _, _, _, hw, h => ⟨h.1, hQ _ _ hw h.2⟩
  | fuel + 1, _, _, _, hw, h => ⟨fun h0 => hQ _ _ hw (h.1 h0), fun i hi => wpOp_of_lOp hw (fun a' w' hw' => wpAny_of_loose hQ fuel _ a' w' hw') (h.2 i hi)⟩
theorem LooseIn.of_same {o : Oper} {R : Value → Prop} {a a' : Act} (hy : LooseIn P ops C o R a) (he : execOp a'.eval o = execOp a.eval o)
    (hw : Region.wanted o (yielded ops a'.tmps) = Region.wanted o (yielded ops a.tmps)) : LooseIn P ops C o R a' := by
  unfold LooseIn at *
  rw [he, hw]
  exact hy
theorem lOp_put {n j : Nat} {R : Value → Prop} {oi oj : Oper} {v : Value} (hj : ops[j]? = some oj) (hap : oi.apart ops oj = true)
    (hsi : ∀ cs b, oi.op ≠ .select cs b) (hsj : ∀ cs b, oj.op ≠ .select cs b) {K : Act → Prop} {a : Act}
    (hy : YieldsIn P ops C oi v a) (h : lOp P ops C n R j K (a.put oi.dst v)) :
    lOp P ops C n R j (fun a' => YieldsIn P ops C oi v a' ∧ K (a'.put oi.dst v)) a := by
  unfold lOp at *
  by_cases hjn : j = n
  · rw [if_pos hjn] at h ⊢
    subst hjn
    obtain ⟨o, h1, h2, h3⟩ := h
    obtain rfl : o = oj := by rw [hj] at h1; exact (Option.some.inj h1).symm
    obtain ⟨p1, p2, p3⟩ := Oper.apart_spec hap
    refine ⟨o, h1, h2.of_same (execOp_put o hsj a oi.dst v p1).symm (wanted_put o a oi.dst v p1).symm, fun u hu => ⟨hy.of_same (execOp_put oi hsi a o.dst u p3) (wanted_put oi a o.dst u p3), ?_⟩⟩
    rw [← Act.put_comm a v u p2]
    exact h3 u hu
  · rw [if_neg hjn] at h ⊢
    exact qOp_put hj hap hsi hsj hy h
theorem wpAnyL_first {n : Nat} {R : Value → Prop} {Q : Act → Prop} {i : Nat} {oi : Oper} {v : Value} (hin : i ≠ n) (hi : ops[i]? = some oi) (hsel : ∀ (j : Nat) (o : Oper) cs b, ops[j]? = some o → o.op ≠ .select cs b) :
    ∀ (fuel : Nat) (listed : Array Bool) (a : Act),
      (∀ j oj, ops[j]? = some oj → j ≠ i → listed.getD j true = false → (∀ e ∈ oj.after, Region.binds md e = true → e.on ≠ i) → oi.apart ops oj = true) →
      i ∈ Region.ready md ops listed → YieldsIn P ops C oi v a →
      wpAnyL P md ops C n R Q fuel (listed.setIfInBounds i true) (a.put oi.dst v) → wpAnyL P md ops C n R Q (fuel + 1) listed a := by
  intro fuel
  induction fuel with
  | zero =>
    intro listed a _ hr hy H
    refine ⟨fun h => (by rw [h] at hr; cases hr), fun j hj => ?_⟩
    by_cases hji : j = i
    · subst hji; unfold lOp; rw [if_neg hin]; exact hy.qOp hi H
    · have := ready_mono hj hji
      rw [H.1] at this
      cases this
  | succ fuel ih =>
    intro listed a hfree hr hy H
    refine ⟨fun h => (by rw [h] at hr; cases hr), fun j hj => ?_⟩
    by_cases hji : j = i
    · subst hji; unfold lOp; rw [if_neg hin]; exact hy.qOp hi H
    · have h1 := H.2 j (ready_mono hj hji)
      obtain ⟨hjun, oj, hoj, hall⟩ := mem_ready.1 hj
      have hnot : ∀ e ∈ oj.after, Region.binds md e = true → e.on ≠ i := fun e he hb heq => by
        have h1 := hall e he hb
        rw [heq, getD_both (mem_ready.1 hr).1] at h1
        cases h1
      have h2 := lOp_put hoj (hfree j oj hoj hji hjun hnot) (fun cs b => hsel i oi cs b hi) (fun cs b => hsel j oj cs b hoj) hy h1
      have hfree' : ∀ k ok, ops[k]? = some ok → k ≠ i → (listed.setIfInBounds j true).getD k true = false →
          (∀ e ∈ ok.after, Region.binds md e = true → e.on ≠ i) → oi.apart ops ok = true := fun k ok hk hki hun hno => by
        refine hfree k ok hk hki ?_ hno
        by_cases hjk : j = k
        · subst hjk; exact hjun
        · rw [getD_set_ne true hjk] at hun; exact hun
      refine lOp_mono (fun a' h3 => ih (listed.setIfInBounds j true) a' hfree' (ready_mono hr (Ne.symm hji)) h3.1 ?_) h2
      rw [Array.setIfInBounds_comm _ _ hji]
      exact h3.2
theorem wpAnyL_lex {n : Nat} {R : Value → Prop} {Q : Act → Prop} {w0 : World} (h0 : C w0) (hs : Region.noSelect ops = true) (hpl : looseB md ops n = true) : ∀ (l : List Oper) (k : Nat) (listed : Array Bool) (a : Act), n < k → (∀ j, l[j]? = ops[k + j]?) →
    Region.lexFrom md ops l.length k listed = true → wpQuiet P ops C Q l a → wpAnyL P md ops C n R Q l.length listed a
  | [], _, _, _, _, _, hB, h => ⟨by simpa [Region.lexFrom] using hB, h⟩
  | o :: l, k, listed, a, hk, hl, hB, h => by
    have h0' : ops[k]? = some o := by simpa using (hl 0).symm
    simp only [List.length_cons, Region.lexFrom, Bool.and_eq_true] at hB
    obtain ⟨⟨hr, hf⟩, hB'⟩ := hB
    have hst : qOp P ops C k (wpQuiet P ops C Q l) a := by unfold qOp; simp only [h0']; exact h
    obtain ⟨v, hy, hK⟩ := yieldsIn_of_qOp h0' hst
    exact wpAnyL_first (by omega) h0' (Region.noSelect_spec hs) l.length listed a (Region.free_spec h0' hf) (by simpa using hr) hy
      (wpAnyL_lex h0 hs hpl l (k + 1) _ _ (by omega) (fun j => by have := hl (j + 1); simpa [Nat.add_assoc, Nat.add_comm 1 j] using this) hB' hK)
end
theorem wpQuiet_mono {P : Program} {ops : Array Oper} {C : World → Prop} {Q Q' : Act → Prop} (h : ∀ a, Q a → Q' a) : ∀ (l : List Oper) (a : Act), wpQuiet P ops C Q l a → wpQuiet P ops C Q' l a
  | [], a, hh => h a hh
  | o :: l, a, hh => by
    unfold wpQuiet at hh ⊢
    split
    · rename_i hw
      rw [if_pos hw] at hh
      exact Oper.quiet_mono (fun a' h' => wpQuiet_mono h l a' h') hh
    · rename_i hw
      rw [if_neg hw] at hh
      exact wpQuiet_mono h l _ hh
section
variable {P : Program} {ops : Array Oper} {md : Region.Mode} {C : World → Prop}
def onlyVal (P : Program) (s : Sem Next) : Prop := ∀ w n w', s.run P w = .ok n w' → ∃ u, n = .value u
theorem onlyVal_bind {α : Type} {s : Sem α} {k : α → Sem Next} (h : ∀ a, onlyVal P (k a)) : onlyVal P (s >>= k) := by
  intro w n w' hr
  rw [Sem.run_bind] at hr
  generalize s.run P w = r at hr
  cases r with
  | ok a w2 =>
    simp only [Result.andThen_ok] at hr
    exact h a _ _ _ hr
  | halt x w2 => simp at hr
theorem onlyVal_pure (u : Value) : onlyVal P (pure (Next.value u)) := fun w n w' h => by
  rw [Sem.run_pure] at h
  injection h with h1 h2
  exact ⟨u, h1.symm⟩
theorem onlyVal_panic : onlyVal P (runtimePanic .nilDeref) := fun w n w' h => by
  simp [runtimePanic, goPanic] at h
def plain2 : Op → Bool
  | .call c => (match c.callee with | .builtin .len => true | .builtin .cap => true | .builtin .min => true | .builtin .max => true | _ => false)
  | .nilCheck _ => true
  | o => plainOp o
theorem nil_only (o : Oper) (x : Operand) (he : o.op = .nilCheck x) (ρ : Operand → Value) : onlyVal P (execOp ρ o) := by
  unfold execOp
  rw [he]
  dsimp only
  split
  · exact onlyVal_panic
  · exact onlyVal_panic
  · exact onlyVal_panic
  · split
    · exact onlyVal_panic
    · refine onlyVal_bind fun p => onlyVal_bind fun q => ?_
      split
      · refine onlyVal_bind fun _ => onlyVal_pure _
      · exact onlyVal_pure _
    · exact onlyVal_pure _
  · exact onlyVal_pure _
theorem plain2_only {o : Oper} (hp : plain2 o.op = true) (ρ : Operand → Value) : onlyVal P (execOp ρ o) := by
  intro w n w' h
  unfold plain2 at hp
  split at hp
  · rename_i c he
    unfold execOp at h
    rw [he] at h
    dsimp only at h
    split at hp
    all_goals first | (rename_i hc; simp only [resolve, hc, pure_bind, invoke, builtin] at h; exact run_value_only h) | (cases hp)
  · rename_i x he
    exact nil_only o x he ρ w n w' h
  · exact plain_value hp h
def Grow (P : Program) (ops : Array Oper) (C : World → Prop) (o : Oper) (v : Value) (a : Act) : Prop :=
  (Region.wanted o (yielded ops a.tmps) = true ∧ ∀ w, C w → (execOp a.eval o).run P w = .ok (.value v) w ∨ ∃ f args, (execOp a.eval o).run P w = .ok (.enter f args) w ∧ Calls P f args w (fun e w'' => e = .returned v ∧ Below w.heap.size w w'')) ∨
  (Region.wanted o (yielded ops a.tmps) = false ∧ v = undef)
end
end Go.Proofs.YtkekaifiahjljaaGreatDoor.Kg
