import Derived.Test.YtlkengnefhhppaaGreatDoorPKf
import Derived.Deep.RegionHeld3
import Derived.Test.YtlkengnefhhppaaGreatDoorUPQ11
set_option linter.unusedVariables false
set_option maxHeartbeats 8000000
set_option maxRecDepth 20000
namespace Go.Proofs.YtlkengnefhhppaaGreatDoor.Kg
open Go.RowKit
section
variable {P : Program} {ops : Array Oper} {md : Region.Mode} {C : World → Prop} {Q : Exit → Act → World → Prop}
def doneB (n F : Nat) (listed : Array Bool) : Bool := (List.range n).all fun i => i == F || listed.getD i false
theorem doneB_of {n F : Nat} {listed : Array Bool} (h : doneB n F listed = true) {i : Nat} (hi : i < n) (hF : i ≠ F) : listed.getD i false = true := by
 have := List.all_eq_true.1 h i (List.mem_range.2 hi)
 simpa [hF] using this
theorem doneB_no {n F : Nat} {listed : Array Bool} {i : Nat} (hi : i < n) (hF : i ≠ F) (h : listed.getD i false = false) : doneB n F listed = false := by
 cases e : doneB n F listed
 ·rfl
 ·rw [doneB_of e hi hF] at h; cases h
theorem doneB_ex {n F : Nat} {listed : Array Bool} (h : doneB n F listed = false) : ∃ i, i < n ∧ i ≠ F ∧ listed.getD i false = false := by
 unfold doneB at h
 obtain ⟨i, hi, h2⟩ := List.all_eq_false.1 h
 simp only [Bool.not_eq_true, Bool.or_eq_false_iff, beq_eq_false_iff_ne] at h2
 exact ⟨i, List.mem_range.1 hi, h2.1, h2.2⟩
def Lf (P : Program) (md : Region.Mode) (ops : Array Oper) (C : World → Prop) (Q : Exit → Act → World → Prop) (tl F : Nat) (oF : Oper) (m : Nat) (listed : Array Bool) (a : Act) : Prop :=
 (listed.getD F false = true ∧ m = tl ∧ ∀ w, C w → wpAny P md ops Q tl listed a w) ∨
 (listed.getD F true = false ∧ m = tl + 1 ∧ F ∈ Region.ready md ops listed ∧ (∀ j oj, ops[j]? = some oj → j ≠ F → listed.getD j true = false → (∀ e ∈ oj.after, Region.binds md e = true → e.on ≠ F) → oF.apart ops oj = true) ∧
  ∃ u, Yields P ops oF u a ∧ ∀ w, C w → wpAny P md ops Q tl (listed.setIfInBounds F true) (a.put oF.dst u) w)
def wpF (P : Program) (md : Region.Mode) (ops : Array Oper) (C : World → Prop) (Q : Exit → Act → World → Prop) (n tl F : Nat) (oF : Oper) : Nat → Nat → Array Bool → Act → Prop
 | 0, _, _, _ => False
 | f + 1, m, listed, a => (doneB n F listed = true ∧ Lf P md ops C Q tl F oF m listed a) ∨
  (doneB n F listed = false ∧ ∃ m', m = m' + 1 ∧ Region.ready md ops listed ≠ [] ∧ ∀ i ∈ Region.ready md ops listed, i < n ∧ qOp P ops C i (wpF P md ops C Q n tl F oF f m' (listed.setIfInBounds i true)) a)
variable {n tl F : Nat} {oF : Oper}
theorem wpF_mono : ∀ {f m : Nat} {listed : Array Bool} {a : Act}, wpF P md ops C Q n tl F oF f m listed a → wpF P md ops C Q n tl F oF (f + 1) m listed a
 | 0, _, _, _, h => h.elim
 | f + 1, m, listed, a, h => by
  rcases h with h | ⟨h0, m', rfl, h1, h2⟩
  ·exact .inl h
  ·exact .inr ⟨h0, m', rfl, h1, fun i hi => ⟨(h2 i hi).1, qOp_mono (fun a' h' => wpF_mono h') (h2 i hi).2⟩⟩
theorem wpF_any (hoF : ops[F]? = some oF) (hsel : ∀ (j : Nat) (o : Oper) cs b, ops[j]? = some o → o.op ≠ .select cs b) (hQ : ∀ c a d v w, Q (.panic c) (a.put d v) w → Q (.panic c) a w) : ∀ {f m : Nat} {listed : Array Bool} {a : Act} {w : World}, C w → wpF P md ops C Q n tl F oF f m listed a → wpAny P md ops Q m listed a w
 | 0, _, _, _, _, _, h => h.elim
 | f + 1, m, listed, a, w, hC, h => by
  rcases h with ⟨_, h⟩ | ⟨h0, m', rfl, h1, h2⟩
  ·rcases h with ⟨_, rfl, h⟩ | ⟨_, rfl, hr, hf, u, hy, h⟩
   ·exact h w hC
   ·exact wpAny_first hoF hsel (fun c a w => hQ c a _ _ w) tl listed a w hf hr hy (h w hC)
  ·exact ⟨fun h9 => absurd h9 h1, fun i hi => wpOp_of_qOp hC (fun a' w' hw' h' => wpF_any hoF hsel hQ hw' h') (h2 i hi).2⟩
def sunkB (md : Region.Mode) (ops : Array Oper) (n F : Nat) : Bool :=
 (List.range n).all fun i => i == F || (List.range (n + 1)).any fun j => decide (i < j) && j != F && Region.waitsFor md ops j i
theorem sunk_waits {listed : Array Bool} (hF : F < n) (hn : n < ops.size) (hs : sunkB md ops n F = true) (hc : Region.chainB md ops n = true) (inv : HeadInv md ops n listed) {i : Nat} (hi : i < n) (hiF : i ≠ F) (hun : listed.getD i false = false) {t : Nat} (ht : n ≤ t) : t ∉ Region.ready md ops listed := by
 intro hr
 obtain ⟨_, ot, hot, hall⟩ := mem_ready.1 hr
 have htl : t < ops.size := (Array.getElem?_eq_some_iff.1 hot).1
 rcases Nat.lt_or_ge n t with h | h
 ·have h1 := List.all_eq_true.1 hc t (List.mem_range.2 htl)
  simp only [Bool.or_eq_true, decide_eq_true_eq] at h1
  rcases h1 with h1 | h1
  ·omega
  ·obtain ⟨o', ho', e, he, hb, hon⟩ := Region.waitsFor_spec h1
   cases Option.some.inj (ho'.symm.trans hot)
   have h2 := hall e he hb
   rw [hon, getD_both (inv.tail (t - 1) (by omega) (by omega))] at h2
   cases h2
 ·obtain rfl : t = n := by omega
  have key : ∀ d i, t - i = d → i < t → i ≠ F → listed.getD i false = false → False := by
   intro d
   induction d using Nat.strongRecOn with
   | _ d ih =>
    intro i hd hi hiF hun
    have h1 := List.all_eq_true.1 hs i (List.mem_range.2 hi)
    simp only [Bool.or_eq_true, beq_iff_eq, hiF, false_or] at h1
    obtain ⟨j, hj, hj2⟩ := List.any_eq_true.1 h1
    simp only [Bool.and_eq_true, decide_eq_true_eq, bne_iff_ne] at hj2
    have hjt := List.mem_range.1 hj
    obtain ⟨oj, hoj, e, he, hb, hon⟩ := Region.waitsFor_spec hj2.2
    rcases Nat.lt_or_ge j t with h | h
    ·cases hlj : listed.getD j false with
     | true =>
      have h2 := inv.closed j oj hoj hlj e he hb
      rw [hon, hun] at h2
      cases h2
     | false => exact ih (t - j) (by omega) j rfl h hj2.1.2 hlj
    ·obtain rfl : j = t := by omega
     cases Option.some.inj (hoj.symm.trans hot)
     have h2 := hall e he hb
     rw [hon, hun] at h2
     cases h2
  exact key _ i rfl hi hiF hun
theorem Yields.in {o : Oper} {u : Value} {a : Act} (h : Yields P ops o u a) : YieldsIn P ops C o u a := by
 rcases h with ⟨hw, hv⟩ | ⟨hw, rfl⟩
 ·exact .inl ⟨hw, fun w _ => by unfold Oper.quietAt; rw [hv w]; exact ⟨rfl, rfl⟩⟩
 ·exact .inr ⟨hw, rfl⟩
theorem set_false {listed : Array Bool} {i j : Nat} (h : (listed.setIfInBounds i true).getD j false = false) : listed.getD j false = false := by
 cases e : listed.getD j false
 ·rfl
 ·rw [getD_set_true e] at h; cases h
theorem set_self {listed : Array Bool} {i : Nat} (hi : i < listed.size) : (listed.setIfInBounds i true).getD i false = true := by
 simp [Array.getD_eq_getD_getElem?, hi]
theorem peel_sunk (hoF : ops[F]? = some oF) (hF : F < n) (hn : n < ops.size) (hs : sunkB md ops n F = true) (hc : Region.chainB md ops n = true) {i : Nat} {oi : Oper} {v : Value} (hi : ops[i]? = some oi) (hsel : ∀ (j : Nat) (o : Oper) cs b, ops[j]? = some o → o.op ≠ .select cs b) (hin : i < n) (hiF : i ≠ F) :
  ∀ (f m : Nat) (listed : Array Bool) (a : Act), HeadInv md ops n listed →
   (∀ j oj, ops[j]? = some oj → j ≠ i → listed.getD j true = false → (∀ e ∈ oj.after, Region.binds md e = true → e.on ≠ i) → oi.apart ops oj = true) →
   i ∈ Region.ready md ops listed → YieldsIn P ops C oi v a →
   wpF P md ops C Q n tl F oF f m (listed.setIfInBounds i true) (a.put oi.dst v) → wpF P md ops C Q n tl F oF (f + 2) (m + 1) listed a
 | 0, _, _, _, _, _, _, _, H => H.elim
 | f + 1, m, listed, a, inv, hfree, hr, hy, H => by
  have hun := (mem_ready.1 hr).1
  have hunf : listed.getD i false = false := getD_both hun
  have hne : Region.ready md ops listed ≠ [] := fun h => by rw [h] at hr; cases hr
  refine .inr ⟨doneB_no hin hiF hunf, m, rfl, hne, fun j hj => ?_⟩
  have hjn : j < n := Nat.lt_of_not_le fun h => sunk_waits hF hn hs hc inv hin hiF hunf h hj
  refine ⟨hjn, ?_⟩
  by_cases hji : j = i
  ·subst hji; exact hy.qOp hi (wpF_mono H)
  ·obtain ⟨hjun, oj, hoj, hall⟩ := mem_ready.1 hj
   have hnot : ∀ e ∈ oj.after, Region.binds md e = true → e.on ≠ i := fun e he hb heq => by
    have h1 := hall e he hb
    rw [heq, hunf] at h1
    cases h1
   have hap := hfree j oj hoj hji hjun hnot
   rcases H with ⟨hd, hL⟩ | ⟨hd, m', rfl, h1, h2⟩
   ·have hjF : j = F := by
     by_cases e : j = F
     ·exact e
     ·have := doneB_of hd hjn e
      rw [getD_set_ne false (Ne.symm hji), getD_both hjun] at this
      cases this
    subst hjF
    have e9 : oj = oF := Option.some.inj (hoj.symm.trans hoF)
    subst e9
    rcases hL with ⟨hl, _, _⟩ | ⟨_, rfl, hr2, hf2, u, hyF, hR⟩
    ·rw [getD_set_ne false (Ne.symm hji), getD_both hjun] at hl
     cases hl
    ·obtain ⟨p1, p2, p3⟩ := Oper.apart_spec hap
     have hyF0 : Yields P ops oj u a := hyF.of_same (execOp_put oj (fun cs b => hsel j oj cs b hoj) a oi.dst v p1).symm (wanted_put oj a oi.dst v p1).symm
     refine (Yields.in hyF0).qOp hoj ?_
     have hyi : YieldsIn P ops C oi v (a.put oj.dst u) := hy.of_same (execOp_put oi (fun cs b => hsel i oi cs b hi) a oj.dst u p3) (wanted_put oi a oj.dst u p3)
     have inv2 := inv.set hj hjn
     have hunj : (listed.setIfInBounds j true).getD i false = false := by rw [getD_set_ne false hji]; exact hunf
     have hr3 := ready_mono (i := j) hr (Ne.symm hji)
     refine .inr ⟨doneB_no hin hiF hunj, tl, rfl, fun h => (by rw [h] at hr3; cases hr3), fun k hk => ?_⟩
     have hkn : k < n := Nat.lt_of_not_le fun h => sunk_waits hF hn hs hc inv2 hin hiF hunj h hk
     have hkun := getD_both (mem_ready.1 hk).1
     have hki : k = i := by
      by_cases e : k = i
      ·exact e
      ·have hk1 := set_false hkun
       have hkj : k ≠ j := fun e2 => by
        subst e2
        rw [set_self (by rw [inv.size]; omega)] at hkun
        cases hkun
       have := doneB_of hd hkn hkj
       rw [getD_set_ne false (Ne.symm e), hk1] at this
       cases this
     subst hki
     refine ⟨hkn, hyi.qOp hi (.inl ⟨?_, .inl ⟨?_, rfl, fun w hw => ?_⟩⟩)⟩
     ·refine List.all_eq_true.2 fun x hx => ?_
      by_cases ex : x = j
      ·simp [ex]
      ·have := doneB_of hd (List.mem_range.1 hx) ex
       rw [Array.setIfInBounds_comm _ _ hji, getD_set_ne false (fun e => ex e.symm), this]
       simp
     ·rw [getD_set_ne false (Ne.symm hji)]
      exact set_self (by rw [inv.size]; omega)
     ·rw [Array.setIfInBounds_comm _ _ hji, ← Act.put_comm a v u p2]
      exact hR w hw
   ·refine qOp_mono (fun a' h3 => peel_sunk hoF hF hn hs hc hi hsel hin hiF f m' (listed.setIfInBounds j true) a' (inv.set hj hjn) (fun k ok hk hki hun' hno => ?_) (ready_mono hr (Ne.symm hji)) h3.1 ?_)
     (qOp_put hoj hap (fun cs b => hsel i oi cs b hi) (fun cs b => hsel j oj cs b hoj) hy (h2 j (ready_mono hj hji)).2)
    ·refine hfree k ok hk hki ?_ hno
     by_cases hjk : j = k
     ·subst hjk; exact hjun
     ·rwa [getD_set_ne true hjk] at hun'
    ·rw [Array.setIfInBounds_comm _ _ hji]
     exact h3.2
theorem qOp_putY {j : Nat} {oi oj : Oper} {v : Value} (hj : ops[j]? = some oj) (hap : oi.apart ops oj = true)
  (hsi : ∀ cs b, oi.op ≠ .select cs b) (hsj : ∀ cs b, oj.op ≠ .select cs b) {K : Act → Prop} {a : Act}
  (hy : Yields P ops oi v a) (h : qOp P ops C j K (a.put oi.dst v)) :
  qOp P ops C j (fun a' => Yields P ops oi v a' ∧ K (a'.put oi.dst v)) a := by
 obtain ⟨h1, h2, h3⟩ := Oper.apart_spec hap
 obtain ⟨u, hu, hK⟩ := yieldsIn_of_qOp hj h
 have hu0 : YieldsIn P ops C oj u a := hu.of_same (execOp_put oj hsj a oi.dst v h1).symm (wanted_put oj a oi.dst v h1).symm
 refine hu0.qOp hj ⟨hy.of_same (execOp_put oi hsi a oj.dst u h3) (wanted_put oi a oj.dst u h3), ?_⟩
 rw [← Act.put_comm a v u h2]
 exact hK
theorem peel_pure (hoF : ops[F]? = some oF) (hF : F < n) (hn : n < ops.size) (hs : sunkB md ops n F = true) (hc : Region.chainB md ops n = true) {u : Value} (hsel : ∀ (j : Nat) (o : Oper) cs b, ops[j]? = some o → o.op ≠ .select cs b) :
  ∀ (f m : Nat) (listed : Array Bool) (a : Act), HeadInv md ops n listed →
   (∀ j oj, ops[j]? = some oj → j ≠ F → listed.getD j true = false → (∀ e ∈ oj.after, Region.binds md e = true → e.on ≠ F) → oF.apart ops oj = true) →
   F ∈ Region.ready md ops listed → Yields P ops oF u a →
   wpF P md ops C Q n tl F oF f m (listed.setIfInBounds F true) (a.put oF.dst u) → wpF P md ops C Q n tl F oF (f + 2) (m + 1) listed a
 | 0, _, _, _, _, _, _, _, H => H.elim
 | f + 1, m, listed, a, inv, hfree, hr, hy, H => by
  have hun := (mem_ready.1 hr).1
  have hself : (listed.setIfInBounds F true).getD F false = true := set_self (by rw [inv.size]; omega)
  by_cases hd : doneB n F listed = true
  ·rcases H with ⟨_, hL⟩ | ⟨hd2, _⟩
   ·rcases hL with ⟨_, rfl, hR⟩ | ⟨hl, _⟩
    ·exact .inl ⟨hd, .inr ⟨hun, rfl, hr, hfree, u, hy, hR⟩⟩
    ·rw [getD_both hl] at hself; cases hself
   ·obtain ⟨i, h1, h2, h3⟩ := doneB_ex hd2
    rw [getD_set_true (doneB_of hd h1 h2)] at h3
    cases h3
  ·have hd0 : doneB n F listed = false := by simpa using hd
   obtain ⟨i0, q1, q2, q3⟩ := doneB_ex hd0
   rcases H with ⟨hd2, _⟩ | ⟨hd2, m', rfl, h1, h2⟩
   ·have := doneB_of hd2 q1 q2
    rw [getD_set_ne false (Ne.symm q2), q3] at this
    cases this
   ·refine .inr ⟨hd0, m' + 1, rfl, fun h => (by rw [h] at hr; cases hr), fun j hj => ?_⟩
    have hjn : j < n := Nat.lt_of_not_le fun h => sunk_waits hF hn hs hc inv q1 q2 q3 h hj
    refine ⟨hjn, ?_⟩
    by_cases hji : j = F
    ·subst hji; exact (Yields.in hy).qOp hoF (wpF_mono (.inr ⟨hd2, m', rfl, h1, h2⟩))
    ·obtain ⟨hjun, oj, hoj, hall⟩ := mem_ready.1 hj
     have hnot : ∀ e ∈ oj.after, Region.binds md e = true → e.on ≠ F := fun e he hb heq => by
      have h1 := hall e he hb
      rw [heq, getD_both hun] at h1
      cases h1
     refine qOp_mono (fun a' h3 => peel_pure hoF hF hn hs hc hsel f m' (listed.setIfInBounds j true) a' (inv.set hj hjn) (fun k ok hk hki hun' hno => ?_) (ready_mono hr (Ne.symm hji)) h3.1 ?_)
      (qOp_putY hoj (hfree j oj hoj hji hjun hnot) (fun cs b => hsel F oF cs b hoF) (fun cs b => hsel j oj cs b hoj) hy (h2 j (ready_mono hj hji)).2)
     ·refine hfree k ok hk hki ?_ hno
      by_cases hjk : j = k
      ·subst hjk; exact hjun
      ·rwa [getD_set_ne true hjk] at hun'
     ·rw [Array.setIfInBounds_comm _ _ hji]
      exact h3.2
def lexEB (md : Region.Mode) (ops : Array Oper) (E : Array Bool → Bool) : Nat → Nat → Array Bool → Bool
 | 0, k, listed => E listed
 | f + 1, k, listed => (Region.ready md ops listed).contains k && Region.free md ops listed k && lexEB md ops E f (k + 1) (listed.setIfInBounds k true)
theorem lex_float {Lq : Act → Prop} {m : Nat} (E : Array Bool → Bool) (hoF : ops[F]? = some oF) (hF : F < n) (hn : n < ops.size) (hs : sunkB md ops n F = true) (hc : Region.chainB md ops n = true) (hsel : Region.noSelect ops = true) (hend : ∀ listed a, HeadInv md ops n listed → E listed = true → Lq a → ∃ f, wpF P md ops C Q n tl F oF f m listed a) :
  ∀ (l : List Oper) (k : Nat) (listed : Array Bool) (a : Act), (∀ j, j < l.length → l[j]? = ops[k + j]?) → k + l.length ≤ n → (F < k ∨ k + l.length ≤ F) → HeadInv md ops n listed → lexEB md ops E l.length k listed = true → wpQuiet P ops C Lq l a →
  ∃ f, wpF P md ops C Q n tl F oF f (l.length + m) listed a
 | [], k, listed, a, _, _, _, inv, hB, h => by
  simp only [List.length_nil, lexEB] at hB
  simpa using hend listed a inv hB h
 | o :: l, k, listed, a, hll, hk, hkF, inv, hB, h => by
  have h0 : ops[k]? = some o := by simpa using (hll 0 (by simp)).symm
  simp only [List.length_cons, lexEB, Bool.and_eq_true] at hB
  simp only [List.length_cons] at hk hkF
  obtain ⟨⟨hr, hf⟩, hB'⟩ := hB
  have hkn : k < n := by omega
  have hr' : k ∈ Region.ready md ops listed := by simpa using hr
  have hst : qOp P ops C k (wpQuiet P ops C Lq l) a := by unfold qOp; simp only [h0]; exact h
  obtain ⟨v, hy, hK⟩ := yieldsIn_of_qOp h0 hst
  obtain ⟨f, H⟩ := lex_float E hoF hF hn hs hc hsel hend l (k + 1) _ _ (fun j hj => by have := hll (j + 1) (by simp; omega); simpa [Nat.add_assoc, Nat.add_comm 1 j] using this) (by omega) (by omega) (inv.set hr' hkn) hB' hK
  refine ⟨f + 2, ?_⟩
  rw [show (o :: l).length + m = l.length + m + 1 by simp; omega]
  exact peel_sunk hoF hF hn hs hc h0 (Region.noSelect_spec hsel) hkn (by omega) f _ listed a inv (Region.free_spec h0 hf) hr' hy H
end
def lateE (l : List Oper) (n F : Nat) (listed : Array Bool) : Bool := Region.seqB .any l.toArray (l.length - n) n listed && doneB n F listed && listed.getD F false
def midE (l : List Oper) (n F : Nat) (listed : Array Bool) : Bool := (Region.ready .any l.toArray listed).contains F && Region.free .any l.toArray listed F && lexEB .any l.toArray (lateE l n F) (n - F - 1) (F + 1) (listed.setIfInBounds F true)
def floatB (l : List Oper) (n F : Nat) : Bool :=
 Region.noSelect l.toArray && decide (n < l.length) && decide (F < n) && sunkB .any l.toArray n F && Region.chainB .any l.toArray n && lexEB .any l.toArray (midE l n F) F 0 (Array.replicate l.toArray.size false)
theorem float_tail {P : Program} {id : Nat} {Q : Exit → Act → World → Prop} {a : Act} {w : World} {l : List Oper} (n F : Nat) (oF : Oper) (hoF : l.toArray[F]? = some oF) (hm : P.follows .mixedOrders = true) (hB : floatB l n F = true)
  (h : wpQuiet P l.toArray (fun w' => ∃ p : Bel w, w' = p.v) (fun a1 => ∃ u, Yields P l.toArray oF u a1 ∧ wpQuiet P l.toArray (fun w' => ∃ p : Bel w, w' = p.v) (fun a' => ∀ w', (∃ p : Bel w, w' = p.v) → wpList P l.toArray (NoPanic Q) (l.drop n) a' w') ((l.take n).drop (F + 1)) (a1.put oF.dst u)) (l.take F) a) : (Code.region id l.toArray true).wp P Q a w := by
 simp only [floatB, Bool.and_eq_true, decide_eq_true_eq] at hB
 obtain ⟨⟨⟨⟨⟨hsel, hn⟩, hF⟩, hs⟩, hc⟩, hlex⟩ := hB
 have htl : (l.take F).length = F := by simp; omega
 have hml : ((l.take n).drop (F + 1)).length = n - F - 1 := by simp; omega
 have hdl : (l.drop n).length = l.length - n := by simp
 have inv0 : HeadInv .any l.toArray n (Array.replicate l.toArray.size false) :=
  ⟨by simp, fun j oj _ hl => (by rw [getD_replicate_false] at hl; cases hl), fun t _ ht => getD_in (by simpa using ht) (getD_replicate_false _ _)⟩
 have hC0 : ∃ p : Bel w, w.drew = p.v := ⟨⟨w.drewN 1, below_drewN (Below.refl _ _) 1⟩, rfl⟩
 have hn' : n < l.toArray.size := by simpa using hn
 have step1 : ∀ listed a', HeadInv .any l.toArray n listed → lateE l n F listed = true → (∀ w', (∃ p : Bel w, w' = p.v) → wpList P l.toArray (NoPanic Q) (l.drop n) a' w') → ∃ f, wpF P .any l.toArray (fun w' => ∃ p : Bel w, w' = p.v) (NoPanic Q) n (l.length - n) F oF f (l.length - n) listed a' := fun listed a' _ hE hq => by
  simp only [lateE, Bool.and_eq_true] at hE
  refine ⟨1, .inl ⟨hE.1.2, .inl ⟨hE.2, rfl, fun w' hw' => ?_⟩⟩⟩
  have := wpAny_of_seq (md := .any) (Q' := NoPanic Q) (l.drop n) n listed a' w' (fun j => by simp [List.getElem?_drop]) (by rw [hdl]; exact hE.1.1) (hq w' hw')
  rwa [hdl] at this
 have step2 := fun listed a' inv hE hq => lex_float (Q := NoPanic Q) (lateE l n F) hoF hF hn' hs hc hsel step1 ((l.take n).drop (F + 1)) (F + 1) listed a' (fun j hj => by
  rw [hml] at hj
  rw [List.getElem?_drop, List.getElem?_take_of_lt (by omega)]
  simp) (by rw [hml]; omega) (.inl (by omega)) inv hE hq
 obtain ⟨f, H⟩ := lex_float (Q := NoPanic Q) (C := fun w' => ∃ p : Bel w, w' = p.v) (md := .any) (tl := l.length - n) (m := (n - F - 1) + (l.length - n) + 1) (midE l n F) hoF hF hn' hs hc hsel (fun listed a1 inv hE hq => by
  obtain ⟨u, hy, hq⟩ := hq
  simp only [midE, Bool.and_eq_true] at hE
  have hr' : F ∈ Region.ready .any l.toArray listed := by simpa using hE.1.1
  obtain ⟨f, H⟩ := step2 _ _ (inv.set hr' hF) (by rw [hml]; exact hE.2) hq
  rw [hml] at H
  exact ⟨f + 2, peel_pure hoF hF hn' hs hc (Region.noSelect_spec hsel) f _ listed a1 inv (Region.free_spec hoF hE.1.2) hr' hy H⟩) (l.take F) 0 _ a (fun j hj => by
   have hj' : j < F := by rw [htl] at hj; exact hj
   simp [hj']) (by rw [htl]; omega) (.inr (by rw [htl]; omega)) inv0 (by rw [htl]; exact hlex) h
 refine wp_region_noPanic (wp_region_any hm ?_)
 have := wpF_any hoF (Region.noSelect_spec hsel) (fun c a d v w h => (h : False).elim) (w := w.drew) hC0 H
 rw [htl, show F + ((n - F - 1) + (l.length - n) + 1) = l.toArray.size by simp; omega] at this
 exact this
end Go.Proofs.YtlkengnefhhppaaGreatDoor.Kg
namespace Go.Proofs.YtlkengnefhhppaaGreatDoor
open Go.RowKit Go.Shelf
section
variable {w1 w w' : World} {n1 pb lb sb b g mb n n' : Nat} {lv lv' : Value} {c : Cfg} {L : List LT} {x x' : Tps} {sw sw' : Bool} {ws ws' : Nat → Int} {th th' : List Tng} {l l' : List Int} {vb rb bb m : Nat} {rg : Nat → Nat} {rl rl' : Value}
theorem step6_places (S : Ps w1 n1 w pb lb sb b g mb vb rb rg bb c L m n) (hn : n ≤ 288230376151711744) (hm : m < 200000000) (oA oB oC : Int) (oM : Value) (oL : List Int) (hok : (⟨4, oA, oB, oC, oM, oL⟩ : Op6).Ok n1 w) :
  Calls Tryz.prog 6 #[.pointer (some ⟨pb, 0, none⟩), .agg (ocl 4 oA oB oC oM)] w fun e w' => e = .returned (.bool true) ∧ ∃ m', m' ≤ m + 3 ∧ Ps w1 n1 w' pb lb sb b g mb vb rb rg bb c L m' (n + 4194304) := by
 obtain ⟨lv, rl, x, sw, ws, th, l, P⟩ := S
 have b0 : Below w.heap.size w (w.alloc (.cells (ocl 4 oA oB oC oM) 34)) := Below.alloc (Below.refl _ _) (Nat.le_refl _) _
 have hX := heap_alloc_new w (.cells (ocl 4 oA oB oC oM) 34 (0, 0))
 have HP : Hid (Px w1 (w.alloc (.cells (ocl 4 oA oB oC oM) 34)) n1 bb m (aF pb sb b g mb lv vb rb rg rl) (fun w => Pm w1 n1 w pb lb sb b g mb lv vb rb rg rl bb c L x sw ws th l n (1000 * (m : Int))) [none]) := P.below b0
 have HF : Hid (∀ q, q ∈ aF pb sb b g mb lv vb rb rg rl → q < w.heap.size) := P.s.lt _ P.p
 obtain ⟨⟨ca, cm⟩, rfl⟩ : ∃ z : Option Addr × Nat, oM = .slice z.1 oL.length z.2 := by obtain ⟨a, cap, h, -⟩ := hok.mo; exact ⟨⟨a, cap⟩, h⟩
 have Hok : Hid ((⟨4, oA, oB, oC, .slice ca oL.length cm, oL⟩ : Op6).Ok n1 (w.alloc (.cells (ocl 4 oA oB oC (.slice ca oL.length cm)) 34))) := hok.below (b0.mono P.hb)
 clear P b0 hok
 go_enter Tryz.func6, Tryz.ntmps6
 go_upto_region 1 with fail
 generalize w.alloc (.cells (ocl 4 oA oB oC (.slice ca oL.length cm)) 34) = v at *
 obtain ⟨X, hXe⟩ : ∃ X, X = w.heap.size := ⟨_, rfl⟩
 rw [← hXe] at hX HF ⊢
 clear hXe
 have x0 : v.cell? ⟨X, 0, none⟩ = some (.int .i64 4) := cell_of_row _ _ 0 _ _ _ hX
 have x1 : v.cell? ⟨X, 1, none⟩ = some (.int .i64 oA) := cell_of_row _ _ 1 _ _ _ hX
 have x2 : v.cell? ⟨X, 2, none⟩ = some (.int .i64 oB) := cell_of_row _ _ 2 _ _ _ hX
 have x3 : v.cell? ⟨X, 3, none⟩ = some (.int .i64 oC) := cell_of_row _ _ 3 _ _ _ hX
 have x4 : v.cell? ⟨X, 4, none⟩ = some (.slice ca oL.length cm) := cell_of_row _ _ 4 _ _ _ hX
 have hXl : X < v.heap.size := (Array.getElem?_eq_some_iff.1 hX).1
 have hml : oL.length ≤ 1048576 := Hok.out.ml
 go_upto_region 9 with fail
 haveI hinh : Inhabited (Kg.Bel v) := ⟨⟨v, Below.refl _ _⟩⟩
 have hpl : pb < v.heap.size := HP.out.p.lt
 have z0 : ∀ p : Kg.Bel v, p.v.cell? ⟨pb, 0, none⟩ = some (.pointer (some ⟨lb, 0, none⟩)) := fun p => (p.h.cell (p := ⟨pb, 0, none⟩) hpl).trans (HP.out.p.cell 0)
 have y4 : ∀ p : Kg.Bel v, p.v.cell? ⟨X, 4, none⟩ = some (.slice ca oL.length cm) := fun p => (p.h.cell (p := ⟨X, 4, none⟩) hXl).trans x4
 refine Kg.float_tail 7 0 { dst := some 53, op := Op.move (Operand.tmp 0), type := 29, pos := "exact.go:195", after := #[], guard := none } rfl Kg.mixed (by kernel_rfl) ?_
 simp only [List.take_succ_cons, List.take_zero, List.drop_succ_cons, List.drop_zero, Nat.reduceAdd]
 refine wpQuiet_nil ⟨.pointer (some ⟨pb, 0, none⟩), .inl ⟨rfl, fun w => ?_⟩, ?_⟩
 ·simp [execOp, go_sem]
 simp only [Act.put, List.setIfInBounds_toArray, List.set_cons_succ, List.set_cons_zero]
 repeat (go_big_quiet_step (fail))
 refine wpQuiet_nil ?_
 rintro v4 ⟨⟨_, b4⟩, rfl⟩
 have HPd : Hid (Px w1 v4 n1 bb m (aF pb sb b g mb lv vb rb rg rl) (fun w => Pm w1 n1 w pb lb sb b g mb lv vb rb rg rl bb c L x sw ws th l n (1000 * (m : Int))) [none]) := HP.out.below b4
 have hpp := places_any HPd.out.p.ly HPd.out.p.bo.rm.hsz HPd.out.p.lok.len (.slice ca oL.length cm) oL ((Hok.out.mo.below (b4.mono HP.out.p.bo.rm.hsz)).mono HPd.out.p.bo.rm.hsz) Hok.out.mi (by omega)
 have Hlt : Hid (∀ q, q ∈ aF pb sb b g mb lv vb rb rg rl → q < v4.heap.size) := fun q hq => Nat.lt_of_lt_of_le (HF.out q hq) (Nat.le_trans (Nat.le_of_lt hXl) b4.size)
 obtain ⟨pl, hpl2⟩ : ∃ pl, pl = oL.map (plc L) := ⟨_, rfl⟩
 have Hpi : Hid (∀ a, a ∈ pl → InI a) := fun a ha => by
  rw [hpl2] at ha
  obtain ⟨z, -, rfl⟩ := List.mem_map.1 ha
  have := plc_in_p2 HPd.out.p z
  unfold InI
  omega
 have hpll : pl.length ≤ 1048576 := by rw [hpl2]; simpa using hml
 rw [← hpl2] at hpp
 clear z0 y4 hinh b4 x0 x1 x2 x3 x4 hpl2
 go_wp2_with fail
 refine hpp.mono ?_
 rintro e w4 ⟨v', rfl, hrow, l4⟩
 have hst := prune6_px (HPd.out.below l4) (row_frd hrow Hlt.out) Hpi.out hpll hn
 obtain ⟨a9, c9, rfl⟩ := own_sl hrow
 clear hpp
 go_wp2_with fail
 refine hst.mono ?_
 rintro e w5 ⟨rfl, S5⟩
 have SE : Hid (Ps w1 n1 w5 pb lb sb b g mb vb rb rg bb c L m (n + 4194304)) := S5
 clear hst S5
 go_wp2_with fail
 refine NoPanic.normal ?_
 go_wp2
 go_ret
 exact ⟨rfl, m, by omega, SE.out⟩
end
end Go.Proofs.YtlkengnefhhppaaGreatDoor
