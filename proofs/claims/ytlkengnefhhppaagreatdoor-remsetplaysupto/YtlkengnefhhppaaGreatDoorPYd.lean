import Derived.Test.YtlkengnefhhppaaGreatDoorPYb
import Derived.Test.YtlkengnefhhppaaGreatDoorPYc
import Derived.Test.YtlkengnefhhppaaGreatDoorUY11
set_option linter.unusedVariables false
set_option maxHeartbeats 8000000
set_option maxRecDepth 20000
namespace Go.Proofs.YtlkengnefhhppaaGreatDoor
open Go.RowKit
section
variable {P : Program} {ops : Array Oper} {md : Region.Mode} {C : World → Prop}
def wpAnyQL (P : Program) (md : Region.Mode) (ops : Array Oper) (C : World → Prop) (n : Nat) (L : Array Bool → Act → Prop) : Nat → Array Bool → Act → Prop
 | 0, listed, a => L listed a
 | f + 1, listed, a =>
  Region.ready md ops listed ≠ [] ∧ ∀ i ∈ Region.ready md ops listed, i < n ∧ qOp P ops C i (wpAnyQL P md ops C n L f (listed.setIfInBounds i true)) a
theorem wpAny_of_headQ {n g : Nat} {L : Array Bool → Act → Prop} {Q' : Exit → Act → World → Prop} (hL : ∀ listed a w, C w → L listed a → wpAny P md ops Q' g listed a w) :
  ∀ (f : Nat) (listed : Array Bool) (a : Act) (w : World), C w → wpAnyQL P md ops C n L f listed a → wpAny P md ops Q' (f + g) listed a w
 | 0, listed, a, w, hw, h => by rw [Nat.zero_add]; exact hL _ _ _ hw h
 | f + 1, listed, a, w, hw, h => by
  rw [show f + 1 + g = (f + g) + 1 by omega]
  exact ⟨fun h0 => absurd h0 h.1, fun i hi => wpOp_of_qOp hw (fun a' w' hw' h' => wpAny_of_headQ hL f _ a' w' hw' h') (h.2 i hi).2⟩
theorem headQ_first {n i : Nat} {oi : Oper} {v : Value} {L : Array Bool → Act → Prop} (hi : ops[i]? = some oi) (hsel : ∀ (j : Nat) (o : Oper) cs b, ops[j]? = some o → o.op ≠ .select cs b)
  (hs : Region.sinkB md ops n = true) (hl : lateB md ops n = true) (hin : i < n) (hdone : ∀ listed a, L listed a → ∀ j ∈ Region.ready md ops listed, n ≤ j) :
  ∀ (f : Nat) (listed : Array Bool) (a : Act), HeadInv md ops n listed →
   (∀ j oj, ops[j]? = some oj → j ≠ i → listed.getD j true = false → (∀ e ∈ oj.after, Region.binds md e = true → e.on ≠ i) → oi.apart ops oj = true) →
   i ∈ Region.ready md ops listed → YieldsIn P ops C oi v a →
   wpAnyQL P md ops C n L f (listed.setIfInBounds i true) (a.put oi.dst v) → wpAnyQL P md ops C n L (f + 1) listed a
 | f, listed, a, inv, hfree, hr, hy, H => by
  have hun := (mem_ready.1 hr).1
  refine ⟨fun h => (by rw [h] at hr; cases hr), fun j hj => ?_⟩
  have hjn : j < n := Nat.lt_of_not_le fun h => late_waits hs hl inv hin hun h hj
  refine ⟨hjn, ?_⟩
  by_cases hji : j = i
  ·subst hji; exact hy.qOp hi H
  ·match f, H with
   | 0, H => have := hdone _ _ H j (ready_mono hj hji); omega
   | f + 1, H =>
    have h1 := (H.2 j (ready_mono hj hji)).2
    obtain ⟨hjun, oj, hoj, hall⟩ := mem_ready.1 hj
    have hnot : ∀ e ∈ oj.after, Region.binds md e = true → e.on ≠ i := fun e he hb heq => by
     have h1 := hall e he hb
     rw [heq, getD_both hun] at h1
     cases h1
    refine qOp_mono (fun a' h3 => headQ_first hi hsel hs hl hin hdone f (listed.setIfInBounds j true) a' (inv.set hj hjn) (fun k ok hk hki hun' hno => ?_) (ready_mono hr (Ne.symm hji)) h3.1 ?_)
     (qOp_put hoj (hfree j oj hoj hji hjun hnot) (fun cs b => hsel i oi cs b hi) (fun cs b => hsel j oj cs b hoj) hy h1)
    ·refine hfree k ok hk hki ?_ hno
     by_cases hjk : j = k
     ·subst hjk; exact hjun
     ·rwa [getD_set_ne true hjk] at hun'
    ·rw [Array.setIfInBounds_comm _ _ hji]
     exact h3.2
theorem headQ_lex {n : Nat} {Lq : Act → Prop} (hsel : Region.noSelect ops = true) (hs : Region.sinkB md ops n = true) (hl : lateB md ops n = true) :
  ∀ (l : List Oper) (k : Nat) (listed : Array Bool) (a : Act), (∀ j, j < l.length → l[j]? = ops[k + j]?) → k + l.length = n → HeadInv md ops n listed → partB md ops n l.length k listed = true → wpQuiet P ops C Lq l a →
  wpAnyQL P md ops C n (fun listed' a' => (Region.ready md ops listed' = [n] ∧ Region.lexFrom md ops (ops.size - (n + 1)) (n + 1) (listed'.setIfInBounds n true) = true) ∧ Lq a') l.length listed a
 | [], k, listed, a, _, _, _, hB, h => by
  simp only [List.length_nil, partB, Bool.and_eq_true, decide_eq_true_eq] at hB
  exact ⟨hB, h⟩
 | o :: l, k, listed, a, hll, hk, inv, hB, h => by
  have h0 : ops[k]? = some o := by simpa using (hll 0 (by simp)).symm
  simp only [List.length_cons, partB, Bool.and_eq_true] at hB
  obtain ⟨⟨hr, hf⟩, hB'⟩ := hB
  have hkn : k < n := by simp only [List.length_cons] at hk; omega
  have hr' : k ∈ Region.ready md ops listed := by simpa using hr
  have hst : qOp P ops C k (wpQuiet P ops C Lq l) a := by unfold qOp; simp only [h0]; exact h
  obtain ⟨v, hy, hK⟩ := yieldsIn_of_qOp h0 hst
  exact headQ_first h0 (Region.noSelect_spec hsel) hs hl hkn (fun listed' a' hL j hj => by rw [hL.1.1] at hj; simp at hj; omega) l.length listed a inv (Region.free_spec h0 hf) hr' hy
   (headQ_lex hsel hs hl l (k + 1) _ _ (fun j hj => by have := hll (j + 1) (by simp; omega); simpa [Nat.add_assoc, Nat.add_comm 1 j] using this) (by simp only [List.length_cons] at hk; omega) (inv.set hr' hkn) hB' hK)
end
theorem below_call {P : Program} {id : Nat} {Q : Exit → Act → World → Prop} {a : Act} {w : World} {l : List Oper} (n : Nat) (hm : P.follows .mixedOrders = true) (hB : callB .any l.toArray n = true)
  (h : wpQuiet P l.toArray (fun w' => ∃ p : Bel w, w' = p.v) (fun a' => ∀ w', (∃ p : Bel w, w' = p.v) → wpList P l.toArray (thenQuiet P l.toArray (l.drop (n + 1)) Q) ((l.drop n).take 1) a' w') (l.take n) a) : (Code.region id l.toArray true).wp P Q a w := by
 simp only [callB, Bool.and_eq_true, decide_eq_true_eq] at hB
 obtain ⟨⟨⟨⟨hsel, hn⟩, hs⟩, hl⟩, hp⟩ := hB
 have hn' : n < l.length := by simpa using hn
 have htl : (l.take n).length = n := by simp; omega
 obtain ⟨o, ho⟩ : ∃ o, l[n]? = some o := ⟨_, List.getElem?_eq_getElem hn'⟩
 have hd1 : (l.drop n).take 1 = [o] := by
  rw [List.drop_eq_getElem_cons hn', List.take_succ_cons, List.take_zero]
  rw [List.getElem?_eq_getElem hn'] at ho
  rw [Option.some.inj ho]
 have inv0 : HeadInv .any l.toArray n (Array.replicate l.toArray.size false) :=
  ⟨by simp, fun j oj _ hl => (by rw [getD_replicate_false] at hl; cases hl), fun t _ ht => getD_in (by simpa using ht) (getD_replicate_false _ _)⟩
 have H := headQ_lex (md := .any) hsel hs hl (l.take n) 0 _ a (fun j hj => by
  have hj' : j < n := by rw [htl] at hj; exact hj
  simp [hj']) (by simpa using htl) inv0 (by rw [htl]; exact hp) h
 refine wp_region_any hm ?_
 have hlen : (l.drop (n + 1)).length = l.toArray.size - (n + 1) := by simp
 have := wpAny_of_headQ (Q' := Q) (g := (l.toArray.size - (n + 1)) + 1) (fun listed a' w' hw' hL => by
  obtain ⟨⟨h1, h2⟩, h3⟩ := hL
  rw [hd1] at h3
  refine ⟨fun h0 => (by rw [h1] at h0; cases h0), fun i hi => ?_⟩
  rw [h1] at hi
  obtain rfl : i = n := by simpa using hi
  refine op_then (fun a2 w2 hq => ?_) (by simpa using ho) (h3 w' hw')
  have hq' : wpQuiet P l.toArray (fun w' => w' = w2) (fun a' => Q .normal a' w2) (l.drop (i + 1)) a2 := hq
  have := wpAnyQ_lex (md := .any) hsel (l.drop (i + 1)) (i + 1) (listed.setIfInBounds i true) a2 (fun j => by simp [List.getElem?_drop]) (by rw [hlen]; exact h2) hq'
  rw [hlen] at this
  exact wpAny_of_quiet (C := fun w' => w' = w2) (fun a3 w3 hw hq3 => by rw [hw]; exact hq3) _ _ _ _ rfl this) _ _ _ _ (⟨⟨w.drewN 1, below_drewN (Below.refl _ _) 1⟩, rfl⟩ : ∃ p : Bel w, w.drew = p.v) H
 rw [htl, show n + (l.toArray.size - (n + 1) + 1) = l.toArray.size by omega] at this
 exact this
end Go.Proofs.YtlkengnefhhppaaGreatDoor
namespace Go.Proofs.YtlkengnefhhppaaGreatDoor
open Go.RowKit Go.Shelf
structure Rq (w1 : World) (n1 : Nat) (w : World) (b : Nat) (g : Nat → Nat) (c : Cfg) (x : Tps) (ws : Nat → Int) (th : List Tng) : Prop where
 ra : Ra w b g c x false ws
 hp : Hp c x ws th
 be : Below n1 w1 w
 lb : n1 ≤ b
 lg : ∀ s, 1 ≤ s → s ≤ 4 → n1 ≤ g s
theorem rft_no {n1 b q : Nat} {g : Nat → Nat} (lb : n1 ≤ b) (lg : ∀ s, 1 ≤ s → s ≤ 4 → n1 ≤ g s) (hq : q < n1) : q ∉ rft b g := by
 have h1 := lg 1 (by omega) (by omega)
 have h2 := lg 2 (by omega) (by omega)
 have h3 := lg 3 (by omega) (by omega)
 have h4 := lg 4 (by omega) (by omega)
 simp only [rft, List.mem_cons, List.not_mem_nil, or_false]
 omega
section
variable {w1 : World} {n1 : Nat} {w w' : World} {b : Nat} {g : Nat → Nat} {c : Cfg} {x x' : Tps} {ws ws' : Nat → Int} {th th' : List Tng}
theorem Rq.below (H : Rq w1 n1 w b g c x ws th) (hn : n1 ≤ w1.heap.size) (l : Below w.heap.size w w') : Rq w1 n1 w' b g c x ws th :=
 ⟨H.ra.below l, H.hp, H.be.trans (l.mono (Nat.le_trans hn H.be.size)), H.lb, H.lg⟩
theorem Rq.next (H : Rq w1 n1 w b g c x ws th) (hn : n1 ≤ w1.heap.size) (t : Touch (rft b g) w w') (hA : Ra w' b g c x' false ws') (hH : Hp c x' ws' th') : Rq w1 n1 w' b g c x' ws' th' := by
 refine ⟨hA, hH, H.be.trans (t.below (Nat.le_trans hn H.be.size) (fun k hk => ?_)), H.lb, H.lg⟩
 rcases Nat.lt_or_ge k n1 with h | h
 ·exact absurd hk (rft_no H.lb H.lg h)
 ·exact h
theorem sub_in_hp (H : Hp c x ws th) (w : World) (s : Int) : 0 ≤ fst c s ∧ fst c s ≤ x.top s ∧ x.top s ≤ bhd c s ∧ bhd c s ≤ c.words := by
 obtain ⟨w, b, g, hA⟩ := H.ar w
 exact hA.sub_in s
theorem Lc.touchR {R : Nat} {T : LT} {sw : Bool} (h : Lc w R T) (hA : Ra w b g c x sw ws) (t : Touch (rft b g) w w') : Lc w' R T := ⟨(t.block R h.lt (by
 obtain ⟨cs, h0, -, -⟩ := hA.own
 obtain ⟨d1, h1, -, -⟩ := hA.row 1 (by omega) (by omega)
 obtain ⟨d2, h2, -, -⟩ := hA.row 2 (by omega) (by omega)
 obtain ⟨d3, h3, -, -⟩ := hA.row 3 (by omega) (by omega)
 obtain ⟨d4, h4, -, -⟩ := hA.row 4 (by omega) (by omega)
 simp only [rft, List.mem_cons, List.not_mem_nil, or_false, not_or]
 exact ⟨heap_ty_ne h.at_ h0 (by decide), heap_ty_ne h.at_ h1 (by decide), heap_ty_ne h.at_ h2 (by decide), heap_ty_ne h.at_ h3 (by decide), heap_ty_ne h.at_ h4 (by decide)⟩)).trans h.at_⟩
theorem plc_in_p {L : List LT} (S : Sk L th) (H : Hp c x ws th) (w : World) (z : Int) : 0 ≤ plc L z ∧ plc L z < c.words := by
 cases e : thr L z
 ·rw [plc_none e]
  obtain ⟨w, b, g, hA⟩ := H.ar w
  have := hA.words
  omega
 ·obtain ⟨o, ho⟩ := thr_iff.1 e
  obtain ⟨i, T, hi, -, hm⟩ := S.find ho
  have := H.pos w (List.mem_of_getElem? hi)
  rw [plc_some ho, ← hm.at_]
  omega
theorem Rq.fill (H : Rq w1 n1 w b g c x ws th) (S n : Int) (hS : 1 ≤ S ∧ S ≤ 4) (h0 : 0 < n) (hn : x.top S + n ≤ bhd c S) :
  Calls Tryz.prog 56 #[.pointer (some ⟨b, 0, none⟩), .int .i64 S, .int .i64 n] w fun e w' => e = .returned (.bool true) ∧ Touch (rft b g) w w' ∧ ∃ ws', ws' = upd (zer ws (x.top S).toNat n.toNat) (x.top S).toNat (n * 4 + 3) ∧ Ra w' b g c (x.put S (x.top S + n)) false ws' ∧ Hp c (x.put S (x.top S + n)) ws' th := by
 have hp := H.hp.fill w S n hS h0 hn
 have hsub := sub_in_hp H.hp w S
 obtain ⟨s0, rfl⟩ : ∃ s0 : Nat, S = s0 := ⟨S.toNat, by omega⟩
 obtain ⟨n, rfl⟩ : ∃ n0 : Nat, n = n0 := ⟨n.toNat, by omega⟩
 obtain ⟨q, hq⟩ : ∃ q : Nat, x.top s0 = q := ⟨(x.top s0).toNat, by omega⟩
 refine (rfill_yes b g c x false ws s0 q n (by omega) (by omega) hq (by omega) (by omega) w H.ra).mono ?_
 rintro e w' ⟨rfl, hA', t'⟩
 rw [hq] at hp ⊢
 exact ⟨rfl, t', _, rfl, hA', hp⟩
theorem Rq.put (H : Rq w1 n1 w b g c x ws th) (S s k p r a t : Int) (h : Bool) (no : Nat) (hS : 1 ≤ S ∧ S ≤ 4) (hs : Wd s) (hf : flt k p r a t = 0) (hn : x.top S + (2 + p + r) ≤ bhd c S) :
  Calls Tryz.prog 31 #[.pointer (some ⟨b, 0, none⟩), .int .i64 S, hv s k p r a t h] w fun e w' => e = .returned (.tuple #[.int .i64 (x.top S), .bool true]) ∧ Touch (rft b g) w w' ∧ ∃ ws', ws' = putw ws (x.top S).toNat (2 + p + r).toNat (wrd k p r a t h) s ∧ Ra w' b g c (x.put S (x.top S + (2 + p + r))) false ws' ∧ Hp c (x.put S (x.top S + (2 + p + r))) ws' (th ++ [⟨x.top S, S, s, k, p, r, a, t, h, no, List.replicate p.toNat 0, List.replicate r.toNat 0⟩]) := by
 have hp := H.hp.put w S s k p r a t h no hS hs hf hn
 have hsub := sub_in_hp H.hp w S
 have hp0 : 0 ≤ p ∧ 0 ≤ r := by obtain ⟨h1, h2, h3, h4, h5, h6, h7, h8, h9, h10, h11, h12⟩ := May.of hf; omega
 obtain ⟨s0, rfl⟩ : ∃ s0 : Nat, S = s0 := ⟨S.toNat, by omega⟩
 obtain ⟨q, hq⟩ : ∃ q : Nat, x.top s0 = q := ⟨(x.top s0).toNat, by omega⟩
 obtain ⟨n, hn2⟩ : ∃ n : Nat, (n : Int) = 2 + p + r := ⟨(2 + p + r).toNat, by omega⟩
 have en : (2 + p + r).toNat = n := by omega
 refine (rput_yes b g c x false ws s0 (by omega) (by omega) s k p r a t h hf q n hq hn2 (by omega) w H.ra).mono ?_
 rintro e w' ⟨rfl, hA', t'⟩
 rw [hn2] at hA'
 rw [en, hq] at hp
 rw [en, hq]
 exact ⟨rfl, t', _, rfl, hA', hp⟩
theorem Rq.setPtr (H : Rq w1 n1 w b g c x ws th) (i : Nat) (T : Tng) (hTi : th[i]? = some T) (f : Nat) (z : Int) (hf : f < T.ps.length) (z0 : 0 ≤ z) (z1 : z < c.words) :
  Calls Tryz.prog 29 #[.pointer (some ⟨b, 0, none⟩), .int .i64 T.at_, .int .i64 f, .int .i64 z] w fun e w' => e = .returned (.bool true) ∧ Touch (rft b g) w w' ∧ ∃ ws', ws' = upd ws (T.at_.toNat + 2 + f) z ∧ Ra w' b g c x false ws' ∧ Hp c x ws' (th.set i { T with ps := T.ps.set f z }) := by
 have hp := H.hp.ptr w i T hTi f z hf z0 z1
 have hm := List.mem_of_getElem? hTi
 obtain ⟨p1, p2, p3, p4, p5, p6, p7, hat, e1, e2, hw⟩ := H.hp.pos w hm
 have hpn := H.hp.hl.psn T hm
 refine (rsetPtr_yes b g c x false ws T.at_ f z hat (by omega) (by rw [e1]; omega) z0 z1 hw w H.ra).mono ?_
 rintro e w' ⟨rfl, hA', t'⟩
 refine ⟨rfl, t', _, ?_, hA', ?_⟩
 ·rw [show (T.at_ + 2 + f).toNat = T.at_.toNat + 2 + f by omega]
 ·rw [show (T.at_ + 2 + f).toNat = T.at_.toNat + 2 + f by omega]
  exact hp
theorem Rq.setRaw (H : Rq w1 n1 w b g c x ws th) (i : Nat) (T : Tng) (hTi : th[i]? = some T) (f : Nat) (z : Int) (hf : f < T.rs.length) (hW : Wd z) :
  Calls Tryz.prog 57 #[.pointer (some ⟨b, 0, none⟩), .int .i64 T.at_, .int .i64 f, .int .u64 z] w fun e w' => e = .returned (.bool true) ∧ Touch (rft b g) w w' ∧ ∃ ws', ws' = upd ws (T.at_.toNat + (2 + T.p.toNat) + f) z ∧ Ra w' b g c x false ws' ∧ Hp c x ws' (th.set i { T with rs := T.rs.set f z }) := by
 have hp := H.hp.raw w i T hTi f z hf hW
 have hm := List.mem_of_getElem? hTi
 obtain ⟨p1, p2, p3, p4, p5, p6, p7, hat, e1, e2, hw⟩ := H.hp.pos w hm
 have hrn := H.hp.hl.rsn T hm
 refine (rsetRaw_yes b g c x false ws T.at_ f z hat (by omega) (by rw [e2]; omega) hw w H.ra).mono ?_
 rintro e w' ⟨rfl, hA', t'⟩
 rw [e1, show (T.at_ + 2 + T.p + f).toNat = T.at_.toNat + (2 + T.p.toNat) + f by omega] at hA'
 exact ⟨rfl, t', _, rfl, hA', hp⟩
end
theorem wrd_of {m : Int} (hm : Wd m) (h1 : m % 4 = 1) (h2 : m / 70368744177664 % 262144 = 0) : wrd (kdOf m) (ptOf m) (rwOf m) (agOf m) (stOf m) (hdOf m) = m := by
 obtain ⟨m0, m1⟩ := hm
 unfold wrd kdOf ptOf rwOf agOf stOf hdOf
 have e : (if decide (m / 32 % 2 = 1) = true then (32 : Int) else 0) = 32 * (m / 32 % 2) := by
  by_cases h : m / 32 % 2 = 1
  ·rw [h]; rfl
  ·have h' : m / 32 % 2 = 0 := by omega
   rw [h']; rfl
 rw [e]
 omega
def Outs (th : List Tng) (y : Nat) : Prop := ∀ T, T ∈ th → (y : Int) < T.at_ ∨ T.at_ + 2 + T.p + T.r ≤ y
def Keep (th : List Tng) (ws ws' : Nat → Int) : Prop := ∀ y, Outs th y → ws' y = ws y
section
variable {c : Cfg} {x : Tps} {ws ws' : Nat → Int} {th : List Tng}
theorem wat_in {c : Cfg} {ws : Nat → Int} {y : Nat} (h : (y : Int) < c.words) : wat c ws y = ws y := by
 unfold wat
 rw [if_pos ⟨by omega, h⟩]
 rfl
theorem Hp.ext (H : Hp c x ws th) (H' : Hp c x ws' th) (w : World) (hk : Keep th ws ws') : ws' = ws := by
 funext y
 by_cases ho : Outs th y
 ·exact hk y ho
 ·have : ∃ T, T ∈ th ∧ T.at_ ≤ (y : Int) ∧ (y : Int) < T.at_ + 2 + T.p + T.r := Classical.byContradiction fun hn => ho fun T hT => by
   rcases Int.lt_or_le (y : Int) T.at_ with h | h
   ·exact .inl h
   ·rcases Int.lt_or_le (y : Int) (T.at_ + 2 + T.p + T.r) with h2 | h2
    ·exact absurd ⟨T, hT, h, h2⟩ hn
    ·exact .inr h2
  obtain ⟨T, hT, h1, h2⟩ := this
  obtain ⟨p1, p2, p3, p4, p5, p6, p7, hat, e1, e2, hw⟩ := H.pos w hT
  obtain ⟨-, -, -, -, -, -, -, hat', -, -, hw'⟩ := H'.pos w hT
  rw [← wat_in (c := c) (ws := ws) (y := y) (by omega), ← wat_in (c := c) (ws := ws') (y := y) (by omega)]
  obtain ⟨a1, a2, a3, a4, a5, a6, a7⟩ := H.hl.hds T hT
  obtain ⟨b1, b2, b3, b4, b5, b6, b7⟩ := H'.hl.hds T hT
  have hpn := H.hl.psn T hT
  have hrn := H.hl.rsn T hT
  by_cases c1 : (y : Int) = T.at_
  ·rw [c1]
   have k1 := wrd_of hw hat.2.2.1.1 hat.2.2.1.2.1
   have k2 := wrd_of hw' hat'.2.2.1.1 hat'.2.2.1.2.1
   rw [a2, a3, a4, a5, a6, a7] at k1
   rw [b2, b3, b4, b5, b6, b7] at k2
   rw [← k1, ← k2]
  ·by_cases c2 : (y : Int) = T.at_ + 1
   ·rw [c2, a1, b1]
   ·by_cases c3 : (y : Int) < T.at_ + 2 + T.p
    ·obtain ⟨f, hf⟩ : ∃ f : Nat, (y : Int) = T.at_ + 2 + f := ⟨((y : Int) - T.at_ - 2).toNat, by omega⟩
     have hfl : f < T.ps.length := by omega
     have hz := List.getElem?_eq_getElem hfl
     rw [hf, (H.hl.psv T hT f _ hz).1, (H'.hl.psv T hT f _ hz).1]
    ·obtain ⟨f, hf⟩ : ∃ f : Nat, (y : Int) = T.at_ + 2 + T.p + f := ⟨((y : Int) - T.at_ - 2 - T.p).toNat, by omega⟩
     have hfl : f < T.rs.length := by omega
     have hz := List.getElem?_eq_getElem hfl
     rw [hf, H.hl.rsv T hT f _ hz, H'.hl.rsv T hT f _ hz]
end
theorem object_flag (d : Bool) (b : Nat) (a S tp s K P R A T : Int) (H : Bool) (sv : Value) (hsv : (ocells s K P R A T H sv).all (·.oneCell') = true) (hS0 : S ≠ 0) (w : World)
  (hsp : ∀ w1, Below w.heap.size w w1 → Calls Tryz.prog 106 #[.pointer (some ⟨b, 0, none⟩), .int .i64 a] w1 fun e w' => e = .returned (.int .i64 S) ∧ Below w1.heap.size w1 w')
  (hto : ∀ w1, Below w.heap.size w w1 → Calls Tryz.prog 110 #[.pointer (some ⟨b, 0, none⟩), .int .i64 S] w1 fun e w' => e = .returned (.int .i64 tp) ∧ Below w1.heap.size w1 w')
  (hbe : ∀ w1, Below w.heap.size w w1 → Calls Tryz.prog 109 #[.pointer (some ⟨b, 0, none⟩), .int .i64 tp, .int .i64 a] w1 fun e w' => e = .returned (.tuple #[ov s K P R A T H sv, .bool d]) ∧ Below w1.heap.size w1 w') :
  Calls Tryz.prog 54 #[.pointer (some ⟨b, 0, none⟩), .int .i64 a] w fun e w' => e = .returned (.tuple #[ov s K P R A T H sv, .bool d]) ∧ Below w.heap.size w w' := by
 have b0 : Below w.heap.size w (w.alloc (.cells ozero 104)) := Below.alloc (Below.refl _ _) (Nat.le_refl _) _
 have o0 := Oc.new w ozero
 have h1 := hsp _ b0
 have Hto : Hid (∀ w1, Below w.heap.size w w1 → Calls Tryz.prog 110 #[.pointer (some ⟨b, 0, none⟩), .int .i64 S] w1 fun e w' => e = .returned (.int .i64 tp) ∧ Below w1.heap.size w1 w') := hto
 have Hbe : Hid (∀ w1, Below w.heap.size w w1 → Calls Tryz.prog 109 #[.pointer (some ⟨b, 0, none⟩), .int .i64 tp, .int .i64 a] w1 fun e w' => e = .returned (.tuple #[ov s K P R A T H sv, .bool d]) ∧ Below w1.heap.size w1 w') := hbe
 have Hall : Hid ((ocells s K P R A T H sv).all (·.oneCell') = true) := hsv
 clear hsp hto hbe
 go_enter Tryz.func54, Tryz.ntmps54
 go_wp2_with fail
 refine h1.mono ?_
 rintro e w1 ⟨rfl, l1⟩
 have o1 := o0.below l1
 have b1 := b0.trans (l1.mono b0.size)
 clear h1 b0 l1 o0
 go_wp2_with fail
 refine (Hto.out w1 b1).mono ?_
 rintro e w2 ⟨rfl, l2⟩
 have o2 := o1.below l2
 have b2 := b1.trans (l2.mono b1.size)
 clear b1 l2 o1
 go_wp2_with fail
 refine (Hbe.out w2 b2).mono ?_
 rintro e w3 ⟨rfl, l3⟩
 have o3 := o2.below l3
 have b3 := b2.trans (l3.mono b2.size)
 clear b2 l3 o2
 go_wp2_with (refine wpList_store_row rfl 104 _ _ rfl w.heap.size (ocells s K P R A T H sv) rfl rfl 104 ozero o3.at_ oinfo rfl Hall.out ?_)
 have o4 : Oc (w3.setRow w.heap.size (ocells s K P R A T H sv)) w.heap.size (ocells s K P R A T H sv) := ⟨setRow_heap _ _ _ _ _ _ o3.at_⟩
 have b4 := below_setRow b3 (Nat.le_refl _) (ocells s K P R A T H sv)
 generalize w3.setRow w.heap.size (ocells s K P R A T H sv) = w4 at o4 b4 ⊢
 clear o3 b3
 go_wp2
 refine bodyPost_ret (results_cell2 Tryz.results54 rfl o4.load) rfl ?_
 exact ⟨rfl, b4⟩
theorem object_out (b : Nat) (a : Int) (w : World) (hsp : ∀ w1, Below w.heap.size w w1 → Calls Tryz.prog 106 #[.pointer (some ⟨b, 0, none⟩), .int .i64 a] w1 fun e w' => e = .returned (.int .i64 0) ∧ Below w1.heap.size w1 w') :
  Calls Tryz.prog 54 #[.pointer (some ⟨b, 0, none⟩), .int .i64 a] w fun e w' => e = .returned (.tuple #[.agg ozero, .bool false]) ∧ Below w.heap.size w w' := by
 have b0 : Below w.heap.size w (w.alloc (.cells ozero 104)) := Below.alloc (Below.refl _ _) (Nat.le_refl _) _
 have o0 := Oc.new w ozero
 have h1 := hsp _ b0
 clear hsp
 go_enter Tryz.func54, Tryz.ntmps54
 go_wp2_with fail
 refine h1.mono ?_
 rintro e w1 ⟨rfl, l1⟩
 have o1 := o0.below l1
 have b1 := b0.trans (l1.mono b0.size)
 clear h1 b0 l1 o0
 go_wp2_with (refine wpList_store_row rfl 104 _ _ rfl w.heap.size ozero rfl rfl 104 ozero o1.at_ oinfo rfl (by kernel_rfl) ?_)
 have o4 : Oc (w1.setRow w.heap.size ozero) w.heap.size ozero := ⟨setRow_heap _ _ _ _ _ _ o1.at_⟩
 have b4 := below_setRow b1 (Nat.le_refl _) ozero
 generalize w1.setRow w.heap.size ozero = w4 at o4 b4 ⊢
 clear o1 b1
 go_wp2
 refine bodyPost_ret (results_cell2 Tryz.results54 rfl o4.load) rfl ?_
 exact ⟨rfl, b4⟩
theorem object_not (b g : Nat) (c : Cfg) (x : Tps) (sw : Bool) (ws : Nat → Int) (a : Int) (hn : ¬ At c x ws a) (w : World) (h : Ar w b g c x sw ws) (hL : Laid w) :
  Calls Tryz.prog 54 #[.pointer (some ⟨b, 0, none⟩), .int .i64 a] w fun e w' => e = .returned (.tuple #[.agg ozero, .bool false]) ∧ Below w.heap.size w w' := by
 by_cases h0 : spc c a = 0
 ·exact object_out b a w (fun w1 l => by have := space_any b g c x sw ws a w1 (h.below l); rw [h0] at this; exact this)
 ·have hpos := spc_pos h.ok (a := a) h0
  refine object_flag false b a (spc c a) (x.top (spc c a)) 0 0 0 0 0 0 false (.slice none 0 0) (by kernel_rfl) h0 w
   (fun w1 l => space_any b g c x sw ws a w1 (h.below l))
   (fun w1 l => top_any b g c x sw ws _ w1 (h.below l)) (fun w1 l => ?_)
  by_cases h1 : a < x.top (spc c a)
  ·exact below_no b g c x sw ws _ a (by omega) h1 (by have := h.sub_in (spc c a); omega) (fun hs => hn ⟨h0, h1, hs⟩) w1 (h.below l) (hL.keep l)
  ·exact below_above b g _ a (by omega) w1
theorem head_not (b g : Nat) (c : Cfg) (x : Tps) (sw : Bool) (ws : Nat → Int) (i : Int) (hn : ¬ At c x ws i) (w : World) (hA : Ar w b g c x sw ws) (hL : Laid w) :
  Calls Tryz.prog 15 #[.pointer (some ⟨b, 0, none⟩), .int .i64 i] w fun e w' => e = .returned (.tuple #[hv 0 0 0 0 0 0 false, .bool false]) ∧ Below w.heap.size w w' :=
 head_core false b i 0 0 0 0 0 0 false none 0 0 w (fun w1 l => object_not b g c x sw ws i hn w1 (hA.below l) (hL.keep l))
section
variable {w1 w w' : World} {n1 sb b g mb n : Nat} {lv : Value} {c : Cfg} {x : Tps} {sw : Bool} {ws : Nat → Int} {th : List Tng} {l : List Int} {S : Int → Bool}
theorem holdsYoung_not (H : Rm w1 n1 w sb b g mb lv c x sw ws th l n S) (a : Int) (hn : ¬ At c x ws a) : Calls Tryz.prog 69 #[.pointer (some ⟨sb, 0, none⟩), .int .i64 a] w fun e w' => e = .returned (.bool false) ∧ Below w.heap.size w w' := by
 have k0 : w.cell? ⟨sb, 0, none⟩ = some (.pointer (some ⟨b, 0, none⟩)) := H.rs.cell 0
 have hh := head_not b g c x sw ws a hn w H.bq.ax.ar H.bq.ax.la
 clear H hn
 go_enter Tryz.func69, Tryz.ntmps69
 go_wp2_with fail
 refine hh.mono ?_
 rintro e w2 ⟨rfl, l2⟩
 clear hh k0
 go_upto_region 2 with fail
 have l3 := Below.alloc l2 l2.size (.cells (hcells 0 0 0 0 0 0 false) 38)
 have hy : (w2.alloc (.cells (hcells 0 0 0 0 0 0 false) 38)).cell? ⟨w2.heap.size, 2, none⟩ = some (.int .i64 0) := cell_of_row _ _ 2 _ _ _ (heap_alloc_new w2 (.cells (hcells 0 0 0 0 0 0 false) 38 (0, 0)))
 generalize w2.alloc (.cells (hcells 0 0 0 0 0 0 false) 38) = w3 at *
 generalize w2.heap.size = R at *
 clear l2
 go_wp2
 clear hy
 go_loopw [21] (fun v21 wr => v21 = .int .i64 0 ∧ wr = w3) (fun _ _ => 0)
 case atStart => exact ⟨rfl, rfl⟩
 case round =>
  obtain ⟨rfl, rfl⟩ := hrel
  go_wp2
  go_ret
  exact ⟨rfl, l3⟩
theorem sMark_not (H : Rm w1 n1 w sb b g mb lv c x sw ws th l n S) (a : Int) (hn : ¬ At c x ws a) : Calls Tryz.prog 52 #[.pointer (some ⟨sb, 0, none⟩), .int .i64 a] w fun e w' => e = .returned (.tuple #[]) ∧ Below w.heap.size w w' := by
 have k0 : w.cell? ⟨sb, 0, none⟩ = some (.pointer (some ⟨b, 0, none⟩)) := H.rs.cell 0
 have hh := head_not b g c x sw ws a hn w H.bq.ax.ar H.bq.ax.la
 clear H hn
 go_enter Tryz.func52, Tryz.ntmps52
 go_wp2_with fail
 refine hh.mono ?_
 rintro e w2 ⟨rfl, l2⟩
 clear hh k0
 go_upto_region 1 with fail
 have l3 := Below.alloc l2 l2.size (.cells (hcells 0 0 0 0 0 0 false) 38)
 generalize w2.alloc (.cells (hcells 0 0 0 0 0 0 false) 38) = w3 at *
 go_wp2
 refine bodyPost_ret (results_none rfl _ _ _) rfl ?_
 exact ⟨rfl, l3⟩
theorem stands_not (H : Rm w1 n1 w sb b g mb lv c x sw ws th l n S) (a : Int) (hn : ¬ At c x ws a) : Calls Tryz.prog 105 #[.pointer (some ⟨sb, 0, none⟩), .int .i64 a] w fun e w' => e = .returned (.bool false) ∧ Below w.heap.size w w' := by
 have k0 : w.cell? ⟨sb, 0, none⟩ = some (.pointer (some ⟨b, 0, none⟩)) := H.rs.cell 0
 have hh := head_not b g c x sw ws a hn w H.bq.ax.ar H.bq.ax.la
 clear H hn
 go_enter Tryz.func105, Tryz.ntmps105
 go_wp2_with fail
 refine hh.mono ?_
 rintro e w2 ⟨rfl, l2⟩
 clear hh k0
 have l3 := Below.alloc l2 l2.size (.cells (hcells 0 0 0 0 0 0 false) 38)
 go_wp2
 go_ret
 exact ⟨rfl, l3⟩
theorem fault_not (H : Rm w1 n1 w sb b g mb lv c x sw ws th l n S) (a : Int) (hn : ¬ At c x ws a) (f z : Int) : Calls Tryz.prog 47 #[.pointer (some ⟨sb, 0, none⟩), .int .i64 a, .int .i64 f, .int .i64 z] w fun e w' => e = .returned (.int .i64 60) ∧ Below w.heap.size w w' := by
 have k0 : w.cell? ⟨sb, 0, none⟩ = some (.pointer (some ⟨b, 0, none⟩)) := H.rs.cell 0
 have hh := head_not b g c x sw ws a hn w H.bq.ax.ar H.bq.ax.la
 clear H hn
 go_enter Tryz.func47, Tryz.ntmps47
 go_wp2_with fail
 refine hh.mono ?_
 rintro e w2 ⟨rfl, l2⟩
 clear hh k0
 go_upto_region 2 with fail
 have l3 := Below.alloc l2 l2.size (.cells (hcells 0 0 0 0 0 0 false) 38)
 generalize w2.alloc (.cells (hcells 0 0 0 0 0 0 false) 38) = w3 at *
 go_wp2
 go_ret
 exact ⟨rfl, l3⟩
end
section
variable (b : Nat) (g : Nat → Nat) (c : Cfg) (x : Tps) (sw : Bool) (ws : Nat → Int)
theorem rsetHead_yes (a s k ag t : Int) (h : Bool) (hat : At c x ws a) (hf : flt k (ptOf (wat c ws a)) (rwOf (wat c ws a)) ag t = 0) (hw : Wd (wat c ws a)) (w : World) (hA : Ra w b g c x sw ws) :
  Calls Tryz.prog 162 #[.pointer (some ⟨b, 0, none⟩), .int .i64 a, hv s k (ptOf (wat c ws a)) (rwOf (wat c ws a)) ag t h] w fun e w' => e = .returned (.bool true) ∧ Ra w' b g c x sw (upd (upd ws a.toNat (wrd k (ptOf (wat c ws a)) (rwOf (wat c ws a)) ag t h)) (a + 1).toNat s) ∧ Touch (rft b g) w w' := by
 obtain ⟨p, hp⟩ : ∃ p, p = ptOf (wat c ws a) := ⟨_, rfl⟩
 obtain ⟨r, hr⟩ : ∃ r, r = rwOf (wat c ws a) := ⟨_, rfl⟩
 rw [← hp, ← hr] at hf ⊢
 have hX := Box.new w 38 (.int .u64 s) (.int .i64 k) (.int .i64 p) (.int .i64 r) (.int .i64 ag) (.int .i64 t) (.bool h)
 have b0 : Below w.heap.size w (w.alloc (.cells (hcells s k p r ag t h) 38)) := Below.alloc (Below.refl _ _) (Nat.le_refl _) _
 have hxlt := hX.lt
 have hh := rhead_at b g c x sw ws a hat hw _ (hA.below b0)
 have hin := at_in hA hat
 have hpt := pt_in (wat c ws a)
 have hrw := rw_in (wat c ws a)
 unfold hdv at hh
 rw [← hp, ← hr] at hh hin
 rw [← hp] at hpt
 rw [← hr] at hrw
 have HF : Hid (flt k p r ag t = 0 ∧ pck k p r ag t h = wrd k p r ag t h) := ⟨hf, pck_ok hf⟩
 have H1 : Hid (∀ w1, Below w.heap.size w w1 → Calls Tryz.prog 76 #[.pointer (some ⟨b, 0, none⟩), .int .i64 a, .int .u64 (wrd k p r ag t h)] w1 fun e w' => e = .returned (.bool true) ∧ Ra w' b g c x sw (upd ws a.toNat (wrd k p r ag t h)) ∧ Touch (rft b g) w1 w') := fun w1 l => rsetWord_int b g c x sw ws a _ (by omega) (by omega) w1 (hA.below l)
 have H2 : Hid (∀ w1, Ra w1 b g c x sw (upd ws a.toNat (wrd k p r ag t h)) → Calls Tryz.prog 76 #[.pointer (some ⟨b, 0, none⟩), .int .i64 (a + 1), .int .u64 s] w1 fun e w' => e = .returned (.bool true) ∧ Ra w' b g c x sw (upd (upd ws a.toNat (wrd k p r ag t h)) (a + 1).toNat s) ∧ Touch (rft b g) w1 w') := fun w1 hw => rsetWord_int b g c x sw _ (a + 1) s (by omega) (by omega) w1 hw
 have HL : Hid (∀ z ∈ rft b g, z < w.heap.size) := hA.lt
 have ha1 := hin.1
 have ha2 : a < 262145 := by omega
 clear hA hat hw hf hp hr hin hpt hrw
 generalize wat c ws (a + 1) = m1 at *
 generalize kdOf (wat c ws a) = K at *
 generalize agOf (wat c ws a) = A at *
 generalize stOf (wat c ws a) = U at *
 generalize hdOf (wat c ws a) = H at *
 go_enter Tryz.func162, Tryz.ntmps162
 go_upto_region 1 with fail
 generalize (w.alloc (.cells (hcells s k p r ag t h) 38)) = w0 at *
 go_wp2_with fail
 refine hh.mono ?_
 rintro e w1 ⟨rfl, l1⟩
 have b1 := b0.trans (l1.mono b0.size)
 have hX1 := hX.keep l1 hxlt
 have hx1 := hX1.lt
 clear hh hX b0 l1 hxlt
 go_upto_region 2 with fail
 have hX2 := hX1.keep (Below.alloc (Below.refl _ _) (Nat.le_refl _) (.cells (hcells m1 K p r A U H) 38)) hx1
 have hY2 := Box.new w1 38 (.int .u64 m1) (.int .i64 K) (.int .i64 p) (.int .i64 r) (.int .i64 A) (.int .i64 U) (.bool H)
 have b2 := Below.alloc b1 b1.size (.cells (hcells m1 K p r A U H) 38)
 clear hX1 b1 hx1
 generalize (w1.alloc (.cells (hcells m1 K p r A U H) 38)) = w2 at *
 have hx2 := hX2.lt
 have hy2 := hY2.lt
 generalize w1.heap.size = B7 at *
 have hX2' := hX2
 obtain ⟨y0, y1, y2, y3, y4, y5, y6, -, -, -, -, -, -, -⟩ := hX2
 go_wp2_with fail
 clear y0 y1 y2 y3 y4 y5 y6
 refine (rpack_any s k p r ag t h w2).mono ?_
 rintro e w3 ⟨rfl, l3⟩
 have b3 := b2.trans (l3.mono b2.size)
 have hX3 := hX2'.keep l3 hx2
 have hY3 := hY2.keep l3 hy2
 clear l3 b2 hX2' hY2 hx2 hy2
 rw [HF.out.1, HF.out.2]
 have hX3' := hX3
 have hx3 := hX3.lt
 obtain ⟨x0, x1, x2, x3, x4, x5, x6, -, -, -, -, -, -, -⟩ := hX3
 obtain ⟨y0, y1, y2, y3, y4, y5, y6, -, -, -, -, -, -, -⟩ := hY3
 go_wp2_with fail
 clear x0 x1 x2 x3 x4 x5 x6 y0 y1 y2 y3 y4 y5 y6
 refine (H1.out w3 b3).mono ?_
 rintro e w4 ⟨rfl, hA4, t4⟩
 have hoff : w.heap.size ∉ rft b g := fun hh => Nat.lt_irrefl _ (HL.out _ hh)
 have z4 : w4.cell? ⟨w.heap.size, 0, none⟩ = some (.int .u64 s) := by
  rw [World.cell?_of_block (w := w3) (t4.block _ hx3 hoff)]; exact hX3'.h0
 have T4 : Hid (Touch (rft b g) w w4) := (Touch.of_below b3 _).trans t4
 clear t4 b3 hX3' hx3 H1 hoff
 go_wp2_with fail
 refine (H2.out w4 hA4).mono ?_
 rintro e w5 ⟨rfl, hA5, t5⟩
 have T5 : Hid (Touch (rft b g) w w5) := T4.out.trans t5
 have HA5 : Hid _ := hA5
 clear t5 hA5 hA4 z4 T4 H2
 go_wp2
 go_ret
 exact ⟨rfl, HA5.out, T5.out⟩
end
end Go.Proofs.YtlkengnefhhppaaGreatDoor
