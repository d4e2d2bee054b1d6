import Derived.Test.YtkekaifiahjljaaGreatDoorC00
import Derived.StillTail
set_option linter.unusedVariables false
set_option maxHeartbeats 8000000
namespace Go.Proofs.YtkekaifiahjljaaGreatDoor.Kg
open Go.RowKit
def lateB (md : Region.Mode) (ops : Array Oper) (n : Nat) : Bool :=
  (List.range ops.size).all fun t => decide (t ≤ n) || (List.range t).any fun u => decide (n ≤ u) && Region.waitsFor md ops t u
def partB (md : Region.Mode) (ops : Array Oper) (n : Nat) : Nat → Nat → Array Bool → Bool
  | 0, _, listed => decide (Region.ready md ops listed = [n]) && Region.lexFrom md ops (ops.size - (n + 1)) (n + 1) (listed.setIfInBounds n true)
  | f + 1, k, listed => (Region.ready md ops listed).contains k && Region.free md ops listed k && partB md ops n f (k + 1) (listed.setIfInBounds k true)
def callB (md : Region.Mode) (ops : Array Oper) (n : Nat) : Bool :=
  Region.noSelect ops && decide (n < ops.size) && Region.sinkB md ops n && lateB md ops n && partB md ops n n 0 (Array.replicate ops.size false)
theorem late_waits {md : Region.Mode} {ops : Array Oper} {n : Nat} {listed : Array Bool} (hs : Region.sinkB md ops n = true) (hl : lateB md ops n = true) (inv : HeadInv md ops n listed) {i : Nat} (hi : i < n) (hun : listed.getD i true = false) {t : Nat} (ht : n ≤ t) : t ∉ Region.ready md ops listed := by
  intro hr
  obtain ⟨_, ot, hot, hall⟩ := mem_ready.1 hr
  have htl : t < ops.size := (Array.getElem?_eq_some_iff.1 hot).1
  rcases Nat.lt_or_ge n t with h | h
  · have h1 := List.all_eq_true.1 hl t (List.mem_range.2 htl)
    simp only [Bool.or_eq_true, decide_eq_true_eq] at h1
    rcases h1 with h1 | h1
    · omega
    · obtain ⟨u, hu, hu2⟩ := List.any_eq_true.1 h1
      simp only [Bool.and_eq_true, decide_eq_true_eq] at hu2
      have hut := List.mem_range.1 hu
      obtain ⟨o', ho', e, he, hb, hon⟩ := Region.waitsFor_spec hu2.2
      cases Option.some.inj (ho'.symm.trans hot)
      have h2 := hall e he hb
      rw [hon, getD_both (inv.tail u hu2.1 (by omega))] at h2
      cases h2
  · obtain rfl : t = n := by omega
    clear ht h
    -- the last of the head that isn't listed
    have key : ∀ d i, t - i = d → i < t → listed.getD i true = false → False := by
      intro d
      induction d using Nat.strongRecOn with
      | _ d ih =>
        intro i hd hi hun
        obtain ⟨j, hj, hj2⟩ := List.any_eq_true.1 (List.all_eq_true.1 hs i (List.mem_range.2 hi))
        simp only [Bool.and_eq_true, decide_eq_true_eq] at hj2
        have hjt := List.mem_range.1 hj
        obtain ⟨oj, hoj, e, he, hb, hon⟩ := Region.waitsFor_spec hj2.2
        rcases Nat.lt_or_ge j t with h | h
        · cases hlj : listed.getD j false with
          | true =>
            have h2 := inv.closed j oj hoj hlj e he hb
            rw [hon, getD_both hun] at h2
            cases h2
          | false => exact ih (t - j) (by omega) j rfl h (getD_in (by rw [inv.size]; omega) hlj)
        · obtain rfl : j = t := by omega
          cases Option.some.inj (hoj.symm.trans hot)
          have h2 := hall e he hb
          rw [hon, getD_both hun] at h2
          cases h2
    exact key _ i rfl hi hun
section
variable {P : Program} {ops : Array Oper} {md : Region.Mode} {w : World}
theorem headL_first {n i : Nat} {oi : Oper} {v : Value} {L : Array Bool → Act → Prop} (hi : ops[i]? = some oi) (hsel : ∀ (j : Nat) (o : Oper) cs b, ops[j]? = some o → o.op ≠ .select cs b)
    (hs : Region.sinkB md ops n = true) (hl : lateB md ops n = true) (hin : i < n) (hdone : ∀ listed a, L listed a → ∀ j ∈ Region.ready md ops listed, n ≤ j) :
    ∀ (f : Nat) (listed : Array Bool) (a : Act), HeadInv md ops n listed →
      (∀ j oj, ops[j]? = some oj → j ≠ i → listed.getD j true = false → (∀ e ∈ oj.after, Region.binds md e = true → e.on ≠ i) → oi.apart ops oj = true) →
      i ∈ Region.ready md ops listed → YieldsAt P ops w oi v a →
      wpAnyL P md ops w n L f (listed.setIfInBounds i true) (a.put oi.dst v) → wpAnyL P md ops w n L (f + 1) listed a
  | f, listed, a, inv, hfree, hr, hy, H => by
    have hun := (mem_ready.1 hr).1
    refine ⟨fun h => (by rw [h] at hr; cases hr), fun j hj => ?_⟩
    have hjn : j < n := Nat.lt_of_not_le fun h => late_waits hs hl inv hin hun h hj
    refine ⟨hjn, ?_⟩
    by_cases hji : j = i
    · subst hji; exact hy.stOp hi H
    · match f, H with
      | 0, H => have := hdone _ _ H j (ready_mono hj hji); omega
      | f + 1, H =>
        have h1 := (H.2 j (ready_mono hj hji)).2
        obtain ⟨hjun, oj, hoj, hall⟩ := mem_ready.1 hj
        have hnot : ∀ e ∈ oj.after, Region.binds md e = true → e.on ≠ i := fun e he hb heq => by
          have h1 := hall e he hb
          rw [heq, getD_both hun] at h1
          cases h1
        refine stOp_mono (fun a' h3 => headL_first hi hsel hs hl hin hdone f (listed.setIfInBounds j true) a' (inv.set hj hjn) (fun k ok hk hki hun' hno => ?_) (ready_mono hr (Ne.symm hji)) h3.1 ?_)
          (stOp_put hoj (hfree j oj hoj hji hjun hnot) (fun cs b => hsel i oi cs b hi) (fun cs b => hsel j oj cs b hoj) hy h1)
        · refine hfree k ok hk hki ?_ hno
          by_cases hjk : j = k
          · subst hjk; exact hjun
          · rwa [getD_set_ne true hjk] at hun'
        · rw [Array.setIfInBounds_comm _ _ hji]
          exact h3.2
theorem headL_lex {n : Nat} {Lq : Act → Prop} (hsel : Region.noSelect ops = true) (hs : Region.sinkB md ops n = true) (hl : lateB md ops n = true) :
    ∀ (l : List Oper) (k : Nat) (listed : Array Bool) (a : Act), (∀ j, j < l.length → l[j]? = ops[k + j]?) → k + l.length = n → HeadInv md ops n listed → partB md ops n l.length k listed = true → wpStill P ops w Lq l a →
    wpAnyL P md ops w n (fun listed' a' => (Region.ready md ops listed' = [n] ∧ Region.lexFrom md ops (ops.size - (n + 1)) (n + 1) (listed'.setIfInBounds n true) = true) ∧ Lq a') l.length listed a
  | [], k, listed, a, _, _, _, hB, h => by
    simp only [List.length_nil, partB, Bool.and_eq_true, decide_eq_true_eq] at hB
    exact ⟨hB, h⟩
  | o :: l, k, listed, a, hll, hk, inv, hB, h => by
    have h0 : ops[k]? = some o := by simpa using (hll 0 (by simp)).symm
    simp only [List.length_cons, partB, Bool.and_eq_true] at hB
    obtain ⟨⟨hr, hf⟩, hB'⟩ := hB
    have hkn : k < n := by simp only [List.length_cons] at hk; omega
    have hr' : k ∈ Region.ready md ops listed := by simpa using hr
    have hst : stOp P ops w k (wpStill P ops w Lq l) a := by unfold stOp; simp only [h0]; exact h
    obtain ⟨v, hy, hK⟩ := yieldsAt_of_stOp h0 hst
    exact headL_first h0 (Region.noSelect_spec hsel) hs hl hkn (fun listed' a' hL j hj => by rw [hL.1.1] at hj; simp at hj; omega) l.length listed a inv (Region.free_spec h0 hf) hr' hy
      (headL_lex hsel hs hl l (k + 1) _ _ (fun j hj => by have := hll (j + 1) (by simp; omega); simpa [Nat.add_assoc, Nat.add_comm 1 j] using this) (by simp only [List.length_cons] at hk; omega) (inv.set hr' hkn) hB' hK)
end
def thenQuiet (P : Program) (ops : Array Oper) (rest : List Oper) (Q : Exit → Act → World → Prop) : Exit → Act → World → Prop
  | .normal, a, w => wpQuiet P ops (fun w' => w' = w) (fun a' => Q .normal a' w) rest a
  | e, a, w => Q e a w
theorem thenQuiet_mk {P : Program} {ops : Array Oper} {rest : List Oper} {Q : Exit → Act → World → Prop} {a : Act} {w : World} (h : wpQuiet P ops (fun w' => w' = w) (fun a' => Q .normal a' w) rest a) : thenQuiet P ops rest Q .normal a w := h
theorem op_then {P : Program} {ops rops : Array Oper} {rest : List Oper} {o : Oper} {Q : Exit → Act → World → Prop} {K : Act → World → Prop} {a : Act} {w : World} (hq : ∀ a w, thenQuiet P rops rest Q .normal a w → K a w) {i : Nat} (hi : ops[i]? = some o)
    (h : wpList P ops (thenQuiet P rops rest Q) [o] a w) : wpOp P ops Q i K a w := by
  have hlo : LetsOut (thenQuiet P rops rest Q) → LetsOut Q := fun ⟨a, w, h⟩ => ⟨a, w, h⟩
  unfold wpOp
  simp only [hi]
  unfold wpList at h
  split
  · rename_i hw
    simp only [hw, if_true] at h
    rcases h with h | ⟨h1, h2⟩
    · left
      unfold Oper.wp at h ⊢
      generalize (execOp a.eval o).run P w = r at *
      cases r with
      | ok n w' =>
        cases n <;> simp only [Oper.upon] at h ⊢
        case value u => exact hq _ _ h
        case skip => exact hq _ _ h
        case defer d => exact hq _ _ h
        case enter f args =>
          refine Calls.mono h fun e w'' he => ?_
          cases e with
          | returned u => exact hq _ _ he
          | panicked c => exact he
          | outgrown => exact hlo he
        case row row args => exact Rows.mono h fun u w'' he => hq _ _ he
      | halt x w' =>
        cases x <;> simp only [Oper.upon] at h ⊢
        case panic u => exact h
    · exact .inr ⟨h1, hlo h2⟩
  · rename_i hw
    simp only [hw] at h
    exact hq _ _ h
theorem quiet_call {P : Program} {id : Nat} {Q : Exit → Act → World → Prop} {a : Act} {w : World} {l : List Oper} (n : Nat) (hm : P.follows .mixedOrders = true) (hB : callB .any l.toArray n = true)
    (h : wpQuiet P l.toArray (fun w' => w' = w.drew) (fun a' => wpList P l.toArray (thenQuiet P l.toArray (l.drop (n + 1)) Q) ((l.drop n).take 1) a' w.drew) (l.take n) a) : (Code.region id l.toArray true).wp P Q a w := by
  simp only [callB, Bool.and_eq_true, decide_eq_true_eq] at hB
  obtain ⟨⟨⟨⟨hsel, hn⟩, hs⟩, hl⟩, hp⟩ := hB
  have hn' : n < l.length := by simpa using hn
  have htl : (l.take n).length = n := by simp; omega
  obtain ⟨o, ho⟩ : ∃ o, l[n]? = some o := ⟨_, List.getElem?_eq_getElem hn'⟩
  have hd1 : (l.drop n).take 1 = [o] := by
    rw [List.drop_eq_getElem_cons hn', List.take_succ_cons, List.take_zero]
    rw [List.getElem?_eq_getElem hn'] at ho
    rw [Option.some.inj ho]
  have inv0 : HeadInv .any l.toArray n (Array.replicate l.toArray.size false) :=
    ⟨by simp, fun j oj _ hl => (by rw [getD_replicate_false] at hl; cases hl), fun t _ ht => getD_in (by simpa using ht) (getD_replicate_false _ _)⟩
  have H := headL_lex (md := .any) hsel hs hl (l.take n) 0 _ a (fun j hj => by
    have hj' : j < n := by rw [htl] at hj; exact hj
    simp [hj']) (by simpa using htl) inv0 (by rw [htl]; exact hp) (still_of_quiet _ _ h)
  refine wp_region_any hm ?_
  have hlen : (l.drop (n + 1)).length = l.toArray.size - (n + 1) := by simp
  have := wpAny_of_head (Q' := Q) (g := (l.toArray.size - (n + 1)) + 1) (fun listed a' hL => by
    obtain ⟨⟨h1, h2⟩, h3⟩ := hL
    rw [hd1] at h3
    refine ⟨fun h0 => (by rw [h1] at h0; cases h0), fun i hi => ?_⟩
    rw [h1] at hi
    obtain rfl : i = n := by simpa using hi
    refine op_then (fun a2 w2 hq => ?_) (by simpa using ho) h3
    have hq' : wpQuiet P l.toArray (fun w' => w' = w2) (fun a' => Q .normal a' w2) (l.drop (i + 1)) a2 := hq
    have := wpAnyQ_lex (md := .any) hsel (l.drop (i + 1)) (i + 1) (listed.setIfInBounds i true) a2 (fun j => by simp [List.getElem?_drop]) (by rw [hlen]; exact h2) hq'
    rw [hlen] at this
    exact wpAny_of_quiet (C := fun w' => w' = w2) (fun a3 w3 hw hq3 => by rw [hw]; exact hq3) _ _ _ _ rfl this) _ _ _ H
  rw [htl, show n + (l.toArray.size - (n + 1) + 1) = l.toArray.size by omega] at this
  exact this
end Go.Proofs.YtkekaifiahjljaaGreatDoor.Kg
namespace Go.Proofs.YtkekaifiahjljaaGreatDoor.Im
def num (n : Nat) : List Nat := if n < 128 then [n] else (128 + n % 128) :: num (n / 128)
termination_by n
decreasing_by omega
def wgo (b : List Nat) (p : Nat) : Nat → Nat → Nat → Except (Nat × Nat) (Nat × Nat)
  | 0, k, n => .error (p, 161)
  | f + 1, k, n =>
    match b[p + k]? with
    | none => .error (b.length, 160)
    | some x =>
      if (0 < k ∧ x = 0) ∨ (k = 9 ∧ 1 < x) then .error (p, 161)
      else if x < 128 then .ok (n + x * 128 ^ k, p + k + 1)
      else wgo b p f (k + 1) (n + (x - 128) * 128 ^ k)
def word (b : List Nat) (p : Nat) : Except (Nat × Nat) (Nat × Nat) := wgo b p 10 0 0
def fnv (b : List Nat) : Nat := b.foldl (fun h x => (h ^^^ x) * 16777619 % 4294967296) 2166136261
abbrev Ps (α : Type) := Nat → Except (Nat × Nat) (α × Nat)
def Ps.bind {α β : Type} (f : Ps α) (g : α → Ps β) : Ps β := fun p => match f p with
  | .ok (x, q) => g x q
  | .error e => .error e
def Ps.ret {α : Type} (x : α) : Ps α := fun p => .ok (x, p)
def Ps.map {α β : Type} (f : Ps α) (g : α → β) : Ps β := f.bind fun x => .ret (g x)
def great : Nat := 2 ^ 62 + 1
def number (b : List Nat) : Ps Nat := fun p => match word b p with
  | .ok (n, q) => if great < n then .error (p, 161) else .ok (n, q)
  | .error e => .error e
def many (b : List Nat) : Ps Nat := fun p => match number b p with
  | .ok (n, q) => if b.length - q < n then .error (b.length, 160) else .ok (n, q)
  | .error e => .error e
def listE {α : Type} (e : α → List Nat) (l : List α) : List Nat := num l.length ++ l.flatMap e
section
variable {b : List Nat} (hb : ∀ (i x : Nat), b[i]? = some x → x < 256)
include hb
end
abbrev RO := Nat × Nat × Nat × List Nat × List Nat
abbrev NG := Nat × List RO × List (List (List Nat)) × List Nat × List Nat
def roE (o : RO) : List Nat := num o.1 ++ (num o.2.1 ++ (num o.2.2.1 ++ (listE num o.2.2.2.1 ++ listE num o.2.2.2.2)))
def ngE (g : NG) : List Nat := num g.1 ++ (listE roE g.2.1 ++ (listE (listE (listE num)) g.2.2.1 ++ (listE num g.2.2.2.1 ++ listE num g.2.2.2.2)))
def magic : List Nat := [77, 68, 73, 49]
def le4 (s : Nat) : List Nat := [s % 256, s / 256 % 256, s / 65536 % 256, s / 16777216 % 256]
def body (g : NG) : List Nat := magic ++ ngE g
def enc (g : NG) : List Nat := body g ++ le4 (fnv (body g))
structure Fw {α : Type} (F : List Nat → Ps α) : Prop where
  mono : ∀ b p x r, F b p = .ok (x, r) → p ≤ r ∧ (p ≤ b.length → r ≤ b.length)
  keep : ∀ b n p x r, F b p = .ok (x, r) → n ≤ b.length → r ≤ n → F (b.take n) p = .ok (x, r)
  cut : ∀ b n p x r, F b p = .ok (x, r) → n ≤ b.length → p ≤ n → n < r → F (b.take n) p = .error (n, 160)
  more : ∀ b m p x r, F b p = .ok (x, r) → F (b ++ m) p = .ok (x, r)
structure Ob where
  ser : Nat
  kind : Int
  site : Int
  ps : List Int
  rs : List Nat
structure Gr where
  next : Nat
  obs : List Ob
  slots : List (List (List Int))
  hs : List Int
  rg : List Int
  qu : List Int
inductive Known (g : Gr) : Nat → Prop
  | slot (t : List (List Int)) (f : List Int) (n : Nat) : t ∈ g.slots → f ∈ t → (n : Int) ∈ f → 0 < n → Known g n
  | hand (n : Nat) : (n : Int) ∈ g.hs → 0 < n → Known g n
  | reg (n : Nat) : (n : Int) ∈ g.rg → 0 < n → Known g n
  | que (n : Nat) : (n : Int) ∈ g.qu → 0 < n → Known g n
  | ptr (m n : Nat) (o : Ob) : Known g m → g.obs[m - 1]? = some o → (n : Int) ∈ o.ps → 0 < n → Known g n
theorem map_ofNat_toNat {l : List Int} (h : ∀ z, z ∈ l → 0 ≤ z) : (l.map Int.toNat).map Int.ofNat = l := by
  rw [List.map_map]
  conv => rhs; rw [← List.map_id l]
  refine List.map_congr_left fun z hz => ?_
  have := h z hz
  show ((z.toNat : Nat) : Int) = z
  omega
def Rise : Nat → List Ob → Prop
  | _, [] => True
  | last, o :: r => last < o.ser ∧ Rise o.ser r
def finsFrom : Nat → List Ob → List Int
  | _, [] => []
  | i, o :: r => if o.kind = 4 then ((i : Int) + 1) :: finsFrom (i + 1) r else finsFrom (i + 1) r
def fins (l : List Ob) : List Int := finsFrom 0 l
theorem finsFrom_snoc : ∀ (l : List Ob) (i : Nat) (o : Ob), finsFrom i (l ++ [o]) = finsFrom i l ++ (if o.kind = 4 then [((i + l.length : Nat) : Int) + 1] else []) := by
  intro l
  induction l with
  | nil => intro i o; simp only [List.nil_append, finsFrom, List.length_nil, Nat.add_zero]
  | cons x r ih =>
    intro i o
    simp only [List.cons_append, finsFrom]
    rw [ih]
    have e : i + 1 + r.length = i + (x :: r).length := by simp; omega
    rw [e]
    split
    · rw [List.cons_append]
    · rfl
structure May (hd : Ob → Prop) (g : Gr) : Prop where
  n0 : 1 ≤ g.next
  n1 : g.next ≤ great
  rise : Rise 0 g.obs
  low : ∀ o, o ∈ g.obs → o.ser < g.next
  head : ∀ o, o ∈ g.obs → hd o
  ptrs : ∀ o, o ∈ g.obs → ∀ z, z ∈ o.ps → 0 ≤ z ∧ z ≤ g.obs.length
  t0 : 1 ≤ g.slots.length
  t1 : g.slots.length ≤ 8
  few : ∀ t, t ∈ g.slots → (t.map List.length).sum ≤ 4096
  full : ∀ t, t ∈ g.slots → ∀ f, f ∈ t → 1 ≤ f.length
  slot : ∀ t, t ∈ g.slots → ∀ f, f ∈ t → ∀ z, z ∈ f → 0 ≤ z ∧ z ≤ g.obs.length
  h1 : g.hs.length ≤ 1024
  hand : ∀ z, z ∈ g.hs → -1 ≤ z ∧ z ≤ g.obs.length
  reg : g.rg = fins g.obs
  que : ∀ z, z ∈ g.qu → 1 ≤ z ∧ z ≤ g.obs.length
  once : g.qu.Nodup
  plain : ∀ z, z ∈ g.qu → ∀ o, g.obs[(z - 1).toNat]? = some o → o.kind ≠ 4
  all : ∀ n, 1 ≤ n → n ≤ g.obs.length → Known g n
def cnt (M : Nat → Bool) : Nat → Nat
  | 0 => 0
  | n + 1 => cnt M n + if M (n + 1) = true then 1 else 0
theorem cnt_le (M : Nat → Bool) : ∀ n, cnt M n ≤ n := by
  intro n
  induction n with
  | zero => exact Nat.le_refl _
  | succ n ih => unfold cnt; split <;> omega
theorem cnt_all (M : Nat → Bool) : ∀ n, cnt M n = n ↔ ∀ i, 1 ≤ i → i ≤ n → M i = true := by
  intro n
  induction n with
  | zero => exact ⟨fun _ i h1 h2 => by omega, fun _ => rfl⟩
  | succ n ih =>
    have hl := cnt_le M n
    unfold cnt
    by_cases h : M (n + 1) = true
    · rw [if_pos h]
      constructor
      · intro e i h1 h2
        by_cases e1 : i = n + 1
        · rw [e1]; exact h
        · exact ih.1 (by omega) i h1 (by omega)
      · intro h1
        have := ih.2 (fun i h2 h3 => h1 i h2 (by omega))
        omega
    · rw [if_neg h]
      constructor
      · intro e; omega
      · intro h1; exact absurd (h1 (n + 1) (by omega) (Nat.le_refl _)) h
def metSet (M : Nat → Bool) (k : Nat) : Nat → Bool := fun n => decide (n = k) || M n
theorem cnt_out {M : Nat → Bool} {k : Nat} : ∀ n, n < k → cnt (metSet M k) n = cnt M n := by
  intro n
  induction n with
  | zero => intro _; rfl
  | succ n ih =>
    intro h
    unfold cnt
    rw [ih (by omega)]
    have : metSet M k (n + 1) = M (n + 1) := by unfold metSet; simp; omega
    rw [this]
theorem cnt_set {M : Nat → Bool} {k : Nat} (h0 : M k = false) (h1 : 1 ≤ k) : ∀ n, k ≤ n → cnt (metSet M k) n = cnt M n + 1 := by
  intro n
  induction n with
  | zero => intro h; omega
  | succ n ih =>
    intro h
    unfold cnt
    by_cases e : k = n + 1
    · subst e
      rw [cnt_out n (by omega), h0]
      have : metSet M (n + 1) (n + 1) = true := by simp [metSet]
      rw [this]
      simp
    · rw [ih (by omega)]
      have : metSet M k (n + 1) = M (n + 1) := by unfold metSet; simp; omega
      rw [this]
      omega
def wsum (obs : List Ob) (M : Nat → Bool) : Nat → Nat
  | 0 => 0
  | n + 1 => wsum obs M n + if M (n + 1) = true then 0 else ((obs[n]?).map (·.ps.length)).getD 0
theorem wsum_out {obs : List Ob} {M : Nat → Bool} {k : Nat} : ∀ n, n < k → wsum obs (metSet M k) n = wsum obs M n := by
  intro n
  induction n with
  | zero => intro _; rfl
  | succ n ih =>
    intro h
    unfold wsum
    rw [ih (by omega)]
    have : metSet M k (n + 1) = M (n + 1) := by unfold metSet; simp; omega
    rw [this]
theorem wsum_set {obs : List Ob} {M : Nat → Bool} {k : Nat} {o : Ob} (h0 : M k = false) (h1 : 1 ≤ k) (ho : obs[k - 1]? = some o) : ∀ n, k ≤ n → wsum obs (metSet M k) n + o.ps.length = wsum obs M n := by
  intro n
  induction n with
  | zero => intro h; omega
  | succ n ih =>
    intro h
    unfold wsum
    by_cases e : k = n + 1
    · subst e
      rw [wsum_out n (by omega), h0]
      have : metSet M (n + 1) (n + 1) = true := by simp [metSet]
      rw [this]
      rw [Nat.add_sub_cancel] at ho
      simp [ho]
    · have := ih (by omega)
      have e2 : metSet M k (n + 1) = M (n + 1) := by unfold metSet; simp; omega
      rw [e2]
      omega
def Root (g : Gr) (z : Int) : Prop := (∃ t, t ∈ g.slots ∧ ∃ f, f ∈ t ∧ z ∈ f) ∨ z ∈ g.hs ∨ z ∈ g.rg ∨ z ∈ g.qu
theorem Root.known {g : Gr} {z : Int} (h : Root g z) (hz : 0 < z) : Known g z.toNat := by
  have e : ((z.toNat : Nat) : Int) = z := by omega
  rcases h with ⟨t, ht, f, hf, h⟩ | h | h | h
  · exact .slot t f _ ht hf (by rw [e]; exact h) (by omega)
  · exact .hand _ (by rw [e]; exact h) (by omega)
  · exact .reg _ (by rw [e]; exact h) (by omega)
  · exact .que _ (by rw [e]; exact h) (by omega)
structure Wl (g : Gr) (M : Nat → Bool) (pd : List Int) (k : Nat) : Prop where
  m : ∀ n, M n = true → 1 ≤ n ∧ n ≤ g.obs.length ∧ Known g n
  p : ∀ z, z ∈ pd → 0 < z → Known g z.toNat
  q : ∀ z, z ∈ pd → z ≤ g.obs.length
  r : ∀ z, Root g z → 0 < z → M z.toNat = true ∨ z ∈ pd
  c : ∀ n o, M n = true → g.obs[n - 1]? = some o → ∀ z, z ∈ o.ps → 0 < z → M z.toNat = true ∨ z ∈ pd
  k : k = cnt M g.obs.length
theorem Wl.start {g : Gr} {pd : List Int} (h : ∀ z, z ∈ pd ↔ Root g z) (hq : ∀ z, Root g z → z ≤ g.obs.length) : Wl g (fun _ => false) pd 0 := by
  refine ⟨fun n hn => by simp at hn, fun z hz h0 => ((h z).1 hz).known h0, fun z hz => hq z ((h z).1 hz), fun z hz _ => .inr ((h z).2 hz), fun n o hn => by simp at hn, ?_⟩
  have : ∀ n, cnt (fun _ => false) n = 0 := by
    intro n
    induction n with
    | zero => rfl
    | succ n ih => unfold cnt; rw [ih]; simp
  exact (this _).symm
theorem Wl.skip {g : Gr} {M : Nat → Bool} {pd pd' : List Int} {k : Nat} {z : Int} (h : Wl g M pd k) (hp : ∀ y, y ∈ pd ↔ y = z ∨ y ∈ pd') (hz : z ≤ 0 ∨ M z.toNat = true) : Wl g M pd' k := by
  have key : ∀ y, 0 < y → (M y.toNat = true ∨ y ∈ pd) → M y.toNat = true ∨ y ∈ pd' := fun y hy h1 => by
    rcases h1 with h1 | h1
    · exact .inl h1
    · rcases (hp y).1 h1 with rfl | h2
      · rcases hz with h3 | h3
        · omega
        · exact .inl h3
      · exact .inr h2
  exact ⟨h.m, fun y hy => h.p y ((hp y).2 (.inr hy)), fun y hy => h.q y ((hp y).2 (.inr hy)), fun y h1 h2 => key y h2 (h.r y h1 h2), fun n o h1 h2 y h3 h4 => key y h4 (h.c n o h1 h2 y h3 h4), h.k⟩
theorem Wl.take {g : Gr} {M : Nat → Bool} {pd pd' : List Int} {k : Nat} {z : Int} {o : Ob} (h : Wl g M pd k) (hp : ∀ y, y ∈ pd → y = z ∨ y ∈ pd') (ho : g.obs[z.toNat - 1]? = some o) (ho' : ∀ y, y ∈ o.ps → y ∈ pd') (hback : ∀ y, y ∈ pd' → y ∈ pd ∨ y ∈ o.ps) (hr : ∀ y, y ∈ o.ps → y ≤ g.obs.length) (hz : z ∈ pd) (h0 : 0 < z) (hM : M z.toNat = false) : Wl g (metSet M z.toNat) pd' (k + 1) := by
  have hkn := h.p z hz h0
  have hle := h.q z hz
  have key : ∀ y, 0 < y → (M y.toNat = true ∨ y ∈ pd) → metSet M z.toNat y.toNat = true ∨ y ∈ pd' := fun y hy h1 => by
    rcases h1 with h1 | h1
    · exact .inl (by simp [metSet, h1])
    · rcases hp y h1 with rfl | h2
      · exact .inl (by simp [metSet])
      · exact .inr h2
  refine ⟨fun n hn => ?_, fun y hy hy0 => ?_, fun y hy => ?_, fun y h1 h2 => key y h2 (h.r y h1 h2), fun n o' h1 h2 y h3 h4 => ?_, ?_⟩
  · by_cases e : n = z.toNat
    · rw [e]; exact ⟨by omega, by omega, hkn⟩
    · exact h.m n (by simpa [metSet, e] using hn)
  · rcases hback y hy with h1 | h1
    · exact h.p y h1 hy0
    · exact .ptr z.toNat y.toNat o hkn ho (by rw [show ((y.toNat : Nat) : Int) = y by omega]; exact h1) (by omega)
  · rcases hback y hy with h1 | h1
    · exact h.q y h1
    · exact hr y h1
  · by_cases e : n = z.toNat
    · rw [e, ho] at h2
      cases h2
      exact .inr (ho' y h3)
    · exact key y h4 (h.c n o' (by simpa [metSet, e] using h1) h2 y h3 h4)
  · rw [cnt_set hM (by omega) _ (by omega), h.k]
theorem Wl.done {g : Gr} {M : Nat → Bool} {k : Nat} (h : Wl g M [] k) (hr : ∀ o, o ∈ g.obs → ∀ z, z ∈ o.ps → z ≤ g.obs.length) : k = g.obs.length ↔ ∀ n, 1 ≤ n → n ≤ g.obs.length → Known g n := by
  have hk : ∀ n, Known g n → M n = true := by
    intro n hn
    have nil : ∀ {z : Int}, M z.toNat = true ∨ z ∈ ([] : List Int) → M z.toNat = true := fun h9 => h9.elim id (fun h8 => by simp at h8)
    induction hn with
    | slot t f n h1 h2 h3 h4 => have := nil (h.r (n : Int) (.inl ⟨t, h1, f, h2, h3⟩) (by omega)); simpa using this
    | hand n h1 h2 => have := nil (h.r (n : Int) (.inr (.inl h1)) (by omega)); simpa using this
    | reg n h1 h2 => have := nil (h.r (n : Int) (.inr (.inr (.inl h1))) (by omega)); simpa using this
    | que n h1 h2 => have := nil (h.r (n : Int) (.inr (.inr (.inr h1))) (by omega)); simpa using this
    | ptr m n o h1 h2 h3 h4 ih => have := nil (h.c m o ih h2 (n : Int) h3 (by omega)); simpa using this
  rw [h.k, cnt_all]
  exact ⟨fun h1 n h2 h3 => (h.m n (h1 n h2 h3)).2.2, fun h1 n h2 h3 => hk n (h1 n h2 h3)⟩
end Go.Proofs.YtkekaifiahjljaaGreatDoor.Im
