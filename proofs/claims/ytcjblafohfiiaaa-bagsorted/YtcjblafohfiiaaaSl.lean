/-
  BagSorted: what is true of the table's lists.
-/
import Derived.Test.YtcjblafohfiiaaaWk
set_option linter.unusedVariables false
namespace Go.Proofs.Ytcjblafohfiiaaa
open Go.RowKit

/-- Each entry's word is the last place ahead of i where l has the key. -/
def Ent (l : List Int) (i : Nat) (ks vs : List Int) : Prop := ∀ (p : Nat) (k v : Int), ks[p]? = some k → vs[p]? = some v → ∃ m : Nat, v = (m : Int) ∧ m < i ∧ l[m]? = some k ∧ ∀ m', m < m' → m' < i → l[m']? ≠ some k

/-- The keys are those of l's first i things that aren't gone. -/
def Has (l : List Int) (i : Nat) (ks : List Int) (gone : Int → Prop) : Prop := ∀ (m : Nat) (k : Int), m < i → l[m]? = some k → ((∃ p : Nat, ks[p]? = some k) ↔ ¬ gone k)

theorem not_key {ks : List Int} {k : Int} {p : Nat} (hs : Srt ltI ks) (hp : CutAt ltI ks k p) (hf : ks[p]? ≠ some k) (q : Nat) : ks[q]? ≠ some k := fun h => by
  have := hp.found sordI hs q h
  subst this
  exact hf h

theorem ent_fresh {l ks vs : List Int} {i p : Nat} {k : Int} (h : Ent l i ks vs) (hs : Srt ltI ks) (hl : vs.length = ks.length) (hp : CutAt ltI ks k p) (hf : ks[p]? ≠ some k) (hk : l[i]? = some k) : Ent l (i + 1) (ins ks p k) (ins vs p (i : Int)) := by
  intro q k' v' h1 h2
  rw [ins_get _ _ _ hp.1] at h1
  rw [ins_get _ _ _ (by have := hp.1; omega)] at h2
  have old : ∀ r, ks[r]? = some k' → vs[r]? = some v' → ∃ m : Nat, v' = (m : Int) ∧ m < i + 1 ∧ l[m]? = some k' ∧ ∀ m', m < m' → m' < i + 1 → l[m']? ≠ some k' := fun r e1 e2 => by
    obtain ⟨m, hv, hm, hlm, hlast⟩ := h r k' v' e1 e2
    refine ⟨m, hv, by omega, hlm, fun m' a b e => ?_⟩
    by_cases hmi : m' < i
    · exact hlast m' a hmi e
    · obtain rfl : m' = i := by omega
      rw [hk] at e
      cases e
      exact not_key hs hp hf r e1
  by_cases c1 : q < p
  · rw [if_pos c1] at h1 h2
    exact old q h1 h2
  · rw [if_neg c1] at h1 h2
    by_cases c2 : q = p
    · rw [if_pos c2] at h1 h2
      cases h1; cases h2
      exact ⟨i, rfl, by omega, hk, fun m' a b => by omega⟩
    · rw [if_neg c2] at h1 h2
      exact old _ h1 h2

theorem ent_again {l ks vs : List Int} {i p : Nat} {k : Int} (h : Ent l i ks vs) (hs : Srt ltI ks) (hl : vs.length = ks.length) (hp : CutAt ltI ks k p) (hf : ks[p]? = some k) (hk : l[i]? = some k) : Ent l (i + 1) ks (vs.set p (i : Int)) := by
  intro q k' v' h1 h2
  rw [List.getElem?_set] at h2
  by_cases c : p = q
  · subst c
    rw [if_pos rfl] at h2
    split at h2
    · cases h2
      rw [hf] at h1; cases h1
      exact ⟨i, rfl, by omega, hk, fun m' a b => by omega⟩
    · cases h2
  · rw [if_neg c] at h2
    obtain ⟨m, hv, hm, hlm, hlast⟩ := h q k' v' h1 h2
    refine ⟨m, hv, by omega, hlm, fun m' a b e => ?_⟩
    by_cases hmi : m' < i
    · exact hlast m' a hmi e
    · obtain rfl : m' = i := by omega
      rw [hk] at e
      cases e
      exact c (hp.found sordI hs q h1).symm

theorem has_fresh {l ks : List Int} {i p : Nat} {k : Int} (h : Has l i ks (fun _ => False)) (hp : p ≤ ks.length) (hk : l[i]? = some k) : Has l (i + 1) (ins ks p k) (fun _ => False) := by
  intro m k' hm hlm
  refine ⟨fun _ h => h, fun _ => ?_⟩
  by_cases hmi : m < i
  · obtain ⟨q, hq⟩ := (h m k' hmi hlm).2 (fun h => h)
    by_cases c : q < p
    · exact ⟨q, by rw [ins_get _ _ _ hp, if_pos c]; exact hq⟩
    · exact ⟨q + 1, by rw [ins_get _ _ _ hp, if_neg (by omega), if_neg (by omega)]; exact hq⟩
  · obtain rfl : m = i := by omega
    rw [hk] at hlm; cases hlm
    exact ⟨p, by rw [ins_get _ _ _ hp, if_neg (by omega), if_pos rfl]⟩

theorem has_again {l ks : List Int} {i p : Nat} {k : Int} (h : Has l i ks (fun _ => False)) (hf : ks[p]? = some k) (hk : l[i]? = some k) : Has l (i + 1) ks (fun _ => False) := by
  intro m k' hm hlm
  refine ⟨fun _ h => h, fun _ => ?_⟩
  by_cases hmi : m < i
  · exact (h m k' hmi hlm).2 (fun h => h)
  · obtain rfl : m = i := by omega
    rw [hk] at hlm; cases hlm
    exact ⟨p, hf⟩

theorem ent_del {l ks vs : List Int} {i p : Nat} (h : Ent l i ks vs) (hl : vs.length = ks.length) (hp : p < ks.length) : Ent l i (del ks p) (del vs p) := by
  intro q k v h1 h2
  rw [del_get _ _ _ hp] at h1
  rw [del_get _ _ _ (by omega)] at h2
  by_cases c : q < p
  · rw [if_pos c] at h1 h2; exact h q k v h1 h2
  · rw [if_neg c] at h1 h2; exact h _ k v h1 h2

/-- Gone: among the first j of d. -/
def Gone (d : List Int) (j : Nat) (k : Int) : Prop := ∃ t, t < j ∧ d[t]? = some k

theorem has_del {l ks d : List Int} {n j p : Nat} {k : Int} (h : Has l n ks (Gone d j)) (hs : Srt ltI ks) (hp : CutAt ltI ks k p) (hf : ks[p]? = some k) (hd : d[j]? = some k) : Has l n (del ks p) (Gone d (j + 1)) := by
  have hpl : p < ks.length := (List.getElem?_eq_some_iff.1 hf).1
  intro m k' hm hlm
  constructor
  · rintro ⟨q, hq⟩ ⟨t, ht, hdt⟩
    rw [del_get _ _ _ hpl] at hq
    obtain ⟨r, hr, hrp⟩ : ∃ r, ks[r]? = some k' ∧ r ≠ p := by
      split at hq
      · exact ⟨q, hq, by omega⟩
      · exact ⟨q + 1, hq, by omega⟩
    by_cases htj : t < j
    · exact (h m k' hm hlm).1 ⟨r, hr⟩ ⟨t, htj, hdt⟩
    · obtain rfl : t = j := by omega
      rw [hd] at hdt; cases hdt
      exact hrp (hp.found sordI hs r hr)
  · intro hg
    obtain ⟨q, hq⟩ := (h m k' hm hlm).2 (fun ⟨t, ht, hdt⟩ => hg ⟨t, by omega, hdt⟩)
    have hqp : q ≠ p := fun e => by
      subst e
      rw [hf] at hq; cases hq
      exact hg ⟨j, by omega, hd⟩
    by_cases c : q < p
    · exact ⟨q, by rw [del_get _ _ _ hpl, if_pos c]; exact hq⟩
    · refine ⟨q - 1, ?_⟩
      rw [del_get _ _ _ hpl, if_neg (by omega), show q - 1 + 1 = q by omega]; exact hq

theorem has_nodel {l ks d : List Int} {n j p : Nat} {k : Int} (h : Has l n ks (Gone d j)) (hs : Srt ltI ks) (hp : CutAt ltI ks k p) (hf : ks[p]? ≠ some k) (hd : d[j]? = some k) : Has l n ks (Gone d (j + 1)) := by
  intro m k' hm hlm
  constructor
  · rintro ⟨q, hq⟩ ⟨t, ht, hdt⟩
    by_cases htj : t < j
    · exact (h m k' hm hlm).1 ⟨q, hq⟩ ⟨t, htj, hdt⟩
    · obtain rfl : t = j := by omega
      rw [hd] at hdt; cases hdt
      exact not_key hs hp hf q hq
  · intro hg
    exact (h m k' hm hlm).2 (fun ⟨t, ht, hdt⟩ => hg ⟨t, by omega, hdt⟩)

/-- What the closure knows of the nearest key. -/
def nf (ask : Int) (ks : List Int) : Int × Bool := ks.foldl (fun s k => if k ≤ ask then (k, true) else s) (0, false)

theorem nf_snoc (ask : Int) (ks : List Int) (k : Int) : nf ask (ks ++ [k]) = if k ≤ ask then (k, true) else nf ask ks := by simp [nf]

theorem nf_above (ask : Int) (ks : List Int) (p : Nat) (h : ∀ (i : Nat) k, p ≤ i → ks[i]? = some k → ask < k) (n : Nat) : nf ask (ks.take (p + n)) = nf ask (ks.take p) := by
  induction n with
  | zero => rfl
  | succ n ih =>
    by_cases hl : p + n < ks.length
    · have e : ks.take (p + (n + 1)) = ks.take (p + n) ++ [ks[p + n]] := by rw [← Nat.add_assoc, List.take_add_one, List.getElem?_eq_getElem hl]; rfl
      have := h (p + n) _ (by omega) (List.getElem?_eq_getElem hl)
      rw [e, nf_snoc, if_neg (by omega), ih]
    · rw [List.take_of_length_le (by omega), ← ih, List.take_of_length_le (by omega)]

theorem nf_none (ask : Int) (ks : List Int) (h : ∀ (i : Nat) k, ks[i]? = some k → ask < k) : nf ask ks = (0, false) := by
  have := nf_above ask ks 0 (fun i k _ => h i k) ks.length
  rw [Nat.zero_add, List.take_length] at this
  rw [this]; rfl

theorem nf_some (ask : Int) (ks : List Int) (q : Nat) (k : Int) (hq : ks[q]? = some k) (hk : k ≤ ask) (h : ∀ (i : Nat) k, q + 1 ≤ i → ks[i]? = some k → ask < k) : nf ask ks = (k, true) := by
  have := nf_above ask ks (q + 1) h ks.length
  rw [List.take_of_length_le (by omega)] at this
  rw [this, List.take_add_one, hq]
  show nf ask (ks.take q ++ [k]) = _
  rw [nf_snoc, if_pos hk]

end Go.Proofs.Ytcjblafohfiiaaa
