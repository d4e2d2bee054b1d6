/-
  Two lists of pairs that hold the same: plain mathematics.
-/
import Derived.Test.YtcjblafohfiiaabGreatTabK
set_option linter.unusedVariables false
namespace Go.Proofs.YtcjblafohfiiaabGreat

section
variable {α β : Type}

/-- The pair (k, v) is there. -/
def In2p (ks : List α) (vs : List β) (k : α) (v : β) : Prop := ∃ i : Nat, ks[i]? = some k ∧ vs[i]? = some v

/-- No key twice. -/
def Dst (ks : List α) : Prop := ∀ (i j : Nat) (k : α), ks[i]? = some k → ks[j]? = some k → i = j

theorem Srt.dst {lt : α → α → Bool} (ho : SOrd lt) {ks : List α} (h : Srt lt ks) : Dst ks := by
  intro i j k hi hj
  rcases Nat.lt_trichotomy i j with h1 | h1 | h1
  · have := h i j k k h1 hi hj; rw [ho.irr] at this; cases this
  · exact h1
  · have := h j i k k h1 hj hi; rw [ho.irr] at this; cases this

theorem in_set {ks : List α} {vs : List β} {p : Nat} {k : α} {v : β} (hd : Dst ks) (hp : ks[p]? = some k) (hl : vs.length = ks.length) (k' : α) (v' : β) : In2p ks (vs.set p v) k' v' ↔ (k' = k ∧ v' = v) ∨ (k' ≠ k ∧ In2p ks vs k' v') := by
  have hpl : p < vs.length := by have := (List.getElem?_eq_some_iff.1 hp).1; omega
  constructor
  · rintro ⟨i, h1, h2⟩
    rw [List.getElem?_set] at h2
    by_cases e : p = i
    · subst e
      rw [if_pos rfl, if_pos hpl] at h2
      rw [hp] at h1
      cases h1; cases h2
      exact .inl ⟨rfl, rfl⟩
    · rw [if_neg e] at h2
      refine .inr ⟨fun e' => ?_, i, h1, h2⟩
      subst e'
      exact e (hd _ _ _ hp h1)
  · rintro (⟨rfl, rfl⟩ | ⟨hne, i, h1, h2⟩)
    · exact ⟨p, hp, by rw [List.getElem?_set, if_pos rfl, if_pos hpl]⟩
    · refine ⟨i, h1, ?_⟩
      rw [List.getElem?_set, if_neg]
      · exact h2
      · intro e
        subst e
        rw [hp] at h1
        cases h1
        exact hne rfl

theorem in_ins {ks : List α} {vs : List β} {p : Nat} {k : α} {v : β} (hp : p ≤ ks.length) (hl : vs.length = ks.length) (hn : ∀ i : Nat, ks[i]? ≠ some k) (k' : α) (v' : β) : In2p (ins ks p k) (ins vs p v) k' v' ↔ (k' = k ∧ v' = v) ∨ (k' ≠ k ∧ In2p ks vs k' v') := by
  constructor
  · rintro ⟨i, h1, h2⟩
    rw [ins_get _ _ _ hp] at h1
    rw [ins_get _ _ _ (by omega)] at h2
    split at h1
    · rename_i h3
      rw [if_pos h3] at h2
      exact .inr ⟨fun e => hn i (e ▸ h1), i, h1, h2⟩
    · rename_i h3
      rw [if_neg h3] at h2
      split at h1
      · rename_i h4
        rw [if_pos h4] at h2
        cases h1; cases h2
        exact .inl ⟨rfl, rfl⟩
      · rename_i h4
        rw [if_neg h4] at h2
        exact .inr ⟨fun e => hn _ (e ▸ h1), _, h1, h2⟩
  · rintro (⟨rfl, rfl⟩ | ⟨hne, i, h1, h2⟩)
    · refine ⟨p, ?_, ?_⟩
      · rw [ins_get _ _ _ hp, if_neg (by omega), if_pos rfl]
      · rw [ins_get _ _ _ (by omega), if_neg (by omega), if_pos rfl]
    · by_cases h : i < p
      · refine ⟨i, ?_, ?_⟩
        · rw [ins_get _ _ _ hp, if_pos h]; exact h1
        · rw [ins_get _ _ _ (by omega), if_pos h]; exact h2
      · refine ⟨i + 1, ?_, ?_⟩
        · rw [ins_get _ _ _ hp, if_neg (by omega), if_neg (by omega)]; exact h1
        · rw [ins_get _ _ _ (by omega), if_neg (by omega), if_neg (by omega)]; exact h2

theorem in_del {ks : List α} {vs : List β} {p : Nat} {k : α} (hd : Dst ks) (hp : ks[p]? = some k) (hl : vs.length = ks.length) (k' : α) (v' : β) : In2p (del ks p) (del vs p) k' v' ↔ k' ≠ k ∧ In2p ks vs k' v' := by
  have hpl : p < ks.length := (List.getElem?_eq_some_iff.1 hp).1
  constructor
  · rintro ⟨i, h1, h2⟩
    rw [del_get _ _ _ hpl] at h1
    rw [del_get _ _ _ (by omega)] at h2
    split at h1
    · rename_i h3
      rw [if_pos h3] at h2
      refine ⟨fun e => ?_, i, h1, h2⟩
      subst e
      have := hd _ _ _ hp h1
      omega
    · rename_i h3
      rw [if_neg h3] at h2
      refine ⟨fun e => ?_, i + 1, h1, h2⟩
      subst e
      have := hd _ _ _ hp h1
      omega
  · rintro ⟨hne, i, h1, h2⟩
    have hip : i ≠ p := fun e => by subst e; rw [hp] at h1; cases h1; exact hne rfl
    by_cases h : i < p
    · refine ⟨i, ?_, ?_⟩
      · rw [del_get _ _ _ hpl, if_pos h]; exact h1
      · rw [del_get _ _ _ (by omega), if_pos h]; exact h2
    · refine ⟨i - 1, ?_, ?_⟩
      · rw [del_get _ _ _ hpl, if_neg (by omega), show i - 1 + 1 = i by omega]; exact h1
      · rw [del_get _ _ _ (by omega), if_neg (by omega), show i - 1 + 1 = i by omega]; exact h2

/-- The last one comes into the place of the j-th. -/
def swp (l : List α) (j n : Nat) (x : α) : List α := (l.set j x).take n

theorem swp_length (l : List α) (j n : Nat) (x : α) (h : n ≤ l.length) : (swp l j n x).length = n := by simp [swp]; omega

theorem swp_get (l : List α) (j n : Nat) (x : α) (hj : j < l.length) (i : Nat) : (swp l j n x)[i]? = if i < n then (if j = i then some x else l[i]?) else none := by
  unfold swp
  rw [List.getElem?_take]
  split
  · rw [List.getElem?_set]
    split
    · first | rfl | rw [if_pos hj]
    · rfl
  · rfl

theorem in_swp {ks : List α} {vs : List β} {j n : Nat} {k x : α} {y : β} (hd : Dst ks) (hj : ks[j]? = some k) (hl : vs.length = ks.length) (hn : n + 1 = ks.length) (hx : ks[n]? = some x) (hy : vs[n]? = some y) (k' : α) (v' : β) :
    In2p (swp ks j n x) (swp vs j n y) k' v' ↔ k' ≠ k ∧ In2p ks vs k' v' := by
  have hjl : j < ks.length := (List.getElem?_eq_some_iff.1 hj).1
  constructor
  · rintro ⟨i, h1, h2⟩
    rw [swp_get _ _ _ _ hjl] at h1
    rw [swp_get _ _ _ _ (by omega)] at h2
    split at h1
    · rename_i h3
      rw [if_pos h3] at h2
      split at h1
      · rename_i h4
        rw [if_pos h4] at h2
        cases h1; cases h2
        refine ⟨fun e => ?_, n, hx, hy⟩
        subst e
        have := hd _ _ _ hj hx
        omega
      · rename_i h4
        rw [if_neg h4] at h2
        refine ⟨fun e => ?_, i, h1, h2⟩
        subst e
        exact h4 (hd _ _ _ hj h1)
    · cases h1
  · rintro ⟨hne, i, h1, h2⟩
    have hij : j ≠ i := fun e => by subst e; rw [hj] at h1; cases h1; exact hne rfl
    have hil : i < ks.length := (List.getElem?_eq_some_iff.1 h1).1
    by_cases h : i < n
    · refine ⟨i, ?_, ?_⟩
      · rw [swp_get _ _ _ _ hjl, if_pos h, if_neg hij]; exact h1
      · rw [swp_get _ _ _ _ (by omega), if_pos h, if_neg hij]; exact h2
    · obtain rfl : i = n := by omega
      refine ⟨j, ?_, ?_⟩
      · rw [swp_get _ _ _ _ hjl, if_pos (by omega), if_pos rfl, ← hx]; exact h1
      · rw [swp_get _ _ _ _ (by omega), if_pos (by omega), if_pos rfl, ← hy]; exact h2

theorem dst_snoc {ks : List α} {k : α} (hd : Dst ks) (hn : ∀ i : Nat, ks[i]? ≠ some k) : Dst (ks ++ [k]) := by
  have hg : ∀ i x, (ks ++ [k])[i]? = some x → (i < ks.length ∧ ks[i]? = some x) ∨ (i = ks.length ∧ x = k) := fun i x h => by
    rw [List.getElem?_append] at h
    split at h
    · exact .inl ⟨by assumption, h⟩
    · have hl := (List.getElem?_eq_some_iff.1 h).1
      simp at hl
      have e : i - ks.length = 0 := by omega
      rw [e] at h
      simp at h
      exact .inr ⟨by omega, h.symm⟩
  intro i j x hi hj
  rcases hg i x hi with ⟨h1, h2⟩ | ⟨h1, h2⟩
  · rcases hg j x hj with ⟨h3, h4⟩ | ⟨h3, h4⟩
    · exact hd i j x h2 h4
    · subst h4; exact absurd h2 (hn i)
  · rcases hg j x hj with ⟨h3, h4⟩ | ⟨h3, h4⟩
    · subst h2; exact absurd h4 (hn j)
    · omega

theorem dst_swp {ks : List α} {j n : Nat} {k x : α} (hd : Dst ks) (hj : ks[j]? = some k) (hn : n + 1 = ks.length) (hx : ks[n]? = some x) : Dst (swp ks j n x) := by
  have hjl : j < ks.length := (List.getElem?_eq_some_iff.1 hj).1
  have hg : ∀ i y, (swp ks j n x)[i]? = some y → i < n ∧ ((i = j ∧ y = x) ∨ (i ≠ j ∧ ks[i]? = some y)) := fun i y h => by
    rw [swp_get _ _ _ _ hjl] at h
    split at h
    · split at h
      · rename_i h1 h2
        cases h
        exact ⟨h1, .inl ⟨h2.symm, rfl⟩⟩
      · rename_i h1 h2
        exact ⟨h1, .inr ⟨fun e => h2 e.symm, h⟩⟩
    · cases h
  intro a b y ha hb
  obtain ⟨ha1, ha2⟩ := hg a y ha
  obtain ⟨hb1, hb2⟩ := hg b y hb
  rcases ha2 with ⟨h1, h2⟩ | ⟨h1, h2⟩
  · rcases hb2 with ⟨h3, h4⟩ | ⟨h3, h4⟩
    · omega
    · subst h2
      have := hd _ _ _ hx h4
      omega
  · rcases hb2 with ⟨h3, h4⟩ | ⟨h3, h4⟩
    · subst h4
      have := hd _ _ _ hx h2
      omega
    · exact hd _ _ _ h2 h4

/-- The table's pairs and the document's: the same, in whatever order. -/
structure Same (ks : List α) (vs : List β) (kr : List α) (vr : List β) : Prop where
  l1 : vs.length = ks.length
  l2 : vr.length = kr.length
  len : kr.length = ks.length
  d1 : Dst ks
  d2 : Dst kr
  iff : ∀ k v, In2p kr vr k v ↔ In2p ks vs k v

theorem Same.nil : Same ([] : List α) ([] : List β) [] [] := ⟨rfl, rfl, rfl, fun i j k h => by simp at h, fun i j k h => by simp at h, fun k v => Iff.rfl⟩

theorem Same.key {ks : List α} {vs : List β} {kr : List α} {vr : List β} (h : Same ks vs kr vr) (k : α) : (∃ i : Nat, kr[i]? = some k) ↔ ∃ i : Nat, ks[i]? = some k := by
  constructor
  · rintro ⟨i, hi⟩
    have hl := (List.getElem?_eq_some_iff.1 hi).1
    have hl2 : i < vr.length := by rw [h.l2]; exact hl
    obtain ⟨p, hp, _⟩ := (h.iff k vr[i]).1 ⟨i, hi, List.getElem?_eq_getElem hl2⟩
    exact ⟨p, hp⟩
  · rintro ⟨i, hi⟩
    have hl := (List.getElem?_eq_some_iff.1 hi).1
    have hl2 : i < vs.length := by rw [h.l1]; exact hl
    obtain ⟨p, hp, _⟩ := (h.iff k vs[i]).2 ⟨i, hi, List.getElem?_eq_getElem hl2⟩
    exact ⟨p, hp⟩

/-- What stands at a key that both have. -/
theorem Same.val {ks : List α} {vs : List β} {kr : List α} {vr : List β} (h : Same ks vs kr vr) {k : α} {v v' : β} {p j : Nat} (hp : ks[p]? = some k) (hv : vs[p]? = some v) (hj : kr[j]? = some k) (hv' : vr[j]? = some v') : v = v' := by
  obtain ⟨q, h1, h2⟩ := (h.iff k v').1 ⟨j, hj, hv'⟩
  obtain rfl := h.d1 _ _ _ hp h1
  rw [hv] at h2
  exact Option.some.inj h2

theorem Same.again {ks : List α} {vs : List β} {kr : List α} {vr : List β} (h : Same ks vs kr vr) {k : α} (v : β) {p j : Nat} (hp : ks[p]? = some k) (hj : kr[j]? = some k) : Same ks (vs.set p v) kr (vr.set j v) :=
  ⟨by simp [h.l1], by simp [h.l2], h.len, h.d1, h.d2, fun k' v' => by rw [in_set h.d2 hj h.l2, in_set h.d1 hp h.l1, h.iff]⟩

theorem Same.fresh {lt : α → α → Bool} {ks : List α} {vs : List β} {kr : List α} {vr : List β} (h : Same ks vs kr vr) {k : α} (v : β) {p : Nat} (hp : p ≤ ks.length) (hn : ∀ i : Nat, ks[i]? ≠ some k) (hd : Dst (ins ks p k)) : Same (ins ks p k) (ins vs p v) (kr ++ [k]) (vr ++ [v]) := by
  have hn2 : ∀ i : Nat, kr[i]? ≠ some k := fun i hi => by
    obtain ⟨q, hq⟩ := (h.key k).1 ⟨i, hi⟩
    exact hn q hq
  refine ⟨by rw [ins_length _ _ _ (by have := h.l1; omega), ins_length _ _ _ hp, h.l1], by simp [h.l2], by rw [ins_length _ _ _ hp]; simp [h.len], hd, dst_snoc h.d2 hn2, fun k' v' => ?_⟩
  rw [in_ins hp h.l1 hn, ← h.iff]
  have e := in_ins (p := kr.length) (vs := vr) (k := k) (v := v) (Nat.le_refl _) h.l2 hn2 k' v'
  rw [ins_end _ _ _ rfl, ins_end vr v kr.length h.l2.symm] at e
  exact e

theorem Same.drop {ks : List α} {vs : List β} {kr : List α} {vr : List β} (h : Same ks vs kr vr) {k x : α} {y : β} {p j n : Nat} (hp : ks[p]? = some k) (hj : kr[j]? = some k) (hn : n + 1 = kr.length) (hx : kr[n]? = some x) (hy : vr[n]? = some y) (hd : Dst (del ks p)) : Same (del ks p) (del vs p) (swp kr j n x) (swp vr j n y) := by
  have hpl : p < ks.length := (List.getElem?_eq_some_iff.1 hp).1
  have h1 := h.l1
  have h2 := h.l2
  have h3 := h.len
  refine ⟨by rw [del_length _ _ (by omega), del_length _ _ hpl, h.l1], by rw [swp_length _ _ _ _ (by omega), swp_length _ _ _ _ (by omega)], by rw [swp_length _ _ _ _ (by omega), del_length _ _ hpl]; omega, hd, dst_swp h.d2 hj hn hx, fun k' v' => ?_⟩
  rw [in_swp h.d2 hj h.l2 hn hx hy, in_del h.d1 hp h.l1, h.iff]

/-- The best key that isn't above k, among the first i: a is where it stands. -/
def Best (lt : α → α → Bool) (kr : List α) (k : α) (i : Nat) (a : Option Nat) : Prop :=
  match a with
  | none => ∀ (j : Nat) x, j < i → kr[j]? = some x → lt k x = true
  | some a => a < i ∧ ∃ y, kr[a]? = some y ∧ lt k y = false ∧ ∀ (j : Nat) x, j < i → kr[j]? = some x → lt k x = false → lt y x = false

/-- The least key above all of ks's first m, among the first i. -/
def Least (lt : α → α → Bool) (kr ks : List α) (m i : Nat) (a : Option Nat) : Prop :=
  match a with
  | none => ∀ (j : Nat) x, j < i → kr[j]? = some x → ∃ q, q < m ∧ ks[q]? = some x
  | some a => a < i ∧ ∃ y, kr[a]? = some y ∧ (∀ q, q < m → ks[q]? ≠ some y) ∧ ∀ (j : Nat) x, j < i → kr[j]? = some x → (∀ q, q < m → ks[q]? ≠ some x) → lt x y = false

theorem Least.next {lt : α → α → Bool} (ho : SOrd lt) {ks kr : List α} {vs vr : List β} (h : Same ks vs kr vr) (hs : Srt lt ks) {m : Nat} (hm : m < ks.length) {a : Option Nat} (hb : Least lt kr ks m kr.length a) : ∃ b, a = some b ∧ b < kr.length ∧ kr[b]? = ks[m]? := by
  obtain ⟨z, hz⟩ : ∃ z, ks[m]? = some z := ⟨_, List.getElem?_eq_getElem hm⟩
  obtain ⟨j, hj⟩ := (h.key z).2 ⟨m, hz⟩
  have hjl := (List.getElem?_eq_some_iff.1 hj).1
  have hfree : ∀ q, q < m → ks[q]? ≠ some z := fun q hq e => by have := h.d1 _ _ _ hz e; omega
  cases a with
  | none =>
    obtain ⟨q, hq, e⟩ := hb j z hjl hj
    exact absurd e (hfree q hq)
  | some b =>
    obtain ⟨hbl, y, hy, hyn, hmin⟩ := hb
    refine ⟨b, rfl, hbl, ?_⟩
    have h1 := hmin j z hjl hj hfree
    obtain ⟨q, hq⟩ := (h.key y).1 ⟨b, hy⟩
    have hqm : ¬ q < m := fun e => hyn q e hq
    rcases Nat.lt_or_ge m q with h2 | h2
    · have := hs m q z y h2 hz hq
      rw [this] at h1; cases h1
    · obtain rfl : q = m := by omega
      rw [hy, hq]

theorem Best.near {lt : α → α → Bool} (ho : SOrd lt) {ks kr : List α} {vs vr : List β} (h : Same ks vs kr vr) (hs : Srt lt ks) {k : α} {p : Nat} (hp : CutAt lt ks k p) {a : Option Nat} (hb : Best lt kr k kr.length a) :
    match a with
    | none => p = 0 ∧ ks[0]? ≠ some k
    | some b => ∃ q x v, kr[b]? = some x ∧ vr[b]? = some v ∧ ks[q]? = some x ∧ vs[q]? = some v ∧ ((ks[p]? = some k ∧ q = p) ∨ (ks[p]? ≠ some k ∧ q + 1 = p)) := by
  cases a with
  | none =>
    have hno : ∀ q x, ks[q]? = some x → lt k x = true := fun q x hq => by
      obtain ⟨j, hj⟩ := (h.key x).2 ⟨q, hq⟩
      exact hb j x (List.getElem?_eq_some_iff.1 hj).1 hj
    refine ⟨?_, fun e => by have := hno _ _ e; rw [ho.irr] at this; cases this⟩
    rcases Nat.eq_zero_or_pos p with e | e
    · exact e
    · have hl : 0 < ks.length := by have := hp.1; omega
      have h1 := hp.2.1 0 ks[0] e (List.getElem?_eq_getElem hl)
      have h2 := hno 0 ks[0] (List.getElem?_eq_getElem hl)
      have h3 := ho.trans _ _ _ h1 h2
      rw [ho.irr] at h3; cases h3
  | some b =>
    obtain ⟨hbl, x, hx, hkx, hmax⟩ := hb
    obtain ⟨v, hv⟩ : ∃ v, vr[b]? = some v := ⟨_, List.getElem?_eq_getElem (by rw [h.l2]; exact hbl)⟩
    obtain ⟨q, hq, hqv⟩ := (h.iff x v).1 ⟨b, hx, hv⟩
    have hql := (List.getElem?_eq_some_iff.1 hq).1
    have hmax' : ∀ q' x', ks[q']? = some x' → lt k x' = false → lt x x' = false := fun q' x' hq' hk' => by
      obtain ⟨j, hj⟩ := (h.key x').2 ⟨q', hq'⟩
      exact hmax j x' (List.getElem?_eq_some_iff.1 hj).1 hj hk'
    refine ⟨q, x, v, hx, hv, hq, hqv, ?_⟩
    by_cases hf : ks[p]? = some k
    · refine .inl ⟨hf, ?_⟩
      have h1 := hmax' p k hf (ho.irr k)
      have h2 := ho.tri x k h1 hkx
      subst h2
      exact h.d1 _ _ _ hq hf
    · refine .inr ⟨hf, ?_⟩
      have hqp : q < p := by
        rcases Nat.lt_or_ge q p with h1 | h1
        · exact h1
        · have h2 := hp.2.2 q x h1 hq
          have h3 := ho.tri x k h2 hkx
          subst h3
          obtain rfl := hp.found ho hs q hq
          exact absurd hq hf
      rcases Nat.lt_or_ge (q + 1) p with h1 | h1
      · have hl1 : q + 1 < ks.length := by have := hp.1; omega
        have h2 := hp.2.1 (q + 1) ks[q + 1] h1 (List.getElem?_eq_getElem hl1)
        have h3 : lt k ks[q + 1] = false := by
          cases h4 : lt k ks[q + 1] with
          | false => rfl
          | true => have := ho.trans _ _ _ h2 h4; rw [ho.irr] at this; cases this
        have h5 := hmax' (q + 1) ks[q + 1] (List.getElem?_eq_getElem hl1) h3
        have h6 := hs q (q + 1) x ks[q + 1] (by omega) hq (List.getElem?_eq_getElem hl1)
        rw [h6] at h5; cases h5
      · omega

end

end Go.Proofs.YtcjblafohfiiaabGreat
