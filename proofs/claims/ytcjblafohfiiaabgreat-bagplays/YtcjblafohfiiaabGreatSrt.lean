/-
  Sorted lists and the place of a key: plain mathematics.
-/
import Derived.Laws.Strings
set_option linter.unusedVariables false
namespace Go.Proofs.YtcjblafohfiiaabGreat

/-- lt is a strict linear order. -/
structure SOrd {α : Type} (lt : α → α → Bool) : Prop where
  irr : ∀ a, lt a a = false
  trans : ∀ a b c, lt a b = true → lt b c = true → lt a c = true
  tri : ∀ a b, lt a b = false → lt b a = false → a = b

def ltS (a b : ByteArray) : Bool := Op.bytesLess a.toList b.toList

def ltI (a b : Int) : Bool := decide (a < b)

theorem less_lt : ∀ x y : List UInt8, Op.bytesLess x y = decide (x < y)
  | [], [] => by simp [Op.bytesLess]
  | [], _ :: _ => by simp [Op.bytesLess]
  | _ :: _, [] => by simp [Op.bytesLess]
  | a :: x, b :: y => by
    simp only [Op.bytesLess, less_lt x y, List.cons_lt_cons_iff]
    by_cases h1 : a < b <;> by_cases h2 : a = b <;> simp [h1, h2]

theorem toList_inj (a b : ByteArray) (h : a.toList = b.toList) : a = b := by
  rw [ByteArray.toList_eq, ByteArray.toList_eq] at h
  exact ByteArray.ext (Array.ext' h)

theorem sordI : SOrd ltI where
  irr := fun a => by simp [ltI]
  trans := fun a b c h1 h2 => by simp [ltI] at *; omega
  tri := fun a b h1 h2 => by simp [ltI] at *; omega

theorem sordS : SOrd ltS where
  irr := fun a => by
    simp only [ltS, less_lt, decide_eq_false_iff_not]
    exact List.lt_irrefl _
  trans := fun a b c h1 h2 => by
    simp only [ltS, less_lt, decide_eq_true_eq] at *
    exact List.lt_trans h1 h2
  tri := fun a b h1 h2 => by
    simp only [ltS, less_lt, decide_eq_false_iff_not] at *
    exact toList_inj a b (List.le_antisymm h2 h1)

/-- What cmp.Compare answers. -/
def cmpOf {α : Type} (lt : α → α → Bool) (a b : α) : Int := if lt a b = true then -1 else if lt b a = true then 1 else 0

theorem cmpOf_neg {α : Type} {lt : α → α → Bool} (a b : α) : cmpOf lt a b < 0 ↔ lt a b = true := by
  unfold cmpOf; split
  · simp [*]
  · split <;> simp [*]

theorem cmpOf_zero {α : Type} {lt : α → α → Bool} (ho : SOrd lt) (a b : α) : cmpOf lt a b = 0 ↔ a = b := by
  unfold cmpOf; split
  · rename_i h
    constructor
    · intro h1; omega
    · intro h1; subst h1; rw [ho.irr] at h; cases h
  · split
    · rename_i h
      constructor
      · intro h1; omega
      · intro h1; subst h1; rw [ho.irr] at h; cases h
    · rename_i h1 h2
      simp only [true_iff]
      exact ho.tri a b (by simpa using h1) (by simpa using h2)

section
variable {α : Type} (lt : α → α → Bool)

def Srt (l : List α) : Prop := ∀ (i j : Nat) (a b : α), i < j → l[i]? = some a → l[j]? = some b → lt a b = true

/-- p parts l into what is below k and what isn't. -/
def CutAt (l : List α) (k : α) (p : Nat) : Prop := p ≤ l.length ∧ (∀ (i : Nat) (a : α), i < p → l[i]? = some a → lt a k = true) ∧ (∀ (i : Nat) (a : α), p ≤ i → l[i]? = some a → lt a k = false)

variable {lt}

theorem Srt.nil : Srt lt ([] : List α) := by intro i j a b _ h; simp at h

theorem Srt.below (ho : SOrd lt) {l : List α} (hs : Srt lt l) {k a : α} {m : Nat} (hm : l[m]? = some a) (h : lt a k = true) : ∀ i b, i < m + 1 → l[i]? = some b → lt b k = true := by
  intro i b hi hb
  rcases Nat.lt_or_ge i m with h1 | h1
  · exact ho.trans _ _ _ (hs i m b a h1 hb hm) h
  · obtain rfl : i = m := by omega
    rw [hb] at hm; cases hm; exact h

theorem Srt.above (ho : SOrd lt) {l : List α} (hs : Srt lt l) {k a : α} {m : Nat} (hm : l[m]? = some a) (h : lt a k = false) : ∀ i b, m ≤ i → l[i]? = some b → lt b k = false := by
  intro i b hi hb
  rcases Nat.lt_or_ge m i with h1 | h1
  · have h2 := hs m i a b h1 hm hb
    cases h3 : lt b k with
    | false => rfl
    | true => rw [ho.trans _ _ _ h2 h3] at h; cases h
  · obtain rfl : i = m := by omega
    rw [hb] at hm; cases hm; exact h

theorem CutAt.uniq {l : List α} {k : α} {p q : Nat} (h : CutAt lt l k p) (h' : CutAt lt l k q) : p = q := by
  rcases Nat.lt_trichotomy p q with h1 | h1 | h1
  · have hl : p < l.length := by have := h'.1; omega
    have a1 := h'.2.1 p l[p] h1 (List.getElem?_eq_getElem hl)
    have a2 := h.2.2 p l[p] (Nat.le_refl _) (List.getElem?_eq_getElem hl)
    rw [a1] at a2; cases a2
  · exact h1
  · have hl : q < l.length := by have := h.1; omega
    have a1 := h.2.1 q l[q] h1 (List.getElem?_eq_getElem hl)
    have a2 := h'.2.2 q l[q] (Nat.le_refl _) (List.getElem?_eq_getElem hl)
    rw [a1] at a2; cases a2

/-- A key that is there stands at its place. -/
theorem CutAt.found (ho : SOrd lt) {l : List α} {k : α} {p : Nat} (hs : Srt lt l) (h : CutAt lt l k p) (i : Nat) (hi : l[i]? = some k) : i = p := by
  rcases Nat.lt_trichotomy i p with h1 | h1 | h1
  · have := h.2.1 i k h1 hi; rw [ho.irr] at this; cases this
  · exact h1
  · have hl : p < l.length := by
      have := (List.getElem?_eq_some_iff.1 hi).1
      omega
    have a1 := h.2.2 p l[p] (Nat.le_refl _) (List.getElem?_eq_getElem hl)
    have a2 := hs p i l[p] k h1 (List.getElem?_eq_getElem hl) hi
    rw [a1] at a2; cases a2

def ins (l : List α) (p : Nat) (k : α) : List α := l.take p ++ k :: l.drop p

theorem ins_length (l : List α) (p : Nat) (k : α) (h : p ≤ l.length) : (ins l p k).length = l.length + 1 := by
  simp [ins]; omega

theorem ins_get (l : List α) (p : Nat) (k : α) (h : p ≤ l.length) (i : Nat) : (ins l p k)[i]? = if i < p then l[i]? else if i = p then some k else l[i - 1]? := by
  unfold ins
  rw [List.getElem?_append, List.length_take, Nat.min_eq_left h]
  split
  · rw [List.getElem?_take, if_pos (by assumption)]
  · split
    · rename_i h1 h2; subst h2; simp
    · rename_i h1 h2
      obtain ⟨d, hd⟩ : ∃ d, i - p = d + 1 := ⟨i - p - 1, by omega⟩
      rw [hd, List.getElem?_cons_succ, List.getElem?_drop]
      congr 1; omega

theorem Srt.ins (ho : SOrd lt) {l : List α} {k : α} {p : Nat} (hs : Srt lt l) (h : CutAt lt l k p) (hn : l[p]? ≠ some k) : Srt lt (ins l p k) := by
  have hgt : ∀ i a, p ≤ i → l[i]? = some a → lt k a = true := by
    intro i a hi ha
    cases h3 : lt k a with
    | true => rfl
    | false =>
      have e := ho.tri a k (h.2.2 i a hi ha) h3
      subst e
      obtain rfl := h.found ho hs i ha
      exact absurd ha hn
  intro i j a b hij ha hb
  rw [ins_get _ _ _ h.1] at ha hb
  split at ha
  · split at hb
    · exact hs i j a b hij ha hb
    · split at hb
      · cases hb; exact h.2.1 i a (by assumption) ha
      · exact hs i (j - 1) a b (by omega) ha hb
  · split at ha
    · cases ha
      rw [if_neg (by omega), if_neg (by omega)] at hb
      exact hgt _ _ (by omega) hb
    · rw [if_neg (by omega), if_neg (by omega)] at hb
      exact hs (i - 1) (j - 1) a b (by omega) ha hb

end

end Go.Proofs.YtcjblafohfiiaabGreat
