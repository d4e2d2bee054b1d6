/-
  Shortest paths: the numbers that one round meets anew; the row of those that were met; the row as it is read from its end.
-/
import Derived.Test.YtckgcpoheodbcaaDoorPLp
set_option linter.unusedVariables false
namespace Go.Proofs.YtckgcpoheodbcaaDoor.Lp

/-- Of l, gone through in order, new are those that aren't in seq. -/
structure NW (seq l new : List Nat) : Prop where
  pw : new.Pairwise (· < ·)
  mem : ∀ y, y ∈ new ↔ y ∈ l ∧ y ∉ seq

theorem NW.nil (seq : List Nat) : NW seq [] [] := ⟨List.Pairwise.nil, fun y => by simp⟩

theorem NW.skip {seq l new : List Nat} (h : NW seq l new) {x : Nat} (hx : x ∈ seq ∨ x ∈ new) : NW seq (l ++ [x]) new := by
  refine ⟨h.pw, fun y => ?_⟩
  rw [h.mem, List.mem_append]
  constructor
  · rintro ⟨a, b⟩; exact ⟨.inl a, b⟩
  · rintro ⟨a | a, b⟩
    · exact ⟨a, b⟩
    · have e : y = x := by simpa using a
      subst e
      rcases hx with hx | hx
      · exact absurd hx b
      · exact ⟨((h.mem y).1 hx).1, b⟩

theorem NW.add {seq l new : List Nat} (h : NW seq l new) {x : Nat} (hx : x ∉ seq) (hn : x ∉ new) (hs : ∀ y, y ∈ l → y ≤ x) : NW seq (l ++ [x]) (new ++ [x]) := by
  refine ⟨?_, fun y => ?_⟩
  · rw [List.pairwise_append]
    refine ⟨h.pw, List.pairwise_singleton _ _, fun a ha b hb => ?_⟩
    have e : b = x := by simpa using hb
    subst e
    have h1 := hs a ((h.mem a).1 ha).1
    rcases Nat.lt_or_eq_of_le h1 with h2 | h2
    · exact h2
    · exact absurd (h2 ▸ ha) hn
  · rw [List.mem_append, List.mem_append, h.mem]
    constructor
    · rintro (⟨a, b⟩ | a)
      · exact ⟨.inl a, b⟩
      · have e : y = x := by simpa using a
        subst e
        exact ⟨.inr a, hx⟩
    · rintro ⟨a | a, b⟩
      · exact .inl ⟨a, b⟩
      · exact .inr a

/-- Through whom each was met, as it is kept: -1 where it wasn't. -/
def byv (seq : List Nat) (by' : Nat → Nat) (y : Nat) : Int := if y ∈ seq then (by' y : Int) else -1
/-- The same within a round. -/
def byn (seq new : List Nat) (by' : Nat → Nat) (n y : Nat) : Int := if y ∈ new then (n : Int) else byv seq by' y

theorem byn_nil (seq : List Nat) (by' : Nat → Nat) (n : Nat) : byn seq [] by' n = byv seq by' := by
  funext y
  simp [byn]

theorem byn_end (seq new : List Nat) (by' : Nat → Nat) (n : Nat) : byv (seq ++ new) (fun y => if y ∈ new then n else by' y) = byn seq new by' n := by
  funext y
  unfold byv byn byv
  by_cases h : y ∈ new
  · simp [h]
  · simp [h]

theorem byn_add (seq new : List Nat) (by' : Nat → Nat) (n x : Nat) : (fun y => if y = x then (n : Int) else byn seq new by' n y) = byn seq (new ++ [x]) by' n := by
  funext y
  unfold byn
  by_cases h : y = x
  · simp [h]
  · simp [h]

theorem byn_neg {seq new : List Nat} {by' : Nat → Nat} {n x : Nat} : byn seq new by' n x = -1 ↔ x ∉ seq ∧ x ∉ new := by
  unfold byn byv
  by_cases h : x ∈ new
  · rw [if_pos h]; exact ⟨fun e => by omega, fun e => absurd h e.2⟩
  · rw [if_neg h]
    by_cases h2 : x ∈ seq
    · rw [if_pos h2]; exact ⟨fun e => by omega, fun e => absurd h2 e.1⟩
    · rw [if_neg h2]; exact ⟨fun _ => ⟨h2, h⟩, fun _ => rfl⟩

theorem byv_neg {seq : List Nat} {by' : Nat → Nat} {x : Nat} : byv seq by' x = -1 ↔ x ∉ seq := by
  unfold byv
  by_cases h2 : x ∈ seq
  · rw [if_pos h2]; exact ⟨fun e => by omega, fun e => absurd h2 e⟩
  · rw [if_neg h2]; exact ⟨fun _ => h2, fun _ => rfl⟩

theorem byv_in {seq : List Nat} {by' : Nat → Nat} {x : Nat} (h : x ∈ seq) : byv seq by' x = (by' x : Int) := if_pos h

variable {W : Nat → List Nat} {seq : List Nat} {k : Nat} {by' dep pos : Nat → Nat}

theorem Bt.nodup (h : Bt W seq k by' dep pos) : seq.Nodup := by
  unfold List.Nodup
  rw [List.pairwise_iff_getElem]
  intro i j hi hj hij e
  have h1 := h.ps j _ (List.getElem?_eq_getElem hj)
  have h2 := h.ps i _ (List.getElem?_eq_getElem hi)
  rw [e] at h2
  omega

/-- Not more than there are numbers. -/
theorem Bt.len (h : Bt W seq k by' dep pos) {m : Nat} (hm : ∀ y, y ∈ seq → y < m) : seq.length ≤ m := by
  have := nodup_len seq (List.range m) h.nodup (fun y hy => List.mem_range.2 (hm y hy))
  rwa [List.length_range] at this

theorem Chn.zero {by' : Nat → Nat} {l : List Nat} (h : Chn by' 0 l) : l = [] := by
  cases h with
  | nil => rfl
  | snoc h0 => exact absurd rfl h0

theorem Chn.last {by' : Nat → Nat} {t : Nat} {l : List Nat} (h : Chn by' t l) (h0 : t ≠ 0) : ∃ l', l = l' ++ [t] ∧ Chn by' (by' t) l' := by
  cases h with
  | nil => exact absurd rfl h0
  | snoc _ h => exact ⟨_, rfl, h⟩

theorem Chn.len (h : Bt W seq k by' dep pos) : ∀ (n t : Nat) (l : List Nat), pos t = n → t ∈ seq → Chn by' t l → l.length ≤ n := by
  intro n
  induction n using Nat.strongRecOn with
  | _ n ih =>
    intro t l hn ht hl
    by_cases e : t = 0
    · subst e
      rw [hl.zero]; exact Nat.zero_le _
    · obtain ⟨l', rfl, hl'⟩ := hl.last e
      have p := h.pr t ht e
      have := ih (pos (by' t)) (by omega) (by' t) l' rfl p.1 hl'
      rw [List.length_append]
      simp only [List.length_cons, List.length_nil]
      omega

theorem Gd.path {t x : Nat} {l : List Nat} (h : Gd W t x l) (hx : x ≠ t) : ∃ e, Pth W t e x := by
  cases h with
  | nil => exact absurd rfl hx
  | @cons _ y d _ _ hy hd => exact ⟨d + 1, show ∃ z, z ∈ W x ∧ Pth W t d z from ⟨y, hy, hd.1⟩⟩

theorem Gd.ne {t x : Nat} {l : List Nat} (h : Gd W t x l) (hx : x ≠ t) : l ≠ [] := by
  cases h with
  | nil => exact absurd rfl hx
  | cons => exact List.cons_ne_nil _ _

/-- What is told of the rows: none, or the one. -/
def Row17 (W : Nat → List Nat) (t : Nat) (l : List Nat) : Prop := (l = [] ∧ ∀ e, ¬ Pth W t e 0) ∨ (l ≠ [] ∧ Gd W t 0 l)

theorem Row17.uniq {t : Nat} {l l' : List Nat} (h : Row17 W t l) (h' : Row17 W t l') (ht : t ≠ 0) : l = l' := by
  rcases h with ⟨h1, h2⟩ | ⟨h1, h2⟩
  · rcases h' with ⟨h3, -⟩ | ⟨-, h4⟩
    · rw [h1, h3]
    · obtain ⟨e, he⟩ := h4.path (fun e => ht e.symm)
      exact absurd he (h2 e)
  · rcases h' with ⟨-, h4⟩ | ⟨-, h4⟩
    · obtain ⟨e, he⟩ := h2.path (fun e => ht e.symm)
      exact absurd he (h4 e)
    · exact h2.uniq h4

end Go.Proofs.YtckgcpoheodbcaaDoor.Lp
