
/-
  Images, the pure side: numbers as bytes.
-/
set_option linter.unusedVariables false
namespace Go.Proofs.YtckgcpoheodbcaaDoor.Im

/-- P16.2: a number's bytes. -/
def num (n : Nat) : List Nat := if n < 128 then [n] else (128 + n % 128) :: num (n / 128)
termination_by n
decreasing_by omega

theorem num_small {n : Nat} (h : n < 128) : num n = [n] := by rw [num, if_pos h]
theorem num_great {n : Nat} (h : 128 ≤ n) : num n = (128 + n % 128) :: num (n / 128) := by rw [num, if_neg (by omega)]

theorem num_pos (n : Nat) : 0 < (num n).length := by
  by_cases h : n < 128
  · rw [num_small h]; simp
  · rw [num_great (by omega)]; simp

theorem num_byte : ∀ (n : Nat) (x : Nat), x ∈ num n → x < 256 := by
  intro n
  induction n using Nat.strongRecOn with
  | ind n ih =>
    intro x hx
    by_cases h : n < 128
    · rw [num_small h] at hx; simp at hx; omega
    · rw [num_great (by omega)] at hx
      rcases List.mem_cons.1 hx with rfl | hx
      · omega
      · exact ih (n / 128) (by omega) x hx

/-- What is read of a number from the k-th byte on: the bytes, from which place it began, how much there is so far. -/
def wgo (b : List Nat) (p : Nat) : Nat → Nat → Nat → Except (Nat × Nat) (Nat × Nat)
  | 0, k, n => .error (p, 161)
  | f + 1, k, n =>
    match b[p + k]? with
    | none => .error (b.length, 160)
    | some x =>
      if (0 < k ∧ x = 0) ∨ (k = 9 ∧ 1 < x) then .error (p, 161)
      else if x < 128 then .ok (n + x * 128 ^ k, p + k + 1)
      else wgo b p f (k + 1) (n + (x - 128) * 128 ^ k)

/-- P16.4: any number. -/
def word (b : List Nat) (p : Nat) : Except (Nat × Nat) (Nat × Nat) := wgo b p 10 0 0

/-- The bytes from p to p' are l. -/
structure Seg (b : List Nat) (p p' : Nat) (l : List Nat) : Prop where
  e : p' = p + l.length
  g : ∀ i, i < l.length → b[p + i]? = l[i]?

theorem Seg.nil (b : List Nat) (p : Nat) : Seg b p p [] := ⟨by simp, fun i h => by simp at h⟩
theorem Seg.append {b : List Nat} {p q r : Nat} {l m : List Nat} (h : Seg b p q l) (k : Seg b q r m) : Seg b p r (l ++ m) := by
  refine ⟨by rw [k.e, h.e, List.length_append]; omega, fun i hi => ?_⟩
  rcases Nat.lt_or_ge i l.length with h1 | h1
  · rw [List.getElem?_append_left h1]; exact h.g i h1
  · rw [List.getElem?_append_right h1]
    rw [List.length_append] at hi
    have := k.g (i - l.length) (by omega)
    rw [h.e, show p + l.length + (i - l.length) = p + i by omega] at this
    exact this
theorem Seg.left {b : List Nat} {p r : Nat} {l m : List Nat} (h : Seg b p r (l ++ m)) : Seg b p (p + l.length) l :=
  ⟨rfl, fun i hi => by rw [h.g i (by simp; omega), List.getElem?_append_left hi]⟩
theorem Seg.right {b : List Nat} {p r : Nat} {l m : List Nat} (h : Seg b p r (l ++ m)) : Seg b (p + l.length) r m :=
  ⟨by rw [h.e, List.length_append]; omega, fun i hi => by
    rw [Nat.add_assoc, h.g (l.length + i) (by simp; omega), List.getElem?_append_right (by omega)]
    congr 1; omega⟩
theorem Seg.cons {b : List Nat} {p r x : Nat} {m : List Nat} (h : Seg b p r (x :: m)) : b[p]? = some x ∧ Seg b (p + 1) r m := by
  have h1 : Seg b p r ([x] ++ m) := h
  refine ⟨by have := h.g 0 (by simp); simpa using this, by simpa using h1.right⟩
theorem Seg.one {b : List Nat} {p x : Nat} (h : b[p]? = some x) : Seg b p (p + 1) [x] := ⟨rfl, fun i hi => by
  simp at hi; subst hi; simpa using h⟩
theorem Seg.le {b : List Nat} {p r : Nat} {l : List Nat} (h : Seg b p r l) (hp : p ≤ b.length) : r ≤ b.length := by
  rcases Nat.eq_zero_or_pos l.length with h0 | h0
  · rw [h.e, h0]; exact hp
  · have := h.g (l.length - 1) (by omega)
    rw [List.getElem?_eq_getElem (l := l) (by omega)] at this
    have := (List.getElem?_eq_some_iff.1 this).1
    have := h.e
    omega
theorem Seg.uniq {b : List Nat} {p r : Nat} {l m : List Nat} (h : Seg b p r l) (k : Seg b p r m) : l = m := by
  have e : l.length = m.length := by have := h.e; have := k.e; omega
  refine List.ext_getElem? fun i => ?_
  rcases Nat.lt_or_ge i l.length with h1 | h1
  · rw [← h.g i h1, k.g i (by omega)]
  · rw [List.getElem?_eq_none h1, List.getElem?_eq_none (by omega)]

/-- A number that was written is read. -/
theorem wgo_num {b : List Nat} {p : Nat} : ∀ (f k n m r : Nat), Seg b (p + k) r (num n) → f + k = 10 → n * 128 ^ k < 2 ^ 64 → (0 < k → 0 < n) → wgo b p f k m = .ok (m + n * 128 ^ k, r) := by
  intro f
  induction f with
  | zero =>
    intro k n m r hs hf hn h0
    have hk : k = 10 := by omega
    subst hk
    have := h0 (by omega)
    have : 1 * 128 ^ 10 ≤ n * 128 ^ 10 := Nat.mul_le_mul_right _ (by omega)
    omega
  | succ f ih =>
    intro k n m r hs hf hn h0
    unfold wgo
    by_cases h : n < 128
    · rw [num_small h] at hs
      obtain ⟨h1, h2⟩ := hs.cons
      rw [h1]
      have h3 : ¬ ((0 < k ∧ n = 0) ∨ (k = 9 ∧ 1 < n)) := by
        rintro (⟨h4, h5⟩ | ⟨h4, h5⟩)
        · have := h0 h4; omega
        · subst h4
          have : 2 * 128 ^ 9 ≤ n * 128 ^ 9 := Nat.mul_le_mul_right _ (by omega)
          omega
      simp only [if_neg h3, if_pos h]
      have := h2.e
      simp at this
      rw [this]
    · rw [num_great (by omega)] at hs
      obtain ⟨h1, h2⟩ := hs.cons
      rw [h1]
      have h3 : ¬ ((0 < k ∧ 128 + n % 128 = 0) ∨ (k = 9 ∧ 1 < 128 + n % 128)) := by
        rintro (⟨h4, h5⟩ | ⟨h4, h5⟩)
        · omega
        · subst h4
          have : 128 * 128 ^ 9 ≤ n * 128 ^ 9 := Nat.mul_le_mul_right _ (by omega)
          omega
      simp only [if_neg h3, if_neg (show ¬ 128 + n % 128 < 128 by omega)]
      have hd : n = n % 128 + 128 * (n / 128) := by omega
      have e1 : n * 128 ^ k = (n % 128) * 128 ^ k + (n / 128) * 128 ^ (k + 1) := by
        conv => lhs; rw [hd]
        rw [Nat.add_mul, Nat.pow_succ]
        congr 1
        rw [Nat.mul_comm 128 (n / 128), Nat.mul_assoc, Nat.mul_comm 128]
      have h4 := ih (k + 1) (n / 128) (m + (128 + n % 128 - 128) * 128 ^ k) r (by rw [← Nat.add_assoc]; exact h2) (by omega) (by omega) (fun _ => by omega)
      rw [h4, e1]
      congr 2
      rw [show 128 + n % 128 - 128 = n % 128 by omega]
      omega

theorem word_num {b : List Nat} {p n r : Nat} (h : Seg b p r (num n)) (hn : n < 2 ^ 64) : word b p = .ok (n, r) := by
  have := wgo_num (b := b) (p := p) 10 0 n 0 r (by simpa using h) rfl (by simpa using hn) (fun h => by omega)
  simpa [word] using this

theorem pow64 {k : Nat} (hk : k ≤ 8) : 128 ^ (k + 1) * 2 ^ (64 - 7 * (k + 1)) = 2 ^ 64 := by
  rw [show (128 : Nat) = 2 ^ 7 from rfl, ← Nat.pow_mul, ← Nat.pow_add]
  congr 1
  omega

theorem fits64 {k n y t : Nat} (hk : k ≤ 8) (h : n * 128 ^ (k + 1) < 2 ^ 64) (e : t = y * 128 ^ k + n * 128 ^ (k + 1)) (hy : y < 128) : t < 2 ^ 64 := by
  have hq := pow64 hk
  generalize hc : 128 ^ (k + 1) = c at *
  generalize 2 ^ (64 - 7 * (k + 1)) = q at *
  generalize 2 ^ 64 = B at *
  have hc0 : 0 < c := by rw [← hc]; exact Nat.pow_pos (by omega)
  have h1 : n < q := by
    rw [← hq, Nat.mul_comm c q] at h
    exact Nat.lt_of_mul_lt_mul_right h
  have h2 : (n + 1) * c ≤ q * c := Nat.mul_le_mul_right _ h1
  have h3 : y * 128 ^ k < c := by
    rw [← hc, Nat.pow_succ, Nat.mul_comm (128 ^ k) 128]
    exact Nat.mul_lt_mul_of_pos_right hy (Nat.pow_pos (by omega))
  rw [Nat.mul_comm q c, hq, Nat.add_mul, Nat.one_mul] at h2
  omega

/-- What is read as a number is that number's bytes. -/
theorem wgo_inv {b : List Nat} {p : Nat} (hb : ∀ (i x : Nat), b[i]? = some x → x < 256) : ∀ (f k m v r : Nat), wgo b p f k m = .ok (v, r) → f + k = 10 → ∃ n, v = m + n * 128 ^ k ∧ n * 128 ^ k < 2 ^ 64 ∧ (0 < k → 0 < n) ∧ Seg b (p + k) r (num n) := by
  intro f
  induction f with
  | zero => intro k m v r h; simp [wgo] at h
  | succ f ih =>
    intro k m v r h hf
    unfold wgo at h
    cases hx : b[p + k]? with
    | none => rw [hx] at h; simp at h
    | some x =>
      rw [hx] at h
      simp only at h
      have hxb := hb _ _ hx
      by_cases h3 : (0 < k ∧ x = 0) ∨ (k = 9 ∧ 1 < x)
      · rw [if_pos h3] at h; simp at h
      · rw [if_neg h3] at h
        have hk9 : k ≤ 9 := by omega
        by_cases h4 : x < 128
        · rw [if_pos h4] at h
          simp at h
          refine ⟨x, h.1.symm, ?_, fun h5 => by omega, ?_⟩
          · rcases Nat.lt_or_ge k 9 with h5 | h5
            · have h6 : 128 ^ k ≤ 128 ^ 8 := Nat.pow_le_pow_right (by omega) (by omega)
              have : x * 128 ^ k ≤ 127 * 128 ^ 8 := Nat.mul_le_mul (by omega) h6
              omega
            · obtain rfl : k = 9 := by omega
              have : x * 128 ^ 9 ≤ 1 * 128 ^ 9 := Nat.mul_le_mul_right _ (by omega)
              omega
          · rw [num_small h4, ← h.2]
            exact Seg.one hx
        · rw [if_neg h4] at h
          obtain ⟨n, e1, e2, e3, e4⟩ := ih (k + 1) _ v r h (by omega)
          have hn := e3 (by omega)
          have e5 : (x - 128 + 128 * n) * 128 ^ k = (x - 128) * 128 ^ k + n * 128 ^ (k + 1) := by
            rw [Nat.add_mul, Nat.pow_succ]
            congr 1
            rw [Nat.mul_comm 128 n, Nat.mul_assoc, Nat.mul_comm 128]
          refine ⟨x - 128 + 128 * n, by rw [e5, e1]; omega, ?_, fun _ => by omega, ?_⟩
          · have hk8 : k ≤ 8 := by omega
            exact fits64 hk8 e2 e5 (by omega)
          · rw [num_great (by omega), show (x - 128 + 128 * n) % 128 = x - 128 by omega, show (x - 128 + 128 * n) / 128 = n by omega, show 128 + (x - 128) = x by omega]
            have h5 := (Seg.one hx).append (show Seg b (p + k + 1) r (num n) by rw [Nat.add_assoc]; exact e4)
            exact h5

theorem word_inv {b : List Nat} {p v r : Nat} (hb : ∀ (i x : Nat), b[i]? = some x → x < 256) (h : word b p = .ok (v, r)) : v < 2 ^ 64 ∧ Seg b p r (num v) := by
  obtain ⟨n, e1, e2, -, e4⟩ := wgo_inv hb 10 0 0 v r h rfl
  rw [Nat.pow_zero, Nat.mul_one] at e1 e2
  rw [Nat.zero_add] at e1
  rw [Nat.add_zero] at e4
  rw [e1]
  exact ⟨e2, e4⟩

/-- Where a number can't be read, and why. -/
theorem wgo_err {b : List Nat} {p : Nat} : ∀ (f k m pl e : Nat), wgo b p f k m = .error (pl, e) → (pl = b.length ∧ e = 160) ∨ (pl = p ∧ e = 161) := by
  intro f
  induction f with
  | zero => intro k m pl e h; simp [wgo] at h; exact .inr ⟨h.1.symm, h.2.symm⟩
  | succ f ih =>
    intro k m pl e h
    unfold wgo at h
    cases hx : b[p + k]? with
    | none => rw [hx] at h; simp at h; exact .inl ⟨h.1.symm, h.2.symm⟩
    | some x =>
      rw [hx] at h
      simp only at h
      split at h
      · simp at h; exact .inr ⟨h.1.symm, h.2.symm⟩
      · split at h
        · simp at h
        · exact ih _ _ _ _ h

/-- Bytes that go on alike are read alike: a number that was read. -/
theorem wgo_more {b c : List Nat} {p : Nat} (hc : ∀ (i x : Nat), b[i]? = some x → c[i]? = some x) : ∀ (f k m v r : Nat), wgo b p f k m = .ok (v, r) → wgo c p f k m = .ok (v, r) := by
  intro f
  induction f with
  | zero => intro k m v r h; simp [wgo] at h
  | succ f ih =>
    intro k m v r h
    unfold wgo at h ⊢
    cases hx : b[p + k]? with
    | none => rw [hx] at h; simp at h
    | some x =>
      rw [hx] at h
      rw [hc _ _ hx]
      simp only at h ⊢
      split at h
      · simp at h
      · rename_i h1
        rw [if_neg h1]
        split at h
        · rename_i h2; rw [if_pos h2]; exact h
        · rename_i h2; rw [if_neg h2]; exact ih _ _ _ _ h

/-- P16.2: the checksum. -/
def fnv (b : List Nat) : Nat := b.foldl (fun h x => (h ^^^ x) * 16777619 % 4294967296) 2166136261

theorem fnv_snoc (b : List Nat) (x : Nat) : fnv (b ++ [x]) = (fnv b ^^^ x) * 16777619 % 4294967296 := by
  unfold fnv
  rw [List.foldl_append, List.foldl_cons, List.foldl_nil]

theorem fnv_nil : fnv [] = 2166136261 := by unfold fnv; rw [List.foldl_nil]

theorem fnv_lt (b : List Nat) : fnv b < 4294967296 := by
  rcases List.eq_nil_or_concat b with rfl | ⟨c, x, rfl⟩
  · rw [fnv_nil]; exact of_decide_eq_true rfl
  · rw [List.concat_eq_append, fnv_snoc]; exact Nat.mod_lt _ (of_decide_eq_true rfl)

theorem undo {M p q r c : Nat} (h : p * q = M * r + 1) (hc : c < M) : c * p * q % M = c := by
  rw [Nat.mul_assoc, h, Nat.mul_add, Nat.mul_one, ← Nat.mul_assoc, Nat.mul_comm c M, Nat.mul_assoc, Nat.mul_add_mod, Nat.mod_eq_of_lt hc]

/-- The factor can be undone. -/
theorem mul_inj {a b : Nat} (ha : a < 4294967296) (hb : b < 4294967296) (h : a * 16777619 % 4294967296 = b * 16777619 % 4294967296) : a = b := by
  have e : 16777619 * 899433627 = 4294967296 * 3513497 + 1 := of_decide_eq_true rfl
  generalize 4294967296 = M at *
  have h1 : a * 16777619 * 899433627 % M = b * 16777619 * 899433627 % M := by
    rw [Nat.mul_mod, h, ← Nat.mul_mod]
  rw [undo e ha, undo e hb] at h1
  exact h1

end Go.Proofs.YtckgcpoheodbcaaDoor.Im

/-
  Images, the pure side: graphs as bytes.
-/
set_option linter.unusedVariables false
namespace Go.Proofs.YtckgcpoheodbcaaDoor.Im

/-- A parser: from a place on, what is there and the place behind it; or where the first fault is, and which. -/
abbrev Ps (α : Type) := Nat → Except (Nat × Nat) (α × Nat)

def Ps.bind {α β : Type} (f : Ps α) (g : α → Ps β) : Ps β := fun p => match f p with
  | .ok (x, q) => g x q
  | .error e => .error e
def Ps.ret {α : Type} (x : α) : Ps α := fun p => .ok (x, p)
def Ps.map {α β : Type} (f : Ps α) (g : α → β) : Ps β := f.bind fun x => .ret (g x)

/-- So many of them. -/
def rep {α : Type} (f : Ps α) : Nat → Ps (List α)
  | 0 => .ret []
  | n + 1 => f.bind fun x => (rep f n).map (x :: ·)

def great : Nat := 2 ^ 62 + 1

/-- A number that may not be great. -/
def number (b : List Nat) : Ps Nat := fun p => match word b p with
  | .ok (n, q) => if great < n then .error (p, 161) else .ok (n, q)
  | .error e => .error e
/-- How many there are. -/
def many (b : List Nat) : Ps Nat := fun p => match number b p with
  | .ok (n, q) => if b.length - q < n then .error (b.length, 160) else .ok (n, q)
  | .error e => .error e

def listP {α : Type} (b : List Nat) (f : Ps α) : Ps (List α) := (many b).bind fun n => rep f n

/-- What is written is read; what is read is what was written. -/
structure Rd (b : List Nat) {α : Type} (f : Ps α) (e : α → List Nat) (ok : α → Prop) : Prop where
  to : ∀ x p r, ok x → Seg b p r (e x) → r ≤ b.length → f p = .ok (x, r)
  un : ∀ x p r, f p = .ok (x, r) → ok x ∧ Seg b p r (e x)

def listE {α : Type} (e : α → List Nat) (l : List α) : List Nat := num l.length ++ l.flatMap e

theorem rep_rd {b : List Nat} {α : Type} {f : Ps α} {e : α → List Nat} {ok : α → Prop} (h : Rd b f e ok) : ∀ n, Rd b (rep f n) (fun l => l.flatMap e) (fun l => l.length = n ∧ ∀ x, x ∈ l → ok x) := by
  intro n
  induction n with
  | zero =>
    refine ⟨fun l p r h1 h2 h3 => ?_, fun l p r h1 => ?_⟩
    · have : l = [] := List.eq_nil_of_length_eq_zero h1.1
      subst this
      have := h2.e
      simp at this
      rw [this]; rfl
    · simp [rep, Ps.ret] at h1
      obtain ⟨rfl, rfl⟩ := h1
      exact ⟨⟨rfl, fun x hx => by simp at hx⟩, Seg.nil b p⟩
  | succ n ih =>
    refine ⟨fun l p r h1 h2 h3 => ?_, fun l p r h1 => ?_⟩
    · cases l with
      | nil => simp at h1
      | cons x l =>
        rw [List.flatMap_cons] at h2
        have hr := h2.right
        have h4 := h.to x p (p + (e x).length) (h1.2 x List.mem_cons_self) h2.left (by have := hr.e; omega)
        have h5 := ih.to l _ r ⟨by simpa using h1.1, fun y hy => h1.2 y (List.mem_cons_of_mem _ hy)⟩ hr h3
        simp only [rep, Ps.bind, Ps.map, Ps.ret, h4, h5]
    · simp only [rep, Ps.bind, Ps.map, Ps.ret] at h1
      cases hf : f p with
      | error e => rw [hf] at h1; simp at h1
      | ok y =>
        obtain ⟨x, q⟩ := y
        rw [hf] at h1
        simp only at h1
        cases hg : rep f n q with
        | error e => rw [hg] at h1; simp at h1
        | ok z =>
          obtain ⟨l', q'⟩ := z
          rw [hg] at h1
          simp at h1
          obtain ⟨rfl, rfl⟩ := h1
          obtain ⟨h4, h5⟩ := h.un x p q hf
          obtain ⟨⟨h6, h7⟩, h8⟩ := ih.un l' q q' hg
          refine ⟨⟨by simp [h6], fun y hy => ?_⟩, by rw [List.flatMap_cons]; exact h5.append h8⟩
          rcases List.mem_cons.1 hy with rfl | hy
          · exact h4
          · exact h7 y hy

section
variable {b : List Nat} (hb : ∀ (i x : Nat), b[i]? = some x → x < 256)
include hb

theorem rd_word : Rd b (word b) num (fun n => n < 2 ^ 64) :=
  ⟨fun x p r h1 h2 _ => word_num h2 h1, fun x p r h => word_inv hb h⟩

theorem rd_number : Rd b (number b) num (fun n => n ≤ great) := by
  refine ⟨fun x p r h1 h2 _ => ?_, fun x p r h => ?_⟩
  · unfold number
    have : x < 2 ^ 64 := Nat.lt_of_le_of_lt h1 (by unfold great; decide)
    rw [word_num h2 this]
    simp only
    rw [if_neg (by omega)]
  · unfold number at h
    cases hw : word b p with
    | error e => rw [hw] at h; simp at h
    | ok y =>
      obtain ⟨n, q⟩ := y
      rw [hw] at h
      simp only at h
      split at h
      · simp at h
      · rename_i h1
        simp at h
        obtain ⟨rfl, rfl⟩ := h
        exact ⟨by omega, (word_inv hb hw).2⟩

theorem list_rd {α : Type} {f : Ps α} {e : α → List Nat} {ok : α → Prop} (h : Rd b f e ok) (hpos : ∀ x, ok x → 0 < (e x).length) : Rd b (listP b f) (listE e) (fun l => l.length ≤ great ∧ ∀ x, x ∈ l → ok x) := by
  have hlen : ∀ l : List α, (∀ x, x ∈ l → ok x) → l.length ≤ (l.flatMap e).length := by
    intro l
    induction l with
    | nil => intro _; simp
    | cons x l ih =>
      intro hx
      have h1 := hpos x (hx x List.mem_cons_self)
      have h2 := ih (fun y hy => hx y (List.mem_cons_of_mem _ hy))
      rw [List.flatMap_cons, List.length_append, List.length_cons]
      omega
  refine ⟨fun l p r h1 h2 h3 => ?_, fun l p r h1 => ?_⟩
  · have hr := h2.right
    have hn := (rd_number hb).to l.length p (p + (num l.length).length) h1.1 h2.left (by have := hr.e; omega)
    have hl := hlen l h1.2
    have h4 := (rep_rd h l.length).to l _ r ⟨rfl, h1.2⟩ hr h3
    have hq : ¬ b.length - (p + (num l.length).length) < l.length := by have := hr.e; omega
    simp only [listP, Ps.bind, many, hn, if_neg hq, h4]
  · simp only [listP, Ps.bind, many] at h1
    cases hn : number b p with
    | error e => rw [hn] at h1; simp at h1
    | ok y =>
      obtain ⟨n, q⟩ := y
      rw [hn] at h1
      simp only at h1
      obtain ⟨h4, h5⟩ := (rd_number hb).un n p q hn
      by_cases hq : b.length - q < n
      · rw [if_pos hq] at h1; simp at h1
      · rw [if_neg hq] at h1
        simp only at h1
        obtain ⟨⟨h6, h7⟩, h8⟩ := (rep_rd h n).un l q r h1
        subst h6
        exact ⟨⟨h4, h7⟩, h5.append h8⟩
end

end Go.Proofs.YtckgcpoheodbcaaDoor.Im

/-
  Images, the pure side: what is written is read, what is read is what was written, what is cut, changed or laid behind is refused.
-/
set_option linter.unusedVariables false
namespace Go.Proofs.YtckgcpoheodbcaaDoor.Im

def pairP {α β : Type} (f : Ps α) (g : Ps β) : Ps (α × β) := f.bind fun x => g.map fun y => (x, y)

theorem rd_pair {b : List Nat} {α β : Type} {f : Ps α} {g : Ps β} {e : α → List Nat} {e' : β → List Nat} {ok : α → Prop} {ok' : β → Prop} (h : Rd b f e ok) (k : Rd b g e' ok') : Rd b (pairP f g) (fun x => e x.1 ++ e' x.2) (fun x => ok x.1 ∧ ok' x.2) := by
  refine ⟨fun x p r h1 h2 h3 => ?_, fun x p r h1 => ?_⟩
  · obtain ⟨x, y⟩ := x
    have hr := h2.right
    have h4 := h.to x p _ h1.1 h2.left (by have := hr.e; omega)
    have h5 := k.to y _ r h1.2 hr h3
    simp only [pairP, Ps.bind, Ps.map, Ps.ret, h4, h5]
  · simp only [pairP, Ps.bind, Ps.map, Ps.ret] at h1
    cases hf : f p with
    | error e => rw [hf] at h1; simp at h1
    | ok z =>
      obtain ⟨y, q⟩ := z
      rw [hf] at h1
      simp only at h1
      cases hg : g q with
      | error e => rw [hg] at h1; simp at h1
      | ok z =>
        obtain ⟨y', q'⟩ := z
        rw [hg] at h1
        simp at h1
        obtain ⟨rfl, rfl⟩ := h1
        obtain ⟨h4, h5⟩ := h.un y p q hf
        obtain ⟨h6, h7⟩ := k.un y' q q' hg
        exact ⟨⟨h4, h6⟩, h5.append h7⟩

/-- An object in numbers: serial less the one ahead, kind, site, pointers, raws. -/
abbrev RO := Nat × Nat × Nat × List Nat × List Nat
/-- A graph in numbers: next, objects, slots, handles (one more each), queue. -/
abbrev NG := Nat × List RO × List (List (List Nat)) × List Nat × List Nat

def roP (b : List Nat) : Ps RO := pairP (number b) (pairP (number b) (pairP (number b) (pairP (listP b (number b)) (listP b (word b)))))
def ngP (b : List Nat) : Ps NG := pairP (number b) (pairP (listP b (roP b)) (pairP (listP b (listP b (listP b (number b)))) (pairP (listP b (number b)) (listP b (number b)))))

def roE (o : RO) : List Nat := num o.1 ++ (num o.2.1 ++ (num o.2.2.1 ++ (listE num o.2.2.2.1 ++ listE num o.2.2.2.2)))
def ngE (g : NG) : List Nat := num g.1 ++ (listE roE g.2.1 ++ (listE (listE (listE num)) g.2.2.1 ++ (listE num g.2.2.2.1 ++ listE num g.2.2.2.2)))

def lOk {α : Type} (ok : α → Prop) (l : List α) : Prop := l.length ≤ great ∧ ∀ x, x ∈ l → ok x
def nOk (n : Nat) : Prop := n ≤ great
def roOk (o : RO) : Prop := nOk o.1 ∧ nOk o.2.1 ∧ nOk o.2.2.1 ∧ lOk nOk o.2.2.2.1 ∧ lOk (fun n => n < 2 ^ 64) o.2.2.2.2
def ngOk (g : NG) : Prop := nOk g.1 ∧ lOk roOk g.2.1 ∧ lOk (lOk (lOk nOk)) g.2.2.1 ∧ lOk nOk g.2.2.2.1 ∧ lOk nOk g.2.2.2.2

theorem listE_pos {α : Type} (e : α → List Nat) (l : List α) : 0 < (listE e l).length := by
  have := num_pos l.length
  simp [listE]; omega

theorem rd_ng {b : List Nat} (hb : ∀ (i x : Nat), b[i]? = some x → x < 256) : Rd b (ngP b) ngE ngOk := by
  have hn := rd_number hb
  have hln := list_rd hb hn (fun x _ => num_pos x)
  have hlw := list_rd hb (rd_word hb) (fun x _ => num_pos x)
  have hro : Rd b (roP b) roE roOk := rd_pair hn (rd_pair hn (rd_pair hn (rd_pair hln hlw)))
  have hls := list_rd hb (list_rd hb hln (fun x _ => listE_pos _ x)) (fun x _ => listE_pos _ x)
  exact rd_pair hn (rd_pair (list_rd hb hro (fun x _ => by have := num_pos x.1; simp [roE]; omega)) (rd_pair hls (rd_pair hln hln)))

def magic : List Nat := [77, 68, 73, 49]
def le4 (s : Nat) : List Nat := [s % 256, s / 256 % 256, s / 65536 % 256, s / 16777216 % 256]
def body (g : NG) : List Nat := magic ++ ngE g
/-- P16.3. -/
def enc (g : NG) : List Nat := body g ++ le4 (fnv (body g))

/-- P16.4, but for whether the graph may be. -/
def dec (b : List Nat) : Except (Nat × Nat) NG :=
  if b.length < 4 then .error (b.length, 160)
  else if b.take 4 ≠ magic then .error (0, 161)
  else match ngP b 4 with
    | .error e => .error e
    | .ok (g, p) =>
      if b.length - p < 4 then .error (b.length, 160)
      else if (b.drop p).take 4 ≠ le4 (fnv (b.take p)) then .error (p, 163)
      else if p + 4 < b.length then .error (p + 4, 162)
      else .ok g

theorem listE_byte {α : Type} {e : α → List Nat} {l : List α} (h : ∀ y, y ∈ l → ∀ x, x ∈ e y → x < 256) : ∀ x, x ∈ listE e l → x < 256 := fun x hx => by
  rcases List.mem_append.1 hx with h1 | h1
  · exact num_byte _ x h1
  · obtain ⟨y, h2, h3⟩ := List.mem_flatMap.1 h1
    exact h y h2 x h3

theorem roE_byte (o : RO) : ∀ x, x ∈ roE o → x < 256 := fun x hx => by
  simp only [roE, List.mem_append] at hx
  rcases hx with h | h | h | h | h
  · exact num_byte _ x h
  · exact num_byte _ x h
  · exact num_byte _ x h
  · exact listE_byte (fun y _ => num_byte y) x h
  · exact listE_byte (fun y _ => num_byte y) x h

theorem ngE_byte (g : NG) : ∀ x, x ∈ ngE g → x < 256 := fun x hx => by
  simp only [ngE, List.mem_append] at hx
  rcases hx with h | h | h | h | h
  · exact num_byte _ x h
  · exact listE_byte (fun y _ => roE_byte y) x h
  · exact listE_byte (fun y _ => listE_byte (fun z _ => listE_byte (fun t _ => num_byte t))) x h
  · exact listE_byte (fun y _ => num_byte y) x h
  · exact listE_byte (fun y _ => num_byte y) x h

theorem enc_byte (g : NG) : ∀ x, x ∈ enc g → x < 256 := fun x hx => by
  simp only [enc, body, List.mem_append] at hx
  rcases hx with (h | h) | h
  · simp [magic] at h; omega
  · exact ngE_byte g x h
  · simp [le4] at h; omega

theorem bytes_at {b : List Nat} (h : ∀ x, x ∈ b → x < 256) : ∀ (i x : Nat), b[i]? = some x → x < 256 := fun i x hx => h x (List.mem_of_getElem? hx)

theorem seg_of {p l m : List Nat} : Seg (p ++ (l ++ m)) p.length (p.length + l.length) l := ⟨rfl, fun i hi => by
  rw [List.getElem?_append_right (by omega), List.getElem?_append_left (by omega)]
  congr 1; omega⟩

/-- What is written is read. -/
theorem dec_enc {g : NG} (hg : ngOk g) : dec (enc g) = .ok g := by
  have hb := bytes_at (enc_byte g)
  have e1 : enc g = magic ++ (ngE g ++ le4 (fnv (body g))) := by simp [enc, body]
  have hs : Seg (enc g) 4 (4 + (ngE g).length) (ngE g) := by rw [e1]; exact seg_of (p := magic)
  have hl : (enc g).length = 4 + (ngE g).length + 4 := by rw [e1]; simp [magic, le4]; omega
  have hp := (rd_ng hb).to g 4 _ hg hs (by omega)
  have ht : (enc g).take 4 = magic := by rw [e1]; rfl
  have hbl : (body g).length = 4 + (ngE g).length := by simp [body, magic]; omega
  have h1 : (enc g).take (4 + (ngE g).length) = body g := by
    rw [← hbl]; unfold enc; exact List.take_left' rfl
  have h2 : ((enc g).drop (4 + (ngE g).length)).take 4 = le4 (fnv (body g)) := by
    rw [← hbl]; unfold enc; rw [List.drop_left' rfl]; rfl
  unfold dec
  rw [if_neg (by omega), if_neg (by simp [ht]), hp]
  simp only
  rw [if_neg (by omega), h1, if_neg (by simp [h2]), if_neg (by omega)]

/-- What is read is what was written. -/
theorem enc_dec {b : List Nat} {g : NG} (hb : ∀ x, x ∈ b → x < 256) (h : dec b = .ok g) : ngOk g ∧ b = enc g := by
  unfold dec at h
  by_cases h1 : b.length < 4
  · rw [if_pos h1] at h; simp at h
  rw [if_neg h1] at h
  by_cases h2 : b.take 4 ≠ magic
  · rw [if_pos h2] at h; simp at h
  rw [if_neg h2] at h
  cases hp : ngP b 4 with
  | error e => rw [hp] at h; simp at h
  | ok z =>
    obtain ⟨g', p⟩ := z
    rw [hp] at h
    simp only at h
    by_cases h3 : b.length - p < 4
    · rw [if_pos h3] at h; simp at h
    rw [if_neg h3] at h
    by_cases h4 : (b.drop p).take 4 ≠ le4 (fnv (b.take p))
    · rw [if_pos h4] at h; simp at h
    rw [if_neg h4] at h
    by_cases h5 : p + 4 < b.length
    · rw [if_pos h5] at h; simp at h
    rw [if_neg h5] at h
    simp at h
    subst h
    obtain ⟨h6, h7⟩ := (rd_ng (bytes_at hb)).un g' 4 p hp
    have h2' : b.take 4 = magic := Classical.not_not.1 h2
    have h4' : (b.drop p).take 4 = le4 (fnv (b.take p)) := Classical.not_not.1 h4
    have hbp : b.take p = body g' := by
      have e1 : b.take p = b.take 4 ++ (b.drop 4).take (p - 4) := by
        have := h7.e
        rw [show p = 4 + (p - 4) by omega, List.take_add]
        simp
      rw [e1, h2']
      unfold body
      congr 1
      refine List.ext_getElem? fun i => ?_
      have := h7.e
      rcases Nat.lt_or_ge i (ngE g').length with hi | hi
      · rw [List.getElem?_take, if_pos (by omega), List.getElem?_drop, h7.g i hi]
      · rw [List.getElem?_take, if_neg (by omega), List.getElem?_eq_none hi]
    refine ⟨h6, ?_⟩
    have e2 : b = b.take p ++ b.drop p := (List.take_append_drop p b).symm
    have e3 : (b.drop p).take 4 = b.drop p := List.take_of_length_le (by simp; omega)
    rw [e3] at h4'
    rw [e2, h4', hbp]
    rfl
end Go.Proofs.YtckgcpoheodbcaaDoor.Im

/-
  Images, the pure side: what is cut, changed or laid behind is refused.
-/
set_option linter.unusedVariables false
namespace Go.Proofs.YtckgcpoheodbcaaDoor.Im

/-- A parser that only looks forward: of bytes that are cut it reads the same, or comes to their end; of bytes with more behind them it reads the same. -/
structure Fw {α : Type} (F : List Nat → Ps α) : Prop where
  mono : ∀ b p x r, F b p = .ok (x, r) → p ≤ r ∧ (p ≤ b.length → r ≤ b.length)
  keep : ∀ b n p x r, F b p = .ok (x, r) → n ≤ b.length → r ≤ n → F (b.take n) p = .ok (x, r)
  cut : ∀ b n p x r, F b p = .ok (x, r) → n ≤ b.length → p ≤ n → n < r → F (b.take n) p = .error (n, 160)
  more : ∀ b m p x r, F b p = .ok (x, r) → F (b ++ m) p = .ok (x, r)

theorem take_at {b : List Nat} {n i : Nat} (h : i < n) : (b.take n)[i]? = b[i]? := by rw [List.getElem?_take, if_pos h]

theorem wgo_end {b : List Nat} {p : Nat} : ∀ (f k m v r : Nat), wgo b p f k m = .ok (v, r) → p + k < r ∧ r ≤ b.length := by
  intro f
  induction f with
  | zero => intro k m v r h; simp [wgo] at h
  | succ f ih =>
    intro k m v r h
    unfold wgo at h
    cases hx : b[p + k]? with
    | none => rw [hx] at h; simp at h
    | some x =>
      have := (List.getElem?_eq_some_iff.1 hx).1
      rw [hx] at h
      simp only at h
      split at h
      · simp at h
      · split at h
        · simp at h; omega
        · have := ih _ _ _ _ h; omega

theorem wgo_keep {b : List Nat} {p n : Nat} (hn : n ≤ b.length) : ∀ (f k m v r : Nat), wgo b p f k m = .ok (v, r) → r ≤ n → wgo (b.take n) p f k m = .ok (v, r) := by
  intro f
  induction f with
  | zero => intro k m v r h; simp [wgo] at h
  | succ f ih =>
    intro k m v r h hr
    have he := wgo_end _ _ _ _ _ h
    unfold wgo at h ⊢
    rw [take_at (by omega)]
    cases hx : b[p + k]? with
    | none => rw [hx] at h; simp at h
    | some x =>
      rw [hx] at h
      simp only at h ⊢
      split at h
      · simp at h
      · rename_i h1
        rw [if_neg h1]
        split at h
        · rename_i h2; rw [if_pos h2]; exact h
        · rename_i h2; rw [if_neg h2]; exact ih _ _ _ _ h hr

theorem wgo_cut {b : List Nat} {p n : Nat} (hn : n ≤ b.length) : ∀ (f k m v r : Nat), wgo b p f k m = .ok (v, r) → p + k ≤ n → n < r → wgo (b.take n) p f k m = .error (n, 160) := by
  intro f
  induction f with
  | zero => intro k m v r h; simp [wgo] at h
  | succ f ih =>
    intro k m v r h hp hr
    unfold wgo at h ⊢
    have hl : (b.take n).length = n := by simp; omega
    rcases Nat.lt_or_ge (p + k) n with h0 | h0
    · rw [take_at h0]
      cases hx : b[p + k]? with
      | none => rw [hx] at h; simp at h
      | some x =>
        rw [hx] at h
        simp only at h ⊢
        split at h
        · simp at h
        · rename_i h1
          rw [if_neg h1]
          split at h
          · simp at h; omega
          · rename_i h2; rw [if_neg h2]; exact ih _ _ _ _ h (by omega) hr
    · rw [List.getElem?_eq_none (by omega), hl]

theorem fw_word : Fw word :=
  ⟨fun b p x r h => ⟨by have := wgo_end _ _ _ _ _ h; omega, fun _ => (wgo_end _ _ _ _ _ h).2⟩, fun b n p x r h hn hr => wgo_keep hn _ _ _ _ _ h hr, fun b n p x r h hn hp hr => wgo_cut hn _ _ _ _ _ h (by omega) hr,
    fun b m p x r h => wgo_more (fun i y hy => by rw [List.getElem?_append_left (List.getElem?_eq_some_iff.1 hy).1]; exact hy) _ _ _ _ _ h⟩

theorem number_ok {b : List Nat} {p n r : Nat} : number b p = .ok (n, r) ↔ word b p = .ok (n, r) ∧ n ≤ great := by
  unfold number
  cases hw : word b p with
  | error e => simp
  | ok z =>
    obtain ⟨k, q⟩ := z
    simp only
    by_cases h : great < k
    · rw [if_pos h]
      constructor
      · intro h1; simp at h1
      · rintro ⟨h1, h2⟩; simp at h1; omega
    · rw [if_neg h]
      constructor
      · intro h1; simp at h1; exact ⟨by simp [h1], by omega⟩
      · rintro ⟨h1, h2⟩; exact h1

theorem fw_number : Fw number := by
  refine ⟨fun b p x r h => fw_word.mono b p x r (number_ok.1 h).1, fun b n p x r h hn hr => ?_, fun b n p x r h hn hp hr => ?_, fun b m p x r h => ?_⟩
  · obtain ⟨h1, h2⟩ := number_ok.1 h
    exact number_ok.2 ⟨fw_word.keep b n p x r h1 hn hr, h2⟩
  · obtain ⟨h1, h2⟩ := number_ok.1 h
    unfold number
    rw [fw_word.cut b n p x r h1 hn hp hr]
  · obtain ⟨h1, h2⟩ := number_ok.1 h
    exact number_ok.2 ⟨fw_word.more b m p x r h1, h2⟩

theorem fw_bind {α β : Type} {F : List Nat → Ps α} {G : List Nat → α → Ps β} (hF : Fw F) (hG : ∀ x, Fw (fun b => G b x)) : Fw (fun b => (F b).bind (G b)) := by
  have key : ∀ {b p x r}, ((F b).bind (G b)) p = .ok (x, r) → ∃ y q, F b p = .ok (y, q) ∧ G b y q = .ok (x, r) := by
    intro b p x r h
    unfold Ps.bind at h
    cases hf : F b p with
    | error e => rw [hf] at h; simp at h
    | ok z => obtain ⟨y, q⟩ := z; rw [hf] at h; exact ⟨y, q, rfl, h⟩
  refine ⟨fun b p x r h => ?_, fun b n p x r h hn hr => ?_, fun b n p x r h hn hp hr => ?_, fun b m p x r h => ?_⟩
  · obtain ⟨y, q, h1, h2⟩ := key h
    have a1 := hF.mono b p y q h1
    have a2 := (hG y).mono b q x r h2
    exact ⟨by omega, fun h3 => a2.2 (a1.2 h3)⟩
  · obtain ⟨y, q, h1, h2⟩ := key h
    have a2 := (hG y).mono b q x r h2
    show Ps.bind _ _ _ = _
    unfold Ps.bind
    rw [hF.keep b n p y q h1 hn (by omega)]
    exact (hG y).keep b n q x r h2 hn hr
  · obtain ⟨y, q, h1, h2⟩ := key h
    show Ps.bind _ _ _ = _
    unfold Ps.bind
    rcases Nat.lt_or_ge n q with h3 | h3
    · rw [hF.cut b n p y q h1 hn hp h3]
    · rw [hF.keep b n p y q h1 hn h3]
      exact (hG y).cut b n q x r h2 hn h3 hr
  · obtain ⟨y, q, h1, h2⟩ := key h
    show Ps.bind _ _ _ = _
    unfold Ps.bind
    rw [hF.more b m p y q h1]
    exact (hG y).more b m q x r h2

theorem fw_ret {α : Type} (x : α) : Fw (fun _ => Ps.ret x) :=
  ⟨fun b p y r h => by simp [Ps.ret] at h; omega, fun b n p y r h _ _ => h, fun b n p y r h hn hp hr => by simp [Ps.ret] at h; omega, fun b m p y r h => h⟩

theorem fw_map {α β : Type} {F : List Nat → Ps α} (hF : Fw F) (g : α → β) : Fw (fun b => (F b).map g) := fw_bind (G := fun _ x => Ps.ret (g x)) hF (fun x => fw_ret (g x))

theorem fw_rep {α : Type} {F : List Nat → Ps α} (hF : Fw F) : ∀ n, Fw (fun b => rep (F b) n) := by
  intro n
  induction n with
  | zero => exact fw_ret []
  | succ n ih => exact fw_bind (G := fun b x => (rep (F b) n).map (x :: ·)) hF (fun x => fw_map ih _)

theorem fw_pair {α β : Type} {F : List Nat → Ps α} {G : List Nat → Ps β} (hF : Fw F) (hG : Fw G) : Fw (fun b => pairP (F b) (G b)) :=
  fw_bind (G := fun b x => (G b).map fun y => (x, y)) hF (fun x => fw_map hG _)

/-- Each takes a byte at least. -/
def Pr {α : Type} (F : List Nat → Ps α) : Prop := ∀ b p x r, F b p = .ok (x, r) → p < r

theorem pr_word : Pr word := fun b p x r h => by have := wgo_end _ _ _ _ _ h; omega
theorem pr_number : Pr number := fun b p x r h => pr_word b p x r (number_ok.1 h).1

theorem bind_ok {α β : Type} {f : Ps α} {g : α → Ps β} {p r : Nat} {x : β} (h : (f.bind g) p = .ok (x, r)) : ∃ y q, f p = .ok (y, q) ∧ g y q = .ok (x, r) := by
  unfold Ps.bind at h
  cases hf : f p with
  | error e => rw [hf] at h; simp at h
  | ok z => obtain ⟨y, q⟩ := z; rw [hf] at h; exact ⟨y, q, rfl, h⟩

theorem rep_len {α : Type} {F : List Nat → Ps α} (hP : Pr F) (b : List Nat) : ∀ n p l r, rep (F b) n p = .ok (l, r) → p + n ≤ r := by
  intro n
  induction n with
  | zero => intro p l r h; simp [rep, Ps.ret] at h; omega
  | succ n ih =>
    intro p l r h
    obtain ⟨x, q, h1, h2⟩ := bind_ok h
    obtain ⟨l', q', h3, h4⟩ := bind_ok h2
    have := hP b p x q h1
    have := ih q l' q' h3
    simp [Ps.ret] at h4
    omega

theorem pr_pair {α β : Type} {F : List Nat → Ps α} {G : List Nat → Ps β} (hF : Pr F) (hG : Fw G) : Pr (fun b => pairP (F b) (G b)) := fun b p x r h => by
  obtain ⟨y, q, h1, h2⟩ := bind_ok h
  obtain ⟨y', q', h3, h4⟩ := bind_ok h2
  have := hF b p y q h1
  have := (hG.mono b q y' q' h3).1
  simp [Ps.ret] at h4
  omega

theorem many_ok {b : List Nat} {p n r : Nat} : many b p = .ok (n, r) ↔ number b p = .ok (n, r) ∧ n ≤ b.length - r := by
  unfold many
  cases hw : number b p with
  | error e => simp
  | ok z =>
    obtain ⟨k, q⟩ := z
    simp only
    by_cases h : b.length - q < k
    · rw [if_pos h]
      constructor
      · intro h1; simp at h1
      · rintro ⟨h1, h2⟩; simp at h1; obtain ⟨rfl, rfl⟩ := h1; omega
    · rw [if_neg h]
      constructor
      · intro h1; simp at h1; obtain ⟨rfl, rfl⟩ := h1; exact ⟨rfl, by omega⟩
      · rintro ⟨h1, h2⟩; exact h1

theorem fw_list {α : Type} {F : List Nat → Ps α} (hF : Fw F) (hP : Pr F) : Fw (fun b => listP b (F b)) := by
  have key : ∀ {b p x r}, listP b (F b) p = .ok (x, r) → ∃ n q, number b p = .ok (n, q) ∧ n ≤ b.length - q ∧ rep (F b) n q = .ok (x, r) ∧ q + n ≤ r := by
    intro b p x r h
    obtain ⟨n, q, h1, h2⟩ := bind_ok h
    obtain ⟨h3, h4⟩ := many_ok.1 h1
    exact ⟨n, q, h3, h4, h2, rep_len hP b n q x r h2⟩
  refine ⟨fun b p x r h => ?_, fun b k p x r h hn hr => ?_, fun b k p x r h hn hp hr => ?_, fun b m p x r h => ?_⟩
  · obtain ⟨n, q, h1, h2, h3, h4⟩ := key h
    have a1 := fw_number.mono b p n q h1
    have a2 := (fw_rep hF n).mono b q x r h3
    exact ⟨by omega, fun h5 => a2.2 (a1.2 h5)⟩
  · obtain ⟨n, q, h1, h2, h3, h4⟩ := key h
    have hl : (b.take k).length = k := by simp; omega
    show Ps.bind _ _ _ = _
    unfold Ps.bind
    rw [many_ok.2 ⟨fw_number.keep b k p n q h1 hn (by omega), by omega⟩]
    exact (fw_rep hF n).keep b k q x r h3 hn hr
  · obtain ⟨n, q, h1, h2, h3, h4⟩ := key h
    have hl : (b.take k).length = k := by simp; omega
    show Ps.bind _ _ _ = _
    unfold Ps.bind
    rcases Nat.lt_or_ge k q with h5 | h5
    · have : many (b.take k) p = .error (k, 160) := by
        unfold many
        rw [fw_number.cut b k p n q h1 hn hp h5]
      rw [this]
    · have h6 := fw_number.keep b k p n q h1 hn h5
      rcases Nat.lt_or_ge (k - q) n with h7 | h7
      · have : many (b.take k) p = .error (k, 160) := by
          unfold many
          rw [h6]
          simp only
          rw [if_pos (by omega), hl]
        rw [this]
      · rw [many_ok.2 ⟨h6, by omega⟩]
        exact (fw_rep hF n).cut b k q x r h3 hn h5 hr
  · obtain ⟨n, q, h1, h2, h3, h4⟩ := key h
    show Ps.bind _ _ _ = _
    unfold Ps.bind
    rw [many_ok.2 ⟨fw_number.more b m p n q h1, by simp; omega⟩]
    exact (fw_rep hF n).more b m q x r h3

theorem pr_list {α : Type} {F : List Nat → Ps α} (hP : Pr F) : Pr (fun b => listP b (F b)) := fun b p x r h => by
  obtain ⟨n, q, h1, h2⟩ := bind_ok h
  have := pr_number b p n q (many_ok.1 h1).1
  have := rep_len hP b n q x r h2
  omega

theorem fw_ng : Fw ngP := by
  have hn := fw_number
  have hln := fw_list hn pr_number
  have hlw := fw_list fw_word pr_word
  have hro : Fw roP := fw_pair hn (fw_pair hn (fw_pair hn (fw_pair hln hlw)))
  have pro : Pr roP := pr_pair pr_number (fw_pair hn (fw_pair hn (fw_pair hln hlw)))
  have hls := fw_list (fw_list hln (pr_list pr_number)) (pr_list (pr_list pr_number))
  exact fw_pair hn (fw_pair (fw_list hro pro) (fw_pair hls (fw_pair hln hln)))

theorem ng_enc {g : NG} (hg : ngOk g) : ngP (enc g) 4 = .ok (g, 4 + (ngE g).length) := by
  have e1 : enc g = magic ++ (ngE g ++ le4 (fnv (body g))) := by simp [enc, body]
  have hs : Seg (enc g) 4 (4 + (ngE g).length) (ngE g) := by rw [e1]; exact seg_of (p := magic)
  exact (rd_ng (bytes_at (enc_byte g))).to g 4 _ hg hs (by rw [e1]; simp [magic, le4]; omega)

theorem enc_len (g : NG) : (enc g).length = 4 + (ngE g).length + 4 := by simp [enc, body, magic, le4]; omega
theorem enc_take (g : NG) : (enc g).take 4 = magic := rfl

/-- P16.6: bytes that are cut are too short. -/
theorem dec_cut {g : NG} (hg : ngOk g) {n : Nat} (hn : n < (enc g).length) : dec ((enc g).take n) = .error (n, 160) := by
  have hl : ((enc g).take n).length = n := by simp; omega
  have h0 := enc_len g
  have hp := ng_enc hg
  unfold dec
  rw [hl]
  by_cases h4 : n < 4
  · rw [if_pos h4]
  · rw [if_neg h4]
    have ht : ((enc g).take n).take 4 = magic := by rw [List.take_take, Nat.min_eq_left (by omega)]; exact enc_take g
    rw [if_neg (by simp [ht])]
    rcases Nat.lt_or_ge n (4 + (ngE g).length) with h5 | h5
    · rw [fw_ng.cut (enc g) n 4 g _ hp (by omega) (by omega) h5]
    · rw [fw_ng.keep (enc g) n 4 g _ hp (by omega) h5]
      simp only
      rw [if_pos (by omega)]

/-- P16.6: bytes behind them are refused. -/
theorem dec_more {g : NG} (hg : ngOk g) {m : List Nat} (hm : m ≠ []) : dec (enc g ++ m) = .error ((enc g).length, 162) := by
  have h0 := enc_len g
  have hp := fw_ng.more (enc g) m 4 g _ (ng_enc hg)
  have hml : 0 < m.length := List.length_pos_iff.2 hm
  have hbl : (body g).length = 4 + (ngE g).length := by simp [body, magic]; omega
  have ht : (enc g ++ m).take 4 = magic := by rw [List.take_append_of_le_length (by omega)]; exact enc_take g
  have h1 : (enc g ++ m).take (4 + (ngE g).length) = body g := by
    rw [List.take_append_of_le_length (by omega), ← hbl]; unfold enc; exact List.take_left' rfl
  have h2 : ((enc g ++ m).drop (4 + (ngE g).length)).take 4 = le4 (fnv (body g)) := by
    rw [← hbl]; unfold enc; rw [List.append_assoc, List.drop_left' rfl]; rfl
  unfold dec
  rw [if_neg (by simp; omega), if_neg (by simp [ht]), hp]
  simp only
  rw [if_neg (by simp; omega), h1, if_neg (by simp [h2]), if_pos (by simp; omega), h0]

/-- Two lists of bytes that differ at one place alone have other checksums. -/
theorem fnv_step {h k x y : Nat} (hh : h < 4294967296) (hk : k < 4294967296) (hx : x < 256) (hy : y < 256) (e : (h ^^^ x) * 16777619 % 4294967296 = (k ^^^ y) * 16777619 % 4294967296) : h ^^^ x = k ^^^ y := by
  have lt : ∀ {a b : Nat}, a < 4294967296 → b < 256 → a ^^^ b < 4294967296 := fun {a b} ha hb => Nat.xor_lt_two_pow (n := 32) ha (Nat.lt_trans hb (of_decide_eq_true rfl))
  exact mul_inj (lt hh hx) (lt hk hy) e

theorem fnv_tail {h k : Nat} (hh : h < 4294967296) (hk : k < 4294967296) (hne : h ≠ k) : ∀ (l : List Nat), (∀ x, x ∈ l → x < 256) → l.foldl (fun h x => (h ^^^ x) * 16777619 % 4294967296) h ≠ l.foldl (fun h x => (h ^^^ x) * 16777619 % 4294967296) k := by
  intro l
  induction l generalizing h k with
  | nil => intro _; exact hne
  | cons x l ih =>
    intro hl
    rw [List.foldl_cons, List.foldl_cons]
    refine ih (Nat.mod_lt _ (of_decide_eq_true rfl)) (Nat.mod_lt _ (of_decide_eq_true rfl)) (fun e => hne ?_) (fun y hy => hl y (List.mem_cons_of_mem _ hy))
    have h1 := fnv_step hh hk (hl x List.mem_cons_self) (hl x List.mem_cons_self) e
    have h2 : (h ^^^ x) ^^^ x = (k ^^^ x) ^^^ x := by rw [h1]
    rwa [Nat.xor_assoc, Nat.xor_self, Nat.xor_zero, Nat.xor_assoc, Nat.xor_self, Nat.xor_zero] at h2

theorem fnv_one {u v : List Nat} {x y : Nat} (hu : ∀ z, z ∈ u → z < 256) (hv : ∀ z, z ∈ v → z < 256) (hx : x < 256) (hy : y < 256) (hne : x ≠ y) : fnv (u ++ x :: v) ≠ fnv (u ++ y :: v) := by
  unfold fnv
  rw [List.foldl_append, List.foldl_append, List.foldl_cons, List.foldl_cons]
  have hu9 := fnv_lt u
  unfold fnv at hu9
  refine fnv_tail (Nat.mod_lt _ (of_decide_eq_true rfl)) (Nat.mod_lt _ (of_decide_eq_true rfl)) (fun e => hne ?_) v hv
  have h1 := fnv_step hu9 hu9 hx hy e
  generalize u.foldl _ _ = h at h1
  have h2 : h ^^^ (h ^^^ x) = h ^^^ (h ^^^ y) := by rw [h1]
  rwa [← Nat.xor_assoc, ← Nat.xor_assoc, Nat.xor_self, Nat.zero_xor, Nat.zero_xor] at h2

end Go.Proofs.YtckgcpoheodbcaaDoor.Im

/-
  Images, the pure side: with one byte changed; which graphs may be.
-/
set_option linter.unusedVariables false
namespace Go.Proofs.YtckgcpoheodbcaaDoor.Im

theorem le4_inj {s t : Nat} (hs : s < 4294967296) (ht : t < 4294967296) (h : le4 s = le4 t) : s = t := by
  simp only [le4, List.cons.injEq] at h
  obtain ⟨h1, h2, h3, h4, -⟩ := h
  omega

/-- P16.6: with one byte changed they are refused. -/
theorem dec_changed {g : NG} {n x y : Nat} (hx : (enc g)[n]? = some x) (hy : y < 256) (hne : x ≠ y) : ∀ g', dec ((enc g).set n y) ≠ .ok g' := by
  intro g' h
  have hn := (List.getElem?_eq_some_iff.1 hx).1
  have hb := enc_byte g
  have hc : ∀ z, z ∈ (enc g).set n y → z < 256 := fun z hz => by
    rcases List.mem_or_eq_of_mem_set hz with h1 | h1
    · exact hb z h1
    · omega
  obtain ⟨-, e⟩ := enc_dec hc h
  have hl : (enc g').length = (enc g).length := by rw [← e, List.length_set]
  have e1 := enc_len g
  have e2 := enc_len g'
  have hbl : ∀ g, (body g).length = 4 + (ngE g).length := fun g => by simp [body, magic]; omega
  have hbg := hbl g
  have hbg' := hbl g'
  rcases Nat.lt_or_ge n (body g).length with h1 | h1
  · have hs : (enc g).set n y = (body g).set n y ++ le4 (fnv (body g)) := by
      unfold enc; rw [List.set_append_left _ _ h1]
    rw [hs] at e
    unfold enc at e
    obtain ⟨e3, e4⟩ := List.append_inj e (by rw [List.length_set]; omega)
    have e5 := le4_inj (fnv_lt _) (fnv_lt _) e4
    have hxb : (body g)[n]? = some x := by
      have h9 := hx
      unfold enc at h9
      rwa [List.getElem?_append_left h1] at h9
    have hbb : ∀ z, z ∈ body g → z < 256 := fun z hz => hb z (List.mem_append_left _ hz)
    have hxl := hbb x (List.mem_of_getElem? hxb)
    have hg : body g = (body g).take n ++ x :: (body g).drop (n + 1) := by
      have h9 := List.getElem?_eq_some_iff.1 hxb
      rw [← h9.2, ← List.drop_eq_getElem_cons h9.1, List.take_append_drop]
    have hg' : body g' = (body g).take n ++ y :: (body g).drop (n + 1) := by
      rw [← e3, List.set_eq_take_append_cons_drop, if_pos h1]
    have e6 : fnv ((body g).take n ++ x :: (body g).drop (n + 1)) = fnv ((body g).take n ++ y :: (body g).drop (n + 1)) := by rw [← hg, ← hg']; exact e5
    exact fnv_one (fun z hz => hbb z (List.mem_of_mem_take hz)) (fun z hz => hbb z (List.mem_of_mem_drop hz)) hxl hy hne e6
  · have hs : (enc g).set n y = body g ++ (le4 (fnv (body g))).set (n - (body g).length) y := by
      unfold enc; rw [List.set_append_right _ _ h1]
    rw [hs] at e
    unfold enc at e
    obtain ⟨e3, e4⟩ := List.append_inj e (by omega)
    rw [← e3] at e4
    have h2 : (le4 (fnv (body g)))[n - (body g).length]? = some x := by
      have h9 := hx
      unfold enc at h9
      rwa [List.getElem?_append_right h1] at h9
    have hlt := (List.getElem?_eq_some_iff.1 h2).1
    have h3 : (le4 (fnv (body g)))[n - (body g).length]? = some y := by
      rw [← e4, List.getElem?_set_self hlt]
    rw [h2] at h3
    exact hne (by simpa using h3)

/-- An object. -/
structure Ob where
  ser : Nat
  kind : Int
  site : Int
  ps : List Int
  rs : List Nat

/-- A graph. -/
structure Gr where
  next : Nat
  obs : List Ob
  slots : List (List (List Int))
  hs : List Int
  rg : List Int
  qu : List Int

/-- What is known: what slots, handles, registry and queue hold, and what these hold. -/
inductive Known (g : Gr) : Nat → Prop
  | slot (t : List (List Int)) (f : List Int) (n : Nat) : t ∈ g.slots → f ∈ t → (n : Int) ∈ f → 0 < n → Known g n
  | hand (n : Nat) : (n : Int) ∈ g.hs → 0 < n → Known g n
  | reg (n : Nat) : (n : Int) ∈ g.rg → 0 < n → Known g n
  | que (n : Nat) : (n : Int) ∈ g.qu → 0 < n → Known g n
  | ptr (m n : Nat) (o : Ob) : Known g m → g.obs[m - 1]? = some o → (n : Int) ∈ o.ps → 0 < n → Known g n

end Go.Proofs.YtckgcpoheodbcaaDoor.Im

/-
  Images, the pure side: graphs and graphs in numbers; which graphs may be.
-/
set_option linter.unusedVariables false
namespace Go.Proofs.YtckgcpoheodbcaaDoor.Im

def toObs : Nat → List Ob → List RO
  | _, [] => []
  | last, o :: r => (o.ser - last, o.kind.toNat, o.site.toNat, o.ps.map Int.toNat, o.rs) :: toObs o.ser r
def fromObs : Nat → List RO → List Ob
  | _, [] => []
  | last, o :: r => ⟨last + o.1, o.2.1, o.2.2.1, o.2.2.2.1.map Int.ofNat, o.2.2.2.2⟩ :: fromObs (last + o.1) r

theorem map_toNat_ofNat (l : List Nat) : (l.map Int.ofNat).map Int.toNat = l := by
  rw [List.map_map]
  have : (Int.toNat ∘ Int.ofNat) = id := by funext n; rfl
  rw [this, List.map_id]
theorem map_ofNat_toNat {l : List Int} (h : ∀ z, z ∈ l → 0 ≤ z) : (l.map Int.toNat).map Int.ofNat = l := by
  rw [List.map_map]
  conv => rhs; rw [← List.map_id l]
  refine List.map_congr_left fun z hz => ?_
  have := h z hz
  show ((z.toNat : Nat) : Int) = z
  omega

theorem to_from : ∀ (l : List RO) (last : Nat), toObs last (fromObs last l) = l := by
  intro l
  induction l with
  | nil => intro _; rfl
  | cons o r ih =>
    intro last
    obtain ⟨a, b, c, d, e⟩ := o
    simp only [fromObs, toObs, ih, map_toNat_ofNat]
    congr 1
    refine Prod.ext ?_ ?_
    · show last + a - last = a; omega
    · rfl

/-- Serials rise from one on. -/
def Rise : Nat → List Ob → Prop
  | _, [] => True
  | last, o :: r => last < o.ser ∧ Rise o.ser r

/-- What an object's numbers must be to be written. -/
structure Pos (o : Ob) : Prop where
  k : 0 ≤ o.kind
  s : 0 ≤ o.site
  p : ∀ z, z ∈ o.ps → 0 ≤ z

theorem from_to : ∀ (l : List Ob) (last : Nat), Rise last l → (∀ o, o ∈ l → Pos o) → fromObs last (toObs last l) = l := by
  intro l
  induction l with
  | nil => intro _ _ _; rfl
  | cons o r ih =>
    intro last h1 h2
    have hp := h2 o List.mem_cons_self
    have hs : last + (o.ser - last) = o.ser := by have := h1.1; omega
    have hk := hp.k
    have hsi := hp.s
    simp only [toObs, fromObs, hs, map_ofNat_toNat hp.p]
    rw [ih o.ser h1.2 (fun y hy => h2 y (List.mem_cons_of_mem _ hy))]
    congr 1
    obtain ⟨a, b, c, d, e⟩ := o
    simp only [Ob.mk.injEq, true_and]
    simp only at hk hsi
    exact ⟨by omega, by omega, trivial⟩

/-- The numbers of the Final objects. -/
def finsFrom : Nat → List Ob → List Int
  | _, [] => []
  | i, o :: r => if o.kind = 4 then ((i : Int) + 1) :: finsFrom (i + 1) r else finsFrom (i + 1) r
def fins (l : List Ob) : List Int := finsFrom 0 l

theorem finsFrom_snoc : ∀ (l : List Ob) (i : Nat) (o : Ob), finsFrom i (l ++ [o]) = finsFrom i l ++ (if o.kind = 4 then [((i + l.length : Nat) : Int) + 1] else []) := by
  intro l
  induction l with
  | nil => intro i o; simp only [List.nil_append, finsFrom, List.length_nil, Nat.add_zero]
  | cons x r ih =>
    intro i o
    simp only [List.cons_append, finsFrom]
    rw [ih]
    have e : i + 1 + r.length = i + (x :: r).length := by simp; omega
    rw [e]
    split
    · rw [List.cons_append]
    · rfl

theorem fins_take {l : List Ob} {i : Nat} {o : Ob} (h : l[i]? = some o) : fins (l.take (i + 1)) = fins (l.take i) ++ (if o.kind = 4 then [(i : Int) + 1] else []) := by
  have hi := (List.getElem?_eq_some_iff.1 h).1
  rw [List.take_add_one, h]
  show finsFrom 0 (l.take i ++ [o]) = _
  rw [finsFrom_snoc]
  have : 0 + (l.take i).length = i := by simp; omega
  rw [this]
  rfl

def toNG (g : Gr) : NG := (g.next, toObs 0 g.obs, g.slots.map (fun t => t.map (fun f => f.map Int.toNat)), g.hs.map (fun z => (z + 1).toNat), g.qu.map Int.toNat)
def fromNG (n : NG) : Gr := ⟨n.1, fromObs 0 n.2.1, n.2.2.1.map (fun t => t.map (fun f => f.map Int.ofNat)), n.2.2.2.1.map (fun k : Nat => (k : Int) - 1), fins (fromObs 0 n.2.1), n.2.2.2.2.map Int.ofNat⟩

theorem toNG_fromNG (n : NG) : toNG (fromNG n) = n := by
  obtain ⟨a, b, c, d, e⟩ := n
  simp only [toNG, fromNG, to_from, List.map_map]
  congr 1
  refine Prod.ext rfl ?_
  refine Prod.ext ?_ (Prod.ext ?_ ?_)
  · show List.map _ c = c
    conv => rhs; rw [← List.map_id c]
    refine List.map_congr_left fun t _ => ?_
    show List.map _ (List.map _ t) = t
    rw [List.map_map]
    conv => rhs; rw [← List.map_id t]
    refine List.map_congr_left fun f _ => ?_
    exact map_toNat_ofNat f
  · show List.map _ d = d
    conv => rhs; rw [← List.map_id d]
    refine List.map_congr_left fun k _ => ?_
    show (((k : Int) - 1) + 1).toNat = k
    omega
  · show List.map (Int.toNat ∘ Int.ofNat) e = e
    rw [← List.map_map]
    exact map_toNat_ofNat e

/-- P16.1: which graphs may be. hd: which objects have a header. -/
structure May (hd : Ob → Prop) (g : Gr) : Prop where
  n0 : 1 ≤ g.next
  n1 : g.next ≤ great
  rise : Rise 0 g.obs
  low : ∀ o, o ∈ g.obs → o.ser < g.next
  head : ∀ o, o ∈ g.obs → hd o
  ptrs : ∀ o, o ∈ g.obs → ∀ z, z ∈ o.ps → 0 ≤ z ∧ z ≤ g.obs.length
  t0 : 1 ≤ g.slots.length
  t1 : g.slots.length ≤ 8
  few : ∀ t, t ∈ g.slots → (t.map List.length).sum ≤ 4096
  full : ∀ t, t ∈ g.slots → ∀ f, f ∈ t → 1 ≤ f.length
  slot : ∀ t, t ∈ g.slots → ∀ f, f ∈ t → ∀ z, z ∈ f → 0 ≤ z ∧ z ≤ g.obs.length
  h1 : g.hs.length ≤ 1024
  hand : ∀ z, z ∈ g.hs → -1 ≤ z ∧ z ≤ g.obs.length
  reg : g.rg = fins g.obs
  que : ∀ z, z ∈ g.qu → 1 ≤ z ∧ z ≤ g.obs.length
  once : g.qu.Nodup
  plain : ∀ z, z ∈ g.qu → ∀ o, g.obs[(z - 1).toNat]? = some o → o.kind ≠ 4
  all : ∀ n, 1 ≤ n → n ≤ g.obs.length → Known g n

theorem fromNG_toNG {hd : Ob → Prop} {g : Gr} (h : May hd g) (hp : ∀ o, hd o → 0 ≤ o.kind ∧ 0 ≤ o.site) : fromNG (toNG g) = g := by
  have e1 : fromObs 0 (toObs 0 g.obs) = g.obs := from_to g.obs 0 h.rise (fun o ho => ⟨(hp o (h.head o ho)).1, (hp o (h.head o ho)).2, fun z hz => (h.ptrs o ho z hz).1⟩)
  have e2 : (g.slots.map (fun t => t.map (fun f => f.map Int.toNat))).map (fun t => t.map (fun f => f.map Int.ofNat)) = g.slots := by
    rw [List.map_map]
    conv => rhs; rw [← List.map_id g.slots]
    refine List.map_congr_left fun t ht => ?_
    show List.map _ (List.map _ t) = t
    rw [List.map_map]
    conv => rhs; rw [← List.map_id t]
    refine List.map_congr_left fun f hf => ?_
    exact map_ofNat_toNat (fun z hz => (h.slot t ht f hf z hz).1)
  have e3 : (g.hs.map (fun z => (z + 1).toNat)).map (fun k : Nat => (k : Int) - 1) = g.hs := by
    rw [List.map_map]
    conv => rhs; rw [← List.map_id g.hs]
    refine List.map_congr_left fun z hz => ?_
    have := (h.hand z hz).1
    show (((z + 1).toNat : Nat) : Int) - 1 = z
    omega
  have e4 : (g.qu.map Int.toNat).map Int.ofNat = g.qu := map_ofNat_toNat (fun z hz => by have := (h.que z hz).1; omega)
  have hr := h.reg
  obtain ⟨a, b, c, d, e, f⟩ := g
  simp only [fromNG, toNG, Gr.mk.injEq, true_and] at e1 e2 e3 e4 hr ⊢
  exact ⟨e1, e2, e3, by rw [e1]; exact hr.symm, e4⟩

theorem mem_toObs : ∀ (l : List Ob) (last : Nat) (x : RO), x ∈ toObs last l → ∃ o m, o ∈ l ∧ x = (o.ser - m, o.kind.toNat, o.site.toNat, o.ps.map Int.toNat, o.rs) := by
  intro l
  induction l with
  | nil => intro last x h; simp [toObs] at h
  | cons o r ih =>
    intro last x h
    simp only [toObs, List.mem_cons] at h
    rcases h with rfl | h
    · exact ⟨o, last, List.mem_cons_self, rfl⟩
    · obtain ⟨o', m, h1, h2⟩ := ih o.ser x h
      exact ⟨o', m, List.mem_cons_of_mem _ h1, h2⟩

theorem toObs_length : ∀ (l : List Ob) (last : Nat), (toObs last l).length = l.length := by
  intro l
  induction l with
  | nil => intro _; rfl
  | cons o r ih => intro last; simp [toObs, ih]

/-- The numbers of a graph that may be can be written. (Its lists are no longer than memory allows.) -/
theorem ngOk_of {hd : Ob → Prop} {g : Gr} (h : May hd g) (hp : ∀ o, hd o → o.kind ≤ 4 ∧ o.site ≤ 255) (hl : g.obs.length ≤ 2 ^ 60) (hq : g.qu.length ≤ 2 ^ 60)
    (ho : ∀ o, o ∈ g.obs → o.ps.length ≤ 2 ^ 60 ∧ o.rs.length ≤ 2 ^ 60 ∧ ∀ n, n ∈ o.rs → n < 2 ^ 64) (hs : ∀ t, t ∈ g.slots → t.length ≤ 2 ^ 60 ∧ ∀ f, f ∈ t → f.length ≤ 2 ^ 60) : ngOk (toNG g) := by
  have hg : great = 2 ^ 62 + 1 := rfl
  have b0 : (2 : Nat) ^ 60 + 1024 ≤ great := by rw [hg]; omega
  have hin : ∀ z : Int, z ≤ g.obs.length → z.toNat ≤ great := fun z hz => by omega
  refine ⟨h.n1, ⟨by show (toObs 0 g.obs).length ≤ great; rw [toObs_length]; omega, fun x hx => ?_⟩, ⟨by show (g.slots.map _).length ≤ great; rw [List.length_map]; have := h.t1; omega, fun t ht => ?_⟩, ⟨by show (g.hs.map _).length ≤ great; rw [List.length_map]; have := h.h1; omega, fun n hn => ?_⟩, ⟨by show (g.qu.map _).length ≤ great; rw [List.length_map]; omega, fun n hn => ?_⟩⟩
  · obtain ⟨o, m, h1, rfl⟩ := mem_toObs _ _ _ hx
    obtain ⟨h2, h3⟩ := hp o (h.head o h1)
    obtain ⟨h4, h5, h6⟩ := ho o h1
    have h7 := h.low o h1
    have h8 := h.n1
    refine ⟨by show o.ser - m ≤ great; omega, by show o.kind.toNat ≤ great; omega, by show o.site.toNat ≤ great; omega, ⟨by show (o.ps.map _).length ≤ great; rw [List.length_map]; omega, fun n hn => ?_⟩, ⟨by show o.rs.length ≤ great; omega, h6⟩⟩
    obtain ⟨z, hz, rfl⟩ := List.mem_map.1 hn
    exact hin z (h.ptrs o h1 z hz).2
  · obtain ⟨t', ht', rfl⟩ := List.mem_map.1 ht
    obtain ⟨h1, h2⟩ := hs t' ht'
    refine ⟨by rw [List.length_map]; omega, fun f hf => ?_⟩
    obtain ⟨f', hf', rfl⟩ := List.mem_map.1 hf
    refine ⟨by rw [List.length_map]; have := h2 f' hf'; omega, fun n hn => ?_⟩
    obtain ⟨z, hz, rfl⟩ := List.mem_map.1 hn
    exact hin z (h.slot t' ht' f' hf' z hz).2
  · obtain ⟨z, hz, rfl⟩ := List.mem_map.1 hn
    have := (h.hand z hz).2
    show (z + 1).toNat ≤ great
    omega
  · obtain ⟨z, hz, rfl⟩ := List.mem_map.1 hn
    exact hin z (h.que z hz).2

end Go.Proofs.YtckgcpoheodbcaaDoor.Im

/-
  Images, the pure side: a list of what is still to be looked at tells what is known.
-/
set_option linter.unusedVariables false
namespace Go.Proofs.YtckgcpoheodbcaaDoor.Im

/-- How many of the first n are met. -/
def cnt (M : Nat → Bool) : Nat → Nat
  | 0 => 0
  | n + 1 => cnt M n + if M (n + 1) = true then 1 else 0

theorem cnt_le (M : Nat → Bool) : ∀ n, cnt M n ≤ n := by
  intro n
  induction n with
  | zero => exact Nat.le_refl _
  | succ n ih => unfold cnt; split <;> omega

theorem cnt_all (M : Nat → Bool) : ∀ n, cnt M n = n ↔ ∀ i, 1 ≤ i → i ≤ n → M i = true := by
  intro n
  induction n with
  | zero => exact ⟨fun _ i h1 h2 => by omega, fun _ => rfl⟩
  | succ n ih =>
    have hl := cnt_le M n
    unfold cnt
    by_cases h : M (n + 1) = true
    · rw [if_pos h]
      constructor
      · intro e i h1 h2
        by_cases e1 : i = n + 1
        · rw [e1]; exact h
        · exact ih.1 (by omega) i h1 (by omega)
      · intro h1
        have := ih.2 (fun i h2 h3 => h1 i h2 (by omega))
        omega
    · rw [if_neg h]
      constructor
      · intro e; omega
      · intro h1; exact absurd (h1 (n + 1) (by omega) (Nat.le_refl _)) h

def metSet (M : Nat → Bool) (k : Nat) : Nat → Bool := fun n => decide (n = k) || M n

theorem cnt_out {M : Nat → Bool} {k : Nat} : ∀ n, n < k → cnt (metSet M k) n = cnt M n := by
  intro n
  induction n with
  | zero => intro _; rfl
  | succ n ih =>
    intro h
    unfold cnt
    rw [ih (by omega)]
    have : metSet M k (n + 1) = M (n + 1) := by unfold metSet; simp; omega
    rw [this]

theorem cnt_set {M : Nat → Bool} {k : Nat} (h0 : M k = false) (h1 : 1 ≤ k) : ∀ n, k ≤ n → cnt (metSet M k) n = cnt M n + 1 := by
  intro n
  induction n with
  | zero => intro h; omega
  | succ n ih =>
    intro h
    unfold cnt
    by_cases e : k = n + 1
    · subst e
      rw [cnt_out n (by omega), h0]
      have : metSet M (n + 1) (n + 1) = true := by simp [metSet]
      rw [this]
      simp
    · rw [ih (by omega)]
      have : metSet M k (n + 1) = M (n + 1) := by unfold metSet; simp; omega
      rw [this]
      omega

/-- What the unmet objects' pointers are together. -/
def wsum (obs : List Ob) (M : Nat → Bool) : Nat → Nat
  | 0 => 0
  | n + 1 => wsum obs M n + if M (n + 1) = true then 0 else ((obs[n]?).map (·.ps.length)).getD 0

theorem wsum_out {obs : List Ob} {M : Nat → Bool} {k : Nat} : ∀ n, n < k → wsum obs (metSet M k) n = wsum obs M n := by
  intro n
  induction n with
  | zero => intro _; rfl
  | succ n ih =>
    intro h
    unfold wsum
    rw [ih (by omega)]
    have : metSet M k (n + 1) = M (n + 1) := by unfold metSet; simp; omega
    rw [this]

theorem wsum_set {obs : List Ob} {M : Nat → Bool} {k : Nat} {o : Ob} (h0 : M k = false) (h1 : 1 ≤ k) (ho : obs[k - 1]? = some o) : ∀ n, k ≤ n → wsum obs (metSet M k) n + o.ps.length = wsum obs M n := by
  intro n
  induction n with
  | zero => intro h; omega
  | succ n ih =>
    intro h
    unfold wsum
    by_cases e : k = n + 1
    · subst e
      rw [wsum_out n (by omega), h0]
      have : metSet M (n + 1) (n + 1) = true := by simp [metSet]
      rw [this]
      rw [Nat.add_sub_cancel] at ho
      simp [ho]
    · have := ih (by omega)
      have e2 : metSet M k (n + 1) = M (n + 1) := by unfold metSet; simp; omega
      rw [e2]
      omega

/-- A graph's roots and registry hold it. -/
def Root (g : Gr) (z : Int) : Prop := (∃ t, t ∈ g.slots ∧ ∃ f, f ∈ t ∧ z ∈ f) ∨ z ∈ g.hs ∨ z ∈ g.rg ∨ z ∈ g.qu

theorem Root.known {g : Gr} {z : Int} (h : Root g z) (hz : 0 < z) : Known g z.toNat := by
  have e : ((z.toNat : Nat) : Int) = z := by omega
  rcases h with ⟨t, ht, f, hf, h⟩ | h | h | h
  · exact .slot t f _ ht hf (by rw [e]; exact h) (by omega)
  · exact .hand _ (by rw [e]; exact h) (by omega)
  · exact .reg _ (by rw [e]; exact h) (by omega)
  · exact .que _ (by rw [e]; exact h) (by omega)

/-- What was met (M, k of them), what is still to be looked at (pd). -/
structure Wl (g : Gr) (M : Nat → Bool) (pd : List Int) (k : Nat) : Prop where
  m : ∀ n, M n = true → 1 ≤ n ∧ n ≤ g.obs.length ∧ Known g n
  p : ∀ z, z ∈ pd → 0 < z → Known g z.toNat
  q : ∀ z, z ∈ pd → z ≤ g.obs.length
  r : ∀ z, Root g z → 0 < z → M z.toNat = true ∨ z ∈ pd
  c : ∀ n o, M n = true → g.obs[n - 1]? = some o → ∀ z, z ∈ o.ps → 0 < z → M z.toNat = true ∨ z ∈ pd
  k : k = cnt M g.obs.length

theorem Wl.start {g : Gr} {pd : List Int} (h : ∀ z, z ∈ pd ↔ Root g z) (hq : ∀ z, Root g z → z ≤ g.obs.length) : Wl g (fun _ => false) pd 0 := by
  refine ⟨fun n hn => by simp at hn, fun z hz h0 => ((h z).1 hz).known h0, fun z hz => hq z ((h z).1 hz), fun z hz _ => .inr ((h z).2 hz), fun n o hn => by simp at hn, ?_⟩
  have : ∀ n, cnt (fun _ => false) n = 0 := by
    intro n
    induction n with
    | zero => rfl
    | succ n ih => unfold cnt; rw [ih]; simp
  exact (this _).symm

theorem Wl.skip {g : Gr} {M : Nat → Bool} {pd pd' : List Int} {k : Nat} {z : Int} (h : Wl g M pd k) (hp : ∀ y, y ∈ pd ↔ y = z ∨ y ∈ pd') (hz : z ≤ 0 ∨ M z.toNat = true) : Wl g M pd' k := by
  have key : ∀ y, 0 < y → (M y.toNat = true ∨ y ∈ pd) → M y.toNat = true ∨ y ∈ pd' := fun y hy h1 => by
    rcases h1 with h1 | h1
    · exact .inl h1
    · rcases (hp y).1 h1 with rfl | h2
      · rcases hz with h3 | h3
        · omega
        · exact .inl h3
      · exact .inr h2
  exact ⟨h.m, fun y hy => h.p y ((hp y).2 (.inr hy)), fun y hy => h.q y ((hp y).2 (.inr hy)), fun y h1 h2 => key y h2 (h.r y h1 h2), fun n o h1 h2 y h3 h4 => key y h4 (h.c n o h1 h2 y h3 h4), h.k⟩

theorem Wl.take {g : Gr} {M : Nat → Bool} {pd pd' : List Int} {k : Nat} {z : Int} {o : Ob} (h : Wl g M pd k) (hp : ∀ y, y ∈ pd → y = z ∨ y ∈ pd') (ho : g.obs[z.toNat - 1]? = some o) (ho' : ∀ y, y ∈ o.ps → y ∈ pd') (hback : ∀ y, y ∈ pd' → y ∈ pd ∨ y ∈ o.ps) (hr : ∀ y, y ∈ o.ps → y ≤ g.obs.length) (hz : z ∈ pd) (h0 : 0 < z) (hM : M z.toNat = false) : Wl g (metSet M z.toNat) pd' (k + 1) := by
  have hkn := h.p z hz h0
  have hle := h.q z hz
  have key : ∀ y, 0 < y → (M y.toNat = true ∨ y ∈ pd) → metSet M z.toNat y.toNat = true ∨ y ∈ pd' := fun y hy h1 => by
    rcases h1 with h1 | h1
    · exact .inl (by simp [metSet, h1])
    · rcases hp y h1 with rfl | h2
      · exact .inl (by simp [metSet])
      · exact .inr h2
  refine ⟨fun n hn => ?_, fun y hy hy0 => ?_, fun y hy => ?_, fun y h1 h2 => key y h2 (h.r y h1 h2), fun n o' h1 h2 y h3 h4 => ?_, ?_⟩
  · by_cases e : n = z.toNat
    · rw [e]; exact ⟨by omega, by omega, hkn⟩
    · exact h.m n (by simpa [metSet, e] using hn)
  · rcases hback y hy with h1 | h1
    · exact h.p y h1 hy0
    · exact .ptr z.toNat y.toNat o hkn ho (by rw [show ((y.toNat : Nat) : Int) = y by omega]; exact h1) (by omega)
  · rcases hback y hy with h1 | h1
    · exact h.q y h1
    · exact hr y h1
  · by_cases e : n = z.toNat
    · rw [e, ho] at h2
      cases h2
      exact .inr (ho' y h3)
    · exact key y h4 (h.c n o' (by simpa [metSet, e] using h1) h2 y h3 h4)
  · rw [cnt_set hM (by omega) _ (by omega), h.k]

/-- Nothing is left: all is known that was met. -/
theorem Wl.done {g : Gr} {M : Nat → Bool} {k : Nat} (h : Wl g M [] k) (hr : ∀ o, o ∈ g.obs → ∀ z, z ∈ o.ps → z ≤ g.obs.length) : k = g.obs.length ↔ ∀ n, 1 ≤ n → n ≤ g.obs.length → Known g n := by
  have hk : ∀ n, Known g n → M n = true := by
    intro n hn
    have nil : ∀ {z : Int}, M z.toNat = true ∨ z ∈ ([] : List Int) → M z.toNat = true := fun h9 => h9.elim id (fun h8 => by simp at h8)
    induction hn with
    | slot t f n h1 h2 h3 h4 => have := nil (h.r (n : Int) (.inl ⟨t, h1, f, h2, h3⟩) (by omega)); simpa using this
    | hand n h1 h2 => have := nil (h.r (n : Int) (.inr (.inl h1)) (by omega)); simpa using this
    | reg n h1 h2 => have := nil (h.r (n : Int) (.inr (.inr (.inl h1))) (by omega)); simpa using this
    | que n h1 h2 => have := nil (h.r (n : Int) (.inr (.inr (.inr h1))) (by omega)); simpa using this
    | ptr m n o h1 h2 h3 h4 ih => have := nil (h.c m o ih h2 (n : Int) h3 (by omega)); simpa using this
  rw [h.k, cnt_all]
  exact ⟨fun h1 n h2 h3 => (h.m n (h1 n h2 h3)).2.2, fun h1 n h2 h3 => hk n (h1 n h2 h3)⟩

end Go.Proofs.YtckgcpoheodbcaaDoor.Im

