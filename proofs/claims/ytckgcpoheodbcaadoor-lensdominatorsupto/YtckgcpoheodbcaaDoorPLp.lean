import Derived.Test.YtckgcpoheodbcaaDoorRows
/-
  Shortest paths: what a search in breadth leaves, and that the path that it tells is the one that goes always to the least number that is nearest.
-/
set_option linter.unusedVariables false
namespace Go.Proofs.YtckgcpoheodbcaaDoor.Lp

/-- So many steps lead from x to t. -/
def Pth (W : Nat → List Nat) (t : Nat) : Nat → Nat → Prop
  | 0, x => x = t
  | d + 1, x => ∃ y, y ∈ W x ∧ Pth W t d y

/-- And no fewer. -/
def Dis (W : Nat → List Nat) (t x d : Nat) : Prop := Pth W t d x ∧ ∀ e, Pth W t e x → d ≤ e

/-- What the search has met, in its order; the first k were gone through. -/
structure Bt (W : Nat → List Nat) (seq : List Nat) (k : Nat) (by' dep pos : Nat → Nat) : Prop where
  ps : ∀ (j : Nat) y, seq[j]? = some y → pos y = j
  z : seq[0]? = some 0
  kl : k ≤ seq.length
  d0 : dep 0 = 0
  pr : ∀ y, y ∈ seq → y ≠ 0 → by' y ∈ seq ∧ pos (by' y) < k ∧ pos (by' y) < pos y ∧ y ∈ W (by' y) ∧ dep y = dep (by' y) + 1
  al : ∀ x, x ∈ seq → pos x < k → ∀ y, y ∈ W x → y ∈ seq ∧ pos (by' y) ≤ pos x
  od : ∀ y y', y ∈ seq → y' ∈ seq → y ≠ 0 → y' ≠ 0 → pos y < pos y' → pos (by' y) < pos (by' y') ∨ (by' y = by' y' ∧ y < y')
  wp : ∀ x y, y ∈ W x → y ≠ 0

variable {W : Nat → List Nat} {seq : List Nat} {k : Nat} {by' dep pos : Nat → Nat}

theorem Bt.at_ (h : Bt W seq k by' dep pos) {x : Nat} (hx : x ∈ seq) : seq[pos x]? = some x := by
  obtain ⟨j, hj⟩ := List.getElem?_of_mem hx
  rw [h.ps j x hj]
  exact hj

theorem Bt.inj (h : Bt W seq k by' dep pos) {x y : Nat} (hx : x ∈ seq) (hy : y ∈ seq) (e : pos x = pos y) : x = y := by
  have h1 := h.at_ hx
  have h2 := h.at_ hy
  rw [e, h2] at h1
  exact (Option.some.inj h1).symm

theorem Bt.p0 (h : Bt W seq k by' dep pos) : pos 0 = 0 := h.ps 0 0 h.z
theorem Bt.m0 (h : Bt W seq k by' dep pos) : 0 ∈ seq := List.mem_of_getElem? h.z

/-- Who was met earlier is no farther. -/
theorem Bt.mono (h : Bt W seq k by' dep pos) : ∀ (n : Nat) x y, pos y = n → x ∈ seq → y ∈ seq → pos x ≤ pos y → dep x ≤ dep y := by
  intro n
  induction n using Nat.strongRecOn with
  | _ n ih =>
    intro x y hn hx hy hle
    by_cases ex : x = 0
    · rw [ex, h.d0]; exact Nat.zero_le _
    · by_cases e : pos x = pos y
      · rw [h.inj hx hy e]; exact Nat.le_refl _
      · have ey : y ≠ 0 := fun ey => by rw [ey, h.p0] at hle e; omega
        have px := h.pr x hx ex
        have py := h.pr y hy ey
        rw [px.2.2.2.2, py.2.2.2.2]
        have hb : pos (by' x) ≤ pos (by' y) := by
          rcases h.od x y hx hy ex ey (by omega) with h1 | ⟨h1, -⟩
          · omega
          · rw [h1]; exact Nat.le_refl _
        have := ih (pos (by' y)) (by omega) (by' x) (by' y) rfl px.1 py.1 hb
        omega

/-- No way to what was met is shorter. -/
theorem Bt.short (h : Bt W seq k by' dep pos) {t : Nat} (ht : t ∈ seq) (h0 : t ≠ 0) : ∀ (e x : Nat), x ∈ seq → Pth W t e x → dep t ≤ dep x + e
  | 0, x, hx, hp => by
    have : x = t := hp
    rw [this]; exact Nat.le_refl _
  | e + 1, x, hx, hp => by
    obtain ⟨y, hy, hp⟩ := hp
    by_cases hk : pos x < k
    · have h1 := h.al x hx hk y hy
      have h2 := h.pr y h1.1 (h.wp x y hy)
      have h3 := h.mono _ (by' y) x rfl h2.1 hx h1.2
      have h4 := h.short ht h0 e y h1.1 hp
      omega
    · have h2 := h.pr t ht h0
      have h3 := h.mono _ (by' t) x rfl h2.1 hx (by omega)
      omega

/-- The row of those through which t was met: the first is 0, the last t. -/
inductive Chn (by' : Nat → Nat) : Nat → List Nat → Prop
  | nil : Chn by' 0 []
  | snoc {t : Nat} {l : List Nat} : t ≠ 0 → Chn by' (by' t) l → Chn by' t (l ++ [t])

/-- P17.5, as it is told behind x: always the nearest, of these the least. -/
inductive Gd (W : Nat → List Nat) (t : Nat) : Nat → List Nat → Prop
  | nil : Gd W t t []
  | cons {x y d : Nat} {l : List Nat} : x ≠ t → y ∈ W x → Dis W t y d → (∀ z e, z ∈ W x → Dis W t z e → d ≤ e ∧ (e = d → y ≤ z)) → Gd W t y l → Gd W t x (y :: l)

/-- Along the row each is met ahead of all others that lie as well on shortest ways. -/
theorem Bt.first (h : Bt W seq k by' dep pos) {t : Nat} (ht : t ∈ seq) (h0 : t ≠ 0) : ∀ (d c : Nat), c ∈ seq → dep c + d = dep t → Pth W t d c → (∀ z, z ∈ seq → dep z = dep c → Pth W t d z → pos c ≤ pos z) →
    c ≠ 0 → by' c ∈ seq ∧ dep (by' c) + (d + 1) = dep t ∧ Pth W t (d + 1) (by' c) ∧ (∀ z, z ∈ seq → dep z = dep (by' c) → Pth W t (d + 1) z → pos (by' c) ≤ pos z) ∧
      Dis W t c d ∧ ∀ z e, z ∈ W (by' c) → Dis W t z e → d ≤ e ∧ (e = d → c ≤ z) := by
  intro d c hc hd hp hf h00
  have pc := h.pr c hc h00
  have hdis : ∀ z e, z ∈ seq → Pth W t e z → dep t ≤ dep z + e := fun z e hz hpz => h.short ht h0 e z hz hpz
  refine ⟨pc.1, by omega, ⟨c, pc.2.2.2.1, hp⟩, fun z hz hdz hpz => ?_, ⟨hp, fun e hpe => by have := hdis c e hc hpe; omega⟩, fun z e hz hze => ?_⟩
  · rcases Nat.lt_or_ge (pos z) (pos (by' c)) with hlt | hge
    · obtain ⟨y, hy, hpy⟩ := hpz
      have h1 := h.al z hz (by omega) y hy
      have ey := h.wp z y hy
      have h2 := h.pr y h1.1 ey
      have h3 := h.mono _ (by' y) z rfl h2.1 hz h1.2
      have h4 := hdis y d h1.1 hpy
      have h5 : dep y = dep c := by omega
      have h6 := hf y h1.1 h5 hpy
      have h7 : pos (by' c) ≤ pos (by' y) := by
        rcases Nat.lt_or_eq_of_le h6 with h8 | h8
        · rcases h.od c y hc h1.1 h00 ey h8 with h9 | ⟨h9, -⟩
          · omega
          · rw [h9]; exact Nat.le_refl _
        · rw [h.inj hc h1.1 h8]; exact Nat.le_refl _
      omega
    · exact hge
  · have h1 := h.al (by' c) pc.1 pc.2.1 z hz
    have ez := h.wp _ z hz
    have h2 := h.pr z h1.1 ez
    have h3 := h.mono _ (by' z) (by' c) rfl h2.1 pc.1 h1.2
    have h4 := hdis z e h1.1 hze.1
    refine ⟨by omega, fun he => ?_⟩
    subst he
    have h5 : dep z = dep c := by omega
    have h6 := hf z h1.1 h5 hze.1
    rcases Nat.lt_or_eq_of_le h6 with h8 | h8
    · rcases h.od c z hc h1.1 h00 ez h8 with h9 | ⟨-, h9⟩
      · omega
      · omega
    · rw [h.inj hc h1.1 h8]; exact Nat.le_refl _

/-- The row that the search tells is the document's. -/
theorem Bt.chain (h : Bt W seq k by' dep pos) {t : Nat} (ht : t ∈ seq) (h0 : t ≠ 0) : ∀ (c : Nat) (l : List Nat), Chn by' c l → ∀ (d : Nat) (r : List Nat), c ∈ seq → dep c + d = dep t → Pth W t d c → (∀ z, z ∈ seq → dep z = dep c → Pth W t d z → pos c ≤ pos z) → Gd W t c r → Gd W t 0 (l ++ r) := by
  intro c l hl
  induction hl with
  | nil => intro d r _ _ _ _ hg; exact hg
  | @snoc c l h00 hl ih =>
    intro d r hc hd hp hf hg
    obtain ⟨k1, k2, k3, k4, k5, k6⟩ := h.first ht h0 d c hc hd hp hf h00
    have hne : by' c ≠ t := fun e => by rw [e] at k2; omega
    have := ih (d + 1) (c :: r) k1 k2 k3 k4 (.cons hne (h.pr c hc h00).2.2.2.1 k5 k6 hg)
    rw [List.append_assoc]
    exact this

theorem Bt.tells (h : Bt W seq k by' dep pos) {t : Nat} (ht : t ∈ seq) (h0 : t ≠ 0) {l : List Nat} (hl : Chn by' t l) : Gd W t 0 l := by
  have := h.chain ht h0 t l hl 0 [] ht rfl rfl (fun z hz _ hp => by rw [show z = t from hp]; exact Nat.le_refl _) .nil
  rw [List.append_nil] at this
  exact this

/-- Each that was met has such a row. -/
theorem Bt.row (h : Bt W seq k by' dep pos) : ∀ (n t : Nat), pos t = n → t ∈ seq → ∃ l, Chn by' t l := by
  intro n
  induction n using Nat.strongRecOn with
  | _ n ih =>
    intro t hn ht
    by_cases e : t = 0
    · exact ⟨[], e ▸ .nil⟩
    · have p := h.pr t ht e
      obtain ⟨l, hl⟩ := ih (pos (by' t)) (by omega) (by' t) rfl p.1
      exact ⟨l ++ [t], .snoc e hl⟩

/-- Where all that was met was gone through, nothing else is led to. -/
theorem Bt.whole (h : Bt W seq seq.length by' dep pos) {t : Nat} : ∀ (e x : Nat), x ∈ seq → Pth W t e x → t ∈ seq
  | 0, x, hx, hp => by rw [← show x = t from hp]; exact hx
  | e + 1, x, hx, hp => by
    obtain ⟨y, hy, hp⟩ := hp
    have hl := (List.getElem?_eq_some_iff.1 (h.at_ hx)).1
    exact h.whole e y (h.al x hx hl y hy).1 hp

end Go.Proofs.YtckgcpoheodbcaaDoor.Lp

/-
  Shortest paths: steps of the search; how far it is; the document's row is one.
-/
set_option linter.unusedVariables false
namespace Go.Proofs.YtckgcpoheodbcaaDoor.Lp

variable {W : Nat → List Nat} {seq : List Nat} {k : Nat} {by' dep pos : Nat → Nat}

theorem Bt.start (hw : ∀ x y, y ∈ W x → y ≠ 0) : Bt W [0] 0 (fun _ => 0) (fun _ => 0) (fun _ => 0) where
  ps := fun j y h => by
    have := (List.getElem?_eq_some_iff.1 h).1
    simp at this
    exact this.symm
  z := rfl
  kl := Nat.zero_le _
  d0 := rfl
  pr := fun y hy h0 => absurd (by simpa using hy) h0
  al := fun x _ h => by omega
  od := fun y y' hy _ h0 => absurd (by simpa using hy) h0
  wp := hw

theorem idx_at : ∀ (l : List Nat), l.Pairwise (· < ·) → ∀ (i : Nat) y, l[i]? = some y → l.idxOf y = i
  | x :: l, hp, 0, y, h => by
    simp at h
    subst h
    simp
  | x :: l, hp, i + 1, y, h => by
    have hp' := List.pairwise_cons.1 hp
    have h1 : l[i]? = some y := by simpa using h
    have h2 := hp'.1 y (List.mem_of_getElem? h1)
    have h3 := idx_at l hp'.2 i y h1
    rw [List.idxOf_cons, h3]
    have : (x == y) = false := by simp; omega
    simp [this]

/-- One more is gone through. -/
theorem Bt.step (h : Bt W seq k by' dep pos) {n : Nat} (hn : seq[k]? = some n) {new : List Nat} (hp : new.Pairwise (· < ·)) (hm : ∀ y, y ∈ new ↔ y ∈ W n ∧ y ∉ seq) :
    Bt W (seq ++ new) (k + 1) (fun y => if y ∈ new then n else by' y) (fun y => if y ∈ new then dep n + 1 else dep y) (fun y => if y ∈ new then seq.length + new.idxOf y else pos y) := by
  have hns : n ∈ seq := List.mem_of_getElem? hn
  have hnk : pos n = k := h.ps k n hn
  have hkl : k < seq.length := (List.getElem?_eq_some_iff.1 hn).1
  have out : ∀ y, y ∈ seq → y ∉ new := fun y hy hn => ((hm y).1 hn).2 hy
  have lt : ∀ y, y ∈ seq → pos y < seq.length := fun y hy => (List.getElem?_eq_some_iff.1 (h.at_ hy)).1
  have n0 : ∀ y, y ∈ new → y ≠ 0 := fun y hy => h.wp n y ((hm y).1 hy).1
  have z0 : (0 : Nat) ∉ new := fun hz => n0 0 hz rfl
  have mem : ∀ y, y ∈ seq ++ new → y ∈ seq ∨ y ∈ new := fun y hy => List.mem_append.1 hy
  refine ⟨fun j y hj => ?_, ?_, by rw [List.length_append]; omega, by simp [z0, h.d0], fun y hy h0 => ?_, fun x hx hxk y hy => ?_, fun y y' hy hy' h0 h0' hlt => ?_, h.wp⟩
  · rcases Nat.lt_or_ge j seq.length with hl | hl
    · rw [List.getElem?_append_left hl] at hj
      have hy : y ∈ seq := List.mem_of_getElem? hj
      simp only [out y hy, if_false]
      exact h.ps j y hj
    · rw [List.getElem?_append_right hl] at hj
      have hy : y ∈ new := List.mem_of_getElem? hj
      simp only [hy, if_true]
      rw [idx_at new hp _ y hj]
      omega
  · rw [List.getElem?_append_left (by omega)]
    exact h.z
  · rcases mem y hy with hy | hy
    · have p := h.pr y hy h0
      simp only [out y hy, if_false, out _ p.1]
      exact ⟨List.mem_append_left _ p.1, by omega, p.2.2.1, p.2.2.2.1, p.2.2.2.2⟩
    · simp only [hy, if_true, out n hns, if_false]
      exact ⟨List.mem_append_left _ hns, by omega, by omega, ((hm y).1 hy).1, trivial⟩
  · rcases mem x hx with hx | hx
    · simp only [out x hx, if_false] at hxk ⊢
      by_cases hyn : y ∈ new
      · simp only [hyn, if_true, out n hns, if_false]
        refine ⟨List.mem_append_right _ hyn, ?_⟩
        rcases Nat.lt_or_ge (pos x) k with h1 | h1
        · exact absurd (h.al x hx h1 y hy).1 ((hm y).1 hyn).2
        · omega
      · simp only [hyn, if_false]
        rcases Nat.lt_or_ge (pos x) k with h1 | h1
        · have h2 := h.al x hx h1 y hy
          have p := h.pr y h2.1 (h.wp x y hy)
          simp only [out _ p.1, if_false]
          exact ⟨List.mem_append_left _ h2.1, h2.2⟩
        · have ex : x = n := h.inj hx hns (by omega)
          subst ex
          have hys : y ∈ seq := by
            by_cases e : y ∈ seq
            · exact e
            · exact absurd ((hm y).2 ⟨hy, e⟩) hyn
          have p := h.pr y hys (h.wp x y hy)
          simp only [out _ p.1, if_false]
          exact ⟨List.mem_append_left _ hys, by omega⟩
    · simp only [hx, if_true] at hxk
      omega
  · rcases mem y hy with hy | hy
    · have p := h.pr y hy h0
      rcases mem y' hy' with hy' | hy'
      · have p' := h.pr y' hy' h0'
        simp only [out y hy, out y' hy', if_false, out _ p.1, out _ p'.1] at hlt ⊢
        exact h.od y y' hy hy' h0 h0' hlt
      · simp only [out y hy, hy', if_false, if_true, out _ p.1, out n hns]
        exact .inl (by omega)
    · rcases mem y' hy' with hy' | hy'
      · simp only [hy, out y' hy', if_false, if_true] at hlt
        have := lt y' hy'
        omega
      · simp only [hy, hy', if_true] at hlt ⊢
        refine .inr ⟨trivial, ?_⟩
        obtain ⟨i, hi⟩ := List.getElem?_of_mem hy
        obtain ⟨j, hj⟩ := List.getElem?_of_mem hy'
        rw [idx_at new hp i y hi, idx_at new hp j y' hj] at hlt
        obtain ⟨hil, hi⟩ := List.getElem?_eq_some_iff.1 hi
        obtain ⟨hjl, hj⟩ := List.getElem?_eq_some_iff.1 hj
        rw [← hi, ← hj]
        exact List.pairwise_iff_getElem.1 hp i j hil hjl (by omega)

theorem Dis.uniq {t x d e : Nat} (h : Dis W t x d) (k : Dis W t x e) : d = e := Nat.le_antisymm (h.2 _ k.1) (k.2 _ h.1)

/-- Where there is a way, there is a shortest one. -/
theorem Dis.ex {t : Nat} : ∀ (n e x : Nat), e ≤ n → Pth W t e x → ∃ d, d ≤ e ∧ Dis W t x d
  | 0, e, x, he, hp => by
    have : e = 0 := by omega
    subst this
    exact ⟨0, Nat.le_refl _, hp, fun _ _ => Nat.zero_le _⟩
  | n + 1, e, x, he, hp => by
    by_cases hm : ∃ f, f < e ∧ Pth W t f x
    · obtain ⟨f, hf, hpf⟩ := hm
      obtain ⟨d, h1, h2⟩ := Dis.ex n f x (by omega) hpf
      exact ⟨d, by omega, h2⟩
    · exact ⟨e, Nat.le_refl _, hp, fun f hpf => Nat.le_of_not_lt fun hl => hm ⟨f, hl, hpf⟩⟩

theorem Dis.next {t x d : Nat} (h : Dis W t x (d + 1)) : ∃ y, y ∈ W x ∧ Dis W t y d := by
  obtain ⟨y, hy, hp⟩ := h.1
  obtain ⟨e, h1, h2⟩ := Dis.ex d d y (Nat.le_refl _) hp
  have := h.2 (e + 1) ⟨y, hy, h2.1⟩
  have : e = d := by omega
  subst this
  exact ⟨y, hy, h2⟩

theorem Dis.prev {t x y d e : Nat} (h : Dis W t x d) (hy : y ∈ W x) (k : Dis W t y e) : d ≤ e + 1 := h.2 (e + 1) ⟨y, hy, k.1⟩

/-- There is one such row at most. -/
theorem Gd.uniq {t x : Nat} {l l' : List Nat} (h : Gd W t x l) (h' : Gd W t x l') : l = l' := by
  induction h generalizing l' with
  | nil =>
    cases h' with
    | nil => rfl
    | cons hne => exact absurd rfl hne
  | @cons x y d l hne hy hd hmin _ ih =>
    cases h' with
    | nil => exact absurd rfl hne
    | @cons _ y' d' l' _ hy' hd' hmin' hg =>
      have a := hmin y' d' hy' hd'
      have b := hmin' y d hy hd
      have e : d = d' := Nat.le_antisymm a.1 b.1
      have e2 : y = y' := Nat.le_antisymm (a.2 e.symm) (b.2 e)
      subst e2
      rw [ih hg]

/-- All that lie on a shortest way are others. -/
theorem Dis.row {t : Nat} : ∀ (d x : Nat), Dis W t x d → ∃ l : List Nat, l.length = d + 1 ∧ l.Nodup ∧ ∀ y, y ∈ l → (∃ f, f ≤ d ∧ Dis W t y f) ∧ (y = x ∨ ∃ z, y ∈ W z)
  | 0, x, h => ⟨[x], rfl, by simp, fun y hy => by
    have : y = x := by simpa using hy
    subst this
    exact ⟨⟨0, Nat.le_refl _, h⟩, .inl rfl⟩⟩
  | d + 1, x, h => by
    obtain ⟨y, hy, h1⟩ := h.next
    obtain ⟨l, h2, h3, h4⟩ := Dis.row d y h1
    refine ⟨x :: l, by simp [h2], List.nodup_cons.2 ⟨fun hx => ?_, h3⟩, fun z hz => ?_⟩
    · obtain ⟨⟨f, hf, hdf⟩, -⟩ := h4 x hx
      have := h.uniq hdf
      omega
    · rcases List.mem_cons.1 hz with rfl | hz
      · exact ⟨⟨d + 1, Nat.le_refl _, h⟩, .inl rfl⟩
      · obtain ⟨⟨f, hf, hdf⟩, h5⟩ := h4 z hz
        refine ⟨⟨f, by omega, hdf⟩, .inr ?_⟩
        rcases h5 with rfl | h5
        · exact ⟨x, hy⟩
        · exact h5

theorem nodup_len : ∀ (l k : List Nat), l.Nodup → (∀ x, x ∈ l → x ∈ k) → l.length ≤ k.length
  | [], k, _, _ => Nat.zero_le _
  | x :: l, k, hp, hs => by
    have hx := hs x List.mem_cons_self
    have hp' := List.nodup_cons.1 hp
    have h1 := nodup_len l (k.erase x) hp'.2 (fun y hy => (List.mem_erase_of_ne (fun (e : y = x) => hp'.1 (by rw [← e]; exact hy))).2 (hs y (List.mem_cons_of_mem _ hy)))
    have h2 := List.length_erase_of_mem hx
    have h3 : 0 < k.length := List.length_pos_of_mem hx
    simp only [List.length_cons]
    omega

/-- So nobody is farther than there are objects. -/
theorem Dis.lt {t x d n : Nat} (h : Dis W t x d) (hx : 1 ≤ x ∧ x ≤ n) (hw : ∀ z y, y ∈ W z → 1 ≤ y ∧ y ≤ n) : d < n := by
  obtain ⟨l, h1, h2, h3⟩ := Dis.row d x h
  have h4 := nodup_len l (List.range' 1 n) h2 (fun y hy => by
    rw [List.mem_range'_1]
    rcases (h3 y hy).2 with rfl | ⟨z, hz⟩
    · omega
    · have := hw z y hz
      omega)
  rw [List.length_range'] at h4
  omega

end Go.Proofs.YtckgcpoheodbcaaDoor.Lp

/-
  Shortest paths: how far each is, round after round; the nearest of some; the document's row.
-/
set_option linter.unusedVariables false
namespace Go.Proofs.YtckgcpoheodbcaaDoor.Lp

variable {W : Nat → List Nat} {t n : Nat}

/-- far tells of each how far it is (one more), as far as it was looked for (b). -/
def FI (W : Nat → List Nat) (t n : Nat) (far b : Nat → Nat) : Prop := ∀ y, 1 ≤ y → y ≤ n → ∀ e, far y = e + 1 ↔ Dis W t y e ∧ e < b y

theorem Dis.self : Dis W t t 0 := ⟨rfl, fun _ _ => Nat.zero_le _⟩
theorem Dis.zero {x : Nat} (h : Dis W t x 0) : x = t := h.1

theorem FI.start : FI W t n (fun y => if y = t then 1 else 0) (fun _ => 1) := fun y h1 h2 e => by
  constructor
  · intro h
    by_cases hy : y = t
    · simp only [hy, if_true] at h
      have : e = 0 := by omega
      subst this
      rw [hy]
      exact ⟨Dis.self, Nat.zero_lt_one⟩
    · simp [hy] at h
  · rintro ⟨h, he⟩
    have he' : e < 1 := he
    have : e = 0 := by omega
    subst this
    simp [h.zero]

/-- One is looked at. -/
theorem FI.look {far b : Nat → Nat} (h : FI W t n far b) {x d : Nat} (hx : 1 ≤ x ∧ x ≤ n) (hw : ∀ z y, y ∈ W z → 1 ≤ y ∧ y ≤ n) (hb : ∀ y, d ≤ b y) (hbx : b x = d) (hd : 1 ≤ d) (far' : Nat → Nat)
    (h1 : ∀ y, y ≠ x → far' y = far y) (h2 : far x ≠ 0 → far' x = far x) (h3 : far x = 0 → (∃ y, y ∈ W x ∧ far y = d) → far' x = d + 1) (h4 : far x = 0 → (∀ y, y ∈ W x → far y ≠ d) → far' x = 0) :
    FI W t n far' (fun y => if y = x then d + 1 else b y) := by
  intro y hy1 hy2 e
  by_cases ey : y = x
  · subst ey
    simp only [if_true]
    by_cases h0 : far y = 0
    · have hno : ∀ e, e < d → ¬ Dis W t y e := fun e he hde => by
        have := (h y hy1 hy2 e).2 ⟨hde, by omega⟩
        omega
      by_cases hex : ∃ z, z ∈ W y ∧ far z = d
      · rw [h3 h0 hex]
        obtain ⟨z, hz, hfz⟩ := hex
        have hz' := hw y z hz
        have hdz : Dis W t z (d - 1) := ((h z hz'.1 hz'.2 (d - 1)).1 (by omega)).1
        have hpy : Pth W t d y := by
          have : Pth W t (d - 1 + 1) y := ⟨z, hz, hdz.1⟩
          rwa [show d - 1 + 1 = d by omega] at this
        obtain ⟨d', hd', hdd⟩ := Dis.ex d d y (Nat.le_refl _) hpy
        have : d' = d := by
          rcases Nat.lt_or_ge d' d with hl | hl
          · exact absurd hdd (hno d' hl)
          · omega
        subst this
        constructor
        · intro he
          have : e = d' := by omega
          subst this
          exact ⟨hdd, by omega⟩
        · rintro ⟨he, -⟩
          rw [he.uniq hdd]
      · have hn : ∀ z, z ∈ W y → far z ≠ d := fun z hz e => hex ⟨z, hz, e⟩
        rw [h4 h0 hn]
        constructor
        · intro he; omega
        · rintro ⟨he, hlt⟩
          rcases Nat.lt_or_ge e d with hl | hl
          · exact absurd he (hno e hl)
          · have : e = d - 1 + 1 := by omega
            rw [this] at he
            obtain ⟨z, hz, hdz⟩ := he.next
            have hz' := hw y z hz
            have := (h z hz'.1 hz'.2 (d - 1)).2 ⟨hdz, by have := hb z; omega⟩
            exact absurd (by omega) (hn z hz)
    · rw [h2 h0, h y hy1 hy2 e, hbx]
      constructor
      · rintro ⟨a, b⟩; exact ⟨a, by omega⟩
      · rintro ⟨a, b⟩
        refine ⟨a, ?_⟩
        have h5 := (h y hy1 hy2 (far y - 1)).1 (by omega)
        have := a.uniq h5.1
        omega
  · simp only [ey, if_false]
    rw [h1 y ey]
    exact h y hy1 hy2 e

/-- Behind all rounds. -/
theorem FI.whole {far b : Nat → Nat} (h : FI W t n far b) (hw : ∀ z y, y ∈ W z → 1 ≤ y ∧ y ≤ n) (hb : ∀ y, n ≤ b y) {y : Nat} (h1 : 1 ≤ y) (h2 : y ≤ n) (e : Nat) : far y = e + 1 ↔ Dis W t y e := by
  rw [h y h1 h2 e]
  exact ⟨fun h => h.1, fun hd => ⟨hd, by have := hd.lt ⟨h1, h2⟩ hw; have := hb y; omega⟩⟩

/-- One more of some: is it nearer? -/
def nst (far : Nat → Nat) (d best x : Nat) : Nat := if far x = 0 ∨ (0 < d ∧ far x ≠ d) then best else if best = 0 ∨ far x < far best ∨ (far x = far best ∧ x < best) then x else best

/-- best is the nearest of l. -/
def NI (far : Nat → Nat) (l : List Nat) (d best : Nat) : Prop :=
  (best = 0 ∧ ∀ x, x ∈ l → far x = 0 ∨ (0 < d ∧ far x ≠ d)) ∨ (best ≠ 0 ∧ best ∈ l ∧ far best ≠ 0 ∧ (0 < d → far best = d) ∧ ∀ x, x ∈ l → far x ≠ 0 → (0 < d → far x = d) → far best ≤ far x ∧ (far x = far best → best ≤ x))

theorem NI.nil (far : Nat → Nat) (d : Nat) : NI far [] d 0 := .inl ⟨rfl, fun x h => by simp at h⟩

theorem NI.snoc {far : Nat → Nat} {l : List Nat} {d best x : Nat} (h : NI far l d best) (hx : x ≠ 0) : NI far (l ++ [x]) d (nst far d best x) := by
  unfold nst
  by_cases hc : far x = 0 ∨ (0 < d ∧ far x ≠ d)
  · rw [if_pos hc]
    rcases h with ⟨h1, h2⟩ | ⟨h1, h2, h3, h4, h5⟩
    · refine .inl ⟨h1, fun y hy => ?_⟩
      rcases List.mem_append.1 hy with hy | hy
      · exact h2 y hy
      · rw [show y = x by simpa using hy]; exact hc
    · refine .inr ⟨h1, List.mem_append_left _ h2, h3, h4, fun y hy hy0 hyd => ?_⟩
      rcases List.mem_append.1 hy with hy | hy
      · exact h5 y hy hy0 hyd
      · have : y = x := by simpa using hy
        subst this
        rcases hc with hc | hc
        · exact absurd hc hy0
        · exact absurd (hyd hc.1) hc.2
  · rw [if_neg hc]
    have hx0 : far x ≠ 0 := fun e => hc (.inl e)
    have hxd : 0 < d → far x = d := fun hd => Classical.byContradiction fun e => hc (.inr ⟨hd, e⟩)
    by_cases hn : best = 0 ∨ far x < far best ∨ (far x = far best ∧ x < best)
    · rw [if_pos hn]
      refine .inr ⟨hx, List.mem_append_right _ (by simp), hx0, hxd, fun y hy hy0 hyd => ?_⟩
      rcases List.mem_append.1 hy with hy | hy
      · rcases h with ⟨h1, h2⟩ | ⟨h1, h2, h3, h4, h5⟩
        · rcases h2 y hy with h6 | h6
          · exact absurd h6 hy0
          · exact absurd (hyd h6.1) h6.2
        · have h6 := h5 y hy hy0 hyd
          rcases hn with hn | hn | hn
          · exact absurd hn h1
          · exact ⟨by omega, fun e => by omega⟩
          · exact ⟨by omega, fun e => by have := h6.2 (by omega); omega⟩
      · have : y = x := by simpa using hy
        subst this
        exact ⟨Nat.le_refl _, fun _ => Nat.le_refl _⟩
    · rw [if_neg hn]
      rcases h with ⟨h1, h2⟩ | ⟨h1, h2, h3, h4, h5⟩
      · exact absurd (.inl h1) hn
      · refine .inr ⟨h1, List.mem_append_left _ h2, h3, h4, fun y hy hy0 hyd => ?_⟩
        rcases List.mem_append.1 hy with hy | hy
        · exact h5 y hy hy0 hyd
        · have : y = x := by simpa using hy
          subst this
          exact ⟨Nat.le_of_not_lt fun e => hn (.inr (.inl e)), fun e => Nat.le_of_not_lt fun e2 => hn (.inr (.inr ⟨e, e2⟩))⟩

/-- The first of the row. -/
theorem first_of {far : Nat → Nat} (hf : ∀ y, 1 ≤ y → y ≤ n → ∀ e, far y = e + 1 ↔ Dis W t y e) (hw : ∀ z y, y ∈ W z → 1 ≤ y ∧ y ≤ n) {best : Nat} (h : NI far (W 0) 0 best) (ht : t ≠ 0) : (best = 0 ∧ ∀ e, ¬ Pth W t e 0) ∨ (1 ≤ best ∧ best ≤ n ∧ far best ≠ 0 ∧ ∀ r, Gd W t best r → Gd W t 0 (best :: r)) := by
  rcases h with ⟨h1, h2⟩ | ⟨h1, h2, h3, h4, h5⟩
  · refine .inl ⟨h1, fun e hp => ?_⟩
    cases e with
    | zero => exact ht (show 0 = t from hp).symm
    | succ e =>
      obtain ⟨y, hy, hp⟩ := hp
      have hy' := hw 0 y hy
      obtain ⟨d, -, hd⟩ := Dis.ex e e y (Nat.le_refl _) hp
      have := (hf y hy'.1 hy'.2 d).2 hd
      rcases h2 y hy with h6 | h6
      · omega
      · omega
  · have hb := hw 0 best h2
    refine .inr ⟨hb.1, hb.2, h3, fun r hr => ?_⟩
    have hd : Dis W t best (far best - 1) := (hf best hb.1 hb.2 _).1 (by omega)
    refine .cons (fun e => ht e.symm) h2 hd (fun z e hz hze => ?_) hr
    have hz' := hw 0 z hz
    have hfz := (hf z hz'.1 hz'.2 e).2 hze
    have := h5 z hz (by omega) (fun h => by omega)
    exact ⟨by omega, fun he => this.2 (by omega)⟩

/-- The next of the row. -/
theorem next_of {far : Nat → Nat} (hf : ∀ y, 1 ≤ y → y ≤ n → ∀ e, far y = e + 1 ↔ Dis W t y e) (hw : ∀ z y, y ∈ W z → 1 ≤ y ∧ y ≤ n) {at' best : Nat} (ha : 1 ≤ at' ∧ at' ≤ n) (h1 : far at' ≠ 0) (h2 : far at' ≠ 1) (h : NI far (W at') (far at' - 1) best) : 1 ≤ best ∧ best ≤ n ∧ far best = far at' - 1 ∧ ∀ r, Gd W t best r → Gd W t at' (best :: r) := by
  have hda : Dis W t at' (far at' - 2 + 1) := (hf at' ha.1 ha.2 _).1 (by omega)
  obtain ⟨y, hy, hdy⟩ := hda.next
  have hy' := hw at' y hy
  have hfy := (hf y hy'.1 hy'.2 _).2 hdy
  rcases h with ⟨-, h3⟩ | ⟨h3, h4, h5, h6, h7⟩
  · rcases h3 y hy with h8 | h8
    · omega
    · exact absurd (by omega) h8.2
  · have hb := hw at' best h4
    have hfb := h6 (by omega)
    have hdb : Dis W t best (far at' - 2) := (hf best hb.1 hb.2 _).1 (by omega)
    refine ⟨hb.1, hb.2, hfb, fun r hr => .cons (fun e => ?_) h4 hdb (fun z e hz hze => ?_) hr⟩
    · have : Dis W t at' 0 := by rw [e]; exact Dis.self
      have := hda.uniq this
      omega
    · have hz' := hw at' z hz
      have hfz := (hf z hz'.1 hz'.2 e).2 hze
      have hle := hda.prev hz hze
      refine ⟨by omega, fun he => ?_⟩
      have := h7 z hz (by omega) (fun _ => by omega)
      exact this.2 (by omega)

/-- The last of the row. -/
theorem last_of {far : Nat → Nat} (hf : ∀ y, 1 ≤ y → y ≤ n → ∀ e, far y = e + 1 ↔ Dis W t y e) {at' : Nat} (ha : 1 ≤ at' ∧ at' ≤ n) (h : far at' = 1) : Gd W t at' [] := by
  have : Dis W t at' 0 := (hf at' ha.1 ha.2 0).1 h
  rw [this.zero]
  exact .nil

end Go.Proofs.YtckgcpoheodbcaaDoor.Lp

