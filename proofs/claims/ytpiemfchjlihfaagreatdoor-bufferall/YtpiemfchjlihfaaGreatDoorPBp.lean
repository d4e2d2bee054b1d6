import Derived.Test.YtpiemfchjlihfaaGreatDoorA10
import Derived.Test.YtpiemfchjlihfaaGreatDoorBC1
/-
  Eden as pieces, one behind the other: objects and fillers. (The pure side.)
-/
set_option linter.unusedVariables false
namespace Go.Proofs.YtpiemfchjlihfaaGreatDoor
open Go.RowKit

/-- A piece: an object's word and serial, or a filler; how many words. -/
structure Sg where
  n : Nat
  o : Option (Int × Int)

/-- What stands at a piece's first words. -/
def Sg.Is (g : Sg) (ws : Nat → Int) (a : Nat) : Prop :=
  match g.o with
  | some (m, s) => ws a = m ∧ IsHead m ∧ 2 + ptOf m + rwOf m = g.n ∧ ws (a + 1) = s
  | none => ws a = tg 3 g.n ∧ 1 ≤ g.n ∧ g.n ≤ 1000000

/-- Pieces from a on, up to top. -/
def Chn (ws : Nat → Int) : Nat → Nat → List Sg → Prop
  | a, top, [] => a = top
  | a, top, g :: L => g.Is ws a ∧ Chn ws (a + g.n) top L

/-- A piece stands at p. -/
def Ag (a : Nat) : List Sg → Nat → Sg → Prop
  | [], _, _ => False
  | g :: L, p, h => (p = a ∧ h = g) ∨ Ag (a + g.n) L p h

/-- All words together. -/
def szs : List Sg → Nat
  | [] => 0
  | g :: L => g.n + szs L

/-- The objects: where they stand, and their words. -/
def obs (a : Nat) : List Sg → List (Nat × Nat)
  | [] => []
  | g :: L => match g.o with
    | some _ => (a, g.n) :: obs (a + g.n) L
    | none => obs (a + g.n) L

theorem Sg.Is.pos {g : Sg} {ws : Nat → Int} {a : Nat} (h : g.Is ws a) : 1 ≤ g.n := by
  unfold Sg.Is at h
  split at h
  · have := (pt_in (ws a)).1
    obtain ⟨h1, h2, h3, h4⟩ := h
    rename_i m s _
    have := (pt_in m).1
    have := (rw_in m).1
    omega
  · exact h.2.1

theorem Sg.Is.two {g : Sg} {ws : Nat → Int} {a : Nat} (h : g.Is ws a) {m s : Int} (e : g.o = some (m, s)) : 2 ≤ g.n := by
  unfold Sg.Is at h
  rw [e] at h
  have := (pt_in m).1
  have := (rw_in m).1
  have := h.2.2.1
  omega

theorem szs_app (L M : List Sg) : szs (L ++ M) = szs L + szs M := by
  induction L with
  | nil => simp [szs]
  | cons g L ih => simp only [List.cons_append, szs, ih]; omega

theorem Chn.top {ws : Nat → Int} : ∀ {L : List Sg} {a top : Nat}, Chn ws a top L → top = a + szs L
  | [], a, top, h => by simpa [Chn, szs] using h.symm
  | g :: L, a, top, h => by have := Chn.top h.2; simp only [szs]; omega

theorem Chn.app {ws : Nat → Int} : ∀ {L M : List Sg} {a m top : Nat}, Chn ws a m L → Chn ws m top M → Chn ws a top (L ++ M)
  | [], M, a, m, top, h, k => by have e : a = m := h; subst e; exact k
  | g :: L, M, a, m, top, h, k => ⟨h.1, Chn.app h.2 k⟩

theorem Chn.split {ws : Nat → Int} : ∀ {L M : List Sg} {a top : Nat}, Chn ws a top (L ++ M) → Chn ws a (a + szs L) L ∧ Chn ws (a + szs L) top M
  | [], M, a, top, h => ⟨by simp [Chn, szs], by simpa [szs] using h⟩
  | g :: L, M, a, top, h => by
    obtain ⟨h1, h2⟩ := Chn.split (L := L) h.2
    simp only [szs]
    rw [← Nat.add_assoc]
    exact ⟨⟨h.1, h1⟩, h2⟩

theorem at_app {L M : List Sg} {a p : Nat} {g : Sg} : Ag a (L ++ M) p g ↔ Ag a L p g ∨ Ag (a + szs L) M p g := by
  induction L generalizing a with
  | nil => simp [Ag, szs]
  | cons h L ih =>
    simp only [List.cons_append, Ag, ih, szs, or_assoc, Nat.add_assoc]

theorem Ag.in {L : List Sg} {a p : Nat} {g : Sg} (h : Ag a L p g) : a ≤ p ∧ p + g.n ≤ a + szs L := by
  induction L generalizing a with
  | nil => exact h.elim
  | cons k L ih =>
    rcases h with ⟨rfl, rfl⟩ | h
    · simp only [szs]; omega
    · have := ih h; simp only [szs]; omega

/-- Two pieces are the same, or lie apart. -/
theorem Ag.apart {L : List Sg} {a p q : Nat} {g h : Sg} (hp : Ag a L p g) (hq : Ag a L q h) : (p = q ∧ g = h) ∨ p + g.n ≤ q ∨ q + h.n ≤ p := by
  induction L generalizing a with
  | nil => exact hp.elim
  | cons k L ih =>
    rcases hp with ⟨rfl, rfl⟩ | hp
    · rcases hq with ⟨rfl, rfl⟩ | hq
      · exact .inl ⟨rfl, rfl⟩
      · have := hq.in; omega
    · rcases hq with ⟨rfl, rfl⟩ | hq
      · have := hp.in; omega
      · exact ih hp hq

/-- A piece stands in the list. -/
theorem Ag.parts {L : List Sg} {a p : Nat} {g : Sg} (h : Ag a L p g) : ∃ L1 L2, L = L1 ++ g :: L2 ∧ p = a + szs L1 := by
  induction L generalizing a with
  | nil => exact h.elim
  | cons k L ih =>
    rcases h with ⟨rfl, rfl⟩ | h
    · exact ⟨[], L, rfl, by simp [szs]⟩
    · obtain ⟨L1, L2, rfl, rfl⟩ := ih h
      exact ⟨k :: L1, L2, rfl, by simp only [szs]; omega⟩

theorem Chn.is {ws : Nat → Int} {L : List Sg} {a top p : Nat} {g : Sg} (h : Chn ws a top L) (hp : Ag a L p g) : g.Is ws p := by
  induction L generalizing a with
  | nil => exact hp.elim
  | cons k L ih =>
    rcases hp with ⟨rfl, rfl⟩ | hp
    · exact h.1
    · exact ih h.2 hp

/-- The words that bear a piece: nothing else counts. -/
theorem Chn.congr {ws ws' : Nat → Int} {L : List Sg} {a top : Nat} (h : Chn ws a top L) (hw : ∀ p g, Ag a L p g → g.Is ws p → g.Is ws' p) : Chn ws' a top L := by
  induction L generalizing a with
  | nil => exact h
  | cons k L ih => exact ⟨hw a k (.inl ⟨rfl, rfl⟩) h.1, ih h.2 (fun p g hp => hw p g (.inr hp))⟩

theorem Sg.Is.keep {g : Sg} {ws ws' : Nat → Int} {a : Nat} (h : g.Is ws a) (h0 : ws' a = ws a) (h1 : ∀ m s, g.o = some (m, s) → ws' (a + 1) = ws (a + 1)) : g.Is ws' a := by
  unfold Sg.Is at h ⊢
  split at h
  · rename_i m s e
    exact ⟨h0.trans h.1, h.2.1, h.2.2.1, (h1 m s e).trans h.2.2.2⟩
  · exact ⟨h0.trans h.1, h.2⟩

/-- Words of no piece of the list are written. -/
theorem Chn.keep {ws ws' : Nat → Int} {L : List Sg} {a top : Nat} (h : Chn ws a top L) (hw : ∀ j, a ≤ j → j < top → ws' j = ws j) : Chn ws' a top L := by
  have ht := h.top
  refine h.congr (fun p g hp hi => ?_)
  have hb := hp.in
  have h1 := hi.pos
  refine hi.keep (hw p (by omega) (by omega)) (fun m s e => ?_)
  have := hi.two e
  exact hw (p + 1) (by omega) (by omega)

theorem obs_app (L M : List Sg) (a : Nat) : obs a (L ++ M) = obs a L ++ obs (a + szs L) M := by
  induction L generalizing a with
  | nil => simp [obs, szs]
  | cons g L ih =>
    simp only [List.cons_append, obs, szs]
    split
    · rw [ih, List.cons_append, Nat.add_assoc]
    · rw [ih, Nat.add_assoc]

theorem mem_obs {L : List Sg} {a p n : Nat} : (p, n) ∈ obs a L ↔ ∃ m s, Ag a L p ⟨n, some (m, s)⟩ := by
  induction L generalizing a with
  | nil => simp [obs, Ag]
  | cons g L ih =>
    obtain ⟨gn, go⟩ := g
    simp only [obs, Ag]
    cases go with
    | none =>
      simp only [ih]
      constructor
      · rintro ⟨m, s, h⟩; exact ⟨m, s, .inr h⟩
      · rintro ⟨m, s, ⟨_, h⟩ | h⟩
        · injection h with h1 h2; cases h2
        · exact ⟨m, s, h⟩
    | some o =>
      obtain ⟨m0, s0⟩ := o
      simp only [List.mem_cons, Prod.mk.injEq, ih]
      constructor
      · rintro (⟨rfl, rfl⟩ | ⟨m, s, h⟩)
        · exact ⟨m0, s0, .inl ⟨rfl, rfl⟩⟩
        · exact ⟨m, s, .inr h⟩
      · rintro ⟨m, s, ⟨h1, h⟩ | h⟩
        · injection h with h2 h3
          exact .inl ⟨h1, h2⟩
        · exact .inr ⟨m, s, h⟩

/-- The walk meets just the objects. -/
theorem chn_walk {c : Cfg} {ws : Nat → Int} {top : Nat} (ht : (top : Int) ≤ c.words) : ∀ {L : List Sg} {a : Nat}, Chn ws a top L → ∃ p, Past c ws top a p ∧ Walk c ws top p ((obs a L).map fun x => (x.1 : Int)) top
  | [], a, h => by
    have e : a = top := h
    subst e
    exact ⟨a, .done (.inl (Int.le_refl _)), by simpa [obs] using Walk.done (Int.le_refl _)⟩
  | g :: L, a, h => by
    obtain ⟨p, hp, hw⟩ := chn_walk ht h.2
    have h1 := h.1.pos
    have h2 := h.2.top
    have hlt : (a : Int) < top := by omega
    have hwat : ∀ j : Nat, j < top → wat c ws j = ws j := fun j hj => by
      unfold wat
      rw [if_pos ⟨by omega, by omega⟩]
      simp
    have ha := hwat a (by omega)
    obtain ⟨gn, go⟩ := g
    have hi := h.1
    unfold Sg.Is at hi
    cases go with
    | none =>
      simp only at hi h1 h2 hp hw
      have e : tg 3 gn = (gn : Int) * 4 + 3 := by unfold tg; rw [if_neg (by omega)]
      have hg : wat c ws a / 4 = gn := by rw [ha, hi.1, e]; omega
      refine ⟨p, .step hlt ⟨?_, ?_, ?_⟩ ?_ ?_, by simpa [obs] using hw⟩
      · rw [ha, hi.1, e]; omega
      · rw [hg]; omega
      · rw [hg]; omega
      · rw [hg]; omega
      · rw [hg]; exact hp
    | some o =>
      obtain ⟨m, s⟩ := o
      simp only at hi h1 h2 hp hw
      have hz : osz c ws a = gn := by unfold osz; rw [ha, hi.1]; exact hi.2.2.1
      refine ⟨a, .done (.inr fun hh => ?_), ?_⟩
      · have h3 := hh.1.1
        rw [ha, hi.1] at h3
        have h4 := hi.2.1.1
        omega
      · simp only [obs, List.map_cons]
        refine .obj hlt ⟨by rw [ha, hi.1]; exact hi.2.1, by rw [hz]; omega⟩ ?_ hw
        rw [hz]
        exact hp

end Go.Proofs.YtpiemfchjlihfaaGreatDoor

/-
  What was put, beside eden's pieces and the rests: one lemma a step. (The pure side.)
-/
set_option linter.unusedVariables false
namespace Go.Proofs.YtpiemfchjlihfaaGreatDoor
open Go.RowKit

/-- An object that was put: where, its head, its raw fields. -/
structure Ob where
  at_ : Nat
  s : Int
  k : Int
  p : Nat
  r : Nat
  a : Int
  y : Int
  h : Bool
  raws : Nat → Int
  gr : Nat

abbrev Ob.n (T : Ob) : Nat := 2 + T.p + T.r
abbrev Ob.m (T : Ob) : Int := wrd T.k T.p T.r T.a T.y T.h

/-- The object stands there, with its fields. -/
structure Ob.Is (T : Ob) (ws : Nat → Int) (L : List Sg) : Prop where
  f : flt T.k T.p T.r T.a T.y = 0
  s : Wd T.s
  at_ : Ag 1 L T.at_ ⟨T.n, some (T.m, T.s)⟩
  ptr : ∀ j, j < T.p → ws (T.at_ + 2 + j) = 0
  raw : ∀ j, j < T.r → ws (T.at_ + 2 + T.p + j) = T.raws j
  wd : ∀ j, Wd (T.raws j)

/-- Eden, the rests, and what was put. -/
structure Wo (x : Tps) (ws : Nat → Int) (B : Bfs) (top : Nat) (L : List Sg) (Th : List Ob) : Prop where
  tp : x.t1 = top
  ch : Chn ws 1 top L
  rs : ∀ t, t < 8 → 0 < B.ws t → Ag 1 L (B.at_ t).toNat ⟨(B.ws t).toNat, none⟩
  ne : ∀ t u, t < 8 → u < 8 → t ≠ u → 0 < B.ws t → 0 < B.ws u → B.at_ t ≠ B.at_ u
  ob : (obs 1 L).Perm (Th.map fun T => (T.at_, T.n))
  th : ∀ T, T ∈ Th → T.Is ws L
  nf : B.size = 0 → ∀ g, g ∈ L → g.o ≠ none

/-- An object keeps its fields where only other words are written. -/
theorem Ob.Is.keep {T : Ob} {ws ws' : Nat → Int} {L L' : List Sg} (h : T.Is ws L) (ha : Ag 1 L' T.at_ ⟨T.n, some (T.m, T.s)⟩) (hw : ∀ j, T.at_ ≤ j → j < T.at_ + T.n → ws' j = ws j) : T.Is ws' L' :=
  ⟨h.f, h.s, ha, fun j hj => (hw _ (by omega) (by show _ < _ + (2 + T.p + T.r); omega)).trans (h.ptr j hj), fun j hj => (hw _ (by omega) (by show _ < _ + (2 + T.p + T.r); omega)).trans (h.raw j hj), h.wd⟩

/-- A new object's words. -/
theorem putw_at (ws : Nat → Int) (q n : Nat) (m s : Int) : putw ws q n m s q = m ∧ putw ws q n m s (q + 1) = s ∧ (∀ j, q + 2 ≤ j → j < q + n → putw ws q n m s j = 0) ∧ (∀ j, j < q ∨ q + n ≤ j → 2 ≤ n → putw ws q n m s j = ws j) := by
  unfold putw upd zer
  refine ⟨by rw [if_neg (by omega), if_pos rfl], by rw [if_pos rfl], fun j h1 h2 => ?_, fun j h1 h2 => ?_⟩
  · rw [if_neg (by omega), if_neg (by omega), if_pos (by omega)]
  · rw [if_neg (by omega), if_neg (by omega), if_neg (by omega)]

theorem head_is {k a y : Int} {p r : Nat} {h : Bool} {s : Int} (hf : flt k p r a y = 0) (ws : Nat → Int) (q : Nat) (h0 : ws q = wrd k p r a y h) (h1 : ws (q + 1) = s) : (⟨2 + p + r, some (wrd k p r a y h, s)⟩ : Sg).Is ws q := by
  have m := May.of hf
  obtain ⟨-, e1, e2, -⟩ := parts_wrd (h := h) m
  refine ⟨h0, head_wrd m, ?_, h1⟩
  rw [e1, e2]
  show (2 : Int) + p + r = ((2 + p + r : Nat) : Int)
  omega

/-- An object and what is left of a filler, in the filler's place. -/
def laidIn (N n : Nat) (m s : Int) : List Sg := ⟨n, some (m, s)⟩ :: (if N - n = 0 then [] else [⟨N - n, none⟩])

theorem szs_laidIn {N n : Nat} {m s : Int} (h : n ≤ N) : szs (laidIn N n m s) = N := by
  unfold laidIn
  by_cases e : N - n = 0
  · rw [if_pos e]; simp only [szs]; omega
  · rw [if_neg e]; simp only [szs]; omega

theorem obs_laidIn {N n : Nat} {m s : Int} (a : Nat) : obs a (laidIn N n m s) = [(a, n)] := by
  unfold laidIn
  by_cases e : N - n = 0
  · rw [if_pos e]; simp [obs]
  · rw [if_neg e]; simp [obs]

theorem at_laidIn {N n : Nat} {m s : Int} (a p : Nat) (g : Sg) : Ag a (laidIn N n m s) p g ↔ (p = a ∧ g = ⟨n, some (m, s)⟩) ∨ (N - n ≠ 0 ∧ p = a + n ∧ g = ⟨N - n, none⟩) := by
  unfold laidIn
  by_cases e : N - n = 0
  · rw [if_pos e]; simp [Ag, e]
  · rw [if_neg e]; simp [Ag, e]

/-- What is left of a piece is a filler again. -/
theorem fil_drop {B : Bfs} {t q N n : Nat} (hq : B.at_ t = q) (hN : B.ws t = N) (hn : n ≤ N) (W : Nat → Int) (j : Nat) : fil13 W ((B.drop t n).at_ t) ((B.drop t n).ws t) j = if j = q + n ∧ n < N then tg 3 ((N - n : Nat) : Int) else W j := by
  have e1 : (B.drop t n).ws t = ((N - n : Nat) : Int) := by unfold Bfs.drop; rw [Bfs.put_ws, hN]; omega
  have e2 : (B.drop t n).at_ t = if ((N : Int) - n = 0) then 0 else (q : Int) + n := by unfold Bfs.drop; rw [Bfs.put_at, hN, hq]
  unfold fil13
  rw [e1]
  by_cases h : n < N
  · rw [if_pos (by omega), e2, if_neg (by omega)]
    have e3 : ((q : Int) + n).toNat = q + n := by omega
    rw [e3]
    unfold upd
    by_cases hj : j = q + n
    · rw [if_pos hj, if_pos ⟨hj, h⟩]
    · rw [if_neg hj, if_neg (fun h => hj h.1)]
  · rw [if_neg (by omega), if_neg (fun hh => h hh.2)]

/-- The object and what is left behind it are laid. -/
theorem laidIn_chn {ws : Nat → Int} {q N : Nat} {k a y s : Int} {p r : Nat} {h : Bool} (hf : flt k p r a y = 0) (hn : 2 + p + r ≤ N) (hN : N ≤ 1000000) (h0 : ws q = wrd k p r a y h) (h1 : ws (q + 1) = s) (h2 : 2 + p + r < N → ws (q + (2 + p + r)) = tg 3 ((N - (2 + p + r) : Nat) : Int)) :
    Chn ws q (q + N) (laidIn N (2 + p + r) (wrd k p r a y h) s) := by
  unfold laidIn
  by_cases e : N - (2 + p + r) = 0
  · rw [if_pos e]
    exact ⟨head_is hf ws q h0 h1, by show q + (2 + p + r) = q + N; omega⟩
  · rw [if_neg e]
    exact ⟨head_is hf ws q h0 h1, ⟨h2 (by omega), by show 1 ≤ N - (2 + p + r); omega, by show N - (2 + p + r) ≤ 1000000; omega⟩, by show q + (2 + p + r) + (N - (2 + p + r)) = q + N; omega⟩

/-- P13.3, 1: the object goes into the rest. -/
theorem Wo.rest {gr : Nat} {x : Tps} {ws : Nat → Int} {B : Bfs} {top : Nat} {L : List Sg} {Th : List Ob} (W : Wo x ws B top L Th) (htp : top ≤ 1000000) {t : Nat} (ht : t < 8) {k a y s : Int} {p r : Nat} (h : Bool) (hf : flt k p r a y = 0) (hs : Wd s) (hc : ((2 + p + r : Nat) : Int) ≤ B.ws t) {q : Nat} (hq : B.at_ t = q) :
    ∃ L', Wo x (fil13 (putw ws q (2 + p + r) (wrd k p r a y h) s) ((B.drop t (2 + p + r : Nat)).at_ t) ((B.drop t (2 + p + r : Nat)).ws t)) (B.drop t (2 + p + r : Nat)) top L' (Th ++ [⟨q, s, k, p, r, a, y, h, fun _ => 0, gr⟩]) := by
  obtain ⟨N, hN⟩ : ∃ N : Nat, B.ws t = N := ⟨(B.ws t).toNat, by omega⟩
  obtain ⟨n, hn⟩ : ∃ n, n = 2 + p + r := ⟨_, rfl⟩
  rw [← hn] at hc ⊢
  have hnN : n ≤ N := by omega
  have hat := W.rs t ht (by omega)
  rw [hq, hN] at hat
  simp only [Int.toNat_natCast] at hat
  obtain ⟨L1, L2, hL, hqs⟩ := hat.parts
  have hch := W.ch
  rw [hL] at hch
  obtain ⟨c1, c2⟩ := hch.split
  rw [← hqs] at c1 c2
  have c3 : Chn ws (q + N) top L2 := c2.2
  have hbt := c3.top
  obtain ⟨w', hw'⟩ : ∃ w', w' = fil13 (putw ws q n (wrd k p r a y h) s) ((B.drop t n).at_ t) ((B.drop t n).ws t) := ⟨_, rfl⟩
  rw [← hw']
  obtain ⟨z1, z2, z3, z4⟩ := putw_at ws q n (wrd k p r a y h) s
  have fd : ∀ j, w' j = if j = q + n ∧ n < N then tg 3 ((N - n : Nat) : Int) else putw ws q n (wrd k p r a y h) s j := fun j => by rw [hw']; exact fil_drop hq hN hnN _ j
  have out : ∀ j, j < q ∨ q + N ≤ j → w' j = ws j := fun j hj => by
    rw [fd j, if_neg (by omega), z4 j (by omega) (by omega)]
  have f0 : w' q = wrd k p r a y h := by rw [fd q, if_neg (by omega), z1]
  have f1 : w' (q + 1) = s := by rw [fd (q + 1), if_neg (by omega), z2]
  have f2 : ∀ j, q + 2 ≤ j → j < q + n → w' j = 0 := fun j h1 h2 => by rw [fd j, if_neg (by omega), z3 j h1 h2]
  have f3 : n < N → w' (q + n) = tg 3 ((N - n : Nat) : Int) := fun h1 => by rw [fd (q + n), if_pos ⟨rfl, h1⟩]
  have hli : Chn w' q (q + N) (laidIn N n (wrd k p r a y h) s) := by rw [hn]; exact laidIn_chn hf (by omega) (by omega) f0 f1 (by rw [← hn]; exact f3)
  have hsz : szs (laidIn N n (wrd k p r a y h) s) = N := szs_laidIn hnN
  have olds : ∀ P g, Ag 1 L P g → P ≠ q → Ag 1 (L1 ++ (laidIn N n (wrd k p r a y h) s ++ L2)) P g := fun P g hP hne => by
    rw [hL, at_app] at hP
    rw [at_app, at_app, ← hqs, hsz]
    rcases hP with hP | hP
    · exact .inl hP
    · rw [← hqs] at hP
      rcases hP with ⟨e, _⟩ | hP
      · exact absurd e hne
      · exact .inr (.inr hP)
  have newo : Ag 1 (L1 ++ (laidIn N n (wrd k p r a y h) s ++ L2)) q ⟨n, some (wrd k p r a y h, s)⟩ := by
    rw [at_app, at_app, ← hqs]
    exact .inr (.inl ((at_laidIn _ _ _).2 (.inl ⟨rfl, rfl⟩)))
  have ews : ∀ u, u ≠ t → (B.drop t n).ws u = B.ws u ∧ (B.drop t n).at_ u = B.at_ u := fun u hu => by
    have := Bfs.put_ne B t (if B.ws t - n = 0 then 0 else B.at_ t + n) (B.ws t - n) u hu
    exact ⟨this.2, this.1⟩
  have e1 : (B.drop t n).ws t = ((N - n : Nat) : Int) := by unfold Bfs.drop; rw [Bfs.put_ws, hN]; omega
  have e2 : n < N → (B.drop t n).at_ t = ((q + n : Nat) : Int) := fun h1 => by unfold Bfs.drop; rw [Bfs.put_at, hN, hq, if_neg (by omega)]; omega
  have apart : ∀ P g, Ag 1 L P g → P ≠ q → P + g.n ≤ q ∨ q + N ≤ P := fun P g hP hne => by
    rcases hP.apart hat with ⟨e, _⟩ | h1 | h1
    · exact absurd e hne
    · exact .inl h1
    · exact .inr h1
  refine ⟨L1 ++ (laidIn N n (wrd k p r a y h) s ++ L2), W.tp, ?_, ?_, ?_, ?_, ?_, ?_⟩
  · exact (c1.keep (fun j _ h2 => out j (.inl h2))).app (hli.app (c3.keep (fun j h1 _ => out j (.inr h1))))
  · intro u hu hw0
    by_cases e : u = t
    · subst e
      rw [e1] at hw0 ⊢
      rw [e2 (by omega), at_app, at_app, ← hqs]
      simp only [Int.toNat_natCast]
      exact .inr (.inl ((at_laidIn _ _ _).2 (.inr ⟨by omega, rfl, rfl⟩)))
    · rw [(ews u e).1] at hw0 ⊢
      rw [(ews u e).2]
      refine olds _ _ (W.rs u hu hw0) (fun h9 => ?_)
      have := W.ne u t hu ht e hw0 (by omega)
      rw [hq] at this
      have hin := (W.rs u hu hw0).in
      apply this
      omega
  · intro u v hu hv huv hu0 hv0
    have key : ∀ u, u < 8 → u ≠ t → 0 < (B.drop t n).ws u → 0 < (B.drop t n).ws t → (B.drop t n).at_ u ≠ (B.drop t n).at_ t := fun u hu e h1 h2 h9 => by
      rw [(ews u e).1] at h1
      rw [e1] at h2
      rw [(ews u e).2, e2 (by omega)] at h9
      have hA := W.rs u hu h1
      have hne := W.ne u t hu ht e h1 (by omega)
      rw [hq] at hne
      have hin := hA.in
      have := apart _ _ hA (by omega)
      simp only at this
      omega
    by_cases e : u = t
    · subst e
      exact fun h9 => key v hv (fun h8 => huv h8.symm) hv0 hu0 h9.symm
    · by_cases e' : v = t
      · subst e'
        exact key u hu e hu0 hv0
      · rw [(ews u e).1] at hu0
        rw [(ews v e').1] at hv0
        rw [(ews u e).2, (ews v e').2]
        exact W.ne u v hu hv huv hu0 hv0
  · have h1 := W.ob
    rw [hL, obs_app] at h1
    rw [obs_app, obs_app, ← hqs, obs_laidIn, hsz]
    rw [← hqs] at h1
    simp only [obs] at h1
    rw [List.map_append]
    refine (List.perm_middle (l₁ := obs 1 L1) (a := (q, n)) (l₂ := obs (q + N) L2)).trans ?_
    refine ((List.Perm.cons _ h1).trans ?_)
    rw [hn]
    exact (List.perm_append_comm (l₁ := [(q, 2 + p + r)]) (l₂ := Th.map fun T => (T.at_, T.n)))
  · intro T hT
    rcases List.mem_append.1 hT with hT | hT
    · have hI := W.th T hT
      have hne : T.at_ ≠ q := fun e => by
        have hTn : T.n = 2 + T.p + T.r := rfl
        rcases hI.at_.apart hat with ⟨_, h9⟩ | h9 | h9
        · injection h9 with h8 h7; cases h7
        · simp only at h9; omega
        · simp only at h9; omega
      have ha := apart _ _ hI.at_ hne
      refine hI.keep (olds _ _ hI.at_ hne) (fun j h1 h2 => out j ?_)
      simp only at ha
      omega
    · obtain rfl : T = ⟨q, s, k, p, r, a, y, h, fun _ => 0, gr⟩ := by simpa using hT
      refine ⟨hf, hs, (by show Ag 1 _ q ⟨2 + p + r, some (wrd k p r a y h, s)⟩; rw [← hn]; exact newo), fun j hj => ?_, fun j hj => ?_, fun j => ⟨Int.le_refl 0, (by decide : (0 : Int) < 18446744073709551616)⟩⟩
      · exact f2 _ (by show q + 2 ≤ q + 2 + j; omega) (by show q + 2 + j < q + n; have hj' : j < p := hj; omega)
      · exact f2 _ (by show q + 2 ≤ q + 2 + p + j; omega) (by show q + 2 + p + j < q + n; have hj' : j < r := hj; omega)
  · intro hz
    exfalso
    have := W.nf hz ⟨N, none⟩ (by rw [hL]; simp)
    exact this rfl

/-- No object is met twice. -/
theorem obs_nodup {ws : Nat → Int} : ∀ {L : List Sg} {a top : Nat}, Chn ws a top L → (obs a L).Nodup
  | [], a, top, h => by simp [obs]
  | g :: L, a, top, h => by
    have ih := obs_nodup h.2
    have hp := h.1.pos
    simp only [obs]
    split
    · refine List.nodup_cons.2 ⟨fun hm => ?_, ih⟩
      obtain ⟨m, s, hA⟩ := mem_obs.1 hm
      have := hA.in
      omega
    · exact ih

/-- The rest's first word is a filler's already. -/
theorem Wo.fil {x : Tps} {ws : Nat → Int} {B : Bfs} {top : Nat} {L : List Sg} {Th : List Ob} (W : Wo x ws B top L Th) {t : Nat} (ht : t < 8) (hq : 0 ≤ B.at_ t) : fil13 ws (B.at_ t) (B.ws t) = ws := by
  unfold fil13
  split
  · rename_i h
    have hat := W.ch.is (W.rs t ht h)
    have h1 : ws (B.at_ t).toNat = tg 3 (((B.ws t).toNat : Nat) : Int) := hat.1
    have h2 : (((B.ws t).toNat : Nat) : Int) = B.ws t := by omega
    rw [h2] at h1
    funext j
    unfold upd
    split
    · rename_i e; rw [e, h1]
    · rfl
  · rfl

/-- P13.3, 2: a new buffer. -/
theorem Wo.new {gr : Nat} {x : Tps} {ws : Nat → Int} {B : Bfs} {top : Nat} {L : List Sg} {Th : List Ob} (W : Wo x ws B top L Th) {t : Nat} (ht : t < 8) {k a y s : Int} {p r : Nat} (h : Bool) (hf : flt k p r a y = 0) (hs : Wd s) {z : Nat} (hc : 2 + p + r ≤ z) (hz : z ≤ 1000000) (hsz0 : B.size ≠ 0) :
    ∃ L', Wo (x.put 1 ((top : Int) + z)) (fil13 (putw (zer ws top z) top (2 + p + r) (wrd k p r a y h) s) (((B.put t top z).drop t (2 + p + r : Nat)).at_ t) (((B.put t top z).drop t (2 + p + r : Nat)).ws t)) ((B.put t top z).drop t (2 + p + r : Nat)) (top + z) L' (Th ++ [⟨top, s, k, p, r, a, y, h, fun _ => 0, gr⟩]) := by
  obtain ⟨n, hn⟩ : ∃ n, n = 2 + p + r := ⟨_, rfl⟩
  rw [← hn] at hc ⊢
  have hB1 : (B.put t top z).at_ t = (top : Int) := Bfs.put_at _ _ _ _
  have hB2 : (B.put t top z).ws t = (z : Int) := Bfs.put_ws _ _ _ _
  obtain ⟨w', hw'⟩ : ∃ w', w' = fil13 (putw (zer ws top z) top n (wrd k p r a y h) s) (((B.put t top z).drop t n).at_ t) (((B.put t top z).drop t n).ws t) := ⟨_, rfl⟩
  rw [← hw']
  obtain ⟨z1, z2, z3, z4⟩ := putw_at (zer ws top z) top n (wrd k p r a y h) s
  have fd : ∀ j, w' j = if j = top + n ∧ n < z then tg 3 ((z - n : Nat) : Int) else putw (zer ws top z) top n (wrd k p r a y h) s j := fun j => by rw [hw']; exact fil_drop hB1 hB2 hc _ j
  have out : ∀ j, j < top ∨ top + z ≤ j → w' j = ws j := fun j hj => by
    rw [fd j, if_neg (by omega), z4 j (by omega) (by omega)]
    unfold zer
    rw [if_neg (by omega)]
  have f0 : w' top = wrd k p r a y h := by rw [fd top, if_neg (by omega), z1]
  have f1 : w' (top + 1) = s := by rw [fd (top + 1), if_neg (by omega), z2]
  have f2 : ∀ j, top + 2 ≤ j → j < top + n → w' j = 0 := fun j h1 h2 => by rw [fd j, if_neg (by omega), z3 j h1 h2]
  have f3 : n < z → w' (top + n) = tg 3 ((z - n : Nat) : Int) := fun h1 => by rw [fd (top + n), if_pos ⟨rfl, h1⟩]
  have hli : Chn w' top (top + z) (laidIn z n (wrd k p r a y h) s) := by rw [hn]; exact laidIn_chn hf (by omega) (by omega) f0 f1 (by rw [← hn]; exact f3)
  have htop : top = 1 + szs L := W.ch.top
  have olds : ∀ P g, Ag 1 L P g → Ag 1 (L ++ laidIn z n (wrd k p r a y h) s) P g := fun P g hP => at_app.2 (.inl hP)
  have news : ∀ P g, Ag top (laidIn z n (wrd k p r a y h) s) P g → Ag 1 (L ++ laidIn z n (wrd k p r a y h) s) P g := fun P g hP => at_app.2 (.inr (by rw [← htop]; exact hP))
  have ews : ∀ u, u ≠ t → ((B.put t top z).drop t n).ws u = B.ws u ∧ ((B.put t top z).drop t n).at_ u = B.at_ u := fun u hu => by
    have h1 := Bfs.put_ne (B.put t top z) t (if (B.put t top z).ws t - n = 0 then 0 else (B.put t top z).at_ t + n) ((B.put t top z).ws t - n) u hu
    have h2 := Bfs.put_ne B t (top : Int) (z : Int) u hu
    exact ⟨h1.2.trans h2.2, h1.1.trans h2.1⟩
  have e1 : ((B.put t top z).drop t n).ws t = ((z - n : Nat) : Int) := by unfold Bfs.drop; rw [Bfs.put_ws, Bfs.put_ws]; omega
  have e2 : n < z → ((B.put t top z).drop t n).at_ t = ((top + n : Nat) : Int) := fun h1 => by unfold Bfs.drop; rw [Bfs.put_at, Bfs.put_ws, Bfs.put_at, if_neg (by omega)]; omega
  refine ⟨L ++ laidIn z n (wrd k p r a y h) s, ?_, ?_, ?_, ?_, ?_, ?_, ?_⟩
  · show (top : Int) + z = ((top + z : Nat) : Int)
    omega
  · exact (W.ch.keep (fun j _ h2 => out j (.inl h2))).app hli
  · intro u hu hw0
    by_cases e : u = t
    · subst e
      rw [e1] at hw0 ⊢
      rw [e2 (by omega)]
      simp only [Int.toNat_natCast]
      exact news _ _ ((at_laidIn _ _ _).2 (.inr ⟨by omega, rfl, rfl⟩))
    · rw [(ews u e).1] at hw0 ⊢
      rw [(ews u e).2]
      exact olds _ _ (W.rs u hu hw0)
  · intro u v hu hv huv hu0 hv0
    have key : ∀ u, u < 8 → u ≠ t → 0 < ((B.put t top z).drop t n).ws u → 0 < ((B.put t top z).drop t n).ws t → ((B.put t top z).drop t n).at_ u ≠ ((B.put t top z).drop t n).at_ t := fun u hu e h1 h2 h9 => by
      rw [(ews u e).1] at h1
      rw [e1] at h2
      rw [(ews u e).2, e2 (by omega)] at h9
      have hin := (W.rs u hu h1).in
      simp only at hin
      omega
    by_cases e : u = t
    · subst e
      exact fun h9 => key v hv (fun h8 => huv h8.symm) hv0 hu0 h9.symm
    · by_cases e' : v = t
      · subst e'
        exact key u hu e hu0 hv0
      · rw [(ews u e).1] at hu0
        rw [(ews v e').1] at hv0
        rw [(ews u e).2, (ews v e').2]
        exact W.ne u v hu hv huv hu0 hv0
  · rw [obs_app, ← htop, obs_laidIn, List.map_append, hn]
    exact W.ob.append_right _
  · intro T hT
    rcases List.mem_append.1 hT with hT | hT
    · have hI := W.th T hT
      have hin := hI.at_.in
      simp only at hin
      exact hI.keep (olds _ _ hI.at_) (fun j h1 h2 => out j (.inl (by omega)))
    · obtain rfl : T = ⟨top, s, k, p, r, a, y, h, fun _ => 0, gr⟩ := by simpa using hT
      refine ⟨hf, hs, (by show Ag 1 _ top ⟨2 + p + r, some (wrd k p r a y h, s)⟩; rw [← hn]; exact news _ _ ((at_laidIn _ _ _).2 (.inl ⟨rfl, rfl⟩))), fun j hj => ?_, fun j hj => ?_, fun j => ⟨Int.le_refl 0, (by decide : (0 : Int) < 18446744073709551616)⟩⟩
      · exact f2 _ (by show top + 2 ≤ top + 2 + j; omega) (by show top + 2 + j < top + n; have hj' : j < p := hj; omega)
      · exact f2 _ (by show top + 2 ≤ top + 2 + p + j; omega) (by show top + 2 + p + j < top + n; have hj' : j < r := hj; omega)
  · intro hz'
    exact absurd hz' hsz0

/-- P13.3, 3: into eden, past the buffers. -/
theorem Wo.eden {gr : Nat} {x : Tps} {ws : Nat → Int} {B : Bfs} {top : Nat} {L : List Sg} {Th : List Ob} (W : Wo x ws B top L Th) {k a y s : Int} {p r : Nat} (h : Bool) (hf : flt k p r a y = 0) (hs : Wd s) :
    ∃ L', Wo (x.put 1 ((top : Int) + (2 + p + r : Nat))) (putw ws top (2 + p + r) (wrd k p r a y h) s) B (top + (2 + p + r)) L' (Th ++ [⟨top, s, k, p, r, a, y, h, fun _ => 0, gr⟩]) := by
  obtain ⟨n, hn⟩ : ∃ n, n = 2 + p + r := ⟨_, rfl⟩
  rw [← hn]
  obtain ⟨z1, z2, z3, z4⟩ := putw_at ws top n (wrd k p r a y h) s
  have hli : Chn (putw ws top n (wrd k p r a y h) s) top (top + n) [⟨n, some (wrd k p r a y h, s)⟩] := by
    refine ⟨?_, rfl⟩
    rw [hn]
    exact head_is hf _ top (by rw [← hn]; exact z1) (by rw [← hn]; exact z2)
  have htop : top = 1 + szs L := W.ch.top
  have olds : ∀ P g, Ag 1 L P g → Ag 1 (L ++ [⟨n, some (wrd k p r a y h, s)⟩]) P g := fun P g hP => at_app.2 (.inl hP)
  refine ⟨L ++ [⟨n, some (wrd k p r a y h, s)⟩], ?_, ?_, fun u hu hw0 => olds _ _ (W.rs u hu hw0), W.ne, ?_, ?_, ?_⟩
  · show (top : Int) + n = ((top + n : Nat) : Int)
    omega
  · exact (W.ch.keep (fun j _ h2 => z4 j (.inl h2) (by omega))).app hli
  · rw [obs_app, ← htop, List.map_append, hn]
    exact W.ob.append_right _
  · intro T hT
    rcases List.mem_append.1 hT with hT | hT
    · have hI := W.th T hT
      have hin := hI.at_.in
      simp only at hin
      exact hI.keep (olds _ _ hI.at_) (fun j h1 h2 => z4 j (.inl (by omega)) (by omega))
    · obtain rfl : T = ⟨top, s, k, p, r, a, y, h, fun _ => 0, gr⟩ := by simpa using hT
      refine ⟨hf, hs, (by show Ag 1 _ top ⟨2 + p + r, some (wrd k p r a y h, s)⟩; rw [← hn]; exact at_app.2 (.inr (by rw [← htop]; exact .inl ⟨rfl, rfl⟩))), fun j hj => ?_, fun j hj => ?_, fun j => ⟨Int.le_refl 0, (by decide : (0 : Int) < 18446744073709551616)⟩⟩
      · exact z3 _ (by show top + 2 ≤ top + 2 + j; omega) (by show top + 2 + j < top + n; have hj' : j < p := hj; omega)
      · exact z3 _ (by show top + 2 ≤ top + 2 + p + j; omega) (by show top + 2 + p + j < top + n; have hj' : j < r := hj; omega)
  · intro hz' g hg
    rcases List.mem_append.1 hg with hg | hg
    · exact W.nf hz' g hg
    · simp only [List.mem_cons, List.not_mem_nil, or_false] at hg
      rw [hg]
      simp

/-- P13.5. -/
theorem Wo.retire {x : Tps} {ws : Nat → Int} {B : Bfs} {top : Nat} {L : List Sg} {Th : List Ob} (W : Wo x ws B top L Th) : Wo x ws (bfs0 B.n B.size) top L Th :=
  ⟨W.tp, W.ch, fun t _ h => absurd h (Int.lt_irrefl 0), fun t u _ _ _ h => absurd h (Int.lt_irrefl 0), W.ob, W.th, W.nf⟩

/-- A raw field is written. -/
theorem Wo.raw {x : Tps} {ws : Nat → Int} {B : Bfs} {top : Nat} {L : List Sg} {Th : List Ob} (W : Wo x ws B top L Th) {i : Nat} {T : Ob} (hi : Th[i]? = some T) {j : Nat} (hj : j < T.r) {v : Int} (hv : Wd v) :
    Wo x (upd ws (T.at_ + 2 + T.p + j) v) B top L (Th.set i { T with raws := upd T.raws j v }) := by
  have hT := W.th T (List.mem_of_getElem? hi)
  have hTn : T.n = 2 + T.p + T.r := rfl
  have hil : i < Th.length := (List.getElem?_eq_some_iff.1 hi).1
  have same : ∀ (P : Nat) (g : Sg), Ag 1 L P g → (P = T.at_ ∧ g = ⟨T.n, some (T.m, T.s)⟩) ∨ P + g.n ≤ T.at_ ∨ T.at_ + T.n ≤ P := fun P g hP => hP.apart hT.at_
  refine ⟨W.tp, ?_, W.rs, W.ne, ?_, ?_, W.nf⟩
  · refine W.ch.congr (fun P g hP hI => hI.keep ?_ (fun m s e => ?_))
    · unfold upd
      rw [if_neg]
      have := hI.pos
      rcases same P g hP with ⟨h1, h2⟩ | h1 | h1 <;> omega
    · unfold upd
      rw [if_neg]
      have := hI.two e
      rcases same P g hP with ⟨h1, h2⟩ | h1 | h1 <;> omega
  · have e : (Th.set i { T with raws := upd T.raws j v }).map (fun T => (T.at_, T.n)) = Th.map (fun T => (T.at_, T.n)) := by
      rw [List.map_set]
      apply List.ext_getElem?
      intro q
      rw [List.getElem?_set]
      split
      · rename_i e
        subst e
        rw [List.getElem?_map, hi]
        simp [hil]
      · rfl
    rw [e]
    exact W.ob
  · intro U hU
    obtain ⟨q, hq⟩ := List.getElem?_of_mem hU
    rw [List.getElem?_set] at hq
    split at hq
    · rename_i e
      obtain rfl := Option.some.inj hq
      refine ⟨hT.f, hT.s, hT.at_, fun l hl => ?_, fun l hl => ?_, fun l => ?_⟩
      · have hl' : l < T.p := hl
        show upd ws _ v (T.at_ + 2 + l) = 0
        unfold upd
        rw [if_neg (by omega)]
        exact hT.ptr l hl'
      · show upd ws _ v (T.at_ + 2 + T.p + l) = upd T.raws j v l
        unfold upd
        by_cases e : l = j
        · rw [if_pos (by omega), if_pos e]
        · rw [if_neg (by omega), if_neg e]
          exact hT.raw l hl
      · show Wd (upd T.raws j v l)
        unfold upd
        split
        · exact hv
        · exact hT.wd l
    · rename_i hne
      have hI := W.th U (List.mem_of_getElem? hq)
      have hnd : U.at_ ≠ T.at_ := fun e => by
        have hnd : (Th.map fun T => (T.at_, T.n)).Nodup := W.ob.nodup_iff.1 (obs_nodup W.ch)
        have h1 : (Th.map fun T => (T.at_, T.n))[q]? = some (U.at_, U.n) := by rw [List.getElem?_map, hq]; rfl
        have h2 : (Th.map fun T => (T.at_, T.n))[i]? = some (T.at_, T.n) := by rw [List.getElem?_map, hi]; rfl
        have h3 : U.n = T.n := by
          rcases hI.at_.apart hT.at_ with ⟨_, h9⟩ | h9 | h9
          · injection h9
          · simp only at h9; have : U.n = 2 + U.p + U.r := rfl; omega
          · simp only at h9; omega
        rw [e, h3, ← h2] at h1
        exact hne ((List.getElem?_inj (by rw [List.length_map]; exact (List.getElem?_eq_some_iff.1 hq).1) hnd).1 h1).symm
      refine hI.keep hI.at_ (fun l h1 h2 => ?_)
      unfold upd
      rw [if_neg]
      have hUn : U.n = 2 + U.p + U.r := rfl
      rcases hI.at_.apart hT.at_ with ⟨h9, _⟩ | h9 | h9
      · exact absurd h9 hnd
      · simp only at h9; omega
      · simp only at h9; omega

end Go.Proofs.YtpiemfchjlihfaaGreatDoor

