import Derived.Test.YtckcdahjajmddaaIG7
import Derived.Test.YtckcdahjajmddaaKG6a
import Derived.Test.YtckcdahjajmddaaR4
/-
  Images: slices.Grow of nothing, slices.Concat.
-/
set_option linter.unusedVariables false
set_option maxRecDepth 20000
namespace Go.Proofs.Ytckcdahjajmddaa
open Go.RowKit Go.Shelf

theorem row_cut0 {w : World} {base e n g cap : Nat} {xs : List Value} (h : w.ownsRow base e 1 (.slice (some ⟨g, 0, none⟩) n cap) n xs) : w.ownsRow base e 1 (.slice (some ⟨g, 0, none⟩) 0 cap) 0 [] := by
  rcases h.2 with ⟨h1, h2⟩ | ⟨g', cap', cur, h1, h2, h3, h4, h5, h6, h7⟩
  · cases h1
  · cases h1
    exact ⟨rfl, .inr ⟨g, cap, cur, rfl, h2, h3, Nat.zero_le _, h5, h6, by simp⟩⟩

/-- All of them, one behind the other. -/
def flat (fs : List (Value × List Int)) : List Int := (fs.map (·.2)).flatten

theorem flat_snoc {fs : List (Value × List Int)} {k : Nat} {x : Value × List Int} (h : fs[k]? = some x) : flat (fs.take (k + 1)) = flat (fs.take k) ++ x.2 := by
  rw [take_snocL h]
  simp [flat]

theorem flat_len (fs : List (Value × List Int)) : (flat fs).length = fsum (fs.map (·.2)) := by
  simp [flat, fsum, List.length_flatten]

theorem lrd_news {n0 : Nat} {w : World} {a : Option Addr} {cap n : Nat} {xs : List Int} (h : Lrd n0 w (.slice a n cap) .i64 xs) : ∀ (j : Nat) u, (Kg.ints xs)[j]? = some u → ∃ ad, a = some ad ∧ w.cell? (ad.add j) = some u := by
  obtain ⟨a', cap', e, h2, h3⟩ := h
  cases e
  intro j u hj
  simp only [Kg.ints, List.getElem?_map] at hj
  cases hx : xs[j]? with
  | none => rw [hx] at hj; cases hj
  | some z =>
    rw [hx] at hj
    cases hj
    obtain ⟨q, off, rfl, -, h6⟩ := h3 j z hx
    exact ⟨_, rfl, by rw [Addr.add_lit]; exact h6⟩

end Go.Proofs.Ytckcdahjajmddaa

/-
  Images: entries.
-/
set_option linter.unusedVariables false
set_option maxRecDepth 20000
namespace Go.Proofs.Ytckcdahjajmddaa
open Go.RowKit Go.Shelf

/-- What slots hold. -/
def slotsF (l : List (List (List Int))) : List Int := (l.map List.flatten).flatten
/-- What slots, handles, registry and queue hold. -/
def ents (g : Im.Gr) : List Int := (g.hs ++ (g.rg ++ g.qu)) ++ slotsF g.slots

theorem mem_slotsF (l : List (List (List Int))) (z : Int) : z ∈ slotsF l ↔ ∃ t, t ∈ l ∧ ∃ f, f ∈ t ∧ z ∈ f := by
  simp only [slotsF, List.mem_flatten, List.mem_map]
  constructor
  · rintro ⟨m, ⟨t, ht, rfl⟩, hz⟩
    obtain ⟨f, hf, hz⟩ := List.mem_flatten.1 hz
    exact ⟨t, ht, f, hf, hz⟩
  · rintro ⟨t, ht, f, hf, hz⟩
    exact ⟨t.flatten, ⟨t, ht, rfl⟩, List.mem_flatten.2 ⟨f, hf, hz⟩⟩

theorem mem_ents (g : Im.Gr) (z : Int) : z ∈ ents g ↔ Im.Root g z := by
  simp only [ents, List.mem_append, mem_slotsF, Im.Root]
  constructor
  · rintro ((h | h | h) | h)
    · exact .inr (.inl h)
    · exact .inr (.inr (.inl h))
    · exact .inr (.inr (.inr h))
    · exact .inl h
  · rintro (h | h | h | h)
    · exact .inr h
    · exact .inl (.inl h)
    · exact .inl (.inr (.inl h))
    · exact .inl (.inr (.inr h))

theorem slotsF_snoc {l : List (List (List Int))} {k : Nat} {t : List (List Int)} (h : l[k]? = some t) : slotsF (l.take (k + 1)) = slotsF (l.take k) ++ t.flatten := by
  rw [take_snocL h]
  simp [slotsF]

theorem slotsF_take (l : List (List (List Int))) (k : Nat) : (slotsF (l.take k)).length ≤ (slotsF l).length := by
  have h : slotsF l = slotsF (l.take k) ++ slotsF (l.drop k) := by
    have h9 : slotsF (l.take k ++ l.drop k) = slotsF (l.take k) ++ slotsF (l.drop k) := by
      unfold slotsF
      rw [List.map_append, List.flatten_append]
    rw [List.take_append_drop] at h9
    exact h9
  rw [h, List.length_append]
  omega

/-- A list, and what slots hold. -/
def en (E0 : List Int) (l : List (List (List Int))) : List Int := E0 ++ slotsF l

theorem frd_three {n0 : Nat} {w : World} {v1 v2 v3 : Value} {l1 l2 l3 : List Int} (h1 : Lrd n0 w v1 .i64 l1) (h2 : Lrd n0 w v2 .i64 l2) (h3 : Lrd n0 w v3 .i64 l3) (hn : n0 ≤ w.heap.size) :
    Frd (w.heap.size + 1) (w.alloc (.cells #[v1, v2, v3] 24)) (.slice (some ⟨w.heap.size, 0, none⟩) 3 3) [(v1, l1), (v2, l2), (v3, l3)] := by
  have hb : Below n0 w (w.alloc (.cells #[v1, v2, v3] 24)) := Below.alloc (Below.refl _ _) hn _
  have hy := fun j => cell_of_row _ _ j _ _ _ (heap_alloc_new w (.cells #[v1, v2, v3] 24 (0, 0)))
  refine ⟨_, _, rfl, fun i x hx => ?_⟩
  match i, hx with
  | 0, hx => cases hx; exact ⟨(h1.below hb).mono (by omega), _, _, rfl, Nat.lt_succ_self _, hy 0⟩
  | 1, hx => cases hx; exact ⟨(h2.below hb).mono (by omega), _, _, rfl, Nat.lt_succ_self _, hy 1⟩
  | 2, hx => cases hx; exact ⟨(h3.below hb).mono (by omega), _, _, rfl, Nat.lt_succ_self _, hy 2⟩
  | i + 3, hx => cases hx

end Go.Proofs.Ytckcdahjajmddaa

/-
  Images: allKnown.
-/
set_option linter.unusedVariables false
set_option maxRecDepth 20000
namespace Go.Proofs.Ytckcdahjajmddaa
open Go.RowKit Go.Shelf

def slen : Value → Nat
  | .slice _ n _ => n
  | _ => 0

theorem row_cutk {w : World} {base e n k g cap : Nat} {xs ys : List Value} (h : w.ownsRow base e 1 (.slice (some ⟨g, 0, none⟩) n cap) n xs) (hk : k ≤ n) (hy : ys = xs.take k) : w.ownsRow base e 1 (.slice (some ⟨g, 0, none⟩) k cap) k ys := by
  subst hy
  have hl := h.1
  rcases h.2 with ⟨h1, h2⟩ | ⟨g', cap', cur, h1, h2, h3, h4, h5, h6, h7⟩
  · cases h1
  · cases h1
    refine ⟨by rw [List.length_take]; omega, .inr ⟨g, cap, cur, rfl, h2, h3, by omega, h5, h6, ?_⟩⟩
    rw [← h7, List.take_take]
    congr 1
    omega

theorem own_cap {w : World} {base e n k s : Nat} {a : Option Addr} {cap : Nat} {xs : List Value} (h : w.ownsRow base e s (.slice a k cap) n xs) : n ≤ cap := by
  rcases h.2 with ⟨h1, h2⟩ | ⟨g', cap', cur, h1, h2, h3, h4, h5, h6, h7⟩
  · cases h1; omega
  · cases h1; exact h4

theorem wsum_congr {obs : List Im.Ob} {M N : Nat → Bool} : ∀ n, (∀ j, 1 ≤ j → j ≤ n → M j = N j) → Im.wsum obs M n = Im.wsum obs N n := by
  intro n
  induction n with
  | zero => intro _; rfl
  | succ n ih =>
    intro h
    unfold Im.wsum
    rw [ih (fun j h1 h2 => h j h1 (by omega)), h (n + 1) (by omega) (Nat.le_refl _)]

/-- The marks as the world has them. -/
def seen (w : World) (B : Nat) : Nat → Bool := fun j => match w.cell? ⟨B, j, none⟩ with
  | some (.bool b) => b
  | _ => false

theorem seen_row {w : World} {B n t : Nat} {M : Nat → Bool} (h : w.rowIs B t (n + 1) (fun j => .bool (M j))) (obs : List Im.Ob) : Im.wsum obs (seen w B) n = Im.wsum obs M n :=
  wsum_congr n (fun j _ h2 => by unfold seen; rw [h.cell (by omega)])

end Go.Proofs.Ytckcdahjajmddaa

/-
  Images: MayBe, Check.
-/
set_option linter.unusedVariables false
set_option maxRecDepth 20000
namespace Go.Proofs.Ytckcdahjajmddaa
open Go.RowKit Go.Shelf

/-- Which graphs may be. -/
structure MB (g : Im.Gr) : Prop where
  o : OM g
  s : SM g
  h : HM g
  f : FM g
  k : ∀ n, 1 ≤ n → n ≤ g.obs.length → Im.Known g n

/-- What a graph's lists may be long. -/
structure Gln (os : List OL) (ts : List (Value × List (Value × List Int))) (g : Im.Gr) : Prop where
  s : Sln ts
  o : os.length ≤ 1000000000000
  h : g.hs.length ≤ 1000000000000
  r : g.rg.length ≤ 1000000000000
  q : g.qu.length ≤ 1000000000000
  e : (ents g).length + Im.wsum g.obs (fun _ => false) g.obs.length ≤ 1000000000000

theorem fins_bound (l : List Im.Ob) : ∀ z, z ∈ Im.fins l → 1 ≤ z ∧ z ≤ l.length := by
  have : ∀ (l : List Im.Ob) (i : Nat) z, z ∈ Im.finsFrom i l → (i : Int) + 1 ≤ z ∧ z ≤ (i : Int) + l.length := by
    intro l
    induction l with
    | nil => intro i z hz; simp [Im.finsFrom] at hz
    | cons x r ih =>
      intro i z hz
      simp only [Im.finsFrom] at hz
      split at hz
      · rcases List.mem_cons.1 hz with h | h
        · rw [h]; simp only [List.length_cons]; omega
        · have := ih _ _ h; simp only [List.length_cons]; omega
      · have := ih _ _ hz; simp only [List.length_cons]; omega
  intro z hz
  have := this l 0 z hz
  omega

theorem root_le {g : Im.Gr} (s : SM g) (h : HM g) (f : FM g) : ∀ z, Im.Root g z → z ≤ g.obs.length := by
  intro z hz
  rcases hz with ⟨t, ht, fr, hf, hz⟩ | hz | hz | hz
  · have := (s.ok t ht fr hf).2 z hz
    simp [inB] at this
    exact this.2
  · have := h.all z hz
    simp [inB] at this
    exact this.2
  · rw [f.reg] at hz
    exact (fins_bound _ z hz).2
  · have := f.que z hz
    simp [inB] at this
    exact this.2

theorem calls_def {f : Nat} {args : Array Value} {w : World} {p : Prop} (h : Calls Try.prog f args w fun e w' => ∃ r : Bool, e = .returned (.bool r) ∧ Below w.heap.size w w' ∧ (r = true ↔ p)) :
    (p → Calls Try.prog f args w fun e w' => e = .returned (.bool true) ∧ Below w.heap.size w w') ∧ (¬ p → Calls Try.prog f args w fun e w' => e = .returned (.bool false) ∧ Below w.heap.size w w') := by
  constructor
  · intro hp
    refine h.mono ?_
    rintro e w' ⟨r, rfl, hb, hr⟩
    exact ⟨by rw [hr.2 hp], hb⟩
  · intro hp
    refine h.mono ?_
    rintro e w' ⟨r, rfl, hb, hr⟩
    cases r with
    | true => exact absurd (hr.1 rfl) hp
    | false => exact ⟨rfl, hb⟩

end Go.Proofs.Ytckcdahjajmddaa

