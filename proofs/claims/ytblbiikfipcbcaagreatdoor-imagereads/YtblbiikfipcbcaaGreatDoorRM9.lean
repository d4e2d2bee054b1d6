/-
  Images, a graph with room behind its lists.
-/
import Derived.Test.YtblbiikfipcbcaaGreatDoorRM8
set_option linter.unusedVariables false
set_option maxRecDepth 20000
namespace Go.Proofs.YtblbiikfipcbcaaGreatDoor
open Go.RowKit Go.Shelf

/-- A graph whose lists lie in blocks of their own. -/
structure Lent (w : World) (N : Nat → Nat) (F : List Nat) (lo : Nat) (vo vs vh vr vq : Value) (os : List OL) (ts : List (Value × List (Value × List Int))) (g : Im.Gr) : Prop where
  o : ∃ b, GotO w N F lo b vo os
  s : PT lo w N F vs ts
  h : PI lo w N F vh g.hs
  r : PI lo w N F vr g.rg
  q : PI lo w N F vq g.qu
  eo : g.obs = os.map (·.o)
  es : g.slots = ts.map (fun t => t.2.map (·.2))

theorem Lent.stp {w w' : World} {N N' : Nat → Nat} {F F' : List Nat} {lo : Nat} {vo vs vh vr vq : Value} {os : List OL} {ts : List (Value × List (Value × List Int))} {g : Im.Gr} (h : Lent w N F lo vo vs vh vr vq os ts g) (s : Stp w w' F F' N N') : Lent w' N' F' lo vo vs vh vr vq os ts g := by
  obtain ⟨⟨b, h1⟩, h2, h3, h4, h5, h6, h7⟩ := h
  exact ⟨⟨b, h1.stp s⟩, PT.sta lo _ _ _ _ _ _ _ _ h2 s, PI.sta lo _ _ _ _ _ _ _ _ h3 s, PI.sta lo _ _ _ _ _ _ _ _ h4 s, PI.sta lo _ _ _ _ _ _ _ _ h5 s, h6, h7⟩

/-- What may be copied. -/
structure Sml (os : List OL) (ts : List (Value × List (Value × List Int))) (g : Im.Gr) : Prop where
  o : os.length ≤ 1000000
  ol : ∀ x, x ∈ os → x.o.ps.length ≤ 1073741824 ∧ x.o.rs.length ≤ 1073741824
  t : ts.length ≤ 1000000
  tl : ∀ x, x ∈ ts → (x.2.length ≤ 1000000 ∧ ∀ y, y ∈ x.2 → y.2.length ≤ 1073741824)
  tc : csF ts ≤ 100000000
  h : g.hs.length ≤ 1073741824
  r : g.rg.length ≤ 1073741824
  q : g.qu.length ≤ 1073741824

end Go.Proofs.YtblbiikfipcbcaaGreatDoor
