/-
  The arena holds the things, and nothing else.
-/
import Derived.Test.YtbdkcelggffneaaDoorHVa
import Derived.Test.YtbdkcelggffneaaDoorHP
set_option linter.unusedVariables false
set_option maxRecDepth 20000
namespace Go.Proofs.YtbdkcelggffneaaDoor
open Go.RowKit Go.Shelf

theorem spc_is {c : Cfg} (ok : c.Ok) (i : Int) (s : Int) (h1 : 1 ≤ s) (h4 : s ≤ 4) (a : fst c s ≤ i) (b : i < bhd c s) : spc c i = s := by
  have := ok.e0; have := ok.s0; have := ok.t0
  obtain rfl | rfl | rfl | rfl : s = 1 ∨ s = 2 ∨ s = 3 ∨ s = 4 := by omega
  all_goals
    simp [fst] at a
    simp [bhd] at b
    unfold spc
    repeat' split
    all_goals omega

/-- The arena holds the things, and nothing else. -/
structure Hld (c : Cfg) (x : Tps) (ws : Nat → Int) (th : List Tng) : Prop where
  seg : ∀ s : Nat, 1 ≤ s → s ≤ 4 → Seg c ws (fst c s) (x.top s) ((th.filter (inS s)).map (·.at_))
  spr : ∀ T, T ∈ th → ∃ s : Nat, 1 ≤ s ∧ s ≤ 4 ∧ T.sp = s
  hds : ∀ T, T ∈ th → wat c ws (T.at_ + 1) = T.s ∧ kdOf (wat c ws T.at_) = T.k ∧ ptOf (wat c ws T.at_) = T.p ∧ rwOf (wat c ws T.at_) = T.r ∧ agOf (wat c ws T.at_) = T.a ∧ stOf (wat c ws T.at_) = T.t ∧ hdOf (wat c ws T.at_) = T.h
  psn : ∀ T, T ∈ th → (T.ps.length : Int) = T.p
  rsn : ∀ T, T ∈ th → (T.rs.length : Int) = T.r
  psv : ∀ T, T ∈ th → ∀ (f : Nat) z, T.ps[f]? = some z → wat c ws (T.at_ + 2 + f) = z ∧ z < c.words
  rsv : ∀ T, T ∈ th → ∀ (f : Nat) z, T.rs[f]? = some z → wat c ws (T.at_ + 2 + T.p + f) = z
  dis : ∀ (i j : Nat) T U, th[i]? = some T → th[j]? = some U → i ≠ j → T.at_ + 2 + T.p + T.r ≤ U.at_ ∨ U.at_ + 2 + U.p + U.r ≤ T.at_

section
variable {c : Cfg} {x : Tps} {sw : Bool} {ws : Nat → Int} {th : List Tng} {w : World} {b g : Nat}

/-- A thing stands in its space. -/
theorem Hld.stands (H : Hld c x ws th) (hA : Ar w b g c x sw ws) {T : Tng} (hT : T ∈ th) : ∃ s : Nat, 1 ≤ s ∧ s ≤ 4 ∧ T.sp = s ∧ spc c T.at_ = s ∧ T.at_ < x.top s ∧ Stands c ws (x.top s) T.at_ ∧ fst c s ≤ T.at_ ∧ T.at_ ∈ (th.filter (inS s)).map (·.at_) := by
  obtain ⟨s, s1, s4, hs⟩ := H.spr T hT
  have hm : T.at_ ∈ (th.filter (inS s)).map (·.at_) := List.mem_map.2 ⟨T, List.mem_filter.2 ⟨hT, by simpa [inS] using hs⟩, rfl⟩
  have hsg := H.seg s s1 s4
  obtain ⟨h1, h2⟩ := hsg.ge T.at_ hm
  have h3 := hsg.head T.at_ hm
  have h4 := osz_in c ws T.at_
  have h5 := hA.sub_in s
  exact ⟨s, s1, s4, hs, spc_is hA.ok _ s (by omega) (by omega) h1 (by omega), by omega, ⟨h3, by omega⟩, h1, hm⟩

theorem Hld.tok (H : Hld c x ws th) (s : Nat) {w' : World} {tb : Nat} {f : Nat → Value} {st mo : Int} {va vh : Value} {d : Bool} (k : Tk w' tb 62 6 0 f st mo ((th.filter (inS s)).map (·.at_)) (hcl c ws ((th.filter (inS s)).map (·.at_))) va vh d) : Tok w' tb (th.filter (inS s)) := by
  have hl : ((th.filter (inS s)).map (·.at_)).length = (th.filter (inS s)).length := by simp
  refine ⟨?_, fun i T hT => ?_⟩
  · obtain ⟨a1, c1, h1⟩ := k.va
    have hn := k.nums
    rw [hl] at h1
    subst h1
    refine ⟨a1, c1, by rw [k.row.cell (i := 0) (by decide)]; exact congrArg some k.f0, fun i T hT => ?_⟩
    obtain ⟨q, cap, h2, h3⟩ := hn.at_ i T.at_ (by rw [List.getElem?_map, hT]; rfl)
    simp only [Value.slice.injEq] at h2
    exact ⟨q, h2.1, h3⟩
  · obtain ⟨q, cap, h2, h3⟩ := k.heads.at_ i T.at_ (by rw [List.getElem?_map, hT]; rfl)
    rw [hl] at h2
    obtain ⟨e1, e2, e3, e4, e5, e6, e7⟩ := H.hds T (List.mem_filter.1 (List.mem_of_getElem? hT)).1
    rw [e1, e2, e3, e4, e5, e6, e7] at h3
    exact ⟨q, cap, by rw [k.row.cell (i := 1) (by decide), ← h2]; exact congrArg some k.f1, h3⟩
end

end Go.Proofs.YtbdkcelggffneaaDoor
