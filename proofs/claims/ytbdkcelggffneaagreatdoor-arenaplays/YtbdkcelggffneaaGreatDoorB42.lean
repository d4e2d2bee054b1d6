/-
  A side: a pair of arenas, or none; two sides.
-/
import Derived.Test.YtbdkcelggffneaaGreatDoorB40
import Derived.Test.YtbdkcelggffneaaGreatDoorB41
import Derived.Test.YtbdkcelggffneaaGreatDoorB7
set_option linter.unusedVariables false
set_option maxRecDepth 20000
namespace Go.Proofs.YtbdkcelggffneaaGreatDoor
open Go.RowKit Go.Shelf

/-- No pair. -/
def Nl (W : World) (base p : Nat) (F : List Nat) : Prop := F = [p] ∧ base ≤ p ∧ W.cell? ⟨p, 0, none⟩ = some (.pointer none)

def Sd (W : World) (base p : Nat) (F : List Nat) : Prop := (∃ c, Pr W base p c F) ∨ Nl W base p F

section
variable {W W' : World} {base p : Nat} {F G : List Nat}

theorem Sd.keep (H : Sd W base p F) (t : Touch G W W') (hn : ∀ q, q ∈ F → q ∉ G) (hG : ∀ q, q ∈ G → base ≤ q) : Sd W' base p F := by
  rcases H with ⟨c, H⟩ | ⟨rfl, h1, h2⟩
  · exact .inl ⟨c, H.keep t hn hG⟩
  · exact .inr ⟨rfl, h1, (World.cell?_of_block (w := W) (t.block _ (World.block_lt_of_cell? _ _ h2) (hn p (by simp)))).trans h2⟩

theorem Sd.mem (H : Sd W base p F) : ∀ q, q ∈ F → base ≤ q ∧ q < W.heap.size := by
  rcases H with ⟨c, H⟩ | ⟨rfl, h1, h2⟩
  · exact H.mem
  · intro q hq
    simp at hq
    subst hq
    exact ⟨h1, World.block_lt_of_cell? _ _ h2⟩

theorem Sd.below (H : Sd W base p F) (l : Below W.heap.size W W') : Sd W' base p F := H.keep (Touch.of_below l []) (by simp) (by simp)

theorem Sd.got (H : Sd W base p F) : W.cell? ⟨p, 0, none⟩ = some (.pointer none) ∨ ∃ a, W.cell? ⟨p, 0, none⟩ = some (.pointer (some ⟨a, 0, none⟩)) := by
  rcases H with ⟨c, a, h, r, g, x, sw, ws, ks, v2, v3, H, rfl⟩ | ⟨rfl, h1, h2⟩
  · exact .inr ⟨a, H.bx.bo.c0⟩
  · exact .inl h2

theorem Sd.pr (H : Sd W base p F) {a : Addr} (h : W.cell? ⟨p, 0, none⟩ = some (.pointer (some a))) : ∃ c, Pr W base p c F := by
  rcases H with H | ⟨rfl, h1, h2⟩
  · exact H
  · rw [h2] at h
    simp at h

theorem Sd.step (o : Opg) (hs : Wd o.s) (hu : Wd o.u) (hat : -9223372036854775808 ≤ o.at_ ∧ o.at_ ≤ 9223372036854775807) (H : Sd W base p F) {a : Addr} (h : W.cell? ⟨p, 0, none⟩ = some (.pointer (some a))) (hbase : base ≤ W.heap.size) :
    Calls Tryz.prog 7 #[.pointer (some ⟨p, 0, none⟩), o.val] W fun e W' => e = .returned (.bool true) ∧ ∃ F', Sd W' base p F' ∧ Touch F W W' ∧ Newer W.heap.size F F' := by
  obtain ⟨c, H⟩ := H.pr h
  refine (step_pr o hs hu hat F H hbase).mono ?_
  rintro e W' ⟨h1, F', h2, h3, h4⟩
  exact ⟨h1, F', .inl ⟨c, h2⟩, h3, h4⟩

theorem Sd.whole (H : Sd W base p F) {a : Addr} (h : W.cell? ⟨p, 0, none⟩ = some (.pointer (some a))) :
    Calls Tryz.prog 8 #[.pointer (some ⟨p, 0, none⟩)] W fun e W' => e = .returned (.bool true) ∧ Below W.heap.size W W' := by
  obtain ⟨c, a, h, r, g, x, sw, ws, ks, v2, v3, HP, rfl⟩ := H.pr h
  exact whole_pq p a h r g c x sw ws base ks v2 v3 W HP.bx.bo HP.kp

theorem begin_sd (c : Cfg) (hb0 : 1 < base ∧ 0 < base) (hbase : base ≤ W.heap.size) (hL : Laid W) :
    Calls Tryz.prog 5 #[cv c] W fun e W' => ∃ p F, e = .returned (.tuple #[.pointer (some ⟨p, 0, none⟩), .bool true]) ∧ Sd W' base p F ∧ (∀ q, q ∈ F → W.heap.size ≤ q) ∧ Below W.heap.size W W' := by
  by_cases ho : c.Ok
  · refine (begin_yes c ho W hL).mono ?_
    rintro e W' ⟨p, a, h, r, g, rfl, hB, l, ⟨h1, h2, h3, h4, h5, h6⟩, hpb⟩
    have g1 := h6 1 (by omega) (by omega)
    have g2 := h6 2 (by omega) (by omega)
    have g3 := h6 3 (by omega) (by omega)
    have g4 := h6 4 (by omega) (by omega)
    have hge : ∀ q, q ∈ p :: a :: h :: rft r g → W.heap.size ≤ q := fun q hq => by
      simp only [rft, List.mem_cons, List.not_mem_nil, or_false] at hq
      rcases hq with rfl | rfl | rfl | rfl | rfl | rfl | rfl | rfl <;> omega
    have hbx : Bx W' p a h r g c (tops0 c) false (fun _ => 0) := by
      refine ⟨hB, fun q hq => ?_, fun q hq => ?_, by omega, by omega⟩
      · have := hge q (by simp at hq ⊢; exact .inr hq)
        omega
      · simp only [rft, List.mem_cons, List.not_mem_nil, or_false] at hq
        rcases hq with rfl | rfl | rfl | rfl | rfl <;> omega
    have hkp : Kept W' p a r base [] (.slice none 0 0) (.slice none 0 0) := ⟨hpb, World.ownsRow_nil _ _ _ _, World.ownsRow_nil _ _ _ _, by simp, fun k hk => by simp at hk, fun k hk => by simp at hk⟩
    refine ⟨p, cft p a h r g (.slice none 0 0) (.slice none 0 0) ++ wft [], rfl, .inl ⟨c, a, h, r, g, _, _, _, [], _, _, ⟨hbx, hkp, fun q hq => by simp [Value.ownBlock] at hq, fun q hq => by simp [wft] at hq, fun q hq => Nat.le_trans hbase (hge q hq), hb0⟩, rfl⟩, fun q hq => ?_, l⟩
    rcases List.mem_append.1 hq with hq | hq
    · rcases mem_cft.1 hq with hq | hq | hq
      · exact hge q hq
      · simp [Value.ownBlock] at hq
      · simp [Value.ownBlock] at hq
    · simp [wft] at hq
  · refine (begin_no c ho W).mono ?_
    rintro e W' ⟨p, rfl, h1, l, h2⟩
    exact ⟨p, [p], rfl, .inr ⟨rfl, by omega, h1⟩, fun q hq => by simp at hq; omega, l⟩
end

/-- Two sides, apart. -/
def Two (W0 W : World) (p1 p2 : Nat) : Prop := ∃ F1 F2, Sd W W0.heap.size p1 F1 ∧ Sd W W0.heap.size p2 F2 ∧ (∀ q, q ∈ F1 → q ∉ F2) ∧ Below W0.heap.size W0 W

section
variable {W0 W W' : World} {p1 p2 : Nat}

theorem Two.swap (H : Two W0 W p1 p2) : Two W0 W p2 p1 := by
  obtain ⟨F1, F2, h1, h2, h3, h4⟩ := H
  exact ⟨F2, F1, h2, h1, fun q hq hm => h3 q hm hq, h4⟩

theorem Two.be (H : Two W0 W p1 p2) : Below W0.heap.size W0 W := by
  obtain ⟨F1, F2, h1, h2, h3, h4⟩ := H
  exact h4

theorem Two.got (H : Two W0 W p1 p2) : W.cell? ⟨p1, 0, none⟩ = some (.pointer none) ∨ ∃ a, W.cell? ⟨p1, 0, none⟩ = some (.pointer (some ⟨a, 0, none⟩)) := by
  obtain ⟨F1, F2, h1, h2, h3, h4⟩ := H
  exact h1.got

theorem Two.below (H : Two W0 W p1 p2) (l : Below W.heap.size W W') : Two W0 W' p1 p2 := by
  obtain ⟨F1, F2, h1, h2, h3, h4⟩ := H
  exact ⟨F1, F2, h1.below l, h2.below l, h3, h4.trans (l.mono h4.size)⟩

theorem Two.step (o : Opg) (hs : Wd o.s) (hu : Wd o.u) (hat : -9223372036854775808 ≤ o.at_ ∧ o.at_ ≤ 9223372036854775807) (H : Two W0 W p1 p2) {a : Addr} (h : W.cell? ⟨p1, 0, none⟩ = some (.pointer (some a))) :
    Calls Tryz.prog 7 #[.pointer (some ⟨p1, 0, none⟩), o.val] W fun e W' => e = .returned (.bool true) ∧ Two W0 W' p1 p2 := by
  obtain ⟨F1, F2, h1, h2, h3, h4⟩ := H
  refine (h1.step o hs hu hat h h4.size).mono ?_
  rintro e W' ⟨rfl, F', k1, t, k2⟩
  refine ⟨rfl, F', F2, k1, h2.keep t (fun q hq hm => h3 q hm hq) (fun q hq => (h1.mem q hq).1), fun q hq hm => ?_, h4.trans (t.below h4.size (fun q hq => (h1.mem q hq).1))⟩
  rcases k2 q hq with hq | hq
  · exact h3 q hq hm
  · have := (h2.mem q hm).2
    omega

theorem Two.whole (H : Two W0 W p1 p2) {a : Addr} (h : W.cell? ⟨p1, 0, none⟩ = some (.pointer (some a))) :
    Calls Tryz.prog 8 #[.pointer (some ⟨p1, 0, none⟩)] W fun e W' => e = .returned (.bool true) ∧ Two W0 W' p1 p2 := by
  have H0 := H
  obtain ⟨F1, F2, h1, h2, h3, h4⟩ := H
  refine (h1.whole h).mono ?_
  rintro e W' ⟨rfl, l⟩
  exact ⟨rfl, H0.below l⟩

theorem Two.new {F1 F2 : List Nat} {B : Nat} (h1 : Sd W W0.heap.size p1 F1) (h2 : Sd W W0.heap.size p2 F2) (h3 : ∀ q, q ∈ F1 → q < B) (h5 : ∀ q, q ∈ F2 → B ≤ q) (h4 : Below W0.heap.size W0 W) : Two W0 W p1 p2 :=
  ⟨F1, F2, h1, h2, fun q hq hm => by have := h3 q hq; have := h5 q hm; omega, h4⟩
end

end Go.Proofs.YtbdkcelggffneaaGreatDoor
