/-
  Policy: four turns beside one another.
-/
import Derived.Test.YtcijdbhabbepaaaGreatDoorPL13
set_option linter.unusedVariables false
set_option maxRecDepth 20000
namespace Go.Proofs.YtcijdbhabbepaaaGreatDoor.Po
open Go.RowKit Go.Proofs.YtcijdbhabbepaaaGreatDoor.Kg

/-- What lies in the blocks F, and stays as long as they aren't touched. -/
structure Stb (F : List Nat) (P : World → Prop) : Prop where
  keep : ∀ w w' G, P w → Kg.Touch G w w' → (∀ q, q ∈ F → q ∉ G) → P w'
  lt : ∀ w, P w → ∀ q, q ∈ F → q < w.heap.size

theorem stb_pt (n0 b : Nat) (v : Value) (g : Nat) (k : Task) (t : Tst) : Stb (Fq b v g) (fun w => Pt w n0 b v g k t) :=
  ⟨fun w w' G h ht hb => h.touch ht hb, fun w h q hq => by
    simp only [Fq, List.mem_cons, Option.mem_toList] at hq
    rcases hq with rfl | rfl | hq
    · exact h.lt
    · exact h.gl
    · exact (h.row.lt q hq).2⟩

theorem stb_rf (n0 b : Nat) (v : Value) (c : Cfg) (k : Task) (t : Tst) : Stb (Fp b v) (fun w => Rf w n0 b v c k t) :=
  ⟨fun w w' G h ht hb => h.touch ht (hb b (fp_in _ _)) (fun q hq => hb q (by simp [Fp, hq])), fun w h q hq => by
    simp only [Fp, List.mem_cons, Option.mem_toList] at hq
    rcases hq with rfl | hq
    · exact h.lt
    · exact (h.row.lt q hq).2⟩

/-- Four that don't touch one another, in blocks from n0 on. -/
structure Q4 (n0 : Nat) (w : World) (F1 F2 F3 F4 : List Nat) (P1 P2 P3 P4 : World → Prop) : Prop where
  s1 : Stb F1 P1
  s2 : Stb F2 P2
  s3 : Stb F3 P3
  s4 : Stb F4 P4
  p1 : P1 w
  p2 : P2 w
  p3 : P3 w
  p4 : P4 w
  a12 : Apart F1 F2
  a13 : Apart F1 F3
  a14 : Apart F1 F4
  a23 : Apart F2 F3
  a24 : Apart F2 F4
  a34 : Apart F3 F4
  l1 : ∀ q, q ∈ F1 → n0 ≤ q
  l2 : ∀ q, q ∈ F2 → n0 ≤ q
  l3 : ∀ q, q ∈ F3 → n0 ≤ q
  l4 : ∀ q, q ∈ F4 → n0 ≤ q

theorem Q4.rot {n0 : Nat} {w : World} {F1 F2 F3 F4 : List Nat} {P1 P2 P3 P4 : World → Prop} (h : Q4 n0 w F1 F2 F3 F4 P1 P2 P3 P4) : Q4 n0 w F2 F3 F4 F1 P2 P3 P4 P1 :=
  ⟨h.s2, h.s3, h.s4, h.s1, h.p2, h.p3, h.p4, h.p1, h.a23, h.a24, h.a12.symm, h.a34, h.a13.symm, h.a14.symm, h.l2, h.l3, h.l4, h.l1⟩

theorem Q4.below {n0 : Nat} {w w' : World} {F1 F2 F3 F4 : List Nat} {P1 P2 P3 P4 : World → Prop} (h : Q4 n0 w F1 F2 F3 F4 P1 P2 P3 P4) (hb : Below w.heap.size w w') : Q4 n0 w' F1 F2 F3 F4 P1 P2 P3 P4 := by
  have ht := Kg.Touch.of_below hb []
  exact ⟨h.s1, h.s2, h.s3, h.s4, h.s1.keep _ _ _ h.p1 ht (by simp), h.s2.keep _ _ _ h.p2 ht (by simp), h.s3.keep _ _ _ h.p3 ht (by simp), h.s4.keep _ _ _ h.p4 ht (by simp), h.a12, h.a13, h.a14, h.a23, h.a24, h.a34, h.l1, h.l2, h.l3, h.l4⟩

/-- One of them takes a step. -/
theorem Q4.step {n0 : Nat} {w w' : World} {F1 F2 F3 F4 F' : List Nat} {P1 P2 P3 P4 P' : World → Prop} (h : Q4 n0 w F1 F2 F3 F4 P1 P2 P3 P4) (hs : Stb F' P') (hp : P' w') (ht : Kg.Touch F1 w w') (hn : Newer w.heap.size F1 F') (h0 : n0 ≤ w.heap.size) : Q4 n0 w' F2 F3 F4 F' P2 P3 P4 P' ∧ Below n0 w w' := by
  have n2 := (h.a12.newer hn (h.s2.lt _ h.p2)).symm
  have n3 := (h.a13.newer hn (h.s3.lt _ h.p3)).symm
  have n4 := (h.a14.newer hn (h.s4.lt _ h.p4)).symm
  refine ⟨⟨h.s2, h.s3, h.s4, hs, h.s2.keep _ _ _ h.p2 ht h.a12.symm, h.s3.keep _ _ _ h.p3 ht h.a13.symm, h.s4.keep _ _ _ h.p4 ht h.a14.symm, hp, h.a23, h.a24, n2, h.a34, n3, n4, h.l2, h.l3, h.l4, fun q hq => (hn q hq).elim (h.l1 q) (fun h9 => Nat.le_trans h0 h9)⟩, ht.below h0 h.l1⟩

/-- What a turn of the task keeps, however many steps it has taken. -/
structure Go12 (k : Task) (t : Tst) : Prop where
  ex : ∃ i h, Jn k t i h

theorem Go12.start {k : Task} (hk : 1 ≤ k.kind ∧ k.kind ≤ 5) : Go12 k t00 := ⟨0, _, Jn.start hk⟩
theorem Go12.next {k : Task} {t : Tst} (h : Go12 k t) (v : Vw) : Go12 k (k.next t v).2 := by
  obtain ⟨i, f, J⟩ := h.ex
  exact ⟨i + 1, _, (J.next v).2⟩
theorem Go12.oc {k : Task} {t : Tst} (h : Go12 k t) : t.ov = true → t.cl = true := by
  obtain ⟨i, f, J⟩ := h.ex
  exact J.oc
theorem Go12.len {k : Task} {t : Tst} (h : Go12 k t) : t.ran.length ≤ 3 := by
  obtain ⟨i, f, J⟩ := h.ex
  have := J.len
  have := J.h3
  have := J.h4
  have := J.h5
  have := J.le
  omega

theorem tof_mk {c : Cfg} {base kind words : Int} (hf : flt c base kind words = 0) (hw : words < 9223372036854775808) : Tof (mk12 c base kind words) := by
  obtain ⟨h1, h2, h3, h4⟩ := flt_ok hf
  exact ⟨h2, lim_in h1 base, fun e => ⟨h4 e, hw⟩⟩

theorem tok_mk {c : Cfg} {base kind words : Int} (hf : flt c base kind words = 0) (hw : words < 9223372036854775808) : Tok c (mk12 c base kind words) := by
  obtain ⟨h1, h2, h3, h4⟩ := flt_ok hf
  exact ⟨rfl, h2, lim_in h1 base, h4, hw⟩

end Go.Proofs.YtcijdbhabbepaaaGreatDoor.Po
