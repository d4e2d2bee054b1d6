/-
  Images, the document's reader: how Read leaves.
-/
import Derived.Test.YtblbiikfipcbcaaGreatDoorIQ9
import Derived.Test.YtblbiikfipcbcaaGreatDoorPRo
set_option linter.unusedVariables false
set_option maxRecDepth 20000
namespace Go.Proofs.YtblbiikfipcbcaaGreatDoor
open Go.RowKit Go.Shelf

theorem tleaf {W : World} {A : Nat} {t : Array Value} {v0 v1 v2 v3 v4 p k : Value} {n : Nat} (h2 : t[2]?.getD undef = .pointer (some ⟨A, 0, none⟩)) (h3 : t[3]?.getD undef = p) (h4 : t[4]?.getD undef = k)
    (hA : W.heap[A]? = some (.cells (gcs v0 v1 v2 v3 v4 n) 28 (0, 0))) : (results Tryz.f4 t).run Tryz.prog W = .ok (.tuple #[.agg (gcs v0 v1 v2 v3 v4 n), p, k]) W := by
  have y0 := (Kg.heap_cell hA 0).trans (show _ = some v0 from rfl)
  have y1 := (Kg.heap_cell hA 1).trans (show _ = some v1 from rfl)
  have y2 := (Kg.heap_cell hA 2).trans (show _ = some v2 from rfl)
  have y3 := (Kg.heap_cell hA 3).trans (show _ = some v3 from rfl)
  have y4 := (Kg.heap_cell hA 4).trans (show _ = some v4 from rfl)
  have y5 := (Kg.heap_cell hA 5).trans (show _ = some (.int .u64 (n : Int)) from rfl)
  simp [results, Tryz.results4, go_sem, h2, h3, h4, y0, y1, y2, y3, y4, y5]

theorem sf_fin {w0 w : World} {A G nx : Nat} {es : List OE} {u us vh vq vr : Value} {ts : List (List (List Nat))} {hs qs : List Nat} {rg : List Int} (h : Sf w0 w A G nx es u ts us hs vh qs vq rg vr) (hA : A = w0.heap.size) (hnx : nx ≤ 4611686018427387905) :
    Below w0.heap.size w0 ((((((w.setCell ⟨A, 0, none⟩ u).setCell ⟨A, 1, none⟩ us).setCell ⟨A, 2, none⟩ vh).setCell ⟨A, 3, none⟩ vr).setCell ⟨A, 4, none⟩ vq).setCell ⟨A, 5, none⟩ (.int .u64 nx)) ∧ ((((((w.setCell ⟨A, 0, none⟩ u).setCell ⟨A, 1, none⟩ us).setCell ⟨A, 2, none⟩ vh).setCell ⟨A, 3, none⟩ vr).setCell ⟨A, 4, none⟩ vq).setCell ⟨A, 5, none⟩ (.int .u64 nx)).heap[A]? = some (.cells (gcs u us vh vr vq nx) 28 (0, 0)) ∧
    ∃ _ls : Unit, (∀ (w2 : World) (F : List Nat), Kg.Touch F ((((((w.setCell ⟨A, 0, none⟩ u).setCell ⟨A, 1, none⟩ us).setCell ⟨A, 2, none⟩ vh).setCell ⟨A, 3, none⟩ vr).setCell ⟨A, 4, none⟩ vq).setCell ⟨A, 5, none⟩ (.int .u64 nx)) w2 → (∀ k, k ∈ F → ∀ cs t', ((((((w.setCell ⟨A, 0, none⟩ u).setCell ⟨A, 1, none⟩ us).setCell ⟨A, 2, none⟩ vh).setCell ⟨A, 3, none⟩ vr).setCell ⟨A, 4, none⟩ vq).setCell ⟨A, 5, none⟩ (.int .u64 nx)).heap[k]? = some (.cells cs t' (0, 0)) → t' = 28) → ∃ os ls, Grd w2.heap.size w2 u us vh vr vq os ls (rGr nx es ts hs qs rg)) ∧ True := by
  have s0 := Kg.heap_set h.s.ra 0 u
  have s1 := Kg.heap_set s0 1 us
  have s2 := Kg.heap_set s1 2 vh
  have s3 := Kg.heap_set s2 3 vr
  have s4 := Kg.heap_set s3 4 vq
  have s5 := Kg.heap_set s4 5 (.int .u64 nx)
  have t6 := touch6 w A u us vh vr vq (.int .u64 nx)
  clear s0 s1 s2 s3 s4
  generalize ((((((w.setCell ⟨A, 0, none⟩ u).setCell ⟨A, 1, none⟩ us).setCell ⟨A, 2, none⟩ vh).setCell ⟨A, 3, none⟩ vr).setCell ⟨A, 4, none⟩ vq).setCell ⟨A, 5, none⟩ (.int .u64 nx)) = w6 at *
  have b : Below A w0 w := h.s.b
  refine ⟨by rw [← hA]; exact b.trans (t6.below (Nat.le_of_lt (Kg.heap_lt h.s.ra)) (fun k hk => by simp at hk; omega)), s5, ?_⟩
  refine ⟨(), fun w2 F tF hF => ?_, trivial⟩
  have tt : Kg.Touch (A :: F) w w2 := (t6.mono (fun k hk => .inl (by simp at hk; simp [hk]))).trans (tF.mono (fun k hk => .inl (by simp [hk])))
  obtain ⟨m1, m2, m3, m4, m5, m6⟩ := h.mem (gc := #[]) tt (fun k hk cs t' hc => by
    have e9 : t' = 28 := by
      by_cases hA9 : k = A
      · subst hA9
        rw [h.s.ra] at hc
        cases hc
        rfl
      · rcases List.mem_cons.1 hk with h9 | h9
        · exact absurd h9 hA9
        · exact hF k h9 cs t' ((t6.block k (Kg.heap_lt hc) (by simpa using hA9)).trans hc)
    rw [e9]
    decide)
  obtain ⟨ls, t1, t2⟩ := m3.trd
  refine ⟨es.map OE.ol, ls, ⟨Ed.ord m1 m2, t1, m4.lrd, Lrd.of_row m6, m5.lrd, by simp [rGr], t2.symm, by show nx < _; omega, fun o ho => ?_⟩⟩
  obtain ⟨y, hy, rfl⟩ := List.mem_map.1 (show o ∈ es.map (fun e => e.ol.o) from ho)
  obtain ⟨-, -, k1, k2, k3, k4, k5⟩ := h.d y hy
  refine ⟨by show y.ser < _; omega, ?_, ?_, ?_, ?_⟩
  · show InI (y.ro.2.1 : Int)
    unfold InI
    omega
  · show InI (y.ro.2.2.1 : Int)
    unfold InI
    omega
  · show (y.ro.2.2.2.1.map Int.ofNat).length ≤ _
    rw [List.length_map]
    omega
  · show y.ro.2.2.2.2.length ≤ _
    omega

theorem rres_ok {bs : List Nat} {W : World} {z : Im.NG} {R : Im.Gr} {u us vh vr vq : Value} {nx : Nat} (h : Im.dec bs = .ok z ∧ MB (Im.wNG z) ∧ R = Im.wNG z) (hby : ∀ x, x ∈ bs → x < 256) (hG : ∀ (w2 : World) (F : List Nat), Kg.Touch F W w2 → (∀ k, k ∈ F → ∀ cs t', W.heap[k]? = some (.cells cs t' (0, 0)) → t' = 28) → ∃ os ls, Grd w2.heap.size w2 u us vh vr vq os ls R) (hnx : R.next = nx) : Rres bs (.returned (.tuple #[.agg (gcs u us vh vr vq nx), .int .i64 0, .int .i64 0])) W := by
  obtain ⟨h1, h2, rfl⟩ := h
  subst hnx
  obtain ⟨e1, e2⟩ := Im.enc_dec hby h1
  have h9 := congrArg List.length e2
  rw [Im.enc_len] at h9
  unfold Rres
  rw [h1]
  refine .inr ⟨h2, _, _, _, _, _, rfl, fun w2 F tF hF => ?_⟩
  obtain ⟨os, ls, g⟩ := hG w2 F tF hF
  exact ⟨os, ls, g, Nat.le_trans (gsz_le (y := z) g.eo.symm g.es.symm) (by omega)⟩

end Go.Proofs.YtblbiikfipcbcaaGreatDoor
