/-
  Images, the document's check: finals.
-/
import Derived.Test.YtblbiikfipcbcaaDoorIC2
set_option linter.unusedVariables false
set_option maxRecDepth 20000
namespace Go.Proofs.YtblbiikfipcbcaaDoor
open Go.RowKit Go.Shelf

set_option maxHeartbeats 4000000 in
/-- The document's finals. -/
theorem rFinals_any (n0 : Nat) (w : World) (vo vs vh vr vq : Value) (os : List OL) (ts : List (Value × List (Value × List Int))) (g : Im.Gr) (hg : Grd n0 w vo vs vh vr vq os ts g) (hn : n0 ≤ w.heap.size) (hol : os.length ≤ 1000000000000) :
    Calls Tryd.prog 74 #[.agg (gcs vo vs vh vr vq g.next)] w fun e w' => ∃ v, e = .returned v ∧ Below w.heap.size w w' ∧ w'.ownsRow w.heap.size 3 1 v (Im.fins g.obs).length (Kg.ints (Im.fins g.obs)) := by
  obtain ⟨i0, hi0, hj0, hj1, hj2⟩ := info_parts Kg.Tryd.infoInt
  have HI : Hid (Tryd.prog.info? 3 = some i0 ∧ i0.zero = some (.int .i64 0) ∧ i0.size = 1 ∧ i0.bytes = 8) := ⟨hi0, hj0, hj1, hj2⟩
  clear hi0 hj0 hj1 hj2
  have l1 : Below w.heap.size w (w.alloc (.cells (gcs vo vs vh vr vq g.next) 29)) := Below.alloc (Below.refl _ _) (Nat.le_refl _) _
  have hy := fun j => cell_of_row _ _ j _ _ _ (heap_alloc_new w (.cells (gcs vo vs vh vr vq g.next) 29 (0, 0)))
  have y0 : (w.alloc (.cells (gcs vo vs vh vr vq g.next) 29)).cell? ⟨w.heap.size, 0, none⟩ = some vo := hy 0
  have Hg : Hid (Grd n0 w vo vs vh vr vq os ts g) := hg
  have hx := hg.ob
  obtain ⟨a, cap, rfl, -⟩ := hx
  have Heo : Hid (g.obs = os.map (·.o)) := hg.eo
  have Heol : Hid (g.obs.length = os.length) := by show _ = _; rw [hg.eo, List.length_map]
  clear hg hy
  generalize hw1 : w.alloc (.cells (gcs (.slice a os.length cap) vs vh vr vq g.next) 29) = w1 at *
  have e1 : w1.heap.size = w.heap.size + 1 := by rw [← hw1]; simp
  have HK : Hid (∀ w', Below w1.heap.size w1 w' → w'.cell? ⟨w.heap.size, 0, none⟩ = some (.slice a os.length cap)) := fun w' b' => by
    have hlt : w.heap.size < w1.heap.size := by omega
    exact (b'.cell (p := ⟨w.heap.size, 0, none⟩) hlt).trans y0
  go_enter Tryd.func74, Tryd.ntmps74
  go_wp2
  go_loopw [3, 4] (fun v3 v4 wr => ∃ k : Nat, k ≤ os.length ∧ v4 = .int .i64 k ∧ Hid (wr.ownsRow w1.heap.size 3 1 v3 (Im.fins (g.obs.take k)).length (Kg.ints (Im.fins (g.obs.take k)))) ∧ Hid (Below w1.heap.size w1 wr)) (fun _ v4 _ => os.length - (intOf v4).toNat)
  case atStart => exact ⟨0, Nat.zero_le _, rfl, World.ownsRow_nil _ _ _ _, Below.refl _ _⟩
  case round =>
    obtain ⟨k, hk, rfl, Hl, Hb⟩ := hrel
    obtain ⟨al, cl, hvl⟩ := own_slI Hl.out
    subst hvl
    have z0 := HK.out _ Hb.out
    have BW : Hid (Below w.heap.size w wr) := l1.trans (Hb.out.mono l1.size)
    by_cases hkl : k < os.length
    · have hki : (k : Int) < (os.length : Int) := by omega
      have hz : os[k]? = some (os[k]'hkl) := List.getElem?_eq_getElem hkl
      generalize os[k]'hkl = x at hz
      obtain ⟨a', cap', ea, hob⟩ := (Hg.out.below (BW.out.mono hn)).ob
      cases ea
      obtain ⟨hp, hr, q, off, rfl, hq, hc⟩ := hob k x hz
      have c1 : wr.cell? ⟨q, off + k * 5 + 1, none⟩ = some (.int .i64 x.o.kind) := hc 1 (by omega)
      have Hz : Hid (g.obs[k]? = some x.o) := by show _ = _; rw [Heo.out, List.getElem?_map, hz]; rfl
      clear hob hc hz hp hr
      have Hfl : Hid ((Im.fins (g.obs.take k)).length ≤ 1000000000000) := by
        have h3 := fins_len (g.obs.take k)
        rw [List.length_take] at h3
        show _ ≤ _
        omega
      by_cases h4 : x.o.kind = 4
      · have h4b : (x.o.kind == 4) = true := by simp [h4]
        have He : Hid (Im.fins (g.obs.take (k + 1)) = Im.fins (g.obs.take k) ++ [(k : Int) + 1]) := by
          have h3 : (g.obs.take k).length = k := by rw [List.length_take, Heol.out]; omega
          show _ = _
          rw [take_snocL Hz.out, fins_snoc, if_pos h4, h3]
        rw [h4] at c1
        clear h4 h4b
        go_wp2_with (at_builtin; refine wpList_append_own_at _ rfl _ _ 26 rfl w1.heap.size 3 i0 (.int .i64 0) 1 8 Tryd.underlying26 HI.out.1 HI.out.2.1 HI.out.2.2.1 HI.out.2.2.2 rfl (by decide) _ _ _ rfl (Hl.out.alloc _) ⟨wr.heap.size, 0, none⟩ 1 1 [.int .i64 ((k : Int) + 1)] rfl rfl (cell_one_new _ _ _) (by simp [Value.oneCell']) (by have := Hfl.out; simp [maxLen]; omega) (by have := Hfl.out; omega) (by have := Hb.out.size; simp; omega) ?_; intro v' w8 hown' hgrow _ hat)
        have t8 : Kg.Touch (Value.slice al (Im.fins (g.obs.take k)).length cl).ownBlock.toList wr w8 := ⟨hgrow.os, hgrow.tape, hgrow.output, by have := hgrow.size; simp at this; omega, fun k hk hn => (hgrow.block k (by simp; omega) (fun e => hn (by rw [Option.mem_toList]; exact e.symm))).trans (Below.heap_alloc _ _ _ hk)⟩
        have Hl8 : Hid (w8.ownsRow w1.heap.size 3 1 v' (Im.fins (g.obs.take (k + 1))).length (Kg.ints (Im.fins (g.obs.take (k + 1))))) := by
          show w8.ownsRow _ _ _ _ _ _
          rw [He.out]
          simpa [Kg.ints] using hown'
        have Hb8 : Hid (Below w1.heap.size w1 w8) := Hb.out.trans (t8.below Hb.out.size (fun y hy => by rw [Option.mem_toList] at hy; exact (Hl.out.lt y hy).1))
        obtain ⟨a9, c9, hv9⟩ := own_slI Hl8.out
        subst hv9
        clear hown' hgrow hat t8 Hl Hb
        go_wp2
        go_roundw
        case rel => exact ⟨k + 1, by omega, by go_num, Hl8, Hb8⟩
        case measure => simp [intOf]; omega
      · have h4b : (x.o.kind == 4) = false := by simp [h4]
        have He : Hid (Im.fins (g.obs.take (k + 1)) = Im.fins (g.obs.take k)) := by
          show _ = _
          rw [take_snocL Hz.out, fins_snoc, if_neg h4, List.append_nil]
        go_wp2
        go_roundw
        case rel => exact ⟨k + 1, by omega, by go_num, by rw [He.out]; exact Hl, Hb⟩
        case measure => simp [intOf]; omega
    · have hki : ¬ (k : Int) < (os.length : Int) := by omega
      have e9 : g.obs.take k = g.obs := List.take_of_length_le (by rw [Heol.out]; omega)
      rw [e9] at Hl ⊢
      go_wp2
      go_ret
      exact ⟨_, rfl, BW.out, Kg.row_base Hl.out l1.size⟩

end Go.Proofs.YtblbiikfipcbcaaDoor
