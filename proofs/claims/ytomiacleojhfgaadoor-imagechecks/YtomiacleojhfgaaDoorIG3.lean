/-
  Images: objectsMayBe.
-/
import Derived.Test.YtomiacleojhfgaaDoorIG2
set_option linter.unusedVariables false
set_option maxRecDepth 20000
namespace Go.Proofs.YtomiacleojhfgaaDoor
open Go.RowKit Go.Shelf

/-- What holds of the first objects. -/
structure OMk (n : Nat) (l : List Im.Ob) : Prop where
  rise : Im.Rise 0 l
  head : ∀ o, o ∈ l → hd16 o
  ptrs : ∀ o, o ∈ l → allB 0 n o.ps

theorem OMk.nil (n : Nat) : OMk n [] := ⟨trivial, fun o h => by simp at h, fun o h => by simp at h⟩

theorem OMk.snoc {n : Nat} {l : List Im.Ob} {o : Im.Ob} (h : OMk n l) (h1 : hd16 o) (h2 : lastS l < o.ser) (h3 : allB 0 n o.ps) : OMk n (l ++ [o]) :=
  ⟨(rise_snoc l 0 o).2 ⟨h.rise, h2⟩, fun x hx => by rcases List.mem_append.1 hx with h9 | h9; exact h.head x h9; simp at h9; rw [h9]; exact h1,
    fun x hx => by rcases List.mem_append.1 hx with h9 | h9; exact h.ptrs x h9; simp at h9; rw [h9]; exact h3⟩

theorem rise_take {l : List Im.Ob} {n k : Nat} (h : Im.Rise n l) : Im.Rise n (l.take k) := by
  induction l generalizing n k with
  | nil => simpa using h
  | cons x r ih => cases k with
    | zero => trivial
    | succ k => exact ⟨h.1, ih h.2⟩

theorem take_snoc {l : List Im.Ob} {k : Nat} {o : Im.Ob} (h : l[k]? = some o) : l.take (k + 1) = l.take k ++ [o] := by
  rw [List.take_add_one, h]; rfl

set_option maxHeartbeats 4000000 in
/-- objectsMayBe. -/
theorem gObjects_any (n0 : Nat) (w : World) (vo vs vh vr vq : Value) (os : List OL) (ts : List (Value × List (Value × List Int))) (g : Im.Gr) (hg : Grd n0 w vo vs vh vr vq os ts g) (hn : n0 ≤ w.heap.size) (hL : Laid w) (hol : os.length ≤ 4611686018427387904) :
    Calls Tryd.prog 54 #[.agg (gcs vo vs vh vr vq g.next)] w fun e w' => ∃ r : Bool, e = .returned (.bool r) ∧ Below w.heap.size w w' ∧ (r = true ↔ OM g) := by
  have l1 : Below w.heap.size w (w.alloc (.cells (gcs vo vs vh vr vq g.next) 29)) := Below.alloc (Below.refl _ _) (Nat.le_refl _) _
  have hy := fun j => cell_of_row _ _ j _ _ _ (heap_alloc_new w (.cells (gcs vo vs vh vr vq g.next) 29 (0, 0)))
  have y0 : (w.alloc (.cells (gcs vo vs vh vr vq g.next) 29)).cell? ⟨w.heap.size, 0, none⟩ = some vo := hy 0
  have y5 : (w.alloc (.cells (gcs vo vs vh vr vq g.next) 29)).cell? ⟨w.heap.size, 5, none⟩ = some (.int .u64 g.next) := hy 5
  have Hg : Hid (Grd n0 w vo vs vh vr vq os ts g) := hg
  have HL : Hid (Laid w) := hL
  have hx := hg.ob
  obtain ⟨a, cap, rfl, -⟩ := hx
  clear hg hL hy
  generalize hw1 : w.alloc (.cells (gcs (.slice a os.length cap) vs vh vr vq g.next) 29) = w1 at *
  go_enter Tryd.func54, Tryd.ntmps54
  go_wp2
  go_loopw [3, 11] (fun v3 v11 wr => ∃ k : Nat, k ≤ os.length ∧ v11 = .int .i64 k ∧ v3 = .int .u64 (lastS ((os.map (·.o)).take k)) ∧ Hid (Below w1.heap.size w1 wr) ∧ Hid (OMk os.length ((os.map (·.o)).take k))) (fun _ v11 _ => os.length - (intOf v11).toNat)
  case atStart => exact ⟨0, Nat.zero_le _, rfl, rfl, Below.refl _ _, OMk.nil _⟩
  case round =>
    obtain ⟨k, hk, rfl, rfl, Hb, Hk⟩ := hrel
    have e1 : w1.heap.size = w.heap.size + 1 := by rw [← hw1]; simp
    have z0 : wr.cell? ⟨w.heap.size, 0, none⟩ = some (.slice a os.length cap) := (Hb.out.cell (p := ⟨w.heap.size, 0, none⟩) (by rw [e1]; exact Nat.lt_succ_self _)).trans y0
    have z5 : wr.cell? ⟨w.heap.size, 5, none⟩ = some (.int .u64 g.next) := (Hb.out.cell (p := ⟨w.heap.size, 5, none⟩) (by rw [e1]; exact Nat.lt_succ_self _)).trans y5
    have B1 : Hid (Below w.heap.size w wr) := l1.trans (Hb.out.mono l1.size)
    by_cases hkl : k < os.length
    · have hki : (k : Int) < (os.length : Int) := by omega
      have hz : os[k]? = some (os[k]'hkl) := List.getElem?_eq_getElem hkl
      generalize os[k]'hkl = x at hz
      have hgr := Hg.out.below (B1.out.mono hn)
      obtain ⟨a', cap', ea, hob⟩ := hgr.ob
      cases ea
      obtain ⟨hp, hr, q, off, rfl, hq, hc⟩ := hob k x hz
      have c0 : wr.cell? ⟨q, off + k * 5, none⟩ = some (.int .u64 x.o.ser) := hc 0 (by omega)
      have c1 : wr.cell? ⟨q, off + k * 5 + 1, none⟩ = some (.int .i64 x.o.kind) := hc 1 (by omega)
      have c2 : wr.cell? ⟨q, off + k * 5 + 2, none⟩ = some (.int .i64 x.o.site) := hc 2 (by omega)
      have c3 : wr.cell? ⟨q, off + k * 5 + 3, none⟩ = some x.vp := hc 3 (by omega)
      have c4 : wr.cell? ⟨q, off + k * 5 + 4, none⟩ = some x.vr := hc 4 (by omega)
      clear hc hob
      have Hp : Hid (Lrd n0 wr x.vp .i64 x.o.ps) := hp
      have Hr : Hid (Lrd n0 wr x.vr .u64 (x.o.rs.map Int.ofNat)) := hr
      obtain ⟨ap, cp, ep, -⟩ := hp
      obtain ⟨ar, cr, er, -⟩ := hr
      rw [ep] at c3
      rw [er] at c4
      clear hgr
      have hz2 : Hid ((os.map (·.o))[k]? = some x.o) := by rw [List.getElem?_map, hz]; rfl
      have hsr := Hg.out.sr x.o (by rw [Hg.out.eo]; exact List.mem_of_getElem? hz2.out)
      have Hs : Hid (x.o.ps.length ≤ 4611686018427387904) := hsr.2.2.2.1
      clear hsr hz
      go_wp2_with fail
      have lA : Below wr.heap.size wr (wr.alloc (.cells (ocs x.o.ser x.o.kind x.o.site (.slice ap x.o.ps.length cp) (.slice ar x.o.rs.length cr)) 72)) := Below.alloc (Below.refl _ _) (Nat.le_refl _) _
      have hA := fun j => cell_of_row _ _ j _ _ _ (heap_alloc_new wr (.cells (ocs x.o.ser x.o.kind x.o.site (.slice ap x.o.ps.length cp) (.slice ar x.o.rs.length cr)) 72 (0, 0)))
      have eA : (wr.alloc (.cells (ocs x.o.ser x.o.kind x.o.site (.slice ap x.o.ps.length cp) (.slice ar x.o.rs.length cr)) 72)).heap.size = wr.heap.size + 1 := by simp
      generalize wr.alloc (.cells (ocs x.o.ser x.o.kind x.o.site (.slice ap x.o.ps.length cp) (.slice ar x.o.rs.length cr)) 72) = wA at *
      refine (gHead_any x.o.ser x.o.kind x.o.site ap ar x.o.ps.length cp x.o.rs.length cr wA).mono ?_
      rintro e wB ⟨rfl, bB⟩
      have LB : Laid wB := ((HL.out.keep (B1.out)).keep lA).keep bB
      have hpk := pack_any x.o.ser x.o.kind x.o.ps.length x.o.rs.length 0 x.o.site false wB LB
      clear LB
      go_wp2_with fail
      refine hpk.mono ?_
      rintro e wC ⟨rfl, bC⟩
      have bAC : Below wA.heap.size wA wC := bB.trans (bC.mono bB.size)
      have brC : Below wr.heap.size wr wC := lA.trans (bAC.mono lA.size)
      have hlt : wr.heap.size < wA.heap.size := by rw [eA]; exact Nat.lt_succ_self _
      have hlC : Hid (wr.heap.size < wC.heap.size) := Nat.lt_of_lt_of_le hlt bAC.size
      have d0 : wC.cell? ⟨wr.heap.size, 0, none⟩ = some (.int .u64 x.o.ser) := (bAC.cell (p := ⟨wr.heap.size, 0, none⟩) hlt).trans (hA 0)
      have d3 : wC.cell? ⟨wr.heap.size, 3, none⟩ = some (.slice ap x.o.ps.length cp) := (bAC.cell (p := ⟨wr.heap.size, 3, none⟩) hlt).trans (hA 3)
      have hlw : w.heap.size < wr.heap.size := by have := Hb.out.size; omega
      have y0C : wC.cell? ⟨w.heap.size, 0, none⟩ = some (.slice (some ⟨q, off, none⟩) os.length cap) := (brC.cell (p := ⟨w.heap.size, 0, none⟩) hlw).trans z0
      have HpC : Hid (Lrd n0 wC x.vp .i64 x.o.ps) := Hp.out.below (brC.mono (Nat.le_trans hn B1.out.size))
      have HbC : Hid (Below w1.heap.size w1 wC) := Hb.out.trans (brC.mono Hb.out.size)
      clear hpk bB bC bAC brC hA lA eA c0 c1 c2 c3 c4 z0 z5 Hp Hr hlt
      by_cases hf : flt x.o.kind x.o.ps.length x.o.rs.length 0 x.o.site = 0
      · have Hf : Hid (hd16 x.o) := hf
        rw [hf]
        clear hf
        by_cases hs : lastS ((os.map (·.o)).take k) < x.o.ser
        · have hsi : ¬ (x.o.ser : Int) ≤ (lastS ((os.map (·.o)).take k) : Int) := by omega
          have hwi := gWithin_any 0 os.length n0 x.vp x.o.ps wC HpC.out (by have := HbC.out.size; omega) Hs.out
          rw [ep] at hwi
          have hsn : ¬ x.o.ser ≤ lastS ((os.map (·.o)).take k) := by omega
          go_wp2_with fail
          refine hwi.mono ?_
          rintro e wD ⟨r, rfl, bD, hr⟩
          have HbD : Hid (Below w1.heap.size w1 wD) := HbC.out.trans (bD.mono HbC.out.size)
          have d0D : wD.cell? ⟨wr.heap.size, 0, none⟩ = some (.int .u64 x.o.ser) := (bD.cell (p := ⟨wr.heap.size, 0, none⟩) hlC.out).trans d0
          clear bD d0 d3
          cases r with
          | true =>
            have Hn : Hid (OMk os.length ((os.map (·.o)).take (k + 1))) := by
              have h9 := Hk.out.snoc Hf.out hs (hr.1 rfl)
              rw [← take_snoc hz2.out] at h9
              exact h9
            have hls : lastS ((os.map (·.o)).take (k + 1)) = x.o.ser := by rw [take_snoc hz2.out, lastS_snoc]
            have Hls : Hid (lastS ((os.map (·.o)).take (k + 1)) = x.o.ser) := hls
            clear hls hr hwi
            go_wp2
            go_roundw
            case rel => exact ⟨k + 1, by omega, by go_num, by rw [Hls.out], HbD, Hn⟩
            case measure => simp [intOf]; omega
          | false =>
            have Hn : Hid (¬ OM g) := fun h9 => by
              have h8 := h9.ptrs x.o (by rw [Hg.out.eo]; exact List.mem_of_getElem? hz2.out)
              rw [Hg.out.eo, List.length_map] at h8
              exact Bool.noConfusion (hr.2 h8)
            clear hr hwi
            go_wp2
            go_ret
            exact ⟨false, rfl, l1.trans (HbD.out.mono l1.size), by simpa using Hn.out⟩
        · have hsi : (x.o.ser : Int) ≤ (lastS ((os.map (·.o)).take k) : Int) := by omega
          have Hn : Hid (¬ OM g) := fun h9 => by
            have := (rise_snoc ((os.map (·.o)).take k) 0 x.o).1 (by rw [← take_snoc hz2.out]; have := h9.rise; rw [Hg.out.eo] at this; exact rise_take this)
            exact hs this.2
          clear hs
          go_wp2
          go_ret
          exact ⟨false, rfl, l1.trans (HbC.out.mono l1.size), by simpa using Hn.out⟩
      · have Hn : Hid (¬ OM g) := fun h9 => hf (h9.head x.o (by rw [Hg.out.eo]; exact List.mem_of_getElem? hz2.out))
        go_wp2
        go_ret
        exact ⟨false, rfl, l1.trans (HbC.out.mono l1.size), by simpa using Hn.out⟩
    · have hki : ¬ (k : Int) < (os.length : Int) := by omega
      have hke : k = os.length := by omega
      subst hke
      have Ha : Hid (OMk g.obs.length g.obs) := by
        have h9 := Hk.out
        rw [← List.length_map (f := fun x : OL => x.o), List.take_length, ← Hg.out.eo] at h9
        exact h9
      have ela : lastS ((os.map (·.o)).take os.length) = lastS g.obs := by
        rw [← List.length_map (f := fun x : OL => x.o), List.take_length, ← Hg.out.eo]
      rw [ela]
      clear Hk ela
      by_cases hlo : lastS g.obs < g.next
      · have hloi : (lastS g.obs : Int) < (g.next : Int) := by omega
        by_cases hnx : g.next ≤ 4611686018427387905
        · have hnxi : (g.next : Int) ≤ 4611686018427387905 := by omega
          go_wp2
          go_ret
          exact .inr ⟨rfl, l1.trans (Hb.out.mono l1.size), Ha.out.rise, Ha.out.head, Ha.out.ptrs, hlo, hnx⟩
        · have hnxi : ¬ (g.next : Int) ≤ 4611686018427387905 := by omega
          go_wp2
          go_ret
          exact .inl ⟨rfl, l1.trans (Hb.out.mono l1.size), fun h9 => hnx h9.nx⟩
      · have hloi : ¬ (lastS g.obs : Int) < (g.next : Int) := by omega
        go_wp2
        go_ret
        exact .inl ⟨rfl, l1.trans (Hb.out.mono l1.size), fun h9 => hlo h9.low⟩

end Go.Proofs.YtomiacleojhfgaaDoor
