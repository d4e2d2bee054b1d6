import Derived.Test.YtckgcpoheodbcaaGreatDoorQ02
set_option linter.unusedVariables false
set_option maxHeartbeats 8000000
set_option maxRecDepth 20000
namespace Go.Proofs.YtckgcpoheodbcaaGreatDoor
open Go.RowKit Go.Shelf
structure OMk (n : Nat) (l : List Im.Ob) : Prop where
 rise : Im.Rise 0 l
 head : ∀ o, o ∈ l → hd16 o
 ptrs : ∀ o, o ∈ l → allB 0 n o.ps
theorem OMk.nil (n : Nat) : OMk n [] := ⟨trivial, fun o h => by simp at h, fun o h => by simp at h⟩
theorem OMk.snoc {n : Nat} {l : List Im.Ob} {o : Im.Ob} (h : OMk n l) (h1 : hd16 o) (h2 : lastS l < o.ser) (h3 : allB 0 n o.ps) : OMk n (l ++ [o]) :=
 ⟨(rise_snoc l 0 o).2 ⟨h.rise, h2⟩, fun x hx => by rcases List.mem_append.1 hx with h9 | h9; exact h.head x h9; simp at h9; rw [h9]; exact h1,
  fun x hx => by rcases List.mem_append.1 hx with h9 | h9; exact h.ptrs x h9; simp at h9; rw [h9]; exact h3⟩
theorem rise_take {l : List Im.Ob} {n k : Nat} (h : Im.Rise n l) : Im.Rise n (l.take k) := by
 induction l generalizing n k with
 | nil => simpa using h
 | cons x r ih => cases k with
  | zero => trivial
  | succ k => exact ⟨h.1, ih h.2⟩
theorem take_snoc {l : List Im.Ob} {k : Nat} {o : Im.Ob} (h : l[k]? = some o) : l.take (k + 1) = l.take k ++ [o] := by
 rw [List.take_add_one, h]; rfl
theorem gObjects_any (n0 : Nat) (w : World) (vo vs vh vr vq : Value) (os : List OL) (ts : List (Value × List (Value × List Int))) (g : Im.Gr) (hg : Grd n0 w vo vs vh vr vq os ts g) (hn : n0 ≤ w.heap.size) (hL : Laid w) (hol : os.length ≤ 4611686018427387904) :
  Calls Tryz.prog 89 #[.agg (gcs vo vs vh vr vq g.next)] w fun e w' => ∃ r : Bool, e = .returned (.bool r) ∧ Below w.heap.size w w' ∧ (r = true ↔ OM g) := by
 have l1 : Below w.heap.size w (w.alloc (.cells (gcs vo vs vh vr vq g.next) 27)) := Below.alloc (Below.refl _ _) (Nat.le_refl _) _
 have hy := fun j => cell_of_row _ _ j _ _ _ (heap_alloc_new w (.cells (gcs vo vs vh vr vq g.next) 27 (0, 0)))
 have y0 : (w.alloc (.cells (gcs vo vs vh vr vq g.next) 27)).cell? ⟨w.heap.size, 0, none⟩ = some vo := hy 0
 have y5 : (w.alloc (.cells (gcs vo vs vh vr vq g.next) 27)).cell? ⟨w.heap.size, 5, none⟩ = some (.int .u64 g.next) := hy 5
 have Hg : Hid (Grd n0 w vo vs vh vr vq os ts g) := hg
 have HL : Hid (Laid w) := hL
 have hx := hg.ob
 obtain ⟨a, cap, rfl, -⟩ := hx
 clear hg hL hy
 generalize hw1 : w.alloc (.cells (gcs (.slice a os.length cap) vs vh vr vq g.next) 27) = w1 at *
 go_enter Tryz.func89, Tryz.ntmps89
 go_wp2
 go_loopw [3, 11] (fun v3 v11 wr => ∃ k : Nat, k ≤ os.length ∧ v11 = .int .i64 k ∧ v3 = .int .u64 (lastS ((os.map (·.o)).take k)) ∧ Hid (Below w1.heap.size w1 wr) ∧ Hid (OMk os.length ((os.map (·.o)).take k))) (fun _ v11 _ => os.length - (intOf v11).toNat)
 case atStart => exact ⟨0, Nat.zero_le _, rfl, rfl, Below.refl _ _, OMk.nil _⟩
 case round =>
  obtain ⟨k, hk, rfl, rfl, Hb, Hk⟩ := hrel
  have e1 : w1.heap.size = w.heap.size + 1 := by rw [← hw1]; simp
  have z0 : wr.cell? ⟨w.heap.size, 0, none⟩ = some (.slice a os.length cap) := (Hb.out.cell (p := ⟨w.heap.size, 0, none⟩) (by rw [e1]; exact Nat.lt_succ_self _)).trans y0
  have z5 : wr.cell? ⟨w.heap.size, 5, none⟩ = some (.int .u64 g.next) := (Hb.out.cell (p := ⟨w.heap.size, 5, none⟩) (by rw [e1]; exact Nat.lt_succ_self _)).trans y5
  have B1 : Hid (Below w.heap.size w wr) := l1.trans (Hb.out.mono l1.size)
  by_cases hkl : k < os.length
  ·have hki : (k : Int) < (os.length : Int) := by omega
   have hz : os[k]? = some (os[k]'hkl) := List.getElem?_eq_getElem hkl
   generalize os[k]'hkl = x at hz
   have hgr := Hg.out.below (B1.out.mono hn)
   obtain ⟨a', cap', ea, hob⟩ := hgr.ob
   cases ea
   obtain ⟨hp, hr, q, off, rfl, hq, hc⟩ := hob k x hz
   have c0 : wr.cell? ⟨q, off + k * 5, none⟩ = some (.int .u64 x.o.ser) := hc 0 (by omega)
   have c1 : wr.cell? ⟨q, off + k * 5 + 1, none⟩ = some (.int .i64 x.o.kind) := hc 1 (by omega)
   have c2 : wr.cell? ⟨q, off + k * 5 + 2, none⟩ = some (.int .i64 x.o.site) := hc 2 (by omega)
   have c3 : wr.cell? ⟨q, off + k * 5 + 3, none⟩ = some x.vp := hc 3 (by omega)
   have c4 : wr.cell? ⟨q, off + k * 5 + 4, none⟩ = some x.vr := hc 4 (by omega)
   clear hc hob
   have Hp : Hid (Lrd n0 wr x.vp .i64 x.o.ps) := hp
   have Hr : Hid (Lrd n0 wr x.vr .u64 (x.o.rs.map Int.ofNat)) := hr
   obtain ⟨ap, cp, ep, -⟩ := hp
   obtain ⟨ar, cr, er, -⟩ := hr
   rw [ep] at c3
   rw [er] at c4
   clear hgr
   have hz2 : Hid ((os.map (·.o))[k]? = some x.o) := by rw [List.getElem?_map, hz]; rfl
   have hsr := Hg.out.sr x.o (by rw [Hg.out.eo]; exact List.mem_of_getElem? hz2.out)
   have Hs : Hid (x.o.ps.length ≤ 4611686018427387904) := hsr.2.2.2.1
   clear hsr hz
   go_wp2_with fail
   have lA : Below wr.heap.size wr (wr.alloc (.cells (ocs x.o.ser x.o.kind x.o.site (.slice ap x.o.ps.length cp) (.slice ar x.o.rs.length cr)) 61)) := Below.alloc (Below.refl _ _) (Nat.le_refl _) _
   have hA := fun j => cell_of_row _ _ j _ _ _ (heap_alloc_new wr (.cells (ocs x.o.ser x.o.kind x.o.site (.slice ap x.o.ps.length cp) (.slice ar x.o.rs.length cr)) 61 (0, 0)))
   have eA : (wr.alloc (.cells (ocs x.o.ser x.o.kind x.o.site (.slice ap x.o.ps.length cp) (.slice ar x.o.rs.length cr)) 61)).heap.size = wr.heap.size + 1 := by simp
   generalize wr.alloc (.cells (ocs x.o.ser x.o.kind x.o.site (.slice ap x.o.ps.length cp) (.slice ar x.o.rs.length cr)) 61) = wA at *
   refine (gHead_any x.o.ser x.o.kind x.o.site ap ar x.o.ps.length cp x.o.rs.length cr wA).mono ?_
   rintro e wB ⟨rfl, bB⟩
   have LB : Laid wB := ((HL.out.keep (B1.out)).keep lA).keep bB
   have hpk := pack_any x.o.ser x.o.kind x.o.ps.length x.o.rs.length 0 x.o.site false wB LB
   clear LB
   go_wp2_with fail
   refine hpk.mono ?_
   rintro e wC ⟨rfl, bC⟩
   have bAC : Below wA.heap.size wA wC := bB.trans (bC.mono bB.size)
   have brC : Below wr.heap.size wr wC := lA.trans (bAC.mono lA.size)
   have hlt : wr.heap.size < wA.heap.size := by rw [eA]; exact Nat.lt_succ_self _
   have hlC : Hid (wr.heap.size < wC.heap.size) := Nat.lt_of_lt_of_le hlt bAC.size
   have d0 : wC.cell? ⟨wr.heap.size, 0, none⟩ = some (.int .u64 x.o.ser) := (bAC.cell (p := ⟨wr.heap.size, 0, none⟩) hlt).trans (hA 0)
   have d3 : wC.cell? ⟨wr.heap.size, 3, none⟩ = some (.slice ap x.o.ps.length cp) := (bAC.cell (p := ⟨wr.heap.size, 3, none⟩) hlt).trans (hA 3)
   have hlw : w.heap.size < wr.heap.size := by have := Hb.out.size; omega
   have y0C : wC.cell? ⟨w.heap.size, 0, none⟩ = some (.slice (some ⟨q, off, none⟩) os.length cap) := (brC.cell (p := ⟨w.heap.size, 0, none⟩) hlw).trans z0
   have HpC : Hid (Lrd n0 wC x.vp .i64 x.o.ps) := Hp.out.below (brC.mono (Nat.le_trans hn B1.out.size))
   have HbC : Hid (Below w1.heap.size w1 wC) := Hb.out.trans (brC.mono Hb.out.size)
   clear hpk bB bC bAC brC hA lA eA c0 c1 c2 c3 c4 z0 z5 Hp Hr hlt
   by_cases hf : flt x.o.kind x.o.ps.length x.o.rs.length 0 x.o.site = 0
   ·have Hf : Hid (hd16 x.o) := hf
    rw [hf]
    clear hf
    by_cases hs : lastS ((os.map (·.o)).take k) < x.o.ser
    ·have hsi : ¬ (x.o.ser : Int) ≤ (lastS ((os.map (·.o)).take k) : Int) := by omega
     have hwi := gWithin_any 0 os.length n0 x.vp x.o.ps wC HpC.out (by have := HbC.out.size; omega) Hs.out
     rw [ep] at hwi
     have hsn : ¬ x.o.ser ≤ lastS ((os.map (·.o)).take k) := by omega
     go_wp2_with fail
     refine hwi.mono ?_
     rintro e wD ⟨r, rfl, bD, hr⟩
     have HbD : Hid (Below w1.heap.size w1 wD) := HbC.out.trans (bD.mono HbC.out.size)
     have d0D : wD.cell? ⟨wr.heap.size, 0, none⟩ = some (.int .u64 x.o.ser) := (bD.cell (p := ⟨wr.heap.size, 0, none⟩) hlC.out).trans d0
     clear bD d0 d3
     cases r with
     | true =>
      have Hn : Hid (OMk os.length ((os.map (·.o)).take (k + 1))) := by
       have h9 := Hk.out.snoc Hf.out hs (hr.1 rfl)
       rw [← take_snoc hz2.out] at h9
       exact h9
      have hls : lastS ((os.map (·.o)).take (k + 1)) = x.o.ser := by rw [take_snoc hz2.out, lastS_snoc]
      have Hls : Hid (lastS ((os.map (·.o)).take (k + 1)) = x.o.ser) := hls
      clear hls hr hwi
      go_wp2
      go_roundw
      case rel => exact ⟨k + 1, by omega, by go_num, by rw [Hls.out], HbD, Hn⟩
      case measure => simp [intOf]; omega
     | false =>
      have Hn : Hid (¬ OM g) := fun h9 => by
       have h8 := h9.ptrs x.o (by rw [Hg.out.eo]; exact List.mem_of_getElem? hz2.out)
       rw [Hg.out.eo, List.length_map] at h8
       exact Bool.noConfusion (hr.2 h8)
      clear hr hwi
      go_wp2
      go_ret
      exact ⟨false, rfl, l1.trans (HbD.out.mono l1.size), by simpa using Hn.out⟩
    ·have hsi : (x.o.ser : Int) ≤ (lastS ((os.map (·.o)).take k) : Int) := by omega
     have Hn : Hid (¬ OM g) := fun h9 => by
      have := (rise_snoc ((os.map (·.o)).take k) 0 x.o).1 (by rw [← take_snoc hz2.out]; have := h9.rise; rw [Hg.out.eo] at this; exact rise_take this)
      exact hs this.2
     clear hs
     go_wp2
     go_ret
     exact ⟨false, rfl, l1.trans (HbC.out.mono l1.size), by simpa using Hn.out⟩
   ·have Hn : Hid (¬ OM g) := fun h9 => hf (h9.head x.o (by rw [Hg.out.eo]; exact List.mem_of_getElem? hz2.out))
    go_wp2
    go_ret
    exact ⟨false, rfl, l1.trans (HbC.out.mono l1.size), by simpa using Hn.out⟩
  ·have hki : ¬ (k : Int) < (os.length : Int) := by omega
   have hke : k = os.length := by omega
   subst hke
   have Ha : Hid (OMk g.obs.length g.obs) := by
    have h9 := Hk.out
    rw [← List.length_map (f := fun x : OL => x.o), List.take_length, ← Hg.out.eo] at h9
    exact h9
   have ela : lastS ((os.map (·.o)).take os.length) = lastS g.obs := by
    rw [← List.length_map (f := fun x : OL => x.o), List.take_length, ← Hg.out.eo]
   rw [ela]
   clear Hk ela
   by_cases hlo : lastS g.obs < g.next
   ·have hloi : (lastS g.obs : Int) < (g.next : Int) := by omega
    by_cases hnx : g.next ≤ 4611686018427387905
    ·have hnxi : (g.next : Int) ≤ 4611686018427387905 := by omega
     go_wp2
     go_ret
     exact .inr ⟨rfl, l1.trans (Hb.out.mono l1.size), Ha.out.rise, Ha.out.head, Ha.out.ptrs, hlo, hnx⟩
    ·have hnxi : ¬ (g.next : Int) ≤ 4611686018427387905 := by omega
     go_wp2
     go_ret
     exact .inl ⟨rfl, l1.trans (Hb.out.mono l1.size), fun h9 => hnx h9.nx⟩
   ·have hloi : ¬ (lastS g.obs : Int) < (g.next : Int) := by omega
    go_wp2
    go_ret
    exact .inl ⟨rfl, l1.trans (Hb.out.mono l1.size), fun h9 => hlo h9.low⟩
def fsum (l : List (List Int)) : Nat := (l.map List.length).sum
theorem fsum_snoc (l : List (List Int)) (x : List Int) : fsum (l ++ [x]) = fsum l + x.length := by simp [fsum]
theorem take_snocL {α : Type} {l : List α} {k : Nat} {o : α} (h : l[k]? = some o) : l.take (k + 1) = l.take k ++ [o] := by
 rw [List.take_add_one, h]; rfl
theorem fsum_take (l : List (List Int)) (k : Nat) : fsum (l.take k) ≤ fsum l := by
 have h : fsum l = fsum (l.take k) + fsum (l.drop k) := by
  have h9 : ((l.take k ++ l.drop k).map List.length).sum = fsum (l.take k) + fsum (l.drop k) := by rw [List.map_append, List.sum_append]; rfl
  rw [List.take_append_drop] at h9
  exact h9
 omega
theorem gSlots_any (n0 : Nat) (v : Value) (fs : List (Value × List Int)) (w : World) (hv : Frd n0 w v fs) (hl : fs.length ≤ 4611686018427387904) (hs : fsum (fs.map (·.2)) ≤ 4611686018427387904) :
  Calls Tryz.prog 115 #[v] w fun e w' => e = .returned (.int .i64 (fsum (fs.map (·.2)))) ∧ w' = w := by
 have Hv : Hid (Frd n0 w v fs) := hv
 obtain ⟨a, cap, rfl, -⟩ := hv
 go_enter Tryz.func115, Tryz.ntmps115
 go_wp2
 go_loopw [3, 8] (fun v3 v8 wr => ∃ k : Nat, k ≤ fs.length ∧ v8 = .int .i64 k ∧ v3 = .int .i64 (fsum ((fs.map (·.2)).take k)) ∧ w = wr) (fun _ v8 _ => fs.length - (intOf v8).toNat)
 case atStart => exact ⟨0, Nat.zero_le _, rfl, rfl, rfl⟩
 case round =>
  obtain ⟨k, hk, rfl, rfl, rfl⟩ := hrel
  by_cases hkl : k < fs.length
  ·have hki : (k : Int) < (fs.length : Int) := by omega
   have hz : fs[k]? = some (fs[k]'hkl) := List.getElem?_eq_getElem hkl
   generalize fs[k]'hkl = x at hz
   obtain ⟨a', cap', ea, hob⟩ := Hv.out
   cases ea
   obtain ⟨hp, q, off, rfl, hq, hc⟩ := hob k x hz
   obtain ⟨ap, cp, ep, -⟩ := hp
   rw [ep] at hc
   have e9 : fsum ((fs.map (·.2)).take (k + 1)) = fsum ((fs.map (·.2)).take k) + x.2.length := by
    rw [take_snocL (o := x.2) (by rw [List.getElem?_map, hz]; rfl), fsum_snoc]
   have hle := fsum_take (fs.map (·.2)) (k + 1)
   have hle2 : fsum ((fs.map (·.2)).take k) + x.2.length ≤ 4611686018427387904 := by omega
   have hwr : wrap64 ((fsum ((fs.map (·.2)).take k) : Int) + (x.2.length : Int)) = (fsum ((fs.map (·.2)).take k) : Int) + (x.2.length : Int) := by unfold wrap64; omega
   have He : Hid (fsum ((fs.map (·.2)).take (k + 1)) = fsum ((fs.map (·.2)).take k) + x.2.length) := e9
   clear e9 hle hob hz ep
   go_wp2
   go_roundw
   case rel =>
    exact ⟨k + 1, by omega, by go_num, by rw [He.out, Int.natCast_add], trivial⟩
   case measure => simp [intOf]; omega
  ·have hki : ¬ (k : Int) < (fs.length : Int) := by omega
   have e9 : fsum ((fs.map (·.2)).take k) = fsum (fs.map (·.2)) := by rw [List.take_of_length_le (by simp; omega)]
   rw [e9]
   go_wp2
   go_ret
   exact ⟨rfl, rfl⟩
def fOk (n : Nat) (fs : List (List Int)) : Prop := ∀ f, f ∈ fs → 1 ≤ f.length ∧ allB 0 n f
theorem gFrames_any (n0 n : Nat) (v : Value) (fs : List (Value × List Int)) (w : World) (hv : Frd n0 w v fs) (hn : n0 ≤ w.heap.size) (hl : fs.length ≤ 4611686018427387904) (hs : fsum (fs.map (·.2)) ≤ 4611686018427387904) :
  Calls Tryz.prog 116 #[v, .int .i64 n] w fun e w' => ∃ r : Bool, e = .returned (.bool r) ∧ Below w.heap.size w w' ∧ (r = true ↔ fOk n (fs.map (·.2))) := by
 have Hv : Hid (Frd n0 w v fs) := hv
 obtain ⟨a, cap, rfl, -⟩ := hv
 go_enter Tryz.func116, Tryz.ntmps116
 go_wp2
 go_loopw [9] (fun v9 wr => ∃ k : Nat, k ≤ fs.length ∧ v9 = .int .i64 k ∧ Hid (Below w.heap.size w wr) ∧ Hid (fOk n ((fs.map (·.2)).take k))) (fun v9 _ => fs.length - (intOf v9).toNat)
 case atStart => exact ⟨0, Nat.zero_le _, rfl, Below.refl _ _, (fun f hf => by simp at hf : fOk n ((fs.map (·.2)).take 0))⟩
 case round =>
  obtain ⟨k, hk, rfl, Hb, Hk⟩ := hrel
  by_cases hkl : k < fs.length
  ·have hki : (k : Int) < (fs.length : Int) := by omega
   have hz : fs[k]? = some (fs[k]'hkl) := List.getElem?_eq_getElem hkl
   generalize fs[k]'hkl = x at hz
   obtain ⟨a', cap', ea, hob⟩ := Hv.out.below (Hb.out.mono hn)
   cases ea
   obtain ⟨hp, q, off, rfl, hq, hc⟩ := hob k x hz
   have hz2 : (fs.map (·.2))[k]? = some x.2 := by rw [List.getElem?_map, hz]; rfl
   have hlx : x.2.length ≤ 4611686018427387904 := by
    have h9 := fsum_take (fs.map (·.2)) (k + 1)
    rw [take_snocL hz2, fsum_snoc] at h9
    omega
   have hwi := gWithin_any 0 n n0 x.1 x.2 wr hp (Nat.le_trans hn Hb.out.size) hlx
   obtain ⟨ap, cp, ep, -⟩ := hp
   rw [ep] at hc hwi
   have Hz : Hid ((fs.map (·.2))[k]? = some x.2) := hz2
   clear hob hz ep hz2
   by_cases h0 : x.2.length < 1
   ·have h0i : (x.2.length : Int) < 1 := by omega
    have Hn : Hid (¬ fOk n (fs.map (·.2))) := fun h9 => by
     have := (h9 x.2 (List.mem_of_getElem? Hz.out)).1
     omega
    clear hwi
    go_wp2
    go_ret
    exact ⟨false, rfl, Hb.out, by simpa using Hn.out⟩
   ·have h0i : ¬ (x.2.length : Int) < 1 := by omega
    go_wp2_with fail
    refine hwi.mono ?_
    rintro e wD ⟨r, rfl, bD, hr⟩
    have HbD : Hid (Below w.heap.size w wD) := Hb.out.trans (bD.mono Hb.out.size)
    cases r with
    | true =>
     have Hn : Hid (fOk n ((fs.map (·.2)).take (k + 1))) := fun f hf => by
      rw [take_snocL Hz.out] at hf
      rcases List.mem_append.1 hf with h9 | h9
      ·exact Hk.out f h9
      ·simp at h9; rw [h9]; exact ⟨by omega, hr.1 rfl⟩
     clear hr hwi bD
     go_wp2
     go_roundw
     case rel => exact ⟨k + 1, by omega, by go_num, HbD, Hn⟩
     case measure => simp [intOf]; omega
    | false =>
     have Hn : Hid (¬ fOk n (fs.map (·.2))) := fun h9 => Bool.noConfusion (hr.2 (h9 x.2 (List.mem_of_getElem? Hz.out)).2)
     clear hr hwi bD
     go_wp2
     go_ret
     exact ⟨false, rfl, HbD.out, by simpa using Hn.out⟩
  ·have hki : ¬ (k : Int) < (fs.length : Int) := by omega
   have Hn : Hid (fOk n (fs.map (·.2))) := by
    have h9 := Hk.out
    rw [List.take_of_length_le (by simp; omega)] at h9
    exact h9
   clear Hk
   go_wp2
   go_ret
   exact .inr ⟨rfl, Hb.out, Hn.out⟩
structure SM (g : Im.Gr) : Prop where
 few : ∀ t, t ∈ g.slots → fsum t ≤ 4096
 ok : ∀ t, t ∈ g.slots → fOk g.obs.length t
 t0 : 1 ≤ g.slots.length
 t1 : g.slots.length ≤ 8
structure Sln (ts : List (Value × List (Value × List Int))) : Prop where
 t : ts.length ≤ 4611686018427387904
 f : ∀ x, x ∈ ts → x.2.length ≤ 4611686018427387904 ∧ fsum (x.2.map (·.2)) ≤ 4611686018427387904
theorem gSlotsM_any (n0 : Nat) (w : World) (vo vs vh vr vq : Value) (os : List OL) (ts : List (Value × List (Value × List Int))) (g : Im.Gr) (hg : Grd n0 w vo vs vh vr vq os ts g) (hn : n0 ≤ w.heap.size) (hs : Sln ts) :
  Calls Tryz.prog 90 #[.agg (gcs vo vs vh vr vq g.next)] w fun e w' => ∃ r : Bool, e = .returned (.bool r) ∧ Below w.heap.size w w' ∧ (r = true ↔ SM g) := by
 have l1 : Below w.heap.size w (w.alloc (.cells (gcs vo vs vh vr vq g.next) 27)) := Below.alloc (Below.refl _ _) (Nat.le_refl _) _
 have hy := fun j => cell_of_row _ _ j _ _ _ (heap_alloc_new w (.cells (gcs vo vs vh vr vq g.next) 27 (0, 0)))
 have y0 : (w.alloc (.cells (gcs vo vs vh vr vq g.next) 27)).cell? ⟨w.heap.size, 0, none⟩ = some vo := hy 0
 have y1 : (w.alloc (.cells (gcs vo vs vh vr vq g.next) 27)).cell? ⟨w.heap.size, 1, none⟩ = some vs := hy 1
 have Hg : Hid (Grd n0 w vo vs vh vr vq os ts g) := hg
 have Hs : Hid (Sln ts) := hs
 have hx := hg.ob
 obtain ⟨a, cap, rfl, -⟩ := hx
 have hx := hg.sl
 obtain ⟨b, bcap, rfl, -⟩ := hx
 have htl := hs.t
 have eol : g.obs.length = os.length := by rw [hg.eo, List.length_map]
 have esl : g.slots.length = ts.length := by rw [hg.es, List.length_map]
 clear hg hy hs
 generalize hw1 : w.alloc (.cells (gcs (.slice a os.length cap) (.slice b ts.length bcap) vh vr vq g.next) 27) = w1 at *
 have e1 : w1.heap.size = w.heap.size + 1 := by rw [← hw1]; simp
 have Heol : Hid (g.obs.length = os.length) := eol
 have Hesl : Hid (g.slots.length = ts.length) := esl
 clear eol esl
 go_enter Tryz.func90, Tryz.ntmps90
 go_wp2
 go_loopw [8] (fun v8 wr => ∃ k : Nat, k ≤ ts.length ∧ v8 = .int .i64 k ∧ Hid (Below w1.heap.size w1 wr) ∧ Hid (∀ t, t ∈ g.slots.take k → fsum t ≤ 4096 ∧ fOk g.obs.length t)) (fun v8 _ => ts.length - (intOf v8).toNat)
 case atStart => exact ⟨0, Nat.zero_le _, rfl, Below.refl _ _, (fun t ht => by simp at ht : ∀ t, t ∈ g.slots.take 0 → fsum t ≤ 4096 ∧ fOk g.obs.length t)⟩
 case round =>
  obtain ⟨k, hk, rfl, Hb, Hk⟩ := hrel
  have z0 : wr.cell? ⟨w.heap.size, 0, none⟩ = some (.slice a os.length cap) := (Hb.out.cell (p := ⟨w.heap.size, 0, none⟩) (by rw [e1]; exact Nat.lt_succ_self _)).trans y0
  have z1 : wr.cell? ⟨w.heap.size, 1, none⟩ = some (.slice b ts.length bcap) := (Hb.out.cell (p := ⟨w.heap.size, 1, none⟩) (by rw [e1]; exact Nat.lt_succ_self _)).trans y1
  have B1 : Hid (Below w.heap.size w wr) := l1.trans (Hb.out.mono l1.size)
  by_cases hkl : k < ts.length
  ·have hki : (k : Int) < (ts.length : Int) := by omega
   have hz : ts[k]? = some (ts[k]'hkl) := List.getElem?_eq_getElem hkl
   generalize ts[k]'hkl = x at hz
   obtain ⟨a', cap', ea, hob⟩ := (Hg.out.below (B1.out.mono hn)).sl
   cases ea
   obtain ⟨hp, q, off, rfl, hq, hc⟩ := hob k x hz
   have Hz : Hid (g.slots[k]? = some (x.2.map (·.2))) := by rw [Hg.out.es, List.getElem?_map, hz]; rfl
   have hxs := Hs.out.f x (List.mem_of_getElem? hz)
   have hsu := gSlots_any n0 x.1 x.2 wr hp hxs.1 hxs.2
   have hfr := gFrames_any n0 os.length x.1 x.2 wr hp (Nat.le_trans hn B1.out.size) hxs.1 hxs.2
   obtain ⟨ap, cp, ep, -⟩ := hp
   rw [ep] at hc hsu hfr
   clear hob hz ep hxs
   by_cases h4 : fsum (x.2.map (·.2)) ≤ 4096
   ·have h4i : ¬ (fsum (x.2.map (·.2)) : Int) > 4096 := by omega
    go_wp2_with fail
    refine hsu.mono ?_
    rintro e wD ⟨rfl, rfl⟩
    clear hsu
    go_wp2_with fail
    refine hfr.mono ?_
    rintro e wD ⟨r, rfl, bD, hr⟩
    have HbD : Hid (Below w1.heap.size w1 wD) := Hb.out.trans (bD.mono Hb.out.size)
    cases r with
    | true =>
     have Hn : Hid (∀ t, t ∈ g.slots.take (k + 1) → fsum t ≤ 4096 ∧ fOk g.obs.length t) := fun f hf => by
      rw [take_snocL Hz.out] at hf
      rcases List.mem_append.1 hf with h9 | h9
      ·exact Hk.out f h9
      ·simp at h9; rw [h9]; exact ⟨h4, by rw [Heol.out]; exact hr.1 rfl⟩
     clear hr hfr bD
     go_wp2
     go_roundw
     case rel => exact ⟨k + 1, by omega, by go_num, HbD, Hn⟩
     case measure => simp [intOf]; omega
    | false =>
     have Hn : Hid (¬ SM g) := fun h9 => Bool.noConfusion (hr.2 (by rw [← Heol.out]; exact h9.ok _ (List.mem_of_getElem? Hz.out)))
     clear hr hfr bD
     go_wp2
     go_ret
     exact ⟨false, rfl, l1.trans (HbD.out.mono l1.size), by simpa using Hn.out⟩
   ·have h4i : (fsum (x.2.map (·.2)) : Int) > 4096 := by omega
    have Hn : Hid (¬ SM g) := fun h9 => h4 (h9.few _ (List.mem_of_getElem? Hz.out))
    clear hfr
    go_wp2_with fail
    refine hsu.mono ?_
    rintro e wD ⟨rfl, rfl⟩
    clear hsu
    go_wp2
    go_ret
    exact ⟨false, rfl, l1.trans (Hb.out.mono l1.size), by simpa using Hn.out⟩
  ·have hki : ¬ (k : Int) < (ts.length : Int) := by omega
   have Hn : Hid (∀ t, t ∈ g.slots → fsum t ≤ 4096 ∧ fOk g.obs.length t) := by
    have h9 := Hk.out
    rw [List.take_of_length_le (by rw [Hesl.out]; omega)] at h9
    exact h9
   clear Hk
   by_cases h1 : 1 ≤ ts.length
   ·have h1i : (ts.length : Int) ≥ 1 := by omega
    by_cases h8 : ts.length ≤ 8
    ·have h8i : (ts.length : Int) ≤ 8 := by omega
     go_wp2
     go_ret
     exact .inr ⟨rfl, B1.out, fun t ht => (Hn.out t ht).1, fun t ht => (Hn.out t ht).2, by rw [Hesl.out]; exact h1, by rw [Hesl.out]; exact h8⟩
    ·have h8i : ¬ (ts.length : Int) ≤ 8 := by omega
     go_wp2
     go_ret
     exact .inl ⟨rfl, B1.out, fun h9 => h8 (by have := h9.t1; rw [Hesl.out] at this; exact this)⟩
   ·have h1i : ¬ (ts.length : Int) ≥ 1 := by omega
    go_wp2
    go_ret
    exact .inl ⟨rfl, B1.out, fun h9 => h1 (by have := h9.t0; rw [Hesl.out] at this; exact this)⟩
structure HM (g : Im.Gr) : Prop where
 len : g.hs.length ≤ 1024
 all : allB (-1) g.obs.length g.hs
theorem gHandles_any (n0 : Nat) (w : World) (vo vs vh vr vq : Value) (os : List OL) (ts : List (Value × List (Value × List Int))) (g : Im.Gr) (hg : Grd n0 w vo vs vh vr vq os ts g) (hn : n0 ≤ w.heap.size) (hl : g.hs.length ≤ 4611686018427387904) :
  Calls Tryz.prog 91 #[.agg (gcs vo vs vh vr vq g.next)] w fun e w' => ∃ r : Bool, e = .returned (.bool r) ∧ Below w.heap.size w w' ∧ (r = true ↔ HM g) := by
 have l1 : Below w.heap.size w (w.alloc (.cells (gcs vo vs vh vr vq g.next) 27)) := Below.alloc (Below.refl _ _) (Nat.le_refl _) _
 have hy := fun j => cell_of_row _ _ j _ _ _ (heap_alloc_new w (.cells (gcs vo vs vh vr vq g.next) 27 (0, 0)))
 have y0 : (w.alloc (.cells (gcs vo vs vh vr vq g.next) 27)).cell? ⟨w.heap.size, 0, none⟩ = some vo := hy 0
 have y2 : (w.alloc (.cells (gcs vo vs vh vr vq g.next) 27)).cell? ⟨w.heap.size, 2, none⟩ = some vh := hy 2
 have hwi := gWithin_any (-1) os.length n0 vh g.hs _ (hg.hs.below (l1.mono hn)) (Nat.le_trans hn l1.size) hl
 have hx := hg.ob
 obtain ⟨a, cap, rfl, -⟩ := hx
 have hx := hg.hs
 obtain ⟨b, bcap, rfl, -⟩ := hx
 have Heol : Hid (g.obs.length = os.length) := by rw [hg.eo, List.length_map]; rfl
 clear hg hy
 go_enter Tryz.func91, Tryz.ntmps91
 by_cases hh : g.hs.length ≤ 1024
 ·have hhi : (g.hs.length : Int) ≤ 1024 := by omega
  go_wp2_with fail
  refine hwi.mono ?_
  rintro e wD ⟨r, rfl, bD, hr⟩
  have BD : Hid (Below w.heap.size w wD) := l1.trans (bD.mono l1.size)
  clear bD hwi
  cases r with
  | true =>
   have Hr : Hid (allB (-1) os.length g.hs) := hr.1 rfl
   clear hr
   go_wp2
   go_ret
   exact ⟨true, rfl, BD.out, fun _ => ⟨hh, by rw [Heol.out]; exact Hr.out⟩, fun _ => rfl⟩
  | false =>
   have Hr : Hid (¬ allB (-1) os.length g.hs) := fun h9 => Bool.noConfusion (hr.2 h9)
   clear hr
   go_wp2
   go_ret
   exact ⟨false, rfl, BD.out, fun h9 => Bool.noConfusion h9, fun h9 => absurd (by rw [← Heol.out]; exact h9.all) Hr.out⟩
 ·have hhi : ¬ (g.hs.length : Int) ≤ 1024 := by omega
  clear hwi
  go_wp2
  go_ret
  exact .inl ⟨rfl, l1, fun h9 => hh h9.len⟩
theorem slEqual_any (n0 : Nat) (va vb : Value) (xs ys : List Int) (w : World) (ha : Lrd n0 w va .i64 xs) (hb : Lrd n0 w vb .i64 ys) (hx : xs.length < 9223372036854775807) :
  Calls Tryz.prog 117 #[va, vb] w fun e w' => e = .returned (.bool (decide (xs = ys))) ∧ ∃ nq, w' = w.drewN nq := by
 obtain ⟨a, ca, rfl, -, ha'⟩ := ha
 obtain ⟨b, cb, rfl, -, hb'⟩ := hb
 by_cases hl : xs.length = ys.length
 ·have h1 : ((xs.length : Int) == (ys.length : Int)) = true := by simp [hl]
  have Hl : Hid (xs.length = ys.length) := hl
  have Ha : Hid (∀ (f : Nat) z, xs[f]? = some z → ∃ q off, a = some ⟨q, off, none⟩ ∧ q < n0 ∧ w.cell? ⟨q, off + f, none⟩ = some (.int .i64 z)) := ha'
  have Hb : Hid (∀ (f : Nat) z, ys[f]? = some z → ∃ q off, b = some ⟨q, off, none⟩ ∧ q < n0 ∧ w.cell? ⟨q, off + f, none⟩ = some (.int .i64 z)) := hb'
  clear ha' hb' hl
  go_enter Tryz.func117, Tryz.ntmps117
  go_wp2
  go_loopw [13] (fun i wr => ∃ (k q : Nat), k ≤ xs.length ∧ i = .int .i64 k ∧ wr = w.drewN q ∧ Hid (xs.take k = ys.take k)) (fun i _ => xs.length - (intOf i).toNat)
  case atStart => exact ⟨0, 0, Nat.zero_le _, rfl, rfl, by show xs.take 0 = ys.take 0; simp⟩
  case round =>
   obtain ⟨k, q, hk, rfl, rfl, hp⟩ := hrel
   by_cases hlt : k < xs.length
   ·obtain ⟨x, hx1⟩ : ∃ x, xs[k]? = some x := ⟨_, List.getElem?_eq_getElem hlt⟩
    obtain ⟨y, hy1⟩ : ∃ y, ys[k]? = some y := ⟨_, List.getElem?_eq_getElem (by have := Hl.out; omega)⟩
    obtain ⟨g1, o1, e1, -, c1⟩ := Ha.out k x hx1
    obtain ⟨g2, o2, e2, -, c2⟩ := Hb.out k y hy1
    subst e1 e2
    have hki : (k : Int) < (xs.length : Int) := by omega
    have hki2 : (k : Int) < (ys.length : Int) := by have := Hl.out; omega
    by_cases e : x = y
    ·subst e
     have hp2 : Hid (xs.take (k + 1) = ys.take (k + 1)) := by show xs.take (k + 1) = ys.take (k + 1); rw [take_snocL hx1, take_snocL hy1, hp.out]
     clear hx1 hy1
     go_wp2
     go_quiet (fail)
     go_wp2
     go_roundw
     case rel => exact ⟨k + 1, _, hlt, by go_num, rfl, hp2⟩
     case measure => simp [intOf]; omega
    ·have h2 : (x == y) = false := by simpa using e
     have hd : Hid (decide (xs = ys) = false) := by
      show decide (xs = ys) = false
      rw [decide_eq_false]
      rintro rfl
      rw [hx1] at hy1
      exact e (by simpa using hy1)
     clear hx1 hy1
     go_wp2
     go_quiet (fail)
     go_wp2
     go_ret
     exact ⟨by rw [hd.out]; rfl, q + nq, World.drewN_drewN _ _ _⟩
   ·obtain rfl : k = xs.length := by omega
    have hki : ¬ (xs.length : Int) < (xs.length : Int) := by omega
    have hd : Hid (decide (xs = ys) = true) := by
     show decide (xs = ys) = true
     rw [decide_eq_true]
     have h3 := hp.out
     rw [List.take_length, Hl.out, List.take_length] at h3
     exact h3
    go_wp2
    go_ret
    exact ⟨by rw [hd.out]; rfl, q, rfl⟩
 ·have h1 : ((xs.length : Int) == (ys.length : Int)) = false := by simp; omega
  have hd : Hid (decide (xs = ys) = false) := by
   show decide (xs = ys) = false
   rw [decide_eq_false]
   rintro rfl
   exact hl rfl
  go_enter Tryz.func117, Tryz.ntmps117
  go_wp2
  go_ret
  exact ⟨by rw [hd.out]; rfl, 0, rfl⟩
end Go.Proofs.YtckgcpoheodbcaaGreatDoor
