/-
  Images: slotsMayBe, handlesMayBe.
-/
import Derived.Test.YtblbiikfipcbcaaDoorPIg
set_option linter.unusedVariables false
set_option maxRecDepth 20000
namespace Go.Proofs.YtblbiikfipcbcaaDoor
open Go.RowKit Go.Shelf

/-- How many slots. -/
def fsum (l : List (List Int)) : Nat := (l.map List.length).sum

theorem fsum_snoc (l : List (List Int)) (x : List Int) : fsum (l ++ [x]) = fsum l + x.length := by simp [fsum]

theorem take_snocL {α : Type} {l : List α} {k : Nat} {o : α} (h : l[k]? = some o) : l.take (k + 1) = l.take k ++ [o] := by
  rw [List.take_add_one, h]; rfl

theorem fsum_take (l : List (List Int)) (k : Nat) : fsum (l.take k) ≤ fsum l := by
  have h : fsum l = fsum (l.take k) + fsum (l.drop k) := by
    have h9 : ((l.take k ++ l.drop k).map List.length).sum = fsum (l.take k) + fsum (l.drop k) := by rw [List.map_append, List.sum_append]; rfl
    rw [List.take_append_drop] at h9
    exact h9
  omega

set_option maxHeartbeats 2000000 in
/-- Slots. -/
theorem gSlots_any (n0 : Nat) (v : Value) (fs : List (Value × List Int)) (w : World) (hv : Frd n0 w v fs) (hl : fs.length ≤ 4611686018427387904) (hs : fsum (fs.map (·.2)) ≤ 4611686018427387904) :
    Calls Tryd.prog 83 #[v] w fun e w' => e = .returned (.int .i64 (fsum (fs.map (·.2)))) ∧ w' = w := by
  have Hv : Hid (Frd n0 w v fs) := hv
  obtain ⟨a, cap, rfl, -⟩ := hv
  go_enter Tryd.func83, Tryd.ntmps83
  go_wp2
  go_loopw [3, 8] (fun v3 v8 wr => ∃ k : Nat, k ≤ fs.length ∧ v8 = .int .i64 k ∧ v3 = .int .i64 (fsum ((fs.map (·.2)).take k)) ∧ w = wr) (fun _ v8 _ => fs.length - (intOf v8).toNat)
  case atStart => exact ⟨0, Nat.zero_le _, rfl, rfl, rfl⟩
  case round =>
    obtain ⟨k, hk, rfl, rfl, rfl⟩ := hrel
    by_cases hkl : k < fs.length
    · have hki : (k : Int) < (fs.length : Int) := by omega
      have hz : fs[k]? = some (fs[k]'hkl) := List.getElem?_eq_getElem hkl
      generalize fs[k]'hkl = x at hz
      obtain ⟨a', cap', ea, hob⟩ := Hv.out
      cases ea
      obtain ⟨hp, q, off, rfl, hq, hc⟩ := hob k x hz
      obtain ⟨ap, cp, ep, -⟩ := hp
      rw [ep] at hc
      have e9 : fsum ((fs.map (·.2)).take (k + 1)) = fsum ((fs.map (·.2)).take k) + x.2.length := by
        rw [take_snocL (o := x.2) (by rw [List.getElem?_map, hz]; rfl), fsum_snoc]
      have hle := fsum_take (fs.map (·.2)) (k + 1)
      have hle2 : fsum ((fs.map (·.2)).take k) + x.2.length ≤ 4611686018427387904 := by omega
      have hwr : wrap64 ((fsum ((fs.map (·.2)).take k) : Int) + (x.2.length : Int)) = (fsum ((fs.map (·.2)).take k) : Int) + (x.2.length : Int) := by unfold wrap64; omega
      have He : Hid (fsum ((fs.map (·.2)).take (k + 1)) = fsum ((fs.map (·.2)).take k) + x.2.length) := e9
      clear e9 hle hob hz ep
      go_wp2
      go_roundw
      case rel =>
        exact ⟨k + 1, by omega, by go_num, by rw [He.out, Int.natCast_add], trivial⟩
      case measure => simp [intOf]; omega
    · have hki : ¬ (k : Int) < (fs.length : Int) := by omega
      have e9 : fsum ((fs.map (·.2)).take k) = fsum (fs.map (·.2)) := by rw [List.take_of_length_le (by simp; omega)]
      rw [e9]
      go_wp2
      go_ret
      exact ⟨rfl, rfl⟩

/-- What framesMayBe asks. -/
def fOk (n : Nat) (fs : List (List Int)) : Prop := ∀ f, f ∈ fs → 1 ≤ f.length ∧ allB 0 n f

set_option maxHeartbeats 2000000 in
/-- framesMayBe. -/
theorem gFrames_any (n0 n : Nat) (v : Value) (fs : List (Value × List Int)) (w : World) (hv : Frd n0 w v fs) (hn : n0 ≤ w.heap.size) (hl : fs.length ≤ 4611686018427387904) (hs : fsum (fs.map (·.2)) ≤ 4611686018427387904) :
    Calls Tryd.prog 84 #[v, .int .i64 n] w fun e w' => ∃ r : Bool, e = .returned (.bool r) ∧ Below w.heap.size w w' ∧ (r = true ↔ fOk n (fs.map (·.2))) := by
  have Hv : Hid (Frd n0 w v fs) := hv
  obtain ⟨a, cap, rfl, -⟩ := hv
  go_enter Tryd.func84, Tryd.ntmps84
  go_wp2
  go_loopw [9] (fun v9 wr => ∃ k : Nat, k ≤ fs.length ∧ v9 = .int .i64 k ∧ Hid (Below w.heap.size w wr) ∧ Hid (fOk n ((fs.map (·.2)).take k))) (fun v9 _ => fs.length - (intOf v9).toNat)
  case atStart => exact ⟨0, Nat.zero_le _, rfl, Below.refl _ _, (fun f hf => by simp at hf : fOk n ((fs.map (·.2)).take 0))⟩
  case round =>
    obtain ⟨k, hk, rfl, Hb, Hk⟩ := hrel
    by_cases hkl : k < fs.length
    · have hki : (k : Int) < (fs.length : Int) := by omega
      have hz : fs[k]? = some (fs[k]'hkl) := List.getElem?_eq_getElem hkl
      generalize fs[k]'hkl = x at hz
      obtain ⟨a', cap', ea, hob⟩ := Hv.out.below (Hb.out.mono hn)
      cases ea
      obtain ⟨hp, q, off, rfl, hq, hc⟩ := hob k x hz
      have hz2 : (fs.map (·.2))[k]? = some x.2 := by rw [List.getElem?_map, hz]; rfl
      have hlx : x.2.length ≤ 4611686018427387904 := by
        have h9 := fsum_take (fs.map (·.2)) (k + 1)
        rw [take_snocL hz2, fsum_snoc] at h9
        omega
      have hwi := gWithin_any 0 n n0 x.1 x.2 wr hp (Nat.le_trans hn Hb.out.size) hlx
      obtain ⟨ap, cp, ep, -⟩ := hp
      rw [ep] at hc hwi
      have Hz : Hid ((fs.map (·.2))[k]? = some x.2) := hz2
      clear hob hz ep hz2
      by_cases h0 : x.2.length < 1
      · have h0i : (x.2.length : Int) < 1 := by omega
        have Hn : Hid (¬ fOk n (fs.map (·.2))) := fun h9 => by
          have := (h9 x.2 (List.mem_of_getElem? Hz.out)).1
          omega
        clear hwi
        go_wp2
        go_ret
        exact ⟨false, rfl, Hb.out, by simpa using Hn.out⟩
      · have h0i : ¬ (x.2.length : Int) < 1 := by omega
        go_wp2_with fail
        refine hwi.mono ?_
        rintro e wD ⟨r, rfl, bD, hr⟩
        have HbD : Hid (Below w.heap.size w wD) := Hb.out.trans (bD.mono Hb.out.size)
        cases r with
        | true =>
          have Hn : Hid (fOk n ((fs.map (·.2)).take (k + 1))) := fun f hf => by
            rw [take_snocL Hz.out] at hf
            rcases List.mem_append.1 hf with h9 | h9
            · exact Hk.out f h9
            · simp at h9; rw [h9]; exact ⟨by omega, hr.1 rfl⟩
          clear hr hwi bD
          go_wp2
          go_roundw
          case rel => exact ⟨k + 1, by omega, by go_num, HbD, Hn⟩
          case measure => simp [intOf]; omega
        | false =>
          have Hn : Hid (¬ fOk n (fs.map (·.2))) := fun h9 => Bool.noConfusion (hr.2 (h9 x.2 (List.mem_of_getElem? Hz.out)).2)
          clear hr hwi bD
          go_wp2
          go_ret
          exact ⟨false, rfl, HbD.out, by simpa using Hn.out⟩
    · have hki : ¬ (k : Int) < (fs.length : Int) := by omega
      have Hn : Hid (fOk n (fs.map (·.2))) := by
        have h9 := Hk.out
        rw [List.take_of_length_le (by simp; omega)] at h9
        exact h9
      clear Hk
      go_wp2
      go_ret
      exact .inr ⟨rfl, Hb.out, Hn.out⟩

/-- What slotsMayBe asks. -/
structure SM (g : Im.Gr) : Prop where
  few : ∀ t, t ∈ g.slots → fsum t ≤ 4096
  ok : ∀ t, t ∈ g.slots → fOk g.obs.length t
  t0 : 1 ≤ g.slots.length
  t1 : g.slots.length ≤ 8

/-- Lengths of a graph's slots. -/
structure Sln (ts : List (Value × List (Value × List Int))) : Prop where
  t : ts.length ≤ 4611686018427387904
  f : ∀ x, x ∈ ts → x.2.length ≤ 4611686018427387904 ∧ fsum (x.2.map (·.2)) ≤ 4611686018427387904

set_option maxHeartbeats 4000000 in
/-- slotsMayBe. -/
theorem gSlotsM_any (n0 : Nat) (w : World) (vo vs vh vr vq : Value) (os : List OL) (ts : List (Value × List (Value × List Int))) (g : Im.Gr) (hg : Grd n0 w vo vs vh vr vq os ts g) (hn : n0 ≤ w.heap.size) (hs : Sln ts) :
    Calls Tryd.prog 55 #[.agg (gcs vo vs vh vr vq g.next)] w fun e w' => ∃ r : Bool, e = .returned (.bool r) ∧ Below w.heap.size w w' ∧ (r = true ↔ SM g) := by
  have l1 : Below w.heap.size w (w.alloc (.cells (gcs vo vs vh vr vq g.next) 29)) := Below.alloc (Below.refl _ _) (Nat.le_refl _) _
  have hy := fun j => cell_of_row _ _ j _ _ _ (heap_alloc_new w (.cells (gcs vo vs vh vr vq g.next) 29 (0, 0)))
  have y0 : (w.alloc (.cells (gcs vo vs vh vr vq g.next) 29)).cell? ⟨w.heap.size, 0, none⟩ = some vo := hy 0
  have y1 : (w.alloc (.cells (gcs vo vs vh vr vq g.next) 29)).cell? ⟨w.heap.size, 1, none⟩ = some vs := hy 1
  have Hg : Hid (Grd n0 w vo vs vh vr vq os ts g) := hg
  have Hs : Hid (Sln ts) := hs
  have hx := hg.ob
  obtain ⟨a, cap, rfl, -⟩ := hx
  have hx := hg.sl
  obtain ⟨b, bcap, rfl, -⟩ := hx
  have htl := hs.t
  have eol : g.obs.length = os.length := by rw [hg.eo, List.length_map]
  have esl : g.slots.length = ts.length := by rw [hg.es, List.length_map]
  clear hg hy hs
  generalize hw1 : w.alloc (.cells (gcs (.slice a os.length cap) (.slice b ts.length bcap) vh vr vq g.next) 29) = w1 at *
  have e1 : w1.heap.size = w.heap.size + 1 := by rw [← hw1]; simp
  have Heol : Hid (g.obs.length = os.length) := eol
  have Hesl : Hid (g.slots.length = ts.length) := esl
  clear eol esl
  go_enter Tryd.func55, Tryd.ntmps55
  go_wp2
  go_loopw [8] (fun v8 wr => ∃ k : Nat, k ≤ ts.length ∧ v8 = .int .i64 k ∧ Hid (Below w1.heap.size w1 wr) ∧ Hid (∀ t, t ∈ g.slots.take k → fsum t ≤ 4096 ∧ fOk g.obs.length t)) (fun v8 _ => ts.length - (intOf v8).toNat)
  case atStart => exact ⟨0, Nat.zero_le _, rfl, Below.refl _ _, (fun t ht => by simp at ht : ∀ t, t ∈ g.slots.take 0 → fsum t ≤ 4096 ∧ fOk g.obs.length t)⟩
  case round =>
    obtain ⟨k, hk, rfl, Hb, Hk⟩ := hrel
    have z0 : wr.cell? ⟨w.heap.size, 0, none⟩ = some (.slice a os.length cap) := (Hb.out.cell (p := ⟨w.heap.size, 0, none⟩) (by rw [e1]; exact Nat.lt_succ_self _)).trans y0
    have z1 : wr.cell? ⟨w.heap.size, 1, none⟩ = some (.slice b ts.length bcap) := (Hb.out.cell (p := ⟨w.heap.size, 1, none⟩) (by rw [e1]; exact Nat.lt_succ_self _)).trans y1
    have B1 : Hid (Below w.heap.size w wr) := l1.trans (Hb.out.mono l1.size)
    by_cases hkl : k < ts.length
    · have hki : (k : Int) < (ts.length : Int) := by omega
      have hz : ts[k]? = some (ts[k]'hkl) := List.getElem?_eq_getElem hkl
      generalize ts[k]'hkl = x at hz
      obtain ⟨a', cap', ea, hob⟩ := (Hg.out.below (B1.out.mono hn)).sl
      cases ea
      obtain ⟨hp, q, off, rfl, hq, hc⟩ := hob k x hz
      have Hz : Hid (g.slots[k]? = some (x.2.map (·.2))) := by rw [Hg.out.es, List.getElem?_map, hz]; rfl
      have hxs := Hs.out.f x (List.mem_of_getElem? hz)
      have hsu := gSlots_any n0 x.1 x.2 wr hp hxs.1 hxs.2
      have hfr := gFrames_any n0 os.length x.1 x.2 wr hp (Nat.le_trans hn B1.out.size) hxs.1 hxs.2
      obtain ⟨ap, cp, ep, -⟩ := hp
      rw [ep] at hc hsu hfr
      clear hob hz ep hxs
      by_cases h4 : fsum (x.2.map (·.2)) ≤ 4096
      · have h4i : ¬ (fsum (x.2.map (·.2)) : Int) > 4096 := by omega
        go_wp2_with fail
        refine hsu.mono ?_
        rintro e wD ⟨rfl, rfl⟩
        clear hsu
        go_wp2_with fail
        refine hfr.mono ?_
        rintro e wD ⟨r, rfl, bD, hr⟩
        have HbD : Hid (Below w1.heap.size w1 wD) := Hb.out.trans (bD.mono Hb.out.size)
        cases r with
        | true =>
          have Hn : Hid (∀ t, t ∈ g.slots.take (k + 1) → fsum t ≤ 4096 ∧ fOk g.obs.length t) := fun f hf => by
            rw [take_snocL Hz.out] at hf
            rcases List.mem_append.1 hf with h9 | h9
            · exact Hk.out f h9
            · simp at h9; rw [h9]; exact ⟨h4, by rw [Heol.out]; exact hr.1 rfl⟩
          clear hr hfr bD
          go_wp2
          go_roundw
          case rel => exact ⟨k + 1, by omega, by go_num, HbD, Hn⟩
          case measure => simp [intOf]; omega
        | false =>
          have Hn : Hid (¬ SM g) := fun h9 => Bool.noConfusion (hr.2 (by rw [← Heol.out]; exact h9.ok _ (List.mem_of_getElem? Hz.out)))
          clear hr hfr bD
          go_wp2
          go_ret
          exact ⟨false, rfl, l1.trans (HbD.out.mono l1.size), by simpa using Hn.out⟩
      · have h4i : (fsum (x.2.map (·.2)) : Int) > 4096 := by omega
        have Hn : Hid (¬ SM g) := fun h9 => h4 (h9.few _ (List.mem_of_getElem? Hz.out))
        clear hfr
        go_wp2_with fail
        refine hsu.mono ?_
        rintro e wD ⟨rfl, rfl⟩
        clear hsu
        go_wp2
        go_ret
        exact ⟨false, rfl, l1.trans (Hb.out.mono l1.size), by simpa using Hn.out⟩
    · have hki : ¬ (k : Int) < (ts.length : Int) := by omega
      have Hn : Hid (∀ t, t ∈ g.slots → fsum t ≤ 4096 ∧ fOk g.obs.length t) := by
        have h9 := Hk.out
        rw [List.take_of_length_le (by rw [Hesl.out]; omega)] at h9
        exact h9
      clear Hk
      by_cases h1 : 1 ≤ ts.length
      · have h1i : (ts.length : Int) ≥ 1 := by omega
        by_cases h8 : ts.length ≤ 8
        · have h8i : (ts.length : Int) ≤ 8 := by omega
          go_wp2
          go_ret
          exact .inr ⟨rfl, B1.out, fun t ht => (Hn.out t ht).1, fun t ht => (Hn.out t ht).2, by rw [Hesl.out]; exact h1, by rw [Hesl.out]; exact h8⟩
        · have h8i : ¬ (ts.length : Int) ≤ 8 := by omega
          go_wp2
          go_ret
          exact .inl ⟨rfl, B1.out, fun h9 => h8 (by have := h9.t1; rw [Hesl.out] at this; exact this)⟩
      · have h1i : ¬ (ts.length : Int) ≥ 1 := by omega
        go_wp2
        go_ret
        exact .inl ⟨rfl, B1.out, fun h9 => h1 (by have := h9.t0; rw [Hesl.out] at this; exact this)⟩

/-- What handlesMayBe asks. -/
structure HM (g : Im.Gr) : Prop where
  len : g.hs.length ≤ 1024
  all : allB (-1) g.obs.length g.hs

set_option maxHeartbeats 4000000 in
/-- handlesMayBe. -/
theorem gHandles_any (n0 : Nat) (w : World) (vo vs vh vr vq : Value) (os : List OL) (ts : List (Value × List (Value × List Int))) (g : Im.Gr) (hg : Grd n0 w vo vs vh vr vq os ts g) (hn : n0 ≤ w.heap.size) (hl : g.hs.length ≤ 4611686018427387904) :
    Calls Tryd.prog 56 #[.agg (gcs vo vs vh vr vq g.next)] w fun e w' => ∃ r : Bool, e = .returned (.bool r) ∧ Below w.heap.size w w' ∧ (r = true ↔ HM g) := by
  have l1 : Below w.heap.size w (w.alloc (.cells (gcs vo vs vh vr vq g.next) 29)) := Below.alloc (Below.refl _ _) (Nat.le_refl _) _
  have hy := fun j => cell_of_row _ _ j _ _ _ (heap_alloc_new w (.cells (gcs vo vs vh vr vq g.next) 29 (0, 0)))
  have y0 : (w.alloc (.cells (gcs vo vs vh vr vq g.next) 29)).cell? ⟨w.heap.size, 0, none⟩ = some vo := hy 0
  have y2 : (w.alloc (.cells (gcs vo vs vh vr vq g.next) 29)).cell? ⟨w.heap.size, 2, none⟩ = some vh := hy 2
  have hwi := gWithin_any (-1) os.length n0 vh g.hs _ (hg.hs.below (l1.mono hn)) (Nat.le_trans hn l1.size) hl
  have hx := hg.ob
  obtain ⟨a, cap, rfl, -⟩ := hx
  have hx := hg.hs
  obtain ⟨b, bcap, rfl, -⟩ := hx
  have Heol : Hid (g.obs.length = os.length) := by rw [hg.eo, List.length_map]; rfl
  clear hg hy
  go_enter Tryd.func56, Tryd.ntmps56
  by_cases hh : g.hs.length ≤ 1024
  · have hhi : (g.hs.length : Int) ≤ 1024 := by omega
    go_wp2_with fail
    refine hwi.mono ?_
    rintro e wD ⟨r, rfl, bD, hr⟩
    have BD : Hid (Below w.heap.size w wD) := l1.trans (bD.mono l1.size)
    clear bD hwi
    cases r with
    | true =>
      have Hr : Hid (allB (-1) os.length g.hs) := hr.1 rfl
      clear hr
      go_wp2
      go_ret
      exact ⟨true, rfl, BD.out, fun _ => ⟨hh, by rw [Heol.out]; exact Hr.out⟩, fun _ => rfl⟩
    | false =>
      have Hr : Hid (¬ allB (-1) os.length g.hs) := fun h9 => Bool.noConfusion (hr.2 h9)
      clear hr
      go_wp2
      go_ret
      exact ⟨false, rfl, BD.out, fun h9 => Bool.noConfusion h9, fun h9 => absurd (by rw [← Heol.out]; exact h9.all) Hr.out⟩
  · have hhi : ¬ (g.hs.length : Int) ≤ 1024 := by omega
    clear hwi
    go_wp2
    go_ret
    exact .inl ⟨rfl, l1, fun h9 => hh h9.len⟩

end Go.Proofs.YtblbiikfipcbcaaDoor
