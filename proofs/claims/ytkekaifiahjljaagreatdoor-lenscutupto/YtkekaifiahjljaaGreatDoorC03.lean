import Derived.Test.YtkekaifiahjljaaGreatDoorC02
import Derived.Maps.AppendAt
import Derived.Deep.Cut
set_option linter.unusedVariables false
set_option maxHeartbeats 8000000
set_option maxRecDepth 20000
namespace Go.Proofs.YtkekaifiahjljaaGreatDoor
open Go.RowKit Go.Shelf
def fsum (l : List (List Int)) : Nat := (l.map List.length).sum
theorem fsum_snoc (l : List (List Int)) (x : List Int) : fsum (l ++ [x]) = fsum l + x.length := by simp [fsum]
theorem take_snocL {α : Type} {l : List α} {k : Nat} {o : α} (h : l[k]? = some o) : l.take (k + 1) = l.take k ++ [o] := by
  rw [List.take_add_one, h]; rfl
theorem fsum_take (l : List (List Int)) (k : Nat) : fsum (l.take k) ≤ fsum l := by
  have h : fsum l = fsum (l.take k) + fsum (l.drop k) := by
    have h9 : ((l.take k ++ l.drop k).map List.length).sum = fsum (l.take k) + fsum (l.drop k) := by rw [List.map_append, List.sum_append]; rfl
    rw [List.take_append_drop] at h9
    exact h9
  omega
theorem gSlots_any (n0 : Nat) (v : Value) (fs : List (Value × List Int)) (w : World) (hv : Frd n0 w v fs) (hl : fs.length ≤ 4611686018427387904) (hs : fsum (fs.map (·.2)) ≤ 4611686018427387904) :
    Calls Tryz.prog 181 #[v] w fun e w' => e = .returned (.int .i64 (fsum (fs.map (·.2)))) ∧ w' = w := by
  have Hv : Hid (Frd n0 w v fs) := hv
  obtain ⟨a, cap, rfl, -⟩ := hv
  go_enter Tryz.func181, Tryz.ntmps181
  go_wp2
  go_loopw [3, 8] (fun v3 v8 wr => ∃ k : Nat, k ≤ fs.length ∧ v8 = .int .i64 k ∧ v3 = .int .i64 (fsum ((fs.map (·.2)).take k)) ∧ w = wr) (fun _ v8 _ => fs.length - (intOf v8).toNat)
  case atStart => exact ⟨0, Nat.zero_le _, rfl, rfl, rfl⟩
  case round =>
    obtain ⟨k, hk, rfl, rfl, rfl⟩ := hrel
    by_cases hkl : k < fs.length
    · have hki : (k : Int) < (fs.length : Int) := by omega
      have hz : fs[k]? = some (fs[k]'hkl) := List.getElem?_eq_getElem hkl
      generalize fs[k]'hkl = x at hz
      obtain ⟨a', cap', ea, hob⟩ := Hv.out
      cases ea
      obtain ⟨hp, q, off, rfl, hq, hc⟩ := hob k x hz
      obtain ⟨ap, cp, ep, -⟩ := hp
      rw [ep] at hc
      have e9 : fsum ((fs.map (·.2)).take (k + 1)) = fsum ((fs.map (·.2)).take k) + x.2.length := by
        rw [take_snocL (o := x.2) (by rw [List.getElem?_map, hz]; rfl), fsum_snoc]
      have hle := fsum_take (fs.map (·.2)) (k + 1)
      have hle2 : fsum ((fs.map (·.2)).take k) + x.2.length ≤ 4611686018427387904 := by omega
      have hwr : wrap64 ((fsum ((fs.map (·.2)).take k) : Int) + (x.2.length : Int)) = (fsum ((fs.map (·.2)).take k) : Int) + (x.2.length : Int) := by unfold wrap64; omega
      have He : Hid (fsum ((fs.map (·.2)).take (k + 1)) = fsum ((fs.map (·.2)).take k) + x.2.length) := e9
      clear e9 hle hob hz ep
      go_wp2
      go_roundw
      case rel =>
        exact ⟨k + 1, by omega, by go_num, by rw [He.out, Int.natCast_add], trivial⟩
      case measure => simp [intOf]; omega
    · have hki : ¬ (k : Int) < (fs.length : Int) := by omega
      have e9 : fsum ((fs.map (·.2)).take k) = fsum (fs.map (·.2)) := by rw [List.take_of_length_le (by simp; omega)]
      rw [e9]
      go_wp2
      go_ret
      exact ⟨rfl, rfl⟩
def fOk (n : Nat) (fs : List (List Int)) : Prop := ∀ f, f ∈ fs → 1 ≤ f.length ∧ allB 0 n f
theorem gFrames_any (n0 n : Nat) (v : Value) (fs : List (Value × List Int)) (w : World) (hv : Frd n0 w v fs) (hn : n0 ≤ w.heap.size) (hl : fs.length ≤ 4611686018427387904) (hs : fsum (fs.map (·.2)) ≤ 4611686018427387904) :
    Calls Tryz.prog 182 #[v, .int .i64 n] w fun e w' => ∃ r : Bool, e = .returned (.bool r) ∧ Below w.heap.size w w' ∧ (r = true ↔ fOk n (fs.map (·.2))) := by
  have Hv : Hid (Frd n0 w v fs) := hv
  obtain ⟨a, cap, rfl, -⟩ := hv
  go_enter Tryz.func182, Tryz.ntmps182
  go_wp2
  go_loopw [9] (fun v9 wr => ∃ k : Nat, k ≤ fs.length ∧ v9 = .int .i64 k ∧ Hid (Below w.heap.size w wr) ∧ Hid (fOk n ((fs.map (·.2)).take k))) (fun v9 _ => fs.length - (intOf v9).toNat)
  case atStart => exact ⟨0, Nat.zero_le _, rfl, Below.refl _ _, (fun f hf => by simp at hf : fOk n ((fs.map (·.2)).take 0))⟩
  case round =>
    obtain ⟨k, hk, rfl, Hb, Hk⟩ := hrel
    by_cases hkl : k < fs.length
    · have hki : (k : Int) < (fs.length : Int) := by omega
      have hz : fs[k]? = some (fs[k]'hkl) := List.getElem?_eq_getElem hkl
      generalize fs[k]'hkl = x at hz
      obtain ⟨a', cap', ea, hob⟩ := Hv.out.below (Hb.out.mono hn)
      cases ea
      obtain ⟨hp, q, off, rfl, hq, hc⟩ := hob k x hz
      have hz2 : (fs.map (·.2))[k]? = some x.2 := by rw [List.getElem?_map, hz]; rfl
      have hlx : x.2.length ≤ 4611686018427387904 := by
        have h9 := fsum_take (fs.map (·.2)) (k + 1)
        rw [take_snocL hz2, fsum_snoc] at h9
        omega
      have hwi := gWithin_any 0 n n0 x.1 x.2 wr hp (Nat.le_trans hn Hb.out.size) hlx
      obtain ⟨ap, cp, ep, -⟩ := hp
      rw [ep] at hc hwi
      have Hz : Hid ((fs.map (·.2))[k]? = some x.2) := hz2
      clear hob hz ep hz2
      by_cases h0 : x.2.length < 1
      · have h0i : (x.2.length : Int) < 1 := by omega
        have Hn : Hid (¬ fOk n (fs.map (·.2))) := fun h9 => by
          have := (h9 x.2 (List.mem_of_getElem? Hz.out)).1
          omega
        clear hwi
        go_wp2
        go_ret
        exact ⟨false, rfl, Hb.out, by simpa using Hn.out⟩
      · have h0i : ¬ (x.2.length : Int) < 1 := by omega
        go_wp2_with fail
        refine hwi.mono ?_
        rintro e wD ⟨r, rfl, bD, hr⟩
        have HbD : Hid (Below w.heap.size w wD) := Hb.out.trans (bD.mono Hb.out.size)
        cases r with
        | true =>
          have Hn : Hid (fOk n ((fs.map (·.2)).take (k + 1))) := fun f hf => by
            rw [take_snocL Hz.out] at hf
            rcases List.mem_append.1 hf with h9 | h9
            · exact Hk.out f h9
            · simp at h9; rw [h9]; exact ⟨by omega, hr.1 rfl⟩
          clear hr hwi bD
          go_wp2
          go_roundw
          case rel => exact ⟨k + 1, by omega, by go_num, HbD, Hn⟩
          case measure => simp [intOf]; omega
        | false =>
          have Hn : Hid (¬ fOk n (fs.map (·.2))) := fun h9 => Bool.noConfusion (hr.2 (h9 x.2 (List.mem_of_getElem? Hz.out)).2)
          clear hr hwi bD
          go_wp2
          go_ret
          exact ⟨false, rfl, HbD.out, by simpa using Hn.out⟩
    · have hki : ¬ (k : Int) < (fs.length : Int) := by omega
      have Hn : Hid (fOk n (fs.map (·.2))) := by
        have h9 := Hk.out
        rw [List.take_of_length_le (by simp; omega)] at h9
        exact h9
      clear Hk
      go_wp2
      go_ret
      exact .inr ⟨rfl, Hb.out, Hn.out⟩
structure SM (g : Im.Gr) : Prop where
  few : ∀ t, t ∈ g.slots → fsum t ≤ 4096
  ok : ∀ t, t ∈ g.slots → fOk g.obs.length t
  t0 : 1 ≤ g.slots.length
  t1 : g.slots.length ≤ 8
structure Sln (ts : List (Value × List (Value × List Int))) : Prop where
  t : ts.length ≤ 4611686018427387904
  f : ∀ x, x ∈ ts → x.2.length ≤ 4611686018427387904 ∧ fsum (x.2.map (·.2)) ≤ 4611686018427387904
theorem gSlotsM_any (n0 : Nat) (w : World) (vo vs vh vr vq : Value) (os : List OL) (ts : List (Value × List (Value × List Int))) (g : Im.Gr) (hg : Grd n0 w vo vs vh vr vq os ts g) (hn : n0 ≤ w.heap.size) (hs : Sln ts) :
    Calls Tryz.prog 153 #[.agg (gcs vo vs vh vr vq g.next)] w fun e w' => ∃ r : Bool, e = .returned (.bool r) ∧ Below w.heap.size w w' ∧ (r = true ↔ SM g) := by
  have l1 : Below w.heap.size w (w.alloc (.cells (gcs vo vs vh vr vq g.next) 27)) := Below.alloc (Below.refl _ _) (Nat.le_refl _) _
  have hy := fun j => cell_of_row _ _ j _ _ _ (heap_alloc_new w (.cells (gcs vo vs vh vr vq g.next) 27 (0, 0)))
  have y0 : (w.alloc (.cells (gcs vo vs vh vr vq g.next) 27)).cell? ⟨w.heap.size, 0, none⟩ = some vo := hy 0
  have y1 : (w.alloc (.cells (gcs vo vs vh vr vq g.next) 27)).cell? ⟨w.heap.size, 1, none⟩ = some vs := hy 1
  have Hg : Hid (Grd n0 w vo vs vh vr vq os ts g) := hg
  have Hs : Hid (Sln ts) := hs
  have hx := hg.ob
  obtain ⟨a, cap, rfl, -⟩ := hx
  have hx := hg.sl
  obtain ⟨b, bcap, rfl, -⟩ := hx
  have htl := hs.t
  have eol : g.obs.length = os.length := by rw [hg.eo, List.length_map]
  have esl : g.slots.length = ts.length := by rw [hg.es, List.length_map]
  clear hg hy hs
  generalize hw1 : w.alloc (.cells (gcs (.slice a os.length cap) (.slice b ts.length bcap) vh vr vq g.next) 27) = w1 at *
  have e1 : w1.heap.size = w.heap.size + 1 := by rw [← hw1]; simp
  have Heol : Hid (g.obs.length = os.length) := eol
  have Hesl : Hid (g.slots.length = ts.length) := esl
  clear eol esl
  go_enter Tryz.func153, Tryz.ntmps153
  go_wp2
  go_loopw [8] (fun v8 wr => ∃ k : Nat, k ≤ ts.length ∧ v8 = .int .i64 k ∧ Hid (Below w1.heap.size w1 wr) ∧ Hid (∀ t, t ∈ g.slots.take k → fsum t ≤ 4096 ∧ fOk g.obs.length t)) (fun v8 _ => ts.length - (intOf v8).toNat)
  case atStart => exact ⟨0, Nat.zero_le _, rfl, Below.refl _ _, (fun t ht => by simp at ht : ∀ t, t ∈ g.slots.take 0 → fsum t ≤ 4096 ∧ fOk g.obs.length t)⟩
  case round =>
    obtain ⟨k, hk, rfl, Hb, Hk⟩ := hrel
    have z0 : wr.cell? ⟨w.heap.size, 0, none⟩ = some (.slice a os.length cap) := (Hb.out.cell (p := ⟨w.heap.size, 0, none⟩) (by rw [e1]; exact Nat.lt_succ_self _)).trans y0
    have z1 : wr.cell? ⟨w.heap.size, 1, none⟩ = some (.slice b ts.length bcap) := (Hb.out.cell (p := ⟨w.heap.size, 1, none⟩) (by rw [e1]; exact Nat.lt_succ_self _)).trans y1
    have B1 : Hid (Below w.heap.size w wr) := l1.trans (Hb.out.mono l1.size)
    by_cases hkl : k < ts.length
    · have hki : (k : Int) < (ts.length : Int) := by omega
      have hz : ts[k]? = some (ts[k]'hkl) := List.getElem?_eq_getElem hkl
      generalize ts[k]'hkl = x at hz
      obtain ⟨a', cap', ea, hob⟩ := (Hg.out.below (B1.out.mono hn)).sl
      cases ea
      obtain ⟨hp, q, off, rfl, hq, hc⟩ := hob k x hz
      have Hz : Hid (g.slots[k]? = some (x.2.map (·.2))) := by rw [Hg.out.es, List.getElem?_map, hz]; rfl
      have hxs := Hs.out.f x (List.mem_of_getElem? hz)
      have hsu := gSlots_any n0 x.1 x.2 wr hp hxs.1 hxs.2
      have hfr := gFrames_any n0 os.length x.1 x.2 wr hp (Nat.le_trans hn B1.out.size) hxs.1 hxs.2
      obtain ⟨ap, cp, ep, -⟩ := hp
      rw [ep] at hc hsu hfr
      clear hob hz ep hxs
      by_cases h4 : fsum (x.2.map (·.2)) ≤ 4096
      · have h4i : ¬ (fsum (x.2.map (·.2)) : Int) > 4096 := by omega
        go_wp2_with fail
        refine hsu.mono ?_
        rintro e wD ⟨rfl, rfl⟩
        clear hsu
        go_wp2_with fail
        refine hfr.mono ?_
        rintro e wD ⟨r, rfl, bD, hr⟩
        have HbD : Hid (Below w1.heap.size w1 wD) := Hb.out.trans (bD.mono Hb.out.size)
        cases r with
        | true =>
          have Hn : Hid (∀ t, t ∈ g.slots.take (k + 1) → fsum t ≤ 4096 ∧ fOk g.obs.length t) := fun f hf => by
            rw [take_snocL Hz.out] at hf
            rcases List.mem_append.1 hf with h9 | h9
            · exact Hk.out f h9
            · simp at h9; rw [h9]; exact ⟨h4, by rw [Heol.out]; exact hr.1 rfl⟩
          clear hr hfr bD
          go_wp2
          go_roundw
          case rel => exact ⟨k + 1, by omega, by go_num, HbD, Hn⟩
          case measure => simp [intOf]; omega
        | false =>
          have Hn : Hid (¬ SM g) := fun h9 => Bool.noConfusion (hr.2 (by rw [← Heol.out]; exact h9.ok _ (List.mem_of_getElem? Hz.out)))
          clear hr hfr bD
          go_wp2
          go_ret
          exact ⟨false, rfl, l1.trans (HbD.out.mono l1.size), by simpa using Hn.out⟩
      · have h4i : (fsum (x.2.map (·.2)) : Int) > 4096 := by omega
        have Hn : Hid (¬ SM g) := fun h9 => h4 (h9.few _ (List.mem_of_getElem? Hz.out))
        clear hfr
        go_wp2_with fail
        refine hsu.mono ?_
        rintro e wD ⟨rfl, rfl⟩
        clear hsu
        go_wp2
        go_ret
        exact ⟨false, rfl, l1.trans (Hb.out.mono l1.size), by simpa using Hn.out⟩
    · have hki : ¬ (k : Int) < (ts.length : Int) := by omega
      have Hn : Hid (∀ t, t ∈ g.slots → fsum t ≤ 4096 ∧ fOk g.obs.length t) := by
        have h9 := Hk.out
        rw [List.take_of_length_le (by rw [Hesl.out]; omega)] at h9
        exact h9
      clear Hk
      by_cases h1 : 1 ≤ ts.length
      · have h1i : (ts.length : Int) ≥ 1 := by omega
        by_cases h8 : ts.length ≤ 8
        · have h8i : (ts.length : Int) ≤ 8 := by omega
          go_wp2
          go_ret
          exact .inr ⟨rfl, B1.out, fun t ht => (Hn.out t ht).1, fun t ht => (Hn.out t ht).2, by rw [Hesl.out]; exact h1, by rw [Hesl.out]; exact h8⟩
        · have h8i : ¬ (ts.length : Int) ≤ 8 := by omega
          go_wp2
          go_ret
          exact .inl ⟨rfl, B1.out, fun h9 => h8 (by have := h9.t1; rw [Hesl.out] at this; exact this)⟩
      · have h1i : ¬ (ts.length : Int) ≥ 1 := by omega
        go_wp2
        go_ret
        exact .inl ⟨rfl, B1.out, fun h9 => h1 (by have := h9.t0; rw [Hesl.out] at this; exact this)⟩
structure HM (g : Im.Gr) : Prop where
  len : g.hs.length ≤ 1024
  all : allB (-1) g.obs.length g.hs
theorem gHandles_any (n0 : Nat) (w : World) (vo vs vh vr vq : Value) (os : List OL) (ts : List (Value × List (Value × List Int))) (g : Im.Gr) (hg : Grd n0 w vo vs vh vr vq os ts g) (hn : n0 ≤ w.heap.size) (hl : g.hs.length ≤ 4611686018427387904) :
    Calls Tryz.prog 154 #[.agg (gcs vo vs vh vr vq g.next)] w fun e w' => ∃ r : Bool, e = .returned (.bool r) ∧ Below w.heap.size w w' ∧ (r = true ↔ HM g) := by
  have l1 : Below w.heap.size w (w.alloc (.cells (gcs vo vs vh vr vq g.next) 27)) := Below.alloc (Below.refl _ _) (Nat.le_refl _) _
  have hy := fun j => cell_of_row _ _ j _ _ _ (heap_alloc_new w (.cells (gcs vo vs vh vr vq g.next) 27 (0, 0)))
  have y0 : (w.alloc (.cells (gcs vo vs vh vr vq g.next) 27)).cell? ⟨w.heap.size, 0, none⟩ = some vo := hy 0
  have y2 : (w.alloc (.cells (gcs vo vs vh vr vq g.next) 27)).cell? ⟨w.heap.size, 2, none⟩ = some vh := hy 2
  have hwi := gWithin_any (-1) os.length n0 vh g.hs _ (hg.hs.below (l1.mono hn)) (Nat.le_trans hn l1.size) hl
  have hx := hg.ob
  obtain ⟨a, cap, rfl, -⟩ := hx
  have hx := hg.hs
  obtain ⟨b, bcap, rfl, -⟩ := hx
  have Heol : Hid (g.obs.length = os.length) := by rw [hg.eo, List.length_map]; rfl
  clear hg hy
  go_enter Tryz.func154, Tryz.ntmps154
  by_cases hh : g.hs.length ≤ 1024
  · have hhi : (g.hs.length : Int) ≤ 1024 := by omega
    go_wp2_with fail
    refine hwi.mono ?_
    rintro e wD ⟨r, rfl, bD, hr⟩
    have BD : Hid (Below w.heap.size w wD) := l1.trans (bD.mono l1.size)
    clear bD hwi
    cases r with
    | true =>
      have Hr : Hid (allB (-1) os.length g.hs) := hr.1 rfl
      clear hr
      go_wp2
      go_ret
      exact ⟨true, rfl, BD.out, fun _ => ⟨hh, by rw [Heol.out]; exact Hr.out⟩, fun _ => rfl⟩
    | false =>
      have Hr : Hid (¬ allB (-1) os.length g.hs) := fun h9 => Bool.noConfusion (hr.2 h9)
      clear hr
      go_wp2
      go_ret
      exact ⟨false, rfl, BD.out, fun h9 => Bool.noConfusion h9, fun h9 => absurd (by rw [← Heol.out]; exact h9.all) Hr.out⟩
  · have hhi : ¬ (g.hs.length : Int) ≤ 1024 := by omega
    clear hwi
    go_wp2
    go_ret
    exact .inl ⟨rfl, l1, fun h9 => hh h9.len⟩
theorem slEqual_any (n0 : Nat) (va vb : Value) (xs ys : List Int) (w : World) (ha : Lrd n0 w va .i64 xs) (hb : Lrd n0 w vb .i64 ys) (hx : xs.length < 9223372036854775807) :
    Calls Tryz.prog 183 #[va, vb] w fun e w' => e = .returned (.bool (decide (xs = ys))) ∧ ∃ nq, w' = w.drewN nq := by
  obtain ⟨a, ca, rfl, -, ha'⟩ := ha
  obtain ⟨b, cb, rfl, -, hb'⟩ := hb
  by_cases hl : xs.length = ys.length
  · have h1 : ((xs.length : Int) == (ys.length : Int)) = true := by simp [hl]
    have Hl : Hid (xs.length = ys.length) := hl
    have Ha : Hid (∀ (f : Nat) z, xs[f]? = some z → ∃ q off, a = some ⟨q, off, none⟩ ∧ q < n0 ∧ w.cell? ⟨q, off + f, none⟩ = some (.int .i64 z)) := ha'
    have Hb : Hid (∀ (f : Nat) z, ys[f]? = some z → ∃ q off, b = some ⟨q, off, none⟩ ∧ q < n0 ∧ w.cell? ⟨q, off + f, none⟩ = some (.int .i64 z)) := hb'
    clear ha' hb' hl
    go_enter Tryz.func183, Tryz.ntmps183
    go_wp2
    go_loopw [13] (fun i wr => ∃ (k q : Nat), k ≤ xs.length ∧ i = .int .i64 k ∧ wr = w.drewN q ∧ Hid (xs.take k = ys.take k)) (fun i _ => xs.length - (intOf i).toNat)
    case atStart => exact ⟨0, 0, Nat.zero_le _, rfl, rfl, by show xs.take 0 = ys.take 0; simp⟩
    case round =>
      obtain ⟨k, q, hk, rfl, rfl, hp⟩ := hrel
      by_cases hlt : k < xs.length
      · obtain ⟨x, hx1⟩ : ∃ x, xs[k]? = some x := ⟨_, List.getElem?_eq_getElem hlt⟩
        obtain ⟨y, hy1⟩ : ∃ y, ys[k]? = some y := ⟨_, List.getElem?_eq_getElem (by have := Hl.out; omega)⟩
        obtain ⟨g1, o1, e1, -, c1⟩ := Ha.out k x hx1
        obtain ⟨g2, o2, e2, -, c2⟩ := Hb.out k y hy1
        subst e1 e2
        have hki : (k : Int) < (xs.length : Int) := by omega
        have hki2 : (k : Int) < (ys.length : Int) := by have := Hl.out; omega
        by_cases e : x = y
        · subst e
          have hp2 : Hid (xs.take (k + 1) = ys.take (k + 1)) := by show xs.take (k + 1) = ys.take (k + 1); rw [take_snocL hx1, take_snocL hy1, hp.out]
          clear hx1 hy1
          go_wp2
          go_quiet (fail)
          go_wp2
          go_roundw
          case rel => exact ⟨k + 1, _, hlt, by go_num, rfl, hp2⟩
          case measure => simp [intOf]; omega
        · have h2 : (x == y) = false := by simpa using e
          have hd : Hid (decide (xs = ys) = false) := by
            show decide (xs = ys) = false
            rw [decide_eq_false]
            rintro rfl
            rw [hx1] at hy1
            exact e (by simpa using hy1)
          clear hx1 hy1
          go_wp2
          go_quiet (fail)
          go_wp2
          go_ret
          exact ⟨by rw [hd.out]; rfl, q + nq, World.drewN_drewN _ _ _⟩
      · obtain rfl : k = xs.length := by omega
        have hki : ¬ (xs.length : Int) < (xs.length : Int) := by omega
        have hd : Hid (decide (xs = ys) = true) := by
          show decide (xs = ys) = true
          rw [decide_eq_true]
          have h3 := hp.out
          rw [List.take_length, Hl.out, List.take_length] at h3
          exact h3
        go_wp2
        go_ret
        exact ⟨by rw [hd.out]; rfl, q, rfl⟩
  · have h1 : ((xs.length : Int) == (ys.length : Int)) = false := by simp; omega
    have hd : Hid (decide (xs = ys) = false) := by
      show decide (xs = ys) = false
      rw [decide_eq_false]
      rintro rfl
      exact hl rfl
    go_enter Tryz.func183, Tryz.ntmps183
    go_wp2
    go_ret
    exact ⟨by rw [hd.out]; rfl, 0, rfl⟩
theorem own_slI {w : World} {base n e size : Nat} {v : Value} {xs : List Value} (h : w.ownsRow base e size v n xs) : ∃ a cap, v = .slice a n cap := by
  rcases h.2 with ⟨rfl, rfl⟩ | ⟨g, cap, cur, rfl, _⟩
  · exact ⟨_, _, rfl⟩
  · exact ⟨_, _, rfl⟩
theorem fins_snoc (l : List Im.Ob) (o : Im.Ob) : Im.fins (l ++ [o]) = Im.fins l ++ (if o.kind = 4 then [((l.length : Nat) : Int) + 1] else []) := by
  have h := Im.finsFrom_snoc l 0 o
  rw [Nat.zero_add] at h
  exact h
theorem fins_len (l : List Im.Ob) : (Im.fins l).length ≤ l.length := by
  have : ∀ (l : List Im.Ob) (i : Nat), (Im.finsFrom i l).length ≤ l.length := by
    intro l
    induction l with
    | nil => intro i; simp [Im.finsFrom]
    | cons x r ih =>
      intro i
      simp only [Im.finsFrom]
      have := ih (i + 1)
      split <;> simp <;> omega
  exact this l 0
theorem gFinals_any (n0 : Nat) (w : World) (vo : Value) (os : List OL) (ho : Ord n0 w vo os) (hn : n0 ≤ w.heap.size) (hol : os.length ≤ 1000000000000) (hkd : ∀ x, x ∈ os → InI x.o.kind) :
    Calls Tryz.prog 184 #[vo] w fun e w' => ∃ v, e = .returned v ∧ Below w.heap.size w w' ∧ w'.ownsRow w.heap.size 3 1 v (Im.fins (os.map (·.o))).length (Kg.ints (Im.fins (os.map (·.o)))) := by
  obtain ⟨i0, hi0, hj0, hj1, hj2⟩ := info_parts Kg.Tryz.infoInt
  have HI : Hid (Tryz.prog.info? 3 = some i0 ∧ i0.zero = some (.int .i64 0) ∧ i0.size = 1 ∧ i0.bytes = 8) := ⟨hi0, hj0, hj1, hj2⟩
  clear hi0 hj0 hj1 hj2
  have Ho : Hid (Ord n0 w vo os) := ho
  have Hkd : Hid (∀ x, x ∈ os → InI x.o.kind) := hkd
  obtain ⟨a, cap, rfl, -⟩ := ho
  clear hkd
  go_enter Tryz.func184, Tryz.ntmps184
  go_wp2
  go_loopw [3, 8] (fun v3 v8 wr => ∃ k : Nat, k ≤ os.length ∧ v8 = .int .i64 k ∧ Hid (wr.ownsRow w.heap.size 3 1 v3 (Im.fins ((os.map (·.o)).take k)).length (Kg.ints (Im.fins ((os.map (·.o)).take k)))) ∧ Hid (Below w.heap.size w wr)) (fun _ v8 _ => os.length - (intOf v8).toNat)
  case atStart => exact ⟨0, Nat.zero_le _, rfl, World.ownsRow_nil _ _ _ _, Below.refl _ _⟩
  case round =>
    obtain ⟨k, hk, rfl, Hl, Hb⟩ := hrel
    obtain ⟨al, cl, hvl⟩ := own_slI Hl.out
    subst hvl
    by_cases hkl : k < os.length
    · have hki : (k : Int) < (os.length : Int) := by omega
      have hz : os[k]? = some (os[k]'hkl) := List.getElem?_eq_getElem hkl
      generalize os[k]'hkl = x at hz
      obtain ⟨a', cap', ea, hob⟩ := Ho.out.below (Hb.out.mono hn)
      cases ea
      obtain ⟨hp, hr, q, off, rfl, hq, hc⟩ := hob k x hz
      have c0 : wr.cell? ⟨q, off + k * 5, none⟩ = some (.int .u64 x.o.ser) := hc 0 (by omega)
      have c1 : wr.cell? ⟨q, off + k * 5 + 1, none⟩ = some (.int .i64 x.o.kind) := hc 1 (by omega)
      have c2 : wr.cell? ⟨q, off + k * 5 + 2, none⟩ = some (.int .i64 x.o.site) := hc 2 (by omega)
      have c3 : wr.cell? ⟨q, off + k * 5 + 3, none⟩ = some x.vp := hc 3 (by omega)
      have c4 : wr.cell? ⟨q, off + k * 5 + 4, none⟩ = some x.vr := hc 4 (by omega)
      obtain ⟨ap, cp, ep, -⟩ := hp
      obtain ⟨ar, cr, er, -⟩ := hr
      rw [ep] at c3
      rw [er] at c4
      have Hz : Hid ((os.map (·.o))[k]? = some x.o) := by rw [List.getElem?_map, hz]; rfl
      clear hob hc hz ep er
      have Hfl : Hid ((Im.fins ((os.map (·.o)).take k)).length ≤ 1000000000000) := by
        have h3 := fins_len ((os.map (·.o)).take k)
        rw [List.length_take, List.length_map] at h3
        show _ ≤ _
        omega
      by_cases h4 : x.o.kind = 4
      · have h4b : (x.o.kind == 4) = true := by simp [h4]
        have He : Hid (Im.fins ((os.map (·.o)).take (k + 1)) = Im.fins ((os.map (·.o)).take k) ++ [(k : Int) + 1]) := by
          have h3 : ((os.map (·.o)).take k).length = k := by rw [List.length_take, List.length_map]; omega
          rw [take_snocL Hz.out, fins_snoc, if_pos h4, h3]; rfl
        go_upto_region 5 with fail
        have lA : Below wr.heap.size wr (wr.alloc (.cells (ocs x.o.ser 4 x.o.site (.slice ap x.o.ps.length cp) (.slice ar x.o.rs.length cr)) 39)) := Below.alloc (Below.refl _ _) (Nat.le_refl _) _
        have hA : (wr.alloc (.cells (ocs x.o.ser 4 x.o.site (.slice ap x.o.ps.length cp) (.slice ar x.o.rs.length cr)) 39)).cell? ⟨wr.heap.size, 1, none⟩ = some (.int .i64 4) := cell_of_row _ _ 1 _ _ _ (heap_alloc_new wr (.cells (ocs x.o.ser 4 x.o.site (.slice ap x.o.ps.length cp) (.slice ar x.o.rs.length cr)) 39 (0, 0)))
        have HlA : Hid ((wr.alloc (.cells (ocs x.o.ser 4 x.o.site (.slice ap x.o.ps.length cp) (.slice ar x.o.rs.length cr)) 39)).ownsRow w.heap.size 3 1 (.slice al (Im.fins ((os.map (·.o)).take k)).length cl) (Im.fins ((os.map (·.o)).take k)).length (Kg.ints (Im.fins ((os.map (·.o)).take k)))) := Hl.out.alloc _
        have HbA : Hid (Below w.heap.size w (wr.alloc (.cells (ocs x.o.ser 4 x.o.site (.slice ap x.o.ps.length cp) (.slice ar x.o.rs.length cr)) 39))) := Hb.out.alloc Hb.out.size _
        rw [show (#[.int .u64 x.o.ser, .int .i64 4, .int .i64 x.o.site, .slice ap x.o.ps.length cp, .slice ar x.o.rs.length cr] : Array Value) = ocs x.o.ser 4 x.o.site (.slice ap x.o.ps.length cp) (.slice ar x.o.rs.length cr) from rfl]
        generalize wr.alloc (.cells (ocs x.o.ser 4 x.o.site (.slice ap x.o.ps.length cp) (.slice ar x.o.rs.length cr)) 39) = wA at *
        clear lA c0 c1 c2 c3 c4
        go_wp2_with (at_builtin; refine wpList_append_own_at _ rfl _ _ 24 rfl w.heap.size 3 i0 (.int .i64 0) 1 8 Tryz.underlying24 HI.out.1 HI.out.2.1 HI.out.2.2.1 HI.out.2.2.2 rfl (by decide) _ _ _ rfl (HlA.out.alloc _) ⟨wA.heap.size, 0, none⟩ 1 1 [.int .i64 ((k : Int) + 1)] rfl rfl (cell_one_new _ _ _) (by simp [Value.oneCell']) (by have := Hfl.out; simp [maxLen]; omega) (by have := Hfl.out; omega) (by have := HbA.out.size; simp; omega) ?_; intro v' w8 hown' hgrow _ hat)
        have t8 : Kg.Touch (Value.slice al (Im.fins ((os.map (·.o)).take k)).length cl).ownBlock.toList wA w8 := ⟨hgrow.os, hgrow.tape, hgrow.output, by have := hgrow.size; simp at this; omega, fun k hk hn => (hgrow.block k (by simp; omega) (fun e => hn (by rw [Option.mem_toList]; exact e.symm))).trans (Below.heap_alloc _ _ _ hk)⟩
        have Hl8 : Hid (w8.ownsRow w.heap.size 3 1 v' (Im.fins ((os.map (·.o)).take (k + 1))).length (Kg.ints (Im.fins ((os.map (·.o)).take (k + 1))))) := by
          show w8.ownsRow _ _ _ _ _ _
          rw [He.out]
          simpa [Kg.ints] using hown'
        have Hb8 : Hid (Below w.heap.size w w8) := HbA.out.trans (t8.below HbA.out.size (fun y hy => by rw [Option.mem_toList] at hy; exact (HlA.out.lt y hy).1))
        obtain ⟨a9, c9, hv9⟩ := own_slI Hl8.out
        subst hv9
        clear hown' hgrow hat t8 Hl Hb HlA HbA
        go_wp2
        go_roundw
        case rel => exact ⟨k + 1, by omega, by go_num, Hl8, Hb8⟩
        case measure => simp [intOf]; omega
      · have h4b : (x.o.kind == 4) = false := by simp [h4]
        have He : Hid (Im.fins ((os.map (·.o)).take (k + 1)) = Im.fins ((os.map (·.o)).take k)) := by
          rw [take_snocL Hz.out, fins_snoc, if_neg h4, List.append_nil]; rfl
        go_wp2
        go_roundw
        case rel => exact ⟨k + 1, by omega, by go_num, by rw [He.out]; exact Hl.out.alloc _, Hb.out.alloc Hb.out.size _⟩
        case measure => simp [intOf]; omega
    · have hki : ¬ (k : Int) < (os.length : Int) := by omega
      have e9 : (os.map (·.o)).take k = os.map (·.o) := List.take_of_length_le (by simp; omega)
      rw [e9] at Hl
      go_wp2
      go_ret
      exact ⟨_, rfl, Hb.out, Hl.out⟩
end Go.Proofs.YtkekaifiahjljaaGreatDoor
