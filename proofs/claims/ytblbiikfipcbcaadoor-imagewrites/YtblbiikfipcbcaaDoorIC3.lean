/-
  Images, the document's check: slots.
-/
import Derived.Test.YtblbiikfipcbcaaDoorIC2
set_option linter.unusedVariables false
set_option maxRecDepth 20000
namespace Go.Proofs.YtblbiikfipcbcaaDoor
open Go.RowKit Go.Shelf

/-- A thread's frames. -/
structure TM (n : Nat) (t : List (List Int)) : Prop where
  few : fsum t ≤ 4096
  ok : fOk n t

theorem TM.nil (n : Nat) : TM n [] := ⟨by simp [fsum], fun f hf => by simp at hf⟩

theorem TM.snoc {n k : Nat} {t : List (List Int)} {f : List Int} (hz : t[k]? = some f) (h : TM n (t.take k)) (h1 : 1 ≤ f.length) (h2 : fsum (t.take k) + f.length ≤ 4096) (h3 : allB 0 n f) : TM n (t.take (k + 1)) := by
  rw [take_snocL hz]
  refine ⟨by rw [fsum_snoc]; exact h2, fun x hx => ?_⟩
  rcases List.mem_append.1 hx with h9 | h9
  · exact h.ok x h9
  · simp at h9; rw [h9]; exact ⟨h1, h3⟩

structure SH (g : Im.Gr) : Prop where
  s : SM g
  h : HM g

theorem sm_tm {g : Im.Gr} (h : SM g) {t : List (List Int)} (ht : t ∈ g.slots) : TM g.obs.length t := ⟨h.few t ht, h.ok t ht⟩

set_option maxHeartbeats 8000000 in
/-- The document's slots. -/
theorem rSlots_any (n0 : Nat) (w : World) (vo vs vh vr vq : Value) (os : List OL) (ts : List (Value × List (Value × List Int))) (g : Im.Gr) (hg : Grd n0 w vo vs vh vr vq os ts g) (hn : n0 ≤ w.heap.size) (hol : os.length ≤ 1000000000000) (hs : Sln ts) (hhl : g.hs.length ≤ 1000000000000) :
    Calls Tryd.prog 35 #[.agg (gcs vo vs vh vr vq g.next)] w fun e w' => ∃ r : Bool, e = .returned (.bool r) ∧ Below w.heap.size w w' ∧ (r = true ↔ SH g) := by
  have l1 : Below w.heap.size w (w.alloc (.cells (gcs vo vs vh vr vq g.next) 29)) := Below.alloc (Below.refl _ _) (Nat.le_refl _) _
  have hy := fun j => cell_of_row _ _ j _ _ _ (heap_alloc_new w (.cells (gcs vo vs vh vr vq g.next) 29 (0, 0)))
  have y0 : (w.alloc (.cells (gcs vo vs vh vr vq g.next) 29)).cell? ⟨w.heap.size, 0, none⟩ = some vo := hy 0
  have y1 : (w.alloc (.cells (gcs vo vs vh vr vq g.next) 29)).cell? ⟨w.heap.size, 1, none⟩ = some vs := hy 1
  have y2 : (w.alloc (.cells (gcs vo vs vh vr vq g.next) 29)).cell? ⟨w.heap.size, 2, none⟩ = some vh := hy 2
  have hg1 := hg.below (l1.mono hn)
  have hbh := calls_same (rBetween_any (-1) os.length n0 vh g.hs _ hg1.hs (by omega))
  have Hg : Hid (Grd n0 (w.alloc (.cells (gcs vo vs vh vr vq g.next) 29)) vo vs vh vr vq os ts g) := hg1
  have Hs : Hid (Sln ts) := hs
  have hx := hg.ob
  obtain ⟨a, cap, rfl, -⟩ := hx
  have hx := hg.sl
  obtain ⟨b, bcap, rfl, -⟩ := hx
  have hx := hg.hs
  obtain ⟨ah, hcap, rfl, -⟩ := hx
  have htl := hs.t
  have Heol : Hid (g.obs.length = os.length) := by show _ = _; rw [hg.eo, List.length_map]
  have Hesl : Hid (g.slots.length = ts.length) := by show _ = _; rw [hg.es, List.length_map]
  have Hes : Hid (g.slots = ts.map (fun t => t.2.map (·.2))) := hg.es
  clear hg hy hg1 hs
  generalize hw1 : w.alloc (.cells (gcs (.slice a os.length cap) (.slice b ts.length bcap) (.slice ah g.hs.length hcap) vr vq g.next) 29) = w1 at *
  have e1 : w1.heap.size = w.heap.size + 1 := by rw [← hw1]; simp
  have hn1 : n0 ≤ w1.heap.size := by omega
  have HK : Hid (∀ w', Below w1.heap.size w1 w' → w'.cell? ⟨w.heap.size, 0, none⟩ = some (.slice a os.length cap) ∧ w'.cell? ⟨w.heap.size, 1, none⟩ = some (.slice b ts.length bcap)) := fun w' b' => by
    have hlt : w.heap.size < w1.heap.size := by omega
    exact ⟨(b'.cell (p := ⟨w.heap.size, 0, none⟩) hlt).trans y0, (b'.cell (p := ⟨w.heap.size, 1, none⟩) hlt).trans y1⟩
  go_enter Tryd.func35, Tryd.ntmps35
  by_cases p1 : ts.length < 1
  · have p1i : (ts.length : Int) < 1 := by omega
    have Hn : Hid (¬ SH g) := fun h => by have := h.s.t0; rw [Hesl.out] at this; omega
    clear hbh
    go_wp2
    go_ret
    first | exact ⟨false, rfl, l1, by simpa using Hn.out⟩ | exact .inl ⟨rfl, l1, Hn.out⟩
  have p1i : ¬ (ts.length : Int) < 1 := by omega
  by_cases p2 : ts.length > 8
  · have p2i : (ts.length : Int) > 8 := by omega
    have Hn : Hid (¬ SH g) := fun h => by have := h.s.t1; rw [Hesl.out] at this; omega
    clear hbh
    go_wp2
    go_ret
    first | exact ⟨false, rfl, l1, by simpa using Hn.out⟩ | exact .inl ⟨rfl, l1, Hn.out⟩
  have p2i : ¬ (ts.length : Int) > 8 := by omega
  by_cases p3 : g.hs.length > 1024
  · have p3i : (g.hs.length : Int) > 1024 := by omega
    have Hn : Hid (¬ SH g) := fun h => by have := h.h.len; omega
    clear hbh
    go_wp2
    go_ret
    first | exact ⟨false, rfl, l1, by simpa using Hn.out⟩ | exact .inl ⟨rfl, l1, Hn.out⟩
  have p3i : ¬ (g.hs.length : Int) > 1024 := by omega
  by_cases p4 : allB (-1) os.length g.hs
  case neg =>
    have hc := hbh.2 p4
    have Hn : Hid (¬ SH g) := fun h => p4 (by rw [← Heol.out]; exact h.h.all)
    clear hbh
    go_wp2_with fail
    refine hc.mono ?_
    rintro e wQ ⟨rfl, h9⟩
    rw [h9]
    clear hc h9 wQ
    go_wp2
    go_ret
    first | exact ⟨false, rfl, l1, by simpa using Hn.out⟩ | exact .inl ⟨rfl, l1, Hn.out⟩
  have hc := hbh.1 p4
  have HH : Hid (HM g) := ⟨by omega, by rw [Heol.out]; exact p4⟩
  have Hlen : Hid (1 ≤ g.slots.length ∧ g.slots.length ≤ 8) := by show _ ∧ _; rw [Hesl.out]; omega
  clear hbh
  go_wp2_with fail
  refine hc.mono ?_
  rintro e wQ ⟨rfl, h9⟩
  rw [h9]
  clear h9 wQ
  clear hc p1 p1i p2 p2i p3 p3i p4 y2
  go_wp2
  go_loopw [3] (fun v3 wr => ∃ k : Nat, k ≤ ts.length ∧ v3 = .int .i64 k ∧ Hid (Below w1.heap.size w1 wr) ∧ Hid (∀ t, t ∈ g.slots.take k → TM g.obs.length t)) (fun v3 _ => ts.length - (intOf v3).toNat)
  case atStart => exact ⟨0, Nat.zero_le _, rfl, Below.refl _ _, (fun t ht => by simp at ht : ∀ t, t ∈ g.slots.take 0 → TM g.obs.length t)⟩
  case round =>
    obtain ⟨k, hk, rfl, Hb, Hk⟩ := hrel
    obtain ⟨z0, z1⟩ := HK.out _ Hb.out
    by_cases hkl : k < ts.length
    · have hki : (k : Int) < (ts.length : Int) := by omega
      have hz : ts[k]? = some (ts[k]'hkl) := List.getElem?_eq_getElem hkl
      generalize ts[k]'hkl = x at hz
      obtain ⟨a', cap', ea, hob⟩ := (Hg.out.below (Hb.out.mono hn1)).sl
      cases ea
      obtain ⟨hp, q, off, rfl, hq, hc⟩ := hob k x hz
      have Hz : Hid (g.slots[k]? = some (x.2.map (·.2))) := by show _ = _; rw [Hes.out, List.getElem?_map, hz]; rfl
      have hxs := Hs.out.f x (List.mem_of_getElem? hz)
      have hxl := hxs.1
      have Hxs : Hid (fsum (x.2.map (·.2)) ≤ 4611686018427387904) := hxs.2
      have Hp : Hid (∀ w', Below w1.heap.size w1 w' → Frd n0 w' x.1 x.2 ∧ w'.cell? ⟨q, off + k, none⟩ = some x.1) := fun w' b' => by
        obtain ⟨_, _, eb, hob'⟩ := (Hg.out.below (b'.mono hn1)).sl
        obtain ⟨h1, _, _, h3, _, h4⟩ := hob' k x hz
        cases eb
        cases h3
        exact ⟨h1, h4⟩
      obtain ⟨ap, cp, ep, -⟩ := hp
      rw [ep] at hc Hp
      clear hob hz ep hxs
      go_wp2
      go_loopw [4, 5] (fun v4 v5 wr => ∃ f : Nat, f ≤ x.2.length ∧ v5 = .int .i64 f ∧ v4 = .int .i64 (fsum ((x.2.map (·.2)).take f)) ∧ Hid (Below w1.heap.size w1 wr) ∧ Hid (TM g.obs.length ((x.2.map (·.2)).take f))) (fun _ v5 _ => x.2.length - (intOf v5).toNat)
      case atStart => exact ⟨0, Nat.zero_le _, rfl, rfl, Hb, TM.nil _⟩
      case round =>
        obtain ⟨f, hf, rfl, rfl, Hb2, Hf⟩ := hrel
        clear z0 z1 hc
        obtain ⟨z0, z1⟩ := HK.out _ Hb2.out
        obtain ⟨hfr, hc⟩ := Hp.out _ Hb2.out
        have BW : Hid (Below w.heap.size w wr) := l1.trans (Hb2.out.mono l1.size)
        by_cases hfl : f < x.2.length
        · have hfi : (f : Int) < (x.2.length : Int) := by omega
          have hy : x.2[f]? = some (x.2[f]'hfl) := List.getElem?_eq_getElem hfl
          generalize x.2[f]'hfl = y at hy
          obtain ⟨a'', cap'', ea, hob⟩ := hfr
          cases ea
          obtain ⟨hpp, q', off', rfl, hq', hc'⟩ := hob f y hy
          have Hy : Hid ((x.2.map (·.2))[f]? = some y.2) := by show _ = _; rw [List.getElem?_map, hy]; rfl
          have e9 : fsum ((x.2.map (·.2)).take (f + 1)) = fsum ((x.2.map (·.2)).take f) + y.2.length := by rw [take_snocL Hy.out, fsum_snoc]
          have hle := fsum_take (x.2.map (·.2)) (f + 1)
          have hle2 : fsum ((x.2.map (·.2)).take f) + y.2.length ≤ 4611686018427387904 := by have := Hxs.out; omega
          have hyl : y.2.length ≤ 4611686018427387904 := Nat.le_trans (Nat.le_add_left _ _) hle2
          have hbt := fun (nn : Nat) => calls_same (rBetween_any 0 os.length n0 y.1 y.2 (wr.drewN nn) (hpp.below ⟨rfl, rfl, rfl, Nat.le_refl _, fun _ _ => rfl⟩) hyl)
          obtain ⟨ay, cy, ey, -⟩ := hpp
          rw [ey] at hc' hbt
          have He : Hid (fsum ((x.2.map (·.2)).take (f + 1)) = fsum ((x.2.map (·.2)).take f) + y.2.length) := e9
          clear e9 hle hob hy ey
          go_upto_region 12 with fail
          have Hmem : Hid ((x.2.map (·.2)) ∈ g.slots) := List.mem_of_getElem? Hz.out
          by_cases r1 : y.2.length < 1
          · have r1i : decide ((y.2.length : Int) < 1) = true := by simp; omega
            have Hn : Hid (¬ SH g) := fun h => by
              have := ((sm_tm h.s Hmem.out).ok y.2 (List.mem_of_getElem? Hy.out)).1
              omega
            clear hbt
            go_quiet (fail)
            go_wp2
            go_ret
            first | exact ⟨false, rfl, ⟨BW.out.os, BW.out.tape, BW.out.output, BW.out.size, BW.out.block⟩, by simpa using Hn.out⟩ | exact .inl ⟨rfl, ⟨BW.out.os, BW.out.tape, BW.out.output, BW.out.size, BW.out.block⟩, Hn.out⟩
          have r1i : decide ((y.2.length : Int) < 1) = false := by simp; omega
          by_cases r2 : fsum ((x.2.map (·.2)).take f) + y.2.length > 4096
          · have r2i : decide ((fsum ((x.2.map (·.2)).take f) : Int) + (y.2.length : Int) > 4096) = true := by simp; omega
            have Hn : Hid (¬ SH g) := fun h => by
              have h1 := (sm_tm h.s Hmem.out).few
              have h2 := fsum_take (x.2.map (·.2)) (f + 1)
              have h3 := He.out
              omega
            clear hbt
            go_quiet (fail)
            go_wp2
            go_ret
            first | exact ⟨false, rfl, ⟨BW.out.os, BW.out.tape, BW.out.output, BW.out.size, BW.out.block⟩, by simpa using Hn.out⟩ | exact .inl ⟨rfl, ⟨BW.out.os, BW.out.tape, BW.out.output, BW.out.size, BW.out.block⟩, Hn.out⟩
          have r2i : decide ((fsum ((x.2.map (·.2)).take f) : Int) + (y.2.length : Int) > 4096) = false := by simp; omega
          by_cases r3 : allB 0 os.length y.2
          · have Hc := fun nn => (hbt nn).1 r3
            have Hn : Hid (TM g.obs.length ((x.2.map (·.2)).take (f + 1))) := TM.snoc Hy.out Hf.out (by omega) (by omega) (by rw [Heol.out]; exact r3)
            clear hbt r3
            go_quiet ((go_at_call 73; exact Calls.quiet_of_same (Hc _)))
            clear Hc
            go_wp2
            go_roundw
            case rel => exact ⟨f + 1, by omega, by go_num, by rw [He.out, Int.natCast_add], ⟨Hb2.out.os, Hb2.out.tape, Hb2.out.output, Hb2.out.size, Hb2.out.block⟩, Hn⟩
            case measure => simp [intOf]; omega
          · have Hc := fun nn => (hbt nn).2 r3
            have Hn : Hid (¬ SH g) := fun h => r3 (by rw [← Heol.out]; exact ((sm_tm h.s Hmem.out).ok y.2 (List.mem_of_getElem? Hy.out)).2)
            clear hbt r3
            go_quiet ((go_at_call 73; exact Calls.quiet_of_same (Hc _)))
            clear Hc
            go_wp2
            go_ret
            first | exact ⟨false, rfl, ⟨BW.out.os, BW.out.tape, BW.out.output, BW.out.size, BW.out.block⟩, by simpa using Hn.out⟩ | exact .inl ⟨rfl, ⟨BW.out.os, BW.out.tape, BW.out.output, BW.out.size, BW.out.block⟩, Hn.out⟩
        · have hfi : ¬ (f : Int) < (x.2.length : Int) := by omega
          have Hn : Hid (∀ t, t ∈ g.slots.take (k + 1) → TM g.obs.length t) := fun t ht => by
            rw [take_snocL Hz.out] at ht
            rcases List.mem_append.1 ht with h9 | h9
            · exact Hk.out t h9
            · simp only [List.mem_singleton] at h9
              rw [h9]
              have h8 := Hf.out
              rw [List.take_of_length_le (by simp; omega)] at h8
              exact h8
          obtain ⟨a'', cap'', ea, -⟩ := hfr
          cases ea
          go_wp2
          go_roundw
          case rel => exact ⟨k + 1, by omega, by go_num, Hb2, Hn⟩
          case measure => simp [intOf]; omega
    · have hki : ¬ (k : Int) < (ts.length : Int) := by omega
      have Hy : Hid (SH g) := by
        have h9 := Hk.out
        rw [List.take_of_length_le (by rw [Hesl.out]; omega)] at h9
        exact ⟨⟨fun t ht => (h9 t ht).few, fun t ht => (h9 t ht).ok, Hlen.out.1, Hlen.out.2⟩, HH.out⟩
      go_wp2
      go_ret
      first | exact ⟨true, rfl, l1.trans (Hb.out.mono l1.size), by simpa using Hy.out⟩ | exact .inr ⟨rfl, l1.trans (Hb.out.mono l1.size), Hy.out⟩

end Go.Proofs.YtblbiikfipcbcaaDoor
