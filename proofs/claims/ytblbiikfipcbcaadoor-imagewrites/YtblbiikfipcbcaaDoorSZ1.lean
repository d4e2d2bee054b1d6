/-
  Images: is a graph small enough to be looked at?
-/
import Derived.Test.YtblbiikfipcbcaaDoorSG1
set_option linter.unusedVariables false
set_option maxRecDepth 20000
namespace Go.Proofs.YtblbiikfipcbcaaDoor
open Go.RowKit Go.Shelf

def osum (l : List OL) : Nat := (l.map (fun x => x.o.ps.length + x.o.rs.length)).sum
def tsum (l : List (Value × List (Value × List Int))) : Nat := (l.map (fun x => x.2.length + fsum (x.2.map (·.2)))).sum

theorem osum_snoc {l : List OL} {k : Nat} {x : OL} (h : l[k]? = some x) : osum (l.take (k + 1)) = osum (l.take k) + (x.o.ps.length + x.o.rs.length) := by
  unfold osum
  rw [take_snocL h, List.map_append, List.sum_append]
  simp
theorem tsum_snoc {l : List (Value × List (Value × List Int))} {k : Nat} {x : Value × List (Value × List Int)} (h : l[k]? = some x) : tsum (l.take (k + 1)) = tsum (l.take k) + (x.2.length + fsum (x.2.map (·.2))) := by
  unfold tsum
  rw [take_snocL h, List.map_append, List.sum_append]
  simp

/-- How long what comes in may be. -/
structure Inb (os : List OL) (ts : List (Value × List (Value × List Int))) (g : Im.Gr) : Prop where
  o : os.length ≤ 1000000000000000
  ol : ∀ x, x ∈ os → x.o.ps.length ≤ 1000000000000000 ∧ x.o.rs.length ≤ 1000000000000000
  t : ts.length ≤ 1000000000000000
  tl : ∀ x, x ∈ ts → x.2.length ≤ 1000000000000000 ∧ ∀ y, y ∈ x.2 → y.2.length ≤ 1000000000000000
  h : g.hs.length ≤ 1000000000000000
  r : g.rg.length ≤ 1000000000000000
  q : g.qu.length ≤ 1000000000000000

def szs (os : List OL) (ts : List (Value × List (Value × List Int))) (g : Im.Gr) : Nat := os.length + ts.length + g.hs.length + g.rg.length + g.qu.length

set_option maxHeartbeats 8000000 in
theorem small16_any (n0 : Nat) (w : World) (hn : n0 ≤ w.heap.size) (vo vs vh vr vq : Value) (os : List OL) (ts : List (Value × List (Value × List Int))) (g : Im.Gr) (hg : Grd n0 w vo vs vh vr vq os ts g) (hI : Inb os ts g) :
    Calls Tryd.prog 14 #[.agg (gcs vo vs vh vr vq g.next)] w fun e w' => ∃ r : Bool, e = .returned (.bool r) ∧ Below w.heap.size w w' ∧ (r = true → szs os ts g + osum os + tsum ts ≤ 16384) := by
  have HG : Hid (∀ w', Below w.heap.size w w' → Grd n0 w' vo vs vh vr vq os ts g) := fun w' b' => hg.below (b'.mono hn)
  have HI : Hid (Inb os ts g) := hI
  have ho := hI.o
  have ht := hI.t
  have hh := hI.h
  have hr := hI.r
  have hq := hI.q
  obtain ⟨a0, c0, rfl, -⟩ := hg.ob
  obtain ⟨a1, c1, rfl, -⟩ := hg.sl
  obtain ⟨a2, c2, rfl, -, -⟩ := hg.hs
  obtain ⟨a3, c3, rfl, -, -⟩ := hg.rg
  obtain ⟨a4, c4, rfl, -, -⟩ := hg.qu
  have l1 : Below w.heap.size w (w.alloc (.cells (gcs (.slice a0 os.length c0) (.slice a1 ts.length c1) (.slice a2 g.hs.length c2) (.slice a3 g.rg.length c3) (.slice a4 g.qu.length c4) g.next) 29)) := Below.alloc (Below.refl _ _) (Nat.le_refl _) _
  have hx := heap_alloc_new w (.cells (gcs (.slice a0 os.length c0) (.slice a1 ts.length c1) (.slice a2 g.hs.length c2) (.slice a3 g.rg.length c3) (.slice a4 g.qu.length c4) g.next) 29 (0, 0))
  have hWs : (w.alloc (.cells (gcs (.slice a0 os.length c0) (.slice a1 ts.length c1) (.slice a2 g.hs.length c2) (.slice a3 g.rg.length c3) (.slice a4 g.qu.length c4) g.next) 29)).heap.size = w.heap.size + 1 := by simp
  generalize hW : w.alloc (.cells (gcs (.slice a0 os.length c0) (.slice a1 ts.length c1) (.slice a2 g.hs.length c2) (.slice a3 g.rg.length c3) (.slice a4 g.qu.length c4) g.next) 29) = W at *
  have x0 : W.cell? ⟨w.heap.size, 0, none⟩ = some (.slice a0 os.length c0) := Kg.heap_cell hx 0
  have x1 : W.cell? ⟨w.heap.size, 1, none⟩ = some (.slice a1 ts.length c1) := Kg.heap_cell hx 1
  have x2 : W.cell? ⟨w.heap.size, 2, none⟩ = some (.slice a2 g.hs.length c2) := Kg.heap_cell hx 2
  have x3 : W.cell? ⟨w.heap.size, 3, none⟩ = some (.slice a3 g.rg.length c3) := Kg.heap_cell hx 3
  have x4 : W.cell? ⟨w.heap.size, 4, none⟩ = some (.slice a4 g.qu.length c4) := Kg.heap_cell hx 4
  have HB : Hid (Below w.heap.size w W) := l1
  have HK : Hid (∀ m, (W.drewN m).cell? ⟨w.heap.size, 0, none⟩ = some (.slice a0 os.length c0) ∧ (W.drewN m).cell? ⟨w.heap.size, 1, none⟩ = some (.slice a1 ts.length c1)) := fun m => ⟨x0, x1⟩
  clear hx l1 hg hI
  go_enter Tryd.func14, Tryd.ntmps14
  go_wp2
  obtain ⟨s0, hs0⟩ : ∃ s0, s0 = szs os ts g := ⟨_, rfl⟩
  have Hs0 : Hid (s0 = szs os ts g) := hs0
  have hs0b : s0 ≤ 5000000000000000 := by rw [hs0]; unfold szs; omega
  have ecast : ((os.length : Int) + ts.length + g.hs.length + g.rg.length + g.qu.length) = (s0 : Int) := by rw [hs0]; unfold szs; omega
  rw [ecast]
  clear hs0 ecast
  go_loopw [3, 4] (fun v3 v4 wr => ∃ (n k m : Nat), v3 = .int .i64 n ∧ v4 = .int .i64 k ∧ n ≤ 7000000000000000 ∧ k ≤ os.length ∧ Hid (n ≤ 16384 → n = s0 + osum (os.take k)) ∧ wr = W.drewN m) (fun _ v4 _ => os.length - (intOf v4).toNat)
  case atStart => exact ⟨s0, 0, 0, rfl, rfl, by omega, Nat.zero_le _, (fun _ => by simp [osum] : s0 ≤ 16384 → s0 = s0 + osum (os.take 0)), rfl⟩
  case round =>
    obtain ⟨n, k, m, rfl, rfl, hnb, hk, Hn, rfl⟩ := hrel
    by_cases hc : k < os.length ∧ n ≤ 16384
    · obtain ⟨hkl, hn16⟩ := hc
      have hki : (k : Int) < (os.length : Int) := by omega
      have hni : (n : Int) ≤ 16384 := by omega
      have hz : os[k]? = some (os[k]'hkl) := List.getElem?_eq_getElem hkl
      generalize os[k]'hkl = x at hz
      have hxl := HI.out.ol x (List.mem_of_getElem? hz)
      have hx1 := hxl.1
      have hx2 := hxl.2
      obtain ⟨_, _, ea, hob⟩ := (HG.out W HB.out).ob
      cases ea
      obtain ⟨hp, hr', q, off, rfl, -, hc'⟩ := hob k x hz
      have i3 : W.cell? ⟨q, off + k * 5 + 3, none⟩ = some x.vp := hc' 3 (by omega)
      have i4 : W.cell? ⟨q, off + k * 5 + 4, none⟩ = some x.vr := hc' 4 (by omega)
      obtain ⟨ap, cp, ep, -⟩ := hp
      obtain ⟨ar, cr, er, -⟩ := hr'
      rw [List.length_map] at er
      rw [ep] at i3
      rw [er] at i4
      have Hn2 : Hid (n + x.o.ps.length + x.o.rs.length ≤ 16384 → n + x.o.ps.length + x.o.rs.length = s0 + osum (os.take (k + 1))) := fun h9 => by
        have h8 := Hn.out (by omega)
        rw [osum_snoc hz]
        omega
      clear hob hc' hz ep er hxl
      go_upto_region 5 with fail
      go_quiet (fail)
      go_wp2
      go_roundw
      case rel => exact ⟨n + x.o.ps.length + x.o.rs.length, k + 1, m + nq, by go_num, by go_num, by omega, by omega, Hn2, rfl⟩
      case measure => simp [intOf]; omega
    · have Hex : Hid (n ≤ 16384 → n = s0 + osum os) := fun h9 => by
        have h8 := Hn.out h9
        rw [List.take_of_length_le (by omega)] at h8
        exact h8
      have hcd : (decide ((k : Int) < (os.length : Int)) && decide ((n : Int) ≤ 16384)) = false := by
        simp only [Bool.and_eq_false_iff, decide_eq_false_iff_not]
        omega
      obtain ⟨m', hm'⟩ : ∃ m', m' = m := ⟨_, rfl⟩
      subst hm'
      clear Hn
      by_cases hkl : k < os.length
      · have hki : (k : Int) < (os.length : Int) := by omega
        have hni : ¬ (n : Int) ≤ 16384 := by omega
        have hni2 : (n : Int) > 16384 := by omega
        have hnn : ¬ n ≤ 16384 := by omega
        clear hc hcd
        by_cases ht0 : 0 < ts.length
        · have ht0i : (0 : Int) < (ts.length : Int) := by omega
          go_wp2
          refine wp_loop_rounds 1 ?_
          rw [rounds_succ]
          go_wp2
          go_ret
          exact ⟨decide ((n : Int) ≤ 16384), rfl, Below.drewN' HB.out _, fun h9 => absurd (of_decide_eq_true h9) (by omega)⟩
        · have ht0i : ¬ (0 : Int) < (ts.length : Int) := by omega
          go_wp2
          refine wp_loop_rounds 1 ?_
          rw [rounds_succ]
          go_wp2
          go_ret
          exact ⟨decide ((n : Int) ≤ 16384), rfl, Below.drewN' HB.out _, fun h9 => absurd (of_decide_eq_true h9) (by omega)⟩
      · have hki : ¬ (k : Int) < (os.length : Int) := by omega
        clear hc hcd
        go_wp2
        go_loopw [3, 5] (fun v3 v5 wr => ∃ (n t m : Nat), v3 = .int .i64 n ∧ v5 = .int .i64 t ∧ n ≤ 8000000000000000 ∧ t ≤ ts.length ∧ Hid (n ≤ 16384 → n = s0 + osum os + tsum (ts.take t)) ∧ wr = W.drewN m) (fun _ v5 _ => ts.length - (intOf v5).toNat)
        case atStart => exact ⟨n, 0, m', rfl, rfl, by omega, Nat.zero_le _, (fun h9 => by have := Hex.out h9; simp [tsum]; omega : n ≤ 16384 → n = s0 + osum os + tsum (ts.take 0)), rfl⟩
        case round =>
          clear Hex hnb
          obtain ⟨n, t, m, rfl, rfl, hnb, htl, Hn, rfl⟩ := hrel
          by_cases hc : t < ts.length ∧ n ≤ 16384
          · obtain ⟨htt, hn16⟩ := hc
            have hti : (t : Int) < (ts.length : Int) := by omega
            have hni : (n : Int) ≤ 16384 := by omega
            have hz : ts[t]? = some (ts[t]'htt) := List.getElem?_eq_getElem htt
            generalize ts[t]'htt = x at hz
            have hxl := HI.out.tl x (List.mem_of_getElem? hz)
            have hx1 := hxl.1
            have Hx2 : Hid (∀ y, y ∈ x.2 → y.2.length ≤ 1000000000000000) := hxl.2
            obtain ⟨_, _, ea, hob⟩ := (HG.out W HB.out).sl
            cases ea
            obtain ⟨hp, q, off, rfl, -, ct⟩ := hob t x hz
            have Hp : Hid (Frd n0 W x.1 x.2) := hp
            obtain ⟨ap, cp, ep, -⟩ := hp
            rw [ep] at ct Hp
            have Hn2 : Hid (n + x.2.length ≤ 16384 → n + x.2.length = s0 + osum os + tsum (ts.take t) + x.2.length + fsum ((x.2.map (·.2)).take 0)) := fun h9 => by
              have h8 := Hn.out (by omega)
              simp [fsum]
              omega
            have Hts : Hid (tsum (ts.take (t + 1)) = tsum (ts.take t) + (x.2.length + fsum (x.2.map (·.2)))) := tsum_snoc hz
            clear hob hz ep hxl Hn
            go_wp2
            go_loopw [3, 6] (fun v3 v6 wr => ∃ (n2 f m2 : Nat), v3 = .int .i64 n2 ∧ v6 = .int .i64 f ∧ n2 ≤ 8000000000000000 ∧ f ≤ x.2.length ∧ Hid (n2 ≤ 16384 → n2 = s0 + osum os + tsum (ts.take t) + x.2.length + fsum ((x.2.map (·.2)).take f)) ∧ wr = W.drewN m2) (fun _ v6 _ => x.2.length - (intOf v6).toNat)
            case atStart => exact ⟨n + x.2.length, 0, m, by go_num, rfl, by omega, Nat.zero_le _, Hn2, rfl⟩
            case round =>
              obtain ⟨n2, f, m2, rfl, rfl, hn2b, hfl, Hf, rfl⟩ := hrel
              by_cases hc : f < x.2.length ∧ n2 ≤ 16384
              · obtain ⟨hff, hn216⟩ := hc
                have hfi : (f : Int) < (x.2.length : Int) := by omega
                have hn2i : (n2 : Int) ≤ 16384 := by omega
                have hy : x.2[f]? = some (x.2[f]'hff) := List.getElem?_eq_getElem hff
                generalize x.2[f]'hff = y at hy
                have hyl := Hx2.out y (List.mem_of_getElem? hy)
                obtain ⟨_, _, eb, hob⟩ := Hp.out
                cases eb
                obtain ⟨hl, q', off', rfl, -, cy⟩ := hob f y hy
                obtain ⟨ay, cy', ey, -⟩ := hl
                rw [ey] at cy
                have Hf2 : Hid (n2 + y.2.length ≤ 16384 → n2 + y.2.length = s0 + osum os + tsum (ts.take t) + x.2.length + fsum ((x.2.map (·.2)).take (f + 1))) := fun h9 => by
                  have h8 := Hf.out (by omega)
                  rw [take_snocL (o := y.2) (by rw [List.getElem?_map, hy]; rfl), fsum_snoc]
                  omega
                clear hob hy ey Hf
                go_wp2
                go_roundw
                case rel => exact ⟨n2 + y.2.length, f + 1, m2, by go_num, by go_num, by omega, by omega, Hf2, rfl⟩
                case measure => simp [intOf]; omega
              · have Hend : Hid (n2 ≤ 16384 → n2 = s0 + osum os + tsum (ts.take (t + 1))) := fun h9 => by
                  have h8 := Hf.out h9
                  have h7 := Hts.out
                  have e5 : (x.2.map (·.2)).take f = x.2.map (·.2) := List.take_of_length_le (by rw [List.length_map]; omega)
                  rw [e5] at h8
                  omega
                obtain ⟨_, _, eb, -⟩ := Hp.out
                cases eb
                clear Hf
                by_cases hff : f < x.2.length
                · have hfi : (f : Int) < (x.2.length : Int) := by omega
                  have hn2i : ¬ (n2 : Int) ≤ 16384 := by omega
                  clear hc
                  go_wp2
                  go_roundw
                  case rel => exact ⟨n2, t + 1, m2, rfl, by go_num, by omega, by omega, Hend, rfl⟩
                  case measure => simp [intOf]; omega
                · have hfi : ¬ (f : Int) < (x.2.length : Int) := by omega
                  clear hc
                  go_wp2
                  go_roundw
                  case rel => exact ⟨n2, t + 1, m2, rfl, by go_num, by omega, by omega, Hend, rfl⟩
                  case measure => simp [intOf]; omega
          · have Hend : Hid (n ≤ 16384 → szs os ts g + osum os + tsum ts ≤ 16384) := fun h9 => by
              have h8 := Hn.out h9
              rw [List.take_of_length_le (by omega)] at h8
              rw [← Hs0.out]
              omega
            clear Hn
            by_cases hn16 : n ≤ 16384
            · have hni : (n : Int) ≤ 16384 := by omega
              have hti : ¬ (t : Int) < (ts.length : Int) := by omega
              have Hy := Hend.out hn16
              have HY : Hid (szs os ts g + osum os + tsum ts ≤ 16384) := Hy
              clear hc Hy Hend
              go_wp2
              go_ret
              first | exact ⟨true, rfl, Below.drewN' HB.out _, fun _ => HY.out⟩ | exact .inr ⟨rfl, Below.drewN' HB.out _, HY.out⟩
            · have hni : ¬ (n : Int) ≤ 16384 := by omega
              clear hc Hend
              by_cases htt : t < ts.length
              · have hti : (t : Int) < (ts.length : Int) := by omega
                go_wp2
                go_ret
                first | exact ⟨false, rfl, Below.drewN' HB.out _, fun h9 => Bool.noConfusion h9⟩ | exact .inl ⟨rfl, Below.drewN' HB.out _⟩
              · have hti : ¬ (t : Int) < (ts.length : Int) := by omega
                go_wp2
                go_ret
                first | exact ⟨false, rfl, Below.drewN' HB.out _, fun h9 => Bool.noConfusion h9⟩ | exact .inl ⟨rfl, Below.drewN' HB.out _⟩

end Go.Proofs.YtblbiikfipcbcaaDoor
