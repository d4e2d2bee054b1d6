import Derived.Test.YtkekaifiahjljaaGreatDoorT43
import Derived.Test.YtkekaifiahjljaaGreatDoorT10
set_option linter.unusedVariables false
set_option maxHeartbeats 8000000
set_option maxRecDepth 20000
namespace Go.Proofs.YtkekaifiahjljaaGreatDoor
open Go.RowKit Go.Shelf
theorem holders17_any (n0 : Nat) (w : World) (vo vs vh vr vq : Value) (os : List OL) (ts : List (Value × List (Value × List Int))) (g : Im.Gr) (hg : Grd n0 w vo vs vh vr vq os ts g) (hn : n0 ≤ w.heap.size) (hs : Sln ts)
    (hel : (slotsF g.slots).length + g.hs.length + g.qu.length + g.rg.length ≤ 1000000000) :
    Calls Tryz.prog 11 #[.agg (gcs vo vs vh vr vq g.next)] w fun e w' => ∃ v, e = .returned v ∧ Il w' w.heap.size v (slotsF g.slots ++ (g.hs ++ g.qu)) ∧ Below w.heap.size w w' := by
  obtain ⟨i0, hi0, hj0, hj1, hj2⟩ := info_p17 infoI17
  have HI : Hid (Tryz.prog.info? 3 = some i0 ∧ i0.zero = some (.int .i64 0) ∧ i0.size = 1 ∧ i0.bytes = 8) := ⟨hi0, hj0, hj1, hj2⟩
  clear hi0 hj0 hj1 hj2
  have l1 : Below w.heap.size w (w.alloc (.cells (gcs vo vs vh vr vq g.next) 27)) := Below.alloc (Below.refl _ _) (Nat.le_refl _) _
  have hy := fun j => cell_of_row _ _ j _ _ _ (heap_alloc_new w (.cells (gcs vo vs vh vr vq g.next) 27 (0, 0)))
  have y0 : (w.alloc (.cells (gcs vo vs vh vr vq g.next) 27)).cell? ⟨w.heap.size, 0, none⟩ = some vo := hy 0
  have y1 : (w.alloc (.cells (gcs vo vs vh vr vq g.next) 27)).cell? ⟨w.heap.size, 1, none⟩ = some vs := hy 1
  have y2 : (w.alloc (.cells (gcs vo vs vh vr vq g.next) 27)).cell? ⟨w.heap.size, 2, none⟩ = some vh := hy 2
  have y3 : (w.alloc (.cells (gcs vo vs vh vr vq g.next) 27)).cell? ⟨w.heap.size, 3, none⟩ = some vr := hy 3
  have y4 : (w.alloc (.cells (gcs vo vs vh vr vq g.next) 27)).cell? ⟨w.heap.size, 4, none⟩ = some vq := hy 4
  have Hg : Hid (Grd n0 w vo vs vh vr vq os ts g) := hg
  have Hs : Hid (Sln ts) := hs
  have htl := hs.t
  have hx := hg.ob
  obtain ⟨a, cap, rfl, -⟩ := hx
  have hx := hg.sl
  obtain ⟨b, bcap, rfl, -⟩ := hx
  have hx := hg.hs
  obtain ⟨ah, hcap, rfl, -⟩ := hx
  have hx := hg.rg
  obtain ⟨ar, rcap, rfl, -⟩ := hx
  have hx := hg.qu
  obtain ⟨aq, qcap, rfl, -⟩ := hx
  have Heo : Hid (g.obs = os.map (·.o)) := hg.eo
  have Heol : Hid (g.obs.length = os.length) := by show _ = _; rw [hg.eo, List.length_map]
  have Hes : Hid (g.slots = ts.map (fun t => t.2.map (·.2))) := hg.es
  have Hel : Hid ((slotsF g.slots).length + g.hs.length + g.qu.length + g.rg.length ≤ 1000000000000) := by show _ ≤ _; omega
  have HelB : Hid ((slotsF g.slots).length + g.hs.length + g.qu.length ≤ 1000000000) := by show _ ≤ _; omega
  clear hg hy hs hel
  generalize hw1 : w.alloc (.cells (gcs (.slice a os.length cap) (.slice b ts.length bcap) (.slice ah g.hs.length hcap) (.slice ar g.rg.length rcap) (.slice aq g.qu.length qcap) g.next) 27) = w1 at *
  have e1 : w1.heap.size = w.heap.size + 1 := by rw [← hw1]; simp
  have HK : Hid (∀ w', Below w1.heap.size w1 w' → w'.cell? ⟨w.heap.size, 0, none⟩ = some (.slice a os.length cap) ∧ w'.cell? ⟨w.heap.size, 1, none⟩ = some (.slice b ts.length bcap) ∧ w'.cell? ⟨w.heap.size, 2, none⟩ = some (.slice ah g.hs.length hcap) ∧ w'.cell? ⟨w.heap.size, 3, none⟩ = some (.slice ar g.rg.length rcap) ∧ w'.cell? ⟨w.heap.size, 4, none⟩ = some (.slice aq g.qu.length qcap)) := fun w' b' => by
    have hlt : w.heap.size < w1.heap.size := by omega
    exact ⟨(b'.cell (p := ⟨w.heap.size, 0, none⟩) hlt).trans y0, (b'.cell (p := ⟨w.heap.size, 1, none⟩) hlt).trans y1, (b'.cell (p := ⟨w.heap.size, 2, none⟩) hlt).trans y2, (b'.cell (p := ⟨w.heap.size, 3, none⟩) hlt).trans y3, (b'.cell (p := ⟨w.heap.size, 4, none⟩) hlt).trans y4⟩
  have HGb : Hid (∀ w', Below w1.heap.size w1 w' → Below w.heap.size w w' ∧ Grd n0 w' (.slice a os.length cap) (.slice b ts.length bcap) (.slice ah g.hs.length hcap) (.slice ar g.rg.length rcap) (.slice aq g.qu.length qcap) os ts g) := fun w' b' => ⟨l1.trans (b'.mono l1.size), Hg.out.below ((l1.trans (b'.mono l1.size)).mono hn)⟩
  go_enter Tryz.func11, Tryz.ntmps11
  go_wp2
  go_loopw [3, 4, 5] (fun v3 v4 _ wr => ∃ k : Nat, k ≤ ts.length ∧ v4 = .int .i64 k ∧ Hid (wr.ownsRow w1.heap.size 3 1 v3 (slotsF (g.slots.take k)).length (Kg.ints (slotsF (g.slots.take k)))) ∧ Hid (Below w1.heap.size w1 wr)) (fun _ v4 _ _ => ts.length - (intOf v4).toNat)
  case atStart => exact ⟨0, Nat.zero_le _, rfl, World.ownsRow_nil _ _ _ _, Below.refl _ _⟩
  case round =>
    obtain ⟨k, hk, rfl, Hr, Hb⟩ := hrel
    obtain ⟨a3, c3, hv3⟩ := own_slI Hr.out
    subst hv3
    obtain ⟨z0, z1, z2, z3, z4⟩ := HK.out _ Hb.out
    by_cases hkl : k < ts.length
    · have hki : (k : Int) < (ts.length : Int) := by omega
      have hz : ts[k]? = some (ts[k]'hkl) := List.getElem?_eq_getElem hkl
      generalize ts[k]'hkl = x at hz
      obtain ⟨a', cap', ea, hob⟩ := (HGb.out _ Hb.out).2.sl
      cases ea
      obtain ⟨hp, q, off, rfl, hq, hc⟩ := hob k x hz
      have Hz : Hid (g.slots[k]? = some (x.2.map (·.2))) := by show _ = _; rw [Hes.out, List.getElem?_map, hz]; rfl
      have hxl := (Hs.out.f x (List.mem_of_getElem? hz)).1
      have Hp2 : Hid (∀ w', Below w1.heap.size w1 w' → Frd n0 w' x.1 x.2 ∧ w'.cell? ⟨q, off + k, none⟩ = some x.1) := fun w' b' => by
        obtain ⟨_, _, eb, hob'⟩ := (HGb.out _ b').2.sl
        obtain ⟨h1, _, _, h3, _, h4⟩ := hob' k x hz
        cases eb
        cases h3
        exact ⟨h1, h4⟩
      obtain ⟨ap, cp, ep, -⟩ := hp
      rw [ep] at hc Hp2
      have Hsl : Hid ((slotsF (g.slots.take (k + 1))).length ≤ 1000000000000) := by
        have h1 := slotsF_take g.slots (k + 1)
        have := Hel.out
        show _ ≤ _
        omega
      clear hob hz ep
      go_wp2
      go_loopw [3, 5] (fun v3 v5 wr => ∃ f : Nat, f ≤ x.2.length ∧ v5 = .int .i64 f ∧ Hid (wr.ownsRow w1.heap.size 3 1 v3 (slotsG g.slots k (x.2.map (·.2)) f).length (Kg.ints (slotsG g.slots k (x.2.map (·.2)) f))) ∧ Hid (Below w1.heap.size w1 wr)) (fun _ v5 _ => x.2.length - (intOf v5).toNat)
      case atStart => exact ⟨0, Nat.zero_le _, rfl, by rw [slotsG_zero]; exact Hr, Hb⟩
      case round =>
        obtain ⟨f, hf, rfl, Hr2, Hb2⟩ := hrel
        obtain ⟨a4, c4, hv4⟩ := own_slI Hr2.out
        subst hv4
        clear z0 z1 z2 z3 z4 hc
        obtain ⟨z0, z1, z2, z3, z4⟩ := HK.out _ Hb2.out
        obtain ⟨hfr, hc⟩ := Hp2.out _ Hb2.out
        by_cases hfl : f < x.2.length
        · have hfi : (f : Int) < (x.2.length : Int) := by omega
          have hy : x.2[f]? = some (x.2[f]'hfl) := List.getElem?_eq_getElem hfl
          generalize x.2[f]'hfl = y at hy
          obtain ⟨a'', cap'', ea, hob⟩ := hfr
          cases ea
          obtain ⟨hpp, q', off', rfl, hq', hc'⟩ := hob f y hy
          have Hy : Hid ((x.2.map (·.2))[f]? = some y.2) := by show _ = _; rw [List.getElem?_map, hy]; rfl
          have He : Hid (slotsG g.slots k (x.2.map (·.2)) (f + 1) = slotsG g.slots k (x.2.map (·.2)) f ++ y.2) := slotsG_snoc Hy.out
          have Hle : Hid ((slotsG g.slots k (x.2.map (·.2)) f).length + y.2.length ≤ 1000000000000) := by
            have h1 := slotsG_le Hz.out (f + 1)
            have h2 := congrArg List.length He.out
            rw [List.length_append] at h2
            have := Hsl.out
            show _ ≤ _
            omega
          have HN0 := hpp
          obtain ⟨ay, cy, ey, -⟩ := hpp
          rw [ey] at hc' HN0
          have HN : Hid (∀ (j : Nat) u, (Kg.ints y.2)[j]? = some u → ∃ ad, ay = some ad ∧ wr.cell? (ad.add j) = some u) := lrd_news HN0
          clear hob hy ey HN0
          go_wp2_with (at_builtin; refine Kg.wpList_append_row rfl _ _ 24 rfl w1.heap.size 3 i0 (.int .i64 0) 8 Tryz.underlying24 HI.out.1 HI.out.2.1 HI.out.2.2.1 HI.out.2.2.2 rfl _ _ _ rfl Hr2.out ay y.2.length cy (Kg.ints y.2) (by simp [Kg.ints]) rfl HN.out (by simp [Kg.ints, Value.oneCell']) (by have := Hle.out; simp only [maxLen]; omega) (by have := Hle.out; omega) Hb2.out.size ?_; intro v' w8 hown' hgrow _ hat _)
          go_roundw
          case rel =>
            refine ⟨f + 1, by omega, by go_num, ?_, ?_⟩
            · show w8.ownsRow _ _ _ _ _ _
              rw [He.out, List.length_append]
              simp only [Kg.ints, List.map_append] at hown' ⊢
              exact hown'
            · have t8 : Kg.Touch (Value.slice a4 (slotsG g.slots k (x.2.map (·.2)) f).length c4).ownBlock.toList wr w8 := Kg.Touch.grown hgrow (fun y hy => by rw [Option.mem_toList]; exact hy)
              exact Hb2.out.trans (t8.below Hb2.out.size (fun y hy => by rw [Option.mem_toList] at hy; exact (Hr2.out.lt y hy).1))
          case measure => simp [intOf]; omega
        · have hfi : ¬ (f : Int) < (x.2.length : Int) := by omega
          have e9 : slotsG g.slots k (x.2.map (·.2)) f = slotsF (g.slots.take (k + 1)) := slotsG_all Hz.out (by simp; omega)
          rw [e9] at Hr2 ⊢
          obtain ⟨a'', cap'', ea, -⟩ := hfr
          cases ea
          go_wp2
          go_roundw
          case rel => exact ⟨k + 1, by omega, by go_num, Hr2, Hb2⟩
          case measure => simp [intOf]; omega
    · have hki : ¬ (k : Int) < (ts.length : Int) := by omega
      have e9 : g.slots.take k = g.slots := List.take_of_length_le (by rw [Hes.out, List.length_map]; omega)
      rw [e9] at Hr ⊢
      have HE0l : Hid ((slotsF g.slots).length = (slotsF g.slots).length) := rfl
      obtain ⟨E0, hE0⟩ : ∃ E', E' = slotsF g.slots := ⟨_, rfl⟩
      rw [← hE0] at Hr ⊢
      have HE0 : Hid (E0 = slotsF g.slots) := hE0
      clear HE0l
      have HE0l : Hid (E0.length = (slotsF g.slots).length) := by show _ = _; rw [hE0]
      clear hE0
      have HN1 : Hid (∀ (j : Nat) u, (Kg.ints g.hs)[j]? = some u → ∃ ad, ah = some ad ∧ wr.cell? (ad.add j) = some u) := lrd_news (HGb.out _ Hb.out).2.hs
      have Hle1 : Hid (E0.length + g.hs.length ≤ 1000000000000) := by
        have := Hel.out
        have := HE0l.out
        show _ ≤ _
        omega
      go_upto_region 10 with (at_builtin; refine Kg.wpList_append_row rfl _ _ 24 rfl w1.heap.size 3 i0 (.int .i64 0) 8 Tryz.underlying24 HI.out.1 HI.out.2.1 HI.out.2.2.1 HI.out.2.2.2 rfl _ _ _ rfl Hr.out ah g.hs.length hcap (Kg.ints g.hs) (by simp [Kg.ints]) rfl HN1.out (by simp [Kg.ints, Value.oneCell']) (by have := Hle1.out; simp only [maxLen]; omega) (by have := Hle1.out; omega) Hb.out.size ?_; intro v1 wA hown1 hgrow1 _ hat1 _)
      have t1 := Kg.Touch.grown (F := (Value.ownBlock _).toList) hgrow1 (fun y hy => by rw [Option.mem_toList]; exact hy)
      have Hb1 : Hid (Below w1.heap.size w1 wA) := Hb.out.trans (t1.below Hb.out.size (fun y hy => by rw [Option.mem_toList] at hy; exact (Hr.out.lt y hy).1))
      obtain ⟨E1, hE1⟩ : ∃ E', E' = E0 ++ g.hs := ⟨_, rfl⟩
      have HE1 : Hid (E1 = E0 ++ g.hs) := hE1
      have HE1l : Hid (E1.length = E0.length + g.hs.length) := by show _ = _; rw [hE1, List.length_append]
      have Hr1 : Hid (wA.ownsRow w1.heap.size 3 1 v1 E1.length (Kg.ints E1)) := by
        show wA.ownsRow _ _ _ _ _ _
        rw [HE1l.out, hE1]
        simp only [Kg.ints, List.map_append] at hown1 ⊢
        exact hown1
      obtain ⟨al1, cl1, hvl1⟩ := own_slI Hr1.out
      subst hvl1
      clear hown1 hgrow1 hat1 t1 hE1 z0 z1 z2 z3 z4
      obtain ⟨z0, z1, z2, z3, z4⟩ := HK.out _ Hb1.out
      have HN2 : Hid (∀ (j : Nat) u, (Kg.ints g.qu)[j]? = some u → ∃ ad, aq = some ad ∧ wA.cell? (ad.add j) = some u) := lrd_news (HGb.out _ Hb1.out).2.qu
      have Hle2 : Hid (E1.length + g.qu.length ≤ 1000000000000) := by
        have := Hel.out
        have := HE1l.out
        have := HE0l.out
        show _ ≤ _
        omega
      go_wp2_with (at_builtin; refine Kg.wpList_append_row rfl _ _ 24 rfl w1.heap.size 3 i0 (.int .i64 0) 8 Tryz.underlying24 HI.out.1 HI.out.2.1 HI.out.2.2.1 HI.out.2.2.2 rfl _ _ _ rfl Hr1.out aq g.qu.length qcap (Kg.ints g.qu) (by simp [Kg.ints]) rfl HN2.out (by simp [Kg.ints, Value.oneCell']) (by have := Hle2.out; simp only [maxLen]; omega) (by have := Hle2.out; omega) Hb1.out.size ?_; intro v2 wB hown2 hgrow2 _ hat2 _)
      have t2 := Kg.Touch.grown (F := (Value.ownBlock _).toList) hgrow2 (fun y hy => by rw [Option.mem_toList]; exact hy)
      have Hb2 : Hid (Below w1.heap.size w1 wB) := Hb1.out.trans (t2.below Hb1.out.size (fun y hy => by rw [Option.mem_toList] at hy; exact (Hr1.out.lt y hy).1))
      obtain ⟨E2, hE2⟩ : ∃ E', E' = E1 ++ g.qu := ⟨_, rfl⟩
      have HE2 : Hid (E2 = E1 ++ g.qu) := hE2
      have HE2l : Hid (E2.length = E1.length + g.qu.length) := by show _ = _; rw [hE2, List.length_append]
      have Hr2 : Hid (wB.ownsRow w1.heap.size 3 1 v2 E2.length (Kg.ints E2)) := by
        show wB.ownsRow _ _ _ _ _ _
        rw [HE2l.out, hE2]
        simp only [Kg.ints, List.map_append] at hown2 ⊢
        exact hown2
      obtain ⟨al2, cl2, hvl2⟩ := own_slI Hr2.out
      subst hvl2
      clear hown2 hgrow2 hat2 t2 z0 z1 z2 z3 z4
      have HEE : Hid (Il wB w.heap.size (.slice al2 E2.length cl2) (slotsF g.slots ++ (g.hs ++ g.qu)) ∧ Below w.heap.size w wB) := by
        refine ⟨?_, (HGb.out _ Hb2.out).1⟩
        have e9 : E2 = slotsF g.slots ++ (g.hs ++ g.qu) := by rw [HE2.out, HE1.out, HE0.out, List.append_assoc]
        rw [← e9]
        exact Kg.row_base Hr2.out (by rw [e1]; omega)
      clear hE2
      go_wp2
      go_ret
      exact ⟨_, rfl, HEE.out⟩
end Go.Proofs.YtkekaifiahjljaaGreatDoor
