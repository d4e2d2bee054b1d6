import Derived.Test.YtkekaifiahjljaaGreatDoorC08
set_option linter.unusedVariables false
set_option maxHeartbeats 8000000
set_option maxRecDepth 20000
namespace Go.Proofs.YtkekaifiahjljaaGreatDoor
open Go.RowKit Go.Shelf
theorem flatten_take (t : List (List Int)) (k : Nat) : (t.take k).flatten.length ≤ t.flatten.length := by
  have h : t.flatten = (t.take k).flatten ++ (t.drop k).flatten := by
    rw [← List.flatten_append, List.take_append_drop]
  rw [h, List.length_append]
  omega
def rents (g : Im.Gr) : List Int := ((slotsF g.slots ++ g.hs) ++ g.qu) ++ g.rg
theorem mem_rents (g : Im.Gr) (z : Int) : z ∈ rents g ↔ Im.Root g z := by
  simp only [rents, List.mem_append, mem_slotsF, Im.Root]
  constructor
  · rintro (((h | h) | h) | h)
    · exact .inl h
    · exact .inr (.inl h)
    · exact .inr (.inr (.inr h))
    · exact .inr (.inr (.inl h))
  · rintro (h | h | h | h)
    · exact .inl (.inl (.inl h))
    · exact .inl (.inl (.inr h))
    · exact .inr h
    · exact .inl (.inr h)
theorem rents_len (g : Im.Gr) : (rents g).length = (ents g).length := by
  simp only [rents, ents, List.length_append]
  omega
def slotsG (l : List (List (List Int))) (k : Nat) (t : List (List Int)) (f : Nat) : List Int := slotsF (l.take k) ++ (t.take f).flatten
theorem slotsG_zero (l : List (List (List Int))) (k : Nat) (t : List (List Int)) : slotsG l k t 0 = slotsF (l.take k) := by simp [slotsG]
theorem slotsG_snoc {l : List (List (List Int))} {k f : Nat} {t : List (List Int)} {y : List Int} (hy : t[f]? = some y) : slotsG l k t (f + 1) = slotsG l k t f ++ y := by
  unfold slotsG
  rw [take_snocL hy]
  simp
theorem slotsG_all {l : List (List (List Int))} {k f : Nat} {t : List (List Int)} (h : l[k]? = some t) (hf : t.length ≤ f) : slotsG l k t f = slotsF (l.take (k + 1)) := by
  unfold slotsG
  rw [slotsF_snoc h, List.take_of_length_le hf]
theorem slotsG_le {l : List (List (List Int))} {k : Nat} {t : List (List Int)} (h : l[k]? = some t) (f : Nat) : (slotsG l k t f).length ≤ (slotsF (l.take (k + 1))).length := by
  have h1 := flatten_take t f
  rw [slotsF_snoc h]
  simp only [slotsG, List.length_append]
  omega
def AK (g : Im.Gr) : Prop := ∀ n, 1 ≤ n → n ≤ g.obs.length → Im.Known g n
theorem rKnown_any (n0 : Nat) (w : World) (vo vs vh vr vq : Value) (os : List OL) (ts : List (Value × List (Value × List Int))) (g : Im.Gr) (hg : Grd n0 w vo vs vh vr vq os ts g) (hn : n0 ≤ w.heap.size) (hs : Sln ts) (hol : os.length ≤ 1000000000000)
    (hlen : (ents g).length + Im.wsum g.obs (fun _ => false) g.obs.length ≤ 1000000000000) (hq : ∀ z, Im.Root g z → z ≤ g.obs.length) (hp : ∀ o, o ∈ g.obs → ∀ z, z ∈ o.ps → z ≤ g.obs.length) :
    Calls Tryz.prog 64 #[.agg (gcs vo vs vh vr vq g.next)] w fun e w' => ∃ r : Bool, e = .returned (.bool r) ∧ Below w.heap.size w w' ∧ (r = true ↔ AK g) := by
  obtain ⟨i0, hi0, hj0, hj1, hj2⟩ := info_parts Kg.Tryz.infoInt
  have HI : Hid (Tryz.prog.info? 3 = some i0 ∧ i0.zero = some (.int .i64 0) ∧ i0.size = 1 ∧ i0.bytes = 8) := ⟨hi0, hj0, hj1, hj2⟩
  clear hi0 hj0 hj1 hj2
  have l1 : Below w.heap.size w (w.alloc (.cells (gcs vo vs vh vr vq g.next) 27)) := Below.alloc (Below.refl _ _) (Nat.le_refl _) _
  have hy := fun j => cell_of_row _ _ j _ _ _ (heap_alloc_new w (.cells (gcs vo vs vh vr vq g.next) 27 (0, 0)))
  have y0 : (w.alloc (.cells (gcs vo vs vh vr vq g.next) 27)).cell? ⟨w.heap.size, 0, none⟩ = some vo := hy 0
  have y1 : (w.alloc (.cells (gcs vo vs vh vr vq g.next) 27)).cell? ⟨w.heap.size, 1, none⟩ = some vs := hy 1
  have y2 : (w.alloc (.cells (gcs vo vs vh vr vq g.next) 27)).cell? ⟨w.heap.size, 2, none⟩ = some vh := hy 2
  have y3 : (w.alloc (.cells (gcs vo vs vh vr vq g.next) 27)).cell? ⟨w.heap.size, 3, none⟩ = some vr := hy 3
  have y4 : (w.alloc (.cells (gcs vo vs vh vr vq g.next) 27)).cell? ⟨w.heap.size, 4, none⟩ = some vq := hy 4
  have Hg : Hid (Grd n0 w vo vs vh vr vq os ts g) := hg
  have Hs : Hid (Sln ts) := hs
  have htl := hs.t
  have hx := hg.ob
  obtain ⟨a, cap, rfl, -⟩ := hx
  have hx := hg.sl
  obtain ⟨b, bcap, rfl, -⟩ := hx
  have hx := hg.hs
  obtain ⟨ah, hcap, rfl, -⟩ := hx
  have hx := hg.rg
  obtain ⟨ar, rcap, rfl, -⟩ := hx
  have hx := hg.qu
  obtain ⟨aq, qcap, rfl, -⟩ := hx
  have Heo : Hid (g.obs = os.map (·.o)) := hg.eo
  have Heol : Hid (g.obs.length = os.length) := by show _ = _; rw [hg.eo, List.length_map]
  have Hes : Hid (g.slots = ts.map (fun t => t.2.map (·.2))) := hg.es
  have Hp : Hid (∀ o, o ∈ g.obs → ∀ z, z ∈ o.ps → z ≤ g.obs.length) := hp
  have HW0 : Hid (Im.Wl g (fun _ => false) (rents g) 0) := Im.Wl.start (mem_rents g) hq
  have Hlen : Hid ((rents g).length + Im.wsum g.obs (fun _ => false) os.length ≤ 1000000000000) := by show _ ≤ _; rw [← Heol.out, rents_len]; exact hlen
  have Hel : Hid ((slotsF g.slots).length + g.hs.length + g.qu.length + g.rg.length ≤ 1000000000000) := by
    have h9 := Hlen.out
    simp only [rents, List.length_append] at h9
    show _ ≤ _
    omega
  clear hg hy hs hp hq hlen
  generalize hw1 : w.alloc (.cells (gcs (.slice a os.length cap) (.slice b ts.length bcap) (.slice ah g.hs.length hcap) (.slice ar g.rg.length rcap) (.slice aq g.qu.length qcap) g.next) 27) = w1 at *
  have e1 : w1.heap.size = w.heap.size + 1 := by rw [← hw1]; simp
  have HK : Hid (∀ w', Below w1.heap.size w1 w' → w'.cell? ⟨w.heap.size, 0, none⟩ = some (.slice a os.length cap) ∧ w'.cell? ⟨w.heap.size, 1, none⟩ = some (.slice b ts.length bcap) ∧ w'.cell? ⟨w.heap.size, 2, none⟩ = some (.slice ah g.hs.length hcap) ∧ w'.cell? ⟨w.heap.size, 3, none⟩ = some (.slice ar g.rg.length rcap) ∧ w'.cell? ⟨w.heap.size, 4, none⟩ = some (.slice aq g.qu.length qcap)) := fun w' b' => by
    have hlt : w.heap.size < w1.heap.size := by omega
    exact ⟨(b'.cell (p := ⟨w.heap.size, 0, none⟩) hlt).trans y0, (b'.cell (p := ⟨w.heap.size, 1, none⟩) hlt).trans y1, (b'.cell (p := ⟨w.heap.size, 2, none⟩) hlt).trans y2, (b'.cell (p := ⟨w.heap.size, 3, none⟩) hlt).trans y3, (b'.cell (p := ⟨w.heap.size, 4, none⟩) hlt).trans y4⟩
  have HGb : Hid (∀ w', Below w1.heap.size w1 w' → Below w.heap.size w w' ∧ Grd n0 w' (.slice a os.length cap) (.slice b ts.length bcap) (.slice ah g.hs.length hcap) (.slice ar g.rg.length rcap) (.slice aq g.qu.length qcap) os ts g) := fun w' b' => ⟨l1.trans (b'.mono l1.size), Hg.out.below ((l1.trans (b'.mono l1.size)).mono hn)⟩
  go_enter Tryz.func64, Tryz.ntmps64
  go_wp2
  go_loopw [3, 4] (fun v3 v4 wr => ∃ k : Nat, k ≤ ts.length ∧ v4 = .int .i64 k ∧ Hid (wr.ownsRow w1.heap.size 3 1 v3 (slotsF (g.slots.take k)).length (Kg.ints (slotsF (g.slots.take k)))) ∧ Hid (Below w1.heap.size w1 wr)) (fun _ v4 _ => ts.length - (intOf v4).toNat)
  case atStart => exact ⟨0, Nat.zero_le _, rfl, World.ownsRow_nil _ _ _ _, Below.refl _ _⟩
  case round =>
    obtain ⟨k, hk, rfl, Hr, Hb⟩ := hrel
    obtain ⟨a3, c3, hv3⟩ := own_slI Hr.out
    subst hv3
    obtain ⟨z0, z1, z2, z3, z4⟩ := HK.out _ Hb.out
    by_cases hkl : k < ts.length
    · have hki : (k : Int) < (ts.length : Int) := by omega
      have hz : ts[k]? = some (ts[k]'hkl) := List.getElem?_eq_getElem hkl
      generalize ts[k]'hkl = x at hz
      obtain ⟨a', cap', ea, hob⟩ := (HGb.out _ Hb.out).2.sl
      cases ea
      obtain ⟨hp, q, off, rfl, hq, hc⟩ := hob k x hz
      have Hz : Hid (g.slots[k]? = some (x.2.map (·.2))) := by show _ = _; rw [Hes.out, List.getElem?_map, hz]; rfl
      have hxl := (Hs.out.f x (List.mem_of_getElem? hz)).1
      have Hp2 : Hid (∀ w', Below w1.heap.size w1 w' → Frd n0 w' x.1 x.2 ∧ w'.cell? ⟨q, off + k, none⟩ = some x.1) := fun w' b' => by
        obtain ⟨_, _, eb, hob'⟩ := (HGb.out _ b').2.sl
        obtain ⟨h1, _, _, h3, _, h4⟩ := hob' k x hz
        cases eb
        cases h3
        exact ⟨h1, h4⟩
      obtain ⟨ap, cp, ep, -⟩ := hp
      rw [ep] at hc Hp2
      have Hsl : Hid ((slotsF (g.slots.take (k + 1))).length ≤ 1000000000000) := by
        have h1 := slotsF_take g.slots (k + 1)
        have := Hel.out
        show _ ≤ _
        omega
      clear hob hz ep
      go_wp2
      go_loopw [3, 5] (fun v3 v5 wr => ∃ f : Nat, f ≤ x.2.length ∧ v5 = .int .i64 f ∧ Hid (wr.ownsRow w1.heap.size 3 1 v3 (slotsG g.slots k (x.2.map (·.2)) f).length (Kg.ints (slotsG g.slots k (x.2.map (·.2)) f))) ∧ Hid (Below w1.heap.size w1 wr)) (fun _ v5 _ => x.2.length - (intOf v5).toNat)
      case atStart => exact ⟨0, Nat.zero_le _, rfl, by rw [slotsG_zero]; exact Hr, Hb⟩
      case round =>
        obtain ⟨f, hf, rfl, Hr2, Hb2⟩ := hrel
        obtain ⟨a4, c4, hv4⟩ := own_slI Hr2.out
        subst hv4
        clear z0 z1 z2 z3 z4 hc
        obtain ⟨z0, z1, z2, z3, z4⟩ := HK.out _ Hb2.out
        obtain ⟨hfr, hc⟩ := Hp2.out _ Hb2.out
        by_cases hfl : f < x.2.length
        · have hfi : (f : Int) < (x.2.length : Int) := by omega
          have hy : x.2[f]? = some (x.2[f]'hfl) := List.getElem?_eq_getElem hfl
          generalize x.2[f]'hfl = y at hy
          obtain ⟨a'', cap'', ea, hob⟩ := hfr
          cases ea
          obtain ⟨hpp, q', off', rfl, hq', hc'⟩ := hob f y hy
          have Hy : Hid ((x.2.map (·.2))[f]? = some y.2) := by show _ = _; rw [List.getElem?_map, hy]; rfl
          have He : Hid (slotsG g.slots k (x.2.map (·.2)) (f + 1) = slotsG g.slots k (x.2.map (·.2)) f ++ y.2) := slotsG_snoc Hy.out
          have Hle : Hid ((slotsG g.slots k (x.2.map (·.2)) f).length + y.2.length ≤ 1000000000000) := by
            have h1 := slotsG_le Hz.out (f + 1)
            have h2 := congrArg List.length He.out
            rw [List.length_append] at h2
            have := Hsl.out
            show _ ≤ _
            omega
          have HN0 := hpp
          obtain ⟨ay, cy, ey, -⟩ := hpp
          rw [ey] at hc' HN0
          have HN : Hid (∀ (j : Nat) u, (Kg.ints y.2)[j]? = some u → ∃ ad, ay = some ad ∧ wr.cell? (ad.add j) = some u) := lrd_news HN0
          clear hob hy ey HN0
          go_wp2_with (at_builtin; refine Kg.wpList_append_row rfl _ _ 24 rfl w1.heap.size 3 i0 (.int .i64 0) 8 Tryz.underlying24 HI.out.1 HI.out.2.1 HI.out.2.2.1 HI.out.2.2.2 rfl _ _ _ rfl Hr2.out ay y.2.length cy (Kg.ints y.2) (by simp [Kg.ints]) rfl HN.out (by simp [Kg.ints, Value.oneCell']) (by have := Hle.out; simp only [maxLen]; omega) (by have := Hle.out; omega) Hb2.out.size ?_; intro v' w8 hown' hgrow _ hat _)
          go_roundw
          case rel =>
            refine ⟨f + 1, by omega, by go_num, ?_, ?_⟩
            · show w8.ownsRow _ _ _ _ _ _
              rw [He.out, List.length_append]
              simp only [Kg.ints, List.map_append] at hown' ⊢
              exact hown'
            · have t8 : Kg.Touch (Value.slice a4 (slotsG g.slots k (x.2.map (·.2)) f).length c4).ownBlock.toList wr w8 := Kg.Touch.grown hgrow (fun y hy => by rw [Option.mem_toList]; exact hy)
              exact Hb2.out.trans (t8.below Hb2.out.size (fun y hy => by rw [Option.mem_toList] at hy; exact (Hr2.out.lt y hy).1))
          case measure => simp [intOf]; omega
        · have hfi : ¬ (f : Int) < (x.2.length : Int) := by omega
          have e9 : slotsG g.slots k (x.2.map (·.2)) f = slotsF (g.slots.take (k + 1)) := slotsG_all Hz.out (by simp; omega)
          rw [e9] at Hr2 ⊢
          obtain ⟨a'', cap'', ea, -⟩ := hfr
          cases ea
          go_wp2
          go_roundw
          case rel => exact ⟨k + 1, by omega, by go_num, Hr2, Hb2⟩
          case measure => simp [intOf]; omega
    · have hki : ¬ (k : Int) < (ts.length : Int) := by omega
      have e9 : g.slots.take k = g.slots := List.take_of_length_le (by rw [Hes.out, List.length_map]; omega)
      rw [e9] at Hr ⊢
      have HE0l : Hid ((slotsF g.slots).length = (slotsF g.slots).length) := rfl
      obtain ⟨E0, hE0⟩ : ∃ E', E' = slotsF g.slots := ⟨_, rfl⟩
      rw [← hE0] at Hr ⊢
      have HE0 : Hid (E0 = slotsF g.slots) := hE0
      clear HE0l
      have HE0l : Hid (E0.length = (slotsF g.slots).length) := by show _ = _; rw [hE0]
      clear hE0
      have HN1 : Hid (∀ (j : Nat) u, (Kg.ints g.hs)[j]? = some u → ∃ ad, ah = some ad ∧ wr.cell? (ad.add j) = some u) := lrd_news (HGb.out _ Hb.out).2.hs
      have Hle1 : Hid (E0.length + g.hs.length ≤ 1000000000000) := by
        have := Hel.out
        have := HE0l.out
        show _ ≤ _
        omega
      go_upto_region 10 with (at_builtin; refine Kg.wpList_append_row rfl _ _ 24 rfl w1.heap.size 3 i0 (.int .i64 0) 8 Tryz.underlying24 HI.out.1 HI.out.2.1 HI.out.2.2.1 HI.out.2.2.2 rfl _ _ _ rfl Hr.out ah g.hs.length hcap (Kg.ints g.hs) (by simp [Kg.ints]) rfl HN1.out (by simp [Kg.ints, Value.oneCell']) (by have := Hle1.out; simp only [maxLen]; omega) (by have := Hle1.out; omega) Hb.out.size ?_; intro v1 wA hown1 hgrow1 _ hat1 _)
      have t1 := Kg.Touch.grown (F := (Value.ownBlock _).toList) hgrow1 (fun y hy => by rw [Option.mem_toList]; exact hy)
      have Hb1 : Hid (Below w1.heap.size w1 wA) := Hb.out.trans (t1.below Hb.out.size (fun y hy => by rw [Option.mem_toList] at hy; exact (Hr.out.lt y hy).1))
      obtain ⟨E1, hE1⟩ : ∃ E', E' = E0 ++ g.hs := ⟨_, rfl⟩
      have HE1 : Hid (E1 = E0 ++ g.hs) := hE1
      have HE1l : Hid (E1.length = E0.length + g.hs.length) := by show _ = _; rw [hE1, List.length_append]
      have Hr1 : Hid (wA.ownsRow w1.heap.size 3 1 v1 E1.length (Kg.ints E1)) := by
        show wA.ownsRow _ _ _ _ _ _
        rw [HE1l.out, hE1]
        simp only [Kg.ints, List.map_append] at hown1 ⊢
        exact hown1
      obtain ⟨al1, cl1, hvl1⟩ := own_slI Hr1.out
      subst hvl1
      clear hown1 hgrow1 hat1 t1 hE1 z0 z1 z2 z3 z4
      obtain ⟨z0, z1, z2, z3, z4⟩ := HK.out _ Hb1.out
      have HN2 : Hid (∀ (j : Nat) u, (Kg.ints g.qu)[j]? = some u → ∃ ad, aq = some ad ∧ wA.cell? (ad.add j) = some u) := lrd_news (HGb.out _ Hb1.out).2.qu
      have Hle2 : Hid (E1.length + g.qu.length ≤ 1000000000000) := by
        have := Hel.out
        have := HE1l.out
        have := HE0l.out
        show _ ≤ _
        omega
      go_upto_region 11 with (at_builtin; refine Kg.wpList_append_row rfl _ _ 24 rfl w1.heap.size 3 i0 (.int .i64 0) 8 Tryz.underlying24 HI.out.1 HI.out.2.1 HI.out.2.2.1 HI.out.2.2.2 rfl _ _ _ rfl Hr1.out aq g.qu.length qcap (Kg.ints g.qu) (by simp [Kg.ints]) rfl HN2.out (by simp [Kg.ints, Value.oneCell']) (by have := Hle2.out; simp only [maxLen]; omega) (by have := Hle2.out; omega) Hb1.out.size ?_; intro v2 wB hown2 hgrow2 _ hat2 _)
      have t2 := Kg.Touch.grown (F := (Value.ownBlock _).toList) hgrow2 (fun y hy => by rw [Option.mem_toList]; exact hy)
      have Hb2 : Hid (Below w1.heap.size w1 wB) := Hb1.out.trans (t2.below Hb1.out.size (fun y hy => by rw [Option.mem_toList] at hy; exact (Hr1.out.lt y hy).1))
      obtain ⟨E2, hE2⟩ : ∃ E', E' = E1 ++ g.qu := ⟨_, rfl⟩
      have HE2 : Hid (E2 = E1 ++ g.qu) := hE2
      have HE2l : Hid (E2.length = E1.length + g.qu.length) := by show _ = _; rw [hE2, List.length_append]
      have Hr2 : Hid (wB.ownsRow w1.heap.size 3 1 v2 E2.length (Kg.ints E2)) := by
        show wB.ownsRow _ _ _ _ _ _
        rw [HE2l.out, hE2]
        simp only [Kg.ints, List.map_append] at hown2 ⊢
        exact hown2
      obtain ⟨al2, cl2, hvl2⟩ := own_slI Hr2.out
      subst hvl2
      clear hown2 hgrow2 hat2 t2 hE2 z0 z1 z2 z3 z4
      obtain ⟨z0, z1, z2, z3, z4⟩ := HK.out _ Hb2.out
      have HN3 : Hid (∀ (j : Nat) u, (Kg.ints g.rg)[j]? = some u → ∃ ad, ar = some ad ∧ wB.cell? (ad.add j) = some u) := lrd_news (HGb.out _ Hb2.out).2.rg
      have Hle3 : Hid (E2.length + g.rg.length ≤ 1000000000000) := by
        have := Hel.out
        have := HE2l.out
        have := HE1l.out
        have := HE0l.out
        show _ ≤ _
        omega
      go_upto_region 12 with (at_builtin; refine Kg.wpList_append_row rfl _ _ 24 rfl w1.heap.size 3 i0 (.int .i64 0) 8 Tryz.underlying24 HI.out.1 HI.out.2.1 HI.out.2.2.1 HI.out.2.2.2 rfl _ _ _ rfl Hr2.out ar g.rg.length rcap (Kg.ints g.rg) (by simp [Kg.ints]) rfl HN3.out (by simp [Kg.ints, Value.oneCell']) (by have := Hle3.out; simp only [maxLen]; omega) (by have := Hle3.out; omega) Hb2.out.size ?_; intro v3 wC hown3 hgrow3 _ hat3 _)
      have t3 := Kg.Touch.grown (F := (Value.ownBlock _).toList) hgrow3 (fun y hy => by rw [Option.mem_toList]; exact hy)
      have Hb3 : Hid (Below w1.heap.size w1 wC) := Hb2.out.trans (t3.below Hb2.out.size (fun y hy => by rw [Option.mem_toList] at hy; exact (Hr2.out.lt y hy).1))
      obtain ⟨E3, hE3⟩ : ∃ E', E' = E2 ++ g.rg := ⟨_, rfl⟩
      have HE3 : Hid (E3 = E2 ++ g.rg) := hE3
      have HE3l : Hid (E3.length = E2.length + g.rg.length) := by show _ = _; rw [hE3, List.length_append]
      have Hr3 : Hid (wC.ownsRow w1.heap.size 3 1 v3 E3.length (Kg.ints E3)) := by
        show wC.ownsRow _ _ _ _ _ _
        rw [HE3l.out, hE3]
        simp only [Kg.ints, List.map_append] at hown3 ⊢
        exact hown3
      obtain ⟨al3, cl3, hvl3⟩ := own_slI Hr3.out
      subst hvl3
      clear hown3 hgrow3 hat3 t3 hE3 z0 z1 z2 z3 z4
      obtain ⟨z0, z1, z2, z3, z4⟩ := HK.out _ Hb3.out
      have HEr : Hid (E3 = rents g) := by show _ = _; rw [HE3.out, HE2.out, HE1.out, HE0.out]; rfl
      have HW3 : Hid (Im.Wl g (fun _ => false) (E3.drop 0) 0) := by show Im.Wl _ _ _ _; rw [List.drop_zero, HEr.out]; exact HW0.out
      have Hl3 : Hid (E3.length + Im.wsum g.obs (fun _ => false) os.length ≤ 1000000000000) := by show _ ≤ _; rw [HEr.out]; exact Hlen.out
      have hmk : ∀ w, (Instr.makeSlice 41 (.int .i64 ((os.length : Int) + 1)) (.int .i64 ((os.length : Int) + 1))).run Tryz.prog w = .ok (.slice (some ⟨w.heap.size, 0, none⟩) (os.length + 1) (os.length + 1)) (w.alloc (.cells (madeCells #[.bool false] (os.length + 1)) 4)) := fun w => make_bools (os.length + 1) (by omega) w
      have HR : Hid ((wC.alloc (.cells (madeCells #[.bool false] (os.length + 1)) 4)).rowIs wC.heap.size 4 (os.length + 1) (fun j => .bool ((fun _ => false) j))) := World.rowIs_made wC (.bool false) (os.length + 1) 4
      have HB6 : Hid (Below w1.heap.size w1 (wC.alloc (.cells (madeCells #[.bool false] (os.length + 1)) 4))) := Hb3.out.alloc Hb3.out.size _
      have Hr6 : Hid ((wC.alloc (.cells (madeCells #[.bool false] (os.length + 1)) 4)).ownsRow w1.heap.size 3 1 (.slice al3 E3.length cl3) E3.length (Kg.ints E3)) := Hr3.out.alloc _
      have Hne6 : Hid ((Value.slice al3 E3.length cl3).ownBlock ≠ some wC.heap.size) := fun h => by have := (Hr3.out.lt _ h).2; omega
      have HBl : Hid (w1.heap.size ≤ wC.heap.size) := Hb3.out.size
      go_upto_region 13 with fail
      clear hmk z0 z1 z2 z3 z4
      generalize wC.alloc (.cells (madeCells #[.bool false] (os.length + 1)) 4) = w6 at *
      obtain ⟨z0, z1, z2, z3, z4⟩ := HK.out _ HB6.out
      clear Hb3 Hr3 HN1 HN2 HN3 Hr2 Hr1 Hb2 Hb1 Hr Hb
      generalize wC.heap.size = B at *
      go_wp2
      go_loopw [3, 7, 8] (fun v3 v7 v8 wr => ∃ (k i : Nat) (L : List Int) (M : Nat → Bool), v7 = .int .i64 k ∧ v8 = .int .i64 i ∧ k ≤ os.length ∧ i ≤ L.length ∧ Hid (wr.ownsRow w1.heap.size 3 1 v3 L.length (Kg.ints L)) ∧ Hid (v3.ownBlock ≠ some B) ∧ Hid (wr.rowIs B 4 (os.length + 1) (fun j => .bool (M j))) ∧ Hid (Im.Wl g M (L.drop i) k) ∧ L.length + Im.wsum g.obs M os.length ≤ 1000000000000 ∧ Hid (Below w1.heap.size w1 wr)) (fun v3 _ v8 wr => (slen v3 - (intOf v8).toNat) + Im.wsum g.obs (seen wr B) os.length)
      case atStart => exact ⟨0, 0, E3, fun _ => false, rfl, rfl, Nat.zero_le _, Nat.zero_le _, Hr6, Hne6, HR, HW3, Hl3.out, HB6⟩
      case round =>
        obtain ⟨k, i, L, M, rfl, rfl, hkn, hil, Hr, Hne, Hm, HW, hle, Hb⟩ := hrel
        obtain ⟨a4, c4, hv4⟩ := own_slI Hr.out
        subst hv4
        clear z0 z1 z2 z3 z4
        obtain ⟨z0, z1, z2, z3, z4⟩ := HK.out _ Hb.out
        have hLl : L.length ≤ 1000000000000 := by omega
        by_cases hi : i < L.length
        · have hii : (i : Int) < (L.length : Int) := by omega
          have hz : L[i]? = some (L[i]'hi) := List.getElem?_eq_getElem hi
          have hdr : L.drop i = L[i]'hi :: L.drop (i + 1) := List.drop_eq_getElem_cons hi
          generalize L[i]'hi = z at hz hdr
          obtain ⟨gb, cp, ev⟩ := Kg.ownsRow_some Hr.out (by omega)
          rw [ev] at Hr Hne ⊢
          have cz : wr.cell? ⟨gb, i, none⟩ = some (.int .i64 z) := by
            have h9 := Hr.out.cells (g := gb) rfl i (.int .i64 z) (by simp [Kg.ints, hz])
            rw [Addr.add_lit, Nat.zero_add] at h9
            exact h9
          have hmem : ∀ y, y ∈ L.drop i ↔ y = z ∨ y ∈ L.drop (i + 1) := fun y => by rw [hdr]; simp
          have Hsk : Hid ((z ≤ 0 ∨ M z.toNat = true) → Im.Wl g M (L.drop (i + 1)) k) := fun h9 => HW.out.skip hmem h9
          have hzin : z ∈ L.drop i := (hmem z).2 (.inl rfl)
          clear hz hdr ev
          by_cases hz0 : 0 < z
          · have hzq : z ≤ g.obs.length := HW.out.q z hzin
            obtain ⟨m, rfl⟩ : ∃ m : Nat, z = m := ⟨z.toNat, by omega⟩
            have hm1 : 1 ≤ m := by omega
            have hm2 : m ≤ os.length := by have := Heol.out; omega
            have hm3 : (m : Int) < (os.length : Int) + 1 := by omega
            have hm4 : m < os.length + 1 := by omega
            have hzi : (m : Int) > 0 := hz0
            have crow : wr.cell? ⟨B, m, none⟩ = some (.bool (M m)) := Hm.out.cell hm4
            cases hM : M m with
            | true =>
              rw [hM] at crow
              have HW2 : Hid (Im.Wl g M (L.drop (i + 1)) k) := Hsk.out (.inr (by simpa using hM))
              clear hM hmem hzq hzin
              go_wp2
              go_roundw
              case rel => exact ⟨k, i + 1, L, M, rfl, by go_num, hkn, by omega, Hr, Hne, Hm, HW2, hle, Hb⟩
              case measure => simp [slen, intOf]; omega
            | false =>
              rw [hM] at crow
              have hos : os[m - 1]? = some (os[m - 1]'(by omega)) := List.getElem?_eq_getElem (by omega)
              generalize os[m - 1]'(by omega) = x at hos
              have Hob : Hid (g.obs[(m : Int).toNat - 1]? = some x.o) := by
                show _ = _
                rw [show (m : Int).toNat - 1 = m - 1 by omega, Heo.out, List.getElem?_map, hos]; rfl
              have HW2 : Hid (Im.Wl g (Im.metSet M m) ((L ++ x.o.ps).drop (i + 1)) (k + 1)) := by
                have h9 := HW.out.take (pd' := L.drop (i + 1) ++ x.o.ps) (z := (m : Int)) (o := x.o) (fun y hy => by rcases (hmem y).1 hy with h | h; exact .inl h; exact .inr (List.mem_append_left _ h)) Hob.out (fun y hy => List.mem_append_right _ hy) (fun y hy => by rcases List.mem_append.1 hy with h | h; exact .inl ((hmem y).2 (.inr h)); exact .inr h) (fun y hy => Hp.out x.o (List.mem_of_getElem? Hob.out) y hy) hzin hz0 (by simpa using hM)
                show Im.Wl _ _ _ _
                rw [List.drop_append_of_le_length (by omega)]
                simpa using h9
              have Hsum : Hid (Im.wsum g.obs (Im.metSet M m) os.length + x.o.ps.length = Im.wsum g.obs M os.length) := by
                have h9 := Im.wsum_set (obs := g.obs) (M := M) (k := m) (o := x.o) hM hm1 (by have := Hob.out; simpa using this) os.length hm2
                exact h9
              have hk1 : k + 1 ≤ os.length := by
                have h9 := HW2.out.k
                have h8 := Im.cnt_le (Im.metSet M m) g.obs.length
                have := Heol.out
                omega
              have hfr : wr.frozen? ⟨B, m, none⟩ = false := Hm.out.frozen m
              have HbS : Hid (Below w1.heap.size w1 (wr.setCell ⟨B, m, none⟩ (.bool true))) := Hb.out.trans ((Kg.Touch.setCell (F := [B]) wr ⟨B, m, none⟩ _ (by simp)).below Hb.out.size (fun y hy => by simp at hy; have := HBl.out; omega))
              have HmS : Hid ((wr.setCell ⟨B, m, none⟩ (.bool true)).rowIs B 4 (os.length + 1) (fun j => .bool (Im.metSet M m j))) := (Hm.out.set m (.bool true)).congr (fun j _ => by by_cases e : j = m <;> simp [Im.metSet, e])
              have HrS : Hid ((wr.setCell ⟨B, m, none⟩ (.bool true)).ownsRow w1.heap.size 3 1 (.slice (some ⟨gb, 0, none⟩) L.length cp) L.length (Kg.ints L)) := Kg.ownsRow_setOther Hr.out (fun h => Hne.out h.symm) _
              have HLe : Hid (L.length + x.o.ps.length ≤ 1000000000000) := by have := Hsum.out; show _ ≤ _; omega
              clear hM hmem hzq hzin HW Hr
              go_upto_region 21 with fail
              clear crow hfr cz z0 z1 z2 z3 z4
              generalize wr.setCell ⟨B, m, none⟩ (.bool true) = wS at *
              obtain ⟨z0, z1, z2, z3, z4⟩ := HK.out _ HbS.out
              obtain ⟨a', cap', ea, hob⟩ := (HGb.out _ HbS.out).2.ob
              cases ea
              obtain ⟨hp', hr', q', off', rfl, hq', hc⟩ := hob (m - 1) x hos
              have c3' : wS.cell? ⟨q', off' + (m - 1) * 5 + 3, none⟩ = some x.vp := hc 3 (by omega)
              have HN0 := hp'
              obtain ⟨ap, cap', ep, -⟩ := hp'
              rw [ep] at c3' HN0
              have HN : Hid (∀ (j : Nat) u, (Kg.ints x.o.ps)[j]? = some u → ∃ ad, ap = some ad ∧ wS.cell? (ad.add j) = some u) := lrd_news HN0
              have hwm : wrap64 ((m : Int) - 1) = ((m - 1 : Nat) : Int) := by unfold wrap64; omega
              have hmi : ((m - 1 : Nat) : Int) < (os.length : Int) := by omega
              have hmn : m - 1 < os.length := by omega
              clear hob hc hr' ep HN0 hos
              go_wp2_with (at_builtin; refine Kg.wpList_append_row rfl _ _ 24 rfl w1.heap.size 3 i0 (.int .i64 0) 8 Tryz.underlying24 HI.out.1 HI.out.2.1 HI.out.2.2.1 HI.out.2.2.2 rfl _ _ _ rfl HrS.out ap x.o.ps.length cap' (Kg.ints x.o.ps) (by simp [Kg.ints]) rfl HN.out (by simp [Kg.ints, Value.oneCell']) (by have := HLe.out; simp only [maxLen]; omega) (by have := HLe.out; omega) HbS.out.size ?_; intro v' w8 hown' hgrow _ hat _)
              have t8 : Kg.Touch (Value.slice (some ⟨gb, 0, none⟩) L.length cp).ownBlock.toList wS w8 := Kg.Touch.grown hgrow (fun y hy => by rw [Option.mem_toList]; exact hy)
              have Hm8 : w8.rowIs B 4 (os.length + 1) (fun j => .bool (Im.metSet M m j)) := HmS.out.of_block (t8.block _ HmS.out.lt (fun h => by rw [Option.mem_toList] at h; exact Hne.out h))
              have hl8 : (L ++ x.o.ps).length = L.length + x.o.ps.length := List.length_append
              have Hne8 : v'.ownBlock ≠ some B := fun h => by
                rcases hat with e | e
                · exact Hne.out (e.symm.trans h)
                · rw [e] at h
                  have h7 := Option.some.inj h
                  have := HmS.out.lt
                  omega
              obtain ⟨a8, c8, hv8⟩ := own_slI hown'
              subst hv8
              go_roundw
              case rel =>
                refine ⟨k + 1, i + 1, L ++ x.o.ps, Im.metSet M m, by go_num, by go_num, hk1, by omega, ?_, ?_, Hm8, HW2, ?_, ?_⟩
                · show w8.ownsRow _ _ _ _ _ _
                  rw [hl8]
                  simp only [Kg.ints, List.map_append] at hown' ⊢
                  exact hown'
                · exact Hne8
                · have := Hsum.out
                  omega
                · exact HbS.out.trans (t8.below HbS.out.size (fun y hy => by rw [Option.mem_toList] at hy; exact (HrS.out.lt y hy).1))
              case measure =>
                have h1 := seen_row Hm8 g.obs
                have h2 := seen_row Hm.out g.obs
                have h3 := Hsum.out
                rw [h1, h2]
                simp only [slen, intOf]
                omega
          · have hzi : ¬ z > 0 := hz0
            have HW2 : Hid (Im.Wl g M (L.drop (i + 1)) k) := Hsk.out (.inl (by omega))
            clear hmem hzin
            go_wp2
            go_roundw
            case rel => exact ⟨k, i + 1, L, M, rfl, by go_num, hkn, by omega, Hr, Hne, Hm, HW2, hle, Hb⟩
            case measure => simp [slen, intOf]; omega
        · have hii : ¬ (i : Int) < (L.length : Int) := by omega
          have Hfin : Hid ((k = g.obs.length) ↔ AK g) := by
            have h9 := HW.out
            rw [List.drop_eq_nil_of_le (by omega)] at h9
            exact h9.done Hp.out
          have BW := (HGb.out _ Hb.out).1
          have HBW : Hid (Below w.heap.size w wr) := BW
          clear BW
          by_cases hke : k = os.length
          · have hki : ((k : Int) == (os.length : Int)) = true := by simp [hke]
            go_wp2
            go_ret
            exact .inr ⟨rfl, HBW.out, Hfin.out.1 (by rw [Heol.out]; exact hke)⟩
          · have hki : ((k : Int) == (os.length : Int)) = false := by simp; omega
            go_wp2
            go_ret
            exact .inl ⟨rfl, HBW.out, fun h9 => hke (by rw [← Heol.out]; exact Hfin.out.2 h9)⟩
end Go.Proofs.YtkekaifiahjljaaGreatDoor
