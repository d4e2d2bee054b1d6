import Derived.Test.YtckgcpoheodbcaaGreatDoorQ10
import Derived.Test.YtckgcpoheodbcaaGreatDoorQ17
set_option linter.unusedVariables false
set_option maxHeartbeats 8000000
set_option maxRecDepth 20000
namespace Go.Proofs.YtckgcpoheodbcaaGreatDoor
open Go.RowKit Go.Shelf
def rtlw (g : Im.Gr) (d : Nat) : List Int := ((slotsF g.slots ++ g.hs) ++ g.qu).filter (fun z => decide (0 < z ∧ z ≠ (d : Int)))
def sttw (ps : List Int) (d i : Nat) : List Int := (ps.take i).filter (fun z => decide (0 < z ∧ z ≠ (d : Int)))
theorem sttw_step {ps : List Int} {d i : Nat} {z : Int} (h : ps[i]? = some z) : sttw ps d (i + 1) = sttw ps d i ++ (if 0 < z ∧ z ≠ (d : Int) then [z] else []) := by
 unfold sttw
 rw [List.take_add_one, h, List.filter_append]
 congr 1
 by_cases hz : 0 < z ∧ z ≠ (d : Int)
 ·rw [if_pos hz]
  simp [hz]
 ·rw [if_neg hz]
  simp only [Option.toList, List.filter_cons, decide_eq_false hz, Bool.false_eq_true, if_false, List.filter_nil]
theorem sttw_len (ps : List Int) (d i : Nat) : (sttw ps d i).length ≤ ps.length := by
 unfold sttw
 have h1 := List.length_filter_le (fun z => decide (0 < z ∧ z ≠ (d : Int))) (ps.take i)
 have h2 : (ps.take i).length ≤ ps.length := by rw [List.length_take]; omega
 omega
theorem sttw_end (ps : List Int) (d i : Nat) (h : ps.length ≤ i) : sttw ps d i = ps.filter (fun z => decide (0 < z ∧ z ≠ (d : Int))) := by
 unfold sttw
 rw [List.take_of_length_le h]
theorem rootsw_any (d : Nat) (n0 : Nat) (w : World) (vo vs vh vr vq : Value) (os : List OL) (ts : List (Value × List (Value × List Int))) (g : Im.Gr) (hg : Grd n0 w vo vs vh vr vq os ts g) (hn : n0 ≤ w.heap.size) (hs : Sln ts)
  (hel : (slotsF g.slots).length + g.hs.length + g.qu.length + g.rg.length ≤ 1000000000) :
  Calls Tryz.prog 22 #[.agg (gcs vo vs vh vr vq g.next), .int .i64 (d : Nat)] w fun e w' => ∃ v, e = .returned v ∧ Il w' w.heap.size v (rtlw g d) ∧ Below w.heap.size w w' := by
 obtain ⟨i0, hi0, hj0, hj1, hj2⟩ := info_p17 infoI17
 have HI : Hid (Tryz.prog.info? 3 = some i0 ∧ i0.zero = some (.int .i64 0) ∧ i0.size = 1 ∧ i0.bytes = 8) := ⟨hi0, hj0, hj1, hj2⟩
 clear hi0 hj0 hj1 hj2
 have l1 : Below w.heap.size w (w.alloc (.cells (gcs vo vs vh vr vq g.next) 27)) := Below.alloc (Below.refl _ _) (Nat.le_refl _) _
 have hy := fun j => cell_of_row _ _ j _ _ _ (heap_alloc_new w (.cells (gcs vo vs vh vr vq g.next) 27 (0, 0)))
 have y0 : (w.alloc (.cells (gcs vo vs vh vr vq g.next) 27)).cell? ⟨w.heap.size, 0, none⟩ = some vo := hy 0
 have y1 : (w.alloc (.cells (gcs vo vs vh vr vq g.next) 27)).cell? ⟨w.heap.size, 1, none⟩ = some vs := hy 1
 have y2 : (w.alloc (.cells (gcs vo vs vh vr vq g.next) 27)).cell? ⟨w.heap.size, 2, none⟩ = some vh := hy 2
 have y3 : (w.alloc (.cells (gcs vo vs vh vr vq g.next) 27)).cell? ⟨w.heap.size, 3, none⟩ = some vr := hy 3
 have y4 : (w.alloc (.cells (gcs vo vs vh vr vq g.next) 27)).cell? ⟨w.heap.size, 4, none⟩ = some vq := hy 4
 have Hg : Hid (Grd n0 w vo vs vh vr vq os ts g) := hg
 have Hs : Hid (Sln ts) := hs
 have htl := hs.t
 have hx := hg.ob
 obtain ⟨a, cap, rfl, -⟩ := hx
 have hx := hg.sl
 obtain ⟨b, bcap, rfl, -⟩ := hx
 have hx := hg.hs
 obtain ⟨ah, hcap, rfl, -⟩ := hx
 have hx := hg.rg
 obtain ⟨ar, rcap, rfl, -⟩ := hx
 have hx := hg.qu
 obtain ⟨aq, qcap, rfl, -⟩ := hx
 have Heo : Hid (g.obs = os.map (·.o)) := hg.eo
 have Heol : Hid (g.obs.length = os.length) := by show _ = _; rw [hg.eo, List.length_map]
 have Hes : Hid (g.slots = ts.map (fun t => t.2.map (·.2))) := hg.es
 have Hel : Hid ((slotsF g.slots).length + g.hs.length + g.qu.length + g.rg.length ≤ 1000000000000) := by show _ ≤ _; omega
 have HelB : Hid ((slotsF g.slots).length + g.hs.length + g.qu.length ≤ 1000000000) := by show _ ≤ _; omega
 clear hg hy hs hel
 generalize hw1 : w.alloc (.cells (gcs (.slice a os.length cap) (.slice b ts.length bcap) (.slice ah g.hs.length hcap) (.slice ar g.rg.length rcap) (.slice aq g.qu.length qcap) g.next) 27) = w1 at *
 have e1 : w1.heap.size = w.heap.size + 1 := by rw [← hw1]; simp
 have HK : Hid (∀ w', Below w1.heap.size w1 w' → w'.cell? ⟨w.heap.size, 0, none⟩ = some (.slice a os.length cap) ∧ w'.cell? ⟨w.heap.size, 1, none⟩ = some (.slice b ts.length bcap) ∧ w'.cell? ⟨w.heap.size, 2, none⟩ = some (.slice ah g.hs.length hcap) ∧ w'.cell? ⟨w.heap.size, 3, none⟩ = some (.slice ar g.rg.length rcap) ∧ w'.cell? ⟨w.heap.size, 4, none⟩ = some (.slice aq g.qu.length qcap)) := fun w' b' => by
  have hlt : w.heap.size < w1.heap.size := by omega
  exact ⟨(b'.cell (p := ⟨w.heap.size, 0, none⟩) hlt).trans y0, (b'.cell (p := ⟨w.heap.size, 1, none⟩) hlt).trans y1, (b'.cell (p := ⟨w.heap.size, 2, none⟩) hlt).trans y2, (b'.cell (p := ⟨w.heap.size, 3, none⟩) hlt).trans y3, (b'.cell (p := ⟨w.heap.size, 4, none⟩) hlt).trans y4⟩
 have HGb : Hid (∀ w', Below w1.heap.size w1 w' → Below w.heap.size w w' ∧ Grd n0 w' (.slice a os.length cap) (.slice b ts.length bcap) (.slice ah g.hs.length hcap) (.slice ar g.rg.length rcap) (.slice aq g.qu.length qcap) os ts g) := fun w' b' => ⟨l1.trans (b'.mono l1.size), Hg.out.below ((l1.trans (b'.mono l1.size)).mono hn)⟩
 go_enter Tryz.func22, Tryz.ntmps22
 go_wp2
 go_loopw [5, 6] (fun v3 v4 wr => ∃ k : Nat, k ≤ ts.length ∧ v4 = .int .i64 k ∧ Hid (wr.ownsRow w1.heap.size 3 1 v3 (slotsF (g.slots.take k)).length (Kg.ints (slotsF (g.slots.take k)))) ∧ Hid (Below w1.heap.size w1 wr)) (fun _ v4 _ => ts.length - (intOf v4).toNat)
 case atStart => exact ⟨0, Nat.zero_le _, rfl, World.ownsRow_nil _ _ _ _, Below.refl _ _⟩
 case round =>
  obtain ⟨k, hk, rfl, Hr, Hb⟩ := hrel
  obtain ⟨a3, c3, hv3⟩ := own_slI Hr.out
  subst hv3
  obtain ⟨z0, z1, z2, z3, z4⟩ := HK.out _ Hb.out
  by_cases hkl : k < ts.length
  ·have hki : (k : Int) < (ts.length : Int) := by omega
   have hz : ts[k]? = some (ts[k]'hkl) := List.getElem?_eq_getElem hkl
   generalize ts[k]'hkl = x at hz
   obtain ⟨a', cap', ea, hob⟩ := (HGb.out _ Hb.out).2.sl
   cases ea
   obtain ⟨hp, q, off, rfl, hq, hc⟩ := hob k x hz
   have Hz : Hid (g.slots[k]? = some (x.2.map (·.2))) := by show _ = _; rw [Hes.out, List.getElem?_map, hz]; rfl
   have hxl := (Hs.out.f x (List.mem_of_getElem? hz)).1
   have Hp2 : Hid (∀ w', Below w1.heap.size w1 w' → Frd n0 w' x.1 x.2 ∧ w'.cell? ⟨q, off + k, none⟩ = some x.1) := fun w' b' => by
    obtain ⟨_, _, eb, hob'⟩ := (HGb.out _ b').2.sl
    obtain ⟨h1, _, _, h3, _, h4⟩ := hob' k x hz
    cases eb
    cases h3
    exact ⟨h1, h4⟩
   obtain ⟨ap, cp, ep, -⟩ := hp
   rw [ep] at hc Hp2
   have Hsl : Hid ((slotsF (g.slots.take (k + 1))).length ≤ 1000000000000) := by
    have h1 := slotsF_take g.slots (k + 1)
    have := Hel.out
    show _ ≤ _
    omega
   clear hob hz ep
   go_wp2
   go_loopw [5, 7] (fun v3 v5 wr => ∃ f : Nat, f ≤ x.2.length ∧ v5 = .int .i64 f ∧ Hid (wr.ownsRow w1.heap.size 3 1 v3 (slotsG g.slots k (x.2.map (·.2)) f).length (Kg.ints (slotsG g.slots k (x.2.map (·.2)) f))) ∧ Hid (Below w1.heap.size w1 wr)) (fun _ v5 _ => x.2.length - (intOf v5).toNat)
   case atStart => exact ⟨0, Nat.zero_le _, rfl, by rw [slotsG_zero]; exact Hr, Hb⟩
   case round =>
    obtain ⟨f, hf, rfl, Hr2, Hb2⟩ := hrel
    obtain ⟨a4, c4, hv4⟩ := own_slI Hr2.out
    subst hv4
    clear z0 z1 z2 z3 z4 hc
    obtain ⟨z0, z1, z2, z3, z4⟩ := HK.out _ Hb2.out
    obtain ⟨hfr, hc⟩ := Hp2.out _ Hb2.out
    by_cases hfl : f < x.2.length
    ·have hfi : (f : Int) < (x.2.length : Int) := by omega
     have hy : x.2[f]? = some (x.2[f]'hfl) := List.getElem?_eq_getElem hfl
     generalize x.2[f]'hfl = y at hy
     obtain ⟨a'', cap'', ea, hob⟩ := hfr
     cases ea
     obtain ⟨hpp, q', off', rfl, hq', hc'⟩ := hob f y hy
     have Hy : Hid ((x.2.map (·.2))[f]? = some y.2) := by show _ = _; rw [List.getElem?_map, hy]; rfl
     have He : Hid (slotsG g.slots k (x.2.map (·.2)) (f + 1) = slotsG g.slots k (x.2.map (·.2)) f ++ y.2) := slotsG_snoc Hy.out
     have Hle : Hid ((slotsG g.slots k (x.2.map (·.2)) f).length + y.2.length ≤ 1000000000000) := by
      have h1 := slotsG_le Hz.out (f + 1)
      have h2 := congrArg List.length He.out
      rw [List.length_append] at h2
      have := Hsl.out
      show _ ≤ _
      omega
     have HN0 := hpp
     obtain ⟨ay, cy, ey, -⟩ := hpp
     rw [ey] at hc' HN0
     have HN : Hid (∀ (j : Nat) u, (Kg.ints y.2)[j]? = some u → ∃ ad, ay = some ad ∧ wr.cell? (ad.add j) = some u) := lrd_news HN0
     clear hob hy ey HN0
     go_wp2_with (at_builtin; refine Kg.wpList_append_row rfl _ _ 24 rfl w1.heap.size 3 i0 (.int .i64 0) 8 Tryz.underlying24 HI.out.1 HI.out.2.1 HI.out.2.2.1 HI.out.2.2.2 rfl _ _ _ rfl Hr2.out ay y.2.length cy (Kg.ints y.2) (by simp [Kg.ints]) rfl HN.out (by simp [Kg.ints, Value.oneCell']) (by have := Hle.out; simp only [maxLen]; omega) (by have := Hle.out; omega) Hb2.out.size ?_; intro v' w8 hown' hgrow _ hat _)
     go_roundw
     case rel =>
      refine ⟨f + 1, by omega, by go_num, ?_, ?_⟩
      ·show w8.ownsRow _ _ _ _ _ _
       rw [He.out, List.length_append]
       simp only [Kg.ints, List.map_append] at hown' ⊢
       exact hown'
      ·have t8 : Kg.Touch (Value.slice a4 (slotsG g.slots k (x.2.map (·.2)) f).length c4).ownBlock.toList wr w8 := Kg.Touch.grown hgrow (fun y hy => by rw [Option.mem_toList]; exact hy)
       exact Hb2.out.trans (t8.below Hb2.out.size (fun y hy => by rw [Option.mem_toList] at hy; exact (Hr2.out.lt y hy).1))
     case measure => simp [intOf]; omega
    ·have hfi : ¬ (f : Int) < (x.2.length : Int) := by omega
     have e9 : slotsG g.slots k (x.2.map (·.2)) f = slotsF (g.slots.take (k + 1)) := slotsG_all Hz.out (by simp; omega)
     rw [e9] at Hr2 ⊢
     obtain ⟨a'', cap'', ea, -⟩ := hfr
     cases ea
     go_wp2
     go_roundw
     case rel => exact ⟨k + 1, by omega, by go_num, Hr2, Hb2⟩
     case measure => simp [intOf]; omega
  ·have hki : ¬ (k : Int) < (ts.length : Int) := by omega
   have e9 : g.slots.take k = g.slots := List.take_of_length_le (by rw [Hes.out, List.length_map]; omega)
   rw [e9] at Hr ⊢
   have HE0l : Hid ((slotsF g.slots).length = (slotsF g.slots).length) := rfl
   obtain ⟨E0, hE0⟩ : ∃ E', E' = slotsF g.slots := ⟨_, rfl⟩
   rw [← hE0] at Hr ⊢
   have HE0 : Hid (E0 = slotsF g.slots) := hE0
   clear HE0l
   have HE0l : Hid (E0.length = (slotsF g.slots).length) := by show _ = _; rw [hE0]
   clear hE0
   have HN1 : Hid (∀ (j : Nat) u, (Kg.ints g.hs)[j]? = some u → ∃ ad, ah = some ad ∧ wr.cell? (ad.add j) = some u) := lrd_news (HGb.out _ Hb.out).2.hs
   have Hle1 : Hid (E0.length + g.hs.length ≤ 1000000000000) := by
    have := Hel.out
    have := HE0l.out
    show _ ≤ _
    omega
   go_upto_region 10 with (at_builtin; refine Kg.wpList_append_row rfl _ _ 24 rfl w1.heap.size 3 i0 (.int .i64 0) 8 Tryz.underlying24 HI.out.1 HI.out.2.1 HI.out.2.2.1 HI.out.2.2.2 rfl _ _ _ rfl Hr.out ah g.hs.length hcap (Kg.ints g.hs) (by simp [Kg.ints]) rfl HN1.out (by simp [Kg.ints, Value.oneCell']) (by have := Hle1.out; simp only [maxLen]; omega) (by have := Hle1.out; omega) Hb.out.size ?_; intro v1 wA hown1 hgrow1 _ hat1 _)
   have t1 := Kg.Touch.grown (F := (Value.ownBlock _).toList) hgrow1 (fun y hy => by rw [Option.mem_toList]; exact hy)
   have Hb1 : Hid (Below w1.heap.size w1 wA) := Hb.out.trans (t1.below Hb.out.size (fun y hy => by rw [Option.mem_toList] at hy; exact (Hr.out.lt y hy).1))
   obtain ⟨E1, hE1⟩ : ∃ E', E' = E0 ++ g.hs := ⟨_, rfl⟩
   have HE1 : Hid (E1 = E0 ++ g.hs) := hE1
   have HE1l : Hid (E1.length = E0.length + g.hs.length) := by show _ = _; rw [hE1, List.length_append]
   have Hr1 : Hid (wA.ownsRow w1.heap.size 3 1 v1 E1.length (Kg.ints E1)) := by
    show wA.ownsRow _ _ _ _ _ _
    rw [HE1l.out, hE1]
    simp only [Kg.ints, List.map_append] at hown1 ⊢
    exact hown1
   obtain ⟨al1, cl1, hvl1⟩ := own_slI Hr1.out
   subst hvl1
   clear hown1 hgrow1 hat1 t1 hE1 z0 z1 z2 z3 z4
   obtain ⟨z0, z1, z2, z3, z4⟩ := HK.out _ Hb1.out
   have HN2 : Hid (∀ (j : Nat) u, (Kg.ints g.qu)[j]? = some u → ∃ ad, aq = some ad ∧ wA.cell? (ad.add j) = some u) := lrd_news (HGb.out _ Hb1.out).2.qu
   have Hle2 : Hid (E1.length + g.qu.length ≤ 1000000000000) := by
    have := Hel.out
    have := HE1l.out
    have := HE0l.out
    show _ ≤ _
    omega
   go_upto_region 11 with (at_builtin; refine Kg.wpList_append_row rfl _ _ 24 rfl w1.heap.size 3 i0 (.int .i64 0) 8 Tryz.underlying24 HI.out.1 HI.out.2.1 HI.out.2.2.1 HI.out.2.2.2 rfl _ _ _ rfl Hr1.out aq g.qu.length qcap (Kg.ints g.qu) (by simp [Kg.ints]) rfl HN2.out (by simp [Kg.ints, Value.oneCell']) (by have := Hle2.out; simp only [maxLen]; omega) (by have := Hle2.out; omega) Hb1.out.size ?_; intro v2 wB hown2 hgrow2 _ hat2 _)
   have t2 := Kg.Touch.grown (F := (Value.ownBlock _).toList) hgrow2 (fun y hy => by rw [Option.mem_toList]; exact hy)
   have Hb2 : Hid (Below w1.heap.size w1 wB) := Hb1.out.trans (t2.below Hb1.out.size (fun y hy => by rw [Option.mem_toList] at hy; exact (Hr1.out.lt y hy).1))
   obtain ⟨E2, hE2⟩ : ∃ E', E' = E1 ++ g.qu := ⟨_, rfl⟩
   have HE2 : Hid (E2 = E1 ++ g.qu) := hE2
   have HE2l : Hid (E2.length = E1.length + g.qu.length) := by show _ = _; rw [hE2, List.length_append]
   have Hr2 : Hid (wB.ownsRow w1.heap.size 3 1 v2 E2.length (Kg.ints E2)) := by
    show wB.ownsRow _ _ _ _ _ _
    rw [HE2l.out, hE2]
    simp only [Kg.ints, List.map_append] at hown2 ⊢
    exact hown2
   obtain ⟨al2, cl2, hvl2⟩ := own_slI Hr2.out
   subst hvl2
   clear hown2 hgrow2 hat2 t2 hE2 z0 z1 z2 z3 z4
   obtain ⟨z0, z1, z2, z3, z4⟩ := HK.out _ Hb2.out
   have HEE : Hid (E2 = (slotsF g.slots ++ g.hs) ++ g.qu) := by show _ = _; rw [HE2.out, HE1.out, HE0.out]
   have HEl : Hid (E2.length ≤ 1000000000) := by
    have h1 := HE2l.out
    have h2 := HE1l.out
    have h3 := HE0l.out
    have h4 := HelB.out
    show _ ≤ _
    omega
   have hElb := HEl.out
   obtain ⟨ae, ce, ee, -, hre⟩ := row_at (Kg.row_base Hr2.out (Nat.zero_le _)) (by decide)
   simp only [Value.slice.injEq] at ee
   obtain ⟨rfl, -, rfl⟩ := ee
   have HRd : Hid (∀ w', Below wB.heap.size wB w' → ∀ (f : Nat) z, E2[f]? = some z → ∃ q, al2 = some ⟨q, 0, none⟩ ∧ w'.cell? ⟨q, f, none⟩ = some (.int .i64 z)) := fun w' b' f z hz => by
    obtain ⟨q, h1, h2, h3⟩ := hre f (.int .i64 z) (by rw [Kg.ints, List.getElem?_map, hz]; rfl)
    exact ⟨q, h1, (b'.cell (p := ⟨q, f, none⟩) h2).trans h3⟩
   have HBw : Hid (Below w.heap.size w wB) := (HGb.out _ Hb2.out).1
   clear hre HE0 HE1 HE2 HE0l HE1l HE2l Hle1 Hle2 HN1 HN2 Hr Hr1 z0 z1 z2 z3 z4
   go_wp2
   go_loopw [8, 9] (fun v8 v9 wr => ∃ k : Nat, k ≤ E2.length ∧ v9 = .int .i64 k ∧ Il wr wB.heap.size v8 (sttw E2 d k) ∧ Below wB.heap.size wB wr) (fun _ v9 _ => E2.length - (intOf v9).toNat)
   case atStart => exact ⟨0, Nat.zero_le _, rfl, World.ownsRow_nil _ _ _ _, Below.refl _ _⟩
   case round =>
    obtain ⟨k, hk, rfl, r1, r2⟩ := hrel
    have Hk1 : Hid (Il wr wB.heap.size u8 (sttw E2 d k)) := r1
    have Hk2 : Hid (Below wB.heap.size wB wr) := r2
    clear r1 r2
    by_cases hlt : k < E2.length
    ·obtain ⟨z, hz⟩ : ∃ z, E2[k]? = some z := ⟨_, List.getElem?_eq_getElem hlt⟩
     obtain ⟨q, rfl, ck⟩ := HRd.out wr Hk2.out k z hz
     have hkI : (k : Int) < (E2.length : Int) := by omega
     have HN : Hid (sttw E2 d (k + 1) = sttw E2 d k ++ (if 0 < z ∧ z ≠ (d : Int) then [z] else [])) := sttw_step hz
     have hln := sttw_len E2 d k
     clear hz
     by_cases hp : 0 < z ∧ z ≠ (d : Int)
     ·rw [if_pos hp] at HN
      have hp' : decide (0 < z) = true := decide_eq_true hp.1
      have hp2 : (z == (d : Int)) = false := beq_eq_false_iff_ne.2 hp.2
      obtain ⟨a7, c7, rfl⟩ := own_sl17 Hk1.out
      have HSz : Hid (wB.heap.size ≤ wr.heap.size) := Hk2.out.size
      have HRow : Hid ((wr.alloc (.cells #[.int .i64 z] 3)).ownsRow wB.heap.size 3 1 (.slice a7 (sttw E2 d k).length c7) (sttw E2 d k).length (Kg.ints (sttw E2 d k))) := Il.below Hk1.out (Below.alloc (Below.refl _ _) (Nat.le_refl _) _)
      go_wp2_with (at_builtin; refine wpList_append_own_at _ rfl _ _ 24 rfl wB.heap.size 3 i0 (.int .i64 0) 1 8 Tryz.underlying24 HI.out.1 HI.out.2.1 HI.out.2.2.1 HI.out.2.2.2 rfl (by decide) _ _ _ rfl HRow.out ⟨wr.heap.size, 0, none⟩ 1 1 [.int .i64 z] rfl rfl (cell_one17 _ _ _) (by simp [Value.oneCell']) (by simp only [maxLen]; omega) (by omega) (by have := HSz.out; simp; omega) ?_; intro v8 w8 h8 g8 _ _)
      go_roundw
      case rel =>
       obtain ⟨y1, y2, y3⟩ := Il.snoc Hk1.out h8 g8 HSz.out
       exact ⟨k + 1, by omega, by go_num, by rw [HN.out]; exact y1, Hk2.out.trans y3⟩
      case measure => simp [intOf]; omega
     ·rw [if_neg hp, List.append_nil] at HN
      by_cases hp1 : 0 < z
      ·have hp' : decide (0 < z) = true := decide_eq_true hp1
       have hp2 : (z == (d : Int)) = true := beq_iff_eq.2 (Decidable.byContradiction fun h => hp ⟨hp1, h⟩)
       go_wp2
       go_roundw
       case rel => exact ⟨k + 1, by omega, by go_num, by rw [HN.out]; exact Hk1.out, Hk2.out⟩
       case measure => simp [intOf]; omega
      ·have hp' : decide (0 < z) = false := decide_eq_false hp1
       go_wp2
       go_roundw
       case rel => exact ⟨k + 1, by omega, by go_num, by rw [HN.out]; exact Hk1.out, Hk2.out⟩
       case measure => simp [intOf]; omega
    ·have hkI : ¬ (k : Int) < (E2.length : Int) := by omega
     have HE : Hid (sttw E2 d k = rtlw g d) := by
      show _ = _
      rw [sttw_end E2 d k (by omega), HEE.out]
      rfl
     rw [HE.out] at Hk1
     go_wp2
     go_ret
     exact ⟨_, rfl, Kg.row_base Hk1.out HBw.out.size, HBw.out.trans (Hk2.out.mono HBw.out.size)⟩
end Go.Proofs.YtckgcpoheodbcaaGreatDoor
namespace Go.Proofs.YtckgcpoheodbcaaGreatDoor.Lt
variable {W W' : Nat → List Nat} {ord : List Nat} {par : Nat → Nat}
theorem Df.nz_at (D : Df W ord par []) {v b : Nat} (h0 : v ≠ 0) (hv : ord[v]? = some b) : b ≠ 0 := fun e => h0 (D.inj hv (by rw [e]; exact D.z))
theorem Df.ed_nz (hW : ∀ x y, y ∈ W' x ↔ y ∈ W x ∧ y ≠ 0) (D : Df W ord par []) {u v : Nat} (h0 : v ≠ 0) (h : Ed W ord u v) : Ed W' ord u v := by
 obtain ⟨a, b, h1, h2, h3⟩ := h
 exact ⟨a, b, h1, h2, (hW a b).2 ⟨h3, D.nz_at h0 h2⟩⟩
theorem ed_sub (hW : ∀ x y, y ∈ W' x ↔ y ∈ W x ∧ y ≠ 0) {u v : Nat} (h : Ed W' ord u v) : Ed W ord u v := by
 obtain ⟨a, b, h1, h2, h3⟩ := h
 exact ⟨a, b, h1, h2, ((hW a b).1 h3).1⟩
theorem Df.nz (hW : ∀ x y, y ∈ W' x ↔ y ∈ W x ∧ y ≠ 0) (D : Df W ord par []) : Df W' ord par [] := by
 refine ⟨D.nd, D.z, ⟨D.d.pl, fun v h0 hv => D.ed_nz hW h0 (D.d.pe v h0 hv), fun u v e hl => D.d.fw u v (ed_sub hW e) hl, D.d.iv, fun u v e => D.d.el u v (ed_sub hW e)⟩, fun x hx => by simp at hx, D.i2, fun u a hu t ht => D.i3 u a hu t ((hW a t).1 ht).1⟩
theorem Df.sp_nz (hW : ∀ x y, y ∈ W' x ↔ y ∈ W x ∧ y ≠ 0) (D : Df W ord par []) {w v : Nat} (h0 : w ≠ 0) (h : Sp (Ed W ord) w v) : Sp (Ed W' ord) w v := by
 induction h with
 | last e => exact .last (D.ed_nz hW h0 e)
 | step e hx _ ih => exact .step (D.ed_nz hW (by omega) e) hx ih
theorem sp_sub (hW : ∀ x y, y ∈ W' x ↔ y ∈ W x ∧ y ≠ 0) {w v : Nat} (h : Sp (Ed W' ord) w v) : Sp (Ed W ord) w v := by
 induction h with
 | last e => exact .last (ed_sub hW e)
 | step e hx _ ih => exact .step (ed_sub hW e) hx ih
theorem Df.sem_nz (hW : ∀ x y, y ∈ W' x ↔ y ∈ W x ∧ y ≠ 0) (D : Df W ord par []) {S : Nat → Nat} (H : Sem (Ed W ord) ord.length S) : Sem (Ed W' ord) ord.length S :=
 ⟨fun w h0 hw => D.sp_nz hW h0 (H.sp w h0 hw), fun w h0 hw x h => H.mn w h0 hw x (sp_sub hW h)⟩
theorem Df.ids0 (hW : ∀ x y, y ∈ W' x ↔ y ∈ W x ∧ y ≠ 0) (D : Df W ord par []) {S I : Nat → Nat} (H : Sem (Ed W ord) ord.length S) (K : Idm par ord.length S I) {w x i : Nat} (h0 : w ≠ 0) (hx : ord[w]? = some x) (hi : ord[I w]? = some i) : Ids W' i x :=
 (D.nz hW).ids (fun x y h => ((hW x y).1 h).2) (D.sem_nz hW H) K h0 hx hi
theorem Df.rv_iff (hW : ∀ x y, y ∈ W' x ↔ y ∈ W x ∧ y ≠ 0) (D : Df W ord par []) {x : Nat} : Rv W' 0 x ↔ x ∈ ord ∧ x ≠ 0 := by
 constructor
 ·intro h
  obtain ⟨v, hv⟩ := (D.nz hW).meets h
  refine ⟨List.mem_of_getElem? hv, ?_⟩
  cases h with
  | root _ h => exact h
  | step _ _ h => exact h
 ·rintro ⟨h, h0⟩
  obtain ⟨v, hv⟩ := List.getElem?_of_mem h
  refine (D.nz hW).met (fun x y h => ((hW x y).1 h).2) v x hv (fun e => ?_)
  rw [e, D.z] at hv
  cases hv
  exact h0 rfl
def uw (f : Nat → Nat) (ins : Nat → Bool) (l : List Nat) : Nat := (l.map (fun y => if ins y = true then 0 else f y)).sum
def inw (ins : Nat → Bool) (x : Nat) : Nat → Bool := fun y => if y = x then true else ins y
theorem inw_ne {ins : Nat → Bool} {x y : Nat} (h : y ≠ x) : inw ins x y = ins y := if_neg h
theorem inw_at {ins : Nat → Bool} {x : Nat} : inw ins x x = true := if_pos rfl
theorem uw_same {f : Nat → Nat} {ins : Nat → Bool} {x : Nat} : ∀ l : List Nat, x ∉ l → uw f (inw ins x) l = uw f ins l
 | [], _ => rfl
 | y :: l, h => by
  have h1 := uw_same (f := f) (ins := ins) l (fun k => h (List.mem_cons_of_mem _ k))
  have h2 : y ≠ x := fun e => h (by rw [e]; simp)
  unfold uw at h1 ⊢
  simp only [List.map_cons, List.sum_cons, inw_ne h2, h1]
theorem uw_in {f : Nat → Nat} {ins : Nat → Bool} {x : Nat} (hx : ins x = false) : ∀ l : List Nat, l.Nodup → x ∈ l → uw f ins l = uw f (inw ins x) l + f x
 | [], _, h => by simp at h
 | y :: l, hn, h => by
  obtain ⟨n1, n2⟩ := List.nodup_cons.1 hn
  by_cases e : y = x
  ·subst e
   have h1 := uw_same (f := f) (ins := ins) l n1
   unfold uw at h1 ⊢
   simp only [List.map_cons, List.sum_cons, inw_at, hx, h1]
   simp
   omega
  ·have h2 := uw_in (f := f) hx l n2 ((List.mem_cons.1 h).resolve_left (fun k => e k.symm))
   unfold uw at h2 ⊢
   simp only [List.map_cons, List.sum_cons, inw_ne e]
   omega
variable {W : Nat → List Nat} {d n C : Nat} {ins : Nat → Bool} {wk : List Nat} {i : Nat}
variable {ov : Nat → Nat → Bool} {many : Nat → Nat} {x k b : Nat}
end Go.Proofs.YtckgcpoheodbcaaGreatDoor.Lt
namespace Go.Proofs.YtckgcpoheodbcaaGreatDoor
open Go.RowKit Go.Shelf Go.Proofs.YtckgcpoheodbcaaGreatDoor.Lt
structure Fb (w : World) (b m : Nat) (f : Nat → Bool) : Prop where
 ex : ∃ cs, w.heap[b]? = some (.cells cs 4 (0, 0)) ∧ cs.size = m ∧ ∀ x, x < m → cs[x]? = some (.bool (f x))
theorem Fb.lt {w : World} {b m : Nat} {f : Nat → Bool} (h : Fb w b m f) : b < w.heap.size := by
 obtain ⟨cs, h1, -⟩ := h.ex
 exact Kg.heap_lt h1
theorem Fb.cell {w : World} {b m : Nat} {f : Nat → Bool} (h : Fb w b m f) {x : Nat} (hx : x < m) : w.cell? ⟨b, x, none⟩ = some (.bool (f x)) := by
 obtain ⟨cs, h1, -, h3⟩ := h.ex
 exact (Kg.heap_cell h1 x).trans (h3 x hx)
theorem Fb.frozen {w : World} {b m : Nat} {f : Nat → Bool} (h : Fb w b m f) (x : Nat) : w.frozen? ⟨b, x, none⟩ = false := by
 obtain ⟨cs, h1, -⟩ := h.ex
 exact Kg.heap_frozen h1 x
theorem Fb.touch {w w' : World} {b m : Nat} {f : Nat → Bool} {F : List Nat} (h : Fb w b m f) (ht : Kg.Touch F w w') (hF : b ∉ F) : Fb w' b m f := by
 obtain ⟨cs, h1, h2, h3⟩ := h.ex
 exact ⟨cs, (ht.block _ (Kg.heap_lt h1) hF).trans h1, h2, h3⟩
theorem Fb.below {w w' : World} {b m : Nat} {f : Nat → Bool} (h : Fb w b m f) (hb : Below w.heap.size w w') : Fb w' b m f := h.touch (Kg.Touch.of_below hb []) (by simp)
theorem Fb.low {w w' : World} {b m B : Nat} {f : Nat → Bool} (h : Fb w b m f) (hb : Below B w w') (hB : b < B) : Fb w' b m f := by
 obtain ⟨cs, h1, h2, h3⟩ := h.ex
 exact ⟨cs, (hb.block _ hB).trans h1, h2, h3⟩
theorem Fb.set {w : World} {b m : Nat} {f : Nat → Bool} (h : Fb w b m f) {x : Nat} (hx : x < m) (v : Bool) : Fb (w.setCell ⟨b, x, none⟩ (.bool v)) b m (fun y => if y = x then v else f y) := by
 obtain ⟨cs, h1, h2, h3⟩ := h.ex
 refine ⟨cs.setIfInBounds x (.bool v), Kg.heap_set h1 x _, by simpa using h2, fun y hy => ?_⟩
 rw [Array.getElem?_setIfInBounds]
 by_cases e : x = y
 ·subst e
  rw [if_pos rfl, if_pos (by omega), if_pos rfl]
 ·rw [if_neg e, if_neg (fun h => e h.symm)]
  exact h3 y hy
theorem Fb.new (w : World) (m : Nat) : Fb (w.alloc (.cells (madeCells #[.bool false] m) 4)) w.heap.size m (fun _ => false) :=
 ⟨_, heap_alloc_new w _, by simp [madeCells], fun x hx => by simp [madeCells, hx, Nat.mod_one]⟩
theorem rtlw_eq {g : Im.Gr} (h : MB g) (d : Nat) : rtlw g d = ((wy17 g 0).filter (fun y => decide (y ≠ d))).map Int.ofNat := by
 have e1 : rtlw g d = (rtl g).filter (fun z => decide (z ≠ (d : Int))) := by
  unfold rtlw rtl
  rw [List.filter_filter]
  congr 1
  funext z
  simp only [Bool.decide_and]
  exact Bool.and_comm _ _
 rw [e1, wy_root h, List.filter_map]
 congr 1
 refine List.filter_congr (fun y _ => ?_)
 simp only [Function.comp]
 by_cases e : y = d
 ·subst e
  simp
 ·have : Int.ofNat y ≠ (d : Int) := fun h => e (Int.ofNat.inj h)
  rw [decide_eq_true (show y ≠ d from e), decide_eq_true this]
end Go.Proofs.YtckgcpoheodbcaaGreatDoor
