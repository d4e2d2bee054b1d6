import Derived.Test.YtkekaifiahjljaaGreatDoorC07
set_option linter.unusedVariables false
set_option maxHeartbeats 8000000
set_option maxRecDepth 20000
namespace Go.Proofs.YtkekaifiahjljaaGreatDoor
open Go.RowKit Go.Shelf
theorem rFinals_any (n0 : Nat) (w : World) (vo vs vh vr vq : Value) (os : List OL) (ts : List (Value × List (Value × List Int))) (g : Im.Gr) (hg : Grd n0 w vo vs vh vr vq os ts g) (hn : n0 ≤ w.heap.size) (hol : os.length ≤ 1000000000000) :
    Calls Tryz.prog 115 #[.agg (gcs vo vs vh vr vq g.next)] w fun e w' => ∃ v, e = .returned v ∧ Below w.heap.size w w' ∧ w'.ownsRow w.heap.size 3 1 v (Im.fins g.obs).length (Kg.ints (Im.fins g.obs)) := by
  obtain ⟨i0, hi0, hj0, hj1, hj2⟩ := info_parts Kg.Tryz.infoInt
  have HI : Hid (Tryz.prog.info? 3 = some i0 ∧ i0.zero = some (.int .i64 0) ∧ i0.size = 1 ∧ i0.bytes = 8) := ⟨hi0, hj0, hj1, hj2⟩
  clear hi0 hj0 hj1 hj2
  have l1 : Below w.heap.size w (w.alloc (.cells (gcs vo vs vh vr vq g.next) 27)) := Below.alloc (Below.refl _ _) (Nat.le_refl _) _
  have hy := fun j => cell_of_row _ _ j _ _ _ (heap_alloc_new w (.cells (gcs vo vs vh vr vq g.next) 27 (0, 0)))
  have y0 : (w.alloc (.cells (gcs vo vs vh vr vq g.next) 27)).cell? ⟨w.heap.size, 0, none⟩ = some vo := hy 0
  have Hg : Hid (Grd n0 w vo vs vh vr vq os ts g) := hg
  have hx := hg.ob
  obtain ⟨a, cap, rfl, -⟩ := hx
  have Heo : Hid (g.obs = os.map (·.o)) := hg.eo
  have Heol : Hid (g.obs.length = os.length) := by show _ = _; rw [hg.eo, List.length_map]
  clear hg hy
  generalize hw1 : w.alloc (.cells (gcs (.slice a os.length cap) vs vh vr vq g.next) 27) = w1 at *
  have e1 : w1.heap.size = w.heap.size + 1 := by rw [← hw1]; simp
  have HK : Hid (∀ w', Below w1.heap.size w1 w' → w'.cell? ⟨w.heap.size, 0, none⟩ = some (.slice a os.length cap)) := fun w' b' => by
    have hlt : w.heap.size < w1.heap.size := by omega
    exact (b'.cell (p := ⟨w.heap.size, 0, none⟩) hlt).trans y0
  go_enter Tryz.func115, Tryz.ntmps115
  go_wp2
  go_loopw [3, 4] (fun v3 v4 wr => ∃ k : Nat, k ≤ os.length ∧ v4 = .int .i64 k ∧ Hid (wr.ownsRow w1.heap.size 3 1 v3 (Im.fins (g.obs.take k)).length (Kg.ints (Im.fins (g.obs.take k)))) ∧ Hid (Below w1.heap.size w1 wr)) (fun _ v4 _ => os.length - (intOf v4).toNat)
  case atStart => exact ⟨0, Nat.zero_le _, rfl, World.ownsRow_nil _ _ _ _, Below.refl _ _⟩
  case round =>
    obtain ⟨k, hk, rfl, Hl, Hb⟩ := hrel
    obtain ⟨al, cl, hvl⟩ := own_slI Hl.out
    subst hvl
    have z0 := HK.out _ Hb.out
    have BW : Hid (Below w.heap.size w wr) := l1.trans (Hb.out.mono l1.size)
    by_cases hkl : k < os.length
    · have hki : (k : Int) < (os.length : Int) := by omega
      have hz : os[k]? = some (os[k]'hkl) := List.getElem?_eq_getElem hkl
      generalize os[k]'hkl = x at hz
      obtain ⟨a', cap', ea, hob⟩ := (Hg.out.below (BW.out.mono hn)).ob
      cases ea
      obtain ⟨hp, hr, q, off, rfl, hq, hc⟩ := hob k x hz
      have c1 : wr.cell? ⟨q, off + k * 5 + 1, none⟩ = some (.int .i64 x.o.kind) := hc 1 (by omega)
      have Hz : Hid (g.obs[k]? = some x.o) := by show _ = _; rw [Heo.out, List.getElem?_map, hz]; rfl
      clear hob hc hz hp hr
      have Hfl : Hid ((Im.fins (g.obs.take k)).length ≤ 1000000000000) := by
        have h3 := fins_len (g.obs.take k)
        rw [List.length_take] at h3
        show _ ≤ _
        omega
      by_cases h4 : x.o.kind = 4
      · have h4b : (x.o.kind == 4) = true := by simp [h4]
        have He : Hid (Im.fins (g.obs.take (k + 1)) = Im.fins (g.obs.take k) ++ [(k : Int) + 1]) := by
          have h3 : (g.obs.take k).length = k := by rw [List.length_take, Heol.out]; omega
          show _ = _
          rw [take_snocL Hz.out, fins_snoc, if_pos h4, h3]
        rw [h4] at c1
        clear h4 h4b
        go_wp2_with (at_builtin; refine wpList_append_own_at _ rfl _ _ 24 rfl w1.heap.size 3 i0 (.int .i64 0) 1 8 Tryz.underlying24 HI.out.1 HI.out.2.1 HI.out.2.2.1 HI.out.2.2.2 rfl (by decide) _ _ _ rfl (Hl.out.alloc _) ⟨wr.heap.size, 0, none⟩ 1 1 [.int .i64 ((k : Int) + 1)] rfl rfl (cell_one_new _ _ _) (by simp [Value.oneCell']) (by have := Hfl.out; simp [maxLen]; omega) (by have := Hfl.out; omega) (by have := Hb.out.size; simp; omega) ?_; intro v' w8 hown' hgrow _ hat)
        have t8 : Kg.Touch (Value.slice al (Im.fins (g.obs.take k)).length cl).ownBlock.toList wr w8 := ⟨hgrow.os, hgrow.tape, hgrow.output, by have := hgrow.size; simp at this; omega, fun k hk hn => (hgrow.block k (by simp; omega) (fun e => hn (by rw [Option.mem_toList]; exact e.symm))).trans (Below.heap_alloc _ _ _ hk)⟩
        have Hl8 : Hid (w8.ownsRow w1.heap.size 3 1 v' (Im.fins (g.obs.take (k + 1))).length (Kg.ints (Im.fins (g.obs.take (k + 1))))) := by
          show w8.ownsRow _ _ _ _ _ _
          rw [He.out]
          simpa [Kg.ints] using hown'
        have Hb8 : Hid (Below w1.heap.size w1 w8) := Hb.out.trans (t8.below Hb.out.size (fun y hy => by rw [Option.mem_toList] at hy; exact (Hl.out.lt y hy).1))
        obtain ⟨a9, c9, hv9⟩ := own_slI Hl8.out
        subst hv9
        clear hown' hgrow hat t8 Hl Hb
        go_wp2
        go_roundw
        case rel => exact ⟨k + 1, by omega, by go_num, Hl8, Hb8⟩
        case measure => simp [intOf]; omega
      · have h4b : (x.o.kind == 4) = false := by simp [h4]
        have He : Hid (Im.fins (g.obs.take (k + 1)) = Im.fins (g.obs.take k)) := by
          show _ = _
          rw [take_snocL Hz.out, fins_snoc, if_neg h4, List.append_nil]
        go_wp2
        go_roundw
        case rel => exact ⟨k + 1, by omega, by go_num, by rw [He.out]; exact Hl, Hb⟩
        case measure => simp [intOf]; omega
    · have hki : ¬ (k : Int) < (os.length : Int) := by omega
      have e9 : g.obs.take k = g.obs := List.take_of_length_le (by rw [Heol.out]; omega)
      rw [e9] at Hl ⊢
      go_wp2
      go_ret
      exact ⟨_, rfl, BW.out, Kg.row_base Hl.out l1.size⟩
theorem Below.drewN' {B : Nat} {a w : World} (h : Below B a w) (n : Nat) : Below B a (w.drewN n) := ⟨h.os, h.tape, h.output, h.size, h.block⟩
theorem rLists_any (n0 : Nat) (w : World) (vo vs vh vr vq : Value) (os : List OL) (ts : List (Value × List (Value × List Int))) (g : Im.Gr) (hg : Grd n0 w vo vs vh vr vq os ts g) (hn : n0 ≤ w.heap.size) (hol : os.length ≤ 1000000000000) (hrl : g.rg.length ≤ 1000000000000) (hql : g.qu.length ≤ 1000000000000) :
    Calls Tryz.prog 63 #[.agg (gcs vo vs vh vr vq g.next)] w fun e w' => ∃ r : Bool, e = .returned (.bool r) ∧ Below w.heap.size w w' ∧ (r = true ↔ FM g) := by
  have l1 : Below w.heap.size w (w.alloc (.cells (gcs vo vs vh vr vq g.next) 27)) := Below.alloc (Below.refl _ _) (Nat.le_refl _) _
  have hy := fun j => cell_of_row _ _ j _ _ _ (heap_alloc_new w (.cells (gcs vo vs vh vr vq g.next) 27 (0, 0)))
  have y0 : (w.alloc (.cells (gcs vo vs vh vr vq g.next) 27)).cell? ⟨w.heap.size, 0, none⟩ = some vo := hy 0
  have y1 : (w.alloc (.cells (gcs vo vs vh vr vq g.next) 27)).cell? ⟨w.heap.size, 1, none⟩ = some vs := hy 1
  have y2 : (w.alloc (.cells (gcs vo vs vh vr vq g.next) 27)).cell? ⟨w.heap.size, 2, none⟩ = some vh := hy 2
  have y3 : (w.alloc (.cells (gcs vo vs vh vr vq g.next) 27)).cell? ⟨w.heap.size, 3, none⟩ = some vr := hy 3
  have y4 : (w.alloc (.cells (gcs vo vs vh vr vq g.next) 27)).cell? ⟨w.heap.size, 4, none⟩ = some vq := hy 4
  have y5 : (w.alloc (.cells (gcs vo vs vh vr vq g.next) 27)).cell? ⟨w.heap.size, 5, none⟩ = some (.int .u64 g.next) := hy 5
  have hfin := rFinals_any n0 _ vo vs vh vr vq os ts g (hg.below (l1.mono hn)) (Nat.le_trans hn l1.size) hol
  have Hg : Hid (Grd n0 w vo vs vh vr vq os ts g) := hg
  have hx := hg.ob
  obtain ⟨a, cap, rfl, -⟩ := hx
  have hx := hg.sl
  obtain ⟨b, bcap, rfl, -⟩ := hx
  have hx := hg.hs
  obtain ⟨ah, hcap, rfl, -⟩ := hx
  have hx := hg.rg
  obtain ⟨ar, rcap, rfl, -⟩ := hx
  have hx := hg.qu
  obtain ⟨aq, qcap, rfl, -⟩ := hx
  have Heo : Hid (g.obs = os.map (·.o)) := hg.eo
  have Heol : Hid (g.obs.length = os.length) := by show _ = _; rw [hg.eo, List.length_map]
  clear hg hy
  generalize hw1 : w.alloc (.cells (gcs (.slice a os.length cap) (.slice b ts.length bcap) (.slice ah g.hs.length hcap) (.slice ar g.rg.length rcap) (.slice aq g.qu.length qcap) g.next) 27) = w1 at *
  have e1 : w1.heap.size = w.heap.size + 1 := by rw [← hw1]; simp
  have HK : Hid (∀ w', Below w1.heap.size w1 w' → w'.cell? ⟨w.heap.size, 0, none⟩ = some (.slice a os.length cap) ∧ w'.cell? ⟨w.heap.size, 3, none⟩ = some (.slice ar g.rg.length rcap) ∧ w'.cell? ⟨w.heap.size, 4, none⟩ = some (.slice aq g.qu.length qcap)) := fun w' b' => by
    have hlt : w.heap.size < w1.heap.size := by omega
    exact ⟨(b'.cell (p := ⟨w.heap.size, 0, none⟩) hlt).trans y0, (b'.cell (p := ⟨w.heap.size, 3, none⟩) hlt).trans y3, (b'.cell (p := ⟨w.heap.size, 4, none⟩) hlt).trans y4⟩
  go_enter Tryz.func63, Tryz.ntmps63
  go_wp2_with fail
  refine hfin.mono ?_
  rintro e w2 ⟨v2, rfl, b2, o2⟩
  obtain ⟨a2, c2, hv2⟩ := own_slI o2
  subst hv2
  have HB2 : Hid (Below w1.heap.size w1 w2) := b2
  have HF : Hid (∀ w', Below w2.heap.size w2 w' → Lrd w'.heap.size w' (.slice a2 (Im.fins g.obs).length c2) .i64 (Im.fins g.obs)) := fun w' b' => Lrd.of_row (Kg.row_base (Kg.row_keep2 o2 (Kg.Touch.of_below b' []) (fun _ _ => by simp)) (Nat.zero_le _))
  have Hfl : Hid ((Im.fins g.obs).length ≤ 1000000000000) := by
    have h3 := fins_len g.obs
    have := Heol.out
    show _ ≤ _
    omega
  have BW2 : Hid (Below w.heap.size w w2) := l1.trans (b2.mono l1.size)
  have hbt := calls_same (rBetween_any 1 os.length n0 _ g.qu w2 (Hg.out.below (BW2.out.mono hn)).qu (by omega))
  obtain ⟨z0, z3, z4⟩ := HK.out w2 b2
  clear hfin b2 o2 y0 y1 y2 y3 y4 y5
  have hfl2 : (Im.fins g.obs).length ≤ 1000000000000 := Hfl.out
  by_cases p1 : (Im.fins g.obs).length = g.rg.length
  case neg =>
    have p1b : (((Im.fins g.obs).length : Int) != (g.rg.length : Int)) = true := by simp; omega
    have Hn : Hid (¬ FM g) := fun h => p1 (by rw [h.reg])
    clear hbt
    go_wp2
    go_ret
    first | exact ⟨false, rfl, BW2.out, by simpa using Hn.out⟩ | exact .inl ⟨rfl, BW2.out, Hn.out⟩
  have p1b : (((Im.fins g.obs).length : Int) != (g.rg.length : Int)) = false := by simp; omega
  have Hp1 : Hid ((Im.fins g.obs).length = g.rg.length) := p1
  clear p1
  by_cases p2 : allB 1 os.length g.qu
  case neg =>
    have hc := hbt.2 p2
    have Hn : Hid (¬ FM g) := fun h => p2 (by rw [← Heol.out]; exact h.que)
    clear hbt
    go_wp2_with fail
    refine hc.mono ?_
    rintro e wQ ⟨rfl, h9⟩
    rw [h9]
    clear hc h9 wQ
    go_wp2
    go_ret
    first | exact ⟨false, rfl, BW2.out, by simpa using Hn.out⟩ | exact .inl ⟨rfl, BW2.out, Hn.out⟩
  have hc := hbt.1 p2
  have Hal : Hid (allB 1 os.length g.qu) := p2
  clear hbt p2
  go_wp2_with fail
  refine hc.mono ?_
  rintro e wQ ⟨rfl, h9⟩
  rw [h9]
  clear hc h9 wQ
  go_wp2
  go_loopw [4] (fun v4 wr => ∃ k : Nat, k ≤ (Im.fins g.obs).length ∧ v4 = .int .i64 k ∧ Hid (Below w2.heap.size w2 wr) ∧ Hid (∀ j, j < k → (Im.fins g.obs)[j]? = g.rg[j]?)) (fun v4 _ => (Im.fins g.obs).length - (intOf v4).toNat)
  case atStart => exact ⟨0, Nat.zero_le _, rfl, Below.refl _ _, (fun j hj => by omega : ∀ j, j < 0 → (Im.fins g.obs)[j]? = g.rg[j]?)⟩
  case round =>
    obtain ⟨k, hk, rfl, Hb, Hk⟩ := hrel
    have HB1 : Hid (Below w1.heap.size w1 wr) := HB2.out.trans (Hb.out.mono HB2.out.size)
    clear z0 z3 z4
    obtain ⟨z0, z3, z4⟩ := HK.out _ HB1.out
    have BW : Hid (Below w.heap.size w wr) := l1.trans (HB1.out.mono l1.size)
    by_cases hkl : k < (Im.fins g.obs).length
    · have hki : (k : Int) < ((Im.fins g.obs).length : Int) := by omega
      have hkr : k < g.rg.length := by have := Hp1.out; omega
      have hkri : (k : Int) < (g.rg.length : Int) := by omega
      have hz : (Im.fins g.obs)[k]? = some ((Im.fins g.obs)[k]'hkl) := List.getElem?_eq_getElem hkl
      generalize (Im.fins g.obs)[k]'hkl = z at hz
      have hy : g.rg[k]? = some (g.rg[k]'hkr) := List.getElem?_eq_getElem hkr
      generalize g.rg[k]'hkr = y at hy
      obtain ⟨af, cf, ef, -, hcf⟩ := HF.out wr Hb.out
      cases ef
      obtain ⟨qf, of, rfl, -, cf⟩ := hcf k z hz
      obtain ⟨ag, cg, eg, -, hcg⟩ := (Hg.out.below (BW.out.mono hn)).rg
      cases eg
      obtain ⟨qg, og, rfl, -, cg⟩ := hcg k y hy
      have Hz : Hid ((Im.fins g.obs)[k]? = some z) := hz
      have Hy : Hid (g.rg[k]? = some y) := hy
      clear hcf hcg hz hy
      by_cases hzy : z = y
      · have hb : (z != y) = false := by simp [hzy]
        have Hn : Hid (∀ j, j < k + 1 → (Im.fins g.obs)[j]? = g.rg[j]?) := fun j hj => by
          by_cases e : j = k
          · rw [e, Hz.out, Hy.out, hzy]
          · exact Hk.out j (by omega)
        clear hzy
        go_upto_region 7 with fail
        go_quiet (fail)
        go_wp2
        go_roundw
        case rel => exact ⟨k + 1, by omega, by go_num, Below.drewN' Hb.out _, Hn⟩
        case measure => simp [intOf]; omega
      · have hb : (z != y) = true := by simpa using hzy
        have Hn : Hid (¬ FM g) := fun h => hzy (by
          have h9 := Hz.out
          rw [← h.reg, Hy.out] at h9
          exact (Option.some.inj h9).symm)
        clear hzy
        go_upto_region 7 with fail
        go_quiet (fail)
        go_wp2
        go_ret
        first | exact ⟨false, rfl, Below.drewN' BW.out _, by simpa using Hn.out⟩ | exact .inl ⟨rfl, Below.drewN' BW.out _, Hn.out⟩
    · have hki : ¬ (k : Int) < ((Im.fins g.obs).length : Int) := by omega
      have HE : Hid (g.rg = Im.fins g.obs) := by
        show _ = _
        apply List.ext_getElem?
        intro j
        by_cases hj : j < k
        · exact (Hk.out j hj).symm
        · have := Hp1.out
          rw [List.getElem?_eq_none (by omega), List.getElem?_eq_none (by omega)]
      have hmk : ∀ w, (Instr.makeSlice 41 (.int .i64 ((os.length : Int) + 1)) (.int .i64 ((os.length : Int) + 1))).run Tryz.prog w = .ok (.slice (some ⟨w.heap.size, 0, none⟩) (os.length + 1) (os.length + 1)) (w.alloc (.cells (madeCells #[.bool false] (os.length + 1)) 4)) := fun w => make_bools (os.length + 1) (by omega) w
      have HR : Hid ((wr.alloc (.cells (madeCells #[.bool false] (os.length + 1)) 4)).rowIs wr.heap.size 4 (os.length + 1) (fun j => .bool ((fun _ => false) j))) := World.rowIs_made wr (.bool false) (os.length + 1) 4
      have HB6 : Hid (Below w1.heap.size w1 (wr.alloc (.cells (madeCells #[.bool false] (os.length + 1)) 4))) := HB1.out.alloc HB1.out.size _
      have HBl : Hid (w1.heap.size ≤ wr.heap.size) := HB1.out.size
      clear Hk
      go_upto_region 10 with fail
      clear hmk z0 z3 z4
      generalize wr.alloc (.cells (madeCells #[.bool false] (os.length + 1)) 4) = w6 at *
      obtain ⟨z0, z3, z4⟩ := HK.out _ HB6.out
      clear HF BW Hb HB1
      generalize wr.heap.size = B at *
      go_wp2
      go_loopw [6] (fun v6 wr => ∃ (k : Nat) (M : Nat → Bool), k ≤ g.qu.length ∧ v6 = .int .i64 k ∧ Hid (Fq g.obs (g.qu.take k) M) ∧ Hid (wr.rowIs B 4 (os.length + 1) (fun j => .bool (M j))) ∧ Hid (Below w1.heap.size w1 wr)) (fun v6 _ => g.qu.length - (intOf v6).toNat)
      case atStart => exact ⟨0, fun _ => false, Nat.zero_le _, rfl, Fq.nil _, HR, HB6⟩
      case round =>
        obtain ⟨k, M, hk, rfl, HQk, Hrow, Hbr⟩ := hrel
        clear z0 z3 z4
        obtain ⟨z0, z3, z4⟩ := HK.out _ Hbr.out
        have BW : Hid (Below w.heap.size w wr) := l1.trans (Hbr.out.mono l1.size)
        by_cases hkl : k < g.qu.length
        · have hki : (k : Int) < (g.qu.length : Int) := by omega
          have hz : g.qu[k]? = some (g.qu[k]'hkl) := List.getElem?_eq_getElem hkl
          generalize g.qu[k]'hkl = z at hz
          have hzb := Hal.out z (List.mem_of_getElem? hz)
          simp only [inB, Bool.and_eq_true, decide_eq_true_eq] at hzb
          obtain ⟨m, rfl⟩ : ∃ m : Nat, z = m := ⟨z.toNat, by omega⟩
          have hm1 : 1 ≤ m := by omega
          have hm2 : m ≤ os.length := by omega
          have hm3 : (m : Int) < (os.length : Int) + 1 := by omega
          have hm4 : m < os.length + 1 := by omega
          obtain ⟨aq', qc', eq', -, hqc⟩ := (Hg.out.below (BW.out.mono hn)).qu
          cases eq'
          obtain ⟨q, off, rfl, hq, hcq⟩ := hqc k m hz
          have crow : wr.cell? ⟨B, m, none⟩ = some (.bool (M m)) := Hrow.out.cell hm4
          have Hz : Hid (g.qu[k]? = some (m : Int)) := hz
          clear hqc hz hzb
          cases hM : M m with
          | true =>
            rw [hM] at crow
            have Hn : Hid (¬ FM g) := fun h9 => by
              have h8 : (m : Int) ∈ g.qu.take k := (HQk.out.m m).1 hM
              have h7 : (m : Int) ∈ g.qu.drop k := List.mem_of_getElem? (i := 0) (by rw [List.getElem?_drop, Nat.add_zero]; exact Hz.out)
              have h6 := h9.once
              rw [← List.take_append_drop k g.qu, List.nodup_append] at h6
              exact h6.2.2 _ h8 _ h7 rfl
            clear hM
            go_wp2
            go_ret
            first | exact ⟨false, rfl, BW.out, by simpa using Hn.out⟩ | exact .inl ⟨rfl, BW.out, Hn.out⟩
          | false =>
            rw [hM] at crow
            have hos : os[m - 1]? = some (os[m - 1]'(by omega)) := List.getElem?_eq_getElem (by omega)
            generalize os[m - 1]'(by omega) = x at hos
            obtain ⟨a', cap', ea, hob⟩ := (Hg.out.below (BW.out.mono hn)).ob
            cases ea
            obtain ⟨hp, hr, q', off', rfl, hq', hc⟩ := hob (m - 1) x hos
            have c1 : wr.cell? ⟨q', off' + (m - 1) * 5 + 1, none⟩ = some (.int .i64 x.o.kind) := hc 1 (by omega)
            have hwm : wrap64 ((m : Int) - 1) = ((m - 1 : Nat) : Int) := by unfold wrap64; omega
            have hmi : ((m - 1 : Nat) : Int) < (os.length : Int) := by omega
            have hmn : m - 1 < os.length := by omega
            have Hob : Hid (g.obs[((m : Int) - 1).toNat]? = some x.o) := by
              show _ = _
              rw [show ((m : Int) - 1).toNat = m - 1 by omega, Heo.out, List.getElem?_map, hos]; rfl
            clear hob hc hos hp hr
            by_cases h4 : x.o.kind = 4
            · have h4b : (x.o.kind == 4) = true := by simp [h4]
              have Hn : Hid (¬ FM g) := fun h9 => h9.plain m (List.mem_of_getElem? Hz.out) x.o Hob.out h4
              clear hM h4
              go_wp2
              go_ret
              first | exact ⟨false, rfl, BW.out, by simpa using Hn.out⟩ | exact .inl ⟨rfl, BW.out, Hn.out⟩
            · have h4b : (x.o.kind == 4) = false := by simp [h4]
              have Hq2 : Hid (Fq g.obs (g.qu.take (k + 1)) (Im.metSet M m)) := by
                have h9 := HQk.out.snoc (z := (m : Int)) (o := x.o) (by omega) (by simpa using hM) Hob.out h4
                show Fq _ _ _
                rw [take_snocL Hz.out]
                simpa using h9
              have hfr : wr.frozen? ⟨B, m, none⟩ = false := Hrow.out.frozen m
              clear hM h4
              go_wp2
              go_roundw
              case rel =>
                refine ⟨k + 1, Im.metSet M m, by omega, by go_num, Hq2, ?_, ?_⟩
                · exact (Hrow.out.set m (.bool true)).congr (fun j _ => by by_cases e : j = m <;> simp [Im.metSet, e])
                · exact (Kg.Touch.setCell (F := [B]) wr ⟨B, m, none⟩ _ (by simp)) |>.below Hbr.out.size (fun y hy => by simp at hy; rw [hy]; exact HBl.out) |> Hbr.out.trans
              case measure => simp [intOf]; omega
        · have hki : ¬ (k : Int) < (g.qu.length : Int) := by omega
          have Hy : Hid (FM g) := by
            have h9 := HQk.out
            rw [List.take_of_length_le (by omega)] at h9
            exact ⟨HE.out, by rw [Heol.out]; exact Hal.out, h9.once, h9.plain⟩
          go_wp2
          go_ret
          first | exact ⟨true, rfl, BW.out, by simpa using Hy.out⟩ | exact .inr ⟨rfl, BW.out, Hy.out⟩
end Go.Proofs.YtkekaifiahjljaaGreatDoor
