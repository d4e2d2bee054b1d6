import Derived.Test.YtkekaifiahjljaaGreatDoorC03
import Derived.Deep.RegionHeld3
import Derived.Test.YtkekaifiahjljaaGreatDoorC01
import Derived.Deep.Cut
import Derived.Maps.AppendAt
import Derived.ArgAppend
import Derived.Deep.Upon
set_option linter.unusedVariables false
set_option maxHeartbeats 8000000
set_option maxRecDepth 20000
namespace Go.Proofs.YtkekaifiahjljaaGreatDoor
open Go.RowKit Go.Shelf
theorem Tryz.infoBool : (Tryz.prog.info? 4).map (fun i => (i.zero, i.size, i.bytes)) = some (some (.bool false), 1, 1) := by kernel_rfl
theorem make_bools (n : Nat) (hn : n ≤ 1000000000001) : ∀ w, (Instr.makeSlice 41 (.int .i64 (n : Int)) (.int .i64 (n : Int))).run Tryz.prog w = .ok (.slice (some ⟨w.heap.size, 0, none⟩) n n) (w.alloc (.cells (madeCells #[.bool false] n) 4)) := fun w => by
  obtain ⟨i0, hi0, hz0, hz1, hz2⟩ := info_parts Tryz.infoBool
  have := run_make (P := Tryz.prog) w 41 4 i0 (.bool false) Tryz.underlying41 hi0 hz0 .i64 .i64 n n (by omega) (Int.le_refl _) (by rw [hz2]; omega) (by omega)
  rw [hz1, Nat.mul_one] at this
  exact this
structure FM (g : Im.Gr) : Prop where
  reg : g.rg = Im.fins g.obs
  que : allB 1 g.obs.length g.qu
  once : g.qu.Nodup
  plain : ∀ z, z ∈ g.qu → ∀ o, g.obs[(z - 1).toNat]? = some o → o.kind ≠ 4
structure Fq (obs : List Im.Ob) (l : List Int) (M : Nat → Bool) : Prop where
  m : ∀ n, M n = true ↔ (n : Int) ∈ l
  once : l.Nodup
  plain : ∀ z, z ∈ l → ∀ o, obs[(z - 1).toNat]? = some o → o.kind ≠ 4
theorem Fq.nil (obs : List Im.Ob) : Fq obs [] (fun _ => false) := ⟨fun n => by simp, List.nodup_nil, fun z hz => by simp at hz⟩
theorem Fq.snoc {obs : List Im.Ob} {l : List Int} {M : Nat → Bool} {z : Int} {o : Im.Ob} (h : Fq obs l M) (hz : 0 ≤ z) (hM : M z.toNat = false) (ho : obs[(z - 1).toNat]? = some o) (hk : o.kind ≠ 4) : Fq obs (l ++ [z]) (Im.metSet M z.toNat) := by
  have hn : z ∉ l := fun h9 => by
    have := (h.m z.toNat).2 (by rw [show ((z.toNat : Nat) : Int) = z by omega]; exact h9)
    rw [hM] at this
    cases this
  refine ⟨fun n => ?_, ?_, fun y hy o' ho' => ?_⟩
  · simp only [Im.metSet, Bool.or_eq_true, decide_eq_true_eq, List.mem_append, List.mem_singleton, h.m]
    constructor
    · rintro (h1 | h1)
      · exact .inr (by omega)
      · exact .inl h1
    · rintro (h1 | h1)
      · exact .inr h1
      · exact .inl (by omega)
  · rw [List.nodup_append]
    exact ⟨h.once, by simp, fun a ha b hb => by simp at hb; rw [hb]; exact fun e => hn (e ▸ ha)⟩
  · rcases List.mem_append.1 hy with h1 | h1
    · exact h.plain y h1 o' ho'
    · simp at h1
      rw [h1, ho] at ho'
      cases ho'
      exact hk
theorem gFinalsM_any (n0 : Nat) (w : World) (vo vs vh vr vq : Value) (os : List OL) (ts : List (Value × List (Value × List Int))) (g : Im.Gr) (hg : Grd n0 w vo vs vh vr vq os ts g) (hn : n0 ≤ w.heap.size) (hol : os.length ≤ 1000000000000) (hrl : g.rg.length ≤ 4611686018427387904) (hql : g.qu.length ≤ 4611686018427387904) :
    Calls Tryz.prog 155 #[.agg (gcs vo vs vh vr vq g.next)] w fun e w' => ∃ r : Bool, e = .returned (.bool r) ∧ Below w.heap.size w w' ∧ (r = true ↔ FM g) := by
  have l1 : Below w.heap.size w (w.alloc (.cells (gcs vo vs vh vr vq g.next) 27)) := Below.alloc (Below.refl _ _) (Nat.le_refl _) _
  have hy := fun j => cell_of_row _ _ j _ _ _ (heap_alloc_new w (.cells (gcs vo vs vh vr vq g.next) 27 (0, 0)))
  have y0 : (w.alloc (.cells (gcs vo vs vh vr vq g.next) 27)).cell? ⟨w.heap.size, 0, none⟩ = some vo := hy 0
  have y3 : (w.alloc (.cells (gcs vo vs vh vr vq g.next) 27)).cell? ⟨w.heap.size, 3, none⟩ = some vr := hy 3
  have y4 : (w.alloc (.cells (gcs vo vs vh vr vq g.next) 27)).cell? ⟨w.heap.size, 4, none⟩ = some vq := hy 4
  have Hg : Hid (Grd n0 w vo vs vh vr vq os ts g) := hg
  have hx := hg.ob
  obtain ⟨a, cap, rfl, -⟩ := hx
  have hx := hg.rg
  obtain ⟨ar, rcap, rfl, -⟩ := hx
  have hx := hg.qu
  obtain ⟨aq, qcap, rfl, -⟩ := hx
  have Heol : Hid (g.obs.length = os.length) := by show _ = _; rw [hg.eo, List.length_map]
  have Heo : Hid (g.obs = os.map (·.o)) := hg.eo
  clear hg hy
  generalize hw1 : w.alloc (.cells (gcs (.slice a os.length cap) vs vh (.slice ar g.rg.length rcap) (.slice aq g.qu.length qcap) g.next) 27) = w1 at *
  have e1 : w1.heap.size = w.heap.size + 1 := by rw [← hw1]; simp
  have HF : Hid (∀ w', Below w1.heap.size w1 w' → Calls Tryz.prog 184 #[.slice a os.length cap] w' fun e w'' => ∃ v, e = .returned v ∧ Below w'.heap.size w' w'' ∧ w''.ownsRow w'.heap.size 3 1 v (Im.fins (os.map (·.o))).length (Kg.ints (Im.fins (os.map (·.o))))) := fun w' b' =>
    gFinals_any n0 w' _ os (Hg.out.below ((l1.trans (b'.mono l1.size)).mono hn)).ob (Nat.le_trans hn (l1.trans (b'.mono l1.size)).size) hol (fun x hx => (Hg.out.sr x.o (by rw [Heo.out]; exact List.mem_map_of_mem hx)).2.1)
  have HW : Hid (∀ w', Below w1.heap.size w1 w' → Calls Tryz.prog 180 #[.slice aq g.qu.length qcap, .int .i64 1, .int .i64 os.length] w' fun e w'' => ∃ r : Bool, e = .returned (.bool r) ∧ Below w'.heap.size w' w'' ∧ (r = true ↔ allB 1 os.length g.qu)) := fun w' b' =>
    gWithin_any 1 os.length n0 _ g.qu w' (Hg.out.below ((l1.trans (b'.mono l1.size)).mono hn)).qu (Nat.le_trans hn (l1.trans (b'.mono l1.size)).size) hql
  have HK : Hid (∀ w', Below w1.heap.size w1 w' → w'.cell? ⟨w.heap.size, 0, none⟩ = some (.slice a os.length cap) ∧ w'.cell? ⟨w.heap.size, 3, none⟩ = some (.slice ar g.rg.length rcap) ∧ w'.cell? ⟨w.heap.size, 4, none⟩ = some (.slice aq g.qu.length qcap)) := fun w' b' =>
    ⟨(b'.cell (p := ⟨w.heap.size, 0, none⟩) (by rw [e1]; exact Nat.lt_succ_self _)).trans y0, (b'.cell (p := ⟨w.heap.size, 3, none⟩) (by rw [e1]; exact Nat.lt_succ_self _)).trans y3, (b'.cell (p := ⟨w.heap.size, 4, none⟩) (by rw [e1]; exact Nat.lt_succ_self _)).trans y4⟩
  go_enter Tryz.func155, Tryz.ntmps155
  go_upto_region 1 with fail
  have hB0 : Below w1.heap.size w1 w1.drew := (Below.refl _ _).drew
  by_cases hE : g.rg = Im.fins (os.map (·.o))
  · have HQ : Hid (∀ w' v, Below w1.heap.size w1 w' → w'.ownsRow w1.heap.size 3 1 v (Im.fins (os.map (·.o))).length (Kg.ints (Im.fins (os.map (·.o)))) → Calls Tryz.prog 183 #[.slice ar g.rg.length rcap, v] w' fun e w'' => e = .returned (.bool true) ∧ ∃ nq, w'' = w'.drewN nq) := fun w' v b' o' => by
      have h3 := slEqual_any w'.heap.size (.slice ar g.rg.length rcap) v g.rg (Im.fins (os.map (·.o))) w' ((Hg.out.below ((l1.trans (b'.mono l1.size)).mono hn)).rg.mono (Nat.le_trans hn (l1.trans (b'.mono l1.size)).size)) (Lrd.of_row (Kg.row_base o' (Nat.zero_le _))) (by omega)
      rw [decide_eq_true hE] at h3
      exact h3
    have HE : Hid (g.rg = Im.fins (os.map (·.o))) := hE
    clear hE
    go_region_held3 (fun w' => w'.cell? ⟨w.heap.size, 0, none⟩ = some (.slice a os.length cap) ∧ w'.cell? ⟨w.heap.size, 3, none⟩ = some (.slice ar g.rg.length rcap) ∧ w'.cell? ⟨w.heap.size, 4, none⟩ = some (.slice aq g.qu.length qcap)) (first | (exact And.intro ‹_› (And.intro ‹_› ‹_›)) | go_keep) (first | (go_at_call 184; refine (HF.out _ hB0).mono ?_; rintro e w3 ⟨v3, rfl, b3, o3⟩; have B3 : Below w1.heap.size w1 w3 := hB0.trans (b3.mono hB0.size); have k0 := (HK.out w3 B3).1; have k3 := (HK.out w3 B3).2.1; have k4 := (HK.out w3 B3).2.2) | (go_at_call 183; refine (HQ.out _ _ B3 o3).mono ?_; rintro e w4 ⟨rfl, nq, rfl⟩; have B4 : Below w1.heap.size w1 (w3.drewN nq) := ⟨B3.os, B3.tape, B3.output, B3.size, B3.block⟩; have m0 := (HK.out _ B4).1; have m3 := (HK.out _ B4).2.1; have m4 := (HK.out _ B4).2.2) | (go_at_call 180; refine (HW.out _ B4).mono ?_; rintro e w5 ⟨r, rfl, b5, hr⟩; have B5 : Below w1.heap.size w1 w5 := B4.trans (b5.mono B4.size); have j0 := (HK.out _ B5).1; have j3 := (HK.out _ B5).2.1; have j4 := (HK.out _ B5).2.2))
    cases r with
    | false =>
      have Hn : Hid (¬ FM g) := fun h9 => Bool.noConfusion (hr.2 (by rw [← Heol.out]; exact h9.que))
      have HB5 : Hid (Below w.heap.size w w5) := l1.trans (B5.mono l1.size)
      clear hr b5 B5 b3 B3 o3 B4
      go_wp2
      go_ret
      exact ⟨false, rfl, HB5.out, by simpa using Hn.out⟩
    | true =>
      have Hal : Hid (allB 1 os.length g.qu) := hr.1 rfl
      have HB5 : Hid (Below w1.heap.size w1 w5) := B5
      have hmk : ∀ w, (Instr.makeSlice 41 (.int .i64 ((os.length : Int) + 1)) (.int .i64 ((os.length : Int) + 1))).run Tryz.prog w = .ok (.slice (some ⟨w.heap.size, 0, none⟩) (os.length + 1) (os.length + 1)) (w.alloc (.cells (madeCells #[.bool false] (os.length + 1)) 4)) := fun w => make_bools (os.length + 1) (by omega) w
      have HR : Hid ((w5.alloc (.cells (madeCells #[.bool false] (os.length + 1)) 4)).rowIs w5.heap.size 4 (os.length + 1) (fun j => .bool ((fun _ => false) j))) := World.rowIs_made w5 (.bool false) (os.length + 1) 4
      have HB6 : Hid (Below w1.heap.size w1 (w5.alloc (.cells (madeCells #[.bool false] (os.length + 1)) 4))) := B5.alloc B5.size _
      have q0 := (HK.out _ HB6.out).1
      have q4 := (HK.out _ HB6.out).2.2
      have HBl : Hid (w1.heap.size ≤ w5.heap.size) := B5.size
      clear hr b5 B5 b3 B3 o3 B4 y0 y3 y4 j0 j3 m0 m3 m4 k0 k3 k4
      go_upto_region 4 with fail
      clear hmk
      generalize w5.alloc (.cells (madeCells #[.bool false] (os.length + 1)) 4) = w6 at *
      generalize w5.heap.size = B at *
      go_wp2
      go_loopw [30] (fun v30 wr => ∃ (k : Nat) (M : Nat → Bool), k ≤ g.qu.length ∧ v30 = .int .i64 k ∧ Hid (Fq g.obs (g.qu.take k) M) ∧ Hid (wr.rowIs B 4 (os.length + 1) (fun j => .bool (M j))) ∧ Hid (Below w1.heap.size w1 wr)) (fun v30 _ => g.qu.length - (intOf v30).toNat)
      case atStart => exact ⟨0, fun _ => false, Nat.zero_le _, rfl, Fq.nil _, HR, HB6⟩
      case round =>
        obtain ⟨k, M, hk, rfl, HQk, Hrow, Hbr⟩ := hrel
        have z0 := (HK.out _ Hbr.out).1
        have BW : Hid (Below w.heap.size w wr) := l1.trans (Hbr.out.mono l1.size)
        by_cases hkl : k < g.qu.length
        · have hki : (k : Int) < (g.qu.length : Int) := by omega
          have hz : g.qu[k]? = some (g.qu[k]'hkl) := List.getElem?_eq_getElem hkl
          generalize g.qu[k]'hkl = z at hz
          have hzb := Hal.out z (List.mem_of_getElem? hz)
          simp only [inB, Bool.and_eq_true, decide_eq_true_eq] at hzb
          obtain ⟨m, rfl⟩ : ∃ m : Nat, z = m := ⟨z.toNat, by omega⟩
          have hm1 : 1 ≤ m := by omega
          have hm2 : m ≤ os.length := by omega
          have hm3 : (m : Int) < (os.length : Int) + 1 := by omega
          have hm4 : m < os.length + 1 := by omega
          obtain ⟨aq', qc', eq', -, hqc⟩ := (Hg.out.below (BW.out.mono hn)).qu
          cases eq'
          obtain ⟨q, off, rfl, hq, hcq⟩ := hqc k m hz
          have crow : wr.cell? ⟨B, m, none⟩ = some (.bool (M m)) := Hrow.out.cell hm4
          have Hz : Hid (g.qu[k]? = some (m : Int)) := hz
          clear hqc hz hzb
          cases hM : M m with
          | true =>
            rw [hM] at crow
            have Hn : Hid (¬ FM g) := fun h9 => by
              have h8 : (m : Int) ∈ g.qu.take k := (HQk.out.m m).1 hM
              have h7 : (m : Int) ∈ g.qu.drop k := List.mem_of_getElem? (i := 0) (by rw [List.getElem?_drop, Nat.add_zero]; exact Hz.out)
              have h6 := h9.once
              rw [← List.take_append_drop k g.qu, List.nodup_append] at h6
              exact h6.2.2 _ h8 _ h7 rfl
            clear hM
            go_wp2
            go_ret
            exact ⟨false, rfl, BW.out, by simpa using Hn.out⟩
          | false =>
            rw [hM] at crow
            have hos : os[m - 1]? = some (os[m - 1]'(by omega)) := List.getElem?_eq_getElem (by omega)
            generalize os[m - 1]'(by omega) = x at hos
            obtain ⟨a', cap', ea, hob⟩ := (Hg.out.below (BW.out.mono hn)).ob
            cases ea
            obtain ⟨hp, hr, q', off', rfl, hq', hc⟩ := hob (m - 1) x hos
            have c1 : wr.cell? ⟨q', off' + (m - 1) * 5 + 1, none⟩ = some (.int .i64 x.o.kind) := hc 1 (by omega)
            have hwm : wrap64 ((m : Int) - 1) = ((m - 1 : Nat) : Int) := by unfold wrap64; omega
            have hmi : ((m - 1 : Nat) : Int) < (os.length : Int) := by omega
            have hmn : m - 1 < os.length := by omega
            have Hob : Hid (g.obs[((m : Int) - 1).toNat]? = some x.o) := by
              show _ = _
              rw [show ((m : Int) - 1).toNat = m - 1 by omega, Heo.out, List.getElem?_map, hos]; rfl
            clear hob hc hos hp hr
            by_cases h4 : x.o.kind = 4
            · have h4b : (x.o.kind == 4) = true := by simp [h4]
              have Hn : Hid (¬ FM g) := fun h9 => h9.plain m (List.mem_of_getElem? Hz.out) x.o Hob.out h4
              clear hM h4
              go_wp2
              go_ret
              exact ⟨false, rfl, BW.out, by simpa using Hn.out⟩
            · have h4b : (x.o.kind == 4) = false := by simp [h4]
              have Hq2 : Hid (Fq g.obs (g.qu.take (k + 1)) (Im.metSet M m)) := by
                have h9 := HQk.out.snoc (z := (m : Int)) (o := x.o) (by omega) (by simpa using hM) Hob.out h4
                show Fq _ _ _
                rw [take_snocL Hz.out]
                simpa using h9
              have hfr : wr.frozen? ⟨B, m, none⟩ = false := Hrow.out.frozen m
              clear hM h4
              go_wp2
              go_roundw
              case rel =>
                refine ⟨k + 1, Im.metSet M m, by omega, by go_num, Hq2, ?_, ?_⟩
                · exact (Hrow.out.set m (.bool true)).congr (fun j _ => by by_cases e : j = m <;> simp [Im.metSet, e])
                · exact (Kg.Touch.setCell (F := [B]) wr ⟨B, m, none⟩ _ (by simp)) |>.below Hbr.out.size (fun y hy => by simp at hy; rw [hy]; exact HBl.out) |> Hbr.out.trans
              case measure => simp [intOf]; omega
        · have hki : ¬ (k : Int) < (g.qu.length : Int) := by omega
          have Hy : Hid (FM g) := by
            have h9 := HQk.out
            rw [List.take_of_length_le (by omega)] at h9
            exact ⟨by rw [HE.out, Heo.out], by rw [Heol.out]; exact Hal.out, h9.once, h9.plain⟩
          go_wp2
          go_ret
          exact .inr ⟨rfl, BW.out, Hy.out⟩
  · have HQ : Hid (∀ w' v, Below w1.heap.size w1 w' → w'.ownsRow w1.heap.size 3 1 v (Im.fins (os.map (·.o))).length (Kg.ints (Im.fins (os.map (·.o)))) → Calls Tryz.prog 183 #[.slice ar g.rg.length rcap, v] w' fun e w'' => e = .returned (.bool false) ∧ ∃ nq, w'' = w'.drewN nq) := fun w' v b' o' => by
      have h3 := slEqual_any w'.heap.size (.slice ar g.rg.length rcap) v g.rg (Im.fins (os.map (·.o))) w' ((Hg.out.below ((l1.trans (b'.mono l1.size)).mono hn)).rg.mono (Nat.le_trans hn (l1.trans (b'.mono l1.size)).size)) (Lrd.of_row (Kg.row_base o' (Nat.zero_le _))) (by omega)
      rw [decide_eq_false hE] at h3
      exact h3
    have HE : Hid (¬ g.rg = Im.fins (os.map (·.o))) := hE
    clear hE
    refine wp_region_held_drew (S := fun w' => w'.cell? ⟨w.heap.size, 0, none⟩ = some (.slice a os.length cap) ∧ w'.cell? ⟨w.heap.size, 3, none⟩ = some (.slice ar g.rg.length rcap) ∧ w'.cell? ⟨w.heap.size, 4, none⟩ = some (.slice aq g.qu.length qcap)) Kg.mixed (And.intro y0 (And.intro y3 y4)) (fun hHeld => ?_)
    refine wpAnyH_take (i := 0) (v := (.pointer (some ⟨w.heap.size, 3, none⟩))) rfl (by kernel_rfl) (by kernel_rfl) (by kernel_rfl) (fun _ _ _ h => h) (Or.inl ⟨by rfl, fun w hSw => ?_⟩) (by assumption) ?_
    · obtain ⟨s0, s3, s4⟩ := hSw
      go_simp
    change wpAnyH _ _ _ _ _ _ _ (Act.put _ (some 6) (.pointer (some ⟨w.heap.size, 3, none⟩))) _
    simp only [Act.put, List.setIfInBounds_toArray, List.set_cons_zero, List.set_cons_succ]
    refine wpAnyH_take (i := 1) (v := (.slice ar g.rg.length rcap)) rfl (by kernel_rfl) (by kernel_rfl) (by kernel_rfl) (fun _ _ _ h => h) (Or.inl ⟨by rfl, fun w hSw => ?_⟩) (by assumption) ?_
    · obtain ⟨s0, s3, s4⟩ := hSw
      go_simp
    change wpAnyH _ _ _ _ _ _ _ (Act.put _ (some 7) (.slice ar g.rg.length rcap)) _
    simp only [Act.put, List.setIfInBounds_toArray, List.set_cons_zero, List.set_cons_succ]
    refine wpAnyH_take (i := 2) (v := (.pointer (some ⟨w.heap.size, 0, none⟩))) rfl (by kernel_rfl) (by kernel_rfl) (by kernel_rfl) (fun _ _ _ h => h) (Or.inl ⟨by rfl, fun w hSw => ?_⟩) (by assumption) ?_
    · obtain ⟨s0, s3, s4⟩ := hSw
      go_simp
    change wpAnyH _ _ _ _ _ _ _ (Act.put _ (some 8) (.pointer (some ⟨w.heap.size, 0, none⟩))) _
    simp only [Act.put, List.setIfInBounds_toArray, List.set_cons_zero, List.set_cons_succ]
    refine wpAnyH_take (i := 3) (v := (.slice a os.length cap)) rfl (by kernel_rfl) (by kernel_rfl) (by kernel_rfl) (fun _ _ _ h => h) (Or.inl ⟨by rfl, fun w hSw => ?_⟩) (by assumption) ?_
    · obtain ⟨s0, s3, s4⟩ := hSw
      go_simp
    change wpAnyH _ _ _ _ _ _ _ (Act.put _ (some 9) (.slice a os.length cap)) _
    simp only [Act.put, List.setIfInBounds_toArray, List.set_cons_zero, List.set_cons_succ]
    refine wpAnyH_ready (rs := [4]) (by kernel_rfl) (by simp) (AllReadyH.cons rfl (fun K hK => ?_) AllReadyH.nil)
    go_simp
    refine (HF.out _ hB0).mono ?_
    rintro e w3 ⟨v3, rfl, b3, o3⟩
    have B3 : Below w1.heap.size w1 w3 := hB0.trans (b3.mono hB0.size)
    refine hK.out _ _ (HK.out w3 B3) (fun hHeld3 => ?_)
    clear hK K hHeld
    refine wpAnyH_ready (rs := [5]) (by kernel_rfl) (by simp) (AllReadyH.cons rfl (fun K hK => ?_) AllReadyH.nil)
    go_simp
    refine (HQ.out _ _ B3 o3).mono ?_
    rintro e w4 ⟨rfl, nq, rfl⟩
    have B4 : Below w1.heap.size w1 (w3.drewN nq) := ⟨B3.os, B3.tape, B3.output, B3.size, B3.block⟩
    refine hK.out _ _ (HK.out _ B4) (fun hHeld4 => ?_)
    clear hK K hHeld3
    refine wpAnyH_take (i := 6) (v := (.bool true)) rfl (by kernel_rfl) (by kernel_rfl) (by kernel_rfl) (fun _ _ _ h => h) (Or.inl ⟨by rfl, fun w hSw => ?_⟩) (by assumption) ?_
    · go_simp
    change wpAnyH _ _ _ _ _ _ _ (Act.put _ (some 12) (.bool true)) _
    simp only [Act.put, List.setIfInBounds_toArray, List.set_cons_zero, List.set_cons_succ]
    refine wpAnyH_take (i := 7) (v := (.bool true)) rfl (by kernel_rfl) (by kernel_rfl) (by kernel_rfl) (fun _ _ _ h => h) (Or.inl ⟨by rfl, fun w hSw => ?_⟩) (by assumption) ?_
    · go_simp
    change wpAnyH _ _ _ _ _ _ _ (Act.put _ (some 13) (.bool true)) _
    simp only [Act.put, List.setIfInBounds_toArray, List.set_cons_zero, List.set_cons_succ]
    refine wpAnyH_take (i := 8) (v := undef) rfl (by kernel_rfl) (by kernel_rfl) (by kernel_rfl) (fun _ _ _ h => h) (Or.inr ⟨by rfl, rfl⟩) (by assumption) ?_
    change wpAnyH _ _ _ _ _ _ _ (Act.put _ (some 14) undef) _
    simp only [Act.put, List.setIfInBounds_toArray, List.set_cons_zero, List.set_cons_succ]
    refine wpAnyH_take (i := 9) (v := undef) rfl (by kernel_rfl) (by kernel_rfl) (by kernel_rfl) (fun _ _ _ h => h) (Or.inr ⟨by rfl, rfl⟩) (by assumption) ?_
    change wpAnyH _ _ _ _ _ _ _ (Act.put _ (some 15) undef) _
    simp only [Act.put, List.setIfInBounds_toArray, List.set_cons_zero, List.set_cons_succ]
    refine wpAnyH_take (i := 10) (v := undef) rfl (by kernel_rfl) (by kernel_rfl) (by kernel_rfl) (fun _ _ _ h => h) (Or.inr ⟨by rfl, rfl⟩) (by assumption) ?_
    change wpAnyH _ _ _ _ _ _ _ (Act.put _ (some 16) undef) _
    simp only [Act.put, List.setIfInBounds_toArray, List.set_cons_zero, List.set_cons_succ]
    refine wpAnyH_take (i := 11) (v := undef) rfl (by kernel_rfl) (by kernel_rfl) (by kernel_rfl) (fun _ _ _ h => h) (Or.inr ⟨by rfl, rfl⟩) (by assumption) ?_
    change wpAnyH _ _ _ _ _ _ _ (Act.put _ (some 17) undef) _
    simp only [Act.put, List.setIfInBounds_toArray, List.set_cons_zero, List.set_cons_succ]
    refine wpAnyH_take (i := 12) (v := undef) rfl (by kernel_rfl) (by kernel_rfl) (by kernel_rfl) (fun _ _ _ h => h) (Or.inr ⟨by rfl, rfl⟩) (by assumption) ?_
    change wpAnyH _ _ _ _ _ _ _ (Act.put _ (some 18) undef) _
    simp only [Act.put, List.setIfInBounds_toArray, List.set_cons_zero, List.set_cons_succ]
    refine wpAnyH_take (i := 13) (v := undef) rfl (by kernel_rfl) (by kernel_rfl) (by kernel_rfl) (fun _ _ _ h => h) (Or.inr ⟨by rfl, rfl⟩) (by assumption) ?_
    change wpAnyH _ _ _ _ _ _ _ (Act.put _ (some 19) undef) _
    simp only [Act.put, List.setIfInBounds_toArray, List.set_cons_zero, List.set_cons_succ]
    refine wpAnyH_take (i := 14) (v := undef) rfl (by kernel_rfl) (by kernel_rfl) (by kernel_rfl) (fun _ _ _ h => h) (Or.inr ⟨by rfl, rfl⟩) (by assumption) ?_
    change wpAnyH _ _ _ _ _ _ _ (Act.put _ (some 20) undef) _
    simp only [Act.put, List.setIfInBounds_toArray, List.set_cons_zero, List.set_cons_succ]
    refine wpAnyH_take (i := 15) (v := (.bool true)) rfl (by kernel_rfl) (by kernel_rfl) (by kernel_rfl) (fun _ _ _ h => h) (Or.inl ⟨by rfl, fun w hSw => ?_⟩) (by assumption) ?_
    · go_simp
    change wpAnyH _ _ _ _ _ _ _ (Act.put _ (some 21) (.bool true)) _
    simp only [Act.put, List.setIfInBounds_toArray, List.set_cons_zero, List.set_cons_succ]
    refine wpAnyH_done (by kernel_rfl) ?_ _
    have HB4 : Hid (Below w.heap.size w (w3.drewN nq)) := l1.trans (B4.mono l1.size)
    clear b3 B3 o3 B4
    go_wp2
    go_ret
    exact .inl ⟨rfl, HB4.out, fun h9 => HE.out (by rw [h9.reg, Heo.out])⟩
end Go.Proofs.YtkekaifiahjljaaGreatDoor
namespace Go.Proofs.YtkekaifiahjljaaGreatDoor.Kg
open Go.RowKit
theorem setCells_row (g e n : Nat) : ∀ (vs : List Value) (o : Nat) (w : World) (cur : Array Value), w.heap[g]? = some (.cells cur e (0, 0)) → n ≤ o → ∃ cur', (w.setCells g o vs).heap[g]? = some (.cells cur' e (0, 0)) ∧ cur'.size = cur.size ∧ cur'.toList.take n = cur.toList.take n
  | [], o, w, cur, h, _ => ⟨cur, h, rfl, rfl⟩
  | v :: vs, o, w, cur, h, ho => by
    obtain ⟨c2, h1, h2, h3⟩ := setCells_row g e n vs (o + 1) _ _ (heap_set h o v) (by omega)
    refine ⟨c2, h1, by rw [h2]; simp, ?_⟩
    rw [h3, Array.toList_setIfInBounds, List.take_set_of_le ho]
theorem run_append_row {P : Program} (w : World) (base : Nat) (t ty e : TypeId) (i : TypeInfo) (z : Value) (bytes : Nat) (ht : P.underlying t = some (.slice e)) (hi : P.info? e = some i) (hz : i.zero = some z)
    (hsize : i.size = 1) (hby : i.bytes = bytes) (hzs : z.cells.size = 1)
    (v : Value) (n : Nat) (xs : List Value) (hown : w.ownsRow base e 1 v n xs)
    (ax : Option Addr) (c : Nat) (news : List Value) (hnews : ∀ (j : Nat) u, news[j]? = some u → ∃ ad, ax = some ad ∧ w.cell? (ad.add j) = some u) (h1 : ∀ u ∈ news, u.oneCell' = true)
    (h63 : n + news.length ≤ maxLen) (hbytes : (n + news.length) * bytes ≤ 140737488355328) (hbase : base ≤ w.heap.size) :
    ∃ v' w', (Builtin.append_ #[t, t] ty #[v, .slice ax news.length c]).run P w = .ok v' w' ∧ w'.ownsRow base e 1 v' (n + news.length) (xs ++ news) ∧ w.grownBy w' v.ownBlock ∧
      (v' = .slice none 0 0 → v = .slice none 0 0) ∧ (v'.ownBlock = v.ownBlock ∨ v'.ownBlock = some w.heap.size) ∧ w'.ownsRow base e 1 v n xs := by
  cases ax with
  | none =>
    have hx0 : news = [] := by
      cases news with
      | nil => rfl
      | cons y ys => obtain ⟨ad, e, -⟩ := hnews 0 y rfl; cases e
    subst hx0
    obtain ⟨a0, cp, rfl, hle⟩ : ∃ a0 cp, v = .slice a0 n cp ∧ n ≤ cp := by
      rcases hown.2 with ⟨rfl, rfl⟩ | ⟨g, cap, cur, rfl, _, _, hle, _⟩
      · exact ⟨_, _, rfl, Nat.le_refl _⟩
      · exact ⟨_, _, rfl, hle⟩
    have hr := run_append_nothing (P := P) w t t ty e i ht hi a0 n cp hle (.slice none 0 c) (Src.ofNil w ht c)
    exact ⟨_, _, hr, by simpa using hown, ⟨rfl, rfl, rfl, Nat.le_refl _, fun _ _ _ => rfl⟩, fun h => h, .inl rfl, hown⟩
  | some ad =>
    have hnw : ∀ j u, news[j]? = some u → w.cell? (ad.add j) = some u := fun j u hj => by
      obtain ⟨ad', e, h⟩ := hnews j u hj
      cases e; exact h
    obtain ⟨v', w', hr, h2, h3, h4, h5⟩ := run_append_own_at (P := P) w base t ty e i z 1 bytes ht hi hz hsize hby hzs (by decide) v n xs hown ad news.length c news (by simp) hnw h1 h63 hbytes hbase
    refine ⟨v', w', hr, h2, h3, fun h => (h4.1 h).1, h5, ?_⟩
    refine ⟨hown.1, ?_⟩
    rcases hown.2 with ⟨rfl, rfl⟩ | ⟨g, cap, cur, rfl, hbg, hg, hnc, hcm, hcs, htake⟩
    · exact .inl ⟨rfl, rfl⟩
    · by_cases hroom : n + news.length ≤ cap
      · have hr2 := run_append_room_cells (P := P) w t ty e i ht hi g 0 n cap ad news.length c news (by rw [hsize]; simp) hnw h1 hroom (fun j hj => by
          rw [heap_cell hg, hsize]
          have : j + n < cur.size := by omega
          rw [Array.getElem?_eq_getElem (by omega)]; rfl) (fun j hj => heap_frozen hg _)
        rw [hr] at hr2
        simp only [Result.ok.injEq] at hr2
        obtain ⟨rfl, rfl⟩ := hr2
        obtain ⟨c2, q1, q2, q3⟩ := setCells_row g e (n * 1) news (0 + n * i.size) w cur hg (by rw [hsize]; omega)
        exact .inr ⟨g, cap, c2, rfl, hbg, q1, hnc, hcm, by rw [q2]; exact hcs, by rw [q3]; exact htake⟩
      · have holds : ∀ j u, xs[j]? = some u → w.cell? ((⟨g, 0, none⟩ : Addr).add j) = some u := hown.cells (g := g) rfl
        obtain ⟨v2, w2, hr2, q1, q2⟩ := run_append_arg_grows (P := P) w t ty e i z 1 bytes ht hi hz hsize hby hzs (by decide) ⟨g, 0, none⟩ n cap xs hown.1 holds ad news.length c news (by simp) hnw (by omega) h63 hbytes
        rw [hr] at hr2
        simp only [Result.ok.injEq] at hr2
        obtain ⟨rfl, rfl⟩ := hr2
        exact .inr ⟨g, cap, cur, rfl, hbg, by rw [q2.block g (heap_lt hg) (by simp)]; exact hg, hnc, hcm, hcs, htake⟩
theorem wpList_append_row {P : Program} {w : World} {ops : Array Oper} {rest : List Oper} {o : Oper} {a : Act} {Q : Exit → Act → World → Prop} (hgd : o.guard = none) (s x : Operand) (t : TypeId)
    (ho : o.op = .call { callee := .builtin .append, args := #[s, x], argTypes := #[t, t] })
    (base : Nat) (e : TypeId) (i : TypeInfo) (z : Value) (bytes : Nat) (ht : P.underlying t = some (.slice e)) (hi : P.info? e = some i) (hz : i.zero = some z)
    (hsize : i.size = 1) (hby : i.bytes = bytes) (hzs : z.cells.size = 1)
    (v : Value) (n : Nat) (xs : List Value) (hs : a.eval s = v) (hown : w.ownsRow base e 1 v n xs)
    (ax : Option Addr) (m c : Nat) (news : List Value) (hm : m = news.length) (hx : a.eval x = .slice ax m c) (hnews : ∀ (j : Nat) u, news[j]? = some u → ∃ ad, ax = some ad ∧ w.cell? (ad.add j) = some u) (h1 : ∀ u ∈ news, u.oneCell' = true)
    (h63 : n + m ≤ maxLen) (hbytes : (n + m) * bytes ≤ 140737488355328) (hbase : base ≤ w.heap.size)
    (h : ∀ v' w', w'.ownsRow base e 1 v' (n + m) (xs ++ news) → w.grownBy w' v.ownBlock → (v' = .slice none 0 0 → v = .slice none 0 0) → (v'.ownBlock = v.ownBlock ∨ v'.ownBlock = some w.heap.size) → w'.ownsRow base e 1 v n xs → wpList P ops Q rest (a.put o.dst v') w') :
    wpList P ops Q (o :: rest) a w := by
  subst hm
  refine wpList_plain hgd fun K hK => ?_
  obtain ⟨v', w', hr, h2, h3, h4, h5, h6⟩ := run_append_row (P := P) w base t o.type e i z bytes ht hi hz hsize hby hzs v n xs hown ax c news hnews h1 h63 hbytes hbase
  unfold Oper.wp execOp
  simp only [ho, resolve, invoke, builtin, Sem.run_bind, Sem.run_pure, Result.andThen_ok, List.map_toArray, List.map_cons, List.map_nil, hs, hx, hr]
  exact hK _ _ (h v' w' h2 h3 h4 h5 h6)
theorem ownsRow_some {w : World} {base n e s : Nat} {v : Value} {xs : List Value} (h : w.ownsRow base e s v n xs) (hn : 0 < n) : ∃ g cap, v = .slice (some ⟨g, 0, none⟩) n cap := by
  rcases h.2 with ⟨_, h0⟩ | ⟨g, cap, cur, rfl, _⟩
  · omega
  · exact ⟨g, cap, rfl⟩
end Go.Proofs.YtkekaifiahjljaaGreatDoor.Kg
