import Derived.Test.YtckgcpoheodbcaaGreatDoorQ03
import Derived.Maps.AppendAt
import Derived.Deep.Cut
import Derived.Deep.RegionHeld3
set_option linter.unusedVariables false
set_option maxHeartbeats 8000000
set_option maxRecDepth 20000
namespace Go.Proofs.YtckgcpoheodbcaaGreatDoor
open Go.RowKit Go.Shelf
theorem own_slI {w : World} {base n e size : Nat} {v : Value} {xs : List Value} (h : w.ownsRow base e size v n xs) : ∃ a cap, v = .slice a n cap := by
 rcases h.2 with ⟨rfl, rfl⟩ | ⟨g, cap, cur, rfl, _⟩
 ·exact ⟨_, _, rfl⟩
 ·exact ⟨_, _, rfl⟩
theorem fins_snoc (l : List Im.Ob) (o : Im.Ob) : Im.fins (l ++ [o]) = Im.fins l ++ (if o.kind = 4 then [((l.length : Nat) : Int) + 1] else []) := by
 have h := Im.finsFrom_snoc l 0 o
 rw [Nat.zero_add] at h
 exact h
theorem fins_len (l : List Im.Ob) : (Im.fins l).length ≤ l.length := by
 have : ∀ (l : List Im.Ob) (i : Nat), (Im.finsFrom i l).length ≤ l.length := by
  intro l
  induction l with
  | nil => intro i; simp [Im.finsFrom]
  | cons x r ih =>
   intro i
   simp only [Im.finsFrom]
   have := ih (i + 1)
   split <;> simp <;> omega
 exact this l 0
theorem gFinals_any (n0 : Nat) (w : World) (vo : Value) (os : List OL) (ho : Ord n0 w vo os) (hn : n0 ≤ w.heap.size) (hol : os.length ≤ 1000000000000) (hkd : ∀ x, x ∈ os → InI x.o.kind) :
  Calls Tryz.prog 118 #[vo] w fun e w' => ∃ v, e = .returned v ∧ Below w.heap.size w w' ∧ w'.ownsRow w.heap.size 3 1 v (Im.fins (os.map (·.o))).length (Kg.ints (Im.fins (os.map (·.o)))) := by
 obtain ⟨i0, hi0, hj0, hj1, hj2⟩ := info_parts Kg.Tryz.infoInt
 have HI : Hid (Tryz.prog.info? 3 = some i0 ∧ i0.zero = some (.int .i64 0) ∧ i0.size = 1 ∧ i0.bytes = 8) := ⟨hi0, hj0, hj1, hj2⟩
 clear hi0 hj0 hj1 hj2
 have Ho : Hid (Ord n0 w vo os) := ho
 have Hkd : Hid (∀ x, x ∈ os → InI x.o.kind) := hkd
 obtain ⟨a, cap, rfl, -⟩ := ho
 clear hkd
 go_enter Tryz.func118, Tryz.ntmps118
 go_wp2
 go_loopw [3, 8] (fun v3 v8 wr => ∃ k : Nat, k ≤ os.length ∧ v8 = .int .i64 k ∧ Hid (wr.ownsRow w.heap.size 3 1 v3 (Im.fins ((os.map (·.o)).take k)).length (Kg.ints (Im.fins ((os.map (·.o)).take k)))) ∧ Hid (Below w.heap.size w wr)) (fun _ v8 _ => os.length - (intOf v8).toNat)
 case atStart => exact ⟨0, Nat.zero_le _, rfl, World.ownsRow_nil _ _ _ _, Below.refl _ _⟩
 case round =>
  obtain ⟨k, hk, rfl, Hl, Hb⟩ := hrel
  obtain ⟨al, cl, hvl⟩ := own_slI Hl.out
  subst hvl
  by_cases hkl : k < os.length
  ·have hki : (k : Int) < (os.length : Int) := by omega
   have hz : os[k]? = some (os[k]'hkl) := List.getElem?_eq_getElem hkl
   generalize os[k]'hkl = x at hz
   obtain ⟨a', cap', ea, hob⟩ := Ho.out.below (Hb.out.mono hn)
   cases ea
   obtain ⟨hp, hr, q, off, rfl, hq, hc⟩ := hob k x hz
   have c0 : wr.cell? ⟨q, off + k * 5, none⟩ = some (.int .u64 x.o.ser) := hc 0 (by omega)
   have c1 : wr.cell? ⟨q, off + k * 5 + 1, none⟩ = some (.int .i64 x.o.kind) := hc 1 (by omega)
   have c2 : wr.cell? ⟨q, off + k * 5 + 2, none⟩ = some (.int .i64 x.o.site) := hc 2 (by omega)
   have c3 : wr.cell? ⟨q, off + k * 5 + 3, none⟩ = some x.vp := hc 3 (by omega)
   have c4 : wr.cell? ⟨q, off + k * 5 + 4, none⟩ = some x.vr := hc 4 (by omega)
   obtain ⟨ap, cp, ep, -⟩ := hp
   obtain ⟨ar, cr, er, -⟩ := hr
   rw [ep] at c3
   rw [er] at c4
   have Hz : Hid ((os.map (·.o))[k]? = some x.o) := by rw [List.getElem?_map, hz]; rfl
   clear hob hc hz ep er
   have Hfl : Hid ((Im.fins ((os.map (·.o)).take k)).length ≤ 1000000000000) := by
    have h3 := fins_len ((os.map (·.o)).take k)
    rw [List.length_take, List.length_map] at h3
    show _ ≤ _
    omega
   by_cases h4 : x.o.kind = 4
   ·have h4b : (x.o.kind == 4) = true := by simp [h4]
    have He : Hid (Im.fins ((os.map (·.o)).take (k + 1)) = Im.fins ((os.map (·.o)).take k) ++ [(k : Int) + 1]) := by
     have h3 : ((os.map (·.o)).take k).length = k := by rw [List.length_take, List.length_map]; omega
     rw [take_snocL Hz.out, fins_snoc, if_pos h4, h3]; rfl
    go_upto_region 5 with fail
    have lA : Below wr.heap.size wr (wr.alloc (.cells (ocs x.o.ser 4 x.o.site (.slice ap x.o.ps.length cp) (.slice ar x.o.rs.length cr)) 61)) := Below.alloc (Below.refl _ _) (Nat.le_refl _) _
    have hA : (wr.alloc (.cells (ocs x.o.ser 4 x.o.site (.slice ap x.o.ps.length cp) (.slice ar x.o.rs.length cr)) 61)).cell? ⟨wr.heap.size, 1, none⟩ = some (.int .i64 4) := cell_of_row _ _ 1 _ _ _ (heap_alloc_new wr (.cells (ocs x.o.ser 4 x.o.site (.slice ap x.o.ps.length cp) (.slice ar x.o.rs.length cr)) 61 (0, 0)))
    have HlA : Hid ((wr.alloc (.cells (ocs x.o.ser 4 x.o.site (.slice ap x.o.ps.length cp) (.slice ar x.o.rs.length cr)) 61)).ownsRow w.heap.size 3 1 (.slice al (Im.fins ((os.map (·.o)).take k)).length cl) (Im.fins ((os.map (·.o)).take k)).length (Kg.ints (Im.fins ((os.map (·.o)).take k)))) := Hl.out.alloc _
    have HbA : Hid (Below w.heap.size w (wr.alloc (.cells (ocs x.o.ser 4 x.o.site (.slice ap x.o.ps.length cp) (.slice ar x.o.rs.length cr)) 61))) := Hb.out.alloc Hb.out.size _
    rw [show (#[.int .u64 x.o.ser, .int .i64 4, .int .i64 x.o.site, .slice ap x.o.ps.length cp, .slice ar x.o.rs.length cr] : Array Value) = ocs x.o.ser 4 x.o.site (.slice ap x.o.ps.length cp) (.slice ar x.o.rs.length cr) from rfl]
    generalize wr.alloc (.cells (ocs x.o.ser 4 x.o.site (.slice ap x.o.ps.length cp) (.slice ar x.o.rs.length cr)) 61) = wA at *
    clear lA c0 c1 c2 c3 c4
    go_wp2_with (at_builtin; refine wpList_append_own_at _ rfl _ _ 24 rfl w.heap.size 3 i0 (.int .i64 0) 1 8 Tryz.underlying24 HI.out.1 HI.out.2.1 HI.out.2.2.1 HI.out.2.2.2 rfl (by decide) _ _ _ rfl (HlA.out.alloc _) ⟨wA.heap.size, 0, none⟩ 1 1 [.int .i64 ((k : Int) + 1)] rfl rfl (cell_one_new _ _ _) (by simp [Value.oneCell']) (by have := Hfl.out; simp [maxLen]; omega) (by have := Hfl.out; omega) (by have := HbA.out.size; simp; omega) ?_; intro v' w8 hown' hgrow _ hat)
    have t8 : Kg.Touch (Value.slice al (Im.fins ((os.map (·.o)).take k)).length cl).ownBlock.toList wA w8 := ⟨hgrow.os, hgrow.tape, hgrow.output, by have := hgrow.size; simp at this; omega, fun k hk hn => (hgrow.block k (by simp; omega) (fun e => hn (by rw [Option.mem_toList]; exact e.symm))).trans (Below.heap_alloc _ _ _ hk)⟩
    have Hl8 : Hid (w8.ownsRow w.heap.size 3 1 v' (Im.fins ((os.map (·.o)).take (k + 1))).length (Kg.ints (Im.fins ((os.map (·.o)).take (k + 1))))) := by
     show w8.ownsRow _ _ _ _ _ _
     rw [He.out]
     simpa [Kg.ints] using hown'
    have Hb8 : Hid (Below w.heap.size w w8) := HbA.out.trans (t8.below HbA.out.size (fun y hy => by rw [Option.mem_toList] at hy; exact (HlA.out.lt y hy).1))
    obtain ⟨a9, c9, hv9⟩ := own_slI Hl8.out
    subst hv9
    clear hown' hgrow hat t8 Hl Hb HlA HbA
    go_wp2
    go_roundw
    case rel => exact ⟨k + 1, by omega, by go_num, Hl8, Hb8⟩
    case measure => simp [intOf]; omega
   ·have h4b : (x.o.kind == 4) = false := by simp [h4]
    have He : Hid (Im.fins ((os.map (·.o)).take (k + 1)) = Im.fins ((os.map (·.o)).take k)) := by
     rw [take_snocL Hz.out, fins_snoc, if_neg h4, List.append_nil]; rfl
    go_wp2
    go_roundw
    case rel => exact ⟨k + 1, by omega, by go_num, by rw [He.out]; exact Hl.out.alloc _, Hb.out.alloc Hb.out.size _⟩
    case measure => simp [intOf]; omega
  ·have hki : ¬ (k : Int) < (os.length : Int) := by omega
   have e9 : (os.map (·.o)).take k = os.map (·.o) := List.take_of_length_le (by simp; omega)
   rw [e9] at Hl
   go_wp2
   go_ret
   exact ⟨_, rfl, Hb.out, Hl.out⟩
theorem Tryz.infoBool : (Tryz.prog.info? 4).map (fun i => (i.zero, i.size, i.bytes)) = some (some (.bool false), 1, 1) := by kernel_rfl
theorem make_bools (n : Nat) (hn : n ≤ 1000000000001) : ∀ w, (Instr.makeSlice 66 (.int .i64 (n : Int)) (.int .i64 (n : Int))).run Tryz.prog w = .ok (.slice (some ⟨w.heap.size, 0, none⟩) n n) (w.alloc (.cells (madeCells #[.bool false] n) 4)) := fun w => by
 obtain ⟨i0, hi0, hz0, hz1, hz2⟩ := info_parts Tryz.infoBool
 have := run_make (P := Tryz.prog) w 66 4 i0 (.bool false) Tryz.underlying66 hi0 hz0 .i64 .i64 n n (by omega) (Int.le_refl _) (by rw [hz2]; omega) (by omega)
 rw [hz1, Nat.mul_one] at this
 exact this
structure FM (g : Im.Gr) : Prop where
 reg : g.rg = Im.fins g.obs
 que : allB 1 g.obs.length g.qu
 once : g.qu.Nodup
 plain : ∀ z, z ∈ g.qu → ∀ o, g.obs[(z - 1).toNat]? = some o → o.kind ≠ 4
structure Fq (obs : List Im.Ob) (l : List Int) (M : Nat → Bool) : Prop where
 m : ∀ n, M n = true ↔ (n : Int) ∈ l
 once : l.Nodup
 plain : ∀ z, z ∈ l → ∀ o, obs[(z - 1).toNat]? = some o → o.kind ≠ 4
theorem Fq.nil (obs : List Im.Ob) : Fq obs [] (fun _ => false) := ⟨fun n => by simp, List.nodup_nil, fun z hz => by simp at hz⟩
theorem Fq.snoc {obs : List Im.Ob} {l : List Int} {M : Nat → Bool} {z : Int} {o : Im.Ob} (h : Fq obs l M) (hz : 0 ≤ z) (hM : M z.toNat = false) (ho : obs[(z - 1).toNat]? = some o) (hk : o.kind ≠ 4) : Fq obs (l ++ [z]) (Im.metSet M z.toNat) := by
 have hn : z ∉ l := fun h9 => by
  have := (h.m z.toNat).2 (by rw [show ((z.toNat : Nat) : Int) = z by omega]; exact h9)
  rw [hM] at this
  cases this
 refine ⟨fun n => ?_, ?_, fun y hy o' ho' => ?_⟩
 ·simp only [Im.metSet, Bool.or_eq_true, decide_eq_true_eq, List.mem_append, List.mem_singleton, h.m]
  constructor
  ·rintro (h1 | h1)
   ·exact .inr (by omega)
   ·exact .inl h1
  ·rintro (h1 | h1)
   ·exact .inr h1
   ·exact .inl (by omega)
 ·rw [List.nodup_append]
  exact ⟨h.once, by simp, fun a ha b hb => by simp at hb; rw [hb]; exact fun e => hn (e ▸ ha)⟩
 ·rcases List.mem_append.1 hy with h1 | h1
  ·exact h.plain y h1 o' ho'
  ·simp at h1
   rw [h1, ho] at ho'
   cases ho'
   exact hk
theorem gFinalsM_any (n0 : Nat) (w : World) (vo vs vh vr vq : Value) (os : List OL) (ts : List (Value × List (Value × List Int))) (g : Im.Gr) (hg : Grd n0 w vo vs vh vr vq os ts g) (hn : n0 ≤ w.heap.size) (hol : os.length ≤ 1000000000000) (hrl : g.rg.length ≤ 4611686018427387904) (hql : g.qu.length ≤ 4611686018427387904) :
  Calls Tryz.prog 92 #[.agg (gcs vo vs vh vr vq g.next)] w fun e w' => ∃ r : Bool, e = .returned (.bool r) ∧ Below w.heap.size w w' ∧ (r = true ↔ FM g) := by
 have l1 : Below w.heap.size w (w.alloc (.cells (gcs vo vs vh vr vq g.next) 27)) := Below.alloc (Below.refl _ _) (Nat.le_refl _) _
 have hy := fun j => cell_of_row _ _ j _ _ _ (heap_alloc_new w (.cells (gcs vo vs vh vr vq g.next) 27 (0, 0)))
 have y0 : (w.alloc (.cells (gcs vo vs vh vr vq g.next) 27)).cell? ⟨w.heap.size, 0, none⟩ = some vo := hy 0
 have y3 : (w.alloc (.cells (gcs vo vs vh vr vq g.next) 27)).cell? ⟨w.heap.size, 3, none⟩ = some vr := hy 3
 have y4 : (w.alloc (.cells (gcs vo vs vh vr vq g.next) 27)).cell? ⟨w.heap.size, 4, none⟩ = some vq := hy 4
 have Hg : Hid (Grd n0 w vo vs vh vr vq os ts g) := hg
 have hx := hg.ob
 obtain ⟨a, cap, rfl, -⟩ := hx
 have hx := hg.rg
 obtain ⟨ar, rcap, rfl, -⟩ := hx
 have hx := hg.qu
 obtain ⟨aq, qcap, rfl, -⟩ := hx
 have Heol : Hid (g.obs.length = os.length) := by show _ = _; rw [hg.eo, List.length_map]
 have Heo : Hid (g.obs = os.map (·.o)) := hg.eo
 clear hg hy
 generalize hw1 : w.alloc (.cells (gcs (.slice a os.length cap) vs vh (.slice ar g.rg.length rcap) (.slice aq g.qu.length qcap) g.next) 27) = w1 at *
 have e1 : w1.heap.size = w.heap.size + 1 := by rw [← hw1]; simp
 have HF : Hid (∀ w', Below w1.heap.size w1 w' → Calls Tryz.prog 118 #[.slice a os.length cap] w' fun e w'' => ∃ v, e = .returned v ∧ Below w'.heap.size w' w'' ∧ w''.ownsRow w'.heap.size 3 1 v (Im.fins (os.map (·.o))).length (Kg.ints (Im.fins (os.map (·.o))))) := fun w' b' =>
  gFinals_any n0 w' _ os (Hg.out.below ((l1.trans (b'.mono l1.size)).mono hn)).ob (Nat.le_trans hn (l1.trans (b'.mono l1.size)).size) hol (fun x hx => (Hg.out.sr x.o (by rw [Heo.out]; exact List.mem_map_of_mem hx)).2.1)
 have HW : Hid (∀ w', Below w1.heap.size w1 w' → Calls Tryz.prog 114 #[.slice aq g.qu.length qcap, .int .i64 1, .int .i64 os.length] w' fun e w'' => ∃ r : Bool, e = .returned (.bool r) ∧ Below w'.heap.size w' w'' ∧ (r = true ↔ allB 1 os.length g.qu)) := fun w' b' =>
  gWithin_any 1 os.length n0 _ g.qu w' (Hg.out.below ((l1.trans (b'.mono l1.size)).mono hn)).qu (Nat.le_trans hn (l1.trans (b'.mono l1.size)).size) hql
 have HK : Hid (∀ w', Below w1.heap.size w1 w' → w'.cell? ⟨w.heap.size, 0, none⟩ = some (.slice a os.length cap) ∧ w'.cell? ⟨w.heap.size, 3, none⟩ = some (.slice ar g.rg.length rcap) ∧ w'.cell? ⟨w.heap.size, 4, none⟩ = some (.slice aq g.qu.length qcap)) := fun w' b' =>
  ⟨(b'.cell (p := ⟨w.heap.size, 0, none⟩) (by rw [e1]; exact Nat.lt_succ_self _)).trans y0, (b'.cell (p := ⟨w.heap.size, 3, none⟩) (by rw [e1]; exact Nat.lt_succ_self _)).trans y3, (b'.cell (p := ⟨w.heap.size, 4, none⟩) (by rw [e1]; exact Nat.lt_succ_self _)).trans y4⟩
 go_enter Tryz.func92, Tryz.ntmps92
 go_upto_region 1 with fail
 have hB0 : Below w1.heap.size w1 w1.drew := (Below.refl _ _).drew
 by_cases hE : g.rg = Im.fins (os.map (·.o))
 ·have HQ : Hid (∀ w' v, Below w1.heap.size w1 w' → w'.ownsRow w1.heap.size 3 1 v (Im.fins (os.map (·.o))).length (Kg.ints (Im.fins (os.map (·.o)))) → Calls Tryz.prog 117 #[.slice ar g.rg.length rcap, v] w' fun e w'' => e = .returned (.bool true) ∧ ∃ nq, w'' = w'.drewN nq) := fun w' v b' o' => by
   have h3 := slEqual_any w'.heap.size (.slice ar g.rg.length rcap) v g.rg (Im.fins (os.map (·.o))) w' ((Hg.out.below ((l1.trans (b'.mono l1.size)).mono hn)).rg.mono (Nat.le_trans hn (l1.trans (b'.mono l1.size)).size)) (Lrd.of_row (Kg.row_base o' (Nat.zero_le _))) (by omega)
   rw [decide_eq_true hE] at h3
   exact h3
  have HE : Hid (g.rg = Im.fins (os.map (·.o))) := hE
  clear hE
  go_region_held3 (fun w' => w'.cell? ⟨w.heap.size, 0, none⟩ = some (.slice a os.length cap) ∧ w'.cell? ⟨w.heap.size, 3, none⟩ = some (.slice ar g.rg.length rcap) ∧ w'.cell? ⟨w.heap.size, 4, none⟩ = some (.slice aq g.qu.length qcap)) (first | (exact And.intro ‹_› (And.intro ‹_› ‹_›)) | go_keep) (first | (go_at_call 118; refine (HF.out _ hB0).mono ?_; rintro e w3 ⟨v3, rfl, b3, o3⟩; have B3 : Below w1.heap.size w1 w3 := hB0.trans (b3.mono hB0.size); have k0 := (HK.out w3 B3).1; have k3 := (HK.out w3 B3).2.1; have k4 := (HK.out w3 B3).2.2) | (go_at_call 117; refine (HQ.out _ _ B3 o3).mono ?_; rintro e w4 ⟨rfl, nq, rfl⟩; have B4 : Below w1.heap.size w1 (w3.drewN nq) := ⟨B3.os, B3.tape, B3.output, B3.size, B3.block⟩; have m0 := (HK.out _ B4).1; have m3 := (HK.out _ B4).2.1; have m4 := (HK.out _ B4).2.2) | (go_at_call 114; refine (HW.out _ B4).mono ?_; rintro e w5 ⟨r, rfl, b5, hr⟩; have B5 : Below w1.heap.size w1 w5 := B4.trans (b5.mono B4.size); have j0 := (HK.out _ B5).1; have j3 := (HK.out _ B5).2.1; have j4 := (HK.out _ B5).2.2))
  cases r with
  | false =>
   have Hn : Hid (¬ FM g) := fun h9 => Bool.noConfusion (hr.2 (by rw [← Heol.out]; exact h9.que))
   have HB5 : Hid (Below w.heap.size w w5) := l1.trans (B5.mono l1.size)
   clear hr b5 B5 b3 B3 o3 B4
   go_wp2
   go_ret
   exact ⟨false, rfl, HB5.out, by simpa using Hn.out⟩
  | true =>
   have Hal : Hid (allB 1 os.length g.qu) := hr.1 rfl
   have HB5 : Hid (Below w1.heap.size w1 w5) := B5
   have hmk : ∀ w, (Instr.makeSlice 66 (.int .i64 ((os.length : Int) + 1)) (.int .i64 ((os.length : Int) + 1))).run Tryz.prog w = .ok (.slice (some ⟨w.heap.size, 0, none⟩) (os.length + 1) (os.length + 1)) (w.alloc (.cells (madeCells #[.bool false] (os.length + 1)) 4)) := fun w => make_bools (os.length + 1) (by omega) w
   have HR : Hid ((w5.alloc (.cells (madeCells #[.bool false] (os.length + 1)) 4)).rowIs w5.heap.size 4 (os.length + 1) (fun j => .bool ((fun _ => false) j))) := World.rowIs_made w5 (.bool false) (os.length + 1) 4
   have HB6 : Hid (Below w1.heap.size w1 (w5.alloc (.cells (madeCells #[.bool false] (os.length + 1)) 4))) := B5.alloc B5.size _
   have q0 := (HK.out _ HB6.out).1
   have q4 := (HK.out _ HB6.out).2.2
   have HBl : Hid (w1.heap.size ≤ w5.heap.size) := B5.size
   clear hr b5 B5 b3 B3 o3 B4 y0 y3 y4 j0 j3 m0 m3 m4 k0 k3 k4
   go_upto_region 4 with fail
   clear hmk
   generalize w5.alloc (.cells (madeCells #[.bool false] (os.length + 1)) 4) = w6 at *
   generalize w5.heap.size = B at *
   go_wp2
   go_loopw [30] (fun v30 wr => ∃ (k : Nat) (M : Nat → Bool), k ≤ g.qu.length ∧ v30 = .int .i64 k ∧ Hid (Fq g.obs (g.qu.take k) M) ∧ Hid (wr.rowIs B 4 (os.length + 1) (fun j => .bool (M j))) ∧ Hid (Below w1.heap.size w1 wr)) (fun v30 _ => g.qu.length - (intOf v30).toNat)
   case atStart => exact ⟨0, fun _ => false, Nat.zero_le _, rfl, Fq.nil _, HR, HB6⟩
   case round =>
    obtain ⟨k, M, hk, rfl, HQk, Hrow, Hbr⟩ := hrel
    have z0 := (HK.out _ Hbr.out).1
    have BW : Hid (Below w.heap.size w wr) := l1.trans (Hbr.out.mono l1.size)
    by_cases hkl : k < g.qu.length
    ·have hki : (k : Int) < (g.qu.length : Int) := by omega
     have hz : g.qu[k]? = some (g.qu[k]'hkl) := List.getElem?_eq_getElem hkl
     generalize g.qu[k]'hkl = z at hz
     have hzb := Hal.out z (List.mem_of_getElem? hz)
     simp only [inB, Bool.and_eq_true, decide_eq_true_eq] at hzb
     obtain ⟨m, rfl⟩ : ∃ m : Nat, z = m := ⟨z.toNat, by omega⟩
     have hm1 : 1 ≤ m := by omega
     have hm2 : m ≤ os.length := by omega
     have hm3 : (m : Int) < (os.length : Int) + 1 := by omega
     have hm4 : m < os.length + 1 := by omega
     obtain ⟨aq', qc', eq', -, hqc⟩ := (Hg.out.below (BW.out.mono hn)).qu
     cases eq'
     obtain ⟨q, off, rfl, hq, hcq⟩ := hqc k m hz
     have crow : wr.cell? ⟨B, m, none⟩ = some (.bool (M m)) := Hrow.out.cell hm4
     have Hz : Hid (g.qu[k]? = some (m : Int)) := hz
     clear hqc hz hzb
     cases hM : M m with
     | true =>
      rw [hM] at crow
      have Hn : Hid (¬ FM g) := fun h9 => by
       have h8 : (m : Int) ∈ g.qu.take k := (HQk.out.m m).1 hM
       have h7 : (m : Int) ∈ g.qu.drop k := List.mem_of_getElem? (i := 0) (by rw [List.getElem?_drop, Nat.add_zero]; exact Hz.out)
       have h6 := h9.once
       rw [← List.take_append_drop k g.qu, List.nodup_append] at h6
       exact h6.2.2 _ h8 _ h7 rfl
      clear hM
      go_wp2
      go_ret
      exact ⟨false, rfl, BW.out, by simpa using Hn.out⟩
     | false =>
      rw [hM] at crow
      have hos : os[m - 1]? = some (os[m - 1]'(by omega)) := List.getElem?_eq_getElem (by omega)
      generalize os[m - 1]'(by omega) = x at hos
      obtain ⟨a', cap', ea, hob⟩ := (Hg.out.below (BW.out.mono hn)).ob
      cases ea
      obtain ⟨hp, hr, q', off', rfl, hq', hc⟩ := hob (m - 1) x hos
      have c1 : wr.cell? ⟨q', off' + (m - 1) * 5 + 1, none⟩ = some (.int .i64 x.o.kind) := hc 1 (by omega)
      have hwm : wrap64 ((m : Int) - 1) = ((m - 1 : Nat) : Int) := by unfold wrap64; omega
      have hmi : ((m - 1 : Nat) : Int) < (os.length : Int) := by omega
      have hmn : m - 1 < os.length := by omega
      have Hob : Hid (g.obs[((m : Int) - 1).toNat]? = some x.o) := by
       show _ = _
       rw [show ((m : Int) - 1).toNat = m - 1 by omega, Heo.out, List.getElem?_map, hos]; rfl
      clear hob hc hos hp hr
      by_cases h4 : x.o.kind = 4
      ·have h4b : (x.o.kind == 4) = true := by simp [h4]
       have Hn : Hid (¬ FM g) := fun h9 => h9.plain m (List.mem_of_getElem? Hz.out) x.o Hob.out h4
       clear hM h4
       go_wp2
       go_ret
       exact ⟨false, rfl, BW.out, by simpa using Hn.out⟩
      ·have h4b : (x.o.kind == 4) = false := by simp [h4]
       have Hq2 : Hid (Fq g.obs (g.qu.take (k + 1)) (Im.metSet M m)) := by
        have h9 := HQk.out.snoc (z := (m : Int)) (o := x.o) (by omega) (by simpa using hM) Hob.out h4
        show Fq _ _ _
        rw [take_snocL Hz.out]
        simpa using h9
       have hfr : wr.frozen? ⟨B, m, none⟩ = false := Hrow.out.frozen m
       clear hM h4
       go_wp2
       go_roundw
       case rel =>
        refine ⟨k + 1, Im.metSet M m, by omega, by go_num, Hq2, ?_, ?_⟩
        ·exact (Hrow.out.set m (.bool true)).congr (fun j _ => by by_cases e : j = m <;> simp [Im.metSet, e])
        ·exact (Kg.Touch.setCell (F := [B]) wr ⟨B, m, none⟩ _ (by simp)) |>.below Hbr.out.size (fun y hy => by simp at hy; rw [hy]; exact HBl.out) |> Hbr.out.trans
       case measure => simp [intOf]; omega
    ·have hki : ¬ (k : Int) < (g.qu.length : Int) := by omega
     have Hy : Hid (FM g) := by
      have h9 := HQk.out
      rw [List.take_of_length_le (by omega)] at h9
      exact ⟨by rw [HE.out, Heo.out], by rw [Heol.out]; exact Hal.out, h9.once, h9.plain⟩
     go_wp2
     go_ret
     exact .inr ⟨rfl, BW.out, Hy.out⟩
 ·have HQ : Hid (∀ w' v, Below w1.heap.size w1 w' → w'.ownsRow w1.heap.size 3 1 v (Im.fins (os.map (·.o))).length (Kg.ints (Im.fins (os.map (·.o)))) → Calls Tryz.prog 117 #[.slice ar g.rg.length rcap, v] w' fun e w'' => e = .returned (.bool false) ∧ ∃ nq, w'' = w'.drewN nq) := fun w' v b' o' => by
   have h3 := slEqual_any w'.heap.size (.slice ar g.rg.length rcap) v g.rg (Im.fins (os.map (·.o))) w' ((Hg.out.below ((l1.trans (b'.mono l1.size)).mono hn)).rg.mono (Nat.le_trans hn (l1.trans (b'.mono l1.size)).size)) (Lrd.of_row (Kg.row_base o' (Nat.zero_le _))) (by omega)
   rw [decide_eq_false hE] at h3
   exact h3
  have HE : Hid (¬ g.rg = Im.fins (os.map (·.o))) := hE
  clear hE
  refine wp_region_held_drew (S := fun w' => w'.cell? ⟨w.heap.size, 0, none⟩ = some (.slice a os.length cap) ∧ w'.cell? ⟨w.heap.size, 3, none⟩ = some (.slice ar g.rg.length rcap) ∧ w'.cell? ⟨w.heap.size, 4, none⟩ = some (.slice aq g.qu.length qcap)) Kg.mixed (And.intro y0 (And.intro y3 y4)) (fun hHeld => ?_)
  refine wpAnyH_take (i := 0) (v := (.pointer (some ⟨w.heap.size, 3, none⟩))) rfl (by kernel_rfl) (by kernel_rfl) (by kernel_rfl) (fun _ _ _ h => h) (Or.inl ⟨by rfl, fun w hSw => ?_⟩) (by assumption) ?_
  ·obtain ⟨s0, s3, s4⟩ := hSw
   go_simp
  change wpAnyH _ _ _ _ _ _ _ (Act.put _ (some 6) (.pointer (some ⟨w.heap.size, 3, none⟩))) _
  simp only [Act.put, List.setIfInBounds_toArray, List.set_cons_zero, List.set_cons_succ]
  refine wpAnyH_take (i := 1) (v := (.slice ar g.rg.length rcap)) rfl (by kernel_rfl) (by kernel_rfl) (by kernel_rfl) (fun _ _ _ h => h) (Or.inl ⟨by rfl, fun w hSw => ?_⟩) (by assumption) ?_
  ·obtain ⟨s0, s3, s4⟩ := hSw
   go_simp
  change wpAnyH _ _ _ _ _ _ _ (Act.put _ (some 7) (.slice ar g.rg.length rcap)) _
  simp only [Act.put, List.setIfInBounds_toArray, List.set_cons_zero, List.set_cons_succ]
  refine wpAnyH_take (i := 2) (v := (.pointer (some ⟨w.heap.size, 0, none⟩))) rfl (by kernel_rfl) (by kernel_rfl) (by kernel_rfl) (fun _ _ _ h => h) (Or.inl ⟨by rfl, fun w hSw => ?_⟩) (by assumption) ?_
  ·obtain ⟨s0, s3, s4⟩ := hSw
   go_simp
  change wpAnyH _ _ _ _ _ _ _ (Act.put _ (some 8) (.pointer (some ⟨w.heap.size, 0, none⟩))) _
  simp only [Act.put, List.setIfInBounds_toArray, List.set_cons_zero, List.set_cons_succ]
  refine wpAnyH_take (i := 3) (v := (.slice a os.length cap)) rfl (by kernel_rfl) (by kernel_rfl) (by kernel_rfl) (fun _ _ _ h => h) (Or.inl ⟨by rfl, fun w hSw => ?_⟩) (by assumption) ?_
  ·obtain ⟨s0, s3, s4⟩ := hSw
   go_simp
  change wpAnyH _ _ _ _ _ _ _ (Act.put _ (some 9) (.slice a os.length cap)) _
  simp only [Act.put, List.setIfInBounds_toArray, List.set_cons_zero, List.set_cons_succ]
  refine wpAnyH_ready (rs := [4]) (by kernel_rfl) (by simp) (AllReadyH.cons rfl (fun K hK => ?_) AllReadyH.nil)
  go_simp
  refine (HF.out _ hB0).mono ?_
  rintro e w3 ⟨v3, rfl, b3, o3⟩
  have B3 : Below w1.heap.size w1 w3 := hB0.trans (b3.mono hB0.size)
  refine hK.out _ _ (HK.out w3 B3) (fun hHeld3 => ?_)
  clear hK K hHeld
  refine wpAnyH_ready (rs := [5]) (by kernel_rfl) (by simp) (AllReadyH.cons rfl (fun K hK => ?_) AllReadyH.nil)
  go_simp
  refine (HQ.out _ _ B3 o3).mono ?_
  rintro e w4 ⟨rfl, nq, rfl⟩
  have B4 : Below w1.heap.size w1 (w3.drewN nq) := ⟨B3.os, B3.tape, B3.output, B3.size, B3.block⟩
  refine hK.out _ _ (HK.out _ B4) (fun hHeld4 => ?_)
  clear hK K hHeld3
  refine wpAnyH_take (i := 6) (v := (.bool true)) rfl (by kernel_rfl) (by kernel_rfl) (by kernel_rfl) (fun _ _ _ h => h) (Or.inl ⟨by rfl, fun w hSw => ?_⟩) (by assumption) ?_
  ·go_simp
  change wpAnyH _ _ _ _ _ _ _ (Act.put _ (some 12) (.bool true)) _
  simp only [Act.put, List.setIfInBounds_toArray, List.set_cons_zero, List.set_cons_succ]
  refine wpAnyH_take (i := 7) (v := (.bool true)) rfl (by kernel_rfl) (by kernel_rfl) (by kernel_rfl) (fun _ _ _ h => h) (Or.inl ⟨by rfl, fun w hSw => ?_⟩) (by assumption) ?_
  ·go_simp
  change wpAnyH _ _ _ _ _ _ _ (Act.put _ (some 13) (.bool true)) _
  simp only [Act.put, List.setIfInBounds_toArray, List.set_cons_zero, List.set_cons_succ]
  refine wpAnyH_take (i := 8) (v := undef) rfl (by kernel_rfl) (by kernel_rfl) (by kernel_rfl) (fun _ _ _ h => h) (Or.inr ⟨by rfl, rfl⟩) (by assumption) ?_
  change wpAnyH _ _ _ _ _ _ _ (Act.put _ (some 14) undef) _
  simp only [Act.put, List.setIfInBounds_toArray, List.set_cons_zero, List.set_cons_succ]
  refine wpAnyH_take (i := 9) (v := undef) rfl (by kernel_rfl) (by kernel_rfl) (by kernel_rfl) (fun _ _ _ h => h) (Or.inr ⟨by rfl, rfl⟩) (by assumption) ?_
  change wpAnyH _ _ _ _ _ _ _ (Act.put _ (some 15) undef) _
  simp only [Act.put, List.setIfInBounds_toArray, List.set_cons_zero, List.set_cons_succ]
  refine wpAnyH_take (i := 10) (v := undef) rfl (by kernel_rfl) (by kernel_rfl) (by kernel_rfl) (fun _ _ _ h => h) (Or.inr ⟨by rfl, rfl⟩) (by assumption) ?_
  change wpAnyH _ _ _ _ _ _ _ (Act.put _ (some 16) undef) _
  simp only [Act.put, List.setIfInBounds_toArray, List.set_cons_zero, List.set_cons_succ]
  refine wpAnyH_take (i := 11) (v := undef) rfl (by kernel_rfl) (by kernel_rfl) (by kernel_rfl) (fun _ _ _ h => h) (Or.inr ⟨by rfl, rfl⟩) (by assumption) ?_
  change wpAnyH _ _ _ _ _ _ _ (Act.put _ (some 17) undef) _
  simp only [Act.put, List.setIfInBounds_toArray, List.set_cons_zero, List.set_cons_succ]
  refine wpAnyH_take (i := 12) (v := undef) rfl (by kernel_rfl) (by kernel_rfl) (by kernel_rfl) (fun _ _ _ h => h) (Or.inr ⟨by rfl, rfl⟩) (by assumption) ?_
  change wpAnyH _ _ _ _ _ _ _ (Act.put _ (some 18) undef) _
  simp only [Act.put, List.setIfInBounds_toArray, List.set_cons_zero, List.set_cons_succ]
  refine wpAnyH_take (i := 13) (v := undef) rfl (by kernel_rfl) (by kernel_rfl) (by kernel_rfl) (fun _ _ _ h => h) (Or.inr ⟨by rfl, rfl⟩) (by assumption) ?_
  change wpAnyH _ _ _ _ _ _ _ (Act.put _ (some 19) undef) _
  simp only [Act.put, List.setIfInBounds_toArray, List.set_cons_zero, List.set_cons_succ]
  refine wpAnyH_take (i := 14) (v := undef) rfl (by kernel_rfl) (by kernel_rfl) (by kernel_rfl) (fun _ _ _ h => h) (Or.inr ⟨by rfl, rfl⟩) (by assumption) ?_
  change wpAnyH _ _ _ _ _ _ _ (Act.put _ (some 20) undef) _
  simp only [Act.put, List.setIfInBounds_toArray, List.set_cons_zero, List.set_cons_succ]
  refine wpAnyH_take (i := 15) (v := (.bool true)) rfl (by kernel_rfl) (by kernel_rfl) (by kernel_rfl) (fun _ _ _ h => h) (Or.inl ⟨by rfl, fun w hSw => ?_⟩) (by assumption) ?_
  ·go_simp
  change wpAnyH _ _ _ _ _ _ _ (Act.put _ (some 21) (.bool true)) _
  simp only [Act.put, List.setIfInBounds_toArray, List.set_cons_zero, List.set_cons_succ]
  refine wpAnyH_done (by kernel_rfl) ?_ _
  have HB4 : Hid (Below w.heap.size w (w3.drewN nq)) := l1.trans (B4.mono l1.size)
  clear b3 B3 o3 B4
  go_wp2
  go_ret
  exact .inl ⟨rfl, HB4.out, fun h9 => HE.out (by rw [h9.reg, Heo.out])⟩
end Go.Proofs.YtckgcpoheodbcaaGreatDoor
