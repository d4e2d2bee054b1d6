import Derived.Test.YtckgcpoheodbcaaGreatDoorQ35
import Derived.RangeFuncNested
import Derived.RangeFuncBound
import Derived.RangeFuncCalls
import Derived.RangeFuncLeaves
import Derived.Shelf.Abstract
import Derived.WalkKit
import Derived.OwnWalkIn
import Derived.TacticsInMore
import Derived.LoopNIn
import Derived.LoopIn
import Derived.Maps.OwnIn
import Derived.Maps.AppendAt
import Derived.Test.YtckgcpoheodbcaaGreatDoorQ10
set_option linter.unusedVariables false
set_option maxHeartbeats 8000000
set_option maxRecDepth 20000
namespace Go.Proofs.YtckgcpoheodbcaaGreatDoor
open Go.RowKit Go.Shelf Go.Proofs.YtckgcpoheodbcaaGreatDoor.Lt
theorem cloneLL_any (g m cap : Nat) (us : List Value) (hl : us.length = m) (hm : m ≤ 2000001) (w : World) (hg : g < w.heap.size) (hc : ∀ (j : Nat) u, us[j]? = some u → w.cell? ⟨g, j, none⟩ = some u) (h1 : ∀ u, u ∈ us → u.oneCell' = true) :
  Calls Tryz.prog 85 #[.slice (some ⟨g, 0, none⟩) m cap] w fun e w' => ∃ v', e = .returned v' ∧ w'.ownsRow w.heap.size 24 1 v' m us ∧ Below w.heap.size w w' := by
 obtain ⟨i0, hi0, hj0, hj1, hj2⟩ := info_p17 infoL17
 have hnil : ∀ w, (binOp .eql 30 (.slice (some ⟨g, 0, none⟩) m cap) (.slice none 0 0)).run Tryz.prog w = .ok (.bool false) w := fun w => by first | rfl | kernel_rfl | (simp [binOp, go_sem]; done)
 have HN : Hid (∀ (j : Nat) u, us[j]? = some u → (w.alloc (.cells #[] 24)).cell? ((⟨g, 0, none⟩ : Addr).add j) = some u) := fun j u hu => by
  have e : ((⟨g, 0, none⟩ : Addr).add j) = ⟨g, j, none⟩ := by rw [Addr.add_lit, Nat.zero_add]
  rw [e]
  exact (Below.cell (p := ⟨g, j, none⟩) (Below.alloc (Below.refl w.heap.size w) (Nat.le_refl _) _) hg).trans (hc j u hu)
 have HO : Hid (∀ u ∈ us, u.oneCell' = true) := h1
 have HL : Hid (us.length = m * 1) := by show _ = _; omega
 have HH : Hid (Tryz.prog.info? 24 = some i0 ∧ i0.zero = some (.slice none 0 0) ∧ i0.size = 1 ∧ i0.bytes = 24) := ⟨hi0, hj0, hj1, hj2⟩
 have HW : Hid ((w.alloc (.cells #[] 24)).ownsRow w.heap.size 24 1 (.slice (some ⟨w.heap.size, 0, none⟩) 0 0) 0 []) :=
  ⟨rfl, .inr ⟨w.heap.size, 0, #[], rfl, Nat.le_refl _, heap_alloc_new w _, Nat.le_refl _, by decide, rfl, rfl⟩⟩
 have hb1 : Below w.heap.size w (w.alloc (.cells #[] 24)) := Below.alloc (Below.refl _ _) (Nat.le_refl _) _
 have Hn : Hid (m ≤ 2000001) := hm
 clear hi0 hj0 hj1 hj2 hc h1 hl hm
 go_enter Tryz.func85, Tryz.ntmps85
 go_wp2_with (at_builtin; refine wpList_append_own_at _ rfl _ _ 30 rfl w.heap.size 24 i0 (.slice none 0 0) 1 24 Tryz.underlying30 HH.out.1 HH.out.2.1 HH.out.2.2.1 HH.out.2.2.2 rfl (by decide) _ _ _ rfl HW.out ⟨g, 0, none⟩ m cap us rfl HL.out HN.out HO.out (by have := Hn.out; simp [maxLen]; omega) (by have := Hn.out; omega) (by simp) ?_)
 intro v' w2 ho hg2 _ _
 have hb2 : Below w.heap.size w w2 := hb1.grown hg2 hb1.size (fun k e => by simp [Value.ownBlock] at e; omega)
 have ho2 : w2.ownsRow w.heap.size 24 1 v' m us := by simpa using ho
 obtain ⟨a, c, rfl⟩ := own_sl17 ho2
 have HO2 : Hid (w2.ownsRow w.heap.size 24 1 (.slice a m c) m us) := ho2
 clear ho hg2 hb1 ho2
 go_wp2
 go_ret
 exact ⟨_, rfl, HO2.out, hb2⟩
theorem cloneR_any (n0 : Nat) (v : Value) (l : List Int) (w : World) (hn : n0 ≤ w.heap.size) (hr : Lrd n0 w v .i64 l) (hl : l.length ≤ 1000000000) :
  Calls Tryz.prog 86 #[v] w fun e w' => ∃ v', e = .returned v' ∧ Il w' w.heap.size v' l ∧ Below w.heap.size w w' := by
 obtain ⟨i0, hi0, hj0, hj1, hj2⟩ := info_p17 infoI17
 obtain ⟨a, cap, rfl, hcap, hc⟩ := hr
 cases a with
 | none =>
  have hx : l = [] := by
   cases l with
   | nil => rfl
   | cons x r => obtain ⟨q, off, h, -⟩ := hc 0 x rfl; cases h
  subst hx
  have hnil : ∀ w, (binOp .eql 24 (.slice none 0 cap) (.slice none 0 0)).run Tryz.prog w = .ok (.bool true) w := fun w => by first | rfl | kernel_rfl | (simp [binOp, go_sem]; done)
  clear hi0 hj0 hj1 hj2 hc
  go_enter Tryz.func86, Tryz.ntmps86
  go_wp2
  go_ret
  exact ⟨_, rfl, World.ownsRow_nil _ _ _ _, Below.refl _ _⟩
 | some ad =>
  have hnil : ∀ w, (binOp .eql 24 (.slice (some ad) l.length cap) (.slice none 0 0)).run Tryz.prog w = .ok (.bool false) w := fun w => by first | rfl | kernel_rfl | (simp [binOp, go_sem]; done)
  have hb1 : Below w.heap.size w (w.alloc (.cells #[] 3)) := Below.alloc (Below.refl _ _) (Nat.le_refl _) _
  have HN : Hid (∀ (j : Nat) u, (Kg.ints l)[j]? = some u → (w.alloc (.cells #[] 3)).cell? (ad.add j) = some u) := fun j u hu => by
   rw [Kg.ints, List.getElem?_map, Option.map_eq_some_iff] at hu
   obtain ⟨z, hz, rfl⟩ := hu
   obtain ⟨q, off, h1, h2, h3⟩ := hc j z hz
   cases h1
   rw [Addr.add_lit]
   exact (hb1.cell (p := ⟨q, off + j, none⟩) (by show q < _; omega)).trans h3
  have HO : Hid (∀ u ∈ Kg.ints l, u.oneCell' = true) := fun u hu => by
   obtain ⟨i, -, rfl⟩ := List.mem_map.1 hu; rfl
  have HL : Hid ((Kg.ints l).length = l.length * 1) := by show _ = _; rw [Kg.ints, List.length_map, Nat.mul_one]
  have HH : Hid (Tryz.prog.info? 3 = some i0 ∧ i0.zero = some (.int .i64 0) ∧ i0.size = 1 ∧ i0.bytes = 8) := ⟨hi0, hj0, hj1, hj2⟩
  have HW : Hid ((w.alloc (.cells #[] 3)).ownsRow w.heap.size 3 1 (.slice (some ⟨w.heap.size, 0, none⟩) 0 0) 0 []) :=
   ⟨rfl, .inr ⟨w.heap.size, 0, #[], rfl, Nat.le_refl _, heap_alloc_new w _, Nat.le_refl _, by decide, rfl, rfl⟩⟩
  have Hn : Hid (l.length ≤ 1000000000) := hl
  clear hi0 hj0 hj1 hj2 hl hc hcap
  generalize l.length = n at *
  go_enter Tryz.func86, Tryz.ntmps86
  go_wp2_with (at_builtin; refine wpList_append_own_at _ rfl _ _ 24 rfl w.heap.size 3 i0 (.int .i64 0) 1 8 Tryz.underlying24 HH.out.1 HH.out.2.1 HH.out.2.2.1 HH.out.2.2.2 rfl (by decide) _ _ _ rfl HW.out ad n cap (Kg.ints l) rfl HL.out HN.out HO.out (by have := Hn.out; simp [maxLen]; omega) (by have := Hn.out; omega) (by simp) ?_)
  intro v' w2 ho hg2 _ _
  have hb2 : Below w.heap.size w w2 := hb1.grown hg2 hb1.size (fun k e => by simp [Value.ownBlock] at e; omega)
  have ho2 : w2.ownsRow w.heap.size 3 1 v' n (Kg.ints l) := by simpa using ho
  obtain ⟨a, c, rfl⟩ := own_sl17 ho2
  have HO2 : Hid (Il w2 w.heap.size (.slice a n c) l) := by
   have e : n = l.length := by have := HL.out; rw [Kg.ints, List.length_map] at this; omega
   show World.ownsRow _ _ _ _ _ _ _
   rw [← e]
   exact ho2
  clear ho hg2 hb1 ho2
  go_wp2
  go_ret
  exact ⟨_, rfl, HO2.out, hb2⟩
structure Wv (w : World) (B q2 m : Nat) (us : Nat → Value) (v0 : Value) (l0 : List Int) : Prop where
 h : ∃ cs, w.heap[q2]? = some (.cells cs 24 (0, 0)) ∧ cs[0]? = some v0 ∧ ∀ i, 1 ≤ i → i < m → cs[i]? = some (us i)
 l : Il w B v0 l0
 lo : B ≤ q2
theorem Wv.keep {w w' : World} {B q2 m : Nat} {us : Nat → Value} {v0 : Value} {l0 : List Int} (h : Wv w B q2 m us v0 l0) (hb : Below w.heap.size w w') : Wv w' B q2 m us v0 l0 := by
 obtain ⟨cs, h1, h2, h3⟩ := h.h
 exact ⟨⟨cs, (hb.block _ (Kg.heap_lt h1)).trans h1, h2, h3⟩, h.l.below hb, h.lo⟩
theorem Wv.push {w w8 : World} {B q2 m : Nat} {us : Nat → Value} {v0 v8 : Value} {l0 : List Int} {x : Int} (h : Wv w B q2 m us v0 l0) (hB : B ≤ w.heap.size)
  (h8 : w8.ownsRow B 3 1 v8 (l0.length + 1) (Kg.ints l0 ++ [.int .i64 x])) (g8 : (w.alloc (.cells #[.int .i64 x] 3)).grownBy w8 v0.ownBlock) (e8 : v8.ownBlock = v0.ownBlock ∨ v8.ownBlock = some (w.alloc (.cells #[.int .i64 x] 3)).heap.size) :
  ∃ a8 c8, v8 = .slice a8 (l0.length + 1) c8 ∧ w8.cell? ⟨q2, 0, none⟩ = some v0 ∧ w8.frozen? ⟨q2, 0, none⟩ = false ∧ Hid (Wv (w8.setCell ⟨q2, 0, none⟩ v8) B q2 m us v8 (l0 ++ [x]) ∧ Below B w (w8.setCell ⟨q2, 0, none⟩ v8)) := by
 obtain ⟨cs, h1, h2, h3⟩ := h.h
 obtain ⟨a8, c8, f1, f2, f3, f4⟩ := fld_push (j := 0) h1 h.l h2 hB h8 g8 e8
 obtain ⟨k1, k2, k3, -⟩ := f4.out
 refine ⟨a8, c8, f1, f2, f3, ⟨⟨_, k1, ?_, fun i h5 h6 => ?_⟩, k2, h.lo⟩, k3.below hB (fun k hk => ?_)⟩
 ·have h7 := (Array.getElem?_eq_some_iff.1 h2).1
  rw [Array.getElem?_setIfInBounds, if_pos rfl, if_pos h7]
 ·rw [Array.getElem?_setIfInBounds, if_neg (by omega)]
  exact h3 i h5 h6
 ·rcases List.mem_cons.1 hk with h5 | h5
  ·rw [h5]; exact h.lo
  ·rw [Option.mem_toList] at h5
   exact (World.ownsRow.lt h.l k h5).1
def wmore (Wz : Nat → List Nat) (H : List Ep) (x : Nat) : List Nat := if x = 0 then Wz 0 ++ H.map (fun e => e.2.2) else Wz x
theorem waysWith_any (n0 n1 : Nat) (w : World) (B0 wb R m : Nat) (vw vp : Value) (vs : Nat → Value) (P : List Ep) (L : Nat → List Ep) (Wz : Nat → List Nat) (hw : Wb w B0 wb R m vw vp vs P L) (hy : Wys n1 w vw m Wz) (hn1 : n1 ≤ w.heap.size) (hm1 : 1 ≤ m) (hm : m ≤ 2000000) (hlen : (Wz 0).length ≤ 900000000) (vh : Value) (H : List Ep) (hh : Eo w n0 vh H) (hHl : H.length ≤ 2000000) :
  Calls Tryz.prog 58 #[.pointer (some ⟨wb, 0, none⟩), vh] w fun e w' => ∃ v, e = .returned v ∧ Wys w'.heap.size w' v m (wmore Wz H) ∧ Below w.heap.size w w' := by
 obtain ⟨wq, wc, rfl, hwq, hwr⟩ := id hy
 obtain ⟨i0, hi0, hj0, hj1, hj2⟩ := info_p17 infoI17
 have HI : Hid (Tryz.prog.info? 3 = some i0 ∧ i0.zero = some (.int .i64 0) ∧ i0.size = 1 ∧ i0.bytes = 8) := ⟨hi0, hj0, hj1, hj2⟩
 clear hi0 hj0 hj1 hj2
 obtain ⟨us, hus⟩ : ∃ us : Nat → Value, ∀ i, i < m → w.cell? ⟨wq, i, none⟩ = some (us i) ∧ Lrd n1 w (us i) .i64 ((Wz i).map Int.ofNat) := by
  refine ⟨fun i => (w.cell? ⟨wq, i, none⟩).getD undef, fun i hi => ?_⟩
  obtain ⟨u, h1, h2⟩ := hwr i hi
  show _ = some ((w.cell? ⟨wq, i, none⟩).getD undef) ∧ Lrd n1 w ((w.cell? ⟨wq, i, none⟩).getD undef) _ _
  rw [h1]
  exact ⟨rfl, h2⟩
 have HU : Hid (∀ i, i < m → w.cell? ⟨wq, i, none⟩ = some (us i) ∧ Lrd n1 w (us i) .i64 ((Wz i).map Int.ofNat)) := hus
 have q := cloneLL_any wq m wc ((List.range m).map us) (by simp) (by omega) w (by omega) (fun j u hu => by
  rw [List.getElem?_map] at hu
  rcases Nat.lt_or_ge j m with h | h
  ·rw [List.getElem?_range h] at hu
   simp only [Option.map_some, Option.some.injEq] at hu
   rw [← hu]
   exact (hus j h).1
  ·rw [List.getElem?_eq_none (by simpa using h)] at hu
   cases hu) (fun u hu => by
  obtain ⟨i, hi, rfl⟩ := List.mem_map.1 hu
  obtain ⟨a, c, e, -⟩ := (hus i (List.mem_range.1 hi)).2
  rw [e]
  rfl)
 have y0 : w.cell? ⟨wb, 0, none⟩ = some (.slice (some ⟨wq, 0, none⟩) m wc) := Kg.heap_cell hw.h 0
 obtain ⟨ha, hc, rfl, hp⟩ := hh.at_
 have HC : Hid (∀ wr, Below w.heap.size w wr → ∀ (i : Nat) e, H[i]? = some e → ∃ q, ha = some ⟨q, 0, none⟩ ∧ wr.cell? ⟨q, i * 3, none⟩ = some (.int .i64 (e.1 : Nat)) ∧ wr.cell? ⟨q, i * 3 + 1, none⟩ = some (.int .i64 (e.2.1 : Nat)) ∧ wr.cell? ⟨q, i * 3 + 2, none⟩ = some (.int .i64 (e.2.2 : Nat))) := fun wr b i e he => by
  obtain ⟨q, h1, -, h2, h3, h4, h5⟩ := hp i e he
  exact ⟨q, h1, (Below.cell (p := ⟨q, i * 3, none⟩) b h2).trans h3, (Below.cell (p := ⟨q, i * 3 + 1, none⟩) b h2).trans h4, (Below.cell (p := ⟨q, i * 3 + 2, none⟩) b h2).trans h5⟩
 have HLz : Hid ((Wz 0).length ≤ 900000000) := hlen
 clear hw hy hwr hus hh hp hlen
 go_enter Tryz.func58, Tryz.ntmps58
 go_wp2_with fail
 refine q.mono ?_
 rintro e w1 ⟨v1, rfl, r1, b1⟩
 obtain ⟨q2, c2, hv1, hq2, hh1⟩ : ∃ q2 c2, v1 = .slice (some ⟨q2, 0, none⟩) m c2 ∧ w.heap.size ≤ q2 ∧ ∃ cs, w1.heap[q2]? = some (.cells cs 24 (0, 0)) ∧ ∀ i, i < m → cs[i]? = some (us i) := by
  rcases r1.2 with ⟨-, h1⟩ | ⟨q2, c2, cs, h1, h2, h3, h4, h5, h6, h7⟩
  ·omega
  ·refine ⟨q2, c2, h1, h2, cs, h3, fun i hi => ?_⟩
   have h8 : (cs.toList.take (m * 1))[i]? = some (us i) := by rw [h7, List.getElem?_map, List.getElem?_range hi]; rfl
   rw [List.getElem?_take, if_pos (by omega), Array.getElem?_toList] at h8
   exact h8
 subst hv1
 obtain ⟨cs1, hcs1, hci⟩ := hh1
 have x0 : w1.cell? ⟨q2, 0, none⟩ = some (us 0) := (Kg.heap_cell hcs1 0).trans (hci 0 (by omega))
 have q := cloneR_any n1 (us 0) ((Wz 0).map Int.ofNat) w1 (Nat.le_trans hn1 b1.size) ((HU.out 0 (by omega)).2.below (b1.mono hn1)) (by rw [List.length_map]; have := HLz.out; omega)
 obtain ⟨ua, uc, eu, -⟩ := (HU.out 0 (by omega)).2
 rw [List.length_map] at eu
 rw [eu] at x0 q
 have H1 : Hid (w1.heap[q2]? = some (.cells cs1 24 (0, 0)) ∧ ∀ i, i < m → cs1[i]? = some (us i)) := ⟨hcs1, hci⟩
 have HB1 : Hid (Below w.heap.size w w1) := b1
 have hm0I : (0 : Int) < (m : Int) := by omega
 have hm0 : 0 < m := by omega
 clear r1 b1 hcs1 hci eu y0
 go_wp2_with fail
 refine q.mono ?_
 rintro e w2 ⟨v2, rfl, r2, b2⟩
 obtain ⟨a2, d2, e2⟩ := own_sl17 r2
 rw [List.length_map] at e2
 subst e2
 have h2 : w2.heap[q2]? = some (.cells cs1 24 (0, 0)) := (b2.block q2 (Kg.heap_lt H1.out.1)).trans H1.out.1
 have z0 : w2.frozen? ⟨q2, 0, none⟩ = false := Kg.heap_frozen h2 0
 have x0' : w2.cell? ⟨q2, 0, none⟩ = some (us 0) := (Kg.heap_cell h2 0).trans (H1.out.2 0 (by omega))
 have hq2l := Kg.heap_lt H1.out.1
 obtain ⟨B, hB⟩ : ∃ B, B = w.heap.size := ⟨_, rfl⟩
 have HBw : Hid (B = w.heap.size) := hB
 have HV : Hid (Wv (w2.setCell ⟨q2, 0, none⟩ (.slice a2 (Wz 0).length d2)) B q2 m us (.slice a2 (Wz 0).length d2) ((Wz 0).map Int.ofNat) ∧ Below B w (w2.setCell ⟨q2, 0, none⟩ (.slice a2 (Wz 0).length d2))) := by
  have t : Kg.Touch [q2] w2 (w2.setCell ⟨q2, 0, none⟩ (.slice a2 (Wz 0).length d2)) := Kg.Touch.setCell _ _ _ (by simp)
  have hs1 := HB1.out.size
  have hs2 := b2.size
  refine ⟨⟨⟨_, Kg.heap_set h2 0 _, ?_, fun i h5 h6 => ?_⟩, ?_, by omega⟩, ?_⟩
  ·have h7 := (Array.getElem?_eq_some_iff.1 (H1.out.2 0 (by omega))).1
   rw [Array.getElem?_setIfInBounds, if_pos rfl, if_pos h7]
  ·rw [Array.getElem?_setIfInBounds, if_neg (by omega)]
   exact H1.out.2 i h6
  ·refine Kg.row_keep2 (Kg.row_base r2 (by omega)) t (fun k hk hm => ?_)
   have h8 := (World.ownsRow.lt r2 k hk).1
   rw [List.mem_singleton] at hm
   omega
  ·rw [hB]
   exact (HB1.out.trans (b2.mono HB1.out.size)).trans (t.below (by omega) (fun k hk => by rw [List.mem_singleton.1 hk]; exact hq2))
 clear q r2 b2 h2 H1 hB HB1 hq2l
 go_upto_region 3 with fail
 clear x0 x0' z0
 generalize w2.setCell ⟨q2, 0, none⟩ (.slice a2 (Wz 0).length d2) = w3 at *
 clear w2 w1
 go_wp2
 go_loopw [7, 21] (fun _ v21 wr => ∃ (k : Nat) (v0 : Value), v21 = .int .i64 (k : Nat) ∧ k ≤ H.length ∧ Hid (Wv wr B q2 m us v0 ((Wz 0 ++ (H.take k).map (fun e => e.2.2)).map Int.ofNat)) ∧ Hid (Below B w wr)) (fun _ v21 _ => H.length - (intOf v21).toNat)
 case atStart => exact ⟨0, _, rfl, Nat.zero_le _, by show Wv _ _ _ _ _ _ _; rw [List.take_zero, List.map_nil, List.append_nil]; exact HV.out.1, HV.out.2⟩
 case round =>
  obtain ⟨k, v0, rfl, hk, S1, S2⟩ := hrel
  by_cases hkl : k < H.length
  ·have hki : (k : Int) < (H.length : Int) := by omega
   obtain ⟨e, he⟩ : ∃ e, H[k]? = some e := ⟨_, List.getElem?_eq_getElem hkl⟩
   have S2' : Below w.heap.size w wr := by have h := S2.out; rw [HBw.out] at h; exact h
   obtain ⟨q, rfl, g0, g1, g2⟩ := HC.out wr S2' k e he
   have HT : Hid (H.take (k + 1) = H.take k ++ [e]) := by show _ = _; rw [List.take_add_one, he]; rfl
   obtain ⟨l0, hl0⟩ : ∃ l0, l0 = ((Wz 0 ++ (H.take k).map (fun e => e.2.2)).map Int.ofNat) := ⟨_, rfl⟩
   have HL0 : Hid (l0 = ((Wz 0 ++ (H.take k).map (fun e => e.2.2)).map Int.ofNat)) := hl0
   rw [← hl0] at S1
   obtain ⟨nl, hnl⟩ : ∃ nl, nl = l0.length := ⟨_, rfl⟩
   have HNl : Hid (nl = l0.length) := hnl
   have hnlb : nl ≤ 1000000000 := by
    have h1 := List.length_take_le k H
    have h2 := HLz.out
    rw [hnl, hl0, List.length_map, List.length_append, List.length_map]
    omega
   clear he S2' hnl hl0
   go_upto_region 6 with fail
   obtain ⟨X, hX⟩ : ∃ X, X = wr.heap.size := ⟨_, rfl⟩
   have l5 : Below wr.heap.size wr (wr.alloc (.cells (epc e) 119)) := Below.alloc (Below.refl _ _) (Nat.le_refl _) _
   have hBs : B ≤ wr.heap.size := by rw [HBw.out]; exact S2.out.size
   have B5 : Hid (Below B w (wr.alloc (.cells (epc e) 119))) := S2.out.trans (l5.mono hBs)
   have S5 : Hid (Wv (wr.alloc (.cells (epc e) 119)) B q2 m us v0 l0) := S1.out.keep l5
   have H5 : Hid ((wr.alloc (.cells (epc e) 119)).heap[X]? = some (.cells (epc e) 119 (0, 0))) := by rw [hX]; exact heap_alloc_new wr _
   have hBs5 : B ≤ (wr.alloc (.cells (epc e) 119)).heap.size := Nat.le_trans hBs l5.size
   change Code.wp _ _ _ _ (wr.alloc (.cells (epc e) 119))
   rw [← hX]
   clear g0 g1 g2 l5 hX S1 S2 hBs
   generalize wr.alloc (.cells (epc e) 119) = w5 at *
   obtain ⟨a0, c0, ev0⟩ := own_sl17 S5.out.l
   rw [← HNl.out] at ev0
   subst ev0
   obtain ⟨cs5, hcs5, hc50, -⟩ := S5.out.h
   have x2 : w5.cell? ⟨X, 2, none⟩ = some (.int .i64 (e.2.2 : Nat)) := Kg.heap_cell H5.out 2
   have y0 : w5.cell? ⟨q2, 0, none⟩ = some (.slice a0 nl c0) := (Kg.heap_cell hcs5 0).trans hc50
   have hcA : (w5.alloc (.cells #[.int .i64 (e.2.2 : Nat)] 3)).cell? ⟨q2, 0, none⟩ = some (.slice a0 nl c0) := (Below.cell (p := ⟨q2, 0, none⟩) (Below.alloc (Below.refl w5.heap.size w5) (Nat.le_refl _) _) (Kg.heap_lt hcs5)).trans y0
   have HRow : Hid ((w5.drew.alloc (.cells #[.int .i64 (e.2.2 : Nat)] 3)).ownsRow B 3 1 (.slice a0 nl c0) nl (Kg.ints l0)) := by
    have h9 := Kg.row_keep2 (G := []) S5.out.l ((Kg.Touch.drew _ w5).trans (Kg.Touch.alloc _ _ (.cells #[.int .i64 (e.2.2 : Nat)] 3))) (fun _ _ => List.not_mem_nil)
    rw [← HNl.out] at h9
    exact h9
   have HRd : Hid (Wv w5.drew B q2 m us (.slice a0 nl c0) l0) := S5.out.keep (below_drewN (Below.refl _ _) 1)
   have HBd : Hid (B ≤ w5.drew.heap.size) := hBs5
   clear hcs5 hc50
   go_region_law (refine step_append_own_at rfl (.tmp 28) (.tmp 31) 24 rfl B 3 i0 (.int .i64 0) 1 8 Tryz.underlying24 HI.out.1 HI.out.2.1 HI.out.2.2.1 HI.out.2.2.2 rfl (by decide) (.slice a0 nl c0) nl (Kg.ints l0) rfl HRow.out ⟨w5.drew.heap.size, 0, none⟩ 1 1 [.int .i64 (e.2.2 : Nat)] rfl rfl (cell_one17 _ _ _) (by simp [Value.oneCell']) (by simp only [maxLen]; omega) (by omega) (by simp; omega) ?_; intro v8 w8 h8 g8 e8; obtain ⟨a8, c8, rfl, d8, z8, HN⟩ := HRd.out.push HBd.out (by rw [← HNl.out]; exact h8) g8 e8)
   all_goals
    rw [← HNl.out] at HN ⊢
    have HZ : Hid (Wv (w8.setCell ⟨q2, 0, none⟩ (.slice a8 (nl + 1) c8)) B q2 m us (.slice a8 (nl + 1) c8) ((Wz 0 ++ (H.take (k + 1)).map (fun e => e.2.2)).map Int.ofNat) ∧ Below B w (w8.setCell ⟨q2, 0, none⟩ (.slice a8 (nl + 1) c8))) := by
     obtain ⟨f1, f2⟩ := HN.out
     refine ⟨?_, (below_drewN B5.out 1).trans f2⟩
     have e9 : (Wz 0 ++ (H.take (k + 1)).map (fun e => e.2.2)).map Int.ofNat = l0 ++ [(e.2.2 : Int)] := by
      rw [HL0.out, HT.out]
      simp
     rw [e9]
     exact f1
    clear h8 g8 e8 d8 z8 HN HRd HRow hcA
    generalize w8.setCell ⟨q2, 0, none⟩ (.slice a8 (nl + 1) c8) = w9 at *
    go_wp2
    go_roundw
    case rel => exact ⟨k + 1, _, by go_num, by omega, HZ.out.1, HZ.out.2⟩
    case measure => simp [intOf]; omega
  ·have hki : ¬ (k : Int) < (H.length : Int) := by omega
   have e9 : H.take k = H := List.take_of_length_le (by omega)
   have HE : Hid (Wys wr.heap.size wr (.slice (some ⟨q2, 0, none⟩) m c2) m (wmore Wz H) ∧ Below w.heap.size w wr) := by
    have S2' : Below w.heap.size w wr := by have h := S2.out; rw [HBw.out] at h; exact h
    obtain ⟨cs, k1, k2, k3⟩ := S1.out.h
    have r1 := S1.out.l
    rw [e9] at r1
    refine ⟨⟨q2, c2, rfl, Kg.heap_lt k1, fun i hi => ?_⟩, S2'⟩
    by_cases h0 : i = 0
    ·refine ⟨v0, by rw [h0]; exact (Kg.heap_cell k1 0).trans k2, ?_⟩
     unfold wmore
     rw [if_pos h0]
     exact Il.lrd r1
    ·refine ⟨us i, (Kg.heap_cell k1 i).trans (k3 i (by omega) hi), ?_⟩
     unfold wmore
     rw [if_neg h0]
     exact ((HU.out i hi).2.below (S2'.mono hn1)).mono (Nat.le_trans hn1 S2'.size)
   clear S1 S2 e9
   go_wp2
   go_ret
   exact ⟨_, rfl, HE.out⟩
end Go.Proofs.YtckgcpoheodbcaaGreatDoor
namespace Go.Proofs.YtckgcpoheodbcaaGreatDoor.Kg
open Go.RowKit Go.Shelf
def OwnS {α : Type} (B : Nat) (J : (Nat → Prop) → List α → World → Prop) : Prop :=
 ∀ S s W W' row, J S s W → W.grownBy W' row → (∀ r, row = some r → B ≤ r ∧ ∃ o : Obj, W.heap[r]? = some o ∧ o.isCells = false) → J (fun k => S k ∨ (W.heap.size ≤ k ∧ k < W'.heap.size)) s W'
def SeqFull {α : Type} (P : Program) (gf : Nat) (lb : Array Value) (encs : α → Array Value) (xs : List α) (n0 : Nat) (Own : Nat → Prop) (w : World) : Prop :=
 ∀ (n l : Nat) (J : (Nat → Prop) → List α → World → Prop) (W : World) (S0 : Nat → Prop), Below w.heap.size w W → (∀ k, Own k → S0 k) → OwnS W.heap.size J →
  (∀ S pre x W1, J S pre W1 → pre ++ [x] <+: xs → ∀ m, YieldAt Fence.wide m P l (encs x) W1 fun e W' => e = .returned (.bool true) ∧ J S (pre ++ [x]) W' ∧ (∀ k, S k → W'.heap[k]? = W1.heap[k]?) ∧ Below n0 W1 W') →
  J S0 [] W → CallsIn Fence.wide n P gf (#[.func (.yield l) #[] #[]] ++ lb) W fun e W' => (∃ v, e = .returned v) ∧ ∃ S, J S xs W'
def goesOn {α : Type} (n0 : Nat) (I : (Nat → Prop) → List α → World → Prop) (S : Nat → Prop) (xs : List α) (W : World) : Exit → Act → World → Prop
 | .normal, _, W' => (∀ k, S k → W'.heap[k]? = W.heap[k]?) ∧ Below n0 W W' ∧ I S xs W'
 | _, _, _ => False
theorem OwnS.alloc {α : Type} {B : Nat} {J : (Nat → Prop) → List α → World → Prop} (h : OwnS B J) {S : Nat → Prop} {s : List α} {W : World} (hs : J S s W) (o : Obj) : J (fun k => S k ∨ (W.heap.size ≤ k ∧ k < (W.alloc o).heap.size)) s (W.alloc o) :=
 h S s W _ none hs (World.grownBy_alloc W o none) (fun r e => by cases e)
theorem OwnS.putObj {α : Type} {B : Nat} {J : (Nat → Prop) → List α → World → Prop} (h : OwnS B J) {S : Nat → Prop} {s : List α} {W : World} {l : Nat} {o : Obj} (o' : Obj) (hs : J S s W) (hB : B ≤ l) (hl : W.heap[l]? = some o) (ho : o.isCells = false) : J S s (W.putObj l o') := by
 have h1 := h S s W (W.putObj l o') (some l) hs (grownBy_putObj' W l o') (fun r e => by cases e; exact ⟨hB, o, hl, ho⟩)
 have h2 : (fun k => S k ∨ (W.heap.size ≤ k ∧ k < (W.putObj l o').heap.size)) = S := by
  funext k
  have : (W.putObj l o').heap.size = W.heap.size := by simp
  simp only [this, eq_iff_iff]
  constructor
  ·rintro (h | h)
   ·exact h
   ·omega
  ·exact Or.inl
 rw [h2] at h1
 exact h1
theorem range_full {α : Type} {P : Program} {n : Nat} {g : Operand} {ps : Array Tmp} {assign body : Code} {Q : Exit → Act → World → Prop} {a : Act} {w w0 : World} {gf n0 : Nat} {lb : Array Value} {encs : α → Array Value} {xs : List α} {S0 Own : Nat → Prop}
  (hg : a.eval g = .func (.func gf) #[] lb) (eg : ∀ args w, (callFunc gf args).run P w = .ok (.enter gf args) w) (hseq : SeqFull P gf lb encs xs n0 Own w0) (hOwn : ∀ k, Own k → S0 k) (hb0 : Below w0.heap.size w0 w) (hn0 : n0 ≤ w.heap.size) (hps : ∀ x, (encs x).size = ps.size)
  (I : (Nat → Prop) → List α → World → Prop) (hI : OwnS w.heap.size I) (h0 : I S0 [] w) (a1 : α → Act)
  (hassign : ∀ (l : Nat) (x : α) (W : World) (K : Act → World → Prop) (m : Nat), K (a1 x) W →
   assign.wpIn (Fence.wide.inRound l) m P (Exit.then K (fun _ _ _ => False)) { tmps := (ps.zip (encs x)).foldl (fun t (p, v) => t.setIfInBounds p v) a.tmps, defers := [] } W)
  (hbody : ∀ (l : Nat) (S : Nat → Prop) (pre : List α) (x : α) (W : World) (m : Nat), I S pre W → pre ++ [x] <+: xs → body.wpIn (Fence.wide.inRound l) m P (goesOn n0 I S (pre ++ [x]) W) (a1 x) W)
  (hdone : ∀ (D : Nat) (S : Nat → Prop) (W : World), w.heap.size ≤ D → I S xs W → W.heap[D]? = some (.deferred (some [])) → Q .normal { a with defers := { target := .collected D, args := #[] } :: a.defers } W) :
  (Code.rangeFunc g ps assign body).wpIn Fence.wide n P Q a w := by
 refine wpIn_rangeFunc ?_
 intro fn hfn
 obtain ⟨lp, hlp⟩ : ∃ lp : LoopState → Loop, lp = fun st => { state := st, pending := none, fn, tmps := a.tmps, params := ps, assign, body, defers := w.heap.size } := ⟨_, rfl⟩
 obtain ⟨W1, hW1⟩ : ∃ W1, W1 = (w.alloc (.deferred (some []))).alloc (.loop (lp .ready)) := ⟨_, rfl⟩
 have hL1 : W1.heap[w.heap.size + 1]? = some (.loop (lp .ready)) := by
  have := World.alloc_heap_new (w.alloc (.deferred (some []))) (.loop (lp .ready))
  rw [World.size_alloc] at this; rw [hW1]; exact this
 have hK1 : W1.heap[w.heap.size]? = some (.deferred (some [])) := by
  rw [hW1]; exact (Below.heap_alloc _ _ _ (by simp)).trans (World.alloc_heap_new w _)
 have hsz : W1.heap.size = w.heap.size + 2 := by rw [hW1]; simp
 have hI1 : ∃ S1 : Nat → Prop, I S1 [] W1 ∧ S1 w.heap.size ∧ S1 (w.heap.size + 1) ∧ (∀ k, S0 k → S1 k) := by
  rw [hW1]; exact ⟨_, hI.alloc (hI.alloc h0 _) _, .inl (.inr ⟨Nat.le_refl _, by simp⟩), .inr ⟨by simp, by simp⟩, fun k h => .inl (.inl h)⟩
 obtain ⟨S1, hI1, hd1, he1, hs1⟩ := hI1
 have hb1 : Below w0.heap.size w0 W1 := by
  rw [hW1]; exact (hb0.alloc hb0.size _).alloc (by have := hb0.size; simp; omega) _
 refine ⟨w.heap.size + 1, [{ target := .collected w.heap.size, args := #[] }], W1, { target := .fn (.func gf) lb, args := #[.func (.yield (w.heap.size + 1)) #[] #[]] }, W1, gf,
  #[.func (.yield (w.heap.size + 1)) #[] #[]] ++ lb, W1, ?_, ?_, ?_, ?_, ?_, ?_⟩
 ·rw [hW1, hlp]; exact run_enterLoop_outer _ _ _ _ _
 ·simp only [resolve, hg]
  simp [go_sem]
 ·intro _ _; trivial
 ·simp [invoke, go_sem, eg]
 ·intro h; cases h
 ·-- the two blocks of book-keeping stand beside the caller's invariant
  refine (hseq _ (w.heap.size + 1) (fun S pre W => I S pre W ∧ (S w.heap.size ∧ S (w.heap.size + 1)) ∧ W.heap[w.heap.size + 1]? = some (.loop (lp .ready)) ∧ W.heap[w.heap.size]? = some (.deferred (some []))) W1 S1 hb1 (fun k h => hs1 k (hOwn k h)) ?_ ?_ ⟨hI1, ⟨hd1, he1⟩, hL1, hK1⟩).mono ?_
  ·intro S s A B row hs hgr hr
   have hkeep : ∀ k o, k < W1.heap.size → A.heap[k]? = some o → B.heap[k]? = some o := fun k o hk ho =>
    (hgr.block k (Array.getElem?_eq_some_iff.1 ho).1 (fun e => by have := (hr k e.symm).1; omega)).trans ho
   exact ⟨hI S s A B row hs.1 hgr (fun r e => ⟨by have := (hr r e).1; omega, (hr r e).2⟩), ⟨.inl hs.2.1.1, .inl hs.2.1.2⟩, hkeep _ _ (by omega) hs.2.2.1, hkeep _ _ (by omega) hs.2.2.2⟩
  ·rintro S pre x W ⟨hi, ⟨hSd, hSl⟩, hl, hk⟩ hpre m
   have hy := run_yield (P := P) (args := encs x) hl (by rw [hlp]; exact hps x)
   rw [hlp] at hy
   refine ⟨fn, _, assign, body, hy, roundIn_of_wpIn hfn (hassign _ x W _ _ ?_)⟩
   clear hy
   have hlt : w.heap.size + 1 < W.heap.size := (Array.getElem?_eq_some_iff.1 hl).1
   refine ⟨_, run_beginRound hl (by rw [hlp]), ?_⟩
   have hl2 : (W.putObj (w.heap.size + 1) (.loop { lp .ready with state := .busy })).heap[w.heap.size + 1]? = some (.loop { lp .ready with state := .busy }) := World.putObj_heap_same hlt
   have hB2 : Below n0 W (W.putObj (w.heap.size + 1) (.loop { lp .ready with state := .busy })) := belowK_b (w := w) hn0 _ _ _ _ (by omega) hl rfl rfl
   have ho2 : ∀ k, k ≠ w.heap.size + 1 → (W.putObj (w.heap.size + 1) (.loop { lp .ready with state := .busy })).heap[k]? = W.heap[k]? := fun k hk => World.putObj_heap_other hk
   refine wpIn_mono (hbody _ S pre x _ _ (hI.putObj _ hi (by omega) hl rfl) hpre) ?_
   rintro e a3 W3 hp
   cases e with
   | normal =>
    obtain ⟨hk3, hb3, hi3⟩ := hp
    have hl3 := (hk3 _ hSl).trans hl2
    have hr := run_endRound (P := P) none hl3
    have hst : { ({ lp .ready with state := .busy } : Loop) with state := if (none : Option Code).isNone then .ready else .done, pending := none } = lp .ready := by rw [hlp]; rfl
    rw [hst] at hr
    have hl4 : (W3.putObj (w.heap.size + 1) (.loop (lp .ready))).heap[w.heap.size + 1]? = some (.loop (lp .ready)) := World.putObj_heap_same (Array.getElem?_eq_some_iff.1 hl3).1
    refine ⟨_, _, hr, rfl, ⟨hI.putObj _ hi3 (by omega) hl3 rfl, ⟨hSd, hSl⟩, hl4, ?_⟩, ?_, (hB2.trans hb3).trans (belowK_b (w := w) hn0 _ _ _ _ (by omega) hl3 rfl rfl)⟩
    ·exact (World.putObj_heap_other (by omega)).trans ((hk3 _ hSd).trans ((ho2 _ (by omega)).trans hk))
    ·intro k hSk
     by_cases hkl : k = w.heap.size + 1
     ·subst hkl; rw [hl4, hl]
     ·rw [World.putObj_heap_other hkl, hk3 k hSk, ho2 k hkl]
   | ret => exact hp.elim
   | exit id => exact hp.elim
   | goto t => exact hp.elim
   | panic ch => exact hp.elim
   | outgrown => exact hp.elim
  ·rintro e W2 ⟨⟨v, rfl⟩, S, hi, -, hl, hk⟩
   have hr := run_endLoop (P := P) hl (by rw [hlp]; simp)
   refine ⟨_, _, hr, ?_⟩
   have := hdone w.heap.size S _ (Nat.le_refl _) (hI.putObj (.loop { lp .ready with state := .exhausted }) hi (by omega) hl rfl) ((World.putObj_heap_other (by omega)).trans hk)
   rw [hlp] at this ⊢
   exact this
attribute [local go_sem] Oper.semAt_some
def SliceIs (n0 : Nat) (W : World) (sv : Value) (zs : List Int) : Prop :=
 (sv = .slice none 0 0 ∧ zs = []) ∨ ∃ b off cap, sv = .slice (some ⟨b, off, none⟩) zs.length cap ∧ b < n0 ∧ ∀ (j : Nat) x, zs[j]? = some x → W.cell? ⟨b, off + j, none⟩ = some (.int .i64 x)
theorem SliceIs.below {n0 n1 : Nat} {A B : World} {sv : Value} {zs : List Int} (h : Below n1 A B) (hn : n0 ≤ n1) : SliceIs n0 A sv zs → SliceIs n0 B sv zs
 | .inl e => .inl e
 | .inr ⟨b, off, cap, e, hb, hc⟩ => .inr ⟨b, off, cap, e, hb, fun j x hj => (h.cell (p := ⟨b, off + j, none⟩) (by show b < n1; omega)).trans (hc j x hj)⟩
theorem take_snoc {α : Type} {zs : List α} {k : Nat} {x : α} (h : zs[k]? = some x) : zs.take k ++ [x] = zs.take (k + 1) := by
 rw [List.take_add_one, h]; rfl
end Go.Proofs.YtckgcpoheodbcaaGreatDoor.Kg
