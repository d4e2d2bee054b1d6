import Derived.Test.YtkekaifiahjljaaGreatDoorC37
import Derived.Test.YtkekaifiahjljaaGreatDoorC29
import Derived.Test.YtkekaifiahjljaaGreatDoorC00
import Derived.StillTail
set_option linter.unusedVariables false
set_option maxHeartbeats 8000000
set_option maxRecDepth 20000
namespace Go.Proofs.YtkekaifiahjljaaGreatDoor
open Go.RowKit Go.Shelf Go.Proofs.YtkekaifiahjljaaGreatDoor.Lt
theorem cloneLL_any (g m cap : Nat) (us : List Value) (hl : us.length = m) (hm : m ≤ 2000001) (w : World) (hg : g < w.heap.size) (hc : ∀ (j : Nat) u, us[j]? = some u → w.cell? ⟨g, j, none⟩ = some u) (h1 : ∀ u, u ∈ us → u.oneCell' = true) :
    Calls Tryz.prog 119 #[.slice (some ⟨g, 0, none⟩) m cap] w fun e w' => ∃ v', e = .returned v' ∧ w'.ownsRow w.heap.size 24 1 v' m us ∧ Below w.heap.size w w' := by
  obtain ⟨i0, hi0, hj0, hj1, hj2⟩ := info_p17 infoL17
  have hnil : ∀ w, (binOp .eql 48 (.slice (some ⟨g, 0, none⟩) m cap) (.slice none 0 0)).run Tryz.prog w = .ok (.bool false) w := fun w => by first | rfl | kernel_rfl | (simp [binOp, go_sem]; done)
  have HN : Hid (∀ (j : Nat) u, us[j]? = some u → (w.alloc (.cells #[] 24)).cell? ((⟨g, 0, none⟩ : Addr).add j) = some u) := fun j u hu => by
    have e : ((⟨g, 0, none⟩ : Addr).add j) = ⟨g, j, none⟩ := by rw [Addr.add_lit, Nat.zero_add]
    rw [e]
    exact (Below.cell (p := ⟨g, j, none⟩) (Below.alloc (Below.refl w.heap.size w) (Nat.le_refl _) _) hg).trans (hc j u hu)
  have HO : Hid (∀ u ∈ us, u.oneCell' = true) := h1
  have HL : Hid (us.length = m * 1) := by show _ = _; omega
  have HH : Hid (Tryz.prog.info? 24 = some i0 ∧ i0.zero = some (.slice none 0 0) ∧ i0.size = 1 ∧ i0.bytes = 24) := ⟨hi0, hj0, hj1, hj2⟩
  have HW : Hid ((w.alloc (.cells #[] 24)).ownsRow w.heap.size 24 1 (.slice (some ⟨w.heap.size, 0, none⟩) 0 0) 0 []) :=
    ⟨rfl, .inr ⟨w.heap.size, 0, #[], rfl, Nat.le_refl _, heap_alloc_new w _, Nat.le_refl _, by decide, rfl, rfl⟩⟩
  have hb1 : Below w.heap.size w (w.alloc (.cells #[] 24)) := Below.alloc (Below.refl _ _) (Nat.le_refl _) _
  have Hn : Hid (m ≤ 2000001) := hm
  clear hi0 hj0 hj1 hj2 hc h1 hl hm
  go_enter Tryz.func119, Tryz.ntmps119
  go_wp2_with (at_builtin; refine wpList_append_own_at _ rfl _ _ 48 rfl w.heap.size 24 i0 (.slice none 0 0) 1 24 Tryz.underlying48 HH.out.1 HH.out.2.1 HH.out.2.2.1 HH.out.2.2.2 rfl (by decide) _ _ _ rfl HW.out ⟨g, 0, none⟩ m cap us rfl HL.out HN.out HO.out (by have := Hn.out; simp [maxLen]; omega) (by have := Hn.out; omega) (by simp) ?_)
  intro v' w2 ho hg2 _ _
  have hb2 : Below w.heap.size w w2 := hb1.grown hg2 hb1.size (fun k e => by simp [Value.ownBlock] at e; omega)
  have ho2 : w2.ownsRow w.heap.size 24 1 v' m us := by simpa using ho
  obtain ⟨a, c, rfl⟩ := own_sl17 ho2
  have HO2 : Hid (w2.ownsRow w.heap.size 24 1 (.slice a m c) m us) := ho2
  clear ho hg2 hb1 ho2
  go_wp2
  go_ret
  exact ⟨_, rfl, HO2.out, hb2⟩
theorem cloneR_any (n0 : Nat) (v : Value) (l : List Int) (w : World) (hn : n0 ≤ w.heap.size) (hr : Lrd n0 w v .i64 l) (hl : l.length ≤ 1000000000) :
    Calls Tryz.prog 120 #[v] w fun e w' => ∃ v', e = .returned v' ∧ Il w' w.heap.size v' l ∧ Below w.heap.size w w' := by
  obtain ⟨i0, hi0, hj0, hj1, hj2⟩ := info_p17 infoI17
  obtain ⟨a, cap, rfl, hcap, hc⟩ := hr
  cases a with
  | none =>
    have hx : l = [] := by
      cases l with
      | nil => rfl
      | cons x r => obtain ⟨q, off, h, -⟩ := hc 0 x rfl; cases h
    subst hx
    have hnil : ∀ w, (binOp .eql 24 (.slice none 0 cap) (.slice none 0 0)).run Tryz.prog w = .ok (.bool true) w := fun w => by first | rfl | kernel_rfl | (simp [binOp, go_sem]; done)
    clear hi0 hj0 hj1 hj2 hc
    go_enter Tryz.func120, Tryz.ntmps120
    go_wp2
    go_ret
    exact ⟨_, rfl, World.ownsRow_nil _ _ _ _, Below.refl _ _⟩
  | some ad =>
    have hnil : ∀ w, (binOp .eql 24 (.slice (some ad) l.length cap) (.slice none 0 0)).run Tryz.prog w = .ok (.bool false) w := fun w => by first | rfl | kernel_rfl | (simp [binOp, go_sem]; done)
    have hb1 : Below w.heap.size w (w.alloc (.cells #[] 3)) := Below.alloc (Below.refl _ _) (Nat.le_refl _) _
    have HN : Hid (∀ (j : Nat) u, (Kg.ints l)[j]? = some u → (w.alloc (.cells #[] 3)).cell? (ad.add j) = some u) := fun j u hu => by
      rw [Kg.ints, List.getElem?_map, Option.map_eq_some_iff] at hu
      obtain ⟨z, hz, rfl⟩ := hu
      obtain ⟨q, off, h1, h2, h3⟩ := hc j z hz
      cases h1
      rw [Addr.add_lit]
      exact (hb1.cell (p := ⟨q, off + j, none⟩) (by show q < _; omega)).trans h3
    have HO : Hid (∀ u ∈ Kg.ints l, u.oneCell' = true) := fun u hu => by
      obtain ⟨i, -, rfl⟩ := List.mem_map.1 hu; rfl
    have HL : Hid ((Kg.ints l).length = l.length * 1) := by show _ = _; rw [Kg.ints, List.length_map, Nat.mul_one]
    have HH : Hid (Tryz.prog.info? 3 = some i0 ∧ i0.zero = some (.int .i64 0) ∧ i0.size = 1 ∧ i0.bytes = 8) := ⟨hi0, hj0, hj1, hj2⟩
    have HW : Hid ((w.alloc (.cells #[] 3)).ownsRow w.heap.size 3 1 (.slice (some ⟨w.heap.size, 0, none⟩) 0 0) 0 []) :=
      ⟨rfl, .inr ⟨w.heap.size, 0, #[], rfl, Nat.le_refl _, heap_alloc_new w _, Nat.le_refl _, by decide, rfl, rfl⟩⟩
    have Hn : Hid (l.length ≤ 1000000000) := hl
    clear hi0 hj0 hj1 hj2 hl hc hcap
    generalize l.length = n at *
    go_enter Tryz.func120, Tryz.ntmps120
    go_wp2_with (at_builtin; refine wpList_append_own_at _ rfl _ _ 24 rfl w.heap.size 3 i0 (.int .i64 0) 1 8 Tryz.underlying24 HH.out.1 HH.out.2.1 HH.out.2.2.1 HH.out.2.2.2 rfl (by decide) _ _ _ rfl HW.out ad n cap (Kg.ints l) rfl HL.out HN.out HO.out (by have := Hn.out; simp [maxLen]; omega) (by have := Hn.out; omega) (by simp) ?_)
    intro v' w2 ho hg2 _ _
    have hb2 : Below w.heap.size w w2 := hb1.grown hg2 hb1.size (fun k e => by simp [Value.ownBlock] at e; omega)
    have ho2 : w2.ownsRow w.heap.size 3 1 v' n (Kg.ints l) := by simpa using ho
    obtain ⟨a, c, rfl⟩ := own_sl17 ho2
    have HO2 : Hid (Il w2 w.heap.size (.slice a n c) l) := by
      have e : n = l.length := by have := HL.out; rw [Kg.ints, List.length_map] at this; omega
      show World.ownsRow _ _ _ _ _ _ _
      rw [← e]
      exact ho2
    clear ho hg2 hb1 ho2
    go_wp2
    go_ret
    exact ⟨_, rfl, HO2.out, hb2⟩
structure Wv (w : World) (B q2 m : Nat) (us : Nat → Value) (v0 : Value) (l0 : List Int) : Prop where
  h : ∃ cs, w.heap[q2]? = some (.cells cs 24 (0, 0)) ∧ cs[0]? = some v0 ∧ ∀ i, 1 ≤ i → i < m → cs[i]? = some (us i)
  l : Il w B v0 l0
  lo : B ≤ q2
theorem Wv.keep {w w' : World} {B q2 m : Nat} {us : Nat → Value} {v0 : Value} {l0 : List Int} (h : Wv w B q2 m us v0 l0) (hb : Below w.heap.size w w') : Wv w' B q2 m us v0 l0 := by
  obtain ⟨cs, h1, h2, h3⟩ := h.h
  exact ⟨⟨cs, (hb.block _ (Kg.heap_lt h1)).trans h1, h2, h3⟩, h.l.below hb, h.lo⟩
theorem Wv.push {w w8 : World} {B q2 m : Nat} {us : Nat → Value} {v0 v8 : Value} {l0 : List Int} {x : Int} (h : Wv w B q2 m us v0 l0) (hB : B ≤ w.heap.size)
    (h8 : w8.ownsRow B 3 1 v8 (l0.length + 1) (Kg.ints l0 ++ [.int .i64 x])) (g8 : (w.alloc (.cells #[.int .i64 x] 3)).grownBy w8 v0.ownBlock) (e8 : v8.ownBlock = v0.ownBlock ∨ v8.ownBlock = some (w.alloc (.cells #[.int .i64 x] 3)).heap.size) :
    ∃ a8 c8, v8 = .slice a8 (l0.length + 1) c8 ∧ w8.cell? ⟨q2, 0, none⟩ = some v0 ∧ w8.frozen? ⟨q2, 0, none⟩ = false ∧ Hid (Wv (w8.setCell ⟨q2, 0, none⟩ v8) B q2 m us v8 (l0 ++ [x]) ∧ Below B w (w8.setCell ⟨q2, 0, none⟩ v8)) := by
  obtain ⟨cs, h1, h2, h3⟩ := h.h
  obtain ⟨a8, c8, f1, f2, f3, f4⟩ := fld_push (j := 0) h1 h.l h2 hB h8 g8 e8
  obtain ⟨k1, k2, k3, -⟩ := f4.out
  refine ⟨a8, c8, f1, f2, f3, ⟨⟨_, k1, ?_, fun i h5 h6 => ?_⟩, k2, h.lo⟩, k3.below hB (fun k hk => ?_)⟩
  · have h7 := (Array.getElem?_eq_some_iff.1 h2).1
    rw [Array.getElem?_setIfInBounds, if_pos rfl, if_pos h7]
  · rw [Array.getElem?_setIfInBounds, if_neg (by omega)]
    exact h3 i h5 h6
  · rcases List.mem_cons.1 hk with h5 | h5
    · rw [h5]; exact h.lo
    · rw [Option.mem_toList] at h5
      exact (World.ownsRow.lt h.l k h5).1
def wmore (Wz : Nat → List Nat) (H : List Ep) (x : Nat) : List Nat := if x = 0 then Wz 0 ++ H.map (fun e => e.2.2) else Wz x
theorem waysWith_any (n0 n1 : Nat) (w : World) (B0 wb R m : Nat) (vw vp : Value) (vs : Nat → Value) (P : List Ep) (L : Nat → List Ep) (Wz : Nat → List Nat) (hw : Wb w B0 wb R m vw vp vs P L) (hy : Wys n1 w vw m Wz) (hn1 : n1 ≤ w.heap.size) (hm1 : 1 ≤ m) (hm : m ≤ 2000000) (hlen : (Wz 0).length ≤ 900000000) (vh : Value) (H : List Ep) (hh : Eo w n0 vh H) (hHl : H.length ≤ 2000000) :
    Calls Tryz.prog 70 #[.pointer (some ⟨wb, 0, none⟩), vh] w fun e w' => ∃ v, e = .returned v ∧ Wys w'.heap.size w' v m (wmore Wz H) ∧ Below w.heap.size w w' := by
  obtain ⟨wq, wc, rfl, hwq, hwr⟩ := id hy
  obtain ⟨i0, hi0, hj0, hj1, hj2⟩ := info_p17 infoI17
  have HI : Hid (Tryz.prog.info? 3 = some i0 ∧ i0.zero = some (.int .i64 0) ∧ i0.size = 1 ∧ i0.bytes = 8) := ⟨hi0, hj0, hj1, hj2⟩
  clear hi0 hj0 hj1 hj2
  obtain ⟨us, hus⟩ : ∃ us : Nat → Value, ∀ i, i < m → w.cell? ⟨wq, i, none⟩ = some (us i) ∧ Lrd n1 w (us i) .i64 ((Wz i).map Int.ofNat) := by
    refine ⟨fun i => (w.cell? ⟨wq, i, none⟩).getD undef, fun i hi => ?_⟩
    obtain ⟨u, h1, h2⟩ := hwr i hi
    show _ = some ((w.cell? ⟨wq, i, none⟩).getD undef) ∧ Lrd n1 w ((w.cell? ⟨wq, i, none⟩).getD undef) _ _
    rw [h1]
    exact ⟨rfl, h2⟩
  have HU : Hid (∀ i, i < m → w.cell? ⟨wq, i, none⟩ = some (us i) ∧ Lrd n1 w (us i) .i64 ((Wz i).map Int.ofNat)) := hus
  have q := cloneLL_any wq m wc ((List.range m).map us) (by simp) (by omega) w (by omega) (fun j u hu => by
    rw [List.getElem?_map] at hu
    rcases Nat.lt_or_ge j m with h | h
    · rw [List.getElem?_range h] at hu
      simp only [Option.map_some, Option.some.injEq] at hu
      rw [← hu]
      exact (hus j h).1
    · rw [List.getElem?_eq_none (by simpa using h)] at hu
      cases hu) (fun u hu => by
    obtain ⟨i, hi, rfl⟩ := List.mem_map.1 hu
    obtain ⟨a, c, e, -⟩ := (hus i (List.mem_range.1 hi)).2
    rw [e]
    rfl)
  have y0 : w.cell? ⟨wb, 0, none⟩ = some (.slice (some ⟨wq, 0, none⟩) m wc) := Kg.heap_cell hw.h 0
  obtain ⟨ha, hc, rfl, hp⟩ := hh.at_
  have HC : Hid (∀ wr, Below w.heap.size w wr → ∀ (i : Nat) e, H[i]? = some e → ∃ q, ha = some ⟨q, 0, none⟩ ∧ wr.cell? ⟨q, i * 3, none⟩ = some (.int .i64 (e.1 : Nat)) ∧ wr.cell? ⟨q, i * 3 + 1, none⟩ = some (.int .i64 (e.2.1 : Nat)) ∧ wr.cell? ⟨q, i * 3 + 2, none⟩ = some (.int .i64 (e.2.2 : Nat))) := fun wr b i e he => by
    obtain ⟨q, h1, -, h2, h3, h4, h5⟩ := hp i e he
    exact ⟨q, h1, (Below.cell (p := ⟨q, i * 3, none⟩) b h2).trans h3, (Below.cell (p := ⟨q, i * 3 + 1, none⟩) b h2).trans h4, (Below.cell (p := ⟨q, i * 3 + 2, none⟩) b h2).trans h5⟩
  have HLz : Hid ((Wz 0).length ≤ 900000000) := hlen
  clear hw hy hwr hus hh hp hlen
  go_enter Tryz.func70, Tryz.ntmps70
  go_wp2_with fail
  refine q.mono ?_
  rintro e w1 ⟨v1, rfl, r1, b1⟩
  obtain ⟨q2, c2, hv1, hq2, hh1⟩ : ∃ q2 c2, v1 = .slice (some ⟨q2, 0, none⟩) m c2 ∧ w.heap.size ≤ q2 ∧ ∃ cs, w1.heap[q2]? = some (.cells cs 24 (0, 0)) ∧ ∀ i, i < m → cs[i]? = some (us i) := by
    rcases r1.2 with ⟨-, h1⟩ | ⟨q2, c2, cs, h1, h2, h3, h4, h5, h6, h7⟩
    · omega
    · refine ⟨q2, c2, h1, h2, cs, h3, fun i hi => ?_⟩
      have h8 : (cs.toList.take (m * 1))[i]? = some (us i) := by rw [h7, List.getElem?_map, List.getElem?_range hi]; rfl
      rw [List.getElem?_take, if_pos (by omega), Array.getElem?_toList] at h8
      exact h8
  subst hv1
  obtain ⟨cs1, hcs1, hci⟩ := hh1
  have x0 : w1.cell? ⟨q2, 0, none⟩ = some (us 0) := (Kg.heap_cell hcs1 0).trans (hci 0 (by omega))
  have q := cloneR_any n1 (us 0) ((Wz 0).map Int.ofNat) w1 (Nat.le_trans hn1 b1.size) ((HU.out 0 (by omega)).2.below (b1.mono hn1)) (by rw [List.length_map]; have := HLz.out; omega)
  obtain ⟨ua, uc, eu, -⟩ := (HU.out 0 (by omega)).2
  rw [List.length_map] at eu
  rw [eu] at x0 q
  have H1 : Hid (w1.heap[q2]? = some (.cells cs1 24 (0, 0)) ∧ ∀ i, i < m → cs1[i]? = some (us i)) := ⟨hcs1, hci⟩
  have HB1 : Hid (Below w.heap.size w w1) := b1
  have hm0I : (0 : Int) < (m : Int) := by omega
  have hm0 : 0 < m := by omega
  clear r1 b1 hcs1 hci eu y0
  go_wp2_with fail
  refine q.mono ?_
  rintro e w2 ⟨v2, rfl, r2, b2⟩
  obtain ⟨a2, d2, e2⟩ := own_sl17 r2
  rw [List.length_map] at e2
  subst e2
  have h2 : w2.heap[q2]? = some (.cells cs1 24 (0, 0)) := (b2.block q2 (Kg.heap_lt H1.out.1)).trans H1.out.1
  have z0 : w2.frozen? ⟨q2, 0, none⟩ = false := Kg.heap_frozen h2 0
  have x0' : w2.cell? ⟨q2, 0, none⟩ = some (us 0) := (Kg.heap_cell h2 0).trans (H1.out.2 0 (by omega))
  have hq2l := Kg.heap_lt H1.out.1
  obtain ⟨B, hB⟩ : ∃ B, B = w.heap.size := ⟨_, rfl⟩
  have HBw : Hid (B = w.heap.size) := hB
  have HV : Hid (Wv (w2.setCell ⟨q2, 0, none⟩ (.slice a2 (Wz 0).length d2)) B q2 m us (.slice a2 (Wz 0).length d2) ((Wz 0).map Int.ofNat) ∧ Below B w (w2.setCell ⟨q2, 0, none⟩ (.slice a2 (Wz 0).length d2))) := by
    have t : Kg.Touch [q2] w2 (w2.setCell ⟨q2, 0, none⟩ (.slice a2 (Wz 0).length d2)) := Kg.Touch.setCell _ _ _ (by simp)
    have hs1 := HB1.out.size
    have hs2 := b2.size
    refine ⟨⟨⟨_, Kg.heap_set h2 0 _, ?_, fun i h5 h6 => ?_⟩, ?_, by omega⟩, ?_⟩
    · have h7 := (Array.getElem?_eq_some_iff.1 (H1.out.2 0 (by omega))).1
      rw [Array.getElem?_setIfInBounds, if_pos rfl, if_pos h7]
    · rw [Array.getElem?_setIfInBounds, if_neg (by omega)]
      exact H1.out.2 i h6
    · refine Kg.row_keep2 (Kg.row_base r2 (by omega)) t (fun k hk hm => ?_)
      have h8 := (World.ownsRow.lt r2 k hk).1
      rw [List.mem_singleton] at hm
      omega
    · rw [hB]
      exact (HB1.out.trans (b2.mono HB1.out.size)).trans (t.below (by omega) (fun k hk => by rw [List.mem_singleton.1 hk]; exact hq2))
  clear q r2 b2 h2 H1 hB HB1 hq2l
  go_upto_region 3 with fail
  clear x0 x0' z0
  generalize w2.setCell ⟨q2, 0, none⟩ (.slice a2 (Wz 0).length d2) = w3 at *
  clear w2 w1
  go_wp2
  go_loopw [7, 21] (fun _ v21 wr => ∃ (k : Nat) (v0 : Value), v21 = .int .i64 (k : Nat) ∧ k ≤ H.length ∧ Hid (Wv wr B q2 m us v0 ((Wz 0 ++ (H.take k).map (fun e => e.2.2)).map Int.ofNat)) ∧ Hid (Below B w wr)) (fun _ v21 _ => H.length - (intOf v21).toNat)
  case atStart => exact ⟨0, _, rfl, Nat.zero_le _, by show Wv _ _ _ _ _ _ _; rw [List.take_zero, List.map_nil, List.append_nil]; exact HV.out.1, HV.out.2⟩
  case round =>
    obtain ⟨k, v0, rfl, hk, S1, S2⟩ := hrel
    by_cases hkl : k < H.length
    · have hki : (k : Int) < (H.length : Int) := by omega
      obtain ⟨e, he⟩ : ∃ e, H[k]? = some e := ⟨_, List.getElem?_eq_getElem hkl⟩
      have S2' : Below w.heap.size w wr := by have h := S2.out; rw [HBw.out] at h; exact h
      obtain ⟨q, rfl, g0, g1, g2⟩ := HC.out wr S2' k e he
      have HT : Hid (H.take (k + 1) = H.take k ++ [e]) := by show _ = _; rw [List.take_add_one, he]; rfl
      obtain ⟨l0, hl0⟩ : ∃ l0, l0 = ((Wz 0 ++ (H.take k).map (fun e => e.2.2)).map Int.ofNat) := ⟨_, rfl⟩
      have HL0 : Hid (l0 = ((Wz 0 ++ (H.take k).map (fun e => e.2.2)).map Int.ofNat)) := hl0
      rw [← hl0] at S1
      obtain ⟨nl, hnl⟩ : ∃ nl, nl = l0.length := ⟨_, rfl⟩
      have HNl : Hid (nl = l0.length) := hnl
      have hnlb : nl ≤ 1000000000 := by
        have h1 := List.length_take_le k H
        have h2 := HLz.out
        rw [hnl, hl0, List.length_map, List.length_append, List.length_map]
        omega
      clear he S2' hnl hl0
      go_upto_region 6 with fail
      obtain ⟨X, hX⟩ : ∃ X, X = wr.heap.size := ⟨_, rfl⟩
      have l5 : Below wr.heap.size wr (wr.alloc (.cells (epc e) 156)) := Below.alloc (Below.refl _ _) (Nat.le_refl _) _
      have hBs : B ≤ wr.heap.size := by rw [HBw.out]; exact S2.out.size
      have B5 : Hid (Below B w (wr.alloc (.cells (epc e) 156))) := S2.out.trans (l5.mono hBs)
      have S5 : Hid (Wv (wr.alloc (.cells (epc e) 156)) B q2 m us v0 l0) := S1.out.keep l5
      have H5 : Hid ((wr.alloc (.cells (epc e) 156)).heap[X]? = some (.cells (epc e) 156 (0, 0))) := by rw [hX]; exact heap_alloc_new wr _
      have hBs5 : B ≤ (wr.alloc (.cells (epc e) 156)).heap.size := Nat.le_trans hBs l5.size
      change Code.wp _ _ _ _ (wr.alloc (.cells (epc e) 156))
      rw [← hX]
      clear g0 g1 g2 l5 hX S1 S2 hBs
      generalize wr.alloc (.cells (epc e) 156) = w5 at *
      obtain ⟨a0, c0, ev0⟩ := own_sl17 S5.out.l
      rw [← HNl.out] at ev0
      subst ev0
      obtain ⟨cs5, hcs5, hc50, -⟩ := S5.out.h
      have x2 : w5.cell? ⟨X, 2, none⟩ = some (.int .i64 (e.2.2 : Nat)) := Kg.heap_cell H5.out 2
      have y0 : w5.cell? ⟨q2, 0, none⟩ = some (.slice a0 nl c0) := (Kg.heap_cell hcs5 0).trans hc50
      have hcA : (w5.alloc (.cells #[.int .i64 (e.2.2 : Nat)] 3)).cell? ⟨q2, 0, none⟩ = some (.slice a0 nl c0) := (Below.cell (p := ⟨q2, 0, none⟩) (Below.alloc (Below.refl w5.heap.size w5) (Nat.le_refl _) _) (Kg.heap_lt hcs5)).trans y0
      have HRow : Hid ((w5.drew.alloc (.cells #[.int .i64 (e.2.2 : Nat)] 3)).ownsRow B 3 1 (.slice a0 nl c0) nl (Kg.ints l0)) := by
        have h9 := Kg.row_keep2 (G := []) S5.out.l ((Kg.Touch.drew _ w5).trans (Kg.Touch.alloc _ _ (.cells #[.int .i64 (e.2.2 : Nat)] 3))) (fun _ _ => List.not_mem_nil)
        rw [← HNl.out] at h9
        exact h9
      have HRd : Hid (Wv w5.drew B q2 m us (.slice a0 nl c0) l0) := S5.out.keep (below_drewN (Below.refl _ _) 1)
      have HBd : Hid (B ≤ w5.drew.heap.size) := hBs5
      clear hcs5 hc50
      go_region_law (refine step_append_own_at rfl (.tmp 28) (.tmp 31) 24 rfl B 3 i0 (.int .i64 0) 1 8 Tryz.underlying24 HI.out.1 HI.out.2.1 HI.out.2.2.1 HI.out.2.2.2 rfl (by decide) (.slice a0 nl c0) nl (Kg.ints l0) rfl HRow.out ⟨w5.drew.heap.size, 0, none⟩ 1 1 [.int .i64 (e.2.2 : Nat)] rfl rfl (cell_one17 _ _ _) (by simp [Value.oneCell']) (by simp only [maxLen]; omega) (by omega) (by simp; omega) ?_; intro v8 w8 h8 g8 e8; obtain ⟨a8, c8, rfl, d8, z8, HN⟩ := HRd.out.push HBd.out (by rw [← HNl.out]; exact h8) g8 e8)
      all_goals
        rw [← HNl.out] at HN ⊢
        have HZ : Hid (Wv (w8.setCell ⟨q2, 0, none⟩ (.slice a8 (nl + 1) c8)) B q2 m us (.slice a8 (nl + 1) c8) ((Wz 0 ++ (H.take (k + 1)).map (fun e => e.2.2)).map Int.ofNat) ∧ Below B w (w8.setCell ⟨q2, 0, none⟩ (.slice a8 (nl + 1) c8))) := by
          obtain ⟨f1, f2⟩ := HN.out
          refine ⟨?_, (below_drewN B5.out 1).trans f2⟩
          have e9 : (Wz 0 ++ (H.take (k + 1)).map (fun e => e.2.2)).map Int.ofNat = l0 ++ [(e.2.2 : Int)] := by
            rw [HL0.out, HT.out]
            simp
          rw [e9]
          exact f1
        clear h8 g8 e8 d8 z8 HN HRd HRow hcA
        generalize w8.setCell ⟨q2, 0, none⟩ (.slice a8 (nl + 1) c8) = w9 at *
        go_wp2
        go_roundw
        case rel => exact ⟨k + 1, _, by go_num, by omega, HZ.out.1, HZ.out.2⟩
        case measure => simp [intOf]; omega
    · have hki : ¬ (k : Int) < (H.length : Int) := by omega
      have e9 : H.take k = H := List.take_of_length_le (by omega)
      have HE : Hid (Wys wr.heap.size wr (.slice (some ⟨q2, 0, none⟩) m c2) m (wmore Wz H) ∧ Below w.heap.size w wr) := by
        have S2' : Below w.heap.size w wr := by have h := S2.out; rw [HBw.out] at h; exact h
        obtain ⟨cs, k1, k2, k3⟩ := S1.out.h
        have r1 := S1.out.l
        rw [e9] at r1
        refine ⟨⟨q2, c2, rfl, Kg.heap_lt k1, fun i hi => ?_⟩, S2'⟩
        by_cases h0 : i = 0
        · refine ⟨v0, by rw [h0]; exact (Kg.heap_cell k1 0).trans k2, ?_⟩
          unfold wmore
          rw [if_pos h0]
          exact Il.lrd r1
        · refine ⟨us i, (Kg.heap_cell k1 i).trans (k3 i (by omega) hi), ?_⟩
          unfold wmore
          rw [if_neg h0]
          exact ((HU.out i hi).2.below (S2'.mono hn1)).mono (Nat.le_trans hn1 S2'.size)
      clear S1 S2 e9
      go_wp2
      go_ret
      exact ⟨_, rfl, HE.out⟩
end Go.Proofs.YtkekaifiahjljaaGreatDoor
namespace Go.Proofs.YtkekaifiahjljaaGreatDoor.Mr
open Go.RowKit Go.Shelf
attribute [local go_sem] Oper.semAt_some
theorem rows_round {P : Program} {row : String} {args : Array Value} {w : World} {R : Value → World → Prop} {l n : Nat} (h : Rows P row args w R) : RowsIn (Fence.wide.inRound l) n P row args w R :=
  fun c cs _ => let ⟨v, w', r, s⟩ := h c cs; ⟨v, w', r, stepsIn_wide.2 s⟩
theorem oper_round {P : Program} {o : Oper} {a : Act} {w : World} {K : Act → World → Prop} {Q : Exit → Act → World → Prop} {l n : Nat} (hnd : ∀ c, o.op ≠ .defer c) (h : o.wp P a w K Q) : o.wpIn (Fence.wide.inRound l) n P a w K Q := by
  refine ⟨fun _ _ => trivial, ?_⟩
  rw [Fence.inRound_round, Oper.semAt_some _ _ _ hnd]
  unfold Oper.wp at h
  generalize (execOp a.eval o).run P w = r at *
  cases r with
  | ok x w' =>
    cases x with
    | value v => exact h
    | skip => exact h
    | defer d => exact h
    | enter f args => exact ⟨fun h => (by cases h), (callsIn_wide.2 h).inRound l⟩
    | row row args => exact ⟨fun h => (by cases h), rows_round h⟩
    | _ => exact h.elim
  | halt x w' =>
    cases x with
    | panic v => exact h
    | _ => exact h.elim
theorem op_round {P : Program} {ops : Array Oper} {Q : Exit → Act → World → Prop} {i : Nat} {K K' : Act → World → Prop} {a : Act} {w : World} {l n : Nat} (hnd : ∀ (i : Nat) (o : Oper), ops[i]? = some o → ∀ c, o.op ≠ .defer c) (hno : ¬ LetsOut Q) (hk : ∀ a w, K a w → K' a w)
    (h : wpOp P ops Q i K a w) : wpOpIn (Fence.wide.inRound l) n P ops Q i K' a w := by
  unfold wpOp at h
  unfold wpOpIn
  split
  · rename_i ho; simp only [ho] at h; exact hk _ _ h
  · rename_i o ho
    simp only [ho] at h
    split
    · rename_i hw
      simp only [hw, if_true] at h
      rcases h with h | ⟨_, h⟩
      · exact Oper.wpIn_mono hk (oper_round (hnd i o ho) h)
      · exact absurd h hno
    · rename_i hw
      simp only [hw] at h
      exact ⟨fun _ _ => trivial, hk _ _ h⟩
theorem any_round {P : Program} {md : Region.Mode} {ops : Array Oper} {Q : Exit → Act → World → Prop} {l n : Nat} (hnd : ∀ (i : Nat) (o : Oper), ops[i]? = some o → ∀ c, o.op ≠ .defer c) (hno : ¬ LetsOut Q) :
    ∀ (fuel : Nat) (listed : Array Bool) (a : Act) (w : World), wpAny P md ops Q fuel listed a w → wpAnyIn (Fence.wide.inRound l) n P md ops Q fuel listed a w
  | 0, _, _, _, h => h
  | fuel + 1, listed, a, w, h => ⟨h.1, fun i hi => op_round hnd hno (fun a' w' h' => any_round hnd hno fuel _ a' w' h') (h.2 i hi)⟩
def noDefer (l : List Oper) : Bool := l.all fun o => match o.op with | .defer _ => false | _ => true
theorem noDefer_spec {l : List Oper} (h : noDefer l = true) (i : Nat) (o : Oper) (ho : l.toArray[i]? = some o) (c) : o.op ≠ .defer c := by
  intro e
  have hm : o ∈ l := by
    rw [List.getElem?_toArray] at ho
    exact List.mem_of_getElem? ho
  have := List.all_eq_true.1 h o hm
  rw [e] at this
  cases this
theorem tail_round {P : Program} {id : Nat} {Q : Exit → Act → World → Prop} {a : Act} {w : World} {l : List Oper} {lp m : Nat} (n : Nat) (hm : P.follows .mixedOrders = true) (hB : Region.lexTailB .any l.toArray n = true) (hd : noDefer l = true) (hno : ¬ LetsOut Q)
    (h : wpStill P l.toArray { w with drawn := w.drawn + 1 } (fun a' => wpList P l.toArray Q (l.drop n) a' { w with drawn := w.drawn + 1 }) (l.take n) a) : (Code.region id l.toArray true).wpIn (Fence.wide.inRound lp) m P Q a w := by
  simp only [Region.lexTailB, Bool.and_eq_true, decide_eq_true_eq] at hB
  obtain ⟨⟨⟨⟨hsel, hn⟩, hs⟩, hc⟩, hlex⟩ := hB
  have hn' : n < l.length := by simpa using hn
  have htl : (l.take n).length = n := by simp; omega
  have hdl : (l.drop n).length = l.toArray.size - n := by simp
  have inv0 : HeadInv .any l.toArray n (Array.replicate l.toArray.size false) :=
    ⟨by simp, fun j oj _ hl => (by rw [getD_replicate_false] at hl; cases hl), fun t _ ht => getD_in (by simpa using ht) (getD_replicate_false _ _)⟩
  have H := wpAnyL_lex (md := .any) (g := l.toArray.size - n) hsel hs hc hn (l.take n) 0 _ a (fun j hj => by
    have hj' : j < n := by rw [htl] at hj; exact hj
    simp [hj']) (by simpa using htl) inv0 (by rw [htl]; exact hlex) h
  refine wpIn_region_any hm (any_round (noDefer_spec hd) hno _ _ _ _ ?_)
  have := wpAny_of_head (Q' := Q) (g := l.toArray.size - n) (fun listed a' hL => by
    have := wpAny_of_seq (md := .any) (Q' := Q) (l.drop n) n listed a' { w with drawn := w.drawn + 1 } (fun j => by simp [List.getElem?_drop]) (by rw [hdl]; exact hL.1) hL.2
    rwa [hdl] at this) _ _ _ H
  rw [htl, show n + (l.toArray.size - n) = l.toArray.size by omega] at this
  exact this
theorem qtail_round {P : Program} {id : Nat} {Q : Exit → Act → World → Prop} {a : Act} {w : World} {l : List Oper} {lp m : Nat} (n : Nat) (hm : P.follows .mixedOrders = true) (hB : Region.lexTailB .any l.toArray n = true) (hd : noDefer l = true) (hno : ¬ LetsOut Q)
    (h : wpQuiet P l.toArray (fun w' => w' = w.drew) (fun a' => wpList P l.toArray Q (l.drop n) a' w.drew) (l.take n) a) : (Code.region id l.toArray true).wpIn (Fence.wide.inRound lp) m P Q a w :=
  tail_round n hm hB hd hno (Kg.still_of_quiet _ _ h)
end Go.Proofs.YtkekaifiahjljaaGreatDoor.Mr
namespace Go.Proofs.YtkekaifiahjljaaGreatDoor.Kg
open Go.RowKit Go.Shelf
attribute [local go_sem] Oper.semAt_some
def bkw (zs : List Int) : List (Nat × Int) := (zs.zipIdx.map (fun p => (p.2, p.1))).reverse
theorem bkw_length (zs : List Int) : (bkw zs).length = zs.length := by simp [bkw]
theorem bkw_get (zs : List Int) (k : Nat) (hk : k < zs.length) (x : Int) (hx : zs[zs.length - 1 - k]? = some x) : (bkw zs)[k]? = some (zs.length - 1 - k, x) := by
  unfold bkw
  rw [List.getElem?_reverse (by simpa using hk)]
  simp [hx]
set_option maxRecDepth 100000 in
theorem backI_full (Bs n0 : Nat) (sv : Value) (zs : List Int) (w : World) (hBs : Bs < w.heap.size) (hn0 : n0 ≤ w.heap.size) (hlen : zs.length < 1000000000) (hc : w.cell? ⟨Bs, 0, none⟩ = some sv) (hI : SliceIs n0 w sv zs) :
    SeqFull Tryz.prog 165 #[.pointer (some ⟨Bs, 0, none⟩)] (fun p : Nat × Int => #[Value.int .i64 (p.1 : Int), Value.int .i64 p.2]) (bkw zs) n0 (fun k => k = Bs) w := fun n l J W S0 hW hS0 hJ hY h0 => by
  have hc' := (hW.cell (p := ⟨Bs, 0, none⟩) hBs).trans hc
  refine callsIn_of_wp Tryz.func165 rfl trivial ?_ rfl
  simp only [Tryz.ntmps165, List.size_toArray, List.length_cons, List.length_nil, Nat.reduceAdd, Nat.reduceSub, Array.replicate_succ, Array.replicate_zero, List.push_toArray, List.append_toArray, List.nil_append, List.cons_append]
  rcases hI.below hW hn0 with ⟨rfl, rfl⟩ | ⟨b, off, cap, rfl, hb, hcs⟩
  · gi_wp2
    gi_loopw [3] (fun i wr => i = .int .i64 (-1) ∧ J S0 [] wr) (fun _ _ => 0)
    case atStart => exact ⟨rfl, h0⟩
    case round =>
      obtain ⟨rfl, hJs⟩ := hrel
      gi_wp2
      go_end0
      exact ⟨⟨_, rfl⟩, _, hJs⟩
  · gi_wp2
    gi_loopw [3] (fun i wr => ∃ (k : Nat) (S : Nat → Prop), k ≤ zs.length ∧ i = .int .i64 ((zs.length : Int) - 1 - k) ∧ J S ((bkw zs).take k) wr ∧ S Bs ∧ wr.cell? ⟨Bs, 0, none⟩ = some (.slice (some ⟨b, off, none⟩) zs.length cap) ∧ Below n0 W wr)
      (fun i _ => (intOf i + 1).toNat)
    case atStart => exact ⟨0, S0, Nat.zero_le _, by simp, h0, hS0 _ rfl, hc', Below.refl _ _⟩
    case round =>
      obtain ⟨k, S, hk, rfl, hJs, hSB, hcB, hnx⟩ := hrel
      by_cases hlt : k < zs.length
      · obtain ⟨x, hx⟩ : ∃ x, zs[zs.length - 1 - k]? = some x := ⟨_, List.getElem?_eq_getElem (by omega)⟩
        have hcx : wr.cell? ⟨b, off + (zs.length - 1 - k), none⟩ = some (.int .i64 x) := (hnx.cell (p := ⟨b, off + (zs.length - 1 - k), none⟩) hb).trans (hcs _ x hx)
        have hsn := take_snoc (bkw_get zs k hlt x hx)
        obtain ⟨fn, tmps, assign, body, hy, hR⟩ := hY S ((bkw zs).take k) (zs.length - 1 - k, x) wr hJs (by rw [hsn]; exact List.take_prefix _ _) (n - 1)
        have Hsn : Hid ((bkw zs).take k ++ [(zs.length - 1 - k, x)] = (bkw zs).take (k + 1)) := hsn
        clear hsn hx
        dsimp only at hy
        rw [show ((zs.length - 1 - k : Nat) : Int) = (zs.length : Int) - 1 - k by omega] at hy
        have hge : (0 : Int) ≤ (zs.length : Int) - 1 - k := by omega
        have hlt2 : (zs.length : Int) - 1 - k < zs.length := by omega
        gi_wp2
        refine ⟨fun h => (by cases h), hR.mono ?_⟩
        rintro e W3 ⟨rfl, hJ3, hS3, hk3⟩
        rw [Hsn.out] at hJ3
        have hcB3 : W3.cell? ⟨Bs, 0, none⟩ = some (.slice (some ⟨b, off, none⟩) zs.length cap) := (World.cell?_of_block (w := wr) (hS3 Bs hSB)).trans hcB
        gi_wp2
        go_roundw
        case rel => exact ⟨k + 1, S, hlt, by congr 1; omega, hJ3, hSB, hcB3, hnx.trans hk3⟩
        case measure => simp [intOf]; omega
      · obtain rfl : k = zs.length := by omega
        rw [← bkw_length zs, List.take_length] at hJs
        have hge : ¬ (0 : Int) ≤ (zs.length : Int) - 1 - zs.length := by omega
        gi_wp2
        go_end0
        exact ⟨⟨_, rfl⟩, S, hJs⟩
theorem backI_any (a : Option Addr) (len cap : Nat) (w : World) :
    Calls Tryz.prog 121 #[.slice a len cap] w fun e w' => e = .returned (.func (.func 165) #[] #[.pointer (some ⟨w.heap.size, 0, none⟩)]) ∧ w' = w.alloc (.cells #[.slice a len cap] 24) := by
  go_enter Tryz.func121, Tryz.ntmps121
  go_wp2
  go_ret
  exact ⟨rfl, rfl⟩
end Go.Proofs.YtkekaifiahjljaaGreatDoor.Kg
