/-
  The document's table: Drop.
-/
import Derived.Test.YtcjblafohfiiaabGreatYG1
set_option linter.unusedVariables false
namespace Go.Proofs.YtcjblafohfiiaabGreat.Nd
open Go.RowKit Go.Shelf

theorem own_take {w : World} {base g n m cap : Nat} {e : TypeId} {xs : List Value} (h : w.ownsRow base e 1 (.slice (some ⟨g, 0, none⟩) n cap) n xs) (hm : m ≤ n) : w.ownsRow base e 1 (.slice (some ⟨g, 0, none⟩) m cap) m (xs.take m) := by
  obtain ⟨h1, h2⟩ := h
  rcases h2 with ⟨h2, _⟩ | ⟨g', cap', cur, hv, hb, hg, hn, hmx, hs, ht⟩
  · simp at h2
  simp only [Value.slice.injEq, Option.some.injEq, Addr.mk.injEq, true_and, and_true] at hv
  obtain ⟨rfl, rfl⟩ := hv
  refine ⟨by simp at h1 ⊢; omega, .inr ⟨g, cap, cur, rfl, hb, hg, by omega, hmx, hs, ?_⟩⟩
  rw [← ht, List.take_take]
  congr 1
  simp
  omega

set_option maxHeartbeats 1000000 in
theorem rdrop_no (b base : Nat) (k : ByteArray) (kr : List ByteArray) (vr : List Int) (F : List Nat) (w : World) (h : Rf w base b kr vr F) (hlen : kr.length < 1000000) (hn : ∀ j : Nat, kr[j]? ≠ some k) :
    Calls Tryz.prog 69 #[.pointer (some ⟨b, 0, none⟩), .string k] w fun e w' => e = .returned (.bool false) ∧ w' = w := by
  have hf := find_any b base k kr vr F w h hlen
  go_enter Tryz.func69, Tryz.ntmps69
  go_wp2_with fail
  refine hf.mono ?_
  rintro e w' ⟨hw, ⟨j, h1, h2⟩ | ⟨h1, h2⟩⟩
  · exact absurd h1 (hn j)
  subst hw h2
  clear hf h
  go_wp2
  go_ret
  exact ⟨rfl, rfl⟩

set_option maxRecDepth 20000 in
set_option maxHeartbeats 4000000 in
theorem rdrop_core (b base g g' cap cap' j n : Nat) (k x z : ByteArray) (y u : Int) (kr : List ByteArray) (vr : List Int) (w : World) (hf : Calls Tryz.prog 98 #[.pointer (some ⟨b, 0, none⟩), .string k] w fun e w' => w' = w ∧ e = .returned (.int .i64 j))
    (hh : w.heap[b]? = some (.cells #[.slice (some ⟨g, 0, none⟩) (n + 1) cap, .slice (some ⟨g', 0, none⟩) (n + 1) cap'] 74 (0, 0))) (hk : w.ownsRow base 9 1 (.slice (some ⟨g, 0, none⟩) (n + 1) cap) (n + 1) (strs kr)) (hv : w.ownsRow base 3 1 (.slice (some ⟨g', 0, none⟩) (n + 1) cap') (n + 1) (ints vr))
    (hj : j < n + 1) (hlen : n + 1 < 1000000) (hx : kr[n]? = some x) (hy : vr[n]? = some y) (hz : kr[j]? = some z) (hu : vr[j]? = some u) :
    Calls Tryz.prog 69 #[.pointer (some ⟨b, 0, none⟩), .string k] w fun e w' => e = .returned (.bool true) ∧ w'.heap[b]? = some (.cells #[.slice (some ⟨g, 0, none⟩) n cap, .slice (some ⟨g', 0, none⟩) n cap'] 74 (0, 0)) ∧
      w'.ownsRow base 9 1 (.slice (some ⟨g, 0, none⟩) n cap) n (strs (swp kr j n x)) ∧ w'.ownsRow base 3 1 (.slice (some ⟨g', 0, none⟩) n cap') n (ints (swp vr j n y)) ∧ Touch [b, g, g'] w w' := by
  have hbg : b ≠ g := fun e => absurd (by simp [Value.ownBlock, e]) (row_ne hh hk)
  have hbg' : b ≠ g' := fun e => absurd (by simp [Value.ownBlock, e]) (row_ne hh hv)
  have hgg : g' ≠ g := fun e => rows_ne hv hk (by decide) g' rfl (by simp [Value.ownBlock, e])
  obtain ⟨hnc, hcm⟩ : n + 1 ≤ cap ∧ cap ≤ 9223372036854775807 := by have := row_facts hk; exact ⟨this.2.1, by simpa [maxLen] using this.2.2.1⟩
  obtain ⟨hnc', hcm'⟩ : n + 1 ≤ cap' ∧ cap' ≤ 9223372036854775807 := by have := row_facts hv; exact ⟨this.2.1, by simpa [maxLen] using this.2.2.1⟩
  have hc0 := heap_cell hh 0
  simp only [List.getElem?_toArray, List.getElem?_cons_zero] at hc0
  have cx : w.cell? ⟨g, n, none⟩ = some (.string x) := by rw [hk.cellAt _ (by omega)]; simp [hx]
  have cz : w.cell? ⟨g, j, none⟩ = some (.string z) := by rw [hk.cellAt _ (by omega)]; simp [hz]
  have fz := hk.frozenAt j
  have hk1 := (hk.stored j (.string x)).1
  have e1 : (strs kr).set j (.string x) = strs (kr.set j x) := by simp [List.map_set]
  rw [e1] at hk1
  have hv1 := ownsRow_setOther hv (a := ⟨g, j, none⟩) (by simpa [Value.ownBlock] using (Ne.symm hgg)) (.string x)
  have hh1 : (w.setCell ⟨g, j, none⟩ (.string x)).heap[b]? = _ := (Below.heap_setCell _ _ _ _ hbg).trans hh
  have ht1 : Touch [b, g, g'] w (w.setCell ⟨g, j, none⟩ (.string x)) := Touch.setCell _ _ _ (by simp)
  have hji : (j : Int) < (n : Int) + 1 := by omega
  have hni : (n : Int) < (n : Int) + 1 := by omega
  have hjz : ¬ (j : Int) < 0 := by omega
  clear hh e1 hk hv hx hz
  have Hk1 : Hid ((w.setCell ⟨g, j, none⟩ (.string x)).ownsRow base 9 1 (.slice (some ⟨g, 0, none⟩) (n + 1) cap) (n + 1) (strs (kr.set j x))) := hk1
  have Hv1 : Hid ((w.setCell ⟨g, j, none⟩ (.string x)).ownsRow base 3 1 (.slice (some ⟨g', 0, none⟩) (n + 1) cap') (n + 1) (ints vr)) := hv1
  have Hh1 : Hid ((w.setCell ⟨g, j, none⟩ (.string x)).heap[b]? = some (.cells #[.slice (some ⟨g, 0, none⟩) (n + 1) cap, .slice (some ⟨g', 0, none⟩) (n + 1) cap'] 74 (0, 0))) := hh1
  have Ht1 : Hid (Touch [b, g, g'] w (w.setCell ⟨g, j, none⟩ (.string x))) := ht1
  clear hk1 hv1 hh1 ht1
  go_enter Tryz.func69, Tryz.ntmps69
  go_wp2_with fail
  refine hf.mono ?_
  rintro e w' ⟨hw, he⟩
  subst hw he
  clear hf
  go_wp2_with fail
  go_region
  go_upto_region 6 with fail
  have hk2 : ((w'.setCell ⟨g, j, none⟩ (.string x)).drew).ownsRow base 9 1 (.slice (some ⟨g, 0, none⟩) (n + 1) cap) (n + 1) (strs (kr.set j x)) := Hk1.out
  have hv2 : ((w'.setCell ⟨g, j, none⟩ (.string x)).drew).ownsRow base 3 1 (.slice (some ⟨g', 0, none⟩) (n + 1) cap') (n + 1) (ints vr) := Hv1.out
  have hh2 : ((w'.setCell ⟨g, j, none⟩ (.string x)).drew).heap[b]? = some (.cells #[.slice (some ⟨g, 0, none⟩) (n + 1) cap, .slice (some ⟨g', 0, none⟩) (n + 1) cap'] 74 (0, 0)) := Hh1.out
  have ht2 : Touch [b, g, g'] w' ((w'.setCell ⟨g, j, none⟩ (.string x)).drew) := Ht1.out.trans (Touch.drew _ _)
  clear Hk1 Hv1 Hh1 Ht1 cx cz fz hc0
  generalize (w'.setCell ⟨g, j, none⟩ (.string x)).drew = w2 at hk2 hv2 hh2 ht2 ⊢
  have c1 := heap_cell hh2 1
  simp only [List.getElem?_toArray, List.getElem?_cons_zero, List.getElem?_cons_succ] at c1
  have cy : w2.cell? ⟨g', n, none⟩ = some (.int .i64 y) := by rw [hv2.cellAt _ (by omega)]; simp [hy]
  have cu : w2.cell? ⟨g', j, none⟩ = some (.int .i64 u) := by rw [hv2.cellAt _ (by omega)]; simp [hu]
  have fu := hv2.frozenAt j
  have hv3 := (hv2.stored j (.int .i64 y)).1
  have e2 : (ints vr).set j (.int .i64 y) = ints (vr.set j y) := by simp [List.map_set]
  rw [e2] at hv3
  have hk3 := ownsRow_setOther hk2 (a := ⟨g', j, none⟩) (by simpa [Value.ownBlock] using hgg) (.int .i64 y)
  have hh3 : (w2.setCell ⟨g', j, none⟩ (.int .i64 y)).heap[b]? = _ := (Below.heap_setCell _ _ _ _ hbg').trans hh2
  have ht3 : Touch [b, g, g'] w' (w2.setCell ⟨g', j, none⟩ (.int .i64 y)) := ht2.trans (Touch.setCell _ _ _ (by simp))
  have Hk1 : Hid ((w2.setCell ⟨g', j, none⟩ (.int .i64 y)).ownsRow base 9 1 (.slice (some ⟨g, 0, none⟩) (n + 1) cap) (n + 1) (strs (kr.set j x))) := hk3
  have Hv1 : Hid ((w2.setCell ⟨g', j, none⟩ (.int .i64 y)).ownsRow base 3 1 (.slice (some ⟨g', 0, none⟩) (n + 1) cap') (n + 1) (ints (vr.set j y))) := hv3
  have Hh1 : Hid ((w2.setCell ⟨g', j, none⟩ (.int .i64 y)).heap[b]? = some (.cells #[.slice (some ⟨g, 0, none⟩) (n + 1) cap, .slice (some ⟨g', 0, none⟩) (n + 1) cap'] 74 (0, 0))) := hh3
  have Ht1 : Hid (Touch [b, g, g'] w' (w2.setCell ⟨g', j, none⟩ (.int .i64 y))) := ht3
  clear hk2 hv2 hh2 ht2 e2 hy hu hk3 hv3 hh3 ht3
  go_region
  go_upto_region 7 with fail
  have hk2 : ((w2.setCell ⟨g', j, none⟩ (.int .i64 y)).drew).ownsRow base 9 1 (.slice (some ⟨g, 0, none⟩) (n + 1) cap) (n + 1) (strs (kr.set j x)) := Hk1.out
  have hv2 : ((w2.setCell ⟨g', j, none⟩ (.int .i64 y)).drew).ownsRow base 3 1 (.slice (some ⟨g', 0, none⟩) (n + 1) cap') (n + 1) (ints (vr.set j y)) := Hv1.out
  have hh2 : ((w2.setCell ⟨g', j, none⟩ (.int .i64 y)).drew).heap[b]? = some (.cells #[.slice (some ⟨g, 0, none⟩) (n + 1) cap, .slice (some ⟨g', 0, none⟩) (n + 1) cap'] 74 (0, 0)) := Hh1.out
  have ht2 : Touch [b, g, g'] w' ((w2.setCell ⟨g', j, none⟩ (.int .i64 y)).drew) := Ht1.out.trans (Touch.drew _ _)
  clear Hk1 Hv1 Hh1 Ht1 cy cu fu c1
  generalize (w2.setCell ⟨g', j, none⟩ (.int .i64 y)).drew = w4 at hk2 hv2 hh2 ht2 ⊢
  have c0 := heap_cell hh2 0
  have f0 := heap_frozen hh2 0
  simp only [List.getElem?_toArray, List.getElem?_cons_zero] at c0
  have hh4 := heap_set hh2 0 (.slice (some ⟨g, 0, none⟩) n cap)
  have c1 := heap_cell hh4 1
  have f1 := heap_frozen hh4 1
  simp at c1
  have Hfin : Hid (((w4.setCell ⟨b, 0, none⟩ (.slice (some ⟨g, 0, none⟩) n cap)).setCell ⟨b, 1, none⟩ (.slice (some ⟨g', 0, none⟩) n cap')).heap[b]? = some (.cells #[.slice (some ⟨g, 0, none⟩) n cap, .slice (some ⟨g', 0, none⟩) n cap'] 74 (0, 0)) ∧
      ((w4.setCell ⟨b, 0, none⟩ (.slice (some ⟨g, 0, none⟩) n cap)).setCell ⟨b, 1, none⟩ (.slice (some ⟨g', 0, none⟩) n cap')).ownsRow base 9 1 (.slice (some ⟨g, 0, none⟩) n cap) n (strs (swp kr j n x)) ∧ ((w4.setCell ⟨b, 0, none⟩ (.slice (some ⟨g, 0, none⟩) n cap)).setCell ⟨b, 1, none⟩ (.slice (some ⟨g', 0, none⟩) n cap')).ownsRow base 3 1 (.slice (some ⟨g', 0, none⟩) n cap') n (ints (swp vr j n y)) ∧ Touch [b, g, g'] w' ((w4.setCell ⟨b, 0, none⟩ (.slice (some ⟨g, 0, none⟩) n cap)).setCell ⟨b, 1, none⟩ (.slice (some ⟨g', 0, none⟩) n cap'))) := by
    refine ⟨heap_set hh4 1 _, ?_, ?_, (ht2.trans (Touch.setCell _ _ _ (by simp))).trans (Touch.setCell _ _ _ (by simp))⟩
    · have h5 := own_take hk2 (Nat.le_succ n)
      rw [← List.map_take] at h5
      exact ownsRow_setOther (ownsRow_setOther h5 (by simp [Value.ownBlock, hbg]) _) (by simp [Value.ownBlock, hbg]) _
    · have h5 := own_take hv2 (Nat.le_succ n)
      rw [← List.map_take] at h5
      exact ownsRow_setOther (ownsRow_setOther h5 (by simp [Value.ownBlock, hbg']) _) (by simp [Value.ownBlock, hbg']) _
  clear hk2 hv2 hh2 ht2 hh4
  go_wp2
  go_ret
  exact ⟨rfl, Hfin.out⟩

theorem rdrop_yes (b base j n : Nat) (k x : ByteArray) (y : Int) (kr : List ByteArray) (vr : List Int) (F : List Nat) (w : World) (h : Rf w base b kr vr F) (hlen : kr.length < 1000000) (hd : Dst kr) (hj : kr[j]? = some k) (hn : n + 1 = kr.length) (hx : kr[n]? = some x) (hy : vr[n]? = some y) :
    Calls Tryz.prog 69 #[.pointer (some ⟨b, 0, none⟩), .string k] w fun e w' => e = .returned (.bool true) ∧ Rf w' base b (swp kr j n x) (swp vr j n y) F ∧ Touch F w w' := by
  have hf := find_any b base k kr vr F w h hlen
  obtain ⟨vk, vv, hh, hb, hk, hv, hl, rfl⟩ := h
  have hjl : j < kr.length := (List.getElem?_eq_some_iff.1 hj).1
  obtain ⟨u, hu⟩ : ∃ u, vr[j]? = some u := ⟨_, List.getElem?_eq_getElem (by omega)⟩
  rw [← hn] at hk
  rw [hl, ← hn] at hv
  rcases hk.2 with ⟨_, h0⟩ | ⟨g, cap, cur, rfl, _⟩
  · omega
  rcases hv.2 with ⟨_, h0⟩ | ⟨g', cap', cur', rfl, _⟩
  · omega
  refine (rdrop_core b base g g' cap cap' j n k x k y u kr vr w (hf.mono ?_) hh hk hv (by omega) (by omega) hx hy hj hu).mono ?_
  · rintro e w' ⟨hw, ⟨j', h1, h2⟩ | ⟨h1, h2⟩⟩
    · obtain rfl := hd _ _ _ hj h1
      exact ⟨hw, h2⟩
    · exact absurd hj (h1 j)
  · rintro e w' ⟨rfl, h1, h2, h3, h4⟩
    have l1 := swp_length kr j n x (by omega)
    have l2 := swp_length vr j n y (by omega)
    exact ⟨rfl, ⟨_, _, h1, hb, by rw [l1]; exact h2, by rw [l2]; exact h3, by rw [l1, l2], rfl⟩, h4⟩

end Go.Proofs.YtcjblafohfiiaabGreat.Nd
