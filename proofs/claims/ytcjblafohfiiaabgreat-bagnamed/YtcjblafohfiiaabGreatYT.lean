/-
  The table of numbers by text: Drop and Get.
-/
import Derived.Test.YtcjblafohfiiaabGreatTabK
import Derived.Test.YtcjblafohfiiaabGreatXDel
set_option linter.unusedVariables false
namespace Go.Proofs.YtcjblafohfiiaabGreat.Nd
open Go.RowKit Go.Shelf

set_option maxHeartbeats 1000000 in
theorem dropT_no (b base p : Nat) (k : ByteArray) (ks : List ByteArray) (vs : List Int) (F : List Nat) (w : World) (h : TTab w base b ks vs F) (hlen : ks.length < 1000000) (hp : CutAt ltS ks k p) (hf : ks[p]? ≠ some k) :
    Calls Tryz.prog 68 #[.pointer (some ⟨b, 0, none⟩), .string k] w fun e w' => e = .returned (.bool false) ∧ w' = w := by
  obtain ⟨vk, vv, hh, hb, hk, hv, hl, hs, rfl⟩ := h
  have hc0 := heap_cell hh 0
  simp only [List.getElem?_toArray, List.getElem?_cons_zero] at hc0
  have hpl' := placeT_at base p vk ks k w hk hs hlen hp false (by simp [hf])
  clear hh hl hf
  go_enter Tryz.func68, Tryz.ntmps68
  go_wp2_with fail
  refine hpl'.mono ?_
  rintro e w' ⟨rfl, rfl⟩
  go_wp2
  go_ret
  exact ⟨rfl, rfl⟩

set_option maxHeartbeats 1000000 in
theorem getT_no (b base p : Nat) (k : ByteArray) (ks : List ByteArray) (vs : List Int) (F : List Nat) (w : World) (h : TTab w base b ks vs F) (hlen : ks.length < 1000000) (hp : CutAt ltS ks k p) (hf : ks[p]? ≠ some k) :
    Calls Tryz.prog 66 #[.pointer (some ⟨b, 0, none⟩), .string k] w fun e w' => e = .returned (.tuple #[.int .i64 0, .bool false]) ∧ w' = w := by
  obtain ⟨vk, vv, hh, hb, hk, hv, hl, hs, rfl⟩ := h
  have hc0 := heap_cell hh 0
  simp only [List.getElem?_toArray, List.getElem?_cons_zero] at hc0
  have hpl' := placeT_at base p vk ks k w hk hs hlen hp false (by simp [hf])
  clear hh hl hf
  go_enter Tryz.func66, Tryz.ntmps66
  go_wp2_with fail
  refine hpl'.mono ?_
  rintro e w' ⟨rfl, rfl⟩
  go_wp2
  go_ret2
  exact ⟨rfl, rfl⟩

/-- Delete of one number, over a row of the call's own. -/
theorem delS_own (base g n cap p : Nat) (xs : List ByteArray) (w : World) (hr : w.ownsRow base 9 1 (.slice (some ⟨g, 0, none⟩) n cap) n (strs xs)) (hp : p < n) :
    Calls Tryz.prog 99 #[.slice (some ⟨g, 0, none⟩) n cap, .int .i64 p, .int .i64 ((p : Int) + 1)] w fun e w' => e = .returned (.slice (some ⟨g, 0, none⟩) (n - 1) cap) ∧ w'.ownsRow base 9 1 (.slice (some ⟨g, 0, none⟩) (n - 1) cap) (n - 1) (strs (del xs p)) ∧ Touch [g] w w' := by
  obtain ⟨hl, hn, hm, hcs, hsp, hfz, hsh⟩ := row_facts hr
  simp only [Nat.zero_add] at hcs hsp hfz
  have h := Tx.delX_core g n cap p (p + 1) (strs xs) w hl hcs hfz (by simp [Value.oneCell']) (by omega) (by omega) hn (by simpa [maxLen] using hm)
  rw [delX_casts] at h
  refine h.mono ?_
  rintro e w' ⟨rfl, rfl⟩
  have h2 := own_del (i := p) (z := .string ⟨#[]⟩) hr hp
  rw [show p + (n - (p + 1)) = n - 1 by omega] at h2 ⊢
  rw [← del_map] at h2
  exact ⟨rfl, h2⟩

set_option maxHeartbeats 2000000 in
theorem dropT_core (b base g g' cap cap' p n : Nat) (k : ByteArray) (ks : List ByteArray) (vs : List Int) (w : World) (hh : w.heap[b]? = some (.cells #[.slice (some ⟨g, 0, none⟩) n cap, .slice (some ⟨g', 0, none⟩) n cap'] 129 (0, 0)))
    (hk : w.ownsRow base 9 1 (.slice (some ⟨g, 0, none⟩) n cap) n (strs ks)) (hv : w.ownsRow base 3 1 (.slice (some ⟨g', 0, none⟩) n cap') n (ints vs)) (hlen : n < 1000000) (hpn : p < n)
    (hpl : Calls Tryz.prog 96 #[.slice (some ⟨g, 0, none⟩) n cap, .string k] w fun e w' => e = .returned (.tuple #[.int .i64 p, .bool true]) ∧ w' = w) :
    Calls Tryz.prog 68 #[.pointer (some ⟨b, 0, none⟩), .string k] w fun e w' => e = .returned (.bool true) ∧ w'.heap[b]? = some (.cells #[.slice (some ⟨g, 0, none⟩) (n - 1) cap, .slice (some ⟨g', 0, none⟩) (n - 1) cap'] 129 (0, 0)) ∧
      w'.ownsRow base 9 1 (.slice (some ⟨g, 0, none⟩) (n - 1) cap) (n - 1) (strs (del ks p)) ∧ w'.ownsRow base 3 1 (.slice (some ⟨g', 0, none⟩) (n - 1) cap') (n - 1) (ints (del vs p)) ∧ Touch [b, g, g'] w w' := by
  have hbg : b ≠ g := fun e => absurd (by simp [Value.ownBlock, e]) (row_ne hh hk)
  have hbg' : b ≠ g' := fun e => absurd (by simp [Value.ownBlock, e]) (row_ne hh hv)
  have hgg : g' ≠ g := fun e => rows_ne hv hk (by decide) g' rfl (by simp [Value.ownBlock, e])
  have hc0 := heap_cell hh 0
  simp only [List.getElem?_toArray, List.getElem?_cons_zero] at hc0
  have hd1 := delS_own base g n cap p ks w hk hpn
  have Hh : Hid (w.heap[b]? = some (.cells #[.slice (some ⟨g, 0, none⟩) n cap, .slice (some ⟨g', 0, none⟩) n cap'] 129 (0, 0))) := hh
  clear hh
  go_enter Tryz.func68, Tryz.ntmps68
  go_wp2_with fail
  refine hpl.mono ?_
  rintro e w' ⟨rfl, rfl⟩
  go_wp2_with fail
  refine hd1.mono ?_
  rintro e w1 ⟨rfl, hk1, ht1⟩
  have hh1 := (ht1.block b (heap_lt Hh.out) (by simpa using hbg)).trans Hh.out
  have c0 := heap_cell hh1 0
  have z0 := heap_frozen hh1 0
  have c1 := heap_cell hh1 1
  have z1 := heap_frozen hh1 1
  simp only [List.getElem?_toArray, List.getElem?_cons_zero, List.getElem?_cons_succ] at c0 c1
  have hv1 := row_keep hv ht1 (fun q hq hm => by simp [Value.ownBlock] at hq hm; omega)
  have hk2 : (w1.setCell ⟨b, 0, none⟩ (.slice (some ⟨g, 0, none⟩) (n - 1) cap)).ownsRow base 9 1 (.slice (some ⟨g, 0, none⟩) (n - 1) cap) (n - 1) (strs (del ks p)) := ownsRow_setOther hk1 (by simp [Value.ownBlock, hbg]) _
  have hv2 : (w1.setCell ⟨b, 0, none⟩ (.slice (some ⟨g, 0, none⟩) (n - 1) cap)).ownsRow base 3 1 (.slice (some ⟨g', 0, none⟩) n cap') n (ints vs) := ownsRow_setOther hv1 (by simp [Value.ownBlock, hbg']) _
  have hd2 := delI_own base g' n cap' p vs _ hv2 hpn
  have Hh2 : Hid ((w1.setCell ⟨b, 0, none⟩ (.slice (some ⟨g, 0, none⟩) (n - 1) cap)).heap[b]? = some (.cells #[.slice (some ⟨g, 0, none⟩) (n - 1) cap, .slice (some ⟨g', 0, none⟩) n cap'] 129 (0, 0))) := heap_set hh1 0 _
  clear hd1 hpl hh1 hc0
  go_wp2_with fail
  refine hd2.mono ?_
  rintro e w3 ⟨rfl, hv3, ht3⟩
  have hh3 := (ht3.block b (heap_lt Hh2.out) (by simpa using hbg')).trans Hh2.out
  have d1 := heap_cell hh3 1
  have y1 := heap_frozen hh3 1
  simp only [List.getElem?_toArray, List.getElem?_cons_zero, List.getElem?_cons_succ] at d1
  have hk3 := row_keep hk2 ht3 (fun q hq hm => by simp [Value.ownBlock] at hq hm; omega)
  have Hh3 : Hid (w3.heap[b]? = some (.cells #[.slice (some ⟨g, 0, none⟩) (n - 1) cap, .slice (some ⟨g', 0, none⟩) n cap'] 129 (0, 0))) := hh3
  clear hh3 hd2
  go_wp2
  go_ret
  refine ⟨rfl, heap_set Hh3.out 1 _, ownsRow_setOther hk3 (by simp [Value.ownBlock, hbg]) _, ownsRow_setOther hv3 (by simp [Value.ownBlock, hbg']) _, ?_⟩
  exact ((ht1.mono (by simp)).trans (Touch.setCell _ _ _ (by simp))).trans ((ht3.mono (by simp)).trans (Touch.setCell _ _ _ (by simp)))

theorem dropT_yes (b base p : Nat) (k : ByteArray) (ks : List ByteArray) (vs : List Int) (F : List Nat) (w : World) (h : TTab w base b ks vs F) (hlen : ks.length < 1000000) (hp : CutAt ltS ks k p) (hf : ks[p]? = some k) :
    Calls Tryz.prog 68 #[.pointer (some ⟨b, 0, none⟩), .string k] w fun e w' => e = .returned (.bool true) ∧ TTab w' base b (del ks p) (del vs p) F ∧ Touch F w w' := by
  obtain ⟨vk, vv, hh, hb, hk, hv, hl, hs, rfl⟩ := h
  have hpl : p < ks.length := (List.getElem?_eq_some_iff.1 hf).1
  rcases hk.2 with ⟨_, h0⟩ | ⟨g, cap, cur, rfl, _⟩
  · omega
  rcases hv.2 with ⟨_, h0⟩ | ⟨g', cap', cur', rfl, _⟩
  · omega
  rw [hl] at hh hv
  refine (dropT_core b base g g' cap cap' p ks.length k ks vs w hh hk hv hlen hpl (placeT_at base p _ ks k w hk hs hlen hp true (by simp [hf]))).mono ?_
  rintro e w' ⟨rfl, hh', hk', hv', ht⟩
  refine ⟨rfl, ⟨_, _, hh', hb, ?_, ?_, ?_, hs.del p hpl, by simp [Value.ownBlock]⟩, ht.mono (fun q hq => .inl (by simp at hq; simp [Value.ownBlock, hq]))⟩
  · rw [del_length _ _ hpl]; exact hk'
  · rw [del_length _ _ (by omega), hl]; exact hv'
  · rw [del_length _ _ hpl, del_length _ _ (by omega), hl]

set_option maxHeartbeats 1000000 in
theorem getT_core (b g g' cap cap' n p : Nat) (k : ByteArray) (x : Int) (w : World) (hc0 : w.cell? ⟨b, 0, none⟩ = some (.slice (some ⟨g, 0, none⟩) n cap)) (hc1 : w.cell? ⟨b, 1, none⟩ = some (.slice (some ⟨g', 0, none⟩) n cap'))
    (hpl : Calls Tryz.prog 96 #[.slice (some ⟨g, 0, none⟩) n cap, .string k] w fun e w' => e = .returned (.tuple #[.int .i64 p, .bool true]) ∧ w' = w) (hpn : p < n) (hlen : n < 1000000) (hv : w.cell? ⟨g', p, none⟩ = some (.int .i64 x)) :
    Calls Tryz.prog 66 #[.pointer (some ⟨b, 0, none⟩), .string k] w fun e w' => e = .returned (.tuple #[.int .i64 x, .bool true]) ∧ w' = w := by
  have hpi : (p : Int) < (n : Int) := by omega
  go_enter Tryz.func66, Tryz.ntmps66
  go_wp2_with fail
  refine hpl.mono ?_
  rintro e w' ⟨rfl, rfl⟩
  go_wp2
  go_ret2
  exact ⟨rfl, rfl⟩

theorem tget_yes (b base p : Nat) (k : ByteArray) (x : Int) (ks : List ByteArray) (vs : List Int) (F : List Nat) (w : World) (h : TTab w base b ks vs F) (hlen : ks.length < 1000000) (hp : CutAt ltS ks k p) (hf : ks[p]? = some k) (hx : vs[p]? = some x) :
    Calls Tryz.prog 66 #[.pointer (some ⟨b, 0, none⟩), .string k] w fun e w' => e = .returned (.tuple #[.int .i64 x, .bool true]) ∧ w' = w := by
  obtain ⟨vk, vv, hh, hb, hk, hv, hl, hs, rfl⟩ := h
  have hpl : p < ks.length := (List.getElem?_eq_some_iff.1 hf).1
  have hc0 := heap_cell hh 0
  have hc1 := heap_cell hh 1
  simp only [List.getElem?_toArray, List.getElem?_cons_zero, List.getElem?_cons_succ] at hc0 hc1
  rcases hk.2 with ⟨_, h0⟩ | ⟨g, cap, cur, rfl, _⟩
  · omega
  rcases hv.2 with ⟨_, h0⟩ | ⟨g', cap', cur', rfl, _⟩
  · omega
  rw [hl] at hc1
  have hcell' : w.cell? ⟨g', p, none⟩ = some (.int .i64 x) := by rw [hv.cellAt _ (by omega)]; simp [hx]
  exact getT_core b g g' cap cap' ks.length p k x w hc0 hc1 (placeT_at base p _ ks k w hk hs hlen hp true (by simp [hf])) hpl hlen hcell'

end Go.Proofs.YtcjblafohfiiaabGreat.Nd
