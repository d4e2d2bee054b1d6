/-
  The table of words by number: Drop and Get.
-/
import Derived.Test.YtcjblafohfiiaabGreatTabJ
set_option linter.unusedVariables false
namespace Go.Proofs.YtcjblafohfiiaabGreat
open Go.RowKit

/-- The list without its i-th thing. -/
def del {α : Type} (l : List α) (i : Nat) : List α := l.take i ++ l.drop (i + 1)

theorem del_length {α : Type} (l : List α) (i : Nat) (h : i < l.length) : (del l i).length = l.length - 1 := by simp [del]; omega

theorem del_get {α : Type} (l : List α) (i j : Nat) (h : i < l.length) : (del l i)[j]? = if j < i then l[j]? else l[j + 1]? := by
  unfold del
  rw [List.getElem?_append, List.length_take, Nat.min_eq_left (by omega)]
  split
  · rw [List.getElem?_take, if_pos (by assumption)]
  · rw [List.getElem?_drop]; congr 1; omega

theorem del_map {α β : Type} (f : α → β) (l : List α) (i : Nat) : (del l i).map f = del (l.map f) i := by simp [del, List.map_take, List.map_drop]

theorem Srt.del {α : Type} {lt : α → α → Bool} {l : List α} (h : Srt lt l) (p : Nat) (hp : p < l.length) : Srt lt (del l p) := by
  intro i j a b hij ha hb
  rw [del_get _ _ _ hp] at ha hb
  split at ha <;> split at hb
  · exact h i j a b hij ha hb
  · exact h i (j + 1) a b (by omega) ha hb
  · omega
  · exact h (i + 1) (j + 1) a b (by omega) ha hb

theorem own_del {w : World} {base g n cap i : Nat} {e : TypeId} {xs : List Value} {z : Value} (h : w.ownsRow base e 1 (.slice (some ⟨g, 0, none⟩) n cap) n xs) (hi : i < n) :
    ((w.drew.setCells g i (xs.drop (i + 1))).setCells g (i + (n - (i + 1))) (List.replicate (n - (i + (n - (i + 1)))) z)).ownsRow base e 1 (.slice (some ⟨g, 0, none⟩) (i + (n - (i + 1))) cap) (n - 1) (del xs i) ∧
      Touch [g] w ((w.drew.setCells g i (xs.drop (i + 1))).setCells g (i + (n - (i + 1))) (List.replicate (n - (i + (n - (i + 1)))) z)) := by
  obtain ⟨h1, h2⟩ := h
  rcases h2 with ⟨h2, _⟩ | ⟨g', cap', cur, hv, hb, hg, hn, hm, hs, ht⟩
  · simp at h2
  simp only [Value.slice.injEq, Option.some.injEq, Addr.mk.injEq, true_and, and_true] at hv
  obtain ⟨rfl, rfl⟩ := hv
  have hl : xs.length = n := by simpa using h1
  have hd : (xs.drop (i + 1)).length = n - (i + 1) := by rw [List.length_drop, hl]
  have hsz : cur.size = cap := by simpa using hs
  have e1 := setCells_heap g (xs.drop (i + 1)) i w.drew cur e hg (by omega)
  have e2 := setCells_heap g (List.replicate (n - (i + (n - (i + 1)))) z) (i + (n - (i + 1))) _ _ e e1 (by rw [over_size _ _ _ (by omega)]; simp; omega)
  refine ⟨⟨by simp [del_length xs i (by omega), hl], .inr ⟨g, cap, _, by rw [show i + (n - (i + 1)) = n - 1 by omega], hb, e2, by omega, hm, ?_, ?_⟩⟩, ((Touch.drewN [g] w 1).trans (setCells_touch g _ _ _)).trans (setCells_touch g _ _ _)⟩
  · rw [over_size _ _ _ (by rw [over_size _ _ _ (by omega)]; simp; omega), over_size _ _ _ (by omega)]; exact hs
  · refine take_eq_of (by simp [del_length xs i (by omega), hl]) (fun j hj => ?_)
    rw [over_get _ _ _ (by rw [over_size _ _ _ (by omega)]; simp; omega), if_pos (by omega), over_get _ _ _ (by omega), del_get _ _ _ (by omega)]
    by_cases h3 : j < i
    · rw [if_pos h3, if_pos h3, ← ht, List.getElem?_take, if_pos (by omega), Array.getElem?_toList]
    · rw [if_neg h3, if_neg h3, if_pos (by omega), List.getElem?_drop]
      congr 1; omega

set_option maxHeartbeats 1000000 in
theorem dropI_no (b base p : Nat) (k : Int) (ks : List Int) (vs : List Int) (F : List Nat) (w : World) (h : ITab w base b ks vs F) (hlen : ks.length < 1000000) (hp : CutAt ltI ks k p) (hf : ks[p]? ≠ some k) :
    Calls Tryz.prog 58 #[.pointer (some ⟨b, 0, none⟩), .int .i64 k] w fun e w' => e = .returned (.bool false) ∧ w' = w := by
  obtain ⟨vk, vv, hh, hb, hk, hv, hl, hs, rfl⟩ := h
  have hc0 := heap_cell hh 0
  simp only [List.getElem?_toArray, List.getElem?_cons_zero] at hc0
  have hpl' := placeI_at base p vk ks k w hk hs hlen hp false (by simp [hf])
  clear hh hl hf
  go_enter Tryz.func58, Tryz.ntmps58
  go_wp2_with fail
  refine hpl'.mono ?_
  rintro e w' ⟨rfl, rfl⟩
  go_wp2
  go_ret
  exact ⟨rfl, rfl⟩

set_option maxHeartbeats 1000000 in
theorem getI_no (b base p : Nat) (k : Int) (ks : List Int) (vs : List Int) (F : List Nat) (w : World) (h : ITab w base b ks vs F) (hlen : ks.length < 1000000) (hp : CutAt ltI ks k p) (hf : ks[p]? ≠ some k) :
    Calls Tryz.prog 56 #[.pointer (some ⟨b, 0, none⟩), .int .i64 k] w fun e w' => e = .returned (.tuple #[.int .u64 0, .bool false]) ∧ w' = w := by
  obtain ⟨vk, vv, hh, hb, hk, hv, hl, hs, rfl⟩ := h
  have hc0 := heap_cell hh 0
  simp only [List.getElem?_toArray, List.getElem?_cons_zero] at hc0
  have hpl' := placeI_at base p vk ks k w hk hs hlen hp false (by simp [hf])
  clear hh hl hf
  go_enter Tryz.func56, Tryz.ntmps56
  go_wp2_with fail
  refine hpl'.mono ?_
  rintro e w' ⟨rfl, rfl⟩
  go_wp2
  go_ret2
  exact ⟨rfl, rfl⟩

theorem delX_casts (p : Nat) : ((p + 1 : Nat) : Int) = (p : Int) + 1 := by omega

/-- Delete of one number, over a row of the call's own. -/
theorem delI_own (base g n cap p : Nat) (xs : List Int) (w : World) (hr : w.ownsRow base 3 1 (.slice (some ⟨g, 0, none⟩) n cap) n (ints xs)) (hp : p < n) :
    Calls Tryz.prog 91 #[.slice (some ⟨g, 0, none⟩) n cap, .int .i64 p, .int .i64 ((p : Int) + 1)] w fun e w' => e = .returned (.slice (some ⟨g, 0, none⟩) (n - 1) cap) ∧ w'.ownsRow base 3 1 (.slice (some ⟨g, 0, none⟩) (n - 1) cap) (n - 1) (ints (del xs p)) ∧ Touch [g] w w' := by
  obtain ⟨hl, hn, hm, hcs, hsp, hfz, hsh⟩ := row_facts hr
  simp only [Nat.zero_add] at hcs hsp hfz
  have h := delI_core g n cap p (p + 1) (ints xs) w hl hcs hfz (by simp [Value.oneCell']) (by omega) (by omega) hn (by simpa [maxLen] using hm)
  rw [delX_casts] at h
  refine h.mono ?_
  rintro e w' ⟨rfl, rfl⟩
  have h2 := own_del (i := p) (z := .int .i64 0) hr hp
  rw [show p + (n - (p + 1)) = n - 1 by omega] at h2 ⊢
  rw [← del_map] at h2
  exact ⟨rfl, h2⟩

theorem delU_own (base g n cap p : Nat) (xs : List Int) (w : World) (hr : w.ownsRow base 29 1 (.slice (some ⟨g, 0, none⟩) n cap) n (u64s xs)) (hp : p < n) :
    Calls Tryz.prog 92 #[.slice (some ⟨g, 0, none⟩) n cap, .int .i64 p, .int .i64 ((p : Int) + 1)] w fun e w' => e = .returned (.slice (some ⟨g, 0, none⟩) (n - 1) cap) ∧ w'.ownsRow base 29 1 (.slice (some ⟨g, 0, none⟩) (n - 1) cap) (n - 1) (u64s (del xs p)) ∧ Touch [g] w w' := by
  obtain ⟨hl, hn, hm, hcs, hsp, hfz, hsh⟩ := row_facts hr
  simp only [Nat.zero_add] at hcs hsp hfz
  have h := delU_core g n cap p (p + 1) (u64s xs) w hl hcs hfz (by simp [Value.oneCell']) (by omega) (by omega) hn (by simpa [maxLen] using hm)
  rw [delX_casts] at h
  refine h.mono ?_
  rintro e w' ⟨rfl, rfl⟩
  have h2 := own_del (i := p) (z := .int .u64 0) hr hp
  rw [show p + (n - (p + 1)) = n - 1 by omega] at h2 ⊢
  rw [← del_map] at h2
  exact ⟨rfl, h2⟩

set_option maxHeartbeats 2000000 in
theorem dropI_core (b base g g' cap cap' p n : Nat) (k : Int) (ks : List Int) (vs : List Int) (w : World) (hh : w.heap[b]? = some (.cells #[.slice (some ⟨g, 0, none⟩) n cap, .slice (some ⟨g', 0, none⟩) n cap'] 127 (0, 0)))
    (hk : w.ownsRow base 3 1 (.slice (some ⟨g, 0, none⟩) n cap) n (ints ks)) (hv : w.ownsRow base 29 1 (.slice (some ⟨g', 0, none⟩) n cap') n (u64s vs)) (hlen : n < 1000000) (hpn : p < n)
    (hpl : Calls Tryz.prog 87 #[.slice (some ⟨g, 0, none⟩) n cap, .int .i64 k] w fun e w' => e = .returned (.tuple #[.int .i64 p, .bool true]) ∧ w' = w) :
    Calls Tryz.prog 58 #[.pointer (some ⟨b, 0, none⟩), .int .i64 k] w fun e w' => e = .returned (.bool true) ∧ w'.heap[b]? = some (.cells #[.slice (some ⟨g, 0, none⟩) (n - 1) cap, .slice (some ⟨g', 0, none⟩) (n - 1) cap'] 127 (0, 0)) ∧
      w'.ownsRow base 3 1 (.slice (some ⟨g, 0, none⟩) (n - 1) cap) (n - 1) (ints (del ks p)) ∧ w'.ownsRow base 29 1 (.slice (some ⟨g', 0, none⟩) (n - 1) cap') (n - 1) (u64s (del vs p)) ∧ Touch [b, g, g'] w w' := by
  have hbg : b ≠ g := fun e => absurd (by simp [Value.ownBlock, e]) (row_ne hh hk)
  have hbg' : b ≠ g' := fun e => absurd (by simp [Value.ownBlock, e]) (row_ne hh hv)
  have hgg : g' ≠ g := fun e => rows_ne hv hk (by decide) g' rfl (by simp [Value.ownBlock, e])
  have hc0 := heap_cell hh 0
  simp only [List.getElem?_toArray, List.getElem?_cons_zero] at hc0
  have hd1 := delI_own base g n cap p ks w hk hpn
  have Hh : Hid (w.heap[b]? = some (.cells #[.slice (some ⟨g, 0, none⟩) n cap, .slice (some ⟨g', 0, none⟩) n cap'] 127 (0, 0))) := hh
  clear hh
  go_enter Tryz.func58, Tryz.ntmps58
  go_wp2_with fail
  refine hpl.mono ?_
  rintro e w' ⟨rfl, rfl⟩
  go_wp2_with fail
  refine hd1.mono ?_
  rintro e w1 ⟨rfl, hk1, ht1⟩
  have hh1 := (ht1.block b (heap_lt Hh.out) (by simpa using hbg)).trans Hh.out
  have c0 := heap_cell hh1 0
  have z0 := heap_frozen hh1 0
  have c1 := heap_cell hh1 1
  have z1 := heap_frozen hh1 1
  simp only [List.getElem?_toArray, List.getElem?_cons_zero, List.getElem?_cons_succ] at c0 c1
  have hv1 := row_keep hv ht1 (fun q hq hm => by simp [Value.ownBlock] at hq hm; omega)
  have hk2 : (w1.setCell ⟨b, 0, none⟩ (.slice (some ⟨g, 0, none⟩) (n - 1) cap)).ownsRow base 3 1 (.slice (some ⟨g, 0, none⟩) (n - 1) cap) (n - 1) (ints (del ks p)) := ownsRow_setOther hk1 (by simp [Value.ownBlock, hbg]) _
  have hv2 : (w1.setCell ⟨b, 0, none⟩ (.slice (some ⟨g, 0, none⟩) (n - 1) cap)).ownsRow base 29 1 (.slice (some ⟨g', 0, none⟩) n cap') n (u64s vs) := ownsRow_setOther hv1 (by simp [Value.ownBlock, hbg']) _
  have hd2 := delU_own base g' n cap' p vs _ hv2 hpn
  have Hh2 : Hid ((w1.setCell ⟨b, 0, none⟩ (.slice (some ⟨g, 0, none⟩) (n - 1) cap)).heap[b]? = some (.cells #[.slice (some ⟨g, 0, none⟩) (n - 1) cap, .slice (some ⟨g', 0, none⟩) n cap'] 127 (0, 0))) := heap_set hh1 0 _
  clear hd1 hpl hh1 hc0
  go_wp2_with fail
  refine hd2.mono ?_
  rintro e w3 ⟨rfl, hv3, ht3⟩
  have hh3 := (ht3.block b (heap_lt Hh2.out) (by simpa using hbg')).trans Hh2.out
  have d1 := heap_cell hh3 1
  have y1 := heap_frozen hh3 1
  simp only [List.getElem?_toArray, List.getElem?_cons_zero, List.getElem?_cons_succ] at d1
  have hk3 := row_keep hk2 ht3 (fun q hq hm => by simp [Value.ownBlock] at hq hm; omega)
  have Hh3 : Hid (w3.heap[b]? = some (.cells #[.slice (some ⟨g, 0, none⟩) (n - 1) cap, .slice (some ⟨g', 0, none⟩) n cap'] 127 (0, 0))) := hh3
  clear hh3 hd2
  go_wp2
  go_ret
  refine ⟨rfl, heap_set Hh3.out 1 _, ownsRow_setOther hk3 (by simp [Value.ownBlock, hbg]) _, ownsRow_setOther hv3 (by simp [Value.ownBlock, hbg']) _, ?_⟩
  exact ((ht1.mono (by simp)).trans (Touch.setCell _ _ _ (by simp))).trans ((ht3.mono (by simp)).trans (Touch.setCell _ _ _ (by simp)))

theorem dropI_yes (b base p : Nat) (k : Int) (ks : List Int) (vs : List Int) (F : List Nat) (w : World) (h : ITab w base b ks vs F) (hlen : ks.length < 1000000) (hp : CutAt ltI ks k p) (hf : ks[p]? = some k) :
    Calls Tryz.prog 58 #[.pointer (some ⟨b, 0, none⟩), .int .i64 k] w fun e w' => e = .returned (.bool true) ∧ ITab w' base b (del ks p) (del vs p) F ∧ Touch F w w' := by
  obtain ⟨vk, vv, hh, hb, hk, hv, hl, hs, rfl⟩ := h
  have hpl : p < ks.length := (List.getElem?_eq_some_iff.1 hf).1
  rcases hk.2 with ⟨_, h0⟩ | ⟨g, cap, cur, rfl, _⟩
  · omega
  rcases hv.2 with ⟨_, h0⟩ | ⟨g', cap', cur', rfl, _⟩
  · omega
  rw [hl] at hh hv
  refine (dropI_core b base g g' cap cap' p ks.length k ks vs w hh hk hv hlen hpl (placeI_at base p _ ks k w hk hs hlen hp true (by simp [hf]))).mono ?_
  rintro e w' ⟨rfl, hh', hk', hv', ht⟩
  refine ⟨rfl, ⟨_, _, hh', hb, ?_, ?_, ?_, hs.del p hpl, by simp [Value.ownBlock]⟩, ht.mono (fun q hq => .inl (by simp at hq; simp [Value.ownBlock, hq]))⟩
  · rw [del_length _ _ hpl]; exact hk'
  · rw [del_length _ _ (by omega), hl]; exact hv'
  · rw [del_length _ _ hpl, del_length _ _ (by omega), hl]

set_option maxHeartbeats 1000000 in
theorem getI_core (b g g' cap cap' n p : Nat) (k : Int) (x : Int) (w : World) (hc0 : w.cell? ⟨b, 0, none⟩ = some (.slice (some ⟨g, 0, none⟩) n cap)) (hc1 : w.cell? ⟨b, 1, none⟩ = some (.slice (some ⟨g', 0, none⟩) n cap'))
    (hpl : Calls Tryz.prog 87 #[.slice (some ⟨g, 0, none⟩) n cap, .int .i64 k] w fun e w' => e = .returned (.tuple #[.int .i64 p, .bool true]) ∧ w' = w) (hpn : p < n) (hlen : n < 1000000) (hv : w.cell? ⟨g', p, none⟩ = some (.int .u64 x)) :
    Calls Tryz.prog 56 #[.pointer (some ⟨b, 0, none⟩), .int .i64 k] w fun e w' => e = .returned (.tuple #[.int .u64 x, .bool true]) ∧ w' = w := by
  have hpi : (p : Int) < (n : Int) := by omega
  go_enter Tryz.func56, Tryz.ntmps56
  go_wp2_with fail
  refine hpl.mono ?_
  rintro e w' ⟨rfl, rfl⟩
  go_wp2
  go_ret2
  exact ⟨rfl, rfl⟩

end Go.Proofs.YtcjblafohfiiaabGreat
