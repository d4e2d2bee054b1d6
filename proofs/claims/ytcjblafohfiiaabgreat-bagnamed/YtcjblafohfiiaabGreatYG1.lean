/-
  The document's table: find, Get, Set.
-/
import Derived.Test.YtcjblafohfiiaabGreatPm
import Derived.Test.YtcjblafohfiiaabGreatSo
import Derived.Test.YtcjblafohfiiaabGreatXSt
import Derived.Test.YtcjblafohfiiaabGreatYcmp
import Derived.Deep.CutRange
set_option linter.unusedVariables false
namespace Go.Proofs.YtcjblafohfiiaabGreat.Nd
open Go.RowKit Go.Shelf

/-- The document's table in block b. -/
def Rf (W : World) (base b : Nat) (kr : List ByteArray) (vr : List Int) (F : List Nat) : Prop :=
  ∃ vk vv : Value, W.heap[b]? = some (.cells #[vk, vv] 74 (0, 0)) ∧ base ≤ b ∧ W.ownsRow base 9 1 vk kr.length (strs kr) ∧ W.ownsRow base 3 1 vv vr.length (ints vr) ∧ vr.length = kr.length ∧ F = b :: (vk.ownBlock.toList ++ vv.ownBlock.toList)

theorem Rf.mem {W : World} {base b : Nat} {ks : List ByteArray} {vs : List Int} {F : List Nat} (h : Rf W base b ks vs F) : ∀ k, k ∈ F → base ≤ k ∧ k < W.heap.size := by
  obtain ⟨vk, vv, hh, hb, hk, hv, _, rfl⟩ := h
  intro k hm
  rcases List.mem_cons.1 hm with rfl | hm
  · exact ⟨hb, heap_lt hh⟩
  · rcases List.mem_append.1 hm with hm | hm
    · exact hk.lt k (by simpa using hm)
    · exact hv.lt k (by simpa using hm)

theorem Rf.keep {W W' : World} {base b : Nat} {ks : List ByteArray} {vs : List Int} {F G : List Nat} (h : Rf W base b ks vs F) (ht : Touch G W W') (ha : Apart F G) : Rf W' base b ks vs F := by
  obtain ⟨vk, vv, hh, hb, hk, hv, h1, rfl⟩ := h
  refine ⟨vk, vv, ?_, hb, row_keep hk ht (fun k hm => ha k (by simp [hm])), row_keep hv ht (fun k hm => ha k (by simp [hm])), h1, rfl⟩
  rw [ht.block b (heap_lt hh) (ha b (by simp))]; exact hh

/-- A slice value that reads as a list. -/
theorem row_sl {w : World} {base n e : Nat} {v : Value} {xs : List Value} (h : w.ownsRow base e 1 v n xs) : ∃ a cap, v = .slice a n cap ∧ ∀ (j : Nat) x, xs[j]? = some x → ∃ g, a = some ⟨g, 0, none⟩ ∧ w.cell? ⟨g, j, none⟩ = some x ∧ w.frozen? ⟨g, j, none⟩ = false := by
  have hl := h.1
  rcases id h.2 with ⟨rfl, rfl⟩ | ⟨g, cap, cur, rfl, _⟩
  · exact ⟨_, _, rfl, fun j x hj => by have := (List.getElem?_eq_some_iff.1 hj).1; omega⟩
  · refine ⟨_, _, rfl, fun j x hj => ⟨g, rfl, ?_, h.frozenAt j⟩⟩
    have := (List.getElem?_eq_some_iff.1 hj).1
    rw [h.cellAt _ (by omega)]; exact hj

set_option maxRecDepth 20000 in
set_option maxHeartbeats 2000000 in
/-- find: where the key stands, or -1. -/
theorem find_any (b base : Nat) (k : ByteArray) (kr : List ByteArray) (vr : List Int) (F : List Nat) (w : World) (h : Rf w base b kr vr F) (hlen : kr.length < 1000000) :
    Calls Tryz.prog 98 #[.pointer (some ⟨b, 0, none⟩), .string k] w fun e w' => w' = w ∧ ((∃ j : Nat, kr[j]? = some k ∧ e = .returned (.int .i64 j)) ∨ ((∀ j : Nat, kr[j]? ≠ some k) ∧ e = .returned (.int .i64 (-1)))) := by
  obtain ⟨vk, vv, hh, hb, hk, hv, hl, rfl⟩ := h
  have hc0 := heap_cell hh 0
  simp only [List.getElem?_toArray, List.getElem?_cons_zero] at hc0
  obtain ⟨a, cap, rfl, hcell⟩ := row_sl hk
  have Hcell : Hid (∀ (j : Nat) x, (strs kr)[j]? = some x → ∃ g, a = some ⟨g, 0, none⟩ ∧ w.cell? ⟨g, j, none⟩ = some x ∧ w.frozen? ⟨g, j, none⟩ = false) := hcell
  clear hcell hh hk hv
  go_enter Tryz.func98, Tryz.ntmps98
  go_wp2
  go_loopw [5] (fun i wr => ∃ k' : Nat, k' ≤ kr.length ∧ i = .int .i64 k' ∧ wr = w ∧ Hid (∀ j : Nat, j < k' → kr[j]? ≠ some k)) (fun i _ => kr.length - (intOf i).toNat)
  case atStart => exact ⟨0, Nat.zero_le _, rfl, rfl, fun j hj => by omega⟩
  case round =>
    obtain ⟨i, hi, rfl, hwr, hno⟩ := hrel
    subst hwr
    by_cases hlt : i < kr.length
    · obtain ⟨x, hx⟩ : ∃ x, kr[i]? = some x := ⟨_, List.getElem?_eq_getElem hlt⟩
      obtain ⟨g, rfl, hcx, -⟩ := Hcell.out i (.string x) (by simp [hx])
      have hii : (i : Int) < (kr.length : Int) := by omega
      by_cases he : x = k
      · subst he
        have Hx : Hid (kr[i]? = some x) := hx
        clear hx
        go_wp2
        go_ret
        exact ⟨rfl, .inl ⟨i, Hx.out, rfl⟩⟩
      · have hne := neq he
        have Hx : Hid (∀ j : Nat, j < i + 1 → kr[j]? ≠ some k) := fun j hj e => by
          rcases Nat.lt_or_ge j i with h1 | h1
          · exact hno.out j h1 e
          · obtain rfl : j = i := by omega
            rw [hx] at e; cases e; exact he rfl
        clear hx
        go_wp2
        go_roundw
        case rel => exact ⟨i + 1, hlt, by go_num, by first | rfl | trivial, Hx⟩
        case measure => simp [intOf]; omega
    · obtain rfl : i = kr.length := by omega
      go_wp2
      go_ret
      exact ⟨rfl, .inr ⟨fun j e => hno.out j (List.getElem?_eq_some_iff.1 e).1 e, rfl⟩⟩

set_option maxHeartbeats 1000000 in
theorem rget_no (b base : Nat) (k : ByteArray) (kr : List ByteArray) (vr : List Int) (F : List Nat) (w : World) (h : Rf w base b kr vr F) (hlen : kr.length < 1000000) (hn : ∀ j : Nat, kr[j]? ≠ some k) :
    Calls Tryz.prog 67 #[.pointer (some ⟨b, 0, none⟩), .string k] w fun e w' => e = .returned (.tuple #[.int .i64 0, .bool false]) ∧ w' = w := by
  have hf := find_any b base k kr vr F w h hlen
  go_enter Tryz.func67, Tryz.ntmps67
  go_wp2_with fail
  refine hf.mono ?_
  rintro e w' ⟨hw, ⟨j, h1, h2⟩ | ⟨h1, h2⟩⟩
  · exact absurd h1 (hn j)
  subst hw h2
  clear hf h
  go_wp2
  go_ret2
  exact ⟨rfl, rfl⟩

set_option maxHeartbeats 1000000 in
theorem rget_yes (b base j : Nat) (k : ByteArray) (x : Int) (kr : List ByteArray) (vr : List Int) (F : List Nat) (w : World) (h : Rf w base b kr vr F) (hlen : kr.length < 1000000) (hd : Dst kr) (hj : kr[j]? = some k) (hx : vr[j]? = some x) :
    Calls Tryz.prog 67 #[.pointer (some ⟨b, 0, none⟩), .string k] w fun e w' => e = .returned (.tuple #[.int .i64 x, .bool true]) ∧ w' = w := by
  have hf := find_any b base k kr vr F w h hlen
  obtain ⟨vk, vv, hh, hb, hk, hv, hl, rfl⟩ := h
  have hc1 := heap_cell hh 1
  simp only [List.getElem?_toArray, List.getElem?_cons_zero, List.getElem?_cons_succ] at hc1
  obtain ⟨a, cap, rfl, hcell⟩ := row_sl hv
  obtain ⟨g, rfl, hcx, -⟩ := hcell j (.int .i64 x) (by simp [hx])
  have hjl : j < vr.length := (List.getElem?_eq_some_iff.1 hx).1
  have hji : (j : Int) < (vr.length : Int) := by omega
  have hjz : ¬ (j : Int) < 0 := by omega
  clear hcell hh hk hv hx
  go_enter Tryz.func67, Tryz.ntmps67
  go_wp2_with fail
  refine hf.mono ?_
  rintro e w' ⟨hw, ⟨j', h1, h2⟩ | ⟨h1, h2⟩⟩
  · obtain rfl := hd _ _ _ hj h1
    subst hw h2
    clear hf hj h1
    go_wp2
    go_ret2
    exact ⟨rfl, rfl⟩
  · exact absurd hj (h1 j)

set_option maxHeartbeats 1000000 in
theorem rset_again (b base j : Nat) (k : ByteArray) (v : Int) (kr : List ByteArray) (vr : List Int) (F : List Nat) (w : World) (h : Rf w base b kr vr F) (hlen : kr.length < 1000000) (hd : Dst kr) (hj : kr[j]? = some k) :
    Calls Tryz.prog 65 #[.pointer (some ⟨b, 0, none⟩), .string k, .int .i64 v] w fun e w' => e = .returned (.bool false) ∧ Rf w' base b kr (vr.set j v) F ∧ Touch F w w' := by
  have hf := find_any b base k kr vr F w h hlen
  obtain ⟨vk, vv, hh, hb, hk, hv, hl, rfl⟩ := h
  have hjl : j < kr.length := (List.getElem?_eq_some_iff.1 hj).1
  obtain ⟨x, hx⟩ : ∃ x, vr[j]? = some x := ⟨_, List.getElem?_eq_getElem (by omega)⟩
  have hc1 := heap_cell hh 1
  simp only [List.getElem?_toArray, List.getElem?_cons_zero, List.getElem?_cons_succ] at hc1
  obtain ⟨a, cap, hvv, hcell⟩ := row_sl hv
  obtain ⟨g, ha, hcx, hfx⟩ := hcell j (.int .i64 x) (by simp [hx])
  subst ha hvv
  have hji : (j : Int) < (vr.length : Int) := by omega
  have hjz : (0 : Int) ≤ (j : Int) := by omega
  have hbg : b ≠ g := fun e => absurd (by simp [Value.ownBlock, e]) (row_ne hh hv)
  have hkg : some g ≠ vk.ownBlock := fun e => rows_ne hk hv (by decide) g e.symm rfl
  have Hfin : Hid (Rf (w.setCell ⟨g, j, none⟩ (.int .i64 v)) base b kr (vr.set j v) (b :: (vk.ownBlock.toList ++ (Value.slice (some ⟨g, 0, none⟩) vr.length cap).ownBlock.toList)) ∧ Touch (b :: (vk.ownBlock.toList ++ (Value.slice (some ⟨g, 0, none⟩) vr.length cap).ownBlock.toList)) w (w.setCell ⟨g, j, none⟩ (.int .i64 v))) := by
    refine ⟨⟨vk, .slice (some ⟨g, 0, none⟩) vr.length cap, ?_, hb, ownsRow_setOther hk hkg _, ?_, by simp [hl], rfl⟩, Touch.setCell _ _ _ (by simp [Value.ownBlock])⟩
    · rw [Below.heap_setCell _ _ _ _ (Ne.symm (Ne.symm hbg))]; exact hh
    · have h4 := (hv.stored j (.int .i64 v)).1
      have e3 : (ints vr).set j (.int .i64 v) = ints (vr.set j v) := by simp [List.map_set]
      rw [e3] at h4
      rw [List.length_set]
      exact h4
  clear hcell hh hk hv hx
  go_enter Tryz.func65, Tryz.ntmps65
  go_wp2_with fail
  refine hf.mono ?_
  rintro e w' ⟨hw, ⟨j', h1, h2⟩ | ⟨h1, h2⟩⟩
  · obtain rfl := hd _ _ _ hj h1
    subst hw h2
    clear hf hj h1
    go_wp2
    go_ret
    exact ⟨rfl, Hfin.out⟩
  · exact absurd hj (h1 j)

set_option maxHeartbeats 2000000 in
theorem rset_core (b base : Nat) (k : ByteArray) (v : Int) (vk vv : Value) (kr : List ByteArray) (vr : List Int) (w : World) (hf : Calls Tryz.prog 98 #[.pointer (some ⟨b, 0, none⟩), .string k] w fun e w' => w' = w ∧ e = .returned (.int .i64 (-1)))
    (hh : w.heap[b]? = some (.cells #[vk, vv] 74 (0, 0))) (hk : w.ownsRow base 9 1 vk kr.length (strs kr)) (hv : w.ownsRow base 3 1 vv vr.length (ints vr)) (hbase : base ≤ w.heap.size) (hlen : kr.length < 1000000) (hlen2 : vr.length < 1000000) :
    Calls Tryz.prog 65 #[.pointer (some ⟨b, 0, none⟩), .string k, .int .i64 v] w fun e w' => e = .returned (.bool true) ∧ ∃ vk' vv', w'.heap[b]? = some (.cells #[vk', vv'] 74 (0, 0)) ∧ w'.ownsRow base 9 1 vk' (kr.length + 1) (strs kr ++ [.string k]) ∧ w'.ownsRow base 3 1 vv' (vr.length + 1) (ints vr ++ [.int .i64 v]) ∧
      Touch (b :: (vk.ownBlock.toList ++ vv.ownBlock.toList)) w w' ∧ Newer w.heap.size (b :: (vk.ownBlock.toList ++ vv.ownBlock.toList)) (b :: (vk'.ownBlock.toList ++ vv'.ownBlock.toList)) := by
  have hc0 := heap_cell hh 0
  have hf0 := heap_frozen hh 0
  simp only [List.getElem?_toArray, List.getElem?_cons_zero] at hc0
  have hbl := heap_lt hh
  have hnk : some b ≠ vk.ownBlock := row_ne hh hk
  have hnv : some b ≠ vv.ownBlock := row_ne hh hv
  have hkv : ∀ q, vk.ownBlock = some q → vv.ownBlock ≠ some q := fun q hq => rows_ne hk hv (by decide) q hq
  obtain ⟨i0, hi, hz0, hz1, hz2⟩ := info_parts Tx.Tryz.infoStr
  obtain ⟨i1, hi', hy0, hy1, hy2⟩ := info_parts Tryz.infoInt
  go_enter Tryz.func65, Tryz.ntmps65
  go_wp2_with fail
  refine hf.mono ?_
  rintro e w' ⟨hw, he⟩
  subst hw he
  clear hf
  go_wp2_with (at_builtin; refine wpList_append_own_at _ rfl _ _ 72 rfl base 9 i0 (.string ⟨#[]⟩) 1 16 Tryz.underlying72 hi hz0 hz1 hz2 rfl (by decide) _ _ _ rfl (hk.alloc _) ⟨w'.heap.size, 0, none⟩ 1 1 [.string k] rfl rfl (cell_one_new _ _ _) (by simp [Value.oneCell']) (by simp [maxLen]; omega) (by omega) (by simp; omega) ?_)
  intro vk' w1 hown hgrow _ hat
  have hown2 := hown
  obtain ⟨gk, capk, rfl⟩ := ownsRow_succ hown
  have hh1 : w1.heap[b]? = some (.cells #[vk, vv] 74 (0, 0)) := by
    rw [hgrow.block b (by simp; omega) hnk]; exact (Below.heap_alloc w' _ b hbl).trans hh
  have ht1 : Touch vk.ownBlock.toList w' w1 := (Touch.alloc _ _ _).trans (Touch.grown hgrow (fun k hk => by simp [hk]))
  have hv1 : w1.ownsRow base 3 1 vv vr.length (ints vr) := row_keep hv ht1 (fun q hq hm => by
    simp at hm
    exact hkv q hm hq)
  have hnk' : some b ≠ (Value.slice (some ⟨gk, 0, none⟩) (kr.length + 1) capk).ownBlock := row_ne hh1 hown
  have c1 := heap_cell hh1 0
  have f1 := heap_frozen hh1 0
  simp only [List.getElem?_toArray, List.getElem?_cons_zero] at c1
  have hh2 := heap_set hh1 0 (.slice (some ⟨gk, 0, none⟩) (kr.length + 1) capk)
  have hk2 := ownsRow_setOther hown2 (a := ⟨b, 0, none⟩) hnk' (.slice (some ⟨gk, 0, none⟩) (kr.length + 1) capk)
  have hv2 := ownsRow_setOther hv1 (a := ⟨b, 0, none⟩) hnv (.slice (some ⟨gk, 0, none⟩) (kr.length + 1) capk)
  have ht2 : Touch (b :: vk.ownBlock.toList) w' (w1.setCell ⟨b, 0, none⟩ (.slice (some ⟨gk, 0, none⟩) (kr.length + 1) capk)) := (ht1.mono (fun k hk => .inl (by simp [hk]))).trans (Touch.setCell _ _ _ (by simp))
  have hatk : (Value.slice (some ⟨gk, 0, none⟩) (kr.length + 1) capk).ownBlock = vk.ownBlock ∨ (Value.slice (some ⟨gk, 0, none⟩) (kr.length + 1) capk).ownBlock = some (w'.heap.size + 1) := by simpa using hat
  have Hx : Hid (w1.setCell ⟨b, 0, none⟩ (.slice (some ⟨gk, 0, none⟩) (kr.length + 1) capk) = w1.setCell ⟨b, 0, none⟩ (.slice (some ⟨gk, 0, none⟩) (kr.length + 1) capk)) := rfl
  clear hh hc0 hf0 hk hv hown hown2 hgrow hat hh1 hv1 ht1
  go_upto_region 6 with fail
  generalize w1.setCell ⟨b, 0, none⟩ (.slice (some ⟨gk, 0, none⟩) (kr.length + 1) capk) = w2 at hh2 hk2 hv2 ht2 ⊢
  clear c1 f1
  have hh3 : w2.heap[b]? = some (.cells #[.slice (some ⟨gk, 0, none⟩) (kr.length + 1) capk, vv] 74 (0, 0)) := hh2
  clear hh2
  have d1 := heap_cell hh3 1
  simp only [List.getElem?_toArray, List.getElem?_cons_zero, List.getElem?_cons_succ] at d1
  have hbl2 := heap_lt hh3
  have hz2' : w'.heap.size ≤ w2.heap.size := ht2.size
  go_wp2_with (at_builtin; refine wpList_append_own_at _ rfl _ _ 68 rfl base 3 i1 (.int .i64 0) 1 8 Tryz.underlying68 hi' hy0 hy1 hy2 rfl (by decide) _ _ _ rfl (hv2.alloc _) ⟨w2.heap.size, 0, none⟩ 1 1 [.int .i64 v] rfl rfl (cell_one_new _ _ _) (by simp [Value.oneCell']) (by simp [maxLen]; omega) (by omega) (by simp; omega) ?_)
  intro vv' w4 hown hgrow _ hat
  have hown2 := hown
  obtain ⟨gv, capv, rfl⟩ := ownsRow_succ hown
  have hh4 : w4.heap[b]? = some (.cells #[.slice (some ⟨gk, 0, none⟩) (kr.length + 1) capk, vv] 74 (0, 0)) := by
    rw [hgrow.block b (by simp; omega) hnv]; exact (Below.heap_alloc w2 _ b hbl2).trans hh3
  have ht4 : Touch vv.ownBlock.toList w2 w4 := (Touch.alloc _ _ _).trans (Touch.grown hgrow (fun k hk => by simp [hk]))
  have hkv2 : ∀ q, (Value.slice (some ⟨gk, 0, none⟩) (kr.length + 1) capk).ownBlock = some q → vv.ownBlock ≠ some q := fun q hq => rows_ne hk2 hv2 (by decide) q hq
  have hk4 := row_keep hk2 ht4 (fun q hq hm => by
    simp at hm
    exact hkv2 q hq hm)
  have hnv' : some b ≠ (Value.slice (some ⟨gv, 0, none⟩) (vr.length + 1) capv).ownBlock := row_ne hh4 hown
  have c4 := heap_cell hh4 1
  have f4 := heap_frozen hh4 1
  simp only [List.getElem?_toArray, List.getElem?_cons_zero, List.getElem?_cons_succ] at c4
  have hatv : (Value.slice (some ⟨gv, 0, none⟩) (vr.length + 1) capv).ownBlock = vv.ownBlock ∨ (Value.slice (some ⟨gv, 0, none⟩) (vr.length + 1) capv).ownBlock = some (w2.heap.size + 1) := by simpa using hat
  have Hfin : Hid (∃ vk' vv', (w4.setCell ⟨b, 1, none⟩ (.slice (some ⟨gv, 0, none⟩) (vr.length + 1) capv)).heap[b]? = some (.cells #[vk', vv'] 74 (0, 0)) ∧ (w4.setCell ⟨b, 1, none⟩ (.slice (some ⟨gv, 0, none⟩) (vr.length + 1) capv)).ownsRow base 9 1 vk' (kr.length + 1) (strs kr ++ [.string k]) ∧ (w4.setCell ⟨b, 1, none⟩ (.slice (some ⟨gv, 0, none⟩) (vr.length + 1) capv)).ownsRow base 3 1 vv' (vr.length + 1) (ints vr ++ [.int .i64 v]) ∧
      Touch (b :: (vk.ownBlock.toList ++ vv.ownBlock.toList)) w' (w4.setCell ⟨b, 1, none⟩ (.slice (some ⟨gv, 0, none⟩) (vr.length + 1) capv)) ∧ Newer w'.heap.size (b :: (vk.ownBlock.toList ++ vv.ownBlock.toList)) (b :: (vk'.ownBlock.toList ++ vv'.ownBlock.toList))) := by
    refine ⟨_, _, heap_set hh4 1 _, ownsRow_setOther hk4 hnk' _, ownsRow_setOther hown2 hnv' _, ((ht2.mono (fun q hq => .inl ?_)).trans (ht4.mono (fun q hq => .inl ?_))).trans (Touch.setCell _ _ _ (by simp)), fun q hq => ?_⟩
    · simp only [List.mem_cons] at hq
      rcases hq with h | h
      · simp [h]
      · simp [h]
    · simp [hq]
    · rcases List.mem_cons.1 hq with rfl | hq
      · exact .inl (by simp)
      · rcases List.mem_append.1 hq with hq | hq
        · have hq' : (Value.slice (some ⟨gk, 0, none⟩) (kr.length + 1) capk).ownBlock = some q := by simpa using hq
          rcases hatk with e | e
          · exact .inl (by rw [e] at hq'; simp [hq'])
          · rw [e] at hq'; simp only [Option.some.injEq] at hq'; exact .inr (by omega)
        · have hq' : (Value.slice (some ⟨gv, 0, none⟩) (vr.length + 1) capv).ownBlock = some q := by simpa using hq
          rcases hatv with e | e
          · exact .inl (by rw [e] at hq'; simp [hq'])
          · rw [e] at hq'; simp only [Option.some.injEq] at hq'; exact .inr (by omega)
  clear hh3 hk2 hv2 ht2 hown hown2 hgrow hat hh4 ht4 hk4 d1 hatk hatv
  go_wp2
  go_ret
  exact ⟨rfl, Hfin.out⟩

theorem rset_fresh (b base : Nat) (k : ByteArray) (v : Int) (kr : List ByteArray) (vr : List Int) (F : List Nat) (w : World) (h : Rf w base b kr vr F) (hbase : base ≤ w.heap.size) (hlen : kr.length < 1000000) (hn : ∀ j : Nat, kr[j]? ≠ some k) :
    Calls Tryz.prog 65 #[.pointer (some ⟨b, 0, none⟩), .string k, .int .i64 v] w fun e w' => e = .returned (.bool true) ∧ ∃ F', Rf w' base b (kr ++ [k]) (vr ++ [v]) F' ∧ Touch F w w' ∧ Newer w.heap.size F F' := by
  have hf := find_any b base k kr vr F w h hlen
  obtain ⟨vk, vv, hh, hb, hk, hv, hl, rfl⟩ := h
  refine (rset_core b base k v vk vv kr vr w (hf.mono ?_) hh hk hv hbase hlen (by omega)).mono ?_
  · rintro e w' ⟨hw, ⟨j', h1, h2⟩ | ⟨h1, h2⟩⟩
    · exact absurd h1 (hn j')
    · exact ⟨hw, h2⟩
  · rintro e w' ⟨rfl, vk', vv', h1, h2, h3, h4, h5⟩
    refine ⟨rfl, _, ⟨vk', vv', h1, hb, ?_, ?_, by simp [hl], rfl⟩, h4, h5⟩
    · simpa using h2
    · simpa using h3

end Go.Proofs.YtcjblafohfiiaabGreat.Nd
