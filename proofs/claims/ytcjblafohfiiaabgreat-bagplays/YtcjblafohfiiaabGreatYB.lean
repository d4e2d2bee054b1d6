import Derived.Test.YtcjblafohfiiaabGreatSrt
import Derived.Test.YtcjblafohfiiaabGreatTB
import Derived.Test.YtcjblafohfiiaabGreatSo
import Derived.Test.YtcjblafohfiiaabGreatXSt
import Derived.Deep.CutRange
import Derived.Handy
import Derived.Test.YtcjblafohfiiaabGreatXA
import Derived.Test.YtcjblafohfiiaabGreatIn
import Derived.Test.YtcjblafohfiiaabGreatRu
/-
  Comparisons of texts as the model tells them.
-/
set_option linter.unusedVariables false
namespace Go.Proofs.YtcjblafohfiiaabGreat.Nd

theorem neq {x k : ByteArray} (h : ¬ x = k) : (x.toList == k.toList) = false := by
  cases e : (x.toList == k.toList) with
  | false => rfl
  | true => exact absurd (toList_inj x k (by simpa using e)) h

theorem both {x k : ByteArray} (h : ltS k x = true) : Op.bytesLess x.toList k.toList = false ∧ (x.toList == k.toList) = false := by
  refine ⟨?_, neq fun e => ?_⟩
  · cases e : Op.bytesLess x.toList k.toList with
    | false => rfl
    | true => have := sordS.trans _ _ _ h (show ltS x k = true from e); rw [sordS.irr] at this; cases this
  · subst e; rw [sordS.irr] at h; cases h

theorem either {x k : ByteArray} (h : ltS k x = false) : (Op.bytesLess x.toList k.toList = true ∧ (x.toList == k.toList) = false) ∨ (Op.bytesLess x.toList k.toList = false ∧ (x.toList == k.toList) = true) := by
  cases e : Op.bytesLess x.toList k.toList with
  | true => exact .inl ⟨rfl, neq fun e' => by subst e'; have := sordS.irr x; rw [show ltS x x = true from e] at this; cases this⟩
  | false =>
    have : x = k := sordS.tri x k e h
    subst this
    exact .inr ⟨rfl, by simp⟩

theorem leqF {k x : ByteArray} (h : ltS k x = true) : Op.bytesLess x.toList k.toList = false ∧ (x.toList == k.toList) = false := both h
theorem leqT {k x : ByteArray} (h : ltS k x = false) : (Op.bytesLess x.toList k.toList = true ∧ (x.toList == k.toList) = false) ∨ (Op.bytesLess x.toList k.toList = false ∧ (x.toList == k.toList) = true) := either h
theorem gtrT {y x : ByteArray} (h : ltS y x = true) : Op.bytesLess x.toList y.toList = false ∧ (x.toList == y.toList) = false := both h
theorem gtrF {y x : ByteArray} (h : ltS y x = false) : (Op.bytesLess x.toList y.toList = true ∧ (x.toList == y.toList) = false) ∨ (Op.bytesLess x.toList y.toList = false ∧ (x.toList == y.toList) = true) := either h
theorem lssT {x y : ByteArray} (h : ltS x y = true) : Op.bytesLess x.toList y.toList = true := h
theorem lssF {x y : ByteArray} (h : ltS x y = false) : Op.bytesLess x.toList y.toList = false := h

end Go.Proofs.YtcjblafohfiiaabGreat.Nd

/-
  The document's table: find, Get, Set.
-/
set_option linter.unusedVariables false
namespace Go.Proofs.YtcjblafohfiiaabGreat.Nd
open Go.RowKit Go.Shelf

/-- The document's table in block b. -/
def Rf (W : World) (base b : Nat) (kr : List ByteArray) (vr : List Int) (F : List Nat) : Prop :=
  ∃ vk vv : Value, W.heap[b]? = some (.cells #[vk, vv] 74 (0, 0)) ∧ base ≤ b ∧ W.ownsRow base 9 1 vk kr.length (strs kr) ∧ W.ownsRow base 3 1 vv vr.length (ints vr) ∧ vr.length = kr.length ∧ F = b :: (vk.ownBlock.toList ++ vv.ownBlock.toList)

theorem Rf.mem {W : World} {base b : Nat} {ks : List ByteArray} {vs : List Int} {F : List Nat} (h : Rf W base b ks vs F) : ∀ k, k ∈ F → base ≤ k ∧ k < W.heap.size := by
  obtain ⟨vk, vv, hh, hb, hk, hv, _, rfl⟩ := h
  intro k hm
  rcases List.mem_cons.1 hm with rfl | hm
  · exact ⟨hb, heap_lt hh⟩
  · rcases List.mem_append.1 hm with hm | hm
    · exact hk.lt k (by simpa using hm)
    · exact hv.lt k (by simpa using hm)

theorem Rf.keep {W W' : World} {base b : Nat} {ks : List ByteArray} {vs : List Int} {F G : List Nat} (h : Rf W base b ks vs F) (ht : Touch G W W') (ha : Apart F G) : Rf W' base b ks vs F := by
  obtain ⟨vk, vv, hh, hb, hk, hv, h1, rfl⟩ := h
  refine ⟨vk, vv, ?_, hb, row_keep hk ht (fun k hm => ha k (by simp [hm])), row_keep hv ht (fun k hm => ha k (by simp [hm])), h1, rfl⟩
  rw [ht.block b (heap_lt hh) (ha b (by simp))]; exact hh

/-- A slice value that reads as a list. -/
theorem row_sl {w : World} {base n e : Nat} {v : Value} {xs : List Value} (h : w.ownsRow base e 1 v n xs) : ∃ a cap, v = .slice a n cap ∧ ∀ (j : Nat) x, xs[j]? = some x → ∃ g, a = some ⟨g, 0, none⟩ ∧ w.cell? ⟨g, j, none⟩ = some x ∧ w.frozen? ⟨g, j, none⟩ = false := by
  have hl := h.1
  rcases id h.2 with ⟨rfl, rfl⟩ | ⟨g, cap, cur, rfl, _⟩
  · exact ⟨_, _, rfl, fun j x hj => by have := (List.getElem?_eq_some_iff.1 hj).1; omega⟩
  · refine ⟨_, _, rfl, fun j x hj => ⟨g, rfl, ?_, h.frozenAt j⟩⟩
    have := (List.getElem?_eq_some_iff.1 hj).1
    rw [h.cellAt _ (by omega)]; exact hj

set_option maxRecDepth 20000 in
set_option maxHeartbeats 2000000 in
/-- find: where the key stands, or -1. -/
theorem find_any (b base : Nat) (k : ByteArray) (kr : List ByteArray) (vr : List Int) (F : List Nat) (w : World) (h : Rf w base b kr vr F) (hlen : kr.length < 1000000) :
    Calls Tryz.prog 98 #[.pointer (some ⟨b, 0, none⟩), .string k] w fun e w' => w' = w ∧ ((∃ j : Nat, kr[j]? = some k ∧ e = .returned (.int .i64 j)) ∨ ((∀ j : Nat, kr[j]? ≠ some k) ∧ e = .returned (.int .i64 (-1)))) := by
  obtain ⟨vk, vv, hh, hb, hk, hv, hl, rfl⟩ := h
  have hc0 := heap_cell hh 0
  simp only [List.getElem?_toArray, List.getElem?_cons_zero] at hc0
  obtain ⟨a, cap, rfl, hcell⟩ := row_sl hk
  have Hcell : Hid (∀ (j : Nat) x, (strs kr)[j]? = some x → ∃ g, a = some ⟨g, 0, none⟩ ∧ w.cell? ⟨g, j, none⟩ = some x ∧ w.frozen? ⟨g, j, none⟩ = false) := hcell
  clear hcell hh hk hv
  go_enter Tryz.func98, Tryz.ntmps98
  go_wp2
  go_loopw [5] (fun i wr => ∃ k' : Nat, k' ≤ kr.length ∧ i = .int .i64 k' ∧ wr = w ∧ Hid (∀ j : Nat, j < k' → kr[j]? ≠ some k)) (fun i _ => kr.length - (intOf i).toNat)
  case atStart => exact ⟨0, Nat.zero_le _, rfl, rfl, fun j hj => by omega⟩
  case round =>
    obtain ⟨i, hi, rfl, hwr, hno⟩ := hrel
    subst hwr
    by_cases hlt : i < kr.length
    · obtain ⟨x, hx⟩ : ∃ x, kr[i]? = some x := ⟨_, List.getElem?_eq_getElem hlt⟩
      obtain ⟨g, rfl, hcx, -⟩ := Hcell.out i (.string x) (by simp [hx])
      have hii : (i : Int) < (kr.length : Int) := by omega
      by_cases he : x = k
      · subst he
        have Hx : Hid (kr[i]? = some x) := hx
        clear hx
        go_wp2
        go_ret
        exact ⟨rfl, .inl ⟨i, Hx.out, rfl⟩⟩
      · have hne := neq he
        have Hx : Hid (∀ j : Nat, j < i + 1 → kr[j]? ≠ some k) := fun j hj e => by
          rcases Nat.lt_or_ge j i with h1 | h1
          · exact hno.out j h1 e
          · obtain rfl : j = i := by omega
            rw [hx] at e; cases e; exact he rfl
        clear hx
        go_wp2
        go_roundw
        case rel => exact ⟨i + 1, hlt, by go_num, by first | rfl | trivial, Hx⟩
        case measure => simp [intOf]; omega
    · obtain rfl : i = kr.length := by omega
      go_wp2
      go_ret
      exact ⟨rfl, .inr ⟨fun j e => hno.out j (List.getElem?_eq_some_iff.1 e).1 e, rfl⟩⟩

set_option maxHeartbeats 1000000 in
theorem rget_no (b base : Nat) (k : ByteArray) (kr : List ByteArray) (vr : List Int) (F : List Nat) (w : World) (h : Rf w base b kr vr F) (hlen : kr.length < 1000000) (hn : ∀ j : Nat, kr[j]? ≠ some k) :
    Calls Tryz.prog 67 #[.pointer (some ⟨b, 0, none⟩), .string k] w fun e w' => e = .returned (.tuple #[.int .i64 0, .bool false]) ∧ w' = w := by
  have hf := find_any b base k kr vr F w h hlen
  go_enter Tryz.func67, Tryz.ntmps67
  go_wp2_with fail
  refine hf.mono ?_
  rintro e w' ⟨hw, ⟨j, h1, h2⟩ | ⟨h1, h2⟩⟩
  · exact absurd h1 (hn j)
  subst hw h2
  clear hf h
  go_wp2
  go_ret2
  exact ⟨rfl, rfl⟩

set_option maxHeartbeats 1000000 in
theorem rget_yes (b base j : Nat) (k : ByteArray) (x : Int) (kr : List ByteArray) (vr : List Int) (F : List Nat) (w : World) (h : Rf w base b kr vr F) (hlen : kr.length < 1000000) (hd : Dst kr) (hj : kr[j]? = some k) (hx : vr[j]? = some x) :
    Calls Tryz.prog 67 #[.pointer (some ⟨b, 0, none⟩), .string k] w fun e w' => e = .returned (.tuple #[.int .i64 x, .bool true]) ∧ w' = w := by
  have hf := find_any b base k kr vr F w h hlen
  obtain ⟨vk, vv, hh, hb, hk, hv, hl, rfl⟩ := h
  have hc1 := heap_cell hh 1
  simp only [List.getElem?_toArray, List.getElem?_cons_zero, List.getElem?_cons_succ] at hc1
  obtain ⟨a, cap, rfl, hcell⟩ := row_sl hv
  obtain ⟨g, rfl, hcx, -⟩ := hcell j (.int .i64 x) (by simp [hx])
  have hjl : j < vr.length := (List.getElem?_eq_some_iff.1 hx).1
  have hji : (j : Int) < (vr.length : Int) := by omega
  have hjz : ¬ (j : Int) < 0 := by omega
  clear hcell hh hk hv hx
  go_enter Tryz.func67, Tryz.ntmps67
  go_wp2_with fail
  refine hf.mono ?_
  rintro e w' ⟨hw, ⟨j', h1, h2⟩ | ⟨h1, h2⟩⟩
  · obtain rfl := hd _ _ _ hj h1
    subst hw h2
    clear hf hj h1
    go_wp2
    go_ret2
    exact ⟨rfl, rfl⟩
  · exact absurd hj (h1 j)

set_option maxHeartbeats 1000000 in
theorem rset_again (b base j : Nat) (k : ByteArray) (v : Int) (kr : List ByteArray) (vr : List Int) (F : List Nat) (w : World) (h : Rf w base b kr vr F) (hlen : kr.length < 1000000) (hd : Dst kr) (hj : kr[j]? = some k) :
    Calls Tryz.prog 65 #[.pointer (some ⟨b, 0, none⟩), .string k, .int .i64 v] w fun e w' => e = .returned (.bool false) ∧ Rf w' base b kr (vr.set j v) F ∧ Touch F w w' := by
  have hf := find_any b base k kr vr F w h hlen
  obtain ⟨vk, vv, hh, hb, hk, hv, hl, rfl⟩ := h
  have hjl : j < kr.length := (List.getElem?_eq_some_iff.1 hj).1
  obtain ⟨x, hx⟩ : ∃ x, vr[j]? = some x := ⟨_, List.getElem?_eq_getElem (by omega)⟩
  have hc1 := heap_cell hh 1
  simp only [List.getElem?_toArray, List.getElem?_cons_zero, List.getElem?_cons_succ] at hc1
  obtain ⟨a, cap, hvv, hcell⟩ := row_sl hv
  obtain ⟨g, ha, hcx, hfx⟩ := hcell j (.int .i64 x) (by simp [hx])
  subst ha hvv
  have hji : (j : Int) < (vr.length : Int) := by omega
  have hjz : (0 : Int) ≤ (j : Int) := by omega
  have hbg : b ≠ g := fun e => absurd (by simp [Value.ownBlock, e]) (row_ne hh hv)
  have hkg : some g ≠ vk.ownBlock := fun e => rows_ne hk hv (by decide) g e.symm rfl
  have Hfin : Hid (Rf (w.setCell ⟨g, j, none⟩ (.int .i64 v)) base b kr (vr.set j v) (b :: (vk.ownBlock.toList ++ (Value.slice (some ⟨g, 0, none⟩) vr.length cap).ownBlock.toList)) ∧ Touch (b :: (vk.ownBlock.toList ++ (Value.slice (some ⟨g, 0, none⟩) vr.length cap).ownBlock.toList)) w (w.setCell ⟨g, j, none⟩ (.int .i64 v))) := by
    refine ⟨⟨vk, .slice (some ⟨g, 0, none⟩) vr.length cap, ?_, hb, ownsRow_setOther hk hkg _, ?_, by simp [hl], rfl⟩, Touch.setCell _ _ _ (by simp [Value.ownBlock])⟩
    · rw [Below.heap_setCell _ _ _ _ (Ne.symm (Ne.symm hbg))]; exact hh
    · have h4 := (hv.stored j (.int .i64 v)).1
      have e3 : (ints vr).set j (.int .i64 v) = ints (vr.set j v) := by simp [List.map_set]
      rw [e3] at h4
      rw [List.length_set]
      exact h4
  clear hcell hh hk hv hx
  go_enter Tryz.func65, Tryz.ntmps65
  go_wp2_with fail
  refine hf.mono ?_
  rintro e w' ⟨hw, ⟨j', h1, h2⟩ | ⟨h1, h2⟩⟩
  · obtain rfl := hd _ _ _ hj h1
    subst hw h2
    clear hf hj h1
    go_wp2
    go_ret
    exact ⟨rfl, Hfin.out⟩
  · exact absurd hj (h1 j)

set_option maxHeartbeats 2000000 in
theorem rset_core (b base : Nat) (k : ByteArray) (v : Int) (vk vv : Value) (kr : List ByteArray) (vr : List Int) (w : World) (hf : Calls Tryz.prog 98 #[.pointer (some ⟨b, 0, none⟩), .string k] w fun e w' => w' = w ∧ e = .returned (.int .i64 (-1)))
    (hh : w.heap[b]? = some (.cells #[vk, vv] 74 (0, 0))) (hk : w.ownsRow base 9 1 vk kr.length (strs kr)) (hv : w.ownsRow base 3 1 vv vr.length (ints vr)) (hbase : base ≤ w.heap.size) (hlen : kr.length < 1000000) (hlen2 : vr.length < 1000000) :
    Calls Tryz.prog 65 #[.pointer (some ⟨b, 0, none⟩), .string k, .int .i64 v] w fun e w' => e = .returned (.bool true) ∧ ∃ vk' vv', w'.heap[b]? = some (.cells #[vk', vv'] 74 (0, 0)) ∧ w'.ownsRow base 9 1 vk' (kr.length + 1) (strs kr ++ [.string k]) ∧ w'.ownsRow base 3 1 vv' (vr.length + 1) (ints vr ++ [.int .i64 v]) ∧
      Touch (b :: (vk.ownBlock.toList ++ vv.ownBlock.toList)) w w' ∧ Newer w.heap.size (b :: (vk.ownBlock.toList ++ vv.ownBlock.toList)) (b :: (vk'.ownBlock.toList ++ vv'.ownBlock.toList)) := by
  have hc0 := heap_cell hh 0
  have hf0 := heap_frozen hh 0
  simp only [List.getElem?_toArray, List.getElem?_cons_zero] at hc0
  have hbl := heap_lt hh
  have hnk : some b ≠ vk.ownBlock := row_ne hh hk
  have hnv : some b ≠ vv.ownBlock := row_ne hh hv
  have hkv : ∀ q, vk.ownBlock = some q → vv.ownBlock ≠ some q := fun q hq => rows_ne hk hv (by decide) q hq
  obtain ⟨i0, hi, hz0, hz1, hz2⟩ := info_parts Tx.Tryz.infoStr
  obtain ⟨i1, hi', hy0, hy1, hy2⟩ := info_parts Tryz.infoInt
  go_enter Tryz.func65, Tryz.ntmps65
  go_wp2_with fail
  refine hf.mono ?_
  rintro e w' ⟨hw, he⟩
  subst hw he
  clear hf
  go_wp2_with (at_builtin; refine wpList_append_own_at _ rfl _ _ 72 rfl base 9 i0 (.string ⟨#[]⟩) 1 16 Tryz.underlying72 hi hz0 hz1 hz2 rfl (by decide) _ _ _ rfl (hk.alloc _) ⟨w'.heap.size, 0, none⟩ 1 1 [.string k] rfl rfl (cell_one_new _ _ _) (by simp [Value.oneCell']) (by simp [maxLen]; omega) (by omega) (by simp; omega) ?_)
  intro vk' w1 hown hgrow _ hat
  have hown2 := hown
  obtain ⟨gk, capk, rfl⟩ := ownsRow_succ hown
  have hh1 : w1.heap[b]? = some (.cells #[vk, vv] 74 (0, 0)) := by
    rw [hgrow.block b (by simp; omega) hnk]; exact (Below.heap_alloc w' _ b hbl).trans hh
  have ht1 : Touch vk.ownBlock.toList w' w1 := (Touch.alloc _ _ _).trans (Touch.grown hgrow (fun k hk => by simp [hk]))
  have hv1 : w1.ownsRow base 3 1 vv vr.length (ints vr) := row_keep hv ht1 (fun q hq hm => by
    simp at hm
    exact hkv q hm hq)
  have hnk' : some b ≠ (Value.slice (some ⟨gk, 0, none⟩) (kr.length + 1) capk).ownBlock := row_ne hh1 hown
  have c1 := heap_cell hh1 0
  have f1 := heap_frozen hh1 0
  simp only [List.getElem?_toArray, List.getElem?_cons_zero] at c1
  have hh2 := heap_set hh1 0 (.slice (some ⟨gk, 0, none⟩) (kr.length + 1) capk)
  have hk2 := ownsRow_setOther hown2 (a := ⟨b, 0, none⟩) hnk' (.slice (some ⟨gk, 0, none⟩) (kr.length + 1) capk)
  have hv2 := ownsRow_setOther hv1 (a := ⟨b, 0, none⟩) hnv (.slice (some ⟨gk, 0, none⟩) (kr.length + 1) capk)
  have ht2 : Touch (b :: vk.ownBlock.toList) w' (w1.setCell ⟨b, 0, none⟩ (.slice (some ⟨gk, 0, none⟩) (kr.length + 1) capk)) := (ht1.mono (fun k hk => .inl (by simp [hk]))).trans (Touch.setCell _ _ _ (by simp))
  have hatk : (Value.slice (some ⟨gk, 0, none⟩) (kr.length + 1) capk).ownBlock = vk.ownBlock ∨ (Value.slice (some ⟨gk, 0, none⟩) (kr.length + 1) capk).ownBlock = some (w'.heap.size + 1) := by simpa using hat
  have Hx : Hid (w1.setCell ⟨b, 0, none⟩ (.slice (some ⟨gk, 0, none⟩) (kr.length + 1) capk) = w1.setCell ⟨b, 0, none⟩ (.slice (some ⟨gk, 0, none⟩) (kr.length + 1) capk)) := rfl
  clear hh hc0 hf0 hk hv hown hown2 hgrow hat hh1 hv1 ht1
  go_upto_region 6 with fail
  generalize w1.setCell ⟨b, 0, none⟩ (.slice (some ⟨gk, 0, none⟩) (kr.length + 1) capk) = w2 at hh2 hk2 hv2 ht2 ⊢
  clear c1 f1
  have hh3 : w2.heap[b]? = some (.cells #[.slice (some ⟨gk, 0, none⟩) (kr.length + 1) capk, vv] 74 (0, 0)) := hh2
  clear hh2
  have d1 := heap_cell hh3 1
  simp only [List.getElem?_toArray, List.getElem?_cons_zero, List.getElem?_cons_succ] at d1
  have hbl2 := heap_lt hh3
  have hz2' : w'.heap.size ≤ w2.heap.size := ht2.size
  go_wp2_with (at_builtin; refine wpList_append_own_at _ rfl _ _ 68 rfl base 3 i1 (.int .i64 0) 1 8 Tryz.underlying68 hi' hy0 hy1 hy2 rfl (by decide) _ _ _ rfl (hv2.alloc _) ⟨w2.heap.size, 0, none⟩ 1 1 [.int .i64 v] rfl rfl (cell_one_new _ _ _) (by simp [Value.oneCell']) (by simp [maxLen]; omega) (by omega) (by simp; omega) ?_)
  intro vv' w4 hown hgrow _ hat
  have hown2 := hown
  obtain ⟨gv, capv, rfl⟩ := ownsRow_succ hown
  have hh4 : w4.heap[b]? = some (.cells #[.slice (some ⟨gk, 0, none⟩) (kr.length + 1) capk, vv] 74 (0, 0)) := by
    rw [hgrow.block b (by simp; omega) hnv]; exact (Below.heap_alloc w2 _ b hbl2).trans hh3
  have ht4 : Touch vv.ownBlock.toList w2 w4 := (Touch.alloc _ _ _).trans (Touch.grown hgrow (fun k hk => by simp [hk]))
  have hkv2 : ∀ q, (Value.slice (some ⟨gk, 0, none⟩) (kr.length + 1) capk).ownBlock = some q → vv.ownBlock ≠ some q := fun q hq => rows_ne hk2 hv2 (by decide) q hq
  have hk4 := row_keep hk2 ht4 (fun q hq hm => by
    simp at hm
    exact hkv2 q hq hm)
  have hnv' : some b ≠ (Value.slice (some ⟨gv, 0, none⟩) (vr.length + 1) capv).ownBlock := row_ne hh4 hown
  have c4 := heap_cell hh4 1
  have f4 := heap_frozen hh4 1
  simp only [List.getElem?_toArray, List.getElem?_cons_zero, List.getElem?_cons_succ] at c4
  have hatv : (Value.slice (some ⟨gv, 0, none⟩) (vr.length + 1) capv).ownBlock = vv.ownBlock ∨ (Value.slice (some ⟨gv, 0, none⟩) (vr.length + 1) capv).ownBlock = some (w2.heap.size + 1) := by simpa using hat
  have Hfin : Hid (∃ vk' vv', (w4.setCell ⟨b, 1, none⟩ (.slice (some ⟨gv, 0, none⟩) (vr.length + 1) capv)).heap[b]? = some (.cells #[vk', vv'] 74 (0, 0)) ∧ (w4.setCell ⟨b, 1, none⟩ (.slice (some ⟨gv, 0, none⟩) (vr.length + 1) capv)).ownsRow base 9 1 vk' (kr.length + 1) (strs kr ++ [.string k]) ∧ (w4.setCell ⟨b, 1, none⟩ (.slice (some ⟨gv, 0, none⟩) (vr.length + 1) capv)).ownsRow base 3 1 vv' (vr.length + 1) (ints vr ++ [.int .i64 v]) ∧
      Touch (b :: (vk.ownBlock.toList ++ vv.ownBlock.toList)) w' (w4.setCell ⟨b, 1, none⟩ (.slice (some ⟨gv, 0, none⟩) (vr.length + 1) capv)) ∧ Newer w'.heap.size (b :: (vk.ownBlock.toList ++ vv.ownBlock.toList)) (b :: (vk'.ownBlock.toList ++ vv'.ownBlock.toList))) := by
    refine ⟨_, _, heap_set hh4 1 _, ownsRow_setOther hk4 hnk' _, ownsRow_setOther hown2 hnv' _, ((ht2.mono (fun q hq => .inl ?_)).trans (ht4.mono (fun q hq => .inl ?_))).trans (Touch.setCell _ _ _ (by simp)), fun q hq => ?_⟩
    · simp only [List.mem_cons] at hq
      rcases hq with h | h
      · simp [h]
      · simp [h]
    · simp [hq]
    · rcases List.mem_cons.1 hq with rfl | hq
      · exact .inl (by simp)
      · rcases List.mem_append.1 hq with hq | hq
        · have hq' : (Value.slice (some ⟨gk, 0, none⟩) (kr.length + 1) capk).ownBlock = some q := by simpa using hq
          rcases hatk with e | e
          · exact .inl (by rw [e] at hq'; simp [hq'])
          · rw [e] at hq'; simp only [Option.some.injEq] at hq'; exact .inr (by omega)
        · have hq' : (Value.slice (some ⟨gv, 0, none⟩) (vr.length + 1) capv).ownBlock = some q := by simpa using hq
          rcases hatv with e | e
          · exact .inl (by rw [e] at hq'; simp [hq'])
          · rw [e] at hq'; simp only [Option.some.injEq] at hq'; exact .inr (by omega)
  clear hh3 hk2 hv2 ht2 hown hown2 hgrow hat hh4 ht4 hk4 d1 hatk hatv
  go_wp2
  go_ret
  exact ⟨rfl, Hfin.out⟩

theorem rset_fresh (b base : Nat) (k : ByteArray) (v : Int) (kr : List ByteArray) (vr : List Int) (F : List Nat) (w : World) (h : Rf w base b kr vr F) (hbase : base ≤ w.heap.size) (hlen : kr.length < 1000000) (hn : ∀ j : Nat, kr[j]? ≠ some k) :
    Calls Tryz.prog 65 #[.pointer (some ⟨b, 0, none⟩), .string k, .int .i64 v] w fun e w' => e = .returned (.bool true) ∧ ∃ F', Rf w' base b (kr ++ [k]) (vr ++ [v]) F' ∧ Touch F w w' ∧ Newer w.heap.size F F' := by
  have hf := find_any b base k kr vr F w h hlen
  obtain ⟨vk, vv, hh, hb, hk, hv, hl, rfl⟩ := h
  refine (rset_core b base k v vk vv kr vr w (hf.mono ?_) hh hk hv hbase hlen (by omega)).mono ?_
  · rintro e w' ⟨hw, ⟨j', h1, h2⟩ | ⟨h1, h2⟩⟩
    · exact absurd h1 (hn j')
    · exact ⟨hw, h2⟩
  · rintro e w' ⟨rfl, vk', vv', h1, h2, h3, h4, h5⟩
    refine ⟨rfl, _, ⟨vk', vv', h1, hb, ?_, ?_, by simp [hl], rfl⟩, h4, h5⟩
    · simpa using h2
    · simpa using h3

end Go.Proofs.YtcjblafohfiiaabGreat.Nd

/-
  The document's table: Drop.
-/
set_option linter.unusedVariables false
namespace Go.Proofs.YtcjblafohfiiaabGreat.Nd
open Go.RowKit Go.Shelf

theorem own_take {w : World} {base g n m cap : Nat} {e : TypeId} {xs : List Value} (h : w.ownsRow base e 1 (.slice (some ⟨g, 0, none⟩) n cap) n xs) (hm : m ≤ n) : w.ownsRow base e 1 (.slice (some ⟨g, 0, none⟩) m cap) m (xs.take m) := by
  obtain ⟨h1, h2⟩ := h
  rcases h2 with ⟨h2, _⟩ | ⟨g', cap', cur, hv, hb, hg, hn, hmx, hs, ht⟩
  · simp at h2
  simp only [Value.slice.injEq, Option.some.injEq, Addr.mk.injEq, true_and, and_true] at hv
  obtain ⟨rfl, rfl⟩ := hv
  refine ⟨by simp at h1 ⊢; omega, .inr ⟨g, cap, cur, rfl, hb, hg, by omega, hmx, hs, ?_⟩⟩
  rw [← ht, List.take_take]
  congr 1
  simp
  omega

set_option maxHeartbeats 1000000 in
theorem rdrop_no (b base : Nat) (k : ByteArray) (kr : List ByteArray) (vr : List Int) (F : List Nat) (w : World) (h : Rf w base b kr vr F) (hlen : kr.length < 1000000) (hn : ∀ j : Nat, kr[j]? ≠ some k) :
    Calls Tryz.prog 69 #[.pointer (some ⟨b, 0, none⟩), .string k] w fun e w' => e = .returned (.bool false) ∧ w' = w := by
  have hf := find_any b base k kr vr F w h hlen
  go_enter Tryz.func69, Tryz.ntmps69
  go_wp2_with fail
  refine hf.mono ?_
  rintro e w' ⟨hw, ⟨j, h1, h2⟩ | ⟨h1, h2⟩⟩
  · exact absurd h1 (hn j)
  subst hw h2
  clear hf h
  go_wp2
  go_ret
  exact ⟨rfl, rfl⟩

set_option maxRecDepth 20000 in
set_option maxHeartbeats 4000000 in
theorem rdrop_core (b base g g' cap cap' j n : Nat) (k x z : ByteArray) (y u : Int) (kr : List ByteArray) (vr : List Int) (w : World) (hf : Calls Tryz.prog 98 #[.pointer (some ⟨b, 0, none⟩), .string k] w fun e w' => w' = w ∧ e = .returned (.int .i64 j))
    (hh : w.heap[b]? = some (.cells #[.slice (some ⟨g, 0, none⟩) (n + 1) cap, .slice (some ⟨g', 0, none⟩) (n + 1) cap'] 74 (0, 0))) (hk : w.ownsRow base 9 1 (.slice (some ⟨g, 0, none⟩) (n + 1) cap) (n + 1) (strs kr)) (hv : w.ownsRow base 3 1 (.slice (some ⟨g', 0, none⟩) (n + 1) cap') (n + 1) (ints vr))
    (hj : j < n + 1) (hlen : n + 1 < 1000000) (hx : kr[n]? = some x) (hy : vr[n]? = some y) (hz : kr[j]? = some z) (hu : vr[j]? = some u) :
    Calls Tryz.prog 69 #[.pointer (some ⟨b, 0, none⟩), .string k] w fun e w' => e = .returned (.bool true) ∧ w'.heap[b]? = some (.cells #[.slice (some ⟨g, 0, none⟩) n cap, .slice (some ⟨g', 0, none⟩) n cap'] 74 (0, 0)) ∧
      w'.ownsRow base 9 1 (.slice (some ⟨g, 0, none⟩) n cap) n (strs (swp kr j n x)) ∧ w'.ownsRow base 3 1 (.slice (some ⟨g', 0, none⟩) n cap') n (ints (swp vr j n y)) ∧ Touch [b, g, g'] w w' := by
  have hbg : b ≠ g := fun e => absurd (by simp [Value.ownBlock, e]) (row_ne hh hk)
  have hbg' : b ≠ g' := fun e => absurd (by simp [Value.ownBlock, e]) (row_ne hh hv)
  have hgg : g' ≠ g := fun e => rows_ne hv hk (by decide) g' rfl (by simp [Value.ownBlock, e])
  obtain ⟨hnc, hcm⟩ : n + 1 ≤ cap ∧ cap ≤ 9223372036854775807 := by have := row_facts hk; exact ⟨this.2.1, by simpa [maxLen] using this.2.2.1⟩
  obtain ⟨hnc', hcm'⟩ : n + 1 ≤ cap' ∧ cap' ≤ 9223372036854775807 := by have := row_facts hv; exact ⟨this.2.1, by simpa [maxLen] using this.2.2.1⟩
  have hc0 := heap_cell hh 0
  simp only [List.getElem?_toArray, List.getElem?_cons_zero] at hc0
  have cx : w.cell? ⟨g, n, none⟩ = some (.string x) := by rw [hk.cellAt _ (by omega)]; simp [hx]
  have cz : w.cell? ⟨g, j, none⟩ = some (.string z) := by rw [hk.cellAt _ (by omega)]; simp [hz]
  have fz := hk.frozenAt j
  have hk1 := (hk.stored j (.string x)).1
  have e1 : (strs kr).set j (.string x) = strs (kr.set j x) := by simp [List.map_set]
  rw [e1] at hk1
  have hv1 := ownsRow_setOther hv (a := ⟨g, j, none⟩) (by simpa [Value.ownBlock] using (Ne.symm hgg)) (.string x)
  have hh1 : (w.setCell ⟨g, j, none⟩ (.string x)).heap[b]? = _ := (Below.heap_setCell _ _ _ _ hbg).trans hh
  have ht1 : Touch [b, g, g'] w (w.setCell ⟨g, j, none⟩ (.string x)) := Touch.setCell _ _ _ (by simp)
  have hji : (j : Int) < (n : Int) + 1 := by omega
  have hni : (n : Int) < (n : Int) + 1 := by omega
  have hjz : ¬ (j : Int) < 0 := by omega
  clear hh e1 hk hv hx hz
  have Hk1 : Hid ((w.setCell ⟨g, j, none⟩ (.string x)).ownsRow base 9 1 (.slice (some ⟨g, 0, none⟩) (n + 1) cap) (n + 1) (strs (kr.set j x))) := hk1
  have Hv1 : Hid ((w.setCell ⟨g, j, none⟩ (.string x)).ownsRow base 3 1 (.slice (some ⟨g', 0, none⟩) (n + 1) cap') (n + 1) (ints vr)) := hv1
  have Hh1 : Hid ((w.setCell ⟨g, j, none⟩ (.string x)).heap[b]? = some (.cells #[.slice (some ⟨g, 0, none⟩) (n + 1) cap, .slice (some ⟨g', 0, none⟩) (n + 1) cap'] 74 (0, 0))) := hh1
  have Ht1 : Hid (Touch [b, g, g'] w (w.setCell ⟨g, j, none⟩ (.string x))) := ht1
  clear hk1 hv1 hh1 ht1
  go_enter Tryz.func69, Tryz.ntmps69
  go_wp2_with fail
  refine hf.mono ?_
  rintro e w' ⟨hw, he⟩
  subst hw he
  clear hf
  go_wp2_with fail
  go_region
  go_upto_region 6 with fail
  have hk2 : ((w'.setCell ⟨g, j, none⟩ (.string x)).drew).ownsRow base 9 1 (.slice (some ⟨g, 0, none⟩) (n + 1) cap) (n + 1) (strs (kr.set j x)) := Hk1.out
  have hv2 : ((w'.setCell ⟨g, j, none⟩ (.string x)).drew).ownsRow base 3 1 (.slice (some ⟨g', 0, none⟩) (n + 1) cap') (n + 1) (ints vr) := Hv1.out
  have hh2 : ((w'.setCell ⟨g, j, none⟩ (.string x)).drew).heap[b]? = some (.cells #[.slice (some ⟨g, 0, none⟩) (n + 1) cap, .slice (some ⟨g', 0, none⟩) (n + 1) cap'] 74 (0, 0)) := Hh1.out
  have ht2 : Touch [b, g, g'] w' ((w'.setCell ⟨g, j, none⟩ (.string x)).drew) := Ht1.out.trans (Touch.drew _ _)
  clear Hk1 Hv1 Hh1 Ht1 cx cz fz hc0
  generalize (w'.setCell ⟨g, j, none⟩ (.string x)).drew = w2 at hk2 hv2 hh2 ht2 ⊢
  have c1 := heap_cell hh2 1
  simp only [List.getElem?_toArray, List.getElem?_cons_zero, List.getElem?_cons_succ] at c1
  have cy : w2.cell? ⟨g', n, none⟩ = some (.int .i64 y) := by rw [hv2.cellAt _ (by omega)]; simp [hy]
  have cu : w2.cell? ⟨g', j, none⟩ = some (.int .i64 u) := by rw [hv2.cellAt _ (by omega)]; simp [hu]
  have fu := hv2.frozenAt j
  have hv3 := (hv2.stored j (.int .i64 y)).1
  have e2 : (ints vr).set j (.int .i64 y) = ints (vr.set j y) := by simp [List.map_set]
  rw [e2] at hv3
  have hk3 := ownsRow_setOther hk2 (a := ⟨g', j, none⟩) (by simpa [Value.ownBlock] using hgg) (.int .i64 y)
  have hh3 : (w2.setCell ⟨g', j, none⟩ (.int .i64 y)).heap[b]? = _ := (Below.heap_setCell _ _ _ _ hbg').trans hh2
  have ht3 : Touch [b, g, g'] w' (w2.setCell ⟨g', j, none⟩ (.int .i64 y)) := ht2.trans (Touch.setCell _ _ _ (by simp))
  have Hk1 : Hid ((w2.setCell ⟨g', j, none⟩ (.int .i64 y)).ownsRow base 9 1 (.slice (some ⟨g, 0, none⟩) (n + 1) cap) (n + 1) (strs (kr.set j x))) := hk3
  have Hv1 : Hid ((w2.setCell ⟨g', j, none⟩ (.int .i64 y)).ownsRow base 3 1 (.slice (some ⟨g', 0, none⟩) (n + 1) cap') (n + 1) (ints (vr.set j y))) := hv3
  have Hh1 : Hid ((w2.setCell ⟨g', j, none⟩ (.int .i64 y)).heap[b]? = some (.cells #[.slice (some ⟨g, 0, none⟩) (n + 1) cap, .slice (some ⟨g', 0, none⟩) (n + 1) cap'] 74 (0, 0))) := hh3
  have Ht1 : Hid (Touch [b, g, g'] w' (w2.setCell ⟨g', j, none⟩ (.int .i64 y))) := ht3
  clear hk2 hv2 hh2 ht2 e2 hy hu hk3 hv3 hh3 ht3
  go_region
  go_upto_region 7 with fail
  have hk2 : ((w2.setCell ⟨g', j, none⟩ (.int .i64 y)).drew).ownsRow base 9 1 (.slice (some ⟨g, 0, none⟩) (n + 1) cap) (n + 1) (strs (kr.set j x)) := Hk1.out
  have hv2 : ((w2.setCell ⟨g', j, none⟩ (.int .i64 y)).drew).ownsRow base 3 1 (.slice (some ⟨g', 0, none⟩) (n + 1) cap') (n + 1) (ints (vr.set j y)) := Hv1.out
  have hh2 : ((w2.setCell ⟨g', j, none⟩ (.int .i64 y)).drew).heap[b]? = some (.cells #[.slice (some ⟨g, 0, none⟩) (n + 1) cap, .slice (some ⟨g', 0, none⟩) (n + 1) cap'] 74 (0, 0)) := Hh1.out
  have ht2 : Touch [b, g, g'] w' ((w2.setCell ⟨g', j, none⟩ (.int .i64 y)).drew) := Ht1.out.trans (Touch.drew _ _)
  clear Hk1 Hv1 Hh1 Ht1 cy cu fu c1
  generalize (w2.setCell ⟨g', j, none⟩ (.int .i64 y)).drew = w4 at hk2 hv2 hh2 ht2 ⊢
  have c0 := heap_cell hh2 0
  have f0 := heap_frozen hh2 0
  simp only [List.getElem?_toArray, List.getElem?_cons_zero] at c0
  have hh4 := heap_set hh2 0 (.slice (some ⟨g, 0, none⟩) n cap)
  have c1 := heap_cell hh4 1
  have f1 := heap_frozen hh4 1
  simp at c1
  have Hfin : Hid (((w4.setCell ⟨b, 0, none⟩ (.slice (some ⟨g, 0, none⟩) n cap)).setCell ⟨b, 1, none⟩ (.slice (some ⟨g', 0, none⟩) n cap')).heap[b]? = some (.cells #[.slice (some ⟨g, 0, none⟩) n cap, .slice (some ⟨g', 0, none⟩) n cap'] 74 (0, 0)) ∧
      ((w4.setCell ⟨b, 0, none⟩ (.slice (some ⟨g, 0, none⟩) n cap)).setCell ⟨b, 1, none⟩ (.slice (some ⟨g', 0, none⟩) n cap')).ownsRow base 9 1 (.slice (some ⟨g, 0, none⟩) n cap) n (strs (swp kr j n x)) ∧ ((w4.setCell ⟨b, 0, none⟩ (.slice (some ⟨g, 0, none⟩) n cap)).setCell ⟨b, 1, none⟩ (.slice (some ⟨g', 0, none⟩) n cap')).ownsRow base 3 1 (.slice (some ⟨g', 0, none⟩) n cap') n (ints (swp vr j n y)) ∧ Touch [b, g, g'] w' ((w4.setCell ⟨b, 0, none⟩ (.slice (some ⟨g, 0, none⟩) n cap)).setCell ⟨b, 1, none⟩ (.slice (some ⟨g', 0, none⟩) n cap'))) := by
    refine ⟨heap_set hh4 1 _, ?_, ?_, (ht2.trans (Touch.setCell _ _ _ (by simp))).trans (Touch.setCell _ _ _ (by simp))⟩
    · have h5 := own_take hk2 (Nat.le_succ n)
      rw [← List.map_take] at h5
      exact ownsRow_setOther (ownsRow_setOther h5 (by simp [Value.ownBlock, hbg]) _) (by simp [Value.ownBlock, hbg]) _
    · have h5 := own_take hv2 (Nat.le_succ n)
      rw [← List.map_take] at h5
      exact ownsRow_setOther (ownsRow_setOther h5 (by simp [Value.ownBlock, hbg']) _) (by simp [Value.ownBlock, hbg']) _
  clear hk2 hv2 hh2 ht2 hh4
  go_wp2
  go_ret
  exact ⟨rfl, Hfin.out⟩

theorem rdrop_yes (b base j n : Nat) (k x : ByteArray) (y : Int) (kr : List ByteArray) (vr : List Int) (F : List Nat) (w : World) (h : Rf w base b kr vr F) (hlen : kr.length < 1000000) (hd : Dst kr) (hj : kr[j]? = some k) (hn : n + 1 = kr.length) (hx : kr[n]? = some x) (hy : vr[n]? = some y) :
    Calls Tryz.prog 69 #[.pointer (some ⟨b, 0, none⟩), .string k] w fun e w' => e = .returned (.bool true) ∧ Rf w' base b (swp kr j n x) (swp vr j n y) F ∧ Touch F w w' := by
  have hf := find_any b base k kr vr F w h hlen
  obtain ⟨vk, vv, hh, hb, hk, hv, hl, rfl⟩ := h
  have hjl : j < kr.length := (List.getElem?_eq_some_iff.1 hj).1
  obtain ⟨u, hu⟩ : ∃ u, vr[j]? = some u := ⟨_, List.getElem?_eq_getElem (by omega)⟩
  rw [← hn] at hk
  rw [hl, ← hn] at hv
  rcases hk.2 with ⟨_, h0⟩ | ⟨g, cap, cur, rfl, _⟩
  · omega
  rcases hv.2 with ⟨_, h0⟩ | ⟨g', cap', cur', rfl, _⟩
  · omega
  refine (rdrop_core b base g g' cap cap' j n k x k y u kr vr w (hf.mono ?_) hh hk hv (by omega) (by omega) hx hy hj hu).mono ?_
  · rintro e w' ⟨hw, ⟨j', h1, h2⟩ | ⟨h1, h2⟩⟩
    · obtain rfl := hd _ _ _ hj h1
      exact ⟨hw, h2⟩
    · exact absurd hj (h1 j)
  · rintro e w' ⟨rfl, h1, h2, h3, h4⟩
    have l1 := swp_length kr j n x (by omega)
    have l2 := swp_length vr j n y (by omega)
    exact ⟨rfl, ⟨_, _, h1, hb, by rw [l1]; exact h2, by rw [l2]; exact h3, by rw [l1, l2], rfl⟩, h4⟩

end Go.Proofs.YtcjblafohfiiaabGreat.Nd

/-
  The document's table: Near.
-/
set_option linter.unusedVariables false
namespace Go.Proofs.YtcjblafohfiiaabGreat.Nd
open Go.RowKit Go.Shelf

theorem drew2 (w : World) (a b : Nat) : (w.drewN a).drewN b = w.drewN (a + b) := by simp [World.drewN, Nat.add_assoc]

/-- Where the best one stands, as a number. -/
def enc (a : Option Nat) : Int := match a with | none => -1 | some a => (a : Int)

theorem best_no {kr : List ByteArray} {k x : ByteArray} {i : Nat} {a : Option Nat} (h : Best ltS kr k i a) (hx : kr[i]? = some x) (hk : ltS k x = true) : Best ltS kr k (i + 1) a := by
  cases a with
  | none =>
    intro j y hj hy
    rcases Nat.lt_or_ge j i with h1 | h1
    · exact h j y h1 hy
    · obtain rfl : j = i := by omega
      rw [hx] at hy; cases hy; exact hk
  | some a =>
    obtain ⟨h1, y, h2, h3, h4⟩ := h
    refine ⟨by omega, y, h2, h3, fun j z hj hz hkz => ?_⟩
    rcases Nat.lt_or_ge j i with h5 | h5
    · exact h4 j z h5 hz hkz
    · obtain rfl : j = i := by omega
      rw [hx] at hz; cases hz; rw [hk] at hkz; cases hkz

theorem best_first {kr : List ByteArray} {k x : ByteArray} {i : Nat} (h : Best ltS kr k i none) (hx : kr[i]? = some x) (hk : ltS k x = false) : Best ltS kr k (i + 1) (some i) := by
  refine ⟨by omega, x, hx, hk, fun j z hj hz hkz => ?_⟩
  rcases Nat.lt_or_ge j i with h5 | h5
  · have := h j z h5 hz; rw [this] at hkz; cases hkz
  · obtain rfl : j = i := by omega
    rw [hx] at hz; cases hz; exact sordS.irr _

theorem best_more {kr : List ByteArray} {k x y : ByteArray} {i a : Nat} (h : Best ltS kr k i (some a)) (hx : kr[i]? = some x) (hk : ltS k x = false) (hy : kr[a]? = some y) (hyx : ltS y x = true) : Best ltS kr k (i + 1) (some i) := by
  obtain ⟨h1, y', h2, h3, h4⟩ := h
  rw [hy] at h2; cases h2
  refine ⟨by omega, x, hx, hk, fun j z hj hz hkz => ?_⟩
  rcases Nat.lt_or_ge j i with h5 | h5
  · have h6 := h4 j z h5 hz hkz
    cases h7 : ltS x z with
    | false => rfl
    | true => rw [sordS.trans _ _ _ hyx h7] at h6; cases h6
  · obtain rfl : j = i := by omega
    rw [hx] at hz; cases hz; exact sordS.irr _

theorem best_less {kr : List ByteArray} {k x y : ByteArray} {i a : Nat} (h : Best ltS kr k i (some a)) (hx : kr[i]? = some x) (hy : kr[a]? = some y) (hyx : ltS y x = false) : Best ltS kr k (i + 1) (some a) := by
  obtain ⟨h1, y', h2, h3, h4⟩ := h
  rw [hy] at h2; cases h2
  refine ⟨by omega, y, hy, h3, fun j z hj hz hkz => ?_⟩
  rcases Nat.lt_or_ge j i with h5 | h5
  · exact h4 j z h5 hz hkz
  · obtain rfl : j = i := by omega
    rw [hx] at hz; cases hz; exact hyx

theorem best_exists (kr : List ByteArray) (k : ByteArray) : ∀ (i : Nat), i ≤ kr.length → ∀ (j : Nat) x, j < i → kr[j]? = some x → ltS k x = false → ∃ a, Best ltS kr k i (some a)
  | 0, _, j, x, hj, _, _ => by omega
  | i + 1, hi, j, x, hj, hx, hkx => by
    obtain ⟨z, hz⟩ : ∃ z, kr[i]? = some z := ⟨_, List.getElem?_eq_getElem (by omega)⟩
    by_cases hex : ∃ j' x', j' < i ∧ kr[j']? = some x' ∧ ltS k x' = false
    · obtain ⟨j', x', h1, h2, h3⟩ := hex
      obtain ⟨a, ha⟩ := best_exists kr k i (by omega) j' x' h1 h2 h3
      cases hkz : ltS k z with
      | true => exact ⟨a, best_no ha hz hkz⟩
      | false =>
        obtain ⟨y, hy⟩ : ∃ y, kr[a]? = some y := by obtain ⟨_, y, h, _⟩ := ha; exact ⟨y, h⟩
        cases hyz : ltS y z with
        | true => exact ⟨i, best_more ha hz hkz hy hyz⟩
        | false => exact ⟨a, best_less ha hz hy hyz⟩
    · have hb : Best ltS kr k i none := fun j' x' h1 h2 => by
        cases h3 : ltS k x' with
        | true => rfl
        | false => exact absurd ⟨j', x', h1, h2, h3⟩ hex
      have hji : j = i := by
        rcases Nat.lt_or_ge j i with h1 | h1
        · exact absurd ⟨j, x, h1, hx, hkx⟩ hex
        · omega
      subst hji
      exact ⟨j, best_first hb hx hkx⟩

set_option maxRecDepth 20000 in
set_option maxHeartbeats 4000000 in
/-- Near: the best key and what stands there. -/
theorem rnear_any (b base : Nat) (k : ByteArray) (kr : List ByteArray) (vr : List Int) (F : List Nat) (w : World) (h : Rf w base b kr vr F) (hlen : kr.length < 1000000) :
    Calls Tryz.prog 71 #[.pointer (some ⟨b, 0, none⟩), .string k] w fun e w' => (∃ nq, w' = w.drewN nq) ∧ ((Best ltS kr k kr.length none ∧ e = .returned (.tuple #[(.string ⟨#[]⟩), (.int .i64 0), .bool false])) ∨ ∃ a x v, Best ltS kr k kr.length (some a) ∧ kr[a]? = some x ∧ vr[a]? = some v ∧ e = .returned (.tuple #[.string x, .int .i64 v, .bool true])) := by
  obtain ⟨vk, vv, hh, hb, hk, hv, hl, rfl⟩ := h
  have hc0 := heap_cell hh 0
  have hc1 := heap_cell hh 1
  simp only [List.getElem?_toArray, List.getElem?_cons_zero, List.getElem?_cons_succ] at hc0 hc1
  obtain ⟨a0, cap, rfl, hcell⟩ := row_sl hk
  obtain ⟨a1, cap1, rfl, hcell1⟩ := row_sl hv
  have Hcell : Hid (∀ (j : Nat) x, (strs kr)[j]? = some x → ∃ g, a0 = some ⟨g, 0, none⟩ ∧ w.cell? ⟨g, j, none⟩ = some x ∧ w.frozen? ⟨g, j, none⟩ = false) := hcell
  have Hcell1 : Hid (∀ (j : Nat) x, (ints vr)[j]? = some x → ∃ g, a1 = some ⟨g, 0, none⟩ ∧ w.cell? ⟨g, j, none⟩ = some x ∧ w.frozen? ⟨g, j, none⟩ = false) := hcell1
  have Hl : Hid (vr.length = kr.length) := hl
  clear hcell hcell1 hh hk hv hl
  go_enter Tryz.func71, Tryz.ntmps71
  go_wp2
  go_loopw [7, 8] (fun at_ i wr => ∃ (i' nq : Nat) (a : Option Nat), i' ≤ kr.length ∧ i = .int .i64 i' ∧ at_ = .int .i64 (enc a) ∧ Hid (Best ltS kr k i' a) ∧ wr = w.drewN nq) (fun _ i _ => kr.length - (intOf i).toNat)
  case atStart => exact ⟨0, 0, none, Nat.zero_le _, rfl, rfl, fun j x hj => by omega, rfl⟩
  case round =>
    obtain ⟨i, nq, a, hi, rfl, rfl, hB, rfl⟩ := hrel
    by_cases hlt : i < kr.length
    · obtain ⟨x, hx⟩ : ∃ x, kr[i]? = some x := ⟨_, List.getElem?_eq_getElem hlt⟩
      obtain ⟨g, rfl, hcx, -⟩ := Hcell.out i (.string x) (by simp [hx])
      have hii : (i : Int) < (kr.length : Int) := by omega
      have Hx : Hid (kr[i]? = some x) := hx
      clear hx
      cases hkx : ltS k x with
      | true =>
        obtain ⟨hdA, hdE⟩ := leqF hkx
        have HB' : Hid (Best ltS kr k (i + 1) a) := best_no hB.out Hx.out hkx
        clear hkx hB
        go_wp2_with fail
        go_quiet (fail)
        go_wp2
        go_roundw
        case rel => exact ⟨i + 1, _, a, hlt, by go_num, rfl, HB', rfl⟩
        case measure => simp [intOf]; omega
      | false =>
        rcases leqT hkx with ⟨hdA, hdE⟩ | ⟨hdA, hdE⟩
        · cases a with
          | none =>
            have HB' : Hid (Best ltS kr k (i + 1) (some i)) := best_first hB.out Hx.out hkx
            clear hkx hB
            have he : enc none = -1 := rfl
            rw [he]
            go_wp2_with fail
            go_quiet (fail)
            go_wp2
            go_roundw
            case rel => exact ⟨i + 1, _, some i, hlt, by go_num, rfl, HB', rfl⟩
            case measure => simp [intOf]; omega
          | some a =>
            have hai : a < i := hB.out.1
            obtain ⟨y, hy⟩ : ∃ y, kr[a]? = some y := ⟨_, List.getElem?_eq_getElem (by omega)⟩
            obtain ⟨g2, e2, hcy, -⟩ := Hcell.out a (.string y) (by simp [hy])
            simp only [Option.some.injEq, Addr.mk.injEq, and_true] at e2
            subst e2
            have haz : decide ((a : Int) < 0) = false := decide_eq_false (by omega)
            have hal : (a : Int) < (kr.length : Int) := by omega
            have he : enc (some a) = (a : Int) := rfl
            rw [he]
            cases hyx : ltS y x with
            | true =>
              obtain ⟨hddA, hddE⟩ := gtrT hyx
              have HB' : Hid (Best ltS kr k (i + 1) (some i)) := best_more hB.out Hx.out hkx hy hyx
              clear hkx hB hyx hy
              go_wp2_with fail
              go_quiet (fail)
              go_wp2
              go_roundw
              case rel => exact ⟨i + 1, _, some i, hlt, by go_num, rfl, HB', rfl⟩
              case measure => simp [intOf]; omega
            | false =>
              rcases gtrF hyx with ⟨hddA, hddE⟩ | ⟨hddA, hddE⟩
              · have HB' : Hid (Best ltS kr k (i + 1) (some a)) := best_less hB.out Hx.out hy hyx
                clear hkx hB hyx hy
                go_wp2_with fail
                go_quiet (fail)
                go_wp2
                go_roundw
                case rel => exact ⟨i + 1, _, some a, hlt, by go_num, rfl, HB', rfl⟩
                case measure => simp [intOf]; omega
              · have HB' : Hid (Best ltS kr k (i + 1) (some a)) := best_less hB.out Hx.out hy hyx
                clear hkx hB hyx hy
                go_wp2_with fail
                go_quiet (fail)
                go_wp2
                go_roundw
                case rel => exact ⟨i + 1, _, some a, hlt, by go_num, rfl, HB', rfl⟩
                case measure => simp [intOf]; omega
        · cases a with
          | none =>
            have HB' : Hid (Best ltS kr k (i + 1) (some i)) := best_first hB.out Hx.out hkx
            clear hkx hB
            have he : enc none = -1 := rfl
            rw [he]
            go_wp2_with fail
            go_quiet (fail)
            go_wp2
            go_roundw
            case rel => exact ⟨i + 1, _, some i, hlt, by go_num, rfl, HB', rfl⟩
            case measure => simp [intOf]; omega
          | some a =>
            have hai : a < i := hB.out.1
            obtain ⟨y, hy⟩ : ∃ y, kr[a]? = some y := ⟨_, List.getElem?_eq_getElem (by omega)⟩
            obtain ⟨g2, e2, hcy, -⟩ := Hcell.out a (.string y) (by simp [hy])
            simp only [Option.some.injEq, Addr.mk.injEq, and_true] at e2
            subst e2
            have haz : decide ((a : Int) < 0) = false := decide_eq_false (by omega)
            have hal : (a : Int) < (kr.length : Int) := by omega
            have he : enc (some a) = (a : Int) := rfl
            rw [he]
            cases hyx : ltS y x with
            | true =>
              obtain ⟨hddA, hddE⟩ := gtrT hyx
              have HB' : Hid (Best ltS kr k (i + 1) (some i)) := best_more hB.out Hx.out hkx hy hyx
              clear hkx hB hyx hy
              go_wp2_with fail
              go_quiet (fail)
              go_wp2
              go_roundw
              case rel => exact ⟨i + 1, _, some i, hlt, by go_num, rfl, HB', rfl⟩
              case measure => simp [intOf]; omega
            | false =>
              rcases gtrF hyx with ⟨hddA, hddE⟩ | ⟨hddA, hddE⟩
              · have HB' : Hid (Best ltS kr k (i + 1) (some a)) := best_less hB.out Hx.out hy hyx
                clear hkx hB hyx hy
                go_wp2_with fail
                go_quiet (fail)
                go_wp2
                go_roundw
                case rel => exact ⟨i + 1, _, some a, hlt, by go_num, rfl, HB', rfl⟩
                case measure => simp [intOf]; omega
              · have HB' : Hid (Best ltS kr k (i + 1) (some a)) := best_less hB.out Hx.out hy hyx
                clear hkx hB hyx hy
                go_wp2_with fail
                go_quiet (fail)
                go_wp2
                go_roundw
                case rel => exact ⟨i + 1, _, some a, hlt, by go_num, rfl, HB', rfl⟩
                case measure => simp [intOf]; omega
    · obtain rfl : i = kr.length := by omega
      cases a with
      | none =>
        have he : enc none = -1 := rfl
        rw [he]
        go_wp2
        go_returns
        exact ⟨⟨_, rfl⟩, .inl ⟨hB.out, rfl⟩⟩
      | some a =>
        have hai : a < kr.length := hB.out.1
        obtain ⟨y, hy⟩ : ∃ y, kr[a]? = some y := ⟨_, List.getElem?_eq_getElem (by omega)⟩
        obtain ⟨v, hv⟩ : ∃ v, vr[a]? = some v := ⟨_, List.getElem?_eq_getElem (by have := Hl.out; omega)⟩
        obtain ⟨g, rfl, hcy, -⟩ := Hcell.out a (.string y) (by simp [hy])
        obtain ⟨g1, rfl, hcv, -⟩ := Hcell1.out a (.int .i64 v) (by simp [hv])
        have haz : ¬ (a : Int) < 0 := by omega
        have hal : (a : Int) < (kr.length : Int) := by omega
        have hal2 : (a : Int) < (vr.length : Int) := by have := Hl.out; omega
        have he : enc (some a) = (a : Int) := rfl
        rw [he]
        have Hy : Hid (kr[a]? = some y) := hy
        have Hv : Hid (vr[a]? = some v) := hv
        clear hy hv
        go_wp2_with fail
        go_quiet (fail)
        go_wp2
        go_returns
        exact ⟨⟨_, drew2 _ _ _⟩, .inr ⟨a, y, v, hB.out, Hy.out, Hv.out, rfl⟩⟩

end Go.Proofs.YtcjblafohfiiaabGreat.Nd

/-
  The document's table: Keys.
-/
set_option linter.unusedVariables false
namespace Go.Proofs.YtcjblafohfiiaabGreat.Nd
open Go.RowKit Go.Shelf

theorem least_no {kr ks : List ByteArray} {x : ByteArray} {m i : Nat} {a : Option Nat} (h : Least ltS kr ks m i a) (hx : kr[i]? = some x) (hk : ∃ q, q < m ∧ ks[q]? = some x) : Least ltS kr ks m (i + 1) a := by
  cases a with
  | none =>
    intro j y hj hy
    rcases Nat.lt_or_ge j i with h1 | h1
    · exact h j y h1 hy
    · obtain rfl : j = i := by omega
      rw [hx] at hy; cases hy; exact hk
  | some a =>
    obtain ⟨h1, y, h2, h3, h4⟩ := h
    refine ⟨by omega, y, h2, h3, fun j z hj hz hkz => ?_⟩
    rcases Nat.lt_or_ge j i with h5 | h5
    · exact h4 j z h5 hz hkz
    · obtain rfl : j = i := by omega
      rw [hx] at hz; cases hz
      obtain ⟨q, hq, e⟩ := hk
      exact absurd e (hkz q hq)

theorem least_first {kr ks : List ByteArray} {x : ByteArray} {m i : Nat} (h : Least ltS kr ks m i none) (hx : kr[i]? = some x) (hk : ∀ q, q < m → ks[q]? ≠ some x) : Least ltS kr ks m (i + 1) (some i) := by
  refine ⟨by omega, x, hx, hk, fun j z hj hz hkz => ?_⟩
  rcases Nat.lt_or_ge j i with h5 | h5
  · obtain ⟨q, hq, e⟩ := h j z h5 hz
    exact absurd e (hkz q hq)
  · obtain rfl : j = i := by omega
    rw [hx] at hz; cases hz; exact sordS.irr _

theorem least_less {kr ks : List ByteArray} {x y : ByteArray} {m i a : Nat} (h : Least ltS kr ks m i (some a)) (hx : kr[i]? = some x) (hk : ∀ q, q < m → ks[q]? ≠ some x) (hy : kr[a]? = some y) (hxy : ltS x y = true) : Least ltS kr ks m (i + 1) (some i) := by
  obtain ⟨h1, y', h2, h3, h4⟩ := h
  rw [hy] at h2; cases h2
  refine ⟨by omega, x, hx, hk, fun j z hj hz hkz => ?_⟩
  rcases Nat.lt_or_ge j i with h5 | h5
  · have h6 := h4 j z h5 hz hkz
    cases h7 : ltS z x with
    | false => rfl
    | true => rw [sordS.trans _ _ _ h7 hxy] at h6; cases h6
  · obtain rfl : j = i := by omega
    rw [hx] at hz; cases hz; exact sordS.irr _

theorem least_more {kr ks : List ByteArray} {x y : ByteArray} {m i a : Nat} (h : Least ltS kr ks m i (some a)) (hx : kr[i]? = some x) (hy : kr[a]? = some y) (hxy : ltS x y = false) : Least ltS kr ks m (i + 1) (some a) := by
  obtain ⟨h1, y', h2, h3, h4⟩ := h
  rw [hy] at h2; cases h2
  refine ⟨by omega, y, hy, h3, fun j z hj hz hkz => ?_⟩
  rcases Nat.lt_or_ge j i with h5 | h5
  · exact h4 j z h5 hz hkz
  · obtain rfl : j = i := by omega
    rw [hx] at hz; cases hz; exact hxy

/-- A slice's length. -/
def slen (v : Value) : Nat := match v with | .slice _ n _ => n | _ => 0

/-- What the last key that has been told says of another. -/
theorem past_free {ks : List ByteArray} (hs : Srt ltS ks) {m q : Nat} {x z : ByteArray} (hz : ks[m]? = some z) (hq : ks[q]? = some x) :
    (ltS z x = true → ∀ p, p < m + 1 → ks[p]? ≠ some x) ∧ (ltS z x = false → ∃ p, p < m + 1 ∧ ks[p]? = some x) := by
  have hd := hs.dst sordS
  refine ⟨fun h p hp e => ?_, fun h => ?_⟩
  · rcases Nat.lt_or_ge p m with h1 | h1
    · have h2 := hs p m x z h1 e hz
      have := sordS.trans _ _ _ h h2
      rw [sordS.irr] at this; cases this
    · obtain rfl : p = m := by omega
      rw [hz] at e; cases e
      rw [sordS.irr] at h; cases h
  · refine ⟨q, ?_, hq⟩
    rcases Nat.lt_or_ge q (m + 1) with h1 | h1
    · exact h1
    · have := hs m q z x (by omega) hz hq
      rw [this] at h; cases h

set_option maxRecDepth 20000 in
set_option maxHeartbeats 8000000 in
theorem rkeys_any (b base : Nat) (ks : List ByteArray) (vs : List Int) (kr : List ByteArray) (vr : List Int) (F : List Nat) (w : World) (h : Rf w base b kr vr F) (hsm : Same ks vs kr vr) (hs : Srt ltS ks) (hlen : kr.length < 1000000) :
    Calls Tryz.prog 101 #[.pointer (some ⟨b, 0, none⟩)] w fun e w' => ∃ v, e = .returned v ∧ w'.ownsRow w.heap.size 9 1 v ks.length (strs ks) ∧ Touch [] w w' := by
  obtain ⟨vk, vv, hh, hb, hk, hv, hl, rfl⟩ := h
  have hbl := heap_lt hh
  have hc0 := heap_cell hh 0
  simp only [List.getElem?_toArray, List.getElem?_cons_zero] at hc0
  obtain ⟨a0, cap, rfl, hcell⟩ := row_sl hk
  have Hcell0 : Hid (∀ (wr : World), Touch [] w wr → ∀ (j : Nat) x, kr[j]? = some x → ∃ g, a0 = some ⟨g, 0, none⟩ ∧ wr.cell? ⟨g, j, none⟩ = some (.string x)) := fun wr ht j x hj => by
    obtain ⟨g, h1, h2, -⟩ := hcell j (.string x) (by simp [hj])
    exact ⟨g, h1, (World.cell?_of_block (w := w) (ht.block g (World.block_lt_of_cell? _ _ h2) (by simp))).trans h2⟩
  have Hc0 : Hid (∀ (wr : World), Touch [] w wr → wr.cell? ⟨b, 0, none⟩ = some (.slice a0 kr.length cap)) := fun wr ht => (World.cell?_of_block (w := w) (ht.block b hbl (by simp))).trans hc0
  have Hsm : Hid (Same ks vs kr vr) := hsm
  have Hlen : Hid (kr.length = ks.length) := hsm.len
  have hks : ks.length < 1000000 := by rw [← hsm.len]; exact hlen
  clear hcell hh hk hv hl hc0 hsm
  obtain ⟨i0, hi0, hz0, hz1, hz2⟩ := info_parts Tx.Tryz.infoStr
  go_enter Tryz.func101, Tryz.ntmps101
  go_wp2
  go_loopw [3] (fun l wr => ∃ m : Nat, m ≤ ks.length ∧ wr.ownsRow w.heap.size 9 1 l m (strs (ks.take m)) ∧ Touch [] w wr) (fun l _ => ks.length - slen l)
  case atStart => exact ⟨0, Nat.zero_le _, World.ownsRow_nil _ _ _ _, Touch.refl _ _⟩
  case round =>
    obtain ⟨m, hm, hrow, hT⟩ := hrel
    obtain ⟨la, lc, hlv, hlc⟩ := row_sl hrow
    have Hlc : Hid (∀ (j : Nat) x, (strs (ks.take m))[j]? = some x → ∃ g, la = some ⟨g, 0, none⟩ ∧ wr.cell? ⟨g, j, none⟩ = some x ∧ wr.frozen? ⟨g, j, none⟩ = false) := hlc
    subst hlv
    have Hrow : Hid (wr.ownsRow w.heap.size 9 1 (.slice la m lc) m (strs (ks.take m))) := hrow
    clear hrow hlc
    have c0 := Hc0.out wr hT
    have Hcell : Hid (∀ (j : Nat) x, kr[j]? = some x → ∃ g, a0 = some ⟨g, 0, none⟩ ∧ wr.cell? ⟨g, j, none⟩ = some (.string x)) := Hcell0.out wr hT
    have HT : Hid (Touch [] w wr) := hT
    clear hT
    by_cases hml : m < ks.length
    · have hmi : (m : Int) < (kr.length : Int) := by have := Hlen.out; omega
      have hpush : Hid (∀ (b' : Nat) (nq : Nat), b' < kr.length → kr[b']? = ks[m]? → ∃ x g, a0 = some ⟨g, 0, none⟩ ∧ (wr.drewN nq).cell? ⟨g, b', none⟩ = some (.string x) ∧ ks[m]? = some x) := fun b' nq h1 h2 => by
        obtain ⟨x, hx⟩ : ∃ x, kr[b']? = some x := ⟨_, List.getElem?_eq_getElem h1⟩
        obtain ⟨g, h3, h4⟩ := Hcell.out b' x hx
        exact ⟨x, g, h3, h4, by rw [← h2]; exact hx⟩
      go_wp2
      go_loopw [4, 5] (fun at_ i wr2 => ∃ (i' nq : Nat) (a : Option Nat), i' ≤ kr.length ∧ i = .int .i64 i' ∧ at_ = .int .i64 (enc a) ∧ Hid (Least ltS kr ks m i' a) ∧ wr2 = wr.drewN nq) (fun _ i _ => kr.length - (intOf i).toNat)
      case atStart => exact ⟨0, 0, none, Nat.zero_le _, rfl, rfl, fun j x hj => by omega, rfl⟩
      case round =>
        obtain ⟨i, nq, a, hi, rfl, rfl, hB, rfl⟩ := hrel
        by_cases hlt : i < kr.length
        · obtain ⟨x, hx⟩ : ∃ x, kr[i]? = some x := ⟨_, List.getElem?_eq_getElem hlt⟩
          obtain ⟨g, rfl, hcx⟩ := Hcell.out i x hx
          have hii : (i : Int) < (kr.length : Int) := by omega
          have Hx : Hid (kr[i]? = some x) := hx
          obtain ⟨q, hq⟩ := (Hsm.out.key x).1 ⟨i, hx⟩
          clear hx
          cases m with
          | zero =>
            clear hq hpush
            cases a with
            | none =>
              have HB' : Hid (Least ltS kr ks 0 (i + 1) (some i)) := least_first hB.out Hx.out (fun q hq => by omega)
              clear hB
              have he : enc none = -1 := rfl
              rw [he]
              go_wp2_with fail
              go_quiet (fail)
              go_wp2
              go_roundw
              case rel => exact ⟨i + 1, _, some i, hlt, by go_num, rfl, HB', rfl⟩
              case measure => simp [intOf]; omega
            | some a =>
              have hai : a < i := hB.out.1
              obtain ⟨y, hy⟩ : ∃ y, kr[a]? = some y := ⟨_, List.getElem?_eq_getElem (by omega)⟩
              obtain ⟨g2, e2, hcy⟩ := Hcell.out a y hy
              simp only [Option.some.injEq, Addr.mk.injEq, and_true] at e2
              subst e2
              have haz : decide ((a : Int) < 0) = false := decide_eq_false (by omega)
              have hal : (a : Int) < (kr.length : Int) := by omega
              have he : enc (some a) = (a : Int) := rfl
              rw [he]
              cases hxy : ltS x y with
              | true =>
                have hd2 := lssT hxy
                have HB' : Hid (Least ltS kr ks 0 (i + 1) (some i)) := least_less hB.out Hx.out (fun q hq => by omega) hy hxy
                clear hB hxy hy
                go_wp2_with fail
                go_quiet (fail)
                go_wp2
                go_roundw
                case rel => exact ⟨i + 1, _, some i, hlt, by go_num, rfl, HB', rfl⟩
                case measure => simp [intOf]; omega
              | false =>
                have hd2 := lssF hxy
                have HB' : Hid (Least ltS kr ks 0 (i + 1) (some a)) := least_more hB.out Hx.out hy hxy
                clear hB hxy hy
                go_wp2_with fail
                go_quiet (fail)
                go_wp2
                go_roundw
                case rel => exact ⟨i + 1, _, some a, hlt, by go_num, rfl, HB', rfl⟩
                case measure => simp [intOf]; omega
          | succ m =>
            obtain ⟨z, hz⟩ : ∃ z, ks[m]? = some z := ⟨_, List.getElem?_eq_getElem (by omega)⟩
            obtain ⟨gl, rfl, hcz, -⟩ := Hlc.out m (.string z) (by simp [hz])
            have hm0 : (((m : Int) + 1) == 0) = false := by simp; omega
            have hpf := past_free hs hz hq
            clear hq hz hpush
            cases hzx : ltS z x with
            | false =>
              rcases gtrF hzx with ⟨hddA, hddE⟩ | ⟨hddA, hddE⟩
              · have HB' : Hid (Least ltS kr ks (m + 1) (i + 1) a) := least_no hB.out Hx.out (hpf.2 hzx)
                clear hB hpf hzx
                go_wp2_with fail
                go_quiet (fail)
                go_wp2
                go_roundw
                case rel => exact ⟨i + 1, _, a, hlt, by go_num, rfl, HB', rfl⟩
                case measure => simp [intOf]; omega
              · have HB' : Hid (Least ltS kr ks (m + 1) (i + 1) a) := least_no hB.out Hx.out (hpf.2 hzx)
                clear hB hpf hzx
                go_wp2_with fail
                go_quiet (fail)
                go_wp2
                go_roundw
                case rel => exact ⟨i + 1, _, a, hlt, by go_num, rfl, HB', rfl⟩
                case measure => simp [intOf]; omega
            | true =>
              obtain ⟨hddA, hddE⟩ := gtrT hzx
              have hfree : Hid (∀ q, q < m + 1 → ks[q]? ≠ some x) := hpf.1 hzx
              clear hpf hzx
              cases a with
              | none =>
                have HB' : Hid (Least ltS kr ks (m + 1) (i + 1) (some i)) := least_first hB.out Hx.out hfree.out
                clear hB
                have he : enc none = -1 := rfl
                rw [he]
                go_wp2_with fail
                go_quiet (fail)
                go_wp2
                go_roundw
                case rel => exact ⟨i + 1, _, some i, hlt, by go_num, rfl, HB', rfl⟩
                case measure => simp [intOf]; omega
              | some a =>
                have hai : a < i := hB.out.1
                obtain ⟨y, hy⟩ : ∃ y, kr[a]? = some y := ⟨_, List.getElem?_eq_getElem (by omega)⟩
                obtain ⟨g2, e2, hcy⟩ := Hcell.out a y hy
                simp only [Option.some.injEq, Addr.mk.injEq, and_true] at e2
                subst e2
                have haz : decide ((a : Int) < 0) = false := decide_eq_false (by omega)
                have hal : (a : Int) < (kr.length : Int) := by omega
                have he : enc (some a) = (a : Int) := rfl
                rw [he]
                cases hxy : ltS x y with
                | true =>
                  have hd2 := lssT hxy
                  have HB' : Hid (Least ltS kr ks (m + 1) (i + 1) (some i)) := least_less hB.out Hx.out hfree.out hy hxy
                  clear hB hxy hy
                  go_wp2_with fail
                  go_quiet (fail)
                  go_wp2
                  go_roundw
                  case rel => exact ⟨i + 1, _, some i, hlt, by go_num, rfl, HB', rfl⟩
                  case measure => simp [intOf]; omega
                | false =>
                  have hd2 := lssF hxy
                  have HB' : Hid (Least ltS kr ks (m + 1) (i + 1) (some a)) := least_more hB.out Hx.out hy hxy
                  clear hB hxy hy
                  go_wp2_with fail
                  go_quiet (fail)
                  go_wp2
                  go_roundw
                  case rel => exact ⟨i + 1, _, some a, hlt, by go_num, rfl, HB', rfl⟩
                  case measure => simp [intOf]; omega
        · obtain rfl : i = kr.length := by omega
          obtain ⟨b', rfl, hb1, hb2⟩ := Least.next sordS Hsm.out hs hml hB.out
          obtain ⟨x, g, rfl, hcx, hxm⟩ := hpush.out b' nq hb1 hb2
          have hbi : (b' : Int) < (kr.length : Int) := by omega
          have he : enc (some b') = (b' : Int) := rfl
          rw [he]
          have hr2 : (wr.drewN nq).ownsRow w.heap.size 9 1 (.slice la m lc) m (strs (ks.take m)) := Hrow.out
          generalize hys : strs (ks.take m) = ys at hr2
          have Hy : Hid (ys ++ [.string x] = strs (ks.take (m + 1))) := by
            show _ = _
            rw [← hys, List.take_add_one, hxm]; simp
          have hwz : w.heap.size ≤ wr.heap.size := HT.out.size
          clear hys hxm hb2 hB
          go_wp2_with (at_builtin; refine wpList_append_own_at _ rfl _ _ 72 rfl w.heap.size 9 i0 (.string ⟨#[]⟩) 1 16 Tryz.underlying72 hi0 hz0 hz1 hz2 rfl (by decide) _ _ _ rfl (hr2.alloc _) ⟨wr.heap.size, 0, none⟩ 1 1 [.string x] rfl rfl (cell_one_new _ _ _) (by simp [Value.oneCell']) (by simp [maxLen]; omega) (by omega) (by simp; omega) ?_)
          intro v' w1 hown' hgrow _ hat
          rw [Hy.out] at hown'
          have hT1 : Touch [] w w1 := HT.out.then ((Touch.drewN _ wr nq).trans ((Touch.alloc (Value.slice la m lc).ownBlock.toList (wr.drewN nq) (.cells #[.string x] 9)).trans (Touch.grown hgrow (fun j hj => by rw [hj]; simp)))) (fun j hj => .inr ((Hrow.out.lt j (by simpa using hj)).1))
          have Hown : Hid (w1.ownsRow w.heap.size 9 1 v' (m + 1) (strs (ks.take (m + 1)))) := hown'
          obtain ⟨g', cap', rfl⟩ := ownsRow_succ hown'
          clear hown' hgrow hat hr2
          go_wp2
          go_roundw
          case rel => exact ⟨m + 1, hml, Hown.out, hT1⟩
          case measure => simp [slen]; omega
    · obtain rfl : m = ks.length := by omega
      have hmi : ¬ (ks.length : Int) < (kr.length : Int) := by have := Hlen.out; omega
      have hrow := Hrow.out
      rw [List.take_length] at hrow
      go_wp2
      go_ret
      exact ⟨_, rfl, hrow, HT.out⟩

end Go.Proofs.YtcjblafohfiiaabGreat.Nd

/-
  The table of numbers by text: Drop and Get.
-/
set_option linter.unusedVariables false
namespace Go.Proofs.YtcjblafohfiiaabGreat.Nd
open Go.RowKit Go.Shelf

set_option maxHeartbeats 1000000 in
theorem dropT_no (b base p : Nat) (k : ByteArray) (ks : List ByteArray) (vs : List Int) (F : List Nat) (w : World) (h : TTab w base b ks vs F) (hlen : ks.length < 1000000) (hp : CutAt ltS ks k p) (hf : ks[p]? ≠ some k) :
    Calls Tryz.prog 68 #[.pointer (some ⟨b, 0, none⟩), .string k] w fun e w' => e = .returned (.bool false) ∧ w' = w := by
  obtain ⟨vk, vv, hh, hb, hk, hv, hl, hs, rfl⟩ := h
  have hc0 := heap_cell hh 0
  simp only [List.getElem?_toArray, List.getElem?_cons_zero] at hc0
  have hpl' := placeT_at base p vk ks k w hk hs hlen hp false (by simp [hf])
  clear hh hl hf
  go_enter Tryz.func68, Tryz.ntmps68
  go_wp2_with fail
  refine hpl'.mono ?_
  rintro e w' ⟨rfl, rfl⟩
  go_wp2
  go_ret
  exact ⟨rfl, rfl⟩

set_option maxHeartbeats 1000000 in
theorem getT_no (b base p : Nat) (k : ByteArray) (ks : List ByteArray) (vs : List Int) (F : List Nat) (w : World) (h : TTab w base b ks vs F) (hlen : ks.length < 1000000) (hp : CutAt ltS ks k p) (hf : ks[p]? ≠ some k) :
    Calls Tryz.prog 66 #[.pointer (some ⟨b, 0, none⟩), .string k] w fun e w' => e = .returned (.tuple #[.int .i64 0, .bool false]) ∧ w' = w := by
  obtain ⟨vk, vv, hh, hb, hk, hv, hl, hs, rfl⟩ := h
  have hc0 := heap_cell hh 0
  simp only [List.getElem?_toArray, List.getElem?_cons_zero] at hc0
  have hpl' := placeT_at base p vk ks k w hk hs hlen hp false (by simp [hf])
  clear hh hl hf
  go_enter Tryz.func66, Tryz.ntmps66
  go_wp2_with fail
  refine hpl'.mono ?_
  rintro e w' ⟨rfl, rfl⟩
  go_wp2
  go_ret2
  exact ⟨rfl, rfl⟩

/-- Delete of one number, over a row of the call's own. -/
theorem delS_own (base g n cap p : Nat) (xs : List ByteArray) (w : World) (hr : w.ownsRow base 9 1 (.slice (some ⟨g, 0, none⟩) n cap) n (strs xs)) (hp : p < n) :
    Calls Tryz.prog 99 #[.slice (some ⟨g, 0, none⟩) n cap, .int .i64 p, .int .i64 ((p : Int) + 1)] w fun e w' => e = .returned (.slice (some ⟨g, 0, none⟩) (n - 1) cap) ∧ w'.ownsRow base 9 1 (.slice (some ⟨g, 0, none⟩) (n - 1) cap) (n - 1) (strs (del xs p)) ∧ Touch [g] w w' := by
  obtain ⟨hl, hn, hm, hcs, hsp, hfz, hsh⟩ := row_facts hr
  simp only [Nat.zero_add] at hcs hsp hfz
  have h := Tx.delX_core g n cap p (p + 1) (strs xs) w hl hcs hfz (by simp [Value.oneCell']) (by omega) (by omega) hn (by simpa [maxLen] using hm)
  rw [delX_casts] at h
  refine h.mono ?_
  rintro e w' ⟨rfl, rfl⟩
  have h2 := own_del (i := p) (z := .string ⟨#[]⟩) hr hp
  rw [show p + (n - (p + 1)) = n - 1 by omega] at h2 ⊢
  rw [← del_map] at h2
  exact ⟨rfl, h2⟩

set_option maxHeartbeats 2000000 in
theorem dropT_core (b base g g' cap cap' p n : Nat) (k : ByteArray) (ks : List ByteArray) (vs : List Int) (w : World) (hh : w.heap[b]? = some (.cells #[.slice (some ⟨g, 0, none⟩) n cap, .slice (some ⟨g', 0, none⟩) n cap'] 129 (0, 0)))
    (hk : w.ownsRow base 9 1 (.slice (some ⟨g, 0, none⟩) n cap) n (strs ks)) (hv : w.ownsRow base 3 1 (.slice (some ⟨g', 0, none⟩) n cap') n (ints vs)) (hlen : n < 1000000) (hpn : p < n)
    (hpl : Calls Tryz.prog 96 #[.slice (some ⟨g, 0, none⟩) n cap, .string k] w fun e w' => e = .returned (.tuple #[.int .i64 p, .bool true]) ∧ w' = w) :
    Calls Tryz.prog 68 #[.pointer (some ⟨b, 0, none⟩), .string k] w fun e w' => e = .returned (.bool true) ∧ w'.heap[b]? = some (.cells #[.slice (some ⟨g, 0, none⟩) (n - 1) cap, .slice (some ⟨g', 0, none⟩) (n - 1) cap'] 129 (0, 0)) ∧
      w'.ownsRow base 9 1 (.slice (some ⟨g, 0, none⟩) (n - 1) cap) (n - 1) (strs (del ks p)) ∧ w'.ownsRow base 3 1 (.slice (some ⟨g', 0, none⟩) (n - 1) cap') (n - 1) (ints (del vs p)) ∧ Touch [b, g, g'] w w' := by
  have hbg : b ≠ g := fun e => absurd (by simp [Value.ownBlock, e]) (row_ne hh hk)
  have hbg' : b ≠ g' := fun e => absurd (by simp [Value.ownBlock, e]) (row_ne hh hv)
  have hgg : g' ≠ g := fun e => rows_ne hv hk (by decide) g' rfl (by simp [Value.ownBlock, e])
  have hc0 := heap_cell hh 0
  simp only [List.getElem?_toArray, List.getElem?_cons_zero] at hc0
  have hd1 := delS_own base g n cap p ks w hk hpn
  have Hh : Hid (w.heap[b]? = some (.cells #[.slice (some ⟨g, 0, none⟩) n cap, .slice (some ⟨g', 0, none⟩) n cap'] 129 (0, 0))) := hh
  clear hh
  go_enter Tryz.func68, Tryz.ntmps68
  go_wp2_with fail
  refine hpl.mono ?_
  rintro e w' ⟨rfl, rfl⟩
  go_wp2_with fail
  refine hd1.mono ?_
  rintro e w1 ⟨rfl, hk1, ht1⟩
  have hh1 := (ht1.block b (heap_lt Hh.out) (by simpa using hbg)).trans Hh.out
  have c0 := heap_cell hh1 0
  have z0 := heap_frozen hh1 0
  have c1 := heap_cell hh1 1
  have z1 := heap_frozen hh1 1
  simp only [List.getElem?_toArray, List.getElem?_cons_zero, List.getElem?_cons_succ] at c0 c1
  have hv1 := row_keep hv ht1 (fun q hq hm => by simp [Value.ownBlock] at hq hm; omega)
  have hk2 : (w1.setCell ⟨b, 0, none⟩ (.slice (some ⟨g, 0, none⟩) (n - 1) cap)).ownsRow base 9 1 (.slice (some ⟨g, 0, none⟩) (n - 1) cap) (n - 1) (strs (del ks p)) := ownsRow_setOther hk1 (by simp [Value.ownBlock, hbg]) _
  have hv2 : (w1.setCell ⟨b, 0, none⟩ (.slice (some ⟨g, 0, none⟩) (n - 1) cap)).ownsRow base 3 1 (.slice (some ⟨g', 0, none⟩) n cap') n (ints vs) := ownsRow_setOther hv1 (by simp [Value.ownBlock, hbg']) _
  have hd2 := delI_own base g' n cap' p vs _ hv2 hpn
  have Hh2 : Hid ((w1.setCell ⟨b, 0, none⟩ (.slice (some ⟨g, 0, none⟩) (n - 1) cap)).heap[b]? = some (.cells #[.slice (some ⟨g, 0, none⟩) (n - 1) cap, .slice (some ⟨g', 0, none⟩) n cap'] 129 (0, 0))) := heap_set hh1 0 _
  clear hd1 hpl hh1 hc0
  go_wp2_with fail
  refine hd2.mono ?_
  rintro e w3 ⟨rfl, hv3, ht3⟩
  have hh3 := (ht3.block b (heap_lt Hh2.out) (by simpa using hbg')).trans Hh2.out
  have d1 := heap_cell hh3 1
  have y1 := heap_frozen hh3 1
  simp only [List.getElem?_toArray, List.getElem?_cons_zero, List.getElem?_cons_succ] at d1
  have hk3 := row_keep hk2 ht3 (fun q hq hm => by simp [Value.ownBlock] at hq hm; omega)
  have Hh3 : Hid (w3.heap[b]? = some (.cells #[.slice (some ⟨g, 0, none⟩) (n - 1) cap, .slice (some ⟨g', 0, none⟩) n cap'] 129 (0, 0))) := hh3
  clear hh3 hd2
  go_wp2
  go_ret
  refine ⟨rfl, heap_set Hh3.out 1 _, ownsRow_setOther hk3 (by simp [Value.ownBlock, hbg]) _, ownsRow_setOther hv3 (by simp [Value.ownBlock, hbg']) _, ?_⟩
  exact ((ht1.mono (by simp)).trans (Touch.setCell _ _ _ (by simp))).trans ((ht3.mono (by simp)).trans (Touch.setCell _ _ _ (by simp)))

theorem dropT_yes (b base p : Nat) (k : ByteArray) (ks : List ByteArray) (vs : List Int) (F : List Nat) (w : World) (h : TTab w base b ks vs F) (hlen : ks.length < 1000000) (hp : CutAt ltS ks k p) (hf : ks[p]? = some k) :
    Calls Tryz.prog 68 #[.pointer (some ⟨b, 0, none⟩), .string k] w fun e w' => e = .returned (.bool true) ∧ TTab w' base b (del ks p) (del vs p) F ∧ Touch F w w' := by
  obtain ⟨vk, vv, hh, hb, hk, hv, hl, hs, rfl⟩ := h
  have hpl : p < ks.length := (List.getElem?_eq_some_iff.1 hf).1
  rcases hk.2 with ⟨_, h0⟩ | ⟨g, cap, cur, rfl, _⟩
  · omega
  rcases hv.2 with ⟨_, h0⟩ | ⟨g', cap', cur', rfl, _⟩
  · omega
  rw [hl] at hh hv
  refine (dropT_core b base g g' cap cap' p ks.length k ks vs w hh hk hv hlen hpl (placeT_at base p _ ks k w hk hs hlen hp true (by simp [hf]))).mono ?_
  rintro e w' ⟨rfl, hh', hk', hv', ht⟩
  refine ⟨rfl, ⟨_, _, hh', hb, ?_, ?_, ?_, hs.del p hpl, by simp [Value.ownBlock]⟩, ht.mono (fun q hq => .inl (by simp at hq; simp [Value.ownBlock, hq]))⟩
  · rw [del_length _ _ hpl]; exact hk'
  · rw [del_length _ _ (by omega), hl]; exact hv'
  · rw [del_length _ _ hpl, del_length _ _ (by omega), hl]

set_option maxHeartbeats 1000000 in
theorem getT_core (b g g' cap cap' n p : Nat) (k : ByteArray) (x : Int) (w : World) (hc0 : w.cell? ⟨b, 0, none⟩ = some (.slice (some ⟨g, 0, none⟩) n cap)) (hc1 : w.cell? ⟨b, 1, none⟩ = some (.slice (some ⟨g', 0, none⟩) n cap'))
    (hpl : Calls Tryz.prog 96 #[.slice (some ⟨g, 0, none⟩) n cap, .string k] w fun e w' => e = .returned (.tuple #[.int .i64 p, .bool true]) ∧ w' = w) (hpn : p < n) (hlen : n < 1000000) (hv : w.cell? ⟨g', p, none⟩ = some (.int .i64 x)) :
    Calls Tryz.prog 66 #[.pointer (some ⟨b, 0, none⟩), .string k] w fun e w' => e = .returned (.tuple #[.int .i64 x, .bool true]) ∧ w' = w := by
  have hpi : (p : Int) < (n : Int) := by omega
  go_enter Tryz.func66, Tryz.ntmps66
  go_wp2_with fail
  refine hpl.mono ?_
  rintro e w' ⟨rfl, rfl⟩
  go_wp2
  go_ret2
  exact ⟨rfl, rfl⟩

theorem tget_yes (b base p : Nat) (k : ByteArray) (x : Int) (ks : List ByteArray) (vs : List Int) (F : List Nat) (w : World) (h : TTab w base b ks vs F) (hlen : ks.length < 1000000) (hp : CutAt ltS ks k p) (hf : ks[p]? = some k) (hx : vs[p]? = some x) :
    Calls Tryz.prog 66 #[.pointer (some ⟨b, 0, none⟩), .string k] w fun e w' => e = .returned (.tuple #[.int .i64 x, .bool true]) ∧ w' = w := by
  obtain ⟨vk, vv, hh, hb, hk, hv, hl, hs, rfl⟩ := h
  have hpl : p < ks.length := (List.getElem?_eq_some_iff.1 hf).1
  have hc0 := heap_cell hh 0
  have hc1 := heap_cell hh 1
  simp only [List.getElem?_toArray, List.getElem?_cons_zero, List.getElem?_cons_succ] at hc0 hc1
  rcases hk.2 with ⟨_, h0⟩ | ⟨g, cap, cur, rfl, _⟩
  · omega
  rcases hv.2 with ⟨_, h0⟩ | ⟨g', cap', cur', rfl, _⟩
  · omega
  rw [hl] at hc1
  have hcell' : w.cell? ⟨g', p, none⟩ = some (.int .i64 x) := by rw [hv.cellAt _ (by omega)]; simp [hx]
  exact getT_core b g g' cap cap' ks.length p k x w hc0 hc1 (placeT_at base p _ ks k w hk hs hlen hp true (by simp [hf])) hpl hlen hcell'

end Go.Proofs.YtcjblafohfiiaabGreat.Nd

/-
  One step of a table against the document's: Set, Get, Drop, Near, Len.
-/
set_option linter.unusedVariables false
set_option maxRecDepth 20000
namespace Go.Proofs.YtcjblafohfiiaabGreat.Nd
open Go.RowKit Go.Shelf

theorem cut_exists {α : Type} {lt : α → α → Bool} (ho : SOrd lt) {l : List α} (hs : Srt lt l) (k : α) : ∃ p, CutAt lt l k p := by
  refine ⟨l.findIdx (fun a => !lt a k), List.findIdx_le_length, fun i a hi ha => ?_, fun i a hi ha => ?_⟩
  · have h := List.not_of_lt_findIdx hi
    obtain ⟨hl, rfl⟩ := List.getElem?_eq_some_iff.1 ha
    simpa using h
  · have hl := (List.getElem?_eq_some_iff.1 ha).1
    have hlt : l.findIdx (fun a => !lt a k) < l.length := by omega
    have h := List.findIdx_getElem (w := hlt)
    exact hs.above ho (List.getElem?_eq_getElem hlt) (by simpa using h) i a hi ha

/-- A table and the document's of it. -/
def PW (W : World) (base bt br : Nat) (ks : List ByteArray) (vs : List Int) (kr : List ByteArray) (vr : List Int) (F : List Nat) : Prop :=
  ∃ Ft Fr, TTab W base bt ks vs Ft ∧ Rf W base br kr vr Fr ∧ Same ks vs kr vr ∧ Apart Ft Fr ∧ F = Ft ++ Fr

theorem tab_srt {W : World} {base bt : Nat} {ks : List ByteArray} {vs : List Int} {F : List Nat} (h : TTab W base bt ks vs F) : Srt ltS ks := by
  obtain ⟨_, _, _, _, _, _, _, h, _⟩ := h
  exact h

theorem PW.keep {W W' : World} {base bt br : Nat} {ks : List ByteArray} {vs : List Int} {kr : List ByteArray} {vr : List Int} {F G : List Nat} (h : PW W base bt br ks vs kr vr F) (ht : Touch G W W') (ha : Apart F G) : PW W' base bt br ks vs kr vr F := by
  obtain ⟨Fs, Fr, hs, hn, hm, hap, rfl⟩ := h
  exact ⟨Fs, Fr, hs.keep ht (fun k hk => ha k (by simp [hk])), hn.keep ht (fun k hk => ha k (by simp [hk])), hm, hap, rfl⟩

theorem PW.mem {W : World} {base bt br : Nat} {ks : List ByteArray} {vs : List Int} {kr : List ByteArray} {vr : List Int} {F : List Nat} (h : PW W base bt br ks vs kr vr F) : ∀ k, k ∈ F → base ≤ k ∧ k < W.heap.size := by
  obtain ⟨Fs, Fr, hs, hn, hm, hap, rfl⟩ := h
  intro k hk
  rcases List.mem_append.1 hk with h | h
  · exact hs.mem k h
  · exact hn.mem k h

theorem pw_after {w w1 w2 : World} {base bt br : Nat} {ks ks' : List ByteArray} {vs vs' : List Int} {kr kr' : List ByteArray} {vr vr' : List Int} {Fs Fr Fs1 Fr2 : List Nat} (hs : TTab w base bt ks vs Fs) (hn : Rf w base br kr vr Fr) (hap : Apart Fs Fr) (hs1 : TTab w1 base bt ks' vs' Fs1) (ht1 : Touch Fs w w1) (hw1 : Newer w.heap.size Fs Fs1)
    (hn2 : Rf w2 base br kr' vr' Fr2) (ht2 : Touch Fr w1 w2) (hw2 : Newer w1.heap.size Fr Fr2) (hsm : Same ks' vs' kr' vr') : ∃ F', PW w2 base bt br ks' vs' kr' vr' F' ∧ Touch (Fs ++ Fr) w w2 ∧ Newer w.heap.size (Fs ++ Fr) F' := by
  have a1 : Apart Fs1 Fr := hap.newer hw1 (fun k hk => (hn.mem k hk).2)
  have a2 : Apart Fs1 Fr2 := (a1.symm.newer hw2 (fun k hk => (hs1.mem k hk).2)).symm
  refine ⟨Fs1 ++ Fr2, ⟨Fs1, Fr2, hs1.keep ht2 a1, hn2, hsm, a2, rfl⟩, (ht1.mono (fun k hk => .inl (by simp [hk]))).trans (ht2.mono (fun k hk => .inl (by simp [hk]))), ?_⟩
  intro k hk
  rcases List.mem_append.1 hk with h | h
  · rcases hw1 k h with h1 | h1
    · exact .inl (by simp [h1])
    · exact .inr h1
  · rcases newer_mono hw2 ht1.size k h with h1 | h1
    · exact .inl (by simp [h1])
    · exact .inr h1

section
variable (d i bt br : Nat) (sec : Bool) (n wd : Int) (s : ByteArray) (stop : Int) (w : World) (hi : i < 2) (hc : w.cell? ⟨d, 8 + i, none⟩ = some (.pointer (some ⟨bt, 0, none⟩))) (hcr : w.cell? ⟨d, 18 + i, none⟩ = some (.pointer (some ⟨br, 0, none⟩)))
include hi hc hcr

set_option maxHeartbeats 2000000 in
theorem set_core (r : Bool) (S1 S2 : World → Prop) (h1 : Calls Tryz.prog 64 #[.pointer (some ⟨bt, 0, none⟩), .string s, .int .i64 n] (w.alloc (.cells (opv 21 sec n wd s stop) 31)) fun e w1 => e = .returned (.bool r) ∧ S1 w1)
    (hb : ∀ w1, S1 w1 → w1.heap[w.heap.size]? = some (.cells (opv 21 sec n wd s stop) 31 (0, 0))) (h2 : ∀ w1, S1 w1 → Calls Tryz.prog 65 #[.pointer (some ⟨br, 0, none⟩), .string s, .int .i64 n] w1 fun e w2 => e = .returned (.bool r) ∧ S2 w2) :
    Calls Tryz.prog 22 #[.pointer (some ⟨d, 0, none⟩), .agg (opv 21 sec n wd s stop), .int .i64 i] w fun e w' => e = .returned (.bool true) ∧ S2 w' := by
  have hi' : (i : Int) < 2 := by omega
  have hdl : d < w.heap.size := World.block_lt_of_cell? _ _ hc
  have Hb : Hid (∀ w1, S1 w1 → w1.heap[w.heap.size]? = some (.cells (opv 21 sec n wd s stop) 31 (0, 0))) := hb
  have H2 : Hid (∀ w1, S1 w1 → Calls Tryz.prog 65 #[.pointer (some ⟨br, 0, none⟩), .string s, .int .i64 n] w1 fun e w2 => e = .returned (.bool r) ∧ S2 w2) := h2
  clear hb h2
  go_enter Tryz.func22, Tryz.ntmps22
  go_wp2_with fail
  refine h1.mono ?_
  rintro e w1 ⟨rfl, hs1⟩
  have bO := Hb.out w1 hs1
  have h2 := H2.out w1 hs1
  clear h1 Hb H2
  have cN := heap_cell bO 4
  have cV := heap_cell bO 2
  simp only [List.getElem?_toArray, List.getElem?_cons_zero, List.getElem?_cons_succ] at cN cV
  go_wp2_with fail
  refine h2.mono ?_
  rintro e w2 ⟨rfl, hs2⟩
  clear h2 cN cV bO
  go_wp2
  go_ret
  exact ⟨by simp, hs2⟩

set_option maxHeartbeats 2000000 in
theorem drop_core (r : Bool) (S1 S2 : World → Prop) (h1 : Calls Tryz.prog 68 #[.pointer (some ⟨bt, 0, none⟩), .string s] (w.alloc (.cells (opv 23 sec n wd s stop) 31)) fun e w1 => e = .returned (.bool r) ∧ S1 w1)
    (hb : ∀ w1, S1 w1 → w1.heap[w.heap.size]? = some (.cells (opv 23 sec n wd s stop) 31 (0, 0))) (h2 : ∀ w1, S1 w1 → Calls Tryz.prog 69 #[.pointer (some ⟨br, 0, none⟩), .string s] w1 fun e w2 => e = .returned (.bool r) ∧ S2 w2) :
    Calls Tryz.prog 22 #[.pointer (some ⟨d, 0, none⟩), .agg (opv 23 sec n wd s stop), .int .i64 i] w fun e w' => e = .returned (.bool true) ∧ S2 w' := by
  have hi' : (i : Int) < 2 := by omega
  have hdl : d < w.heap.size := World.block_lt_of_cell? _ _ hc
  have Hb : Hid (∀ w1, S1 w1 → w1.heap[w.heap.size]? = some (.cells (opv 23 sec n wd s stop) 31 (0, 0))) := hb
  have H2 : Hid (∀ w1, S1 w1 → Calls Tryz.prog 69 #[.pointer (some ⟨br, 0, none⟩), .string s] w1 fun e w2 => e = .returned (.bool r) ∧ S2 w2) := h2
  clear hb h2
  go_enter Tryz.func22, Tryz.ntmps22
  go_wp2_with fail
  refine h1.mono ?_
  rintro e w1 ⟨rfl, hs1⟩
  have bO := Hb.out w1 hs1
  have h2 := H2.out w1 hs1
  clear h1 Hb H2
  have cN := heap_cell bO 4
  simp only [List.getElem?_toArray, List.getElem?_cons_zero, List.getElem?_cons_succ] at cN
  go_wp2_with fail
  refine h2.mono ?_
  rintro e w2 ⟨rfl, hs2⟩
  clear h2 cN bO
  go_wp2
  go_ret
  exact ⟨by simp, hs2⟩

set_option maxHeartbeats 2000000 in
theorem get_core (x : Int) (r : Bool) (h1 : Calls Tryz.prog 66 #[.pointer (some ⟨bt, 0, none⟩), .string s] (w.alloc (.cells (opv 22 sec n wd s stop) 31)) fun e w1 => e = .returned (.tuple #[.int .i64 x, .bool r]) ∧ w1 = w.alloc (.cells (opv 22 sec n wd s stop) 31))
    (h2 : Calls Tryz.prog 67 #[.pointer (some ⟨br, 0, none⟩), .string s] (w.alloc (.cells (opv 22 sec n wd s stop) 31)) fun e w1 => e = .returned (.tuple #[.int .i64 x, .bool r]) ∧ w1 = w.alloc (.cells (opv 22 sec n wd s stop) 31)) :
    Calls Tryz.prog 22 #[.pointer (some ⟨d, 0, none⟩), .agg (opv 22 sec n wd s stop), .int .i64 i] w fun e w' => e = .returned (.bool true) ∧ w' = w.alloc (.cells (opv 22 sec n wd s stop) 31) := by
  have hi' : (i : Int) < 2 := by omega
  have hdl : d < w.heap.size := World.block_lt_of_cell? _ _ hc
  go_enter Tryz.func22, Tryz.ntmps22
  go_wp2_with fail
  refine h1.mono ?_
  rintro e w1 ⟨rfl, rfl⟩
  go_wp2_with fail
  refine h2.mono ?_
  rintro e w1 ⟨rfl, rfl⟩
  clear h1 h2
  go_wp2
  go_ret
  exact ⟨by simp, rfl⟩

set_option maxHeartbeats 2000000 in
theorem near_core (k : ByteArray) (x : Int) (r : Bool) (h1 : Calls Tryz.prog 70 #[.pointer (some ⟨bt, 0, none⟩), .string s] (w.alloc (.cells (opv 24 sec n wd s stop) 31)) fun e w1 => e = .returned (.tuple #[.string k, .int .i64 x, .bool r]) ∧ ∃ nq, w1 = (w.alloc (.cells (opv 24 sec n wd s stop) 31)).drewN nq)
    (h2 : ∀ q, Calls Tryz.prog 71 #[.pointer (some ⟨br, 0, none⟩), .string s] ((w.alloc (.cells (opv 24 sec n wd s stop) 31)).drewN q) fun e w1 => e = .returned (.tuple #[.string k, .int .i64 x, .bool r]) ∧ ∃ nq, w1 = ((w.alloc (.cells (opv 24 sec n wd s stop) 31)).drewN q).drewN nq) :
    Calls Tryz.prog 22 #[.pointer (some ⟨d, 0, none⟩), .agg (opv 24 sec n wd s stop), .int .i64 i] w fun e w' => e = .returned (.bool true) ∧ ∃ nq, w' = (w.alloc (.cells (opv 24 sec n wd s stop) 31)).drewN nq := by
  have hi' : (i : Int) < 2 := by omega
  have hdl : d < w.heap.size := World.block_lt_of_cell? _ _ hc
  go_enter Tryz.func22, Tryz.ntmps22
  go_wp2_with fail
  refine h1.mono ?_
  rintro e w1 ⟨rfl, q, rfl⟩
  go_wp2_with fail
  refine (h2 q).mono ?_
  rintro e w1 ⟨rfl, q2, rfl⟩
  clear h1 h2
  go_wp2
  go_ret
  exact ⟨by simp, _, by first | rfl | exact drew2 _ _ _⟩

set_option maxHeartbeats 2000000 in
theorem len_core (L : Nat) (a : Option Addr) (cap : Nat) (h1 : Calls Tryz.prog 72 #[.pointer (some ⟨bt, 0, none⟩)] (w.alloc (.cells (opv 25 sec n wd s stop) 31)) fun e w1 => e = .returned (.int .i64 L) ∧ w1 = w.alloc (.cells (opv 25 sec n wd s stop) 31))
    (h2 : (w.alloc (.cells (opv 25 sec n wd s stop) 31)).cell? ⟨br, 0, none⟩ = some (.slice a L cap)) :
    Calls Tryz.prog 22 #[.pointer (some ⟨d, 0, none⟩), .agg (opv 25 sec n wd s stop), .int .i64 i] w fun e w' => e = .returned (.bool true) ∧ w' = w.alloc (.cells (opv 25 sec n wd s stop) 31) := by
  have hi' : (i : Int) < 2 := by omega
  have hdl : d < w.heap.size := World.block_lt_of_cell? _ _ hc
  go_enter Tryz.func22, Tryz.ntmps22
  go_wp2_with fail
  refine h1.mono ?_
  rintro e w1 ⟨rfl, rfl⟩
  clear h1
  go_wp2
  go_ret
  exact ⟨by simp, rfl⟩
end

section
variable (d i bt br base : Nat) (ks : List ByteArray) (vs : List Int) (kr : List ByteArray) (vr : List Int) (F : List Nat) (sec : Bool) (n wd : Int) (s : ByteArray) (stop : Int) (w : World) (hi : i < 2) (hp : PW w base bt br ks vs kr vr F) (hbase : base ≤ w.heap.size) (hlen : ks.length < 1000000)
  (hc : w.cell? ⟨d, 8 + i, none⟩ = some (.pointer (some ⟨bt, 0, none⟩))) (hcr : w.cell? ⟨d, 18 + i, none⟩ = some (.pointer (some ⟨br, 0, none⟩)))
include hi hp hbase hlen hc hcr

/-- What a step leaves. -/
abbrev Left (base bt br : Nat) (ks : List ByteArray) (F : List Nat) (w w' : World) : Prop := ∃ ks' vs' kr' vr' F', ks'.length ≤ ks.length + 1 ∧ PW w' base bt br ks' vs' kr' vr' F' ∧ Touch F w w' ∧ Newer w.heap.size F F'

omit hi hbase hlen hc hcr in
theorem left_same {w' : World} (ht : Touch [] w w') : Left base bt br ks F w w' :=
  ⟨ks, vs, kr, vr, F, by omega, hp.keep ht (by intro k _ h; simp at h), ht.mono (by simp), Newer.refl _ _⟩

theorem wo_set : Calls Tryz.prog 22 #[.pointer (some ⟨d, 0, none⟩), .agg (opv 21 sec n wd s stop), .int .i64 i] w fun e w' => e = .returned (.bool true) ∧ Left base bt br ks F w w' := by
  obtain ⟨Fs, Fr, hs, hn, hsm, hap, rfl⟩ := hp
  have ha : Touch [] w (w.alloc (.cells (opv 21 sec n wd s stop) 31)) := Touch.alloc _ _ _
  have hs0 := hs.keep ha (by intro k _ h; simp at h)
  have hn0 := hn.keep ha (by intro k _ h; simp at h)
  have hz : w.heap.size ≤ (w.alloc (.cells (opv 21 sec n wd s stop) 31)).heap.size := by simp
  have hsrt := tab_srt hs
  have hbx : ∀ w1, Touch Fs (w.alloc (.cells (opv 21 sec n wd s stop) 31)) w1 → w1.heap[w.heap.size]? = some (.cells (opv 21 sec n wd s stop) 31 (0, 0)) := fun w1 ht1 => box_old (Boxed6.new w (opv 21 sec n wd s stop) 31) ht1 (fun hm => by have := (hs.mem _ hm).2; omega)
  have hlr : kr.length < 1000000 := by rw [hsm.len]; exact hlen
  obtain ⟨p, hpc⟩ := cut_exists sordS hsrt s
  by_cases hf : ks[p]? = some s
  · obtain ⟨j, hj⟩ := (hsm.key s).2 ⟨p, hf⟩
    exact set_core d i bt br sec n wd s stop w hi hc hcr false _ _ (setT_again bt base p n s ks vs Fs _ hs0 hlen hpc hf) (fun w1 h => hbx w1 h.2) (fun w1 h => (rset_again br base j s n kr vr Fr w1 (hn0.keep h.2 hap.symm) hlr hsm.d2 hj).mono fun e w2 ⟨he, h3, h4⟩ => ⟨he, by
      obtain ⟨F', h5, h6, h7⟩ := pw_after hs hn hap h.1 ((ha.mono (by simp)).trans h.2) (Newer.refl _ _) h3 h4 (Newer.refl _ _) (hsm.again n hf hj)
      exact ⟨_, _, _, _, F', by omega, h5, h6, h7⟩⟩)
  · have hno : ∀ q : Nat, ks[q]? ≠ some s := fun q hq => hf (by rw [← hpc.found sordS hsrt q hq]; exact hq)
    have hno2 : ∀ q : Nat, kr[q]? ≠ some s := fun q hq => by
      obtain ⟨q', h'⟩ := (hsm.key _).1 ⟨q, hq⟩
      exact hno q' h'
    have hd : Dst (ins ks p s) := (hsrt.ins sordS hpc hf).dst sordS
    exact set_core d i bt br sec n wd s stop w hi hc hcr true _ _ (setT_fresh bt base p n s ks vs Fs _ hs0 (by omega) hlen hpc hf) (fun w1 ⟨F1, h, ht, hw⟩ => hbx w1 ht) (fun w1 ⟨F1, h, ht, hw⟩ => (rset_fresh br base s n kr vr Fr w1 (hn0.keep ht hap.symm) (by have := ht.size; omega) hlr hno2).mono fun e w2 ⟨he, F2, h3, h4, h5⟩ => ⟨he, by
      obtain ⟨F', h6, h7, h8⟩ := pw_after hs hn hap h ((ha.mono (by simp)).trans ht) (newer_mono hw hz) h3 h4 h5 (hsm.fresh (lt := ltS) n hpc.1 hno hd)
      exact ⟨_, _, _, _, F', by rw [ins_length _ _ _ hpc.1]; omega, h6, h7, h8⟩⟩)

omit hbase in
theorem wo_drop : Calls Tryz.prog 22 #[.pointer (some ⟨d, 0, none⟩), .agg (opv 23 sec n wd s stop), .int .i64 i] w fun e w' => e = .returned (.bool true) ∧ Left base bt br ks F w w' := by
  have hp' := hp
  obtain ⟨Fs, Fr, hs, hn, hsm, hap, rfl⟩ := hp
  have ha : Touch [] w (w.alloc (.cells (opv 23 sec n wd s stop) 31)) := Touch.alloc _ _ _
  have hs0 := hs.keep ha (by intro k _ h; simp at h)
  have hn0 := hn.keep ha (by intro k _ h; simp at h)
  have hsrt := tab_srt hs
  have hbx : ∀ w1, Touch Fs (w.alloc (.cells (opv 23 sec n wd s stop) 31)) w1 → w1.heap[w.heap.size]? = some (.cells (opv 23 sec n wd s stop) 31 (0, 0)) := fun w1 ht1 => box_old (Boxed6.new w (opv 23 sec n wd s stop) 31) ht1 (fun hm => by have := (hs.mem _ hm).2; omega)
  have hlr : kr.length < 1000000 := by rw [hsm.len]; exact hlen
  obtain ⟨p, hpc⟩ := cut_exists sordS hsrt s
  by_cases hf : ks[p]? = some s
  · obtain ⟨j, hj⟩ := (hsm.key s).2 ⟨p, hf⟩
    have hpl : p < ks.length := (List.getElem?_eq_some_iff.1 hf).1
    obtain ⟨m, hm⟩ : ∃ m, m + 1 = kr.length := ⟨kr.length - 1, by have := hsm.len; omega⟩
    obtain ⟨x, hx⟩ : ∃ x, kr[m]? = some x := ⟨_, List.getElem?_eq_getElem (by omega)⟩
    obtain ⟨y, hy⟩ : ∃ y, vr[m]? = some y := ⟨_, List.getElem?_eq_getElem (by have := hsm.l2; omega)⟩
    exact drop_core d i bt br sec n wd s stop w hi hc hcr true _ _ (dropT_yes bt base p s ks vs Fs _ hs0 hlen hpc hf) (fun w1 h => hbx w1 h.2) (fun w1 h => (rdrop_yes br base j m s x y kr vr Fr w1 (hn0.keep h.2 hap.symm) hlr hsm.d2 hj hm hx hy).mono fun e w2 ⟨he, h3, h4⟩ => ⟨he, by
      obtain ⟨F', h5, h6, h7⟩ := pw_after hs hn hap h.1 ((ha.mono (by simp)).trans h.2) (Newer.refl _ _) h3 h4 (Newer.refl _ _) (hsm.drop hf hj hm hx hy ((hsrt.del p hpl).dst sordS))
      exact ⟨_, _, _, _, F', by rw [del_length _ _ hpl]; omega, h5, h6, h7⟩⟩)
  · have hno : ∀ q : Nat, ks[q]? ≠ some s := fun q hq => hf (by rw [← hpc.found sordS hsrt q hq]; exact hq)
    have hno2 : ∀ q : Nat, kr[q]? ≠ some s := fun q hq => by
      obtain ⟨q', h'⟩ := (hsm.key _).1 ⟨q, hq⟩
      exact hno q' h'
    exact drop_core d i bt br sec n wd s stop w hi hc hcr false (fun w1 => w1 = w.alloc (.cells (opv 23 sec n wd s stop) 31)) _ (dropT_no bt base p s ks vs Fs _ hs0 hlen hpc hf) (fun w1 h => by rw [h]; exact Boxed6.new w _ _) (fun w1 h => by
      subst h
      exact (rdrop_no br base s kr vr Fr _ hn0 hlr hno2).mono fun e w2 ⟨he, h3⟩ => ⟨he, by
        subst h3
        exact left_same bt br base ks vs kr vr _ w hp' ha⟩)

omit hbase in
theorem wo_get : Calls Tryz.prog 22 #[.pointer (some ⟨d, 0, none⟩), .agg (opv 22 sec n wd s stop), .int .i64 i] w fun e w' => e = .returned (.bool true) ∧ Left base bt br ks F w w' := by
  have hp' := hp
  obtain ⟨Fs, Fr, hs, hn, hsm, hap, rfl⟩ := hp
  have ha : Touch [] w (w.alloc (.cells (opv 22 sec n wd s stop) 31)) := Touch.alloc _ _ _
  have hs0 := hs.keep ha (by intro k _ h; simp at h)
  have hn0 := hn.keep ha (by intro k _ h; simp at h)
  have hsrt := tab_srt hs
  have hlr : kr.length < 1000000 := by rw [hsm.len]; exact hlen
  obtain ⟨p, hpc⟩ := cut_exists sordS hsrt s
  have hfin : ∀ (e : Ending) (w' : World), (e = .returned (.bool true) ∧ w' = w.alloc (.cells (opv 22 sec n wd s stop) 31)) → e = .returned (.bool true) ∧ Left base bt br ks (Fs ++ Fr) w w' := fun e w' ⟨he, hw⟩ => ⟨he, by rw [hw]; exact left_same bt br base ks vs kr vr _ w hp' ha⟩
  by_cases hf : ks[p]? = some s
  · obtain ⟨j, hj⟩ := (hsm.key s).2 ⟨p, hf⟩
    have hpl : p < ks.length := (List.getElem?_eq_some_iff.1 hf).1
    obtain ⟨x, hx⟩ : ∃ x, vs[p]? = some x := ⟨_, List.getElem?_eq_getElem (by have := hsm.l1; omega)⟩
    obtain ⟨y, hy⟩ : ∃ y, vr[j]? = some y := ⟨_, List.getElem?_eq_getElem (by have := hsm.l2; have := (List.getElem?_eq_some_iff.1 hj).1; omega)⟩
    obtain rfl := hsm.val hf hx hj hy
    exact (get_core d i bt br sec n wd s stop w hi hc hcr x true (tget_yes bt base p s x ks vs Fs _ hs0 hlen hpc hf hx) (rget_yes br base j s x kr vr Fr _ hn0 hlr hsm.d2 hj hy)).mono hfin
  · have hno : ∀ q : Nat, ks[q]? ≠ some s := fun q hq => hf (by rw [← hpc.found sordS hsrt q hq]; exact hq)
    have hno2 : ∀ q : Nat, kr[q]? ≠ some s := fun q hq => by
      obtain ⟨q', h'⟩ := (hsm.key _).1 ⟨q, hq⟩
      exact hno q' h'
    exact (get_core d i bt br sec n wd s stop w hi hc hcr 0 false (getT_no bt base p s ks vs Fs _ hs0 hlen hpc hf) (rget_no br base s kr vr Fr _ hn0 hlr hno2)).mono hfin

omit hbase in
theorem wo_near : Calls Tryz.prog 22 #[.pointer (some ⟨d, 0, none⟩), .agg (opv 24 sec n wd s stop), .int .i64 i] w fun e w' => e = .returned (.bool true) ∧ Left base bt br ks F w w' := by
  have hp' := hp
  obtain ⟨Fs, Fr, hs, hn, hsm, hap, rfl⟩ := hp
  have ha : Touch [] w (w.alloc (.cells (opv 24 sec n wd s stop) 31)) := Touch.alloc _ _ _
  have hs0 := hs.keep ha (by intro k _ h; simp at h)
  have hn0 := hn.keep ha (by intro k _ h; simp at h)
  have hsrt := tab_srt hs
  have hlr : kr.length < 1000000 := by rw [hsm.len]; exact hlen
  obtain ⟨p, hpc⟩ := cut_exists sordS hsrt s
  have hfin : ∀ (e : Ending) (w' : World), (e = .returned (.bool true) ∧ ∃ nq, w' = (w.alloc (.cells (opv 24 sec n wd s stop) 31)).drewN nq) → e = .returned (.bool true) ∧ Left base bt br ks (Fs ++ Fr) w w' := fun e w' ⟨he, q, hw⟩ => ⟨he, by rw [hw]; exact left_same bt br base ks vs kr vr _ w hp' (ha.trans (Touch.drewN _ _ _))⟩
  by_cases hex : ∃ a, Best ltS kr s kr.length (some a)
  · obtain ⟨a, hb⟩ := hex
    obtain ⟨q, x, v, h1, h2, h3, h4, h5⟩ := Best.near sordS hsm hsrt hpc hb
    refine (near_core d i bt br sec n wd s stop w hi hc hcr x v true (nearT_yes bt base p q s x v ks vs Fs _ hs0 hlen hpc h5 h3 h4) (fun q' => ?_)).mono hfin
    refine (rnear_any br base s kr vr Fr _ (hn0.keep (Touch.drewN [] _ q') (by intro k _ h; simp at h)) hlr).mono ?_
    rintro e w' ⟨hw, ⟨h6, h7⟩ | ⟨a', x', v', h6, h7, h8, h9⟩⟩
    · have := h6 a x hb.1 h1
      obtain ⟨_, y, hy, hky, _⟩ := hb
      rw [h1] at hy; cases hy
      rw [this] at hky; cases hky
    · obtain ⟨q2, x2, v2, g1, g2, g3, g4, g5⟩ := Best.near sordS hsm hsrt hpc h6
      rw [h7] at g1; cases g1
      rw [h8] at g2; cases g2
      have hq : q2 = q := by
        rcases h5 with ⟨m1, m2⟩ | ⟨m1, m2⟩
        · rcases g5 with ⟨m3, m4⟩ | ⟨m3, m4⟩
          · omega
          · exact absurd m1 m3
        · rcases g5 with ⟨m3, m4⟩ | ⟨m3, m4⟩
          · exact absurd m3 m1
          · omega
      subst hq
      rw [h3] at g3; cases g3
      rw [h4] at g4; cases g4
      exact ⟨h9, hw⟩
  · have hno := hex
    have hb : Best ltS kr s kr.length none := fun j x hj hx => by
      cases hkx : ltS s x with
      | true => rfl
      | false => exact absurd (best_exists kr s kr.length (Nat.le_refl _) j x hj hx hkx) hno
    obtain ⟨h1, h2⟩ := Best.near sordS hsm hsrt hpc hb
    subst h1
    refine (near_core d i bt br sec n wd s stop w hi hc hcr ⟨#[]⟩ 0 false ((nearT_no bt base s ks vs Fs _ hs0 hlen hpc h2).mono fun e w' ⟨he, hw⟩ => ⟨he, 0, hw⟩) (fun q' => ?_)).mono hfin
    refine (rnear_any br base s kr vr Fr _ (hn0.keep (Touch.drewN [] _ q') (by intro k _ h; simp at h)) hlr).mono ?_
    rintro e w' ⟨hw, ⟨h6, h7⟩ | ⟨a', x', v', h6, h7, h8, h9⟩⟩
    · exact ⟨h7, hw⟩
    · exact absurd ⟨a', h6⟩ hno

omit hbase hlen in
theorem wo_len : Calls Tryz.prog 22 #[.pointer (some ⟨d, 0, none⟩), .agg (opv 25 sec n wd s stop), .int .i64 i] w fun e w' => e = .returned (.bool true) ∧ Left base bt br ks F w w' := by
  have hp' := hp
  obtain ⟨Fs, Fr, hs, hn, hsm, hap, rfl⟩ := hp
  have ha : Touch [] w (w.alloc (.cells (opv 25 sec n wd s stop) 31)) := Touch.alloc _ _ _
  have hs0 := hs.keep ha (by intro k _ h; simp at h)
  have hn0 := hn.keep ha (by intro k _ h; simp at h)
  have hfin : ∀ (e : Ending) (w' : World), (e = .returned (.bool true) ∧ w' = w.alloc (.cells (opv 25 sec n wd s stop) 31)) → e = .returned (.bool true) ∧ Left base bt br ks (Fs ++ Fr) w w' := fun e w' ⟨he, hw⟩ => ⟨he, by rw [hw]; exact left_same bt br base ks vs kr vr _ w hp' ha⟩
  obtain ⟨vk, vv, hh, _, hk, _⟩ := hs0
  obtain ⟨vk2, vv2, hh2, _, hk2, _⟩ := hn0
  have c0 := heap_cell hh 0
  have c2 := heap_cell hh2 0
  simp only [List.getElem?_toArray, List.getElem?_cons_zero] at c0 c2
  obtain ⟨a2, cap2, rfl, _⟩ := row_sl hk2
  rw [hsm.len] at c2
  exact (len_core d i bt br sec n wd s stop w hi hc hcr ks.length a2 cap2 (lenT_any bt base ks.length vk _ _ c0 hk) c2).mono hfin
end

end Go.Proofs.YtcjblafohfiiaabGreat.Nd

/-
  A table gone through: the closure.
-/
set_option linter.unusedVariables false
set_option maxRecDepth 20000
namespace Go.Proofs.YtcjblafohfiiaabGreat.Nd
open Go.RowKit Go.Shelf

/-- What the closure takes: its variables, the keys that are wanted, the document's table. -/
structure Sv (okB nB wB kB dB iB sB d i br base kb : Nat) (kv : Value) (ks kr : List ByteArray) (vr : List Int) (want : Nat) (stop : Int) (Fr : List Nat) (j : Nat) (W : World) : Prop where
  ok : Boxed W okB 4 (.bool true)
  n : Boxed W nB 3 (.int .i64 j)
  wt : Boxed W wB 3 (.int .i64 want)
  ky : Boxed W kB 72 kv
  dk : Boxed W dB 26 (.pointer (some ⟨d, 0, none⟩))
  ix : Boxed W iB 3 (.int .i64 i)
  st : Boxed W sB 3 (.int .i64 stop)
  row : W.ownsRow kb 9 1 kv ks.length (strs ks)
  rf : Rf W base br kr vr Fr
  c : W.cell? ⟨d, 18 + i, none⟩ = some (.pointer (some ⟨br, 0, none⟩))
  a1 : nB ≠ wB ∧ nB ≠ iB ∧ nB ≠ sB
  a2 : some okB ≠ kv.ownBlock ∧ some nB ≠ kv.ownBlock
  a3 : okB ≠ d ∧ nB ≠ d
  a4 : okB ∉ Fr ∧ nB ∉ Fr

theorem Sv.turn {okB nB wB kB dB iB sB d i br base kb : Nat} {kv : Value} {ks kr : List ByteArray} {vr : List Int} {want : Nat} {stop : Int} {Fr : List Nat} {j j' : Nat} {W W' : World} (h : Sv okB nB wB kB dB iB sB d i br base kb kv ks kr vr want stop Fr j W) (ht : Touch [okB, nB] W W') (ho : Boxed W' okB 4 (.bool true)) (hn : Boxed W' nB 3 (.int .i64 j')) :
    Sv okB nB wB kB dB iB sB d i br base kb kv ks kr vr want stop Fr j' W' := by
  obtain ⟨h1, h2, h3, h4, h5, h6, h7, h8, h9, h10, a1, a2, a3, a4⟩ := h
  have o_w : wB ≠ okB := boxed_ne h3 h1 (by decide)
  have o_k : kB ≠ okB := boxed_ne h4 h1 (by decide)
  have n_k : kB ≠ nB := boxed_ne h4 h2 (by decide)
  have o_d : dB ≠ okB := boxed_ne h5 h1 (by decide)
  have n_d : dB ≠ nB := boxed_ne h5 h2 (by decide)
  have o_i : iB ≠ okB := boxed_ne h6 h1 (by decide)
  have o_s : sB ≠ okB := boxed_ne h7 h1 (by decide)
  refine ⟨ho, hn, box_touch h3 ht (by simp [o_w, a1.1.symm]), box_touch h4 ht (by simp [o_k, n_k]), box_touch h5 ht (by simp [o_d, n_d]), box_touch h6 ht (by simp [o_i, a1.2.1.symm]), box_touch h7 ht (by simp [o_s, a1.2.2.symm]), row_keep h8 ht (fun q hq hm => ?_), h9.keep ht (fun q hq hm => ?_), ?_, a1, a2, a3, a4⟩
  · simp at hm
    rcases hm with rfl | rfl
    · exact a2.1 hq.symm
    · exact a2.2 hq.symm
  · simp at hm
    rcases hm with rfl | rfl
    · exact a4.1 hq
    · exact a4.2 hq
  · rw [World.cell?_of_block (w := W) (ht.block d (World.block_lt_of_cell? _ _ h10) (by simp [a3.1.symm, a3.2.symm]))]
    exact h10

set_option maxHeartbeats 4000000 in
theorem all1_core (okB nB wB kB dB iB sB d i br base kb : Nat) (kv : Value) (ks kr : List ByteArray) (vr : List Int) (want : Nat) (stop : Int) (Fr : List Nat) (j : Nat) (W : World) (h : Sv okB nB wB kB dB iB sB d i br base kb kv ks kr vr want stop Fr j W) (k : ByteArray) (x : Int) (hk : ks[j]? = some k) (hi : i < 2) (hjw : j < want) (hks : ks.length < 1000000)
    (hg : ∀ W1, Rf W1 base br kr vr Fr → Calls Tryz.prog 67 #[.pointer (some ⟨br, 0, none⟩), .string k] W1 fun e w' => e = .returned (.tuple #[.int .i64 x, .bool true]) ∧ w' = W1) (r : Bool) (hr : ((j : Int) + 1 == stop) = !r) :
    Calls Tryz.prog 102 (#[.string k, .int .i64 x] ++ #[.pointer (some ⟨okB, 0, none⟩), .pointer (some ⟨nB, 0, none⟩), .pointer (some ⟨wB, 0, none⟩), .pointer (some ⟨kB, 0, none⟩), .pointer (some ⟨dB, 0, none⟩), .pointer (some ⟨iB, 0, none⟩), .pointer (some ⟨sB, 0, none⟩)]) W fun e W' => e = .returned (.bool r) ∧
      Sv okB nB wB kB dB iB sB d i br base kb kv ks kr vr want stop Fr (j + 1) W' ∧ Touch [okB, nB] W W' := by
  have hjl : j < ks.length := (List.getElem?_eq_some_iff.1 hk).1
  have hji : (j : Int) < (ks.length : Int) := by omega
  have hjw' : (j : Int) < (want : Int) := by omega
  have hi' : (i : Int) < 2 := by omega
  have n_o : nB ≠ okB := boxed_ne h.n h.ok (by decide)
  obtain ⟨a, cap, hkv, hcell⟩ := row_sl h.row
  obtain ⟨g, ha, hcx, -⟩ := hcell j (.string k) (by simp [hk])
  subst ha
  have c1 := h.ok.cell
  have f1 := h.ok.frozen
  have c2 := h.n.cell
  have c3 := h.wt.cell
  have c4 := h.ky.cell
  rw [hkv] at c4
  have t1 : Touch [okB, nB] W (W.setCell ⟨okB, 0, none⟩ (.bool true)) := Touch.setCell _ _ _ (by simp)
  have h1 := h.turn t1 (h.ok.set _) (h.n.other n_o _)
  have Hg : Hid (∀ W1, Rf W1 base br kr vr Fr → Calls Tryz.prog 67 #[.pointer (some ⟨br, 0, none⟩), .string k] W1 fun e w' => e = .returned (.tuple #[.int .i64 x, .bool true]) ∧ w' = W1) := hg
  clear hcell hg hk hkv h
  simp only [List.append_toArray, List.nil_append, List.cons_append]
  go_enter Tryz.func102, Tryz.ntmps102
  go_upto_region 2 with fail
  generalize W.setCell ⟨okB, 0, none⟩ (.bool true) = W1 at t1 h1 ⊢
  clear c1 f1 c2 c3 c4 hcx
  have d1 := h1.ok.cell
  have d5 := h1.dk.cell
  have d6 := h1.ix.cell
  have d7 := h1.c
  have hgq : ∀ q, Calls Tryz.prog 67 #[.pointer (some ⟨br, 0, none⟩), .string k] (W1.drewN q) fun e w' => e = .returned (.tuple #[.int .i64 x, .bool true]) ∧ w' = W1.drewN q := fun q => Hg.out _ (h1.rf.keep (Touch.drewN [] W1 q) (by intro k _ h; simp at h))
  have H1 : Hid (Sv okB nB wB kB dB iB sB d i br base kb kv ks kr vr want stop Fr j W1) := h1
  have T1 : Hid (Touch [okB, nB] W W1) := t1
  clear h1 t1 Hg
  go_wp2_with fail
  go_quiet ((go_at_call 67; exact Calls.quiet_of_same (hgq _)))
  clear hgq d1 d5 d6 d7
  have H2 : Hid (Sv okB nB wB kB dB iB sB d i br base kb kv ks kr vr want stop Fr j (W1.drewN nq)) := H1.out.turn (Touch.drewN _ _ _) H1.out.ok H1.out.n
  have T2 : Hid (Touch [okB, nB] W (W1.drewN nq)) := T1.out.trans (Touch.drewN _ _ _)
  clear H1 T1
  go_upto_region 4 with fail
  generalize W1.drewN nq = W2 at H2 T2 ⊢
  have e1 := H2.out.ok.cell
  have f1 := H2.out.ok.frozen
  have t3 : Touch [okB, nB] W2 (W2.setCell ⟨okB, 0, none⟩ (.bool true)) := Touch.setCell _ _ _ (by simp)
  have H3 : Hid (Sv okB nB wB kB dB iB sB d i br base kb kv ks kr vr want stop Fr j (W2.setCell ⟨okB, 0, none⟩ (.bool true))) := H2.out.turn t3 (H2.out.ok.set _) (H2.out.n.other n_o _)
  have T3 : Hid (Touch [okB, nB] W (W2.setCell ⟨okB, 0, none⟩ (.bool true))) := T2.out.trans t3
  clear H2 T2 t3
  go_upto_region 5 with fail
  generalize W2.setCell ⟨okB, 0, none⟩ (.bool true) = W3 at H3 T3 ⊢
  clear e1 f1
  have e2 := H3.out.n.cell
  have f2 := H3.out.n.frozen
  have t4 : Touch [okB, nB] W3 (W3.setCell ⟨nB, 0, none⟩ (.int .i64 ((j : Int) + 1))) := Touch.setCell _ _ _ (by simp)
  have H4 : Hid (Sv okB nB wB kB dB iB sB d i br base kb kv ks kr vr want stop Fr (j + 1) (W3.setCell ⟨nB, 0, none⟩ (.int .i64 ((j : Int) + 1)))) := H3.out.turn t4 (H3.out.ok.other n_o.symm _) (H3.out.n.set _)
  have T4 : Hid (Touch [okB, nB] W (W3.setCell ⟨nB, 0, none⟩ (.int .i64 ((j : Int) + 1)))) := T3.out.trans t4
  clear H3 T3 t4
  go_upto_region 6 with fail
  generalize W3.setCell ⟨nB, 0, none⟩ (.int .i64 ((j : Int) + 1)) = W4 at H4 T4 ⊢
  clear e2 f2
  have g1 := H4.out.ok.cell
  have g2 := H4.out.n.cell
  have g3 := H4.out.st.cell
  have hcst : ((j + 1 : Nat) : Int) = (j : Int) + 1 := by omega
  rw [hcst] at g2
  go_wp2
  go_ret
  exact ⟨by simp [bne, hr], H4.out, T4.out⟩

end Go.Proofs.YtcjblafohfiiaabGreat.Nd

/-
  The table of numbers by text, gone through.
-/
set_option linter.unusedVariables false
namespace Go.Proofs.YtcjblafohfiiaabGreat.Nd
open Go.RowKit Go.Shelf

/-- What whoever goes through a table is told: J between two keys, Jx behind one at which it said no more; g, h: blocks that it leaves alone. -/
def WalkedP (P : Program) (fz : Nat) (Bl : Nat) (ks : List ByteArray) (vs : List Int) (W : World) : Prop :=
  ∀ (k : Nat) (caps : Array Value) (J Jx : Nat → Nat → Nat → World → Prop), (∀ args w, (callFunc k args).run P w = .ok (.enter k args) w) →
    (∀ g h W1, Below W.heap.size W W1 → W.heap.size ≤ g → g < W1.heap.size → W.heap.size ≤ h → h < W1.heap.size → J g h 0 W1) →
    (∀ g h j x v W2, J g h j W2 → ks[j]? = some x → vs[j]? = some v → Calls P k (#[.string x, .int .i64 v] ++ caps) W2 fun e W3 => W3.heap[g]? = W2.heap[g]? ∧ W3.heap[h]? = W2.heap[h]? ∧ ((e = .returned (.bool true) ∧ J g h (j + 1) W3) ∨ (e = .returned (.bool false) ∧ Jx g h (j + 1) W3))) →
    Calls P fz #[.func (.func k) #[] caps, .pointer (some ⟨Bl, 0, none⟩)] W fun e W' => (∃ r, e = .returned r) ∧ ∃ g h, J g h ks.length W' ∨ ∃ j, j ≤ ks.length ∧ Jx g h j W'

theorem row_cells {w : World} {base g cap n e : Nat} {α : Type} {xs : List α} {enc : α → Value} (h : w.ownsRow base e 1 (.slice (some ⟨g, 0, none⟩) n cap) n (xs.map enc)) (hn : n = xs.length) :
    ∃ cur, w.heap[g]? = some (.cells cur e (0, 0)) ∧ base ≤ g ∧ ∀ (j : Nat) x, xs[j]? = some x → cur[j]? = some (enc x) := by
  rcases h.2 with ⟨h0, _⟩ | ⟨g', cap', cur, he, hb, hg, h1, hm, hs, ht⟩
  · cases h0
  · simp only [Value.slice.injEq, Option.some.injEq, Addr.mk.injEq, and_true] at he
    obtain ⟨rfl, -, -⟩ := he
    refine ⟨cur, hg, hb, fun j x hj => ?_⟩
    have hjl := (List.getElem?_eq_some_iff.1 hj).1
    have h1 : (xs.map enc)[j]? = some (enc x) := by simp [hj]
    rw [← h1, ← ht, List.getElem?_take, if_pos (by omega), Array.getElem?_toList]

set_option maxHeartbeats 4000000 in
theorem allS_any (Bl bt n cap n' cap' : Nat) (a a' : Option Addr) (ks : List ByteArray) (vs : List Int) (W : World) (hbl : W.cell? ⟨Bl, 0, none⟩ = some (.pointer (some ⟨bt, 0, none⟩))) (hc0 : W.cell? ⟨bt, 0, none⟩ = some (.slice a n cap)) (hc1 : W.cell? ⟨bt, 1, none⟩ = some (.slice a' n' cap'))
    (hk : Tx.SliceIs W.heap.size W (.slice a n cap) ks) (hv : SliceIs W.heap.size W (.slice a' n' cap') vs) (hl : vs.length = ks.length) (hlen : ks.length < 1000000) :
    WalkedP Tryz.prog 122 Bl ks vs W := by
  intro k caps J Jx ek hstart hcb
  have Hcb : Hid (∀ g h j x v W2, J g h j W2 → ks[j]? = some x → vs[j]? = some v → Calls Tryz.prog k (#[.string x, .int .i64 v] ++ caps) W2 fun e W3 => W3.heap[g]? = W2.heap[g]? ∧ W3.heap[h]? = W2.heap[h]? ∧ ((e = .returned (.bool true) ∧ J g h (j + 1) W3) ∨ (e = .returned (.bool false) ∧ Jx g h (j + 1) W3))) := hcb
  clear hcb
  have hBl := World.block_lt_of_cell? _ _ hbl
  have hbt := World.block_lt_of_cell? _ _ hc0
  simp only at hBl hbt
  have bX := Boxed.new W 68 (.slice a' n' cap')
  have hB1 : Below W.heap.size W (W.alloc (.cells #[.slice a' n' cap'] 68)) := (Below.refl _ W).alloc (Nat.le_refl _) _
  have hseq := valuesI_full W.heap.size (W.alloc (.cells #[.slice a' n' cap'] 68)).heap.size (.slice a' n' cap') vs (W.alloc (.cells #[.slice a' n' cap'] 68)) (by simp) (Nat.le_refl _) (by omega) bX.cell (by
    rcases hv.below hB1 (Nat.le_refl _) with h | ⟨b, off, cap, e, hb, hc⟩
    · exact .inl h
    · exact .inr ⟨b, off, cap, e, by simp; omega, hc⟩)
  have hcop := copiedI_any 124 _ vs (fun _ => False) _ (enters_of Tryz.func124 (by kernel_rfl) rfl) hseq (fun k h => h.elim) (by omega)
  clear hseq bX
  go_enter Tryz.func122, Tryz.ntmps122
  go_wp2_with fail
  refine (valuesI_any _ _ _ _).mono ?_
  rintro e w1 ⟨rfl, rfl⟩
  go_wp2_with fail
  refine hcop.mono ?_
  rintro e W2 ⟨v2, rfl, hr2, hB2⟩
  have hB2w : Below W.heap.size W W2 := hB1.trans (hB2.mono (by simp))
  have hsz2 : W.heap.size < W2.heap.size := by have := hB2.size; simp at this; omega
  have c2l := (hB2w.cell (p := ⟨Bl, 0, none⟩) hBl).trans hbl
  have c20 := (hB2w.cell (p := ⟨bt, 0, none⟩) hbt).trans hc0
  have bY := Boxed.new W2 72 (.slice a n cap)
  have hB3 : Below W2.heap.size W2 (W2.alloc (.cells #[.slice a n cap] 72)) := (Below.refl _ W2).alloc (Nat.le_refl _) _
  have hseq3 := Tx.valuesI_full W2.heap.size (W2.alloc (.cells #[.slice a n cap] 72)).heap.size (.slice a n cap) ks (W2.alloc (.cells #[.slice a n cap] 72)) (by simp) (Nat.le_refl _) hlen bY.cell (by
    rcases hk.below (hB2w.trans (hB3.mono hB2w.size)) (Nat.le_refl _) with h | ⟨b, off, cap, e, hb, hc⟩
    · exact .inl h
    · exact .inr ⟨b, off, cap, e, by simp; omega, hc⟩)
  have hcop3 := Tx.copiedI_any 125 _ ks (fun _ => False) _ (enters_of Tryz.func125 (by kernel_rfl) rfl) hseq3 (fun k h => h.elim) hlen
  clear hseq3 bY hcop hbl hc0 hc1
  go_wp2_with fail
  refine (Tx.valuesI_any _ _ _ _).mono ?_
  rintro e w1 ⟨rfl, rfl⟩
  go_wp2_with fail
  refine hcop3.mono ?_
  rintro e W4 ⟨v4, rfl, hr4, hB4⟩
  have hB24 : Below W2.heap.size W2 W4 := hB3.trans (hB4.mono (by simp))
  have hB4w : Below W.heap.size W W4 := hB2w.trans (hB24.mono hB2w.size)
  have hsz4 : W.heap.size < W4.heap.size := Nat.lt_of_lt_of_le hsz2 hB24.size
  have hr2' : W4.ownsRow W.heap.size 3 1 v2 vs.length (ints vs) := row_base (row_keep2 (G := []) hr2 ⟨hB24.os, hB24.tape, hB24.output, hB24.size, fun k hk _ => hB24.block k hk⟩ (by simp)) (by simp)
  have hr4' : W4.ownsRow W.heap.size 9 1 v4 ks.length (strs ks) := row_base hr4 (by simp; omega)
  clear hcop3 hr2 hr4 hB2 hB3 hB4 hB24 hB2w hB1 c2l c20 hk hv
  obtain ⟨ak, ck, rfl⟩ : ∃ a c, v4 = .slice a ks.length c := by
    rcases hr4'.2 with ⟨rfl, h0⟩ | ⟨g, cap, cur, rfl, _⟩
    · exact ⟨none, 0, by rw [h0]⟩
    · exact ⟨_, _, rfl⟩
  obtain ⟨av, cv, rfl⟩ : ∃ a c, v2 = .slice a ks.length c := by
    rcases hr2'.2 with ⟨rfl, h0⟩ | ⟨g, cap, cur, rfl, _⟩
    · exact ⟨none, 0, by rw [← hl, h0]⟩
    · exact ⟨_, _, by rw [hl]⟩
  by_cases hks : ks = []
  · subst hks
    clear hr2' hr4' Hcb
    go_wp2
    refine wp_loop_rounds 1 ?_
    rw [rounds_succ]
    go_wp2
    go_end0
    exact ⟨⟨_, rfl⟩, W.heap.size, W.heap.size, .inl (hstart _ _ _ hB4w (Nat.le_refl _) hsz4 (Nat.le_refl _) hsz4)⟩
  · have hpos : 0 < ks.length := List.length_pos_iff.2 hks
    obtain ⟨g, curk, hak, hgW, Hgg, Hk⟩ : ∃ g cur, ak = some ⟨g, 0, none⟩ ∧ W.heap.size ≤ g ∧ Hid (W4.heap[g]? = some (.cells cur 9 (0, 0))) ∧ Hid (∀ (j : Nat) x, ks[j]? = some x → cur[j]? = some (.string x)) := by
      rcases hr4'.2 with ⟨h0, h1⟩ | ⟨g, cap, cur, he, _⟩
      · omega
      · simp only [Value.slice.injEq] at he
        obtain ⟨rfl, -, rfl⟩ := he
        obtain ⟨cur, h1, h2, h3⟩ := row_cells hr4' rfl
        exact ⟨g, cur, rfl, h2, h1, h3⟩
    obtain ⟨h, curv, hav, hhW, Hhh, Hv⟩ : ∃ h cur, av = some ⟨h, 0, none⟩ ∧ W.heap.size ≤ h ∧ Hid (W4.heap[h]? = some (.cells cur 3 (0, 0))) ∧ Hid (∀ (j : Nat) x, vs[j]? = some x → cur[j]? = some (.int .i64 x)) := by
      rcases hr2'.2 with ⟨h0, h1⟩ | ⟨g, cap, cur, he, _⟩
      · omega
      · simp only [Value.slice.injEq] at he
        obtain ⟨rfl, -, rfl⟩ := he
        rw [← hl] at hr2'
        obtain ⟨cur, h1, h2, h3⟩ := row_cells hr2' rfl
        exact ⟨g, cur, rfl, h2, h1, h3⟩
    subst hak hav
    have hJ0 := hstart g h W4 hB4w hgW (heap_lt Hgg.out) hhW (heap_lt Hhh.out)
    clear hstart hr4' hr2' hB4w hsz4 hsz2
    go_wp2
    go_loopw [19] (fun i wr => ∃ j : Nat, j ≤ ks.length ∧ i = .int .i64 j ∧ J g h j wr ∧ wr.heap[g]? = some (.cells curk 9 (0, 0)) ∧ wr.heap[h]? = some (.cells curv 3 (0, 0))) (fun i _ => ks.length - (intOf i).toNat)
    case atStart => exact ⟨0, Nat.zero_le _, rfl, hJ0, Hgg.out, Hhh.out⟩
    case round =>
      obtain ⟨j, hj, rfl, hJs, hgr, hhr⟩ := hrel
      have Hgr : Hid (wr.heap[g]? = some (.cells curk 9 (0, 0))) := hgr
      have Hhr : Hid (wr.heap[h]? = some (.cells curv 3 (0, 0))) := hhr
      by_cases hlt : j < ks.length
      · obtain ⟨x, hx⟩ : ∃ x, ks[j]? = some x := ⟨_, List.getElem?_eq_getElem hlt⟩
        obtain ⟨v, hv⟩ : ∃ v, vs[j]? = some v := ⟨_, List.getElem?_eq_getElem (by omega)⟩
        have hcx : wr.cell? ⟨g, j, none⟩ = some (.string x) := (heap_cell hgr j).trans (Hk.out j x hx)
        have hcv : wr.cell? ⟨h, j, none⟩ = some (.int .i64 v) := (heap_cell hhr j).trans (Hv.out j v hv)
        have hcal := Hcb.out g h j x v wr hJs hx hv
        clear hx hv hgr hhr
        have hji : (j : Int) < ks.length := by omega
        go_wp2_with fail
        refine hcal.mono ?_
        rintro e W3 ⟨hg3, hh3, ⟨rfl, hJ3⟩ | ⟨rfl, hJx3⟩⟩
        · have Hg3 : Hid (W3.heap[g]? = some (.cells curk 9 (0, 0))) := hg3.trans Hgr.out
          have Hh3 : Hid (W3.heap[h]? = some (.cells curv 3 (0, 0))) := hh3.trans Hhr.out
          clear hg3 hh3 hcal
          go_wp2
          go_roundw
          case rel => exact ⟨j + 1, hlt, by go_num, hJ3, Hg3.out, Hh3.out⟩
          case measure => simp [intOf]; omega
        · clear hg3 hh3 hcal
          go_wp2
          refine bodyPost_ret (results_none rfl _ _ _) rfl ?_
          exact ⟨⟨_, rfl⟩, g, h, .inr ⟨j + 1, hlt, hJx3⟩⟩
      · obtain rfl : j = ks.length := by omega
        clear hgr hhr
        go_wp2
        go_end0
        exact ⟨⟨_, rfl⟩, g, h, .inl hJs⟩

theorem tab_walked {W : World} {base b Bl : Nat} {ks : List ByteArray} {vs : List Int} {F : List Nat} (h : TTab W base b ks vs F) (hbl : W.cell? ⟨Bl, 0, none⟩ = some (.pointer (some ⟨b, 0, none⟩))) (hlen : ks.length < 1000000) : WalkedP Tryz.prog 122 Bl ks vs W := by
  obtain ⟨vk, vv, hh, hb, hk, hv, hl, hs, rfl⟩ := h
  have h0 := heap_cell hh 0
  have h1 := heap_cell hh 1
  simp only [List.getElem?_toArray, List.getElem?_cons_zero, List.getElem?_cons_succ] at h0 h1
  have s0 := Tx.slice_of_row hk rfl (Nat.le_refl _)
  have s1 := slice_of_row hv rfl (Nat.le_refl _)
  obtain ⟨a, n, c, rfl⟩ : ∃ a n c, vk = .slice a n c := by rcases s0 with ⟨rfl, _⟩ | ⟨_, _, _, rfl, _⟩ <;> exact ⟨_, _, _, rfl⟩
  obtain ⟨a', n', c', rfl⟩ : ∃ a n c, vv = .slice a n c := by rcases s1 with ⟨rfl, _⟩ | ⟨_, _, _, rfl, _⟩ <;> exact ⟨_, _, _, rfl⟩
  exact allS_any Bl b _ _ _ _ _ _ ks vs W hbl h0 h1 s0 s1 hl hlen

theorem tall_any (bt : Nat) (w : World) :
    Calls Tryz.prog 100 #[.pointer (some ⟨bt, 0, none⟩)] w fun e w' => e = .returned (.func (.func 122) #[] #[.pointer (some ⟨w.heap.size, 0, none⟩)]) ∧ w' = w.alloc (.cells #[.pointer (some ⟨bt, 0, none⟩)] 41) := by
  go_enter Tryz.func100, Tryz.ntmps100
  go_wp2
  go_ret
  exact ⟨rfl, rfl⟩

theorem seq_not_nil (Bl : Nat) (W : World) : (binOp BinOp.eql 147 (.func (.func 122) #[] #[.pointer (some ⟨Bl, 0, none⟩)]) .nilFunc).run Tryz.prog W = .ok (.bool false) W := by
  kernel_rfl

end Go.Proofs.YtcjblafohfiiaabGreat.Nd

/-
  A table gone through twice.
-/
set_option linter.unusedVariables false
set_option maxRecDepth 20000
namespace Go.Proofs.YtcjblafohfiiaabGreat.Nd
open Go.RowKit Go.Shelf

/-- One walk by the closure. -/
theorem walk_all (okB nB wB kB dB iB sB d i br bt base kb Bl : Nat) (kv : Value) (ks kr : List ByteArray) (vs vr : List Int) (stop : Int) (Ft Fr : List Nat) (W : World) (h : Sv okB nB wB kB dB iB sB d i br base kb kv ks kr vr (cutTo ks.length stop) stop Fr 0 W) (ht : TTab W base bt ks vs Ft) (hbl : W.cell? ⟨Bl, 0, none⟩ = some (.pointer (some ⟨bt, 0, none⟩))) (hsm : Same ks vs kr vr) (hi : i < 2) (hlen : ks.length < 1000000) :
    Calls Tryz.prog 122 #[.func (.func 102) #[] #[.pointer (some ⟨okB, 0, none⟩), .pointer (some ⟨nB, 0, none⟩), .pointer (some ⟨wB, 0, none⟩), .pointer (some ⟨kB, 0, none⟩), .pointer (some ⟨dB, 0, none⟩), .pointer (some ⟨iB, 0, none⟩), .pointer (some ⟨sB, 0, none⟩)], .pointer (some ⟨Bl, 0, none⟩)] W fun e W' => (∃ r, e = .returned r) ∧
      Sv okB nB wB kB dB iB sB d i br base kb kv ks kr vr (cutTo ks.length stop) stop Fr (cutTo ks.length stop) W' ∧ Touch [okB, nB] W W' := by
  have ho := h.ok.lt
  have hn := h.n.lt
  have hlr : kr.length < 1000000 := by rw [hsm.len]; exact hlen
  refine (tab_walked ht hbl hlen 102 _ (fun g q j W2 => W.heap.size ≤ g ∧ g < W2.heap.size ∧ W.heap.size ≤ q ∧ q < W2.heap.size ∧ ¬ (1 ≤ stop ∧ stop ≤ j) ∧ Touch [okB, nB] W W2 ∧ Sv okB nB wB kB dB iB sB d i br base kb kv ks kr vr (cutTo ks.length stop) stop Fr j W2)
    (fun g q j W2 => (j : Int) = stop ∧ 1 ≤ stop ∧ Touch [okB, nB] W W2 ∧ Sv okB nB wB kB dB iB sB d i br base kb kv ks kr vr (cutTo ks.length stop) stop Fr j W2) (enters_of Tryz.func102 (by kernel_rfl) rfl) ?_ ?_).mono ?_
  · intro g q W1 hB1 hg hg1 hq hq1
    have hT : Touch [okB, nB] W W1 := Touch.of_below hB1 _
    exact ⟨hg, hg1, hq, hq1, by simp; omega, hT, h.turn hT ((hB1.block _ ho).trans h.ok) ((hB1.block _ hn).trans h.n)⟩
  · rintro g q j k x W2 ⟨hg, hg2, hq, hq2, hns, hT, hI⟩ hk hx
    have hjl : j < ks.length := (List.getElem?_eq_some_iff.1 hk).1
    have hjw : j < cutTo ks.length stop := by unfold cutTo; split <;> omega
    obtain ⟨j', hj', hv'⟩ := (hsm.iff k x).2 ⟨j, hk, hx⟩
    have hget : ∀ W1, Rf W1 base br kr vr Fr → Calls Tryz.prog 67 #[.pointer (some ⟨br, 0, none⟩), .string k] W1 fun e w' => e = .returned (.tuple #[.int .i64 x, .bool true]) ∧ w' = W1 := fun W1 hr1 => rget_yes br base j' k x kr vr Fr W1 hr1 hlr hsm.d2 hj' hv'
    have hgk : ∀ b, W.heap.size ≤ b → b ∉ [okB, nB] := fun b hb hm => by simp at hm; omega
    by_cases hs : (j : Int) + 1 = stop
    · refine (all1_core okB nB wB kB dB iB sB d i br base kb kv ks kr vr _ stop Fr j W2 hI k x hk hi hjw hlen hget false (by simpa using hs)).mono ?_
      rintro e W3 ⟨rfl, hI3, hT3⟩
      exact ⟨hT3.block g hg2 (hgk g hg), hT3.block q hq2 (hgk q hq), .inr ⟨rfl, by omega, by omega, hT.trans hT3, hI3⟩⟩
    · refine (all1_core okB nB wB kB dB iB sB d i br base kb kv ks kr vr _ stop Fr j W2 hI k x hk hi hjw hlen hget true (by simpa using hs)).mono ?_
      rintro e W3 ⟨rfl, hI3, hT3⟩
      exact ⟨hT3.block g hg2 (hgk g hg), hT3.block q hq2 (hgk q hq), .inl ⟨rfl, hg, Nat.lt_of_lt_of_le hg2 hT3.size, hq, Nat.lt_of_lt_of_le hq2 hT3.size, by omega, hT.trans hT3, hI3⟩⟩
  · rintro e W' ⟨hr, g, q, ⟨-, -, -, -, hns, hT, hI⟩ | ⟨j, hj, hjs, h1, hT, hI⟩⟩
    · have hc : cutTo ks.length stop = ks.length := by unfold cutTo; rw [if_neg (by omega)]
      rw [hc] at hI ⊢
      exact ⟨hr, hI, hT⟩
    · have hc : cutTo ks.length stop = j := by unfold cutTo; split <;> omega
      rw [hc] at hI ⊢
      exact ⟨hr, hI, hT⟩

theorem key_box {v w1 : World} {z : Value} {t : TypeId} (l : Touch [] (v.alloc (.cells #[z] t)).drew w1) : Hid (Boxed w1 v.heap.size t z) ∧ Below v.heap.size v w1 := by
  have b0 : Touch [] v (v.alloc (.cells #[z] t)).drew := (Touch.alloc _ _ _).trans (Touch.drew _ _)
  have x0 := Boxed.new v t z
  have hlt : v.heap.size < (v.alloc (.cells #[z] t)).drew.heap.size := by show v.heap.size < (v.alloc (.cells #[z] t)).heap.size; simp
  exact ⟨(l.block v.heap.size hlt (by simp)).trans x0, (b0.trans l).below (Nat.le_refl _) (by simp)⟩

set_option maxHeartbeats 8000000 in
theorem all_any (d i bt br base : Nat) (ks : List ByteArray) (vs : List Int) (kr : List ByteArray) (vr : List Int) (F : List Nat) (stop : Int) (w : World) (hi : i < 2) (hp : PW w base bt br ks vs kr vr F) (hlen : ks.length < 1000000)
    (hc : w.cell? ⟨d, 8 + i, none⟩ = some (.pointer (some ⟨bt, 0, none⟩))) (hcr : w.cell? ⟨d, 18 + i, none⟩ = some (.pointer (some ⟨br, 0, none⟩))) :
    Calls Tryz.prog 73 #[.pointer (some ⟨d, 0, none⟩), .int .i64 stop, .int .i64 i] w fun e w' => e = .returned (.bool true) ∧ Touch [] w w' := by
  obtain ⟨Ft, Fr, hs, hn, hsm, hap, rfl⟩ := hp
  have hi' : (i : Int) < 2 := by omega
  have hdl : d < w.heap.size := World.block_lt_of_cell? _ _ hc
  have hsrt := tab_srt hs
  have hlr : kr.length < 1000000 := by rw [hsm.len]; exact hlen
  have hnf : ∀ (Bl : Nat) (W : World), (binOp BinOp.eql 147 (.func (.func 122) #[] #[.pointer (some ⟨Bl, 0, none⟩)]) .nilFunc).run Tryz.prog W = .ok (.bool false) W := seq_not_nil
  have b1 := Boxed.new w 26 (.pointer (some ⟨d, 0, none⟩))
  have b2 := Boxed.new (w.alloc (.cells #[.pointer (some ⟨d, 0, none⟩)] 26)) 3 (.int .i64 stop)
  have b3 := Boxed.new ((w.alloc (.cells #[.pointer (some ⟨d, 0, none⟩)] 26)).alloc (.cells #[.int .i64 stop] 3)) 3 (.int .i64 i)
  simp only [World.size_alloc] at b2 b3
  have c1 := (b1.alloc (.cells #[.int .i64 stop] 3)).alloc (.cells #[.int .i64 i] 3)
  have c2 := b2.alloc (.cells #[.int .i64 i] 3)
  have ta : Touch [] w (((w.alloc (.cells #[.pointer (some ⟨d, 0, none⟩)] 26)).alloc (.cells #[.int .i64 stop] 3)).alloc (.cells #[.int .i64 i] 3)) := ((Touch.alloc _ _ _).trans (Touch.alloc _ _ _)).trans (Touch.alloc _ _ _)
  have hza : (((w.alloc (.cells #[.pointer (some ⟨d, 0, none⟩)] 26)).alloc (.cells #[.int .i64 stop] 3)).alloc (.cells #[.int .i64 i] 3)).heap.size = w.heap.size + 3 := by simp
  have Hs : Hid (∀ W, Touch [] w W → TTab W base bt ks vs Ft) := fun W hT => hs.keep hT (by intro k _ h; simp at h)
  have Hn : Hid (∀ W, Touch [] w W → Rf W base br kr vr Fr) := fun W hT => hn.keep hT (by intro k _ h; simp at h)
  have Hc : Hid (∀ W, Touch [] w W → W.cell? ⟨d, 8 + i, none⟩ = some (.pointer (some ⟨bt, 0, none⟩)) ∧ W.cell? ⟨d, 18 + i, none⟩ = some (.pointer (some ⟨br, 0, none⟩))) := fun W hT => ⟨(World.cell?_of_block (w := w) (hT.block d hdl (by simp))).trans hc, (World.cell?_of_block (w := w) (hT.block d hdl (by simp))).trans hcr⟩
  have Hfr : Hid (∀ k, k ∈ Fr → k < w.heap.size) := fun k hk => (hn.mem k hk).2
  have Hsm : Hid (Same ks vs kr vr) := hsm
  clear hs hn hc hcr hap hsm b1 b2
  go_enter Tryz.func73, Tryz.ntmps73
  go_upto_region 1 with fail
  generalize ((w.alloc (.cells #[.pointer (some ⟨d, 0, none⟩)] 26)).alloc (.cells #[.int .i64 stop] 3)).alloc (.cells #[.int .i64 i] 3) = v at b3 c1 c2 ta hza ⊢
  have Hza : Hid (v.heap.size = w.heap.size + 3) := hza
  clear hza
  have k1 := c1.cell
  have k3 := b3.cell
  have k4 := (Hc.out v ta).1
  go_cut [7] from 13 to 19 (fun v7 wq => ∃ Bl, v7 = .func (.func 122) #[] #[.pointer (some ⟨Bl, 0, none⟩)] ∧ Boxed wq Bl 41 (.pointer (some ⟨bt, 0, none⟩)) ∧ Touch [] v wq)
  case first =>
    go_region_with (go_at_call 100; refine (tall_any _ _).mono ?_; rintro e w' ⟨rfl, rfl⟩)
    all_goals (go_wp2_with fail; go_meet; first | exact ⟨_, rfl, Boxed.new v.drew _ _, (Touch.drew _ _).trans (Touch.alloc _ _ _)⟩ | exact ⟨_, rfl, Boxed.new v _ _, (Touch.alloc _ _ _).trans (Touch.drew _ _)⟩)
  case rest =>
  obtain ⟨Bl, rfl, hbl, hT1⟩ := hcut
  have bt1 : ∀ {B t u}, Boxed v B t u → Boxed wc B t u := fun h => box_touch h hT1 (by simp)
  have e1 := bt1 c1
  have e2 := bt1 c2
  have e3 := bt1 b3
  have ta1 : Touch [] w wc := ta.trans hT1
  have hzb : w.heap.size + 3 ≤ wc.heap.size := by have := hT1.size; have := Hza.out; omega
  clear bt1 c1 c2 b3 k1 k3 k4 hT1 ta Hza
  obtain ⟨v2, hv2⟩ : ∃ v2, v2 = wc := ⟨_, rfl⟩
  rw [← hv2] at e1 e2 e3 ta1 hzb hbl ⊢
  clear hv2
  clear wc
  go_upto_region 4 with fail
  have k1 := e1.cell
  have k3 := e3.cell
  have k4 := (Hc.out v2 ta1).2
  have k1a : (v2.alloc (.cells #[.slice none 0 0] 72)).cell? ⟨w.heap.size, 0, none⟩ = some (.pointer (some ⟨d, 0, none⟩)) := Lib.cell?_alloc_some _ k1
  have k3a : (v2.alloc (.cells #[.slice none 0 0] 72)).cell? ⟨w.heap.size + 1 + 1, 0, none⟩ = some (.int .i64 i) := Lib.cell?_alloc_some _ k3
  have k4a : (v2.alloc (.cells #[.slice none 0 0] 72)).cell? ⟨d, 18 + i, none⟩ = some (.pointer (some ⟨br, 0, none⟩)) := Lib.cell?_alloc_some _ k4
  have hky : ∀ W, Touch [] w W → Calls Tryz.prog 101 #[.pointer (some ⟨br, 0, none⟩)] W fun e w' => ∃ u, e = .returned u ∧ w'.ownsRow W.heap.size 9 1 u ks.length (strs ks) ∧ Touch [] W w' := fun W hT => rkeys_any br base ks vs kr vr Fr W (Hn.out W hT) Hsm.out hsrt hlr
  have td : Touch [] w v2.drew := ta1.trans (Touch.drew _ _)
  have td1 : ∀ o', Touch [] w (v2.alloc o').drew := fun o' => (ta1.trans (Touch.alloc _ _ _)).trans (Touch.drew _ _)
  go_cut [8] from 22 to 28 (fun v8 wq => ∃ kB kv, v8 = .pointer (some ⟨kB, 0, none⟩) ∧ Boxed wq kB 72 kv ∧ wq.ownsRow v2.heap.size 9 1 kv ks.length (strs ks) ∧ Below v2.heap.size v2 wq)
  case first =>
    go_region_with (go_at_call 101; refine (hky _ (by first | exact td | exact td1 _)).mono ?_; rintro e w1 ⟨u, rfl, hru, l1⟩; have hru2 := row_base hru (base' := v2.heap.size) (by first | exact Nat.le_refl _ | simp); clear hru; obtain ⟨ka, kc, hke, -⟩ := row_sl hru2; subst hke; (first | (have lb : Below v2.heap.size v2 w1 := ((Touch.drew _ _).trans l1).below (Nat.le_refl _) (by simp)) | (obtain ⟨hz, lb⟩ := key_box l1; have y0 := hz.out.cell; have f0 := hz.out.frozen)))
    all_goals (go_wp2_with fail; go_meet; first | exact ⟨_, _, rfl, hz.out.set _, ownsRow_setOther hru2 (hz.out.not_row (by decide) hru2) _, lb.setCell (Nat.le_refl _) _⟩ | exact ⟨_, _, rfl, Boxed.new w1 _ _, hru2.alloc _, lb.alloc lb.size _⟩)
  case rest =>
  obtain ⟨kB, kv, rfl, hkb, hrow, hB2⟩ := hcut
  have bt1 : ∀ {B t u}, Boxed v2 B t u → Boxed wc B t u := fun h => (hB2.block _ h.lt).trans h
  have g1 := bt1 e1
  have g2 := bt1 e2
  have g3 := bt1 e3
  have g4 := bt1 hbl
  have tb2 : Touch [] w wc := ta1.trans (Touch.of_below hB2 [])
  have hzc : w.heap.size + 3 ≤ wc.heap.size := by have := hB2.size; omega
  clear bt1 e1 e2 e3 hbl ta1 k1 k3 k4 k1a k3a k4a hky td td1 hnf
  obtain ⟨v3, hv3⟩ : ∃ v3, v3 = wc := ⟨_, rfl⟩
  rw [← hv3] at g1 g2 g3 g4 hkb hrow tb2 hzc ⊢
  clear hv3 hB2
  clear wc
  obtain ⟨ka, kc, hkv, -⟩ := row_sl hrow
  have m1 := hkb.cell
  rw [hkv] at m1
  have m2 := g2.cell
  go_upto_region 5 with fail
  go_wp2_with fail
  refine (upTo_any ks.length stop _).mono ?_
  rintro e w' ⟨rfl, rfl⟩
  clear m1 m2
  go_upto_region 6 with fail
  have n1 := g1.alloc (.cells #[.int .i64 (cutTo ks.length stop : Nat)] 3)
  have n2 := g2.alloc (.cells #[.int .i64 (cutTo ks.length stop : Nat)] 3)
  have n3 := g3.alloc (.cells #[.int .i64 (cutTo ks.length stop : Nat)] 3)
  have n4 := g4.alloc (.cells #[.int .i64 (cutTo ks.length stop : Nat)] 3)
  have n5 := hkb.alloc (.cells #[.int .i64 (cutTo ks.length stop : Nat)] 3)
  have n6 := Boxed.new v3 3 (.int .i64 (cutTo ks.length stop : Nat))
  have n7 := hrow.alloc (.cells #[.int .i64 (cutTo ks.length stop : Nat)] 3)
  have n8 : Touch [] w (v3.alloc (.cells #[.int .i64 (cutTo ks.length stop : Nat)] 3)) := tb2.trans (Touch.alloc _ _ _)
  have hwB : w.heap.size + 3 ≤ v3.heap.size := hzc
  generalize v3.heap.size = wB at n6 hwB ⊢
  generalize v3.alloc (.cells #[.int .i64 (cutTo ks.length stop : Nat)] 3) = v4 at n1 n2 n3 n4 n5 n6 n7 n8 ⊢
  clear g1 g2 g3 g4 hkb hrow tb2 hzc
  have Hlo : Hid (∀ wr, Below v4.heap.size v4 wr → ∀ W5, W5 = (wr.alloc (.cells #[.int .i64 0] 3)).alloc (.cells #[.bool true] 4) →
      Calls Tryz.prog 122 #[.func (.func 102) #[] #[.pointer (some ⟨wr.heap.size + 1, 0, none⟩), .pointer (some ⟨wr.heap.size, 0, none⟩), .pointer (some ⟨wB, 0, none⟩), .pointer (some ⟨kB, 0, none⟩), .pointer (some ⟨w.heap.size, 0, none⟩), .pointer (some ⟨w.heap.size + 1 + 1, 0, none⟩), .pointer (some ⟨w.heap.size + 1, 0, none⟩)], .pointer (some ⟨Bl, 0, none⟩)] W5 fun e W' => (∃ r, e = .returned r) ∧
        Boxed W' (wr.heap.size + 1) 4 (.bool true) ∧ Boxed W' wr.heap.size 3 (.int .i64 (cutTo ks.length stop : Nat)) ∧ Boxed W' wB 3 (.int .i64 (cutTo ks.length stop : Nat)) ∧ Below v4.heap.size v4 W') := by
    intro wr hwr W5 hW5
    have x1 := (Boxed.new wr 3 (.int .i64 ((0 : Nat) : Int))).alloc (.cells #[.bool true] 4)
    have x2 := Boxed.new (wr.alloc (.cells #[.int .i64 ((0 : Nat) : Int)] 3)) 4 (.bool true)
    simp only [World.size_alloc] at x2
    have hz4 : v4.heap.size ≤ wr.heap.size := hwr.size
    have hB5 : Below v4.heap.size v4 W5 := by
      rw [hW5]
      exact (hwr.alloc hwr.size _).alloc (by simp; omega) _
    have hW5' : W5 = (wr.alloc (.cells #[.int .i64 ((0 : Nat) : Int)] 3)).alloc (.cells #[.bool true] 4) := hW5
    rw [← hW5'] at x1 x2
    have bb : ∀ {B t u}, Boxed v4 B t u → Boxed W5 B t u := fun h => (hB5.block _ h.lt).trans h
    have tT : Touch [] w W5 := n8.trans (Touch.of_below hB5 [])
    have hrow5 : W5.ownsRow v2.heap.size 9 1 kv ks.length (strs ks) := row_keep n7 (Touch.of_below hB5 []) (by simp)
    have hkl : ∀ q, kv.ownBlock = some q → q < v4.heap.size := fun q hq => (n7.lt q hq).2
    have l1 := n1.lt
    have l2 := n2.lt
    have l3 := n3.lt
    have l6 := n6.lt
    have hsv : Sv (wr.heap.size + 1) wr.heap.size wB kB w.heap.size (w.heap.size + 1 + 1) (w.heap.size + 1) d i br base v2.heap.size kv ks kr vr (cutTo ks.length stop) stop Fr 0 W5 :=
      ⟨x2, x1, bb n6, bb n5, bb n1, bb n3, bb n2, hrow5, Hn.out W5 tT, (Hc.out W5 tT).2, ⟨by omega, by omega, by omega⟩, ⟨fun e => by have := hkl _ e.symm; omega, fun e => by have := hkl _ e.symm; omega⟩, ⟨by omega, by omega⟩, ⟨fun hm => by have := Hfr.out _ hm; omega, fun hm => by have := Hfr.out _ hm; omega⟩⟩
    refine (walk_all _ _ _ _ _ _ _ d i br bt base _ Bl kv ks kr vs vr stop Ft Fr W5 hsv (Hs.out W5 tT) (bb n4).cell Hsm.out hi hlen).mono ?_
    rintro e W6 ⟨hr, hS, hT6⟩
    refine ⟨hr, hS.ok, hS.n, hS.wt, hB5.trans (hT6.below hB5.size (fun q hq => ?_))⟩
    simp at hq
    omega
  have Hn8 : Hid (Touch [] w v4) := n8
  clear n1 n2 n3 n4 n5 n6 n7 n8 Hs Hn Hc Hfr Hsm
  go_wp2
  go_loopw [10] (fun r wr => ∃ k : Nat, k ≤ 2 ∧ r = .int .i64 k ∧ Below v4.heap.size v4 wr) (fun r _ => 2 - (intOf r).toNat)
  case atStart => exact ⟨0, by omega, rfl, Below.refl _ _⟩
  case round =>
    obtain ⟨k, hk, rfl, hwr⟩ := hrel
    by_cases hlt : k < 2
    · have hki : (k : Int) < 2 := by omega
      have hcal := Hlo.out wr hwr _ rfl
      clear Hlo
      go_wp2_with fail
      refine hcal.mono ?_
      rintro e W6 ⟨⟨r, rfl⟩, q1, q2, q3, q4⟩
      clear hcal
      have p1 := q1.cell
      have p2 := q2.cell
      have p3 := q3.cell
      clear q1 q2 q3
      go_wp2
      go_roundw
      case rel => exact ⟨k + 1, hlt, by go_num, q4⟩
      case measure => simp [intOf]; omega
    · obtain rfl : k = 2 := by omega
      clear Hlo
      go_wp2
      go_ret
      exact ⟨rfl, Hn8.out.trans (Touch.of_below hwr [])⟩

end Go.Proofs.YtcjblafohfiiaabGreat.Nd

/-
  BagNamed: two tables, every call.
-/
set_option linter.unusedVariables false
set_option maxRecDepth 20000
namespace Go.Proofs.YtcjblafohfiiaabGreat.Nd
open Go.RowKit Go.Shelf

set_option maxHeartbeats 2000000 in
theorem wo_all (d i bt br base : Nat) (ks : List ByteArray) (vs : List Int) (kr : List ByteArray) (vr : List Int) (F : List Nat) (k : Int) (sec : Bool) (n wd : Int) (s : ByteArray) (stop : Int) (w : World) (hi : i < 2) (hp : PW w base bt br ks vs kr vr F) (hlen : ks.length < 1000000) (hk1 : (k == 21) = false) (hk2 : (k == 22) = false) (hk3 : (k == 23) = false) (hk4 : (k == 24) = false) (hk5 : (k == 25) = false)
    (hc : w.cell? ⟨d, 8 + i, none⟩ = some (.pointer (some ⟨bt, 0, none⟩))) (hcr : w.cell? ⟨d, 18 + i, none⟩ = some (.pointer (some ⟨br, 0, none⟩))) :
    Calls Tryz.prog 22 #[.pointer (some ⟨d, 0, none⟩), .agg (opv k sec n wd s stop), .int .i64 i] w fun e w' => e = .returned (.bool true) ∧ Left base bt br ks F w w' := by
  have hi' : (i : Int) < 2 := by omega
  have hdl : d < w.heap.size := World.block_lt_of_cell? _ _ hc
  have ha : Touch [] w (w.alloc (.cells (opv k sec n wd s stop) 31)) := Touch.alloc _ _ _
  have hal := all_any d i bt br base ks vs kr vr F stop (w.alloc (.cells (opv k sec n wd s stop) 31)) hi (hp.keep ha (by intro k _ h; simp at h)) hlen ((World.cell?_of_block (w := w) (ha.block d hdl (by simp))).trans hc) ((World.cell?_of_block (w := w) (ha.block d hdl (by simp))).trans hcr)
  have Hfin : Hid (∀ w', Touch [] (w.alloc (.cells (opv k sec n wd s stop) 31)) w' → Left base bt br ks F w w') := fun w' hT => left_same bt br base ks vs kr vr F w hp (ha.trans hT)
  clear hp
  go_enter Tryz.func22, Tryz.ntmps22
  go_wp2_with fail
  refine hal.mono ?_
  rintro e w1 ⟨rfl, hT⟩
  have hl := Hfin.out w1 hT
  clear hal Hfin hT
  go_wp2
  go_ret
  exact ⟨rfl, hl⟩

theorem wo_any (d i bt br base : Nat) (ks : List ByteArray) (vs : List Int) (kr : List ByteArray) (vr : List Int) (F : List Nat) (k : Int) (sec : Bool) (n wd : Int) (s : ByteArray) (stop : Int) (w : World) (hi : i < 2) (hp : PW w base bt br ks vs kr vr F) (hbase : base ≤ w.heap.size) (hlen : ks.length < 1000000)
    (hc : w.cell? ⟨d, 8 + i, none⟩ = some (.pointer (some ⟨bt, 0, none⟩))) (hcr : w.cell? ⟨d, 18 + i, none⟩ = some (.pointer (some ⟨br, 0, none⟩))) :
    Calls Tryz.prog 22 #[.pointer (some ⟨d, 0, none⟩), .agg (opv k sec n wd s stop), .int .i64 i] w fun e w' => e = .returned (.bool true) ∧ Left base bt br ks F w w' := by
  by_cases h1 : k = 21
  · subst h1; exact wo_set d i bt br base ks vs kr vr F sec n wd s stop w hi hp hbase hlen hc hcr
  · by_cases h2 : k = 22
    · subst h2; exact wo_get d i bt br base ks vs kr vr F sec n wd s stop w hi hp hlen hc hcr
    · by_cases h3 : k = 23
      · subst h3; exact wo_drop d i bt br base ks vs kr vr F sec n wd s stop w hi hp hlen hc hcr
      · by_cases h4 : k = 24
        · subst h4; exact wo_near d i bt br base ks vs kr vr F sec n wd s stop w hi hp hlen hc hcr
        · by_cases h5 : k = 25
          · subst h5; exact wo_len d i bt br base ks vs kr vr F sec n wd s stop w hi hp hc hcr
          · exact wo_all d i bt br base ks vs kr vr F k sec n wd s stop w hi hp hlen (by simpa using h1) (by simpa using h2) (by simpa using h3) (by simpa using h4) (by simpa using h5) hc hcr

set_option maxHeartbeats 2000000 in
/-- plays, of a table. -/
theorem plays_tab (R : World → Prop) (d : Nat) (k : Int) (sec : Bool) (n wd : Int) (s : ByteArray) (stop : Int) (w : World) (hk1 : 21 ≤ k) (hk4 : k ≤ 26)
    (h : Calls Tryz.prog 22 #[.pointer (some ⟨d, 0, none⟩), .agg (opv k sec n wd s stop), .int .i64 (if sec = true then 1 else 0)] (w.alloc (.cells (opv k sec n wd s stop) 31)) fun e w' => e = .returned (.bool true) ∧ R w') :
    Calls Tryz.prog 9 #[.pointer (some ⟨d, 0, none⟩), .agg (opv k sec n wd s stop)] w fun e w' => e = .returned (.bool true) ∧ R w' := by
  have e1 : ¬ k < 1 := by omega
  have e2 : ¬ 26 < k := by omega
  have e3 : ¬ k ≤ 4 := by omega
  have e4 : ¬ k ≤ 9 := by omega
  have e5 : ¬ k ≤ 14 := by omega
  have e6 : ¬ k ≤ 20 := by omega
  cases sec
  · simp only [Bool.false_eq_true, if_false] at h
    go_enter Tryz.func9, Tryz.ntmps9
    go_wp2_with fail
    refine h.mono ?_
    rintro e w' ⟨rfl, hR⟩
    go_wp2
    go_ret
    exact ⟨rfl, hR⟩
  · simp only [if_true] at h
    go_enter Tryz.func9, Tryz.ntmps9
    go_wp2_with fail
    refine h.mono ?_
    rintro e w' ⟨rfl, hR⟩
    go_wp2
    go_ret
    exact ⟨rfl, hR⟩

theorem PW.start {W : World} {base bt br : Nat} (hs : W.heap[bt]? = some oTta) (hr : W.heap[br]? = some oNmd) (h1 : base ≤ bt) (h2 : base ≤ br) (hne : bt ≠ br) : PW W base bt br [] [] [] [] [bt, br] := by
  refine ⟨[bt], [br], ⟨.slice none 0 0, .slice none 0 0, hs, h1, World.ownsRow_nil _ _ _ _, World.ownsRow_nil _ _ _ _, rfl, Srt.nil, rfl⟩, ⟨.slice none 0 0, .slice none 0 0, hr, h2, World.ownsRow_nil _ _ _ _, World.ownsRow_nil _ _ _ _, rfl, rfl⟩, Same.nil, ?_, rfl⟩
  intro k hk hk2
  simp at hk hk2
  omega

/-- One of the two, behind k steps. -/
def PWl (W : World) (base bt br k : Nat) (F : List Nat) : Prop := ∃ ks vs kr vr, PW W base bt br ks vs kr vr F ∧ ks.length ≤ k

theorem PWl.keep {W W' : World} {base bt br k : Nat} {F G : List Nat} (h : PWl W base bt br k F) (ht : Touch G W W') (ha : Apart F G) : PWl W' base bt br k F := by
  obtain ⟨ks, vs, kr, vr, h, hl⟩ := h
  exact ⟨ks, vs, kr, vr, h.keep ht ha, hl⟩

theorem PWl.mem {W : World} {base bt br k : Nat} {F : List Nat} (h : PWl W base bt br k F) : ∀ k, k ∈ F → base ≤ k ∧ k < W.heap.size := by
  obtain ⟨ks, vs, kr, vr, h, hl⟩ := h
  exact h.mem

theorem PWl.more {W : World} {base bt br k : Nat} {F : List Nat} (h : PWl W base bt br k F) : PWl W base bt br (k + 1) F := by
  obtain ⟨ks, vs, kr, vr, h, hl⟩ := h
  exact ⟨ks, vs, kr, vr, h, by omega⟩

theorem wo_pwl (d i bt br base k : Nat) (F : List Nat) (o : OpD) (w : World) (hi : i < 2) (hp : PWl w base bt br k F) (hk : k < 400) (hbase : base ≤ w.heap.size)
    (hc : w.cell? ⟨d, 8 + i, none⟩ = some (.pointer (some ⟨bt, 0, none⟩))) (hcr : w.cell? ⟨d, 18 + i, none⟩ = some (.pointer (some ⟨br, 0, none⟩))) :
    Calls Tryz.prog 22 #[.pointer (some ⟨d, 0, none⟩), .agg (opv o.k o.sec o.n o.wd o.s o.stop), .int .i64 i] w fun e w' => e = .returned (.bool true) ∧ ∃ F', PWl w' base bt br (k + 1) F' ∧ Touch F w w' ∧ Newer w.heap.size F F' := by
  obtain ⟨ks, vs, kr, vr, h, hl⟩ := hp
  refine (wo_any d i bt br base ks vs kr vr F o.k o.sec o.n o.wd o.s o.stop w hi h hbase (by omega) hc hcr).mono ?_
  rintro e w' ⟨rfl, ks', vs', kr', vr', F', h1, h2, h3, h4⟩
  exact ⟨rfl, F', ⟨ks', vs', kr', vr', h2, by omega⟩, h3, h4⟩

/-- The two tables, the desk. -/
structure In2 (w : World) (bs0 br0 bs1 br1 : Nat) (k : Nat) (W : World) (F0 F1 : List Nat) : Prop where
  p0 : PWl W w.heap.size bs0 br0 k F0
  p1 : PWl W w.heap.size bs1 br1 k F1
  ap : Apart F0 F1
  c0 : W.cell? ⟨w.heap.size, 8, none⟩ = some (.pointer (some ⟨bs0, 0, none⟩))
  c1 : W.cell? ⟨w.heap.size, 9, none⟩ = some (.pointer (some ⟨bs1, 0, none⟩))
  r0 : W.cell? ⟨w.heap.size, 18, none⟩ = some (.pointer (some ⟨br0, 0, none⟩))
  r1 : W.cell? ⟨w.heap.size, 19, none⟩ = some (.pointer (some ⟨br1, 0, none⟩))
  n0 : w.heap.size ∉ F0
  n1 : w.heap.size ∉ F1
  bel : Below w.heap.size w W

def InvQ (w : World) (k : Nat) (W : World) : Prop := ∃ bs0 br0 bs1 br1 F0 F1, In2 w bs0 br0 bs1 br1 k W F0 F1

theorem touch_cell {F : List Nat} {W W' : World} {p : Addr} {v : Value} (ht : Touch F W W') (hn : p.block ∉ F) (h : W.cell? p = some v) : W'.cell? p = some v := by
  rw [World.cell?_of_block (w := W) (ht.block p.block (World.block_lt_of_cell? _ _ h) hn)]
  exact h

theorem In2.alloc {w : World} {bs0 br0 bs1 br1 : Nat} {k : Nat} {W : World} {F0 F1 : List Nat} (h : In2 w bs0 br0 bs1 br1 k W F0 F1) (o : Obj) : In2 w bs0 br0 bs1 br1 k (W.alloc o) F0 F1 := by
  have ta : Touch [] W (W.alloc o) := Touch.alloc _ _ _
  exact ⟨h.p0.keep ta (by intro k _ h; simp at h), h.p1.keep ta (by intro k _ h; simp at h), h.ap, touch_cell ta (by simp) h.c0, touch_cell ta (by simp) h.c1, touch_cell ta (by simp) h.r0, touch_cell ta (by simp) h.r1, h.n0, h.n1, Below.alloc h.bel h.bel.size o⟩

theorem In2.step0 {w : World} {bs0 br0 bs1 br1 : Nat} {k : Nat} {W W' : World} {F0 F1 F0' : List Nat} (h : In2 w bs0 br0 bs1 br1 k W F0 F1)
    (hp : PWl W' w.heap.size bs0 br0 (k + 1) F0') (ht : Touch F0 W W') (hn : Newer W.heap.size F0 F0') : In2 w bs0 br0 bs1 br1 (k + 1) W' F0' F1 := by
  have hd : w.heap.size < W.heap.size := World.block_lt_of_cell? _ _ h.c0
  refine ⟨hp, (h.p1.keep ht h.ap.symm).more, h.ap.newer hn (fun k hk => (h.p1.mem k hk).2), touch_cell ht h.n0 h.c0, touch_cell ht h.n0 h.c1, touch_cell ht h.n0 h.r0, touch_cell ht h.n0 h.r1, fun hm => ?_, h.n1, h.bel.trans (ht.below h.bel.size (fun k hk => (h.p0.mem k hk).1))⟩
  rcases hn _ hm with h1 | h1
  · exact h.n0 h1
  · omega

theorem In2.step1 {w : World} {bs0 br0 bs1 br1 : Nat} {k : Nat} {W W' : World} {F0 F1 F1' : List Nat} (h : In2 w bs0 br0 bs1 br1 k W F0 F1)
    (hp : PWl W' w.heap.size bs1 br1 (k + 1) F1') (ht : Touch F1 W W') (hn : Newer W.heap.size F1 F1') : In2 w bs0 br0 bs1 br1 (k + 1) W' F0 F1' := by
  have hd : w.heap.size < W.heap.size := World.block_lt_of_cell? _ _ h.c0
  refine ⟨(h.p0.keep ht h.ap).more, hp, (h.ap.symm.newer hn (fun k hk => (h.p0.mem k hk).2)).symm, touch_cell ht h.n1 h.c0, touch_cell ht h.n1 h.c1, touch_cell ht h.n1 h.r0, touch_cell ht h.n1 h.r1, h.n0, fun hm => ?_, h.bel.trans (ht.below h.bel.size (fun k hk => (h.p1.mem k hk).1))⟩
  rcases hn _ hm with h1 | h1
  · exact h.n1 h1
  · omega

theorem inv_start (w W : World) (one two : Int) (D : List (Option Addr)) (M : List Int) (L : List Obj) (hb : Beg w one two 2 D M L) (h : Bg w W D M L) : InvQ w 0 W := by
  obtain ⟨dl, ml, -, b, hp, hd⟩ := hb
  obtain ⟨p0, q0⟩ := hp 0 (by omega)
  obtain ⟨p1, q1⟩ := hp 1 (by omega)
  have hd := hd rfl
  have s0 := h.obj (b 0 + 4) _ (p0.o 4 (by omega))
  have s1 := h.obj (b 1 + 4) _ (p1.o 4 (by omega))
  have t0 := h.obj (b 0 + 9) _ (p0.o 9 (by omega))
  have t1 := h.obj (b 1 + 9) _ (p1.o 9 (by omega))
  refine ⟨_, _, _, _, _, _, ⟨[], [], [], [], PW.start s0 t0 (by omega) (by omega) (by omega), Nat.le_refl _⟩, ⟨[], [], [], [], PW.start s1 t1 (by omega) (by omega) (by omega), Nat.le_refl _⟩, ?_, h.cellD 8 _ p0.d4, h.cellD 9 _ p1.d4, h.cellD 18 _ p0.d9, h.cellD 19 _ p1.d9, ?_, ?_, ?_⟩
  · intro k hk hk2
    simp at hk hk2
    omega
  · intro hk
    simp at hk
    omega
  · intro hk
    simp at hk
    omega
  · refine ⟨h.os, h.tape, h.output, by rw [h.size]; omega, fun k hk => ?_⟩
    rw [h.heap, Array.getElem?_append_left hk]

theorem inv_step (w : World) (k : Nat) (o : OpD) (W : World) (hk : k < 400) (hi : InvQ w k W) (h1 : 21 ≤ o.k) (h4 : o.k ≤ 26) :
    Calls Tryz.prog 9 #[.pointer (some ⟨w.heap.size, 0, none⟩), .agg (opv o.k o.sec o.n o.wd o.s o.stop)] W fun e W' => e = .returned (.bool true) ∧ InvQ w (k + 1) W' := by
  obtain ⟨bs0, br0, bs1, br1, F0, F1, hi⟩ := hi
  have ha := hi.alloc (.cells (opv o.k o.sec o.n o.wd o.s o.stop) 31)
  refine plays_tab (InvQ w (k + 1)) w.heap.size o.k o.sec o.n o.wd o.s o.stop W h1 h4 ?_
  cases hsec : o.sec
  · have hst := wo_pwl w.heap.size 0 bs0 br0 w.heap.size k F0 o _ (by omega) ha.p0 hk ha.bel.size ha.c0 ha.r0
    rw [hsec] at hst ha
    refine hst.mono ?_
    rintro e W' ⟨rfl, F', hp, ht, hn⟩
    exact ⟨rfl, _, _, _, _, _, _, ha.step0 hp ht hn⟩
  · have hst := wo_pwl w.heap.size 1 bs1 br1 w.heap.size k F1 o _ (by omega) ha.p1 hk ha.bel.size ha.c1 ha.r1
    rw [hsec] at hst ha
    refine hst.mono ?_
    rintro e W' ⟨rfl, F', hp, ht, hn⟩
    exact ⟨rfl, _, _, _, _, _, _, ha.step1 hp ht hn⟩

set_option maxHeartbeats 1000000 in
theorem law_any (a : Option Addr) (cap : Nat) (ops : List OpD) (w : World) (hl : LOps w a ops) (hcap : ops.length ≤ 9223372036854775807) :
    Calls Tryz.prog 5 #[.slice a ops.length cap] w fun e w' => e = .returned (.bool true) ∧ Below w.heap.size w w' := by
  have hr := run_core 0 0 21 26 a cap ops w (InvQ w) hl hcap (fun W D M L hb h => inv_start w W 0 0 D M L hb h) (fun k o W hk hi h1 h4 => inv_step w k o W hk hi h1 h4)
    (fun k W ⟨b0, b1, b2, b3, F0, F1, h⟩ => ⟨b0, b1, b2, b3, F0, F1, ⟨h.p0.more, h.p1.more, h.ap, h.c0, h.c1, h.r0, h.r1, h.n0, h.n1, h.bel⟩⟩)
    (fun k W ⟨_, _, _, _, _, _, h⟩ => h.bel)
  go_enter Tryz.func5, Tryz.ntmps5
  go_wp2_with fail
  refine hr.mono ?_
  rintro e w' ⟨rfl, hb⟩
  go_wp2
  go_ret
  exact ⟨rfl, hb⟩

end Go.Proofs.YtcjblafohfiiaabGreat.Nd

