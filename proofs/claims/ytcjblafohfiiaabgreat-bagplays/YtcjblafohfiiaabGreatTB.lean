import Derived.Test.YtcjblafohfiiaabGreatSt
import Derived.Test.YtcjblafohfiiaabGreatShelf
import Derived.Test.YtcjblafohfiiaabGreatSrt
import Derived.Test.YtcjblafohfiiaabGreatInsT
import Derived.Lib.AppendZerosOnto
import Derived.Shelf.Slices.Delete
import Derived.Deep.RegionLaw
import Derived.Test.YtcjblafohfiiaabGreatCo
import Derived.Test.YtcjblafohfiiaabGreatIn
/-
  place: where a key stands.
-/
set_option linter.unusedVariables false
namespace Go.Proofs.YtcjblafohfiiaabGreat
open Go.RowKit

theorem nanT_any (x : ByteArray) (w : World) : Calls Tryz.prog 130 #[.string x] w fun e w' => e = .returned (.bool false) ∧ w' = w := by
  go_enter Tryz.func130, Tryz.ntmps130
  go_wp2
  go_ret
  exact ⟨by simp, rfl⟩

theorem less_same (l : List UInt8) : Op.bytesLess l l = false := by rw [less_lt]; simp

set_option maxHeartbeats 1000000 in
theorem cmpT_any (x y : ByteArray) (w : World) : Calls Tryz.prog 119 #[.string x, .string y] w fun e w' => e = .returned (.int .i64 (cmpOf ltS x y)) ∧ w' = w := by
  by_cases h1 : Op.bytesLess x.toList y.toList = true
  · have e : cmpOf ltS x y = -1 := by unfold cmpOf; rw [if_pos (show ltS x y = true from h1)]
    rw [e]; clear e
    go_enter Tryz.func119, Tryz.ntmps119
    go_wp2_with (go_at_call 130; refine (nanT_any _ _).mono ?_; rintro e w' ⟨rfl, rfl⟩)
    go_ret
    exact ⟨rfl, rfl⟩
  · have h1' : Op.bytesLess x.toList y.toList = false := by simpa using h1
    by_cases h2 : x = y
    · subst h2
      have e : cmpOf ltS x x = 0 := (cmpOf_zero sordS x x).2 rfl
      rw [e]; clear e h1
      go_enter Tryz.func119, Tryz.ntmps119
      go_wp2_with (go_at_call 130; refine (nanT_any _ _).mono ?_; rintro e w' ⟨rfl, rfl⟩)
      go_ret
      exact ⟨rfl, rfl⟩
    · have h3 : (x.toList == y.toList) = false := by
        rw [beq_eq_false_iff_ne]; exact fun e => h2 (toList_inj _ _ e)
      have e : cmpOf ltS x y = 1 := by
        unfold cmpOf; rw [if_neg (show ¬ ltS x y = true from h1), if_pos]
        by_cases h4 : ltS y x = true
        · exact h4
        · exact absurd (sordS.tri x y h1' (by simpa using h4)) h2
      rw [e]; clear e h1 h2
      go_enter Tryz.func119, Tryz.ntmps119
      go_wp2_with (go_at_call 130; refine (nanT_any _ _).mono ?_; rintro e w' ⟨rfl, rfl⟩)
      go_ret
      exact ⟨rfl, rfl⟩

set_option maxHeartbeats 1000000 in
theorem placeT_some (g cap base : Nat) (ks : List ByteArray) (k : ByteArray) (w : World) (hr : w.ownsRow base 9 1 (.slice (some ⟨g, 0, none⟩) ks.length cap) ks.length (ks.map Value.string)) (hs : Srt ltS ks) (hlen : ks.length < 1000000) :
    Calls Tryz.prog 96 #[.slice (some ⟨g, 0, none⟩) ks.length cap, .string k] w fun e w' => (∃ p, CutAt ltS ks k p ∧ e = .returned (.tuple #[.int .i64 p, .bool (decide (ks[p]? = some k))])) ∧ w' = w := by
  have Hcell : Hid (∀ (i : Nat) a, ks[i]? = some a → w.cell? ⟨g, i, none⟩ = some (.string a)) := fun i a h => by
    have hl := (List.getElem?_eq_some_iff.1 h).1
    rw [hr.cellAt _ (by omega)]; simp [h]
  clear hr
  go_enter Tryz.func96, Tryz.ntmps96
  go_wp2
  go_loop [6, 7] (fun lo be => ∃ l b : Nat, l ≤ b ∧ b ≤ ks.length ∧ lo = .int .i64 l ∧ be = .int .i64 b ∧ (∀ (i : Nat) a, i < l → ks[i]? = some a → ltS a k = true) ∧ (∀ (i : Nat) a, b ≤ i → ks[i]? = some a → ltS a k = false)) (fun lo be => (intOf be - intOf lo).toNat)
  case atStart => exact ⟨0, ks.length, Nat.zero_le _, Nat.le_refl _, rfl, rfl, fun i a h => by omega, fun i a h h1 => by rw [List.getElem?_eq_none h] at h1; cases h1⟩
  case round =>
    obtain ⟨l, b, hlb, hb, rfl, rfl, h1, h2⟩ := hrel
    have H1 : Hid (∀ (i : Nat) a, i < l → ks[i]? = some a → ltS a k = true) := h1
    have H2 : Hid (∀ (i : Nat) a, b ≤ i → ks[i]? = some a → ltS a k = false) := h2
    clear h1 h2
    by_cases hlt : l < b
    · obtain ⟨a, ha⟩ : ∃ a, ks[l + (b - l) / 2]? = some a := ⟨_, List.getElem?_eq_getElem (by omega)⟩
      have hm : w.cell? ⟨g, l + (b - l) / 2, none⟩ = some (.string a) := Hcell.out _ _ ha
      have hmi : (l : Int) + ((b : Int) - l) / 2 < ks.length := by omega
      have Ha : Hid (ks[l + (b - l) / 2]? = some a) := ha
      clear ha
      by_cases hc : ltS a k = true
      · have hneg : cmpOf ltS a k < 0 := (cmpOf_neg a k).2 hc
        have Hc : Hid (ltS a k = true) := hc
        clear hc
        go_wp2_with (go_at_call 119; refine (cmpT_any _ _ _).mono ?_; rintro e w' ⟨rfl, rfl⟩)
        go_round
        case rel => exact ⟨l + (b - l) / 2 + 1, b, by omega, hb, by go_num, rfl, hs.below sordS Ha.out Hc.out, H2.out⟩
        case measure => simp [intOf]; omega
      · have hneg : ¬ cmpOf ltS a k < 0 := fun h => hc ((cmpOf_neg a k).1 h)
        have Hc : Hid (ltS a k = false) := (by simpa using hc : ltS a k = false)
        clear hc
        go_wp2_with (go_at_call 119; refine (cmpT_any _ _ _).mono ?_; rintro e w' ⟨rfl, rfl⟩)
        go_round
        case rel => exact ⟨l, l + (b - l) / 2, by omega, by omega, rfl, by go_num, H1.out, hs.above sordS Ha.out Hc.out⟩
        case measure => simp [intOf]; omega
    · obtain rfl : l = b := by omega
      by_cases hn : l < ks.length
      · obtain ⟨a, ha⟩ : ∃ a, ks[l]? = some a := ⟨_, List.getElem?_eq_getElem hn⟩
        have hm : w.cell? ⟨g, l, none⟩ = some (.string a) := Hcell.out _ _ ha
        have hni : (l : Int) < ks.length := by omega
        have Ha : Hid (ks[l]? = some a) := ha
        clear ha
        have hd0 : (cmpOf ltS a k == 0) = decide (ks[l]? = some k) := by
          rw [Ha.out, Bool.eq_iff_iff]
          simp [cmpOf_zero sordS]
        obtain ⟨fd, hfd⟩ : ∃ fd : Bool, fd = decide (ks[l]? = some k) := ⟨_, rfl⟩
        have hd : (cmpOf ltS a k == 0) = fd := hd0.trans hfd.symm
        have Hfd : Hid (fd = decide (ks[l]? = some k)) := hfd
        clear hd0 hfd
        go_wp2_with (go_at_call 119; refine (cmpT_any _ _ _).mono ?_; rintro e w' ⟨rfl, rfl⟩)
        go_ret2
        exact ⟨⟨l, ⟨hb, H1.out, H2.out⟩, by rw [← Hfd.out]; rfl⟩, rfl⟩
      · have hni : ¬ (l : Int) < ks.length := by omega
        go_wp2
        go_ret2
        refine ⟨⟨l, ⟨hb, H1.out, H2.out⟩, ?_⟩, rfl⟩
        rw [List.getElem?_eq_none (by omega)]
        rfl

theorem cut_nil {α : Type} {lt : α → α → Bool} (k : α) : CutAt lt [] k 0 := ⟨Nat.le_refl _, fun i a h => by omega, fun i a _ h => by simp at h⟩

set_option maxHeartbeats 1000000 in
theorem placeT_nil (k : ByteArray) (w : World) :
    Calls Tryz.prog 96 #[.slice none 0 0, .string k] w fun e w' => e = .returned (.tuple #[.int .i64 0, .bool false]) ∧ w' = w := by
  go_enter Tryz.func96, Tryz.ntmps96
  go_wp2
  refine wp_loop_rounds 1 ?_
  rw [rounds_succ]
  go_wp2
  go_ret2
  exact ⟨rfl, rfl⟩

theorem placeT_any (base : Nat) (v : Value) (ks : List ByteArray) (k : ByteArray) (w : World) (hr : w.ownsRow base 9 1 v ks.length (ks.map Value.string)) (hs : Srt ltS ks) (hlen : ks.length < 1000000) :
    Calls Tryz.prog 96 #[v, .string k] w fun e w' => (∃ p, CutAt ltS ks k p ∧ e = .returned (.tuple #[.int .i64 p, .bool (decide (ks[p]? = some k))])) ∧ w' = w := by
  rcases hr.2 with ⟨rfl, h0⟩ | ⟨g, cap, cur, rfl, _⟩
  · obtain rfl : ks = [] := List.eq_nil_of_length_eq_zero h0
    refine (placeT_nil k w).mono ?_
    rintro e w' ⟨rfl, rfl⟩
    exact ⟨⟨0, cut_nil k, rfl⟩, rfl⟩
  · exact placeT_some g cap base ks k w hr hs hlen

end Go.Proofs.YtcjblafohfiiaabGreat

/-
  The table of numbers by text.
-/
set_option linter.unusedVariables false
namespace Go.Proofs.YtcjblafohfiiaabGreat
open Go.RowKit

abbrev strs (ks : List ByteArray) : List Value := ks.map Value.string

theorem placeT_at (base p : Nat) (v : Value) (ks : List ByteArray) (k : ByteArray) (w : World) (hr : w.ownsRow base 9 1 v ks.length (strs ks)) (hs : Srt ltS ks) (hlen : ks.length < 1000000) (hp : CutAt ltS ks k p) (fd : Bool) (hfd : fd = decide (ks[p]? = some k)) :
    Calls Tryz.prog 96 #[v, .string k] w fun e w' => e = .returned (.tuple #[.int .i64 p, .bool fd]) ∧ w' = w := by
  refine (placeT_any base v ks k w hr hs hlen).mono ?_
  rintro e w' ⟨⟨q, hq, rfl⟩, rfl⟩
  obtain rfl := hp.uniq hq
  exact ⟨by rw [hfd], rfl⟩

/-- The table in block b, F its blocks. -/
def TTab (W : World) (base b : Nat) (ks : List ByteArray) (vs : List Int) (F : List Nat) : Prop :=
  ∃ vk vv : Value, W.heap[b]? = some (.cells #[vk, vv] 129 (0, 0)) ∧ base ≤ b ∧ W.ownsRow base 9 1 vk ks.length (strs ks) ∧ W.ownsRow base 3 1 vv vs.length (ints vs) ∧
    vs.length = ks.length ∧ Srt ltS ks ∧ F = b :: (vk.ownBlock.toList ++ vv.ownBlock.toList)

theorem rows_ne {w : World} {base base' n n' e e' : Nat} {v v' : Value} {xs xs' : List Value} (h : w.ownsRow base e 1 v n xs) (h' : w.ownsRow base' e' 1 v' n' xs') (he : e ≠ e') (k : Nat) (hk : v.ownBlock = some k) : v'.ownBlock ≠ some k := by
  intro hk'
  rcases h.2 with ⟨rfl, _⟩ | ⟨g, cap, cur, rfl, _, hg, _⟩
  · simp [Value.ownBlock] at hk
  rcases h'.2 with ⟨rfl, _⟩ | ⟨g', cap', cur', rfl, _, hg', _⟩
  · simp [Value.ownBlock] at hk'
  simp only [Value.ownBlock, Option.some.injEq] at hk hk'
  subst hk; subst hk'
  rw [hg] at hg'
  simp only [Option.some.injEq, Obj.cells.injEq] at hg'
  exact he hg'.2.1

theorem row_keep {w w' : World} {base n e : Nat} {v : Value} {xs : List Value} {G : List Nat} (h : w.ownsRow base e 1 v n xs) (ht : Touch G w w') (ha : ∀ k, v.ownBlock = some k → k ∉ G) : w'.ownsRow base e 1 v n xs := by
  refine ⟨h.1, ?_⟩
  rcases h.2 with hn | ⟨g, cap, cur, rfl, hb', hg, rest⟩
  · exact .inl hn
  · refine .inr ⟨g, cap, cur, rfl, hb', ?_, rest⟩
    rw [ht.block g (heap_lt hg) (ha g rfl)]; exact hg

theorem TTab.mem {W : World} {base b : Nat} {ks : List ByteArray} {vs : List Int} {F : List Nat} (h : TTab W base b ks vs F) : ∀ k, k ∈ F → base ≤ k ∧ k < W.heap.size := by
  obtain ⟨vk, vv, hh, hb, hk, hv, _, _, rfl⟩ := h
  intro k hm
  rcases List.mem_cons.1 hm with rfl | hm
  · exact ⟨hb, heap_lt hh⟩
  · rcases List.mem_append.1 hm with hm | hm
    · exact hk.lt k (by simpa using hm)
    · exact hv.lt k (by simpa using hm)

theorem TTab.keep {W W' : World} {base b : Nat} {ks : List ByteArray} {vs : List Int} {F G : List Nat} (h : TTab W base b ks vs F) (ht : Touch G W W') (ha : Apart F G) : TTab W' base b ks vs F := by
  obtain ⟨vk, vv, hh, hb, hk, hv, h1, h2, rfl⟩ := h
  refine ⟨vk, vv, ?_, hb, row_keep hk ht (fun k hm => ha k (by simp [hm])), row_keep hv ht (fun k hm => ha k (by simp [hm])), h1, h2, rfl⟩
  rw [ht.block b (heap_lt hh) (ha b (by simp))]; exact hh

set_option maxHeartbeats 400000 in
theorem newtext_any (w : World) :
    Calls Tryz.prog 16 #[] w fun e w' => e = .returned (.pointer (some ⟨w.heap.size, 0, none⟩)) ∧ TTab w' w.heap.size w.heap.size [] [] [w.heap.size] ∧ Touch [] w w' ∧ w'.heap.size = w.heap.size + 1 := by
  go_enter Tryz.func16, Tryz.ntmps16
  go_wp2
  go_ret
  exact ⟨rfl, ⟨.slice none 0 0, .slice none 0 0, heap_alloc_new w _, Nat.le_refl _, World.ownsRow_nil _ _ _ _, World.ownsRow_nil _ _ _ _, rfl, Srt.nil, rfl⟩, Touch.alloc _ _ _, by simp⟩

set_option maxHeartbeats 400000 in
theorem lenT_any (b base n : Nat) (vk : Value) (xs : List Value) (w : World) (hc : w.cell? ⟨b, 0, none⟩ = some vk) (hr : w.ownsRow base 9 1 vk n xs) :
    Calls Tryz.prog 72 #[.pointer (some ⟨b, 0, none⟩)] w fun e w' => e = .returned (.int .i64 n) ∧ w' = w := by
  rcases hr.2 with ⟨rfl, rfl⟩ | ⟨g, cap, cur, rfl, _⟩
  · clear hr
    go_enter Tryz.func72, Tryz.ntmps72
    go_wp2
    go_ret
    exact ⟨rfl, rfl⟩
  · clear hr
    go_enter Tryz.func72, Tryz.ntmps72
    go_wp2
    go_ret
    exact ⟨rfl, rfl⟩

/-- A key that is there. -/
theorem setT_old (b base p g cap : Nat) (v : Int) (k : ByteArray) (vk : Value) (ks : List ByteArray) (vs : List Int) (w : World) (hh : w.heap[b]? = some (.cells #[vk, .slice (some ⟨g, 0, none⟩) vs.length cap] 129 (0, 0)))
    (hk : w.ownsRow base 9 1 vk ks.length (strs ks)) (hv : w.ownsRow base 3 1 (.slice (some ⟨g, 0, none⟩) vs.length cap) vs.length (ints vs)) (hl : vs.length = ks.length) (hs : Srt ltS ks) (hlen : ks.length < 1000000) (hp : CutAt ltS ks k p) (hf : ks[p]? = some k) :
    Calls Tryz.prog 64 #[.pointer (some ⟨b, 0, none⟩), .string k, .int .i64 v] w fun e w' => e = .returned (.bool false) ∧ w' = w.setCell ⟨g, p, none⟩ (.int .i64 v) := by
  have hpl : p < ks.length := (List.getElem?_eq_some_iff.1 hf).1
  have hc0 := heap_cell hh 0
  have hc1 := heap_cell hh 1
  simp only [List.getElem?_toArray, List.getElem?_cons_zero, List.getElem?_cons_succ] at hc0 hc1
  have hcx : w.cell? ⟨g, p, none⟩ = some (.int .i64 (vs[p]'(by omega))) := by
    rw [hv.cellAt _ (by omega)]; simp [hl, hpl]
  have hfx := hv.frozenAt p
  have hpi : (p : Int) < (vs.length : Int) := by omega
  have hpl' := placeT_at base p vk ks k w hk hs hlen hp true (by simp [hf])
  generalize vs[p]'(by omega) = old at hcx
  clear hh hf
  go_enter Tryz.func64, Tryz.ntmps64
  go_wp2_with fail
  refine hpl'.mono ?_
  rintro e w' ⟨rfl, rfl⟩
  go_wp2
  go_ret
  exact ⟨rfl, rfl⟩

set_option maxHeartbeats 1000000 in
/-- A key that isn't. -/
theorem setT_new (b base p : Nat) (v : Int) (k : ByteArray) (vk vv : Value) (ks : List ByteArray) (vs : List Int) (w : World) (hh : w.heap[b]? = some (.cells #[vk, vv] 129 (0, 0))) (hbase : base ≤ w.heap.size)
    (hk : w.ownsRow base 9 1 vk ks.length (strs ks)) (hv : w.ownsRow base 3 1 vv vs.length (ints vs)) (hl : vs.length = ks.length) (hs : Srt ltS ks) (hlen : ks.length < 1000000) (hp : CutAt ltS ks k p) (hf : ks[p]? ≠ some k) :
    Calls Tryz.prog 64 #[.pointer (some ⟨b, 0, none⟩), .string k, .int .i64 v] w fun e w' => e = .returned (.bool true) ∧
      ∃ vk' vv' w1 w2, Inserted (w.alloc (.cells #[.string k] 9)) w1 base 9 vk vk' ks.length p (strs ks) (.string k) ∧
        Inserted ((w1.setCell ⟨b, 0, none⟩ vk').alloc (.cells #[.int .i64 v] 3)) w2 base 3 vv vv' vs.length p (ints vs) (.int .i64 v) ∧ w' = w2.setCell ⟨b, 1, none⟩ vv' := by
  have hpl : p ≤ ks.length := hp.1
  have hc0 := heap_cell hh 0
  simp only [List.getElem?_toArray, List.getElem?_cons_zero] at hc0
  have hb := heap_lt hh
  have hnk : some b ≠ vk.ownBlock := row_ne hh hk
  have hnv : some b ≠ vv.ownBlock := row_ne hh hv
  have hpl' := placeT_at base p vk ks k w hk hs hlen hp false (by simp [hf])
  have hka : (w.alloc (.cells #[.string k] 9)).ownsRow base 9 1 vk ks.length (strs ks) := hk.alloc _
  have hva : (w.alloc (.cells #[.string k] 9)).ownsRow base 3 1 vv vs.length (ints vs) := hv.alloc _
  have hi1 := insT_any base ks.length p w.heap.size vk (.string k) (strs ks) (w.alloc (.cells #[.string k] 9)) hka hpl (heap_alloc_new w _) (fun e => by have := hk.lt _ e.symm; omega) (by simp; omega) hlen (by simp [Value.oneCell']) rfl
  have Hh : Hid ((w.alloc (.cells #[.string k] 9)).heap[b]? = some (.cells #[vk, vv] 129 (0, 0))) := (Below.heap_alloc w _ b hb).trans hh
  have Hl : Hid (vs.length = ks.length) := hl
  clear hh hf hl
  go_enter Tryz.func64, Tryz.ntmps64
  go_wp2_with fail
  refine hpl'.mono ?_
  rintro e w' ⟨rfl, rfl⟩
  clear hpl'
  go_wp2_with fail
  refine hi1.mono ?_
  rintro e w1 ⟨vk', rfl, hins⟩
  clear hi1
  obtain ⟨g1, cap1, rfl⟩ := ownsRow_succ hins.1
  have hh1 : w1.heap[b]? = some (.cells #[vk, vv] 129 (0, 0)) := (hins.2.1.block b (by simp; omega) (by intro hm; exact hnk (by simpa using hm : vk.ownBlock = some b).symm)).trans Hh.out
  have c0 := heap_cell hh1 0
  have z0 := heap_frozen hh1 0
  have c1 := heap_cell hh1 1
  have z1 := heap_frozen hh1 1
  simp only [List.getElem?_toArray, List.getElem?_cons_zero, List.getElem?_cons_succ] at c0 c1
  have hv1 : w1.ownsRow base 3 1 vv vs.length (ints vs) := row_keep hva hins.2.1 (fun q hq hm => rows_ne hva hka (by decide) q hq (by simpa using hm))
  have hv2 : (w1.setCell ⟨b, 0, none⟩ (.slice (some ⟨g1, 0, none⟩) (ks.length + 1) cap1)).ownsRow base 3 1 vv vs.length (ints vs) := ownsRow_setOther hv1 hnv _
  have hs2 : (w1.setCell ⟨b, 0, none⟩ (.slice (some ⟨g1, 0, none⟩) (ks.length + 1) cap1)).heap.size = w1.heap.size := by simp [World.setCell]
  have hw1 : w'.heap.size + 1 ≤ w1.heap.size := by have := hins.2.1.size; simpa using this
  have hi2 := insI_any base vs.length p w1.heap.size vv (.int .i64 v) (ints vs) ((w1.setCell ⟨b, 0, none⟩ (.slice (some ⟨g1, 0, none⟩) (ks.length + 1) cap1)).alloc (.cells #[.int .i64 v] 3)) (hv2.alloc _) (by rw [Hl.out]; exact hpl) (by have := heap_alloc_new (w1.setCell ⟨b, 0, none⟩ (.slice (some ⟨g1, 0, none⟩) (ks.length + 1) cap1)) (.cells #[.int .i64 v] 3); rw [hs2] at this; exact this) (fun e => by have := hv1.lt _ e.symm; omega) (by simp [hs2]; omega) (by rw [Hl.out]; exact hlen) (by simp [Value.oneCell']) rfl
  have hb1 : b < w1.heap.size := by omega
  have Hh2 : Hid (((w1.setCell ⟨b, 0, none⟩ (.slice (some ⟨g1, 0, none⟩) (ks.length + 1) cap1)).alloc (.cells #[.int .i64 v] 3)).heap[b]? = some (.cells #[.slice (some ⟨g1, 0, none⟩) (ks.length + 1) cap1, vv] 129 (0, 0))) := (Below.heap_alloc _ _ b (by rw [hs2]; exact hb1)).trans (heap_set hh1 0 _)
  clear hh1
  have hs2' : Hid ((w1.setCell ⟨b, 0, none⟩ (.slice (some ⟨g1, 0, none⟩) (ks.length + 1) cap1)).heap.size = w1.heap.size) := hs2
  clear hs2
  go_wp2_with fail
  refine hi2.mono ?_
  rintro e w2 ⟨vv', rfl, hins2⟩
  obtain ⟨g2, cap2, rfl⟩ := ownsRow_succ hins2.1
  have hh2 : w2.heap[b]? = some (.cells #[.slice (some ⟨g1, 0, none⟩) (ks.length + 1) cap1, vv] 129 (0, 0)) := (hins2.2.1.block b (by simp [hs2'.out]; omega) (by intro hm; exact hnv (by simpa using hm : vv.ownBlock = some b).symm)).trans Hh2.out
  have d1 := heap_cell hh2 1
  have y1 := heap_frozen hh2 1
  simp only [List.getElem?_toArray, List.getElem?_cons_zero, List.getElem?_cons_succ] at d1
  clear hh2
  go_wp2
  go_ret
  exact ⟨rfl, _, _, w1, w2, hins, hins2, rfl⟩

end Go.Proofs.YtcjblafohfiiaabGreat

/-
  The table of numbers by text: Set and Near, whole.
-/
set_option linter.unusedVariables false
namespace Go.Proofs.YtcjblafohfiiaabGreat
open Go.RowKit

theorem ins_map {α β : Type} (f : α → β) (l : List α) (p : Nat) (k : α) : ins (l.map f) p (f k) = (ins l p k).map f := by
  simp [ins]

theorem setT_fresh (b base p : Nat) (v : Int) (k : ByteArray) (ks : List ByteArray) (vs : List Int) (F : List Nat) (w : World) (h : TTab w base b ks vs F) (hbase : base ≤ w.heap.size) (hlen : ks.length < 1000000) (hp : CutAt ltS ks k p) (hf : ks[p]? ≠ some k) :
    Calls Tryz.prog 64 #[.pointer (some ⟨b, 0, none⟩), .string k, .int .i64 v] w fun e w' => e = .returned (.bool true) ∧
      ∃ F', TTab w' base b (ins ks p k) (ins vs p v) F' ∧ Touch F w w' ∧ Newer w.heap.size F F' := by
  obtain ⟨vk, vv, hh, hb, hk, hv, hl, hs, rfl⟩ := h
  have hbl := heap_lt hh
  have hnk : some b ≠ vk.ownBlock := row_ne hh hk
  have hnv : some b ≠ vv.ownBlock := row_ne hh hv
  refine (setT_new b base p v k vk vv ks vs w hh hbase hk hv hl hs hlen hp hf).mono ?_
  rintro e w' ⟨rfl, vk', vv', w1, w2, hi1, hi2, rfl⟩
  have ht1 : Touch (b :: (vk.ownBlock.toList ++ vv.ownBlock.toList)) w w1 := (Touch.alloc _ w _).trans (hi1.2.1.mono (fun q hq => .inl (by simp at hq; simp [hq])))
  have hh1 : w1.heap[b]? = some (.cells #[vk, vv] 129 (0, 0)) := (hi1.2.1.block b (by simp; omega) (by intro hm; exact hnk (by simpa using hm : vk.ownBlock = some b).symm)).trans ((Below.heap_alloc w _ b hbl).trans hh)
  have hs1 : (w1.setCell ⟨b, 0, none⟩ vk').heap.size = w1.heap.size := by simp [World.setCell]
  have hw1 : w.heap.size ≤ w1.heap.size := ht1.size
  have hnk1 : some b ≠ vk'.ownBlock := row_ne hh1 hi1.1
  have ht2 : Touch (b :: (vk.ownBlock.toList ++ vv.ownBlock.toList)) w w2 := ((ht1.trans (Touch.setCell _ _ _ (by simp))).trans (Touch.alloc _ _ _)).trans (hi2.2.1.mono (fun q hq => .inl (by simp at hq; simp [hq])))
  have hh2a : ((w1.setCell ⟨b, 0, none⟩ vk').alloc (.cells #[.int .i64 v] 3)).heap[b]? = some (.cells #[vk', vv] 129 (0, 0)) := (Below.heap_alloc _ _ b (by rw [hs1]; omega)).trans (heap_set hh1 0 _)
  have hh2 : w2.heap[b]? = some (.cells #[vk', vv] 129 (0, 0)) := (hi2.2.1.block b (heap_lt hh2a) (by intro hm; exact hnv (by simpa using hm : vv.ownBlock = some b).symm)).trans hh2a
  have hk1 : ((w1.setCell ⟨b, 0, none⟩ vk').alloc (.cells #[.int .i64 v] 3)).ownsRow base 9 1 vk' (ks.length + 1) (ins (strs ks) p (.string k)) := (ownsRow_setOther hi1.1 hnk1 _).alloc _
  have hva : ((w1.setCell ⟨b, 0, none⟩ vk').alloc (.cells #[.int .i64 v] 3)).ownsRow base 3 1 vv vs.length (ints vs) := by
    refine World.ownsRow.alloc (ownsRow_setOther ?_ hnv _) _
    exact row_keep (hv.alloc _) hi1.2.1 (fun q hq hm => rows_ne (hv.alloc _) (hk.alloc (.cells #[.string k] 9)) (by decide) q hq (by simpa using hm))
  have hk2 : w2.ownsRow base 9 1 vk' (ks.length + 1) (ins (strs ks) p (.string k)) := row_keep hk1 hi2.2.1 (fun q hq hm => rows_ne hk1 hva (by decide) q hq (by simpa using hm))
  have hnv2 : some b ≠ vv'.ownBlock := row_ne hh2 hi2.1
  have hnk2 : some b ≠ vk'.ownBlock := hnk1
  have hpl : p ≤ ks.length := hp.1
  refine ⟨rfl, _, ⟨vk', vv', ?_, hb, ?_, ?_, ?_, hs.ins sordS hp hf, rfl⟩, ht2.trans (Touch.setCell _ _ _ (by simp)), ?_⟩
  · rw [heap_set hh2]; rfl
  · rw [ins_length _ _ _ hpl, strs, ← ins_map]; exact ownsRow_setOther hk2 hnk2 _
  · rw [ins_length _ _ _ (by omega), ints, ← ins_map]; exact ownsRow_setOther hi2.1 hnv2 _
  · rw [ins_length _ _ _ hpl, ins_length _ _ _ (by omega), hl]
  · intro q hq
    simp only [List.mem_cons, List.mem_append, Option.mem_toList] at hq ⊢
    rcases hq with hq | hq | hq
    · exact .inl (.inl hq)
    · rcases hi1.2.2 with h1 | ⟨j, h1, h2⟩
      · exact .inl (.inr (.inl (by rw [← h1]; exact hq)))
      · rw [h1] at hq; cases hq; exact .inr (by simp at h2; omega)
    · rcases hi2.2.2 with h1 | ⟨j, h1, h2⟩
      · exact .inl (.inr (.inr (by rw [← h1]; exact hq)))
      · rw [h1] at hq; cases hq; exact .inr (by simp [hs1] at h2; omega)

theorem setT_again (b base p : Nat) (v : Int) (k : ByteArray) (ks : List ByteArray) (vs : List Int) (F : List Nat) (w : World) (h : TTab w base b ks vs F) (hlen : ks.length < 1000000) (hp : CutAt ltS ks k p) (hf : ks[p]? = some k) :
    Calls Tryz.prog 64 #[.pointer (some ⟨b, 0, none⟩), .string k, .int .i64 v] w fun e w' => e = .returned (.bool false) ∧ TTab w' base b ks (vs.set p v) F ∧ Touch F w w' := by
  obtain ⟨vk, vv, hh, hb, hk, hv, hl, hs, rfl⟩ := h
  have hpl : p < ks.length := (List.getElem?_eq_some_iff.1 hf).1
  rcases hv.2 with ⟨_, h0⟩ | ⟨g, cap, cur, rfl, _⟩
  · omega
  refine (setT_old b base p g cap v k vk ks vs w hh hk hv hl hs hlen hp hf).mono ?_
  rintro e w' ⟨rfl, rfl⟩
  have hne : b ≠ g := fun e => absurd (by simp [Value.ownBlock, e]) (row_ne hh hv)
  have ht : Touch [g] w (w.setCell ⟨g, p, none⟩ (.int .i64 v)) := Touch.setCell _ _ _ (by simp)
  refine ⟨rfl, ⟨vk, _, ?_, hb, row_keep hk ht (fun q hq hm => rows_ne hk hv (by decide) q hq (by simp at hm; simp [Value.ownBlock, hm])), ?_, by simpa using hl, hs, rfl⟩, ht.mono (fun q hq => .inl (by simp at hq; simp [Value.ownBlock, hq]))⟩
  · rw [ht.block b (heap_lt hh) (by simp [hne]), hh]
  · have := (hv.stored p (.int .i64 v)).1
    rw [show (ints vs).set p (.int .i64 v) = ints (vs.set p v) by simp [ints, List.map_set]] at this
    simpa using this

theorem nearT_no (b base : Nat) (k : ByteArray) (ks : List ByteArray) (vs : List Int) (F : List Nat) (w : World) (h : TTab w base b ks vs F) (hlen : ks.length < 1000000) (hp : CutAt ltS ks k 0) (hf : ks[0]? ≠ some k) :
    Calls Tryz.prog 70 #[.pointer (some ⟨b, 0, none⟩), .string k] w fun e w' => e = .returned (.tuple #[.string ⟨#[]⟩, .int .i64 0, .bool false]) ∧ w' = w := by
  obtain ⟨vk, vv, hh, hb, hk, hv, hl, hs, rfl⟩ := h
  have hc0 := heap_cell hh 0
  simp only [List.getElem?_toArray, List.getElem?_cons_zero] at hc0
  have hpl' := placeT_at base 0 vk ks k w hk hs hlen hp false (by simp [hf])
  clear hh hl
  go_enter Tryz.func70, Tryz.ntmps70
  go_wp2_with fail
  refine hpl'.mono ?_
  rintro e w' ⟨rfl, rfl⟩
  go_wp2
  go_ret3
  exact ⟨rfl, rfl⟩

set_option maxHeartbeats 1000000 in
theorem nearT_core (b base g g' cap cap' n p q : Nat) (fd : Bool) (k k' : ByteArray) (x : Int) (w : World) (hc0 : w.cell? ⟨b, 0, none⟩ = some (.slice (some ⟨g, 0, none⟩) n cap)) (hc1 : w.cell? ⟨b, 1, none⟩ = some (.slice (some ⟨g', 0, none⟩) n cap'))
    (hpl : Calls Tryz.prog 96 #[.slice (some ⟨g, 0, none⟩) n cap, .string k] w fun e w' => e = .returned (.tuple #[.int .i64 p, .bool fd]) ∧ w' = w)
    (hq : (fd = true ∧ q = p) ∨ (fd = false ∧ q + 1 = p)) (hqn : q < n) (hlen : n < 1000000) (hk : w.cell? ⟨g, q, none⟩ = some (.string k')) (hv : w.cell? ⟨g', q, none⟩ = some (.int .i64 x)) :
    Calls Tryz.prog 70 #[.pointer (some ⟨b, 0, none⟩), .string k] w fun e w' => e = .returned (.tuple #[.string k', .int .i64 x, .bool true]) ∧ ∃ nq, w' = w.drewN nq := by
  have hqi : (q : Int) < (n : Int) := by omega
  rcases hq with ⟨rfl, rfl⟩ | ⟨rfl, rfl⟩
  · go_enter Tryz.func70, Tryz.ntmps70
    go_wp2_with fail
    refine hpl.mono ?_
    rintro e w' ⟨rfl, rfl⟩
    go_wp2_with fail
    go_quiet (fail)
    go_wp2
    go_ret3
    exact ⟨rfl, nq, rfl⟩
  · go_enter Tryz.func70, Tryz.ntmps70
    go_wp2_with fail
    refine hpl.mono ?_
    rintro e w' ⟨rfl, rfl⟩
    go_wp2_with fail
    go_quiet (fail)
    go_wp2
    go_ret3
    exact ⟨rfl, nq, rfl⟩

theorem nearT_yes (b base p q : Nat) (k k' : ByteArray) (x : Int) (ks : List ByteArray) (vs : List Int) (F : List Nat) (w : World) (h : TTab w base b ks vs F) (hlen : ks.length < 1000000) (hp : CutAt ltS ks k p)
    (hq : (ks[p]? = some k ∧ q = p) ∨ (ks[p]? ≠ some k ∧ q + 1 = p)) (hk' : ks[q]? = some k') (hv' : vs[q]? = some x) :
    Calls Tryz.prog 70 #[.pointer (some ⟨b, 0, none⟩), .string k] w fun e w' => e = .returned (.tuple #[.string k', .int .i64 x, .bool true]) ∧ ∃ nq, w' = w.drewN nq := by
  obtain ⟨vk, vv, hh, hb, hk, hv, hl, hs, rfl⟩ := h
  have hqn : q < ks.length := (List.getElem?_eq_some_iff.1 hk').1
  have hc0 := heap_cell hh 0
  have hc1 := heap_cell hh 1
  simp only [List.getElem?_toArray, List.getElem?_cons_zero, List.getElem?_cons_succ] at hc0 hc1
  rcases hk.2 with ⟨_, h0⟩ | ⟨g, cap, cur, rfl, _⟩
  · omega
  rcases hv.2 with ⟨_, h0⟩ | ⟨g', cap', cur', rfl, _⟩
  · omega
  rw [hl] at hc1
  have hcell : w.cell? ⟨g, q, none⟩ = some (.string k') := by rw [hk.cellAt _ (by omega)]; simp [hk']
  have hcell' : w.cell? ⟨g', q, none⟩ = some (.int .i64 x) := by rw [hv.cellAt _ (by omega)]; simp [hv']
  refine nearT_core b base g g' cap cap' ks.length p q (decide (ks[p]? = some k)) k k' x w hc0 hc1 (placeT_at base p _ ks k w hk hs hlen hp _ rfl) ?_ hqn hlen hcell hcell'
  rcases hq with ⟨h1, h2⟩ | ⟨h1, h2⟩
  · exact .inl ⟨by simp [h1], h2⟩
  · exact .inr ⟨by simp [h1], h2⟩

end Go.Proofs.YtcjblafohfiiaabGreat

/-
  place, of numbers.
-/
set_option linter.unusedVariables false
namespace Go.Proofs.YtcjblafohfiiaabGreat
open Go.RowKit

theorem cmpI_any (x y : Int) (w : World) : Calls Tryz.prog 111 #[.int .i64 x, .int .i64 y] w fun e w' => e = .returned (.int .i64 (cmpOf ltI x y)) ∧ w' = w := by
  have h := Tryz.cmp_Compare_int x y w
  have e : Lib.compareInt x y = cmpOf ltI x y := by
    unfold Lib.compareInt cmpOf ltI
    simp only [decide_eq_true_eq]
  rw [e] at h
  exact h

set_option maxHeartbeats 1000000 in
theorem placeI_some (g cap base : Nat) (ks : List Int) (k : Int) (w : World) (hr : w.ownsRow base 3 1 (.slice (some ⟨g, 0, none⟩) ks.length cap) ks.length (ks.map (Value.int .i64))) (hs : Srt ltI ks) (hlen : ks.length < 1000000) :
    Calls Tryz.prog 87 #[.slice (some ⟨g, 0, none⟩) ks.length cap, .int .i64 k] w fun e w' => (∃ p, CutAt ltI ks k p ∧ e = .returned (.tuple #[.int .i64 p, .bool (decide (ks[p]? = some k))])) ∧ w' = w := by
  have Hcell : Hid (∀ (i : Nat) a, ks[i]? = some a → w.cell? ⟨g, i, none⟩ = some (.int .i64 a)) := fun i a h => by
    have hl := (List.getElem?_eq_some_iff.1 h).1
    rw [hr.cellAt _ (by omega)]; simp [h]
  clear hr
  go_enter Tryz.func87, Tryz.ntmps87
  go_wp2
  go_loop [6, 7] (fun lo be => ∃ l b : Nat, l ≤ b ∧ b ≤ ks.length ∧ lo = .int .i64 l ∧ be = .int .i64 b ∧ (∀ (i : Nat) a, i < l → ks[i]? = some a → ltI a k = true) ∧ (∀ (i : Nat) a, b ≤ i → ks[i]? = some a → ltI a k = false)) (fun lo be => (intOf be - intOf lo).toNat)
  case atStart => exact ⟨0, ks.length, Nat.zero_le _, Nat.le_refl _, rfl, rfl, fun i a h => by omega, fun i a h h1 => by rw [List.getElem?_eq_none h] at h1; cases h1⟩
  case round =>
    obtain ⟨l, b, hlb, hb, rfl, rfl, h1, h2⟩ := hrel
    have H1 : Hid (∀ (i : Nat) a, i < l → ks[i]? = some a → ltI a k = true) := h1
    have H2 : Hid (∀ (i : Nat) a, b ≤ i → ks[i]? = some a → ltI a k = false) := h2
    clear h1 h2
    by_cases hlt : l < b
    · obtain ⟨a, ha⟩ : ∃ a, ks[l + (b - l) / 2]? = some a := ⟨_, List.getElem?_eq_getElem (by omega)⟩
      have hm : w.cell? ⟨g, l + (b - l) / 2, none⟩ = some (.int .i64 a) := Hcell.out _ _ ha
      have hmi : (l : Int) + ((b : Int) - l) / 2 < ks.length := by omega
      have Ha : Hid (ks[l + (b - l) / 2]? = some a) := ha
      clear ha
      by_cases hc : ltI a k = true
      · have hneg : cmpOf ltI a k < 0 := (cmpOf_neg a k).2 hc
        have Hc : Hid (ltI a k = true) := hc
        clear hc
        go_wp2_with (go_at_call 111; refine (cmpI_any _ _ _).mono ?_; rintro e w' ⟨rfl, rfl⟩)
        go_round
        case rel => exact ⟨l + (b - l) / 2 + 1, b, by omega, hb, by go_num, rfl, hs.below sordI Ha.out Hc.out, H2.out⟩
        case measure => simp [intOf]; omega
      · have hneg : ¬ cmpOf ltI a k < 0 := fun h => hc ((cmpOf_neg a k).1 h)
        have Hc : Hid (ltI a k = false) := (by simpa using hc : ltI a k = false)
        clear hc
        go_wp2_with (go_at_call 111; refine (cmpI_any _ _ _).mono ?_; rintro e w' ⟨rfl, rfl⟩)
        go_round
        case rel => exact ⟨l, l + (b - l) / 2, by omega, by omega, rfl, by go_num, H1.out, hs.above sordI Ha.out Hc.out⟩
        case measure => simp [intOf]; omega
    · obtain rfl : l = b := by omega
      by_cases hn : l < ks.length
      · obtain ⟨a, ha⟩ : ∃ a, ks[l]? = some a := ⟨_, List.getElem?_eq_getElem hn⟩
        have hm : w.cell? ⟨g, l, none⟩ = some (.int .i64 a) := Hcell.out _ _ ha
        have hni : (l : Int) < ks.length := by omega
        have Ha : Hid (ks[l]? = some a) := ha
        clear ha
        have hd0 : (cmpOf ltI a k == 0) = decide (ks[l]? = some k) := by
          rw [Ha.out, Bool.eq_iff_iff]
          simp [cmpOf_zero sordI]
        obtain ⟨fd, hfd⟩ : ∃ fd : Bool, fd = decide (ks[l]? = some k) := ⟨_, rfl⟩
        have hd : (cmpOf ltI a k == 0) = fd := hd0.trans hfd.symm
        have Hfd : Hid (fd = decide (ks[l]? = some k)) := hfd
        clear hd0 hfd
        go_wp2_with (go_at_call 111; refine (cmpI_any _ _ _).mono ?_; rintro e w' ⟨rfl, rfl⟩)
        go_ret2
        exact ⟨⟨l, ⟨hb, H1.out, H2.out⟩, by rw [← Hfd.out]; rfl⟩, rfl⟩
      · have hni : ¬ (l : Int) < ks.length := by omega
        go_wp2
        go_ret2
        refine ⟨⟨l, ⟨hb, H1.out, H2.out⟩, ?_⟩, rfl⟩
        rw [List.getElem?_eq_none (by omega)]
        rfl

set_option maxHeartbeats 1000000 in
theorem placeI_nil (k : Int) (w : World) :
    Calls Tryz.prog 87 #[.slice none 0 0, .int .i64 k] w fun e w' => e = .returned (.tuple #[.int .i64 0, .bool false]) ∧ w' = w := by
  go_enter Tryz.func87, Tryz.ntmps87
  go_wp2
  refine wp_loop_rounds 1 ?_
  rw [rounds_succ]
  go_wp2
  go_ret2
  exact ⟨rfl, rfl⟩

theorem placeI_any (base : Nat) (v : Value) (ks : List Int) (k : Int) (w : World) (hr : w.ownsRow base 3 1 v ks.length (ks.map (Value.int .i64))) (hs : Srt ltI ks) (hlen : ks.length < 1000000) :
    Calls Tryz.prog 87 #[v, .int .i64 k] w fun e w' => (∃ p, CutAt ltI ks k p ∧ e = .returned (.tuple #[.int .i64 p, .bool (decide (ks[p]? = some k))])) ∧ w' = w := by
  rcases hr.2 with ⟨rfl, h0⟩ | ⟨g, cap, cur, rfl, _⟩
  · obtain rfl : ks = [] := List.eq_nil_of_length_eq_zero h0
    refine (placeI_nil k w).mono ?_
    rintro e w' ⟨rfl, rfl⟩
    exact ⟨⟨0, cut_nil k, rfl⟩, rfl⟩
  · exact placeI_some g cap base ks k w hr hs hlen

end Go.Proofs.YtcjblafohfiiaabGreat

/-
  slices.Insert of a word, at the end.
-/
set_option linter.unusedVariables false
namespace Go.Proofs.YtcjblafohfiiaabGreat
open Go.RowKit

theorem Tryz.infoU64 : (Tryz.prog.info? 29).map (fun i => (i.zero, i.size, i.bytes)) = some (some (.int .u64 0), 1, 8) := by kernel_rfl

theorem ins_end {α : Type} (l : List α) (k : α) (p : Nat) (hp : p = l.length) : ins l p k = l ++ [k] := by subst hp; simp [ins]

set_option maxRecDepth 100000 in
set_option maxHeartbeats 1000000 in
theorem insU_any (base n i vb : Nat) (v x : Value) (xs : List Value) (w : World) (hr : w.ownsRow base 29 1 v n xs) (hi : i = n) (hvb : w.heap[vb]? = some (.cells #[x] 29 (0, 0))) (hne : some vb ≠ v.ownBlock)
    (hbase : base ≤ w.heap.size) (hlen : n < 1000000) (h1c : ∀ u ∈ xs, u.oneCell' = true) (h1x : x.oneCell' = true) :
    Calls Tryz.prog 89 #[v, .int .i64 i, .slice (some ⟨vb, 0, none⟩) 1 1] w fun e w' => ∃ v', e = .returned v' ∧ Inserted w w' base 29 v v' n i xs x := by
  subst hi
  obtain ⟨hvs, _⟩ := one_facts hvb
  have hx1 : ∀ u ∈ [x], u.oneCell' = true := by simpa using h1x
  have hl : xs.length = i := by simpa using hr.1
  have hnews : ∀ (j : Nat) u, [x][j]? = some u → w.cell? ((⟨vb, 0, none⟩ : Addr).add j) = some u := fun j u hu => by rw [add_zero_lit]; exact hvs j u hu
  obtain ⟨i0, hi, hz0, hz1, hz2⟩ := info_parts Tryz.infoU64
  have fin : ∀ v' w1, w1.ownsRow base 29 1 v' (i + 1) (xs ++ [x]) → w.grownBy w1 v.ownBlock → (v'.ownBlock = v.ownBlock ∨ v'.ownBlock = some w.heap.size) → Inserted w w1 base 29 v v' i i xs x := fun v' w1 h1 h2 h3 =>
    ⟨by rw [ins_end xs x i hl.symm]; exact h1, Touch.grown h2 (fun k hk => by simp [hk]), h3.imp_right (fun e => ⟨_, e, Nat.le_refl _⟩)⟩
  rcases hr.2 with ⟨rfl, h0⟩ | ⟨g, cap, cur, rfl, _, hg, hn, hm, hs, ht⟩
  · subst h0
    go_enter Tryz.func89, Tryz.ntmps89
    go_wp2_with (at_builtin; refine wpList_append_own_at _ rfl _ _ 69 rfl base 29 i0 (.int .u64 0) 1 8 Tryz.underlying69 hi hz0 hz1 hz2 rfl (by decide) _ _ _ rfl hr ⟨vb, 0, none⟩ 1 1 [x] rfl rfl hnews hx1 (by decide) (by decide) hbase ?_)
    intro v' w1 hown' hgrow _ hat
    go_wp2
    go_ret
    exact ⟨_, rfl, fin _ _ hown' hgrow hat⟩
  · unfold maxLen at hm
    clear hg ht
    go_enter Tryz.func89, Tryz.ntmps89
    go_wp2_with (at_builtin; refine wpList_append_own_at _ rfl _ _ 69 rfl base 29 i0 (.int .u64 0) 1 8 Tryz.underlying69 hi hz0 hz1 hz2 rfl (by decide) _ _ _ rfl hr ⟨vb, 0, none⟩ 1 1 [x] rfl rfl hnews hx1 (by simp [maxLen]; omega) (by omega) hbase ?_)
    all_goals
      intro v' w1 hown' hgrow _ hat
      go_wp2
      go_ret
      exact ⟨_, rfl, fin _ _ hown' hgrow hat⟩

end Go.Proofs.YtcjblafohfiiaabGreat

/-
  slices.Insert of a word, anywhere.
-/
set_option linter.unusedVariables false
namespace Go.Proofs.YtcjblafohfiiaabGreat
open Go.RowKit Go.Shelf Go.Lib

theorem apartU (vb g o lb cb c : Nat) (w : World) (hvb : vb ≠ g) (hsa : w.shape? vb = some (29, 1)) (hsb : w.shape? g = some (29, c)) (hc : c ≠ 0) (hf : ∀ j, w.frozen? ⟨vb, j, none⟩ = false) :
    (callFunc 114 #[.slice (some ⟨vb, 0, none⟩) 1 1, .slice (some ⟨g, o, none⟩) lb cb]).run Tryz.prog w = .ok (.value (.bool false)) w := by
  rw [run_callFunc_extern Tryz.func114 (by kernel_rfl) (by kernel_rfl) (by kernel_rfl) (e := Extern.SlicesOverlaps.overlaps #[69, 69] #[4]) (by kernel_rfl),
    run_overlaps_apart w 69 4 29 Tryz.underlying69 1 Tryz.sizeOf29 ⟨vb, 0, none⟩ ⟨g, o, none⟩ 1 1 lb cb hvb _ _ _ _ hsa hsb hc (hf 0) (hf 1)]
  rfl

set_option maxHeartbeats 4000000 in
set_option maxRecDepth 100000 in
theorem insU_shift (g n c i vb : Nat) (x : Value) (xs : List Value) (w : World) (hi : i < n) (hroom : n + 1 ≤ c) (hc63 : c ≤ 9223372036854775807) (hvb : vb ≠ g) (hl : xs.length = n)
    (hcs : ∀ (j : Nat) u, xs[j]? = some u → w.cell? ⟨g, j, none⟩ = some u) (hsp : ∀ j, j < c → (w.cell? ⟨g, j, none⟩).isSome = true) (hfz : ∀ j, w.frozen? ⟨g, j, none⟩ = false) (hx : w.cell? ⟨vb, 0, none⟩ = some x)
    (h1c : ∀ u ∈ xs, u.oneCell' = true) (h1x : x.oneCell' = true) (hsa : w.shape? vb = some (29, 1)) (hsb : w.shape? g = some (29, c)) (hf : ∀ j, w.frozen? ⟨vb, j, none⟩ = false) :
    Calls Tryz.prog 89 #[.slice (some ⟨g, 0, none⟩) n c, .int .i64 i, .slice (some ⟨vb, 0, none⟩) 1 1] w fun e w' =>
      e = .returned (.slice (some ⟨g, 0, none⟩) (n + 1) c) ∧ w' = (w.drew.setCells g (i + 1) (xs.drop i)).setCells g i [x] := by
  have hov := fun o lb cb => apartU vb g o lb cb c w hvb hsa hsb (by omega) hf
  have k1 : ¬ ((i : Int) = (n : Int)) := by omega
  have k2 : (i : Int) ≤ n := by omega
  have k3 : ¬ (c = i + 1) := by omega
  have k4 : ¬ (c = i) := by omega
  have k5 : (i : Int) ≤ (n : Int) + 1 := by omega
  have k6 : IntKind.i64.wrap ((i : Int) + 1) = (i : Int) + 1 := by rw [IntKind.wrap_i64]; omega
  have k7 : (0 : Int) ≤ (i : Int) + 1 := by omega
  have k8 : ((i : Int) + 1).toNat = i + 1 := by omega
  have mixed : Tryz.prog.follows Departure.mixedOrders = true := by kernel_rfl
  have hsz : (Tryz.prog.info? 29).map (·.size) = some 1 := by
    obtain ⟨i0, hi0, h0, h1, h2⟩ := info_parts Tryz.infoU64
    rw [hi0]; simp [h1]
  have hdl : (xs.drop i).length = n - i := by rw [List.length_drop, hl]
  have hcp1 : ∀ ty dc sc, (Builtin.copy_ #[69, 69] ty #[.slice (some ⟨g, i + 1, none⟩) (n - i) dc, .slice (some ⟨g, i, none⟩) (n + 1 - i) sc]).run Tryz.prog w.drew = .ok (goInt (xs.drop i).length) (w.drew.setCells g (i + 1) (xs.drop i)) := fun ty dc sc =>
    run_copy_cells w.drew _ _ ty 29 g (i + 1) (n - i) dc ⟨g, i, none⟩ (n + 1 - i) sc (xs.drop i) Tryz.underlying69 hsz (by rw [hdl]; simp only [Nat.min_def]; split <;> omega)
      (fun j u hj => by rw [Addr.add_lit]; exact hcs (i + j) u (by rwa [List.getElem?_drop] at hj)) (fun j hj => hsp _ (by omega)) (fun j hj => hfz _) (fun u hu => h1c u (List.mem_of_mem_drop hu))
  obtain ⟨W1, hW1⟩ : ∃ W1, W1 = w.drew.setCells g (i + 1) (xs.drop i) := ⟨_, rfl⟩
  have hsp1 : ∀ k, k < c → (W1.cell? ⟨g, k, none⟩).isSome = true := fun k hk => by
    rw [hW1]; exact isSome_setCells g (xs.drop i) (i + 1) w.drew (fun j hj => hsp _ (by omega)) _ (hsp k hk)
  have hcp2 : ∀ (W : World), (∀ y, W.cell? y = W1.cell? y) → (∀ y, W.frozen? y = W1.frozen? y) → ∀ ty dc, (Builtin.copy_ #[69, 69] ty #[.slice (some ⟨g, i, none⟩) (n + 1 - i) dc, .slice (some ⟨vb, 0, none⟩) 1 1]).run Tryz.prog W = .ok (goInt [x].length) (W.setCells g i [x]) := fun W hWc hWf ty dc =>
    run_copy_cells W _ _ ty 29 g i (n + 1 - i) dc ⟨vb, 0, none⟩ 1 1 [x] Tryz.underlying69 hsz (by simp only [Nat.min_def, List.length_cons, List.length_nil]; split <;> omega)
      (fun j u hj => by
        obtain ⟨rfl, rfl⟩ : j = 0 ∧ x = u := by match j, hj with | 0, h => simpa using h
        rw [Addr.add_lit, hWc, hW1, World.cell?_setCells_out g _ _ _ _ (fun h _ => absurd h hvb)]
        exact hx)
      (fun j hj => by rw [hWc]; exact hsp1 _ (by simp at hj; omega)) (fun j hj => by rw [hWf, hW1, World.frozen?_setCells]; exact hfz _) (by simpa using h1x)
  rw [← hW1] at hcp1
  have HW1 : Hid (W1 = w.drew.setCells g (i + 1) (xs.drop i)) := hW1
  clear hsp hfz hcs hsa hsb hf h1c h1x hW1 hsp1 hx
  go_enter Tryz.func89, Tryz.ntmps89
  go_wp2_with (simp only [hov])
  go_region_law_o (refine step_copy_runI rfl _ _ 69 69 rfl _ _ (by simp [Act.eval, Act.put]) (by simp [Act.eval, Act.put]) (hcp1 _ _ _) ?_)
  go_wp2_with (at_builtin; refine wpList_copy_runI _ rfl _ _ 69 69 rfl _ _ rfl rfl (hcp2 _ (fun _ => rfl) (fun _ => rfl) _ _) ?_)
  go_ret
  exact ⟨rfl, by rw [HW1.out]⟩

abbrev rowU (w : World) (n c i : Nat) (xs : List Value) : Array Value := (xs.take i).toArray ++ Builtin.zeroCells (Value.int .u64 0).cells (n + 1 - i) ++ Builtin.zeroCells (Value.int .u64 0).cells (grownCap w (n + 1) c 29 - (n + 1))

set_option maxHeartbeats 4000000 in
set_option maxRecDepth 100000 in
theorem insU_grow (g n c i vb : Nat) (x : Value) (xs : List Value) (w : World) (hi : i < n) (hnc : n ≤ c) (hroom : c < n + 1) (hlen : n < 1000000) (hl : xs.length = n)
    (hcs : ∀ (j : Nat) u, xs[j]? = some u → w.cell? ⟨g, j, none⟩ = some u) (hx : w.cell? ⟨vb, 0, none⟩ = some x) (h1c : ∀ u ∈ xs, u.oneCell' = true) (h1x : x.oneCell' = true) :
    Calls Tryz.prog 89 #[.slice (some ⟨g, 0, none⟩) n c, .int .i64 i, .slice (some ⟨vb, 0, none⟩) 1 1] w fun e w' =>
      e = .returned (.slice (some ⟨w.heap.size, 0, none⟩) (n + 1) (grownCap w (n + 1) c 29)) ∧
        w' = (((w.alloc (.cells (rowU w n c i xs) 29)).drew.setCells w.heap.size i [x]).drew).setCells w.heap.size (i + 1) (xs.drop i) := by
  obtain ⟨i0, hi0, hz0, hzs, hzb⟩ := info_parts Tryz.infoU64
  have hsz : (Tryz.prog.info? 29).map (·.size) = some 1 := by rw [hi0]; simp [hzs]
  have hgw : g < w.heap.size := World.block_lt_of_cell? _ _ (hcs 0 _ (List.getElem?_eq_getElem (by omega)))
  have hvw : vb < w.heap.size := World.block_lt_of_cell? _ _ hx
  have hap : ∀ ty, (Builtin.append_ #[69, 3] ty #[.slice (some ⟨g, 0, none⟩) i c, .int .i64 ((n : Int) + 1 - (i : Int))]).run Tryz.prog w =
      .ok (.slice (some ⟨w.heap.size, 0, none⟩) (n + 1) (grownCap w (n + 1) c 29)) (w.drew.alloc (.cells (rowU w n c i xs) 29)) := fun ty => by
    have hold : (Builtin.firstCells i0.size i (.slice (some ⟨g, 0, none⟩) i c)).run Tryz.prog w.drew = .ok (xs.take i).toArray w.drew := by
      rw [hzs]
      refine run_firstCells_some w.drew 1 i ⟨g, 0, none⟩ i c (xs.take i) (by rw [List.length_take]; omega) (fun j v hj => ?_)
      rw [List.getElem?_take] at hj
      split at hj
      · rw [add_zero_lit, Nat.zero_add]; exact hcs j v hj
      · cases hj
    have h := run_append_grow_zeros w 69 3 ty 29 i0 _ .i64 .i64 Tryz.underlying69 Tryz.underlying3 hi0 hz0 (some ⟨g, 0, none⟩) i c (xs.take i) hold (n + 1 - i) (by omega) (by omega) (by omega) (by omega) (by rw [hzb]; omega) (by rw [hzb, show i + (n + 1 - i) = n + 1 by omega]; exact growslice_fits hroom (by omega))
    rw [show i + (n + 1 - i) = n + 1 by omega] at h
    rw [show (n : Int) + 1 - (i : Int) = ((n + 1 - i : Nat) : Int) by omega]
    exact h
  have hG := grownCap_ge w (n + 1) c 29
  have hG63 : grownCap w (n + 1) c 29 ≤ 9223372036854775807 := by
    have := grownCap_le_maxLen w (n + 1) c 29 (by unfold maxLen; omega)
    unfold maxLen at this; omega
  have hRl : n + 1 ≤ (rowU w n c i xs).size := by simp [rowU, Builtin.zeroCells, Value.cells]; omega
  generalize hR : rowU w n c i xs = R at hap hRl ⊢
  generalize grownCap w (n + 1) c 29 = G at hap hG hG63 ⊢
  have hN : ∀ j, j < n + 1 → ((w.drew.alloc (.cells R 29)).cell? ⟨w.heap.size, j, none⟩).isSome = true := fun j hj => by
    rw [World.cell?_alloc_at (w := w.drew) R _ w.heap.size j rfl, Array.getElem?_eq_getElem (by omega)]; rfl
  have hNf : ∀ j, (w.drew.alloc (.cells R 29)).frozen? ⟨w.heap.size, j, none⟩ = false := fun j => World.frozen?_alloc_at (w := w.drew) R _ w.heap.size j rfl
  have hdl : (xs.drop i).length = n - i := by rw [List.length_drop, hl]
  have hcpA : ∀ (W : World), (∀ y, W.cell? y = (w.drew.alloc (.cells R 29)).cell? y) → (∀ y, W.frozen? y = (w.drew.alloc (.cells R 29)).frozen? y) → ∀ ty dc, (Builtin.copy_ #[69, 69] ty #[.slice (some ⟨w.heap.size, i, none⟩) (n + 1 - i) dc, .slice (some ⟨vb, 0, none⟩) 1 1]).run Tryz.prog W = .ok (goInt [x].length) (W.setCells w.heap.size i [x]) := fun W hWc hWf ty dc =>
    run_copy_cells W _ _ ty 29 w.heap.size i (n + 1 - i) dc ⟨vb, 0, none⟩ 1 1 [x] Tryz.underlying69 hsz (by simp only [Nat.min_def, List.length_cons, List.length_nil]; split <;> omega)
      (fun j u hj => by
        obtain ⟨rfl, rfl⟩ : j = 0 ∧ x = u := by match j, hj with | 0, h => simpa using h
        rw [Addr.add_lit, hWc, World.cell?_alloc_past (w := w.drew) _ vb _ hvw]; exact hx)
      (fun j hj => by rw [hWc]; exact hN _ (by simp at hj; omega)) (fun j hj => by rw [hWf]; exact hNf _) (by simpa using h1x)
  have hcpB : ∀ (W : World), (∀ y, W.cell? y = ((w.drew.alloc (.cells R 29)).setCells w.heap.size i [x]).cell? y) → (∀ y, W.frozen? y = ((w.drew.alloc (.cells R 29)).setCells w.heap.size i [x]).frozen? y) → ∀ ty dc sc,
      (Builtin.copy_ #[69, 69] ty #[.slice (some ⟨w.heap.size, i + 1, none⟩) (n - i) dc, .slice (some ⟨g, i, none⟩) (n - i) sc]).run Tryz.prog W = .ok (goInt (xs.drop i).length) (W.setCells w.heap.size (i + 1) (xs.drop i)) := fun W hWc hWf ty dc sc =>
    run_copy_cells W _ _ ty 29 w.heap.size (i + 1) (n - i) dc ⟨g, i, none⟩ (n - i) sc (xs.drop i) Tryz.underlying69 hsz (by rw [hdl]; simp only [Nat.min_def]; split <;> omega)
      (fun j u hj => by
        rw [Addr.add_lit, hWc, World.cell?_setCells_out _ _ _ _ _ (fun h _ => absurd h (by show g ≠ w.heap.size; omega)), World.cell?_alloc_past (w := w.drew) _ g _ hgw]
        exact hcs (i + j) u (by rwa [List.getElem?_drop] at hj))
      (fun j hj => by rw [hWc]; exact isSome_setCells w.heap.size [x] i _ (fun t ht => hN _ (by simp at ht; omega)) _ (hN _ (by omega)))
      (fun j hj => by rw [hWf, World.frozen?_setCells]; exact hNf _) (fun u hu => h1c u (List.mem_of_mem_drop hu))
  have hE1 : ∀ y, ((w.alloc (.cells R 29)).drew).cell? y = (w.drew.alloc (.cells R 29)).cell? y := fun y => rfl
  have hE2 : ∀ y, ((w.alloc (.cells R 29)).drew).frozen? y = (w.drew.alloc (.cells R 29)).frozen? y := fun y => rfl
  have hF1 : ∀ y, (((w.alloc (.cells R 29)).drew.setCells w.heap.size i [x]).drew).cell? y = ((w.drew.alloc (.cells R 29)).setCells w.heap.size i [x]).cell? y := fun y => rfl
  have hF2 : ∀ y, (((w.alloc (.cells R 29)).drew.setCells w.heap.size i [x]).drew).frozen? y = ((w.drew.alloc (.cells R 29)).setCells w.heap.size i [x]).frozen? y := fun y => rfl
  have k1 : ¬ ((i : Int) = (n : Int)) := by omega
  have k2 : (i : Int) ≤ n := by omega
  have k3 : ¬ (G = i + 1) := by omega
  have k4 : ¬ (G = i) := by omega
  have k5 : (c : Int) < (n : Int) + 1 := by omega
  have k6 : IntKind.i64.wrap ((i : Int) + 1) = (i : Int) + 1 := by rw [IntKind.wrap_i64]; omega
  have k7 : (0 : Int) ≤ (i : Int) + 1 := by omega
  have k8 : ((i : Int) + 1).toNat = i + 1 := by omega
  have k9 : ¬ (c = i) := by omega
  have mixed : Tryz.prog.follows Departure.mixedOrders = true := by kernel_rfl
  clear hcs hx h1c h1x hN hNf hR hRl hi0 hz0 hzs hzb hsz hdl
  go_enter Tryz.func89, Tryz.ntmps89
  go_wp2_with (first
    | (at_builtin; refine wpList_append_run _ rfl _ _ _ _ rfl _ _ rfl rfl _ _ (hap _) ?_)
    | (at_builtin; refine wpList_copy_runI _ rfl _ _ 69 69 rfl _ _ rfl rfl (hcpA _ hE1 hE2 _ _) ?_))
  go_region_law_o (refine step_copy_runI rfl _ _ 69 69 rfl (.slice (some ⟨w.heap.size, i + 1, none⟩) (n - i) (G - (i + 1))) (.slice (some ⟨g, i, none⟩) (n - i) (c - i)) (by simp [Act.eval, Act.put]) (by simp [Act.eval, Act.put]) (hcpB _ hF1 hF2 3 (G - (i + 1)) (c - i)) ?_)
  go_wp2
  go_ret
  exact ⟨rfl, rfl⟩

theorem insV_any (base n i vb : Nat) (v x : Value) (xs : List Value) (w : World) (hr : w.ownsRow base 29 1 v n xs) (hi : i ≤ n) (hvb : w.heap[vb]? = some (.cells #[x] 29 (0, 0))) (hne : some vb ≠ v.ownBlock)
    (hbase : base ≤ w.heap.size) (hlen : n < 1000000) (h1c : ∀ u ∈ xs, u.oneCell' = true) (h1x : x.oneCell' = true) :
    Calls Tryz.prog 89 #[v, .int .i64 i, .slice (some ⟨vb, 0, none⟩) 1 1] w fun e w' => ∃ v', e = .returned v' ∧ Inserted w w' base 29 v v' n i xs x := by
  by_cases hin : i = n
  · exact insU_any base n i vb v x xs w hr hin hvb hne hbase hlen h1c h1x
  · obtain ⟨-, hsa⟩ := one_facts hvb
    have hfv : ∀ j, w.frozen? ⟨vb, j, none⟩ = false := fun j => by simp [World.frozen?, hvb]
    have hx : w.cell? ⟨vb, 0, none⟩ = some x := by rw [heap_cell hvb 0]; simp
    rcases hr.2 with ⟨rfl, rfl⟩ | ⟨g, cap, cur, rfl, _⟩
    · omega
    · obtain ⟨hl, hn, hm, hcs, hsp, hfz, hsh⟩ := row_facts hr
      have hm' : cap ≤ 9223372036854775807 := by simpa [maxLen] using hm
      simp only [Nat.zero_add] at hcs hsp hfz
      by_cases hroom : n + 1 ≤ cap
      · refine (insU_shift g n cap i vb x xs w (by omega) hroom hm' (fun e => hne (by simp [Value.ownBlock, e])) hl hcs hsp hfz hx h1c h1x hsa hsh hfv).mono ?_
        rintro e w' ⟨rfl, rfl⟩
        exact ⟨_, rfl, own_shift hr hi hroom⟩
      · refine (insU_grow g n cap i vb x xs w (by omega) hn (by omega) hlen hl hcs hx h1c h1x).mono ?_
        rintro e w' ⟨rfl, rfl⟩
        exact ⟨_, rfl, own_grow hl (by omega) rfl hbase (by simp [maxLen]; omega)⟩

end Go.Proofs.YtcjblafohfiiaabGreat

/-
  slices.Delete of numbers and of words.
-/
set_option linter.unusedVariables false
namespace Go.Proofs.YtcjblafohfiiaabGreat
open Go.RowKit Go.Shelf Go.Lib

set_option maxHeartbeats 4000000 in
set_option maxRecDepth 1000000 in
theorem delU_core (g n cap i j : Nat) (xs : List Value) (w : World) (hl : xs.length = n) (hcs : ∀ (t : Nat) u, xs[t]? = some u → w.cell? ⟨g, t, none⟩ = some u) (hfz : ∀ t, w.frozen? ⟨g, t, none⟩ = false) (h1c : ∀ u ∈ xs, u.oneCell' = true)
    (hij : i < j) (hj : j ≤ n) (hn : n ≤ cap) (hm : cap ≤ 9223372036854775807) :
    Calls Tryz.prog 92 #[.slice (some ⟨g, 0, none⟩) n cap, .int .i64 i, .int .i64 j] w fun e w' => e = .returned (.slice (some ⟨g, 0, none⟩) (i + (n - j)) cap) ∧
      w' = (w.drew.setCells g i (xs.drop j)).setCells g (i + (n - j)) (List.replicate (n - (i + (n - j))) (.int .u64 0)) := by
  obtain ⟨i0, hi0, hz0, hz1, hz2⟩ := info_parts Tryz.infoU64
  have hdl : (xs.drop j).length = n - j := by rw [List.length_drop, hl]
  have hsome : ∀ t, t < n → (w.cell? ⟨g, t, none⟩).isSome = true := fun t ht => by rw [hcs t _ (List.getElem?_eq_getElem (by omega))]; rfl
  obtain ⟨A, hA, hsrc⟩ : ∃ A : Addr, (if cap = j then some (⟨g, 0, none⟩ : Addr) else some ⟨g, j, none⟩) = some A ∧ Hid (∀ t u, (xs.drop j)[t]? = some u → w.drew.cell? (A.add t) = some u) := by
    by_cases h : cap = j
    · refine ⟨⟨g, 0, none⟩, by simp [h], fun t u hu => ?_⟩
      have := (List.getElem?_eq_some_iff.1 hu).1
      omega
    · refine ⟨⟨g, j, none⟩, by simp [h], fun t u hu => ?_⟩
      rw [List.getElem?_drop] at hu
      rw [Addr.add_lit]
      exact hcs _ u hu
  have s1 : Hid ((xs.drop j).length = (n - j) * 1) := by rw [Nat.mul_one]; exact hdl
  have s2 : Hid (∀ u ∈ xs.drop j, u.oneCell' = true) := fun u hu => h1c u (List.mem_of_mem_drop hu)
  have s3 : Hid (∀ t, t < (xs.drop j).length → (w.drew.cell? ⟨g, 0 + i * 1 + t, none⟩).isSome = true ∧ w.drew.frozen? ⟨g, 0 + i * 1 + t, none⟩ = false) := fun t ht => by
    rw [Nat.mul_one, Nat.zero_add]
    exact ⟨hsome _ (by omega), hfz _⟩
  obtain ⟨W1, hW1⟩ : ∃ W1, W1 = w.drew.setCells g i (xs.drop j) := ⟨_, rfl⟩
  have hcl : ∀ ty, (Builtin.clear_ #[69] ty #[.slice (some ⟨g, i + (n - j), none⟩) (n - (i + (n - j))) (cap - (i + (n - j)))]).run Tryz.prog W1 = .ok (.tuple #[]) (W1.setCells g (i + (n - j)) (List.replicate (n - (i + (n - j))) (.int .u64 0))) := fun ty =>
    run_clear_slice W1 _ _ ty _ Tryz.underlying69 Tryz.zeroValue29 rfl rfl g (i + (n - j)) _ _ (by omega)
      (fun t ht => by rw [hW1]; exact isSome_setCells g (xs.drop j) i w.drew (fun k hk => hsome _ (by omega)) _ (hsome _ (by omega)))
      (fun t ht => by rw [hW1, World.frozen?_setCells]; exact hfz _)
  have hW : Hid (W1 = w.drew.setCells g (0 + i * 1) (xs.drop j)) := by show _ = _; rw [hW1, Nat.mul_one, Nat.zero_add]
  have HW1 : Hid (W1 = w.drew.setCells g i (xs.drop j)) := hW1
  have hic : i ≤ cap := by omega
  have hjc : j ≤ cap := by omega
  have mixed : Tryz.prog.follows Departure.mixedOrders = true := by kernel_rfl
  have k1 : ¬ ((i : Int) = (j : Int)) := by omega
  have k2 : (i : Int) ≤ j := by omega
  have k3 : (j : Int) ≤ n := by omega
  have k4 : ¬ (cap = i + (n - j)) := by omega
  clear hW1 hcs hfz h1c hsome hdl
  go_enter Tryz.func92, Tryz.ntmps92
  go_wp2_with fail
  go_region_law_o (refine step_append_room rfl (.tmp 22) (.tmp 25) 69 rfl 29 i0 1 Tryz.underlying69 hi0 hz1 g 0 i cap (by simp [Act.eval, Act.put]) A (n - j) (cap - j) (xs.drop j) (by simp [Act.eval, Act.put]) s1.out hsrc.out s2.out (by omega) s3.out ?_; rw [← hW.out])
  go_wp2
  go_ret
  exact ⟨rfl, by rw [HW1.out]⟩

set_option maxHeartbeats 4000000 in
set_option maxRecDepth 1000000 in
theorem delI_core (g n cap i j : Nat) (xs : List Value) (w : World) (hl : xs.length = n) (hcs : ∀ (t : Nat) u, xs[t]? = some u → w.cell? ⟨g, t, none⟩ = some u) (hfz : ∀ t, w.frozen? ⟨g, t, none⟩ = false) (h1c : ∀ u ∈ xs, u.oneCell' = true)
    (hij : i < j) (hj : j ≤ n) (hn : n ≤ cap) (hm : cap ≤ 9223372036854775807) :
    Calls Tryz.prog 91 #[.slice (some ⟨g, 0, none⟩) n cap, .int .i64 i, .int .i64 j] w fun e w' => e = .returned (.slice (some ⟨g, 0, none⟩) (i + (n - j)) cap) ∧
      w' = (w.drew.setCells g i (xs.drop j)).setCells g (i + (n - j)) (List.replicate (n - (i + (n - j))) (.int .i64 0)) := by
  obtain ⟨i0, hi0, hz0, hz1, hz2⟩ := info_parts Tryz.infoInt
  have hdl : (xs.drop j).length = n - j := by rw [List.length_drop, hl]
  have hsome : ∀ t, t < n → (w.cell? ⟨g, t, none⟩).isSome = true := fun t ht => by rw [hcs t _ (List.getElem?_eq_getElem (by omega))]; rfl
  obtain ⟨A, hA, hsrc⟩ : ∃ A : Addr, (if cap = j then some (⟨g, 0, none⟩ : Addr) else some ⟨g, j, none⟩) = some A ∧ Hid (∀ t u, (xs.drop j)[t]? = some u → w.drew.cell? (A.add t) = some u) := by
    by_cases h : cap = j
    · refine ⟨⟨g, 0, none⟩, by simp [h], fun t u hu => ?_⟩
      have := (List.getElem?_eq_some_iff.1 hu).1
      omega
    · refine ⟨⟨g, j, none⟩, by simp [h], fun t u hu => ?_⟩
      rw [List.getElem?_drop] at hu
      rw [Addr.add_lit]
      exact hcs _ u hu
  have s1 : Hid ((xs.drop j).length = (n - j) * 1) := by rw [Nat.mul_one]; exact hdl
  have s2 : Hid (∀ u ∈ xs.drop j, u.oneCell' = true) := fun u hu => h1c u (List.mem_of_mem_drop hu)
  have s3 : Hid (∀ t, t < (xs.drop j).length → (w.drew.cell? ⟨g, 0 + i * 1 + t, none⟩).isSome = true ∧ w.drew.frozen? ⟨g, 0 + i * 1 + t, none⟩ = false) := fun t ht => by
    rw [Nat.mul_one, Nat.zero_add]
    exact ⟨hsome _ (by omega), hfz _⟩
  obtain ⟨W1, hW1⟩ : ∃ W1, W1 = w.drew.setCells g i (xs.drop j) := ⟨_, rfl⟩
  have hcl : ∀ ty, (Builtin.clear_ #[68] ty #[.slice (some ⟨g, i + (n - j), none⟩) (n - (i + (n - j))) (cap - (i + (n - j)))]).run Tryz.prog W1 = .ok (.tuple #[]) (W1.setCells g (i + (n - j)) (List.replicate (n - (i + (n - j))) (.int .i64 0))) := fun ty =>
    run_clear_slice W1 _ _ ty _ Tryz.underlying68 Tryz.zeroValue3 rfl rfl g (i + (n - j)) _ _ (by omega)
      (fun t ht => by rw [hW1]; exact isSome_setCells g (xs.drop j) i w.drew (fun k hk => hsome _ (by omega)) _ (hsome _ (by omega)))
      (fun t ht => by rw [hW1, World.frozen?_setCells]; exact hfz _)
  have hW : Hid (W1 = w.drew.setCells g (0 + i * 1) (xs.drop j)) := by show _ = _; rw [hW1, Nat.mul_one, Nat.zero_add]
  have HW1 : Hid (W1 = w.drew.setCells g i (xs.drop j)) := hW1
  have hic : i ≤ cap := by omega
  have hjc : j ≤ cap := by omega
  have mixed : Tryz.prog.follows Departure.mixedOrders = true := by kernel_rfl
  have k1 : ¬ ((i : Int) = (j : Int)) := by omega
  have k2 : (i : Int) ≤ j := by omega
  have k3 : (j : Int) ≤ n := by omega
  have k4 : ¬ (cap = i + (n - j)) := by omega
  clear hW1 hcs hfz h1c hsome hdl
  go_enter Tryz.func91, Tryz.ntmps91
  go_wp2_with fail
  go_region_law_o (refine step_append_room rfl (.tmp 22) (.tmp 25) 68 rfl 3 i0 1 Tryz.underlying68 hi0 hz1 g 0 i cap (by simp [Act.eval, Act.put]) A (n - j) (cap - j) (xs.drop j) (by simp [Act.eval, Act.put]) s1.out hsrc.out s2.out (by omega) s3.out ?_; rw [← hW.out])
  go_wp2
  go_ret
  exact ⟨rfl, by rw [HW1.out]⟩

end Go.Proofs.YtcjblafohfiiaabGreat

/-
  The table of words by number.
-/
set_option linter.unusedVariables false
namespace Go.Proofs.YtcjblafohfiiaabGreat
open Go.RowKit

abbrev u64s (vs : List Int) : List Value := vs.map (Value.int .u64)

theorem placeI_at (base p : Nat) (v : Value) (ks : List Int) (k : Int) (w : World) (hr : w.ownsRow base 3 1 v ks.length (ints ks)) (hs : Srt ltI ks) (hlen : ks.length < 1000000) (hp : CutAt ltI ks k p) (fd : Bool) (hfd : fd = decide (ks[p]? = some k)) :
    Calls Tryz.prog 87 #[v, .int .i64 k] w fun e w' => e = .returned (.tuple #[.int .i64 p, .bool fd]) ∧ w' = w := by
  refine (placeI_any base v ks k w hr hs hlen).mono ?_
  rintro e w' ⟨⟨q, hq, rfl⟩, rfl⟩
  obtain rfl := hp.uniq hq
  exact ⟨by rw [hfd], rfl⟩

/-- The table in block b, F its blocks. -/
def ITab (W : World) (base b : Nat) (ks : List Int) (vs : List Int) (F : List Nat) : Prop :=
  ∃ vk vv : Value, W.heap[b]? = some (.cells #[vk, vv] 127 (0, 0)) ∧ base ≤ b ∧ W.ownsRow base 3 1 vk ks.length (ints ks) ∧ W.ownsRow base 29 1 vv vs.length (u64s vs) ∧
    vs.length = ks.length ∧ Srt ltI ks ∧ F = b :: (vk.ownBlock.toList ++ vv.ownBlock.toList)

theorem ITab.mem {W : World} {base b : Nat} {ks : List Int} {vs : List Int} {F : List Nat} (h : ITab W base b ks vs F) : ∀ k, k ∈ F → base ≤ k ∧ k < W.heap.size := by
  obtain ⟨vk, vv, hh, hb, hk, hv, _, _, rfl⟩ := h
  intro k hm
  rcases List.mem_cons.1 hm with rfl | hm
  · exact ⟨hb, heap_lt hh⟩
  · rcases List.mem_append.1 hm with hm | hm
    · exact hk.lt k (by simpa using hm)
    · exact hv.lt k (by simpa using hm)

theorem ITab.keep {W W' : World} {base b : Nat} {ks : List Int} {vs : List Int} {F G : List Nat} (h : ITab W base b ks vs F) (ht : Touch G W W') (ha : Apart F G) : ITab W' base b ks vs F := by
  obtain ⟨vk, vv, hh, hb, hk, hv, h1, h2, rfl⟩ := h
  refine ⟨vk, vv, ?_, hb, row_keep hk ht (fun k hm => ha k (by simp [hm])), row_keep hv ht (fun k hm => ha k (by simp [hm])), h1, h2, rfl⟩
  rw [ht.block b (heap_lt hh) (ha b (by simp))]; exact hh

set_option maxHeartbeats 400000 in
theorem newinttab_any (w : World) :
    Calls Tryz.prog 15 #[] w fun e w' => e = .returned (.pointer (some ⟨w.heap.size, 0, none⟩)) ∧ ITab w' w.heap.size w.heap.size [] [] [w.heap.size] ∧ Touch [] w w' ∧ w'.heap.size = w.heap.size + 1 := by
  go_enter Tryz.func15, Tryz.ntmps15
  go_wp2
  go_ret
  exact ⟨rfl, ⟨.slice none 0 0, .slice none 0 0, heap_alloc_new w _, Nat.le_refl _, World.ownsRow_nil _ _ _ _, World.ownsRow_nil _ _ _ _, rfl, Srt.nil, rfl⟩, Touch.alloc _ _ _, by simp⟩

set_option maxHeartbeats 400000 in
theorem lenI_any (b base n : Nat) (vk : Value) (xs : List Value) (w : World) (hc : w.cell? ⟨b, 0, none⟩ = some vk) (hr : w.ownsRow base 3 1 vk n xs) :
    Calls Tryz.prog 62 #[.pointer (some ⟨b, 0, none⟩)] w fun e w' => e = .returned (.int .i64 n) ∧ w' = w := by
  rcases hr.2 with ⟨rfl, rfl⟩ | ⟨g, cap, cur, rfl, _⟩
  · clear hr
    go_enter Tryz.func62, Tryz.ntmps62
    go_wp2
    go_ret
    exact ⟨rfl, rfl⟩
  · clear hr
    go_enter Tryz.func62, Tryz.ntmps62
    go_wp2
    go_ret
    exact ⟨rfl, rfl⟩

/-- A key that is there. -/
theorem setI_old (b base p g cap : Nat) (v : Int) (k : Int) (vk : Value) (ks : List Int) (vs : List Int) (w : World) (hh : w.heap[b]? = some (.cells #[vk, .slice (some ⟨g, 0, none⟩) vs.length cap] 127 (0, 0)))
    (hk : w.ownsRow base 3 1 vk ks.length (ints ks)) (hv : w.ownsRow base 29 1 (.slice (some ⟨g, 0, none⟩) vs.length cap) vs.length (u64s vs)) (hl : vs.length = ks.length) (hs : Srt ltI ks) (hlen : ks.length < 1000000) (hp : CutAt ltI ks k p) (hf : ks[p]? = some k) :
    Calls Tryz.prog 54 #[.pointer (some ⟨b, 0, none⟩), .int .i64 k, .int .u64 v] w fun e w' => e = .returned (.bool false) ∧ w' = w.setCell ⟨g, p, none⟩ (.int .u64 v) := by
  have hpl : p < ks.length := (List.getElem?_eq_some_iff.1 hf).1
  have hc0 := heap_cell hh 0
  have hc1 := heap_cell hh 1
  simp only [List.getElem?_toArray, List.getElem?_cons_zero, List.getElem?_cons_succ] at hc0 hc1
  have hcx : w.cell? ⟨g, p, none⟩ = some (.int .u64 (vs[p]'(by omega))) := by
    rw [hv.cellAt _ (by omega)]; simp [hl, hpl]
  have hfx := hv.frozenAt p
  have hpi : (p : Int) < (vs.length : Int) := by omega
  have hpl' := placeI_at base p vk ks k w hk hs hlen hp true (by simp [hf])
  generalize vs[p]'(by omega) = old at hcx
  clear hh hf
  go_enter Tryz.func54, Tryz.ntmps54
  go_wp2_with fail
  refine hpl'.mono ?_
  rintro e w' ⟨rfl, rfl⟩
  go_wp2
  go_ret
  exact ⟨rfl, rfl⟩

set_option maxHeartbeats 1000000 in
/-- A key that isn't. -/
theorem setI_new (b base p : Nat) (v : Int) (k : Int) (vk vv : Value) (ks : List Int) (vs : List Int) (w : World) (hh : w.heap[b]? = some (.cells #[vk, vv] 127 (0, 0))) (hbase : base ≤ w.heap.size)
    (hk : w.ownsRow base 3 1 vk ks.length (ints ks)) (hv : w.ownsRow base 29 1 vv vs.length (u64s vs)) (hl : vs.length = ks.length) (hs : Srt ltI ks) (hlen : ks.length < 1000000) (hp : CutAt ltI ks k p) (hf : ks[p]? ≠ some k) :
    Calls Tryz.prog 54 #[.pointer (some ⟨b, 0, none⟩), .int .i64 k, .int .u64 v] w fun e w' => e = .returned (.bool true) ∧
      ∃ vk' vv' w1 w2, Inserted (w.alloc (.cells #[.int .i64 k] 3)) w1 base 3 vk vk' ks.length p (ints ks) (.int .i64 k) ∧
        Inserted ((w1.setCell ⟨b, 0, none⟩ vk').alloc (.cells #[.int .u64 v] 29)) w2 base 29 vv vv' vs.length p (u64s vs) (.int .u64 v) ∧ w' = w2.setCell ⟨b, 1, none⟩ vv' := by
  have hpl : p ≤ ks.length := hp.1
  have hc0 := heap_cell hh 0
  simp only [List.getElem?_toArray, List.getElem?_cons_zero] at hc0
  have hb := heap_lt hh
  have hnk : some b ≠ vk.ownBlock := row_ne hh hk
  have hnv : some b ≠ vv.ownBlock := row_ne hh hv
  have hpl' := placeI_at base p vk ks k w hk hs hlen hp false (by simp [hf])
  have hka : (w.alloc (.cells #[.int .i64 k] 3)).ownsRow base 3 1 vk ks.length (ints ks) := hk.alloc _
  have hva : (w.alloc (.cells #[.int .i64 k] 3)).ownsRow base 29 1 vv vs.length (u64s vs) := hv.alloc _
  have hi1 := insI_any base ks.length p w.heap.size vk (.int .i64 k) (ints ks) (w.alloc (.cells #[.int .i64 k] 3)) hka hpl (heap_alloc_new w _) (fun e => by have := hk.lt _ e.symm; omega) (by simp; omega) hlen (by simp [Value.oneCell']) rfl
  have Hh : Hid ((w.alloc (.cells #[.int .i64 k] 3)).heap[b]? = some (.cells #[vk, vv] 127 (0, 0))) := (Below.heap_alloc w _ b hb).trans hh
  have Hl : Hid (vs.length = ks.length) := hl
  clear hh hf hl
  go_enter Tryz.func54, Tryz.ntmps54
  go_wp2_with fail
  refine hpl'.mono ?_
  rintro e w' ⟨rfl, rfl⟩
  clear hpl'
  go_wp2_with fail
  refine hi1.mono ?_
  rintro e w1 ⟨vk', rfl, hins⟩
  clear hi1
  obtain ⟨g1, cap1, rfl⟩ := ownsRow_succ hins.1
  have hh1 : w1.heap[b]? = some (.cells #[vk, vv] 127 (0, 0)) := (hins.2.1.block b (by simp; omega) (by intro hm; exact hnk (by simpa using hm : vk.ownBlock = some b).symm)).trans Hh.out
  have c0 := heap_cell hh1 0
  have z0 := heap_frozen hh1 0
  have c1 := heap_cell hh1 1
  have z1 := heap_frozen hh1 1
  simp only [List.getElem?_toArray, List.getElem?_cons_zero, List.getElem?_cons_succ] at c0 c1
  have hv1 : w1.ownsRow base 29 1 vv vs.length (u64s vs) := row_keep hva hins.2.1 (fun q hq hm => rows_ne hva hka (by decide) q hq (by simpa using hm))
  have hv2 : (w1.setCell ⟨b, 0, none⟩ (.slice (some ⟨g1, 0, none⟩) (ks.length + 1) cap1)).ownsRow base 29 1 vv vs.length (u64s vs) := ownsRow_setOther hv1 hnv _
  have hs2 : (w1.setCell ⟨b, 0, none⟩ (.slice (some ⟨g1, 0, none⟩) (ks.length + 1) cap1)).heap.size = w1.heap.size := by simp [World.setCell]
  have hw1 : w'.heap.size + 1 ≤ w1.heap.size := by have := hins.2.1.size; simpa using this
  have hi2 := insV_any base vs.length p w1.heap.size vv (.int .u64 v) (u64s vs) ((w1.setCell ⟨b, 0, none⟩ (.slice (some ⟨g1, 0, none⟩) (ks.length + 1) cap1)).alloc (.cells #[.int .u64 v] 29)) (hv2.alloc _) (by rw [Hl.out]; exact hpl) (by have := heap_alloc_new (w1.setCell ⟨b, 0, none⟩ (.slice (some ⟨g1, 0, none⟩) (ks.length + 1) cap1)) (.cells #[.int .u64 v] 29); rw [hs2] at this; exact this) (fun e => by have := hv1.lt _ e.symm; omega) (by simp [hs2]; omega) (by rw [Hl.out]; exact hlen) (by simp [Value.oneCell']) rfl
  have hb1 : b < w1.heap.size := by omega
  have Hh2 : Hid (((w1.setCell ⟨b, 0, none⟩ (.slice (some ⟨g1, 0, none⟩) (ks.length + 1) cap1)).alloc (.cells #[.int .u64 v] 29)).heap[b]? = some (.cells #[.slice (some ⟨g1, 0, none⟩) (ks.length + 1) cap1, vv] 127 (0, 0))) := (Below.heap_alloc _ _ b (by rw [hs2]; exact hb1)).trans (heap_set hh1 0 _)
  clear hh1
  have hs2' : Hid ((w1.setCell ⟨b, 0, none⟩ (.slice (some ⟨g1, 0, none⟩) (ks.length + 1) cap1)).heap.size = w1.heap.size) := hs2
  clear hs2
  go_wp2_with fail
  refine hi2.mono ?_
  rintro e w2 ⟨vv', rfl, hins2⟩
  obtain ⟨g2, cap2, rfl⟩ := ownsRow_succ hins2.1
  have hh2 : w2.heap[b]? = some (.cells #[.slice (some ⟨g1, 0, none⟩) (ks.length + 1) cap1, vv] 127 (0, 0)) := (hins2.2.1.block b (by simp [hs2'.out]; omega) (by intro hm; exact hnv (by simpa using hm : vv.ownBlock = some b).symm)).trans Hh2.out
  have d1 := heap_cell hh2 1
  have y1 := heap_frozen hh2 1
  simp only [List.getElem?_toArray, List.getElem?_cons_zero, List.getElem?_cons_succ] at d1
  clear hh2
  go_wp2
  go_ret
  exact ⟨rfl, _, _, w1, w2, hins, hins2, rfl⟩

end Go.Proofs.YtcjblafohfiiaabGreat

/-
  The table of words by number: Set and Near, whole.
-/
set_option linter.unusedVariables false
namespace Go.Proofs.YtcjblafohfiiaabGreat
open Go.RowKit

theorem setI_fresh (b base p : Nat) (v : Int) (k : Int) (ks : List Int) (vs : List Int) (F : List Nat) (w : World) (h : ITab w base b ks vs F) (hbase : base ≤ w.heap.size) (hlen : ks.length < 1000000) (hp : CutAt ltI ks k p) (hf : ks[p]? ≠ some k) :
    Calls Tryz.prog 54 #[.pointer (some ⟨b, 0, none⟩), .int .i64 k, .int .u64 v] w fun e w' => e = .returned (.bool true) ∧
      ∃ F', ITab w' base b (ins ks p k) (ins vs p v) F' ∧ Touch F w w' ∧ Newer w.heap.size F F' := by
  obtain ⟨vk, vv, hh, hb, hk, hv, hl, hs, rfl⟩ := h
  have hbl := heap_lt hh
  have hnk : some b ≠ vk.ownBlock := row_ne hh hk
  have hnv : some b ≠ vv.ownBlock := row_ne hh hv
  refine (setI_new b base p v k vk vv ks vs w hh hbase hk hv hl hs hlen hp hf).mono ?_
  rintro e w' ⟨rfl, vk', vv', w1, w2, hi1, hi2, rfl⟩
  have ht1 : Touch (b :: (vk.ownBlock.toList ++ vv.ownBlock.toList)) w w1 := (Touch.alloc _ w _).trans (hi1.2.1.mono (fun q hq => .inl (by simp at hq; simp [hq])))
  have hh1 : w1.heap[b]? = some (.cells #[vk, vv] 127 (0, 0)) := (hi1.2.1.block b (by simp; omega) (by intro hm; exact hnk (by simpa using hm : vk.ownBlock = some b).symm)).trans ((Below.heap_alloc w _ b hbl).trans hh)
  have hs1 : (w1.setCell ⟨b, 0, none⟩ vk').heap.size = w1.heap.size := by simp [World.setCell]
  have hw1 : w.heap.size ≤ w1.heap.size := ht1.size
  have hnk1 : some b ≠ vk'.ownBlock := row_ne hh1 hi1.1
  have ht2 : Touch (b :: (vk.ownBlock.toList ++ vv.ownBlock.toList)) w w2 := ((ht1.trans (Touch.setCell _ _ _ (by simp))).trans (Touch.alloc _ _ _)).trans (hi2.2.1.mono (fun q hq => .inl (by simp at hq; simp [hq])))
  have hh2a : ((w1.setCell ⟨b, 0, none⟩ vk').alloc (.cells #[.int .u64 v] 29)).heap[b]? = some (.cells #[vk', vv] 127 (0, 0)) := (Below.heap_alloc _ _ b (by rw [hs1]; omega)).trans (heap_set hh1 0 _)
  have hh2 : w2.heap[b]? = some (.cells #[vk', vv] 127 (0, 0)) := (hi2.2.1.block b (heap_lt hh2a) (by intro hm; exact hnv (by simpa using hm : vv.ownBlock = some b).symm)).trans hh2a
  have hk1 : ((w1.setCell ⟨b, 0, none⟩ vk').alloc (.cells #[.int .u64 v] 29)).ownsRow base 3 1 vk' (ks.length + 1) (ins (ints ks) p (.int .i64 k)) := (ownsRow_setOther hi1.1 hnk1 _).alloc _
  have hva : ((w1.setCell ⟨b, 0, none⟩ vk').alloc (.cells #[.int .u64 v] 29)).ownsRow base 29 1 vv vs.length (u64s vs) := by
    refine World.ownsRow.alloc (ownsRow_setOther ?_ hnv _) _
    exact row_keep (hv.alloc _) hi1.2.1 (fun q hq hm => rows_ne (hv.alloc _) (hk.alloc (.cells #[.int .i64 k] 3)) (by decide) q hq (by simpa using hm))
  have hk2 : w2.ownsRow base 3 1 vk' (ks.length + 1) (ins (ints ks) p (.int .i64 k)) := row_keep hk1 hi2.2.1 (fun q hq hm => rows_ne hk1 hva (by decide) q hq (by simpa using hm))
  have hnv2 : some b ≠ vv'.ownBlock := row_ne hh2 hi2.1
  have hnk2 : some b ≠ vk'.ownBlock := hnk1
  have hpl : p ≤ ks.length := hp.1
  refine ⟨rfl, _, ⟨vk', vv', ?_, hb, ?_, ?_, ?_, hs.ins sordI hp hf, rfl⟩, ht2.trans (Touch.setCell _ _ _ (by simp)), ?_⟩
  · rw [heap_set hh2]; rfl
  · rw [ins_length _ _ _ hpl, ints, ← ins_map]; exact ownsRow_setOther hk2 hnk2 _
  · rw [ins_length _ _ _ (by omega), u64s, ← ins_map]; exact ownsRow_setOther hi2.1 hnv2 _
  · rw [ins_length _ _ _ hpl, ins_length _ _ _ (by omega), hl]
  · intro q hq
    simp only [List.mem_cons, List.mem_append, Option.mem_toList] at hq ⊢
    rcases hq with hq | hq | hq
    · exact .inl (.inl hq)
    · rcases hi1.2.2 with h1 | ⟨j, h1, h2⟩
      · exact .inl (.inr (.inl (by rw [← h1]; exact hq)))
      · rw [h1] at hq; cases hq; exact .inr (by simp at h2; omega)
    · rcases hi2.2.2 with h1 | ⟨j, h1, h2⟩
      · exact .inl (.inr (.inr (by rw [← h1]; exact hq)))
      · rw [h1] at hq; cases hq; exact .inr (by simp [hs1] at h2; omega)

theorem setI_again (b base p : Nat) (v : Int) (k : Int) (ks : List Int) (vs : List Int) (F : List Nat) (w : World) (h : ITab w base b ks vs F) (hlen : ks.length < 1000000) (hp : CutAt ltI ks k p) (hf : ks[p]? = some k) :
    Calls Tryz.prog 54 #[.pointer (some ⟨b, 0, none⟩), .int .i64 k, .int .u64 v] w fun e w' => e = .returned (.bool false) ∧ ITab w' base b ks (vs.set p v) F ∧ Touch F w w' := by
  obtain ⟨vk, vv, hh, hb, hk, hv, hl, hs, rfl⟩ := h
  have hpl : p < ks.length := (List.getElem?_eq_some_iff.1 hf).1
  rcases hv.2 with ⟨_, h0⟩ | ⟨g, cap, cur, rfl, _⟩
  · omega
  refine (setI_old b base p g cap v k vk ks vs w hh hk hv hl hs hlen hp hf).mono ?_
  rintro e w' ⟨rfl, rfl⟩
  have hne : b ≠ g := fun e => absurd (by simp [Value.ownBlock, e]) (row_ne hh hv)
  have ht : Touch [g] w (w.setCell ⟨g, p, none⟩ (.int .u64 v)) := Touch.setCell _ _ _ (by simp)
  refine ⟨rfl, ⟨vk, _, ?_, hb, row_keep hk ht (fun q hq hm => rows_ne hk hv (by decide) q hq (by simp at hm; simp [Value.ownBlock, hm])), ?_, by simpa using hl, hs, rfl⟩, ht.mono (fun q hq => .inl (by simp at hq; simp [Value.ownBlock, hq]))⟩
  · rw [ht.block b (heap_lt hh) (by simp [hne]), hh]
  · have := (hv.stored p (.int .u64 v)).1
    rw [show (u64s vs).set p (.int .u64 v) = u64s (vs.set p v) by simp [u64s, List.map_set]] at this
    simpa using this

theorem nearI_no (b base : Nat) (k : Int) (ks : List Int) (vs : List Int) (F : List Nat) (w : World) (h : ITab w base b ks vs F) (hlen : ks.length < 1000000) (hp : CutAt ltI ks k 0) (hf : ks[0]? ≠ some k) :
    Calls Tryz.prog 60 #[.pointer (some ⟨b, 0, none⟩), .int .i64 k] w fun e w' => e = .returned (.tuple #[.int .i64 0, .int .u64 0, .bool false]) ∧ w' = w := by
  obtain ⟨vk, vv, hh, hb, hk, hv, hl, hs, rfl⟩ := h
  have hc0 := heap_cell hh 0
  simp only [List.getElem?_toArray, List.getElem?_cons_zero] at hc0
  have hpl' := placeI_at base 0 vk ks k w hk hs hlen hp false (by simp [hf])
  clear hh hl
  go_enter Tryz.func60, Tryz.ntmps60
  go_wp2_with fail
  refine hpl'.mono ?_
  rintro e w' ⟨rfl, rfl⟩
  go_wp2
  go_ret3
  exact ⟨rfl, rfl⟩

set_option maxHeartbeats 1000000 in
theorem nearI_core (b base g g' cap cap' n p q : Nat) (fd : Bool) (k k' : Int) (x : Int) (w : World) (hc0 : w.cell? ⟨b, 0, none⟩ = some (.slice (some ⟨g, 0, none⟩) n cap)) (hc1 : w.cell? ⟨b, 1, none⟩ = some (.slice (some ⟨g', 0, none⟩) n cap'))
    (hpl : Calls Tryz.prog 87 #[.slice (some ⟨g, 0, none⟩) n cap, .int .i64 k] w fun e w' => e = .returned (.tuple #[.int .i64 p, .bool fd]) ∧ w' = w)
    (hq : (fd = true ∧ q = p) ∨ (fd = false ∧ q + 1 = p)) (hqn : q < n) (hlen : n < 1000000) (hk : w.cell? ⟨g, q, none⟩ = some (.int .i64 k')) (hv : w.cell? ⟨g', q, none⟩ = some (.int .u64 x)) :
    Calls Tryz.prog 60 #[.pointer (some ⟨b, 0, none⟩), .int .i64 k] w fun e w' => e = .returned (.tuple #[.int .i64 k', .int .u64 x, .bool true]) ∧ ∃ nq, w' = w.drewN nq := by
  have hqi : (q : Int) < (n : Int) := by omega
  rcases hq with ⟨rfl, rfl⟩ | ⟨rfl, rfl⟩
  · go_enter Tryz.func60, Tryz.ntmps60
    go_wp2_with fail
    refine hpl.mono ?_
    rintro e w' ⟨rfl, rfl⟩
    go_wp2_with fail
    go_quiet (fail)
    go_wp2
    go_ret3
    exact ⟨rfl, nq, rfl⟩
  · go_enter Tryz.func60, Tryz.ntmps60
    go_wp2_with fail
    refine hpl.mono ?_
    rintro e w' ⟨rfl, rfl⟩
    go_wp2_with fail
    go_quiet (fail)
    go_wp2
    go_ret3
    exact ⟨rfl, nq, rfl⟩

theorem nearI_yes (b base p q : Nat) (k k' : Int) (x : Int) (ks : List Int) (vs : List Int) (F : List Nat) (w : World) (h : ITab w base b ks vs F) (hlen : ks.length < 1000000) (hp : CutAt ltI ks k p)
    (hq : (ks[p]? = some k ∧ q = p) ∨ (ks[p]? ≠ some k ∧ q + 1 = p)) (hk' : ks[q]? = some k') (hv' : vs[q]? = some x) :
    Calls Tryz.prog 60 #[.pointer (some ⟨b, 0, none⟩), .int .i64 k] w fun e w' => e = .returned (.tuple #[.int .i64 k', .int .u64 x, .bool true]) ∧ ∃ nq, w' = w.drewN nq := by
  obtain ⟨vk, vv, hh, hb, hk, hv, hl, hs, rfl⟩ := h
  have hqn : q < ks.length := (List.getElem?_eq_some_iff.1 hk').1
  have hc0 := heap_cell hh 0
  have hc1 := heap_cell hh 1
  simp only [List.getElem?_toArray, List.getElem?_cons_zero, List.getElem?_cons_succ] at hc0 hc1
  rcases hk.2 with ⟨_, h0⟩ | ⟨g, cap, cur, rfl, _⟩
  · omega
  rcases hv.2 with ⟨_, h0⟩ | ⟨g', cap', cur', rfl, _⟩
  · omega
  rw [hl] at hc1
  have hcell : w.cell? ⟨g, q, none⟩ = some (.int .i64 k') := by rw [hk.cellAt _ (by omega)]; simp [hk']
  have hcell' : w.cell? ⟨g', q, none⟩ = some (.int .u64 x) := by rw [hv.cellAt _ (by omega)]; simp [hv']
  refine nearI_core b base g g' cap cap' ks.length p q (decide (ks[p]? = some k)) k k' x w hc0 hc1 (placeI_at base p _ ks k w hk hs hlen hp _ rfl) ?_ hqn hlen hcell hcell'
  rcases hq with ⟨h1, h2⟩ | ⟨h1, h2⟩
  · exact .inl ⟨by simp [h1], h2⟩
  · exact .inr ⟨by simp [h1], h2⟩

end Go.Proofs.YtcjblafohfiiaabGreat

/-
  The table of words by number: Drop and Get.
-/
set_option linter.unusedVariables false
namespace Go.Proofs.YtcjblafohfiiaabGreat
open Go.RowKit

/-- The list without its i-th thing. -/
def del {α : Type} (l : List α) (i : Nat) : List α := l.take i ++ l.drop (i + 1)

theorem del_length {α : Type} (l : List α) (i : Nat) (h : i < l.length) : (del l i).length = l.length - 1 := by simp [del]; omega

theorem del_get {α : Type} (l : List α) (i j : Nat) (h : i < l.length) : (del l i)[j]? = if j < i then l[j]? else l[j + 1]? := by
  unfold del
  rw [List.getElem?_append, List.length_take, Nat.min_eq_left (by omega)]
  split
  · rw [List.getElem?_take, if_pos (by assumption)]
  · rw [List.getElem?_drop]; congr 1; omega

theorem del_map {α β : Type} (f : α → β) (l : List α) (i : Nat) : (del l i).map f = del (l.map f) i := by simp [del, List.map_take, List.map_drop]

theorem Srt.del {α : Type} {lt : α → α → Bool} {l : List α} (h : Srt lt l) (p : Nat) (hp : p < l.length) : Srt lt (del l p) := by
  intro i j a b hij ha hb
  rw [del_get _ _ _ hp] at ha hb
  split at ha <;> split at hb
  · exact h i j a b hij ha hb
  · exact h i (j + 1) a b (by omega) ha hb
  · omega
  · exact h (i + 1) (j + 1) a b (by omega) ha hb

theorem own_del {w : World} {base g n cap i : Nat} {e : TypeId} {xs : List Value} {z : Value} (h : w.ownsRow base e 1 (.slice (some ⟨g, 0, none⟩) n cap) n xs) (hi : i < n) :
    ((w.drew.setCells g i (xs.drop (i + 1))).setCells g (i + (n - (i + 1))) (List.replicate (n - (i + (n - (i + 1)))) z)).ownsRow base e 1 (.slice (some ⟨g, 0, none⟩) (i + (n - (i + 1))) cap) (n - 1) (del xs i) ∧
      Touch [g] w ((w.drew.setCells g i (xs.drop (i + 1))).setCells g (i + (n - (i + 1))) (List.replicate (n - (i + (n - (i + 1)))) z)) := by
  obtain ⟨h1, h2⟩ := h
  rcases h2 with ⟨h2, _⟩ | ⟨g', cap', cur, hv, hb, hg, hn, hm, hs, ht⟩
  · simp at h2
  simp only [Value.slice.injEq, Option.some.injEq, Addr.mk.injEq, true_and, and_true] at hv
  obtain ⟨rfl, rfl⟩ := hv
  have hl : xs.length = n := by simpa using h1
  have hd : (xs.drop (i + 1)).length = n - (i + 1) := by rw [List.length_drop, hl]
  have hsz : cur.size = cap := by simpa using hs
  have e1 := setCells_heap g (xs.drop (i + 1)) i w.drew cur e hg (by omega)
  have e2 := setCells_heap g (List.replicate (n - (i + (n - (i + 1)))) z) (i + (n - (i + 1))) _ _ e e1 (by rw [over_size _ _ _ (by omega)]; simp; omega)
  refine ⟨⟨by simp [del_length xs i (by omega), hl], .inr ⟨g, cap, _, by rw [show i + (n - (i + 1)) = n - 1 by omega], hb, e2, by omega, hm, ?_, ?_⟩⟩, ((Touch.drewN [g] w 1).trans (setCells_touch g _ _ _)).trans (setCells_touch g _ _ _)⟩
  · rw [over_size _ _ _ (by rw [over_size _ _ _ (by omega)]; simp; omega), over_size _ _ _ (by omega)]; exact hs
  · refine take_eq_of (by simp [del_length xs i (by omega), hl]) (fun j hj => ?_)
    rw [over_get _ _ _ (by rw [over_size _ _ _ (by omega)]; simp; omega), if_pos (by omega), over_get _ _ _ (by omega), del_get _ _ _ (by omega)]
    by_cases h3 : j < i
    · rw [if_pos h3, if_pos h3, ← ht, List.getElem?_take, if_pos (by omega), Array.getElem?_toList]
    · rw [if_neg h3, if_neg h3, if_pos (by omega), List.getElem?_drop]
      congr 1; omega

set_option maxHeartbeats 1000000 in
theorem dropI_no (b base p : Nat) (k : Int) (ks : List Int) (vs : List Int) (F : List Nat) (w : World) (h : ITab w base b ks vs F) (hlen : ks.length < 1000000) (hp : CutAt ltI ks k p) (hf : ks[p]? ≠ some k) :
    Calls Tryz.prog 58 #[.pointer (some ⟨b, 0, none⟩), .int .i64 k] w fun e w' => e = .returned (.bool false) ∧ w' = w := by
  obtain ⟨vk, vv, hh, hb, hk, hv, hl, hs, rfl⟩ := h
  have hc0 := heap_cell hh 0
  simp only [List.getElem?_toArray, List.getElem?_cons_zero] at hc0
  have hpl' := placeI_at base p vk ks k w hk hs hlen hp false (by simp [hf])
  clear hh hl hf
  go_enter Tryz.func58, Tryz.ntmps58
  go_wp2_with fail
  refine hpl'.mono ?_
  rintro e w' ⟨rfl, rfl⟩
  go_wp2
  go_ret
  exact ⟨rfl, rfl⟩

set_option maxHeartbeats 1000000 in
theorem getI_no (b base p : Nat) (k : Int) (ks : List Int) (vs : List Int) (F : List Nat) (w : World) (h : ITab w base b ks vs F) (hlen : ks.length < 1000000) (hp : CutAt ltI ks k p) (hf : ks[p]? ≠ some k) :
    Calls Tryz.prog 56 #[.pointer (some ⟨b, 0, none⟩), .int .i64 k] w fun e w' => e = .returned (.tuple #[.int .u64 0, .bool false]) ∧ w' = w := by
  obtain ⟨vk, vv, hh, hb, hk, hv, hl, hs, rfl⟩ := h
  have hc0 := heap_cell hh 0
  simp only [List.getElem?_toArray, List.getElem?_cons_zero] at hc0
  have hpl' := placeI_at base p vk ks k w hk hs hlen hp false (by simp [hf])
  clear hh hl hf
  go_enter Tryz.func56, Tryz.ntmps56
  go_wp2_with fail
  refine hpl'.mono ?_
  rintro e w' ⟨rfl, rfl⟩
  go_wp2
  go_ret2
  exact ⟨rfl, rfl⟩

theorem delX_casts (p : Nat) : ((p + 1 : Nat) : Int) = (p : Int) + 1 := by omega

/-- Delete of one number, over a row of the call's own. -/
theorem delI_own (base g n cap p : Nat) (xs : List Int) (w : World) (hr : w.ownsRow base 3 1 (.slice (some ⟨g, 0, none⟩) n cap) n (ints xs)) (hp : p < n) :
    Calls Tryz.prog 91 #[.slice (some ⟨g, 0, none⟩) n cap, .int .i64 p, .int .i64 ((p : Int) + 1)] w fun e w' => e = .returned (.slice (some ⟨g, 0, none⟩) (n - 1) cap) ∧ w'.ownsRow base 3 1 (.slice (some ⟨g, 0, none⟩) (n - 1) cap) (n - 1) (ints (del xs p)) ∧ Touch [g] w w' := by
  obtain ⟨hl, hn, hm, hcs, hsp, hfz, hsh⟩ := row_facts hr
  simp only [Nat.zero_add] at hcs hsp hfz
  have h := delI_core g n cap p (p + 1) (ints xs) w hl hcs hfz (by simp [Value.oneCell']) (by omega) (by omega) hn (by simpa [maxLen] using hm)
  rw [delX_casts] at h
  refine h.mono ?_
  rintro e w' ⟨rfl, rfl⟩
  have h2 := own_del (i := p) (z := .int .i64 0) hr hp
  rw [show p + (n - (p + 1)) = n - 1 by omega] at h2 ⊢
  rw [← del_map] at h2
  exact ⟨rfl, h2⟩

theorem delU_own (base g n cap p : Nat) (xs : List Int) (w : World) (hr : w.ownsRow base 29 1 (.slice (some ⟨g, 0, none⟩) n cap) n (u64s xs)) (hp : p < n) :
    Calls Tryz.prog 92 #[.slice (some ⟨g, 0, none⟩) n cap, .int .i64 p, .int .i64 ((p : Int) + 1)] w fun e w' => e = .returned (.slice (some ⟨g, 0, none⟩) (n - 1) cap) ∧ w'.ownsRow base 29 1 (.slice (some ⟨g, 0, none⟩) (n - 1) cap) (n - 1) (u64s (del xs p)) ∧ Touch [g] w w' := by
  obtain ⟨hl, hn, hm, hcs, hsp, hfz, hsh⟩ := row_facts hr
  simp only [Nat.zero_add] at hcs hsp hfz
  have h := delU_core g n cap p (p + 1) (u64s xs) w hl hcs hfz (by simp [Value.oneCell']) (by omega) (by omega) hn (by simpa [maxLen] using hm)
  rw [delX_casts] at h
  refine h.mono ?_
  rintro e w' ⟨rfl, rfl⟩
  have h2 := own_del (i := p) (z := .int .u64 0) hr hp
  rw [show p + (n - (p + 1)) = n - 1 by omega] at h2 ⊢
  rw [← del_map] at h2
  exact ⟨rfl, h2⟩

set_option maxHeartbeats 2000000 in
theorem dropI_core (b base g g' cap cap' p n : Nat) (k : Int) (ks : List Int) (vs : List Int) (w : World) (hh : w.heap[b]? = some (.cells #[.slice (some ⟨g, 0, none⟩) n cap, .slice (some ⟨g', 0, none⟩) n cap'] 127 (0, 0)))
    (hk : w.ownsRow base 3 1 (.slice (some ⟨g, 0, none⟩) n cap) n (ints ks)) (hv : w.ownsRow base 29 1 (.slice (some ⟨g', 0, none⟩) n cap') n (u64s vs)) (hlen : n < 1000000) (hpn : p < n)
    (hpl : Calls Tryz.prog 87 #[.slice (some ⟨g, 0, none⟩) n cap, .int .i64 k] w fun e w' => e = .returned (.tuple #[.int .i64 p, .bool true]) ∧ w' = w) :
    Calls Tryz.prog 58 #[.pointer (some ⟨b, 0, none⟩), .int .i64 k] w fun e w' => e = .returned (.bool true) ∧ w'.heap[b]? = some (.cells #[.slice (some ⟨g, 0, none⟩) (n - 1) cap, .slice (some ⟨g', 0, none⟩) (n - 1) cap'] 127 (0, 0)) ∧
      w'.ownsRow base 3 1 (.slice (some ⟨g, 0, none⟩) (n - 1) cap) (n - 1) (ints (del ks p)) ∧ w'.ownsRow base 29 1 (.slice (some ⟨g', 0, none⟩) (n - 1) cap') (n - 1) (u64s (del vs p)) ∧ Touch [b, g, g'] w w' := by
  have hbg : b ≠ g := fun e => absurd (by simp [Value.ownBlock, e]) (row_ne hh hk)
  have hbg' : b ≠ g' := fun e => absurd (by simp [Value.ownBlock, e]) (row_ne hh hv)
  have hgg : g' ≠ g := fun e => rows_ne hv hk (by decide) g' rfl (by simp [Value.ownBlock, e])
  have hc0 := heap_cell hh 0
  simp only [List.getElem?_toArray, List.getElem?_cons_zero] at hc0
  have hd1 := delI_own base g n cap p ks w hk hpn
  have Hh : Hid (w.heap[b]? = some (.cells #[.slice (some ⟨g, 0, none⟩) n cap, .slice (some ⟨g', 0, none⟩) n cap'] 127 (0, 0))) := hh
  clear hh
  go_enter Tryz.func58, Tryz.ntmps58
  go_wp2_with fail
  refine hpl.mono ?_
  rintro e w' ⟨rfl, rfl⟩
  go_wp2_with fail
  refine hd1.mono ?_
  rintro e w1 ⟨rfl, hk1, ht1⟩
  have hh1 := (ht1.block b (heap_lt Hh.out) (by simpa using hbg)).trans Hh.out
  have c0 := heap_cell hh1 0
  have z0 := heap_frozen hh1 0
  have c1 := heap_cell hh1 1
  have z1 := heap_frozen hh1 1
  simp only [List.getElem?_toArray, List.getElem?_cons_zero, List.getElem?_cons_succ] at c0 c1
  have hv1 := row_keep hv ht1 (fun q hq hm => by simp [Value.ownBlock] at hq hm; omega)
  have hk2 : (w1.setCell ⟨b, 0, none⟩ (.slice (some ⟨g, 0, none⟩) (n - 1) cap)).ownsRow base 3 1 (.slice (some ⟨g, 0, none⟩) (n - 1) cap) (n - 1) (ints (del ks p)) := ownsRow_setOther hk1 (by simp [Value.ownBlock, hbg]) _
  have hv2 : (w1.setCell ⟨b, 0, none⟩ (.slice (some ⟨g, 0, none⟩) (n - 1) cap)).ownsRow base 29 1 (.slice (some ⟨g', 0, none⟩) n cap') n (u64s vs) := ownsRow_setOther hv1 (by simp [Value.ownBlock, hbg']) _
  have hd2 := delU_own base g' n cap' p vs _ hv2 hpn
  have Hh2 : Hid ((w1.setCell ⟨b, 0, none⟩ (.slice (some ⟨g, 0, none⟩) (n - 1) cap)).heap[b]? = some (.cells #[.slice (some ⟨g, 0, none⟩) (n - 1) cap, .slice (some ⟨g', 0, none⟩) n cap'] 127 (0, 0))) := heap_set hh1 0 _
  clear hd1 hpl hh1 hc0
  go_wp2_with fail
  refine hd2.mono ?_
  rintro e w3 ⟨rfl, hv3, ht3⟩
  have hh3 := (ht3.block b (heap_lt Hh2.out) (by simpa using hbg')).trans Hh2.out
  have d1 := heap_cell hh3 1
  have y1 := heap_frozen hh3 1
  simp only [List.getElem?_toArray, List.getElem?_cons_zero, List.getElem?_cons_succ] at d1
  have hk3 := row_keep hk2 ht3 (fun q hq hm => by simp [Value.ownBlock] at hq hm; omega)
  have Hh3 : Hid (w3.heap[b]? = some (.cells #[.slice (some ⟨g, 0, none⟩) (n - 1) cap, .slice (some ⟨g', 0, none⟩) n cap'] 127 (0, 0))) := hh3
  clear hh3 hd2
  go_wp2
  go_ret
  refine ⟨rfl, heap_set Hh3.out 1 _, ownsRow_setOther hk3 (by simp [Value.ownBlock, hbg]) _, ownsRow_setOther hv3 (by simp [Value.ownBlock, hbg']) _, ?_⟩
  exact ((ht1.mono (by simp)).trans (Touch.setCell _ _ _ (by simp))).trans ((ht3.mono (by simp)).trans (Touch.setCell _ _ _ (by simp)))

theorem dropI_yes (b base p : Nat) (k : Int) (ks : List Int) (vs : List Int) (F : List Nat) (w : World) (h : ITab w base b ks vs F) (hlen : ks.length < 1000000) (hp : CutAt ltI ks k p) (hf : ks[p]? = some k) :
    Calls Tryz.prog 58 #[.pointer (some ⟨b, 0, none⟩), .int .i64 k] w fun e w' => e = .returned (.bool true) ∧ ITab w' base b (del ks p) (del vs p) F ∧ Touch F w w' := by
  obtain ⟨vk, vv, hh, hb, hk, hv, hl, hs, rfl⟩ := h
  have hpl : p < ks.length := (List.getElem?_eq_some_iff.1 hf).1
  rcases hk.2 with ⟨_, h0⟩ | ⟨g, cap, cur, rfl, _⟩
  · omega
  rcases hv.2 with ⟨_, h0⟩ | ⟨g', cap', cur', rfl, _⟩
  · omega
  rw [hl] at hh hv
  refine (dropI_core b base g g' cap cap' p ks.length k ks vs w hh hk hv hlen hpl (placeI_at base p _ ks k w hk hs hlen hp true (by simp [hf]))).mono ?_
  rintro e w' ⟨rfl, hh', hk', hv', ht⟩
  refine ⟨rfl, ⟨_, _, hh', hb, ?_, ?_, ?_, hs.del p hpl, by simp [Value.ownBlock]⟩, ht.mono (fun q hq => .inl (by simp at hq; simp [Value.ownBlock, hq]))⟩
  · rw [del_length _ _ hpl]; exact hk'
  · rw [del_length _ _ (by omega), hl]; exact hv'
  · rw [del_length _ _ hpl, del_length _ _ (by omega), hl]

set_option maxHeartbeats 1000000 in
theorem getI_core (b g g' cap cap' n p : Nat) (k : Int) (x : Int) (w : World) (hc0 : w.cell? ⟨b, 0, none⟩ = some (.slice (some ⟨g, 0, none⟩) n cap)) (hc1 : w.cell? ⟨b, 1, none⟩ = some (.slice (some ⟨g', 0, none⟩) n cap'))
    (hpl : Calls Tryz.prog 87 #[.slice (some ⟨g, 0, none⟩) n cap, .int .i64 k] w fun e w' => e = .returned (.tuple #[.int .i64 p, .bool true]) ∧ w' = w) (hpn : p < n) (hlen : n < 1000000) (hv : w.cell? ⟨g', p, none⟩ = some (.int .u64 x)) :
    Calls Tryz.prog 56 #[.pointer (some ⟨b, 0, none⟩), .int .i64 k] w fun e w' => e = .returned (.tuple #[.int .u64 x, .bool true]) ∧ w' = w := by
  have hpi : (p : Int) < (n : Int) := by omega
  go_enter Tryz.func56, Tryz.ntmps56
  go_wp2_with fail
  refine hpl.mono ?_
  rintro e w' ⟨rfl, rfl⟩
  go_wp2
  go_ret2
  exact ⟨rfl, rfl⟩

end Go.Proofs.YtcjblafohfiiaabGreat

/-
  Two lists of pairs that hold the same: plain mathematics.
-/
set_option linter.unusedVariables false
namespace Go.Proofs.YtcjblafohfiiaabGreat

section
variable {α β : Type}

/-- The pair (k, v) is there. -/
def In2p (ks : List α) (vs : List β) (k : α) (v : β) : Prop := ∃ i : Nat, ks[i]? = some k ∧ vs[i]? = some v

/-- No key twice. -/
def Dst (ks : List α) : Prop := ∀ (i j : Nat) (k : α), ks[i]? = some k → ks[j]? = some k → i = j

theorem Srt.dst {lt : α → α → Bool} (ho : SOrd lt) {ks : List α} (h : Srt lt ks) : Dst ks := by
  intro i j k hi hj
  rcases Nat.lt_trichotomy i j with h1 | h1 | h1
  · have := h i j k k h1 hi hj; rw [ho.irr] at this; cases this
  · exact h1
  · have := h j i k k h1 hj hi; rw [ho.irr] at this; cases this

theorem in_set {ks : List α} {vs : List β} {p : Nat} {k : α} {v : β} (hd : Dst ks) (hp : ks[p]? = some k) (hl : vs.length = ks.length) (k' : α) (v' : β) : In2p ks (vs.set p v) k' v' ↔ (k' = k ∧ v' = v) ∨ (k' ≠ k ∧ In2p ks vs k' v') := by
  have hpl : p < vs.length := by have := (List.getElem?_eq_some_iff.1 hp).1; omega
  constructor
  · rintro ⟨i, h1, h2⟩
    rw [List.getElem?_set] at h2
    by_cases e : p = i
    · subst e
      rw [if_pos rfl, if_pos hpl] at h2
      rw [hp] at h1
      cases h1; cases h2
      exact .inl ⟨rfl, rfl⟩
    · rw [if_neg e] at h2
      refine .inr ⟨fun e' => ?_, i, h1, h2⟩
      subst e'
      exact e (hd _ _ _ hp h1)
  · rintro (⟨rfl, rfl⟩ | ⟨hne, i, h1, h2⟩)
    · exact ⟨p, hp, by rw [List.getElem?_set, if_pos rfl, if_pos hpl]⟩
    · refine ⟨i, h1, ?_⟩
      rw [List.getElem?_set, if_neg]
      · exact h2
      · intro e
        subst e
        rw [hp] at h1
        cases h1
        exact hne rfl

theorem in_ins {ks : List α} {vs : List β} {p : Nat} {k : α} {v : β} (hp : p ≤ ks.length) (hl : vs.length = ks.length) (hn : ∀ i : Nat, ks[i]? ≠ some k) (k' : α) (v' : β) : In2p (ins ks p k) (ins vs p v) k' v' ↔ (k' = k ∧ v' = v) ∨ (k' ≠ k ∧ In2p ks vs k' v') := by
  constructor
  · rintro ⟨i, h1, h2⟩
    rw [ins_get _ _ _ hp] at h1
    rw [ins_get _ _ _ (by omega)] at h2
    split at h1
    · rename_i h3
      rw [if_pos h3] at h2
      exact .inr ⟨fun e => hn i (e ▸ h1), i, h1, h2⟩
    · rename_i h3
      rw [if_neg h3] at h2
      split at h1
      · rename_i h4
        rw [if_pos h4] at h2
        cases h1; cases h2
        exact .inl ⟨rfl, rfl⟩
      · rename_i h4
        rw [if_neg h4] at h2
        exact .inr ⟨fun e => hn _ (e ▸ h1), _, h1, h2⟩
  · rintro (⟨rfl, rfl⟩ | ⟨hne, i, h1, h2⟩)
    · refine ⟨p, ?_, ?_⟩
      · rw [ins_get _ _ _ hp, if_neg (by omega), if_pos rfl]
      · rw [ins_get _ _ _ (by omega), if_neg (by omega), if_pos rfl]
    · by_cases h : i < p
      · refine ⟨i, ?_, ?_⟩
        · rw [ins_get _ _ _ hp, if_pos h]; exact h1
        · rw [ins_get _ _ _ (by omega), if_pos h]; exact h2
      · refine ⟨i + 1, ?_, ?_⟩
        · rw [ins_get _ _ _ hp, if_neg (by omega), if_neg (by omega)]; exact h1
        · rw [ins_get _ _ _ (by omega), if_neg (by omega), if_neg (by omega)]; exact h2

theorem in_del {ks : List α} {vs : List β} {p : Nat} {k : α} (hd : Dst ks) (hp : ks[p]? = some k) (hl : vs.length = ks.length) (k' : α) (v' : β) : In2p (del ks p) (del vs p) k' v' ↔ k' ≠ k ∧ In2p ks vs k' v' := by
  have hpl : p < ks.length := (List.getElem?_eq_some_iff.1 hp).1
  constructor
  · rintro ⟨i, h1, h2⟩
    rw [del_get _ _ _ hpl] at h1
    rw [del_get _ _ _ (by omega)] at h2
    split at h1
    · rename_i h3
      rw [if_pos h3] at h2
      refine ⟨fun e => ?_, i, h1, h2⟩
      subst e
      have := hd _ _ _ hp h1
      omega
    · rename_i h3
      rw [if_neg h3] at h2
      refine ⟨fun e => ?_, i + 1, h1, h2⟩
      subst e
      have := hd _ _ _ hp h1
      omega
  · rintro ⟨hne, i, h1, h2⟩
    have hip : i ≠ p := fun e => by subst e; rw [hp] at h1; cases h1; exact hne rfl
    by_cases h : i < p
    · refine ⟨i, ?_, ?_⟩
      · rw [del_get _ _ _ hpl, if_pos h]; exact h1
      · rw [del_get _ _ _ (by omega), if_pos h]; exact h2
    · refine ⟨i - 1, ?_, ?_⟩
      · rw [del_get _ _ _ hpl, if_neg (by omega), show i - 1 + 1 = i by omega]; exact h1
      · rw [del_get _ _ _ (by omega), if_neg (by omega), show i - 1 + 1 = i by omega]; exact h2

/-- The last one comes into the place of the j-th. -/
def swp (l : List α) (j n : Nat) (x : α) : List α := (l.set j x).take n

theorem swp_length (l : List α) (j n : Nat) (x : α) (h : n ≤ l.length) : (swp l j n x).length = n := by simp [swp]; omega

theorem swp_get (l : List α) (j n : Nat) (x : α) (hj : j < l.length) (i : Nat) : (swp l j n x)[i]? = if i < n then (if j = i then some x else l[i]?) else none := by
  unfold swp
  rw [List.getElem?_take]
  split
  · rw [List.getElem?_set]
    split
    · first | rfl | rw [if_pos hj]
    · rfl
  · rfl

theorem in_swp {ks : List α} {vs : List β} {j n : Nat} {k x : α} {y : β} (hd : Dst ks) (hj : ks[j]? = some k) (hl : vs.length = ks.length) (hn : n + 1 = ks.length) (hx : ks[n]? = some x) (hy : vs[n]? = some y) (k' : α) (v' : β) :
    In2p (swp ks j n x) (swp vs j n y) k' v' ↔ k' ≠ k ∧ In2p ks vs k' v' := by
  have hjl : j < ks.length := (List.getElem?_eq_some_iff.1 hj).1
  constructor
  · rintro ⟨i, h1, h2⟩
    rw [swp_get _ _ _ _ hjl] at h1
    rw [swp_get _ _ _ _ (by omega)] at h2
    split at h1
    · rename_i h3
      rw [if_pos h3] at h2
      split at h1
      · rename_i h4
        rw [if_pos h4] at h2
        cases h1; cases h2
        refine ⟨fun e => ?_, n, hx, hy⟩
        subst e
        have := hd _ _ _ hj hx
        omega
      · rename_i h4
        rw [if_neg h4] at h2
        refine ⟨fun e => ?_, i, h1, h2⟩
        subst e
        exact h4 (hd _ _ _ hj h1)
    · cases h1
  · rintro ⟨hne, i, h1, h2⟩
    have hij : j ≠ i := fun e => by subst e; rw [hj] at h1; cases h1; exact hne rfl
    have hil : i < ks.length := (List.getElem?_eq_some_iff.1 h1).1
    by_cases h : i < n
    · refine ⟨i, ?_, ?_⟩
      · rw [swp_get _ _ _ _ hjl, if_pos h, if_neg hij]; exact h1
      · rw [swp_get _ _ _ _ (by omega), if_pos h, if_neg hij]; exact h2
    · obtain rfl : i = n := by omega
      refine ⟨j, ?_, ?_⟩
      · rw [swp_get _ _ _ _ hjl, if_pos (by omega), if_pos rfl, ← hx]; exact h1
      · rw [swp_get _ _ _ _ (by omega), if_pos (by omega), if_pos rfl, ← hy]; exact h2

theorem dst_snoc {ks : List α} {k : α} (hd : Dst ks) (hn : ∀ i : Nat, ks[i]? ≠ some k) : Dst (ks ++ [k]) := by
  have hg : ∀ i x, (ks ++ [k])[i]? = some x → (i < ks.length ∧ ks[i]? = some x) ∨ (i = ks.length ∧ x = k) := fun i x h => by
    rw [List.getElem?_append] at h
    split at h
    · exact .inl ⟨by assumption, h⟩
    · have hl := (List.getElem?_eq_some_iff.1 h).1
      simp at hl
      have e : i - ks.length = 0 := by omega
      rw [e] at h
      simp at h
      exact .inr ⟨by omega, h.symm⟩
  intro i j x hi hj
  rcases hg i x hi with ⟨h1, h2⟩ | ⟨h1, h2⟩
  · rcases hg j x hj with ⟨h3, h4⟩ | ⟨h3, h4⟩
    · exact hd i j x h2 h4
    · subst h4; exact absurd h2 (hn i)
  · rcases hg j x hj with ⟨h3, h4⟩ | ⟨h3, h4⟩
    · subst h2; exact absurd h4 (hn j)
    · omega

theorem dst_swp {ks : List α} {j n : Nat} {k x : α} (hd : Dst ks) (hj : ks[j]? = some k) (hn : n + 1 = ks.length) (hx : ks[n]? = some x) : Dst (swp ks j n x) := by
  have hjl : j < ks.length := (List.getElem?_eq_some_iff.1 hj).1
  have hg : ∀ i y, (swp ks j n x)[i]? = some y → i < n ∧ ((i = j ∧ y = x) ∨ (i ≠ j ∧ ks[i]? = some y)) := fun i y h => by
    rw [swp_get _ _ _ _ hjl] at h
    split at h
    · split at h
      · rename_i h1 h2
        cases h
        exact ⟨h1, .inl ⟨h2.symm, rfl⟩⟩
      · rename_i h1 h2
        exact ⟨h1, .inr ⟨fun e => h2 e.symm, h⟩⟩
    · cases h
  intro a b y ha hb
  obtain ⟨ha1, ha2⟩ := hg a y ha
  obtain ⟨hb1, hb2⟩ := hg b y hb
  rcases ha2 with ⟨h1, h2⟩ | ⟨h1, h2⟩
  · rcases hb2 with ⟨h3, h4⟩ | ⟨h3, h4⟩
    · omega
    · subst h2
      have := hd _ _ _ hx h4
      omega
  · rcases hb2 with ⟨h3, h4⟩ | ⟨h3, h4⟩
    · subst h4
      have := hd _ _ _ hx h2
      omega
    · exact hd _ _ _ h2 h4

/-- The table's pairs and the document's: the same, in whatever order. -/
structure Same (ks : List α) (vs : List β) (kr : List α) (vr : List β) : Prop where
  l1 : vs.length = ks.length
  l2 : vr.length = kr.length
  len : kr.length = ks.length
  d1 : Dst ks
  d2 : Dst kr
  iff : ∀ k v, In2p kr vr k v ↔ In2p ks vs k v

theorem Same.nil : Same ([] : List α) ([] : List β) [] [] := ⟨rfl, rfl, rfl, fun i j k h => by simp at h, fun i j k h => by simp at h, fun k v => Iff.rfl⟩

theorem Same.key {ks : List α} {vs : List β} {kr : List α} {vr : List β} (h : Same ks vs kr vr) (k : α) : (∃ i : Nat, kr[i]? = some k) ↔ ∃ i : Nat, ks[i]? = some k := by
  constructor
  · rintro ⟨i, hi⟩
    have hl := (List.getElem?_eq_some_iff.1 hi).1
    have hl2 : i < vr.length := by rw [h.l2]; exact hl
    obtain ⟨p, hp, _⟩ := (h.iff k vr[i]).1 ⟨i, hi, List.getElem?_eq_getElem hl2⟩
    exact ⟨p, hp⟩
  · rintro ⟨i, hi⟩
    have hl := (List.getElem?_eq_some_iff.1 hi).1
    have hl2 : i < vs.length := by rw [h.l1]; exact hl
    obtain ⟨p, hp, _⟩ := (h.iff k vs[i]).2 ⟨i, hi, List.getElem?_eq_getElem hl2⟩
    exact ⟨p, hp⟩

/-- What stands at a key that both have. -/
theorem Same.val {ks : List α} {vs : List β} {kr : List α} {vr : List β} (h : Same ks vs kr vr) {k : α} {v v' : β} {p j : Nat} (hp : ks[p]? = some k) (hv : vs[p]? = some v) (hj : kr[j]? = some k) (hv' : vr[j]? = some v') : v = v' := by
  obtain ⟨q, h1, h2⟩ := (h.iff k v').1 ⟨j, hj, hv'⟩
  obtain rfl := h.d1 _ _ _ hp h1
  rw [hv] at h2
  exact Option.some.inj h2

theorem Same.again {ks : List α} {vs : List β} {kr : List α} {vr : List β} (h : Same ks vs kr vr) {k : α} (v : β) {p j : Nat} (hp : ks[p]? = some k) (hj : kr[j]? = some k) : Same ks (vs.set p v) kr (vr.set j v) :=
  ⟨by simp [h.l1], by simp [h.l2], h.len, h.d1, h.d2, fun k' v' => by rw [in_set h.d2 hj h.l2, in_set h.d1 hp h.l1, h.iff]⟩

theorem Same.fresh {lt : α → α → Bool} {ks : List α} {vs : List β} {kr : List α} {vr : List β} (h : Same ks vs kr vr) {k : α} (v : β) {p : Nat} (hp : p ≤ ks.length) (hn : ∀ i : Nat, ks[i]? ≠ some k) (hd : Dst (ins ks p k)) : Same (ins ks p k) (ins vs p v) (kr ++ [k]) (vr ++ [v]) := by
  have hn2 : ∀ i : Nat, kr[i]? ≠ some k := fun i hi => by
    obtain ⟨q, hq⟩ := (h.key k).1 ⟨i, hi⟩
    exact hn q hq
  refine ⟨by rw [ins_length _ _ _ (by have := h.l1; omega), ins_length _ _ _ hp, h.l1], by simp [h.l2], by rw [ins_length _ _ _ hp]; simp [h.len], hd, dst_snoc h.d2 hn2, fun k' v' => ?_⟩
  rw [in_ins hp h.l1 hn, ← h.iff]
  have e := in_ins (p := kr.length) (vs := vr) (k := k) (v := v) (Nat.le_refl _) h.l2 hn2 k' v'
  rw [ins_end _ _ _ rfl, ins_end vr v kr.length h.l2.symm] at e
  exact e

theorem Same.drop {ks : List α} {vs : List β} {kr : List α} {vr : List β} (h : Same ks vs kr vr) {k x : α} {y : β} {p j n : Nat} (hp : ks[p]? = some k) (hj : kr[j]? = some k) (hn : n + 1 = kr.length) (hx : kr[n]? = some x) (hy : vr[n]? = some y) (hd : Dst (del ks p)) : Same (del ks p) (del vs p) (swp kr j n x) (swp vr j n y) := by
  have hpl : p < ks.length := (List.getElem?_eq_some_iff.1 hp).1
  have h1 := h.l1
  have h2 := h.l2
  have h3 := h.len
  refine ⟨by rw [del_length _ _ (by omega), del_length _ _ hpl, h.l1], by rw [swp_length _ _ _ _ (by omega), swp_length _ _ _ _ (by omega)], by rw [swp_length _ _ _ _ (by omega), del_length _ _ hpl]; omega, hd, dst_swp h.d2 hj hn hx, fun k' v' => ?_⟩
  rw [in_swp h.d2 hj h.l2 hn hx hy, in_del h.d1 hp h.l1, h.iff]

/-- The best key that isn't above k, among the first i: a is where it stands. -/
def Best (lt : α → α → Bool) (kr : List α) (k : α) (i : Nat) (a : Option Nat) : Prop :=
  match a with
  | none => ∀ (j : Nat) x, j < i → kr[j]? = some x → lt k x = true
  | some a => a < i ∧ ∃ y, kr[a]? = some y ∧ lt k y = false ∧ ∀ (j : Nat) x, j < i → kr[j]? = some x → lt k x = false → lt y x = false

/-- The least key above all of ks's first m, among the first i. -/
def Least (lt : α → α → Bool) (kr ks : List α) (m i : Nat) (a : Option Nat) : Prop :=
  match a with
  | none => ∀ (j : Nat) x, j < i → kr[j]? = some x → ∃ q, q < m ∧ ks[q]? = some x
  | some a => a < i ∧ ∃ y, kr[a]? = some y ∧ (∀ q, q < m → ks[q]? ≠ some y) ∧ ∀ (j : Nat) x, j < i → kr[j]? = some x → (∀ q, q < m → ks[q]? ≠ some x) → lt x y = false

theorem Least.next {lt : α → α → Bool} (ho : SOrd lt) {ks kr : List α} {vs vr : List β} (h : Same ks vs kr vr) (hs : Srt lt ks) {m : Nat} (hm : m < ks.length) {a : Option Nat} (hb : Least lt kr ks m kr.length a) : ∃ b, a = some b ∧ b < kr.length ∧ kr[b]? = ks[m]? := by
  obtain ⟨z, hz⟩ : ∃ z, ks[m]? = some z := ⟨_, List.getElem?_eq_getElem hm⟩
  obtain ⟨j, hj⟩ := (h.key z).2 ⟨m, hz⟩
  have hjl := (List.getElem?_eq_some_iff.1 hj).1
  have hfree : ∀ q, q < m → ks[q]? ≠ some z := fun q hq e => by have := h.d1 _ _ _ hz e; omega
  cases a with
  | none =>
    obtain ⟨q, hq, e⟩ := hb j z hjl hj
    exact absurd e (hfree q hq)
  | some b =>
    obtain ⟨hbl, y, hy, hyn, hmin⟩ := hb
    refine ⟨b, rfl, hbl, ?_⟩
    have h1 := hmin j z hjl hj hfree
    obtain ⟨q, hq⟩ := (h.key y).1 ⟨b, hy⟩
    have hqm : ¬ q < m := fun e => hyn q e hq
    rcases Nat.lt_or_ge m q with h2 | h2
    · have := hs m q z y h2 hz hq
      rw [this] at h1; cases h1
    · obtain rfl : q = m := by omega
      rw [hy, hq]

theorem Best.near {lt : α → α → Bool} (ho : SOrd lt) {ks kr : List α} {vs vr : List β} (h : Same ks vs kr vr) (hs : Srt lt ks) {k : α} {p : Nat} (hp : CutAt lt ks k p) {a : Option Nat} (hb : Best lt kr k kr.length a) :
    match a with
    | none => p = 0 ∧ ks[0]? ≠ some k
    | some b => ∃ q x v, kr[b]? = some x ∧ vr[b]? = some v ∧ ks[q]? = some x ∧ vs[q]? = some v ∧ ((ks[p]? = some k ∧ q = p) ∨ (ks[p]? ≠ some k ∧ q + 1 = p)) := by
  cases a with
  | none =>
    have hno : ∀ q x, ks[q]? = some x → lt k x = true := fun q x hq => by
      obtain ⟨j, hj⟩ := (h.key x).2 ⟨q, hq⟩
      exact hb j x (List.getElem?_eq_some_iff.1 hj).1 hj
    refine ⟨?_, fun e => by have := hno _ _ e; rw [ho.irr] at this; cases this⟩
    rcases Nat.eq_zero_or_pos p with e | e
    · exact e
    · have hl : 0 < ks.length := by have := hp.1; omega
      have h1 := hp.2.1 0 ks[0] e (List.getElem?_eq_getElem hl)
      have h2 := hno 0 ks[0] (List.getElem?_eq_getElem hl)
      have h3 := ho.trans _ _ _ h1 h2
      rw [ho.irr] at h3; cases h3
  | some b =>
    obtain ⟨hbl, x, hx, hkx, hmax⟩ := hb
    obtain ⟨v, hv⟩ : ∃ v, vr[b]? = some v := ⟨_, List.getElem?_eq_getElem (by rw [h.l2]; exact hbl)⟩
    obtain ⟨q, hq, hqv⟩ := (h.iff x v).1 ⟨b, hx, hv⟩
    have hql := (List.getElem?_eq_some_iff.1 hq).1
    have hmax' : ∀ q' x', ks[q']? = some x' → lt k x' = false → lt x x' = false := fun q' x' hq' hk' => by
      obtain ⟨j, hj⟩ := (h.key x').2 ⟨q', hq'⟩
      exact hmax j x' (List.getElem?_eq_some_iff.1 hj).1 hj hk'
    refine ⟨q, x, v, hx, hv, hq, hqv, ?_⟩
    by_cases hf : ks[p]? = some k
    · refine .inl ⟨hf, ?_⟩
      have h1 := hmax' p k hf (ho.irr k)
      have h2 := ho.tri x k h1 hkx
      subst h2
      exact h.d1 _ _ _ hq hf
    · refine .inr ⟨hf, ?_⟩
      have hqp : q < p := by
        rcases Nat.lt_or_ge q p with h1 | h1
        · exact h1
        · have h2 := hp.2.2 q x h1 hq
          have h3 := ho.tri x k h2 hkx
          subst h3
          obtain rfl := hp.found ho hs q hq
          exact absurd hq hf
      rcases Nat.lt_or_ge (q + 1) p with h1 | h1
      · have hl1 : q + 1 < ks.length := by have := hp.1; omega
        have h2 := hp.2.1 (q + 1) ks[q + 1] h1 (List.getElem?_eq_getElem hl1)
        have h3 : lt k ks[q + 1] = false := by
          cases h4 : lt k ks[q + 1] with
          | false => rfl
          | true => have := ho.trans _ _ _ h2 h4; rw [ho.irr] at this; cases this
        have h5 := hmax' (q + 1) ks[q + 1] (List.getElem?_eq_getElem hl1) h3
        have h6 := hs q (q + 1) x ks[q + 1] (by omega) hq (List.getElem?_eq_getElem hl1)
        rw [h6] at h5; cases h5
      · omega

end

end Go.Proofs.YtcjblafohfiiaabGreat

/-
  The library's iterator over words, and copied at them.
-/
set_option linter.unusedVariables false
namespace Go.Proofs.YtcjblafohfiiaabGreat
open Go.RowKit Go.Shelf

attribute [local go_sem] Oper.semAt_some

/-- The slice value holds the numbers, in a block below n0. -/
def SliceU (n0 : Nat) (W : World) (sv : Value) (zs : List Int) : Prop :=
  (sv = .slice none 0 0 ∧ zs = []) ∨ ∃ b off cap, sv = .slice (some ⟨b, off, none⟩) zs.length cap ∧ b < n0 ∧ ∀ (j : Nat) x, zs[j]? = some x → W.cell? ⟨b, off + j, none⟩ = some (.int .u64 x)

theorem SliceU.below {n0 n1 : Nat} {A B : World} {sv : Value} {zs : List Int} (h : Below n1 A B) (hn : n0 ≤ n1) : SliceU n0 A sv zs → SliceU n0 B sv zs
  | .inl e => .inl e
  | .inr ⟨b, off, cap, e, hb, hc⟩ => .inr ⟨b, off, cap, e, hb, fun j x hj => (h.cell (p := ⟨b, off + j, none⟩) (by show b < n1; omega)).trans (hc j x hj)⟩

set_option maxRecDepth 100000 in
set_option maxHeartbeats 2000000 in
theorem valuesU_full (Bs n0 : Nat) (sv : Value) (zs : List Int) (w : World) (hBs : Bs < w.heap.size) (hn0 : n0 ≤ w.heap.size) (hlen : zs.length < 1000000) (hc : w.cell? ⟨Bs, 0, none⟩ = some sv) (hI : SliceU n0 w sv zs) :
    SeqFull Tryz.prog 129 #[.pointer (some ⟨Bs, 0, none⟩)] (fun x : Int => #[Value.int .u64 x]) zs n0 (fun _ => False) w := fun n l J W S0 hW _ hJ hY h0 => by
  have hc' := (hW.cell (p := ⟨Bs, 0, none⟩) hBs).trans hc
  refine callsIn_of_wp Tryz.func129 rfl trivial ?_ rfl
  simp only [Tryz.ntmps129, List.size_toArray, List.length_cons, List.length_nil, Nat.reduceAdd, Nat.reduceSub, Array.replicate_succ, Array.replicate_zero, List.push_toArray, List.append_toArray, List.nil_append, List.cons_append]
  rcases hI.below hW hn0 with ⟨rfl, rfl⟩ | ⟨b, off, cap, rfl, hb, hcs⟩
  · gi_wp2
    gi_loopw [7] (fun i wr => i = .int .i64 0 ∧ J S0 [] wr) (fun _ _ => 0)
    case atStart => exact ⟨rfl, h0⟩
    case round =>
      obtain ⟨rfl, hJs⟩ := hrel
      gi_wp2
      go_end0
      exact ⟨⟨_, rfl⟩, _, hJs⟩
  · gi_wp2
    gi_loopw [7] (fun i wr => ∃ (k : Nat) (S : Nat → Prop), k ≤ zs.length ∧ i = .int .i64 k ∧ J S (zs.take k) wr ∧ Below n0 W wr)
      (fun i _ => zs.length - (intOf i).toNat)
    case atStart => exact ⟨0, S0, Nat.zero_le _, rfl, h0, Below.refl _ _⟩
    case round =>
      obtain ⟨k, S, hk, rfl, hJs, hnx⟩ := hrel
      by_cases hlt : k < zs.length
      · obtain ⟨x, hx⟩ : ∃ x, zs[k]? = some x := ⟨_, List.getElem?_eq_getElem hlt⟩
        have hcx : wr.cell? ⟨b, off + k, none⟩ = some (.int .u64 x) := (hnx.cell (p := ⟨b, off + k, none⟩) hb).trans (hcs k x hx)
        have hsn := take_snoc hx
        obtain ⟨fn, tmps, assign, body, hy, hR⟩ := hY S (zs.take k) x wr hJs (by rw [hsn]; exact List.take_prefix _ _) (n - 1)
        have Hsn : Hid (zs.take k ++ [x] = zs.take (k + 1)) := hsn
        clear hsn hx
        gi_wp2
        refine ⟨fun h => (by cases h), hR.mono ?_⟩
        rintro e W3 ⟨rfl, hJ3, hS3, hk3⟩
        rw [Hsn.out] at hJ3
        gi_wp2
        go_roundw
        case rel => exact ⟨k + 1, S, hlt, by go_num, hJ3, hnx.trans hk3⟩
        case measure => simp [intOf]; omega
      · obtain rfl : k = zs.length := by omega
        rw [List.take_length] at hJs
        gi_wp2
        go_end0
        exact ⟨⟨_, rfl⟩, S, hJs⟩

set_option maxHeartbeats 1000000 in
theorem valuesU_any (a : Option Addr) (len cap : Nat) (w : World) :
    Calls Tryz.prog 118 #[.slice a len cap] w fun e w' => e = .returned (.func (.func 129) #[] #[.pointer (some ⟨w.heap.size, 0, none⟩)]) ∧ w' = w.alloc (.cells #[.slice a len cap] 69) := by
  go_enter Tryz.func118, Tryz.ntmps118
  go_wp2
  go_ret
  exact ⟨rfl, rfl⟩

set_option maxRecDepth 100000 in
set_option maxHeartbeats 2000000 in
theorem copiedU_any (gf : Nat) (lb : Array Value) (xs : List Int) (Own : Nat → Prop) (w : World) (eg : ∀ args w, (callFunc gf args).run Tryz.prog w = .ok (.enter gf args) w)
    (hseq : SeqFull Tryz.prog gf lb (fun x : Int => #[Value.int .u64 x]) xs w.heap.size Own w) (hOwn : ∀ k, Own k → k < w.heap.size) (hlen : xs.length < 1000000) :
    Calls Tryz.prog 117 #[.func (.func gf) #[] lb] w fun e W' => ∃ v, e = .returned v ∧ W'.ownsRow w.heap.size 29 1 v xs.length (u64s xs) ∧ Below w.heap.size w W' := by
  refine (callsIn_wide (n := 9)).1 ?_
  obtain ⟨i0, hi, hz0, hz1, hz2⟩ := info_parts Tryz.infoU64
  refine callsIn_of_wp_marks Tryz.func117 rfl trivial ?_ rfl
  simp only [Tryz.ntmps117, List.size_toArray, List.length_cons, List.length_nil, Nat.reduceAdd, Nat.reduceSub, Array.replicate_succ, Array.replicate_zero, List.push_toArray, List.append_toArray, List.nil_append, List.cons_append]
  gi_wp2
  have bO := Boxed.new w 69 (.slice none 0 0)
  refine range_full (S0 := fun k => k < w.heap.size) (gf := gf) (lb := lb) (w0 := w) (n0 := w.heap.size) rfl eg hseq hOwn ((Below.refl _ w).alloc (Nat.le_refl _) _) (by simp) (fun _ => rfl)
    (Copying w 69 29 (Value.int .u64)) (copying_own w 69 29 (Value.int .u64) _ (by simp))
    ⟨_, bO, World.ownsRow_nil _ _ _ _, by simp, by simp [Value.ownBlock], fun k h => by simp at h ⊢; omega, (Below.refl _ w).alloc (Nat.le_refl _) _⟩
    (fun x => { tmps := #[.func (.func gf) #[] lb, undef, .slice none 0 0, .pointer (some ⟨w.heap.size, 0, none⟩), .int .u64 x, .func (.func gf) #[] lb, .int .u64 x, undef, undef, undef, undef, undef], defers := [] }) ?assign ?body ?done
  case assign =>
    intro l x W K m hK
    gi_wp2
    exact hK
  case body =>
    rintro l S pre x W m ⟨v, hv, hrow, h1, h2, h3, hB⟩ hpre
    have hpl : pre.length < 1000000 := by have := hpre.length_le; simp at this; omega
    have hc := hv.cell
    gi_wp2_with (gi_at_builtin; refine wpListIn_append_own_at _ rfl _ _ 69 rfl w.heap.size 29 i0 (.int .u64 0) 1 8 Tryz.underlying69 hi hz0 hz1 hz2 rfl (by decide) _ _ _ rfl (hrow.alloc _) ⟨W.heap.size, 0, none⟩ 1 1 [.int .u64 x] rfl rfl (cell_one_new _ _ _) (by simp [Value.oneCell']) (by simp [maxLen]; omega) (by omega) (by have := hB.size; simp; omega) ?_; intro v' w1 hown' hgrow _ hat; obtain ⟨g', cap', rfl⟩ := ownsRow_succ hown'; obtain ⟨hv1, hv2, hr2, hk2, hb2⟩ := hv.appended (by decide) hrow hB.size (Nat.le_refl _) hown' hgrow; have hc1 := hv1.cell; have hf1 := hv1.frozen)
    exact copying_step (by decide) hv hrow h1 h2 h3 hB hown' hgrow hat
  case done =>
    rintro D S W hD ⟨v, hv, hrow, -, -, -, hB⟩ hK
    have hc := hv.cell
    gi_wp2
    refine ⟨by simp, .inl ⟨_, _, rfl, run_takeDeferred hK, ?_⟩⟩
    exact ⟨_, results_tmp rfl _ _ _, v, rfl, ownsRow_putObj hrow _ hK rfl, hB.trans (belowK_b (w := w) (Nat.le_refl _) W D _ _ (by simp at hD; omega) hK rfl rfl)⟩

end Go.Proofs.YtcjblafohfiiaabGreat

/-
  The table of words by number, gone through.
-/
set_option linter.unusedVariables false
namespace Go.Proofs.YtcjblafohfiiaabGreat
open Go.RowKit Go.Shelf

/-- What whoever goes through a table is told: J between two keys, Jx behind one at which it said no more; g, h: blocks that it leaves alone. -/
def WalkedP (P : Program) (fz : Nat) (Bl : Nat) (ks vs : List Int) (W : World) : Prop :=
  ∀ (k : Nat) (caps : Array Value) (J Jx : Nat → Nat → Nat → World → Prop), (∀ args w, (callFunc k args).run P w = .ok (.enter k args) w) →
    (∀ g h W1, Below W.heap.size W W1 → W.heap.size ≤ g → g < W1.heap.size → W.heap.size ≤ h → h < W1.heap.size → J g h 0 W1) →
    (∀ g h j x v W2, J g h j W2 → ks[j]? = some x → vs[j]? = some v → Calls P k (#[.int .i64 x, .int .u64 v] ++ caps) W2 fun e W3 => W3.heap[g]? = W2.heap[g]? ∧ W3.heap[h]? = W2.heap[h]? ∧ ((e = .returned (.bool true) ∧ J g h (j + 1) W3) ∨ (e = .returned (.bool false) ∧ Jx g h (j + 1) W3))) →
    Calls P fz #[.func (.func k) #[] caps, .pointer (some ⟨Bl, 0, none⟩)] W fun e W' => (∃ r, e = .returned r) ∧ ∃ g h, J g h ks.length W' ∨ ∃ j, j ≤ ks.length ∧ Jx g h j W'

theorem row_cells {w : World} {base g cap n e : Nat} {xs : List Int} {enc : Int → Value} (h : w.ownsRow base e 1 (.slice (some ⟨g, 0, none⟩) n cap) n (xs.map enc)) (hn : n = xs.length) :
    ∃ cur, w.heap[g]? = some (.cells cur e (0, 0)) ∧ base ≤ g ∧ ∀ (j : Nat) x, xs[j]? = some x → cur[j]? = some (enc x) := by
  rcases h.2 with ⟨h0, _⟩ | ⟨g', cap', cur, he, hb, hg, h1, hm, hs, ht⟩
  · cases h0
  · simp only [Value.slice.injEq, Option.some.injEq, Addr.mk.injEq, and_true] at he
    obtain ⟨rfl, -, -⟩ := he
    refine ⟨cur, hg, hb, fun j x hj => ?_⟩
    have hjl := (List.getElem?_eq_some_iff.1 hj).1
    have h1 : (xs.map enc)[j]? = some (enc x) := by simp [hj]
    rw [← h1, ← ht, List.getElem?_take, if_pos (by omega), Array.getElem?_toList]

set_option maxHeartbeats 4000000 in
theorem allI_any (Bl bt n cap n' cap' : Nat) (a a' : Option Addr) (ks vs : List Int) (W : World) (hbl : W.cell? ⟨Bl, 0, none⟩ = some (.pointer (some ⟨bt, 0, none⟩))) (hc0 : W.cell? ⟨bt, 0, none⟩ = some (.slice a n cap)) (hc1 : W.cell? ⟨bt, 1, none⟩ = some (.slice a' n' cap'))
    (hk : SliceIs W.heap.size W (.slice a n cap) ks) (hv : SliceU W.heap.size W (.slice a' n' cap') vs) (hl : vs.length = ks.length) (hlen : ks.length < 1000000) :
    WalkedP Tryz.prog 116 Bl ks vs W := by
  intro k caps J Jx ek hstart hcb
  have Hcb : Hid (∀ g h j x v W2, J g h j W2 → ks[j]? = some x → vs[j]? = some v → Calls Tryz.prog k (#[.int .i64 x, .int .u64 v] ++ caps) W2 fun e W3 => W3.heap[g]? = W2.heap[g]? ∧ W3.heap[h]? = W2.heap[h]? ∧ ((e = .returned (.bool true) ∧ J g h (j + 1) W3) ∨ (e = .returned (.bool false) ∧ Jx g h (j + 1) W3))) := hcb
  clear hcb
  have hBl := World.block_lt_of_cell? _ _ hbl
  have hbt := World.block_lt_of_cell? _ _ hc0
  simp only at hBl hbt
  have bX := Boxed.new W 69 (.slice a' n' cap')
  have hB1 : Below W.heap.size W (W.alloc (.cells #[.slice a' n' cap'] 69)) := (Below.refl _ W).alloc (Nat.le_refl _) _
  have hseq := valuesU_full W.heap.size (W.alloc (.cells #[.slice a' n' cap'] 69)).heap.size (.slice a' n' cap') vs (W.alloc (.cells #[.slice a' n' cap'] 69)) (by simp) (Nat.le_refl _) (by omega) bX.cell (by
    rcases hv.below hB1 (Nat.le_refl _) with h | ⟨b, off, cap, e, hb, hc⟩
    · exact .inl h
    · exact .inr ⟨b, off, cap, e, by simp; omega, hc⟩)
  have hcop := copiedU_any 129 _ vs (fun _ => False) _ (enters_of Tryz.func129 (by kernel_rfl) rfl) hseq (fun k h => h.elim) (by omega)
  clear hseq bX
  go_enter Tryz.func116, Tryz.ntmps116
  go_wp2_with fail
  refine (valuesU_any _ _ _ _).mono ?_
  rintro e w1 ⟨rfl, rfl⟩
  go_wp2_with fail
  refine hcop.mono ?_
  rintro e W2 ⟨v2, rfl, hr2, hB2⟩
  have hB2w : Below W.heap.size W W2 := hB1.trans (hB2.mono (by simp))
  have hsz2 : W.heap.size < W2.heap.size := by have := hB2.size; simp at this; omega
  have c2l := (hB2w.cell (p := ⟨Bl, 0, none⟩) hBl).trans hbl
  have c20 := (hB2w.cell (p := ⟨bt, 0, none⟩) hbt).trans hc0
  have bY := Boxed.new W2 68 (.slice a n cap)
  have hB3 : Below W2.heap.size W2 (W2.alloc (.cells #[.slice a n cap] 68)) := (Below.refl _ W2).alloc (Nat.le_refl _) _
  have hseq3 := valuesI_full W2.heap.size (W2.alloc (.cells #[.slice a n cap] 68)).heap.size (.slice a n cap) ks (W2.alloc (.cells #[.slice a n cap] 68)) (by simp) (Nat.le_refl _) hlen bY.cell (by
    rcases hk.below (hB2w.trans (hB3.mono hB2w.size)) (Nat.le_refl _) with h | ⟨b, off, cap, e, hb, hc⟩
    · exact .inl h
    · exact .inr ⟨b, off, cap, e, by simp; omega, hc⟩)
  have hcop3 := copiedI_any 124 _ ks (fun _ => False) _ (enters_of Tryz.func124 (by kernel_rfl) rfl) hseq3 (fun k h => h.elim) hlen
  clear hseq3 bY hcop hbl hc0 hc1
  go_wp2_with fail
  refine (valuesI_any _ _ _ _).mono ?_
  rintro e w1 ⟨rfl, rfl⟩
  go_wp2_with fail
  refine hcop3.mono ?_
  rintro e W4 ⟨v4, rfl, hr4, hB4⟩
  have hB24 : Below W2.heap.size W2 W4 := hB3.trans (hB4.mono (by simp))
  have hB4w : Below W.heap.size W W4 := hB2w.trans (hB24.mono hB2w.size)
  have hsz4 : W.heap.size < W4.heap.size := Nat.lt_of_lt_of_le hsz2 hB24.size
  have hr2' : W4.ownsRow W.heap.size 29 1 v2 vs.length (u64s vs) := row_base (row_keep2 (G := []) hr2 ⟨hB24.os, hB24.tape, hB24.output, hB24.size, fun k hk _ => hB24.block k hk⟩ (by simp)) (by simp)
  have hr4' : W4.ownsRow W.heap.size 3 1 v4 ks.length (ints ks) := row_base hr4 (by simp; omega)
  clear hcop3 hr2 hr4 hB2 hB3 hB4 hB24 hB2w hB1 c2l c20 hk hv
  obtain ⟨ak, ck, rfl⟩ : ∃ a c, v4 = .slice a ks.length c := by
    rcases hr4'.2 with ⟨rfl, h0⟩ | ⟨g, cap, cur, rfl, _⟩
    · exact ⟨none, 0, by rw [h0]⟩
    · exact ⟨_, _, rfl⟩
  obtain ⟨av, cv, rfl⟩ : ∃ a c, v2 = .slice a ks.length c := by
    rcases hr2'.2 with ⟨rfl, h0⟩ | ⟨g, cap, cur, rfl, _⟩
    · exact ⟨none, 0, by rw [← hl, h0]⟩
    · exact ⟨_, _, by rw [hl]⟩
  by_cases hks : ks = []
  · subst hks
    clear hr2' hr4' Hcb
    go_wp2
    refine wp_loop_rounds 1 ?_
    rw [rounds_succ]
    go_wp2
    go_end0
    exact ⟨⟨_, rfl⟩, W.heap.size, W.heap.size, .inl (hstart _ _ _ hB4w (Nat.le_refl _) hsz4 (Nat.le_refl _) hsz4)⟩
  · have hpos : 0 < ks.length := List.length_pos_iff.2 hks
    obtain ⟨g, curk, hak, hgW, Hgg, Hk⟩ : ∃ g cur, ak = some ⟨g, 0, none⟩ ∧ W.heap.size ≤ g ∧ Hid (W4.heap[g]? = some (.cells cur 3 (0, 0))) ∧ Hid (∀ (j : Nat) x, ks[j]? = some x → cur[j]? = some (.int .i64 x)) := by
      rcases hr4'.2 with ⟨h0, h1⟩ | ⟨g, cap, cur, he, _⟩
      · omega
      · simp only [Value.slice.injEq] at he
        obtain ⟨rfl, -, rfl⟩ := he
        obtain ⟨cur, h1, h2, h3⟩ := row_cells hr4' rfl
        exact ⟨g, cur, rfl, h2, h1, h3⟩
    obtain ⟨h, curv, hav, hhW, Hhh, Hv⟩ : ∃ h cur, av = some ⟨h, 0, none⟩ ∧ W.heap.size ≤ h ∧ Hid (W4.heap[h]? = some (.cells cur 29 (0, 0))) ∧ Hid (∀ (j : Nat) x, vs[j]? = some x → cur[j]? = some (.int .u64 x)) := by
      rcases hr2'.2 with ⟨h0, h1⟩ | ⟨g, cap, cur, he, _⟩
      · omega
      · simp only [Value.slice.injEq] at he
        obtain ⟨rfl, -, rfl⟩ := he
        rw [← hl] at hr2'
        obtain ⟨cur, h1, h2, h3⟩ := row_cells hr2' rfl
        exact ⟨g, cur, rfl, h2, h1, h3⟩
    subst hak hav
    have hJ0 := hstart g h W4 hB4w hgW (heap_lt Hgg.out) hhW (heap_lt Hhh.out)
    clear hstart hr4' hr2' hB4w hsz4 hsz2
    go_wp2
    go_loopw [19] (fun i wr => ∃ j : Nat, j ≤ ks.length ∧ i = .int .i64 j ∧ J g h j wr ∧ wr.heap[g]? = some (.cells curk 3 (0, 0)) ∧ wr.heap[h]? = some (.cells curv 29 (0, 0))) (fun i _ => ks.length - (intOf i).toNat)
    case atStart => exact ⟨0, Nat.zero_le _, rfl, hJ0, Hgg.out, Hhh.out⟩
    case round =>
      obtain ⟨j, hj, rfl, hJs, hgr, hhr⟩ := hrel
      have Hgr : Hid (wr.heap[g]? = some (.cells curk 3 (0, 0))) := hgr
      have Hhr : Hid (wr.heap[h]? = some (.cells curv 29 (0, 0))) := hhr
      by_cases hlt : j < ks.length
      · obtain ⟨x, hx⟩ : ∃ x, ks[j]? = some x := ⟨_, List.getElem?_eq_getElem hlt⟩
        obtain ⟨v, hv⟩ : ∃ v, vs[j]? = some v := ⟨_, List.getElem?_eq_getElem (by omega)⟩
        have hcx : wr.cell? ⟨g, j, none⟩ = some (.int .i64 x) := (heap_cell hgr j).trans (Hk.out j x hx)
        have hcv : wr.cell? ⟨h, j, none⟩ = some (.int .u64 v) := (heap_cell hhr j).trans (Hv.out j v hv)
        have hcal := Hcb.out g h j x v wr hJs hx hv
        clear hx hv hgr hhr
        have hji : (j : Int) < ks.length := by omega
        go_wp2_with fail
        refine hcal.mono ?_
        rintro e W3 ⟨hg3, hh3, ⟨rfl, hJ3⟩ | ⟨rfl, hJx3⟩⟩
        · have Hg3 : Hid (W3.heap[g]? = some (.cells curk 3 (0, 0))) := hg3.trans Hgr.out
          have Hh3 : Hid (W3.heap[h]? = some (.cells curv 29 (0, 0))) := hh3.trans Hhr.out
          clear hg3 hh3 hcal
          go_wp2
          go_roundw
          case rel => exact ⟨j + 1, hlt, by go_num, hJ3, Hg3.out, Hh3.out⟩
          case measure => simp [intOf]; omega
        · clear hg3 hh3 hcal
          go_wp2
          refine bodyPost_ret (results_none rfl _ _ _) rfl ?_
          exact ⟨⟨_, rfl⟩, g, h, .inr ⟨j + 1, hlt, hJx3⟩⟩
      · obtain rfl : j = ks.length := by omega
        clear hgr hhr
        go_wp2
        go_end0
        exact ⟨⟨_, rfl⟩, g, h, .inl hJs⟩

end Go.Proofs.YtcjblafohfiiaabGreat

