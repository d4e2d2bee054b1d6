/-
  The table of numbers by text, gone through.
-/
import Derived.Test.YtcjblafohfiiaabGreatCoU
import Derived.Test.YtcjblafohfiiaabGreatIn
import Derived.Test.YtcjblafohfiiaabGreatXIn
set_option linter.unusedVariables false
namespace Go.Proofs.YtcjblafohfiiaabGreat.Nd
open Go.RowKit Go.Shelf

/-- What whoever goes through a table is told: J between two keys, Jx behind one at which it said no more; g, h: blocks that it leaves alone. -/
def WalkedP (P : Program) (fz : Nat) (Bl : Nat) (ks : List ByteArray) (vs : List Int) (W : World) : Prop :=
  ∀ (k : Nat) (caps : Array Value) (J Jx : Nat → Nat → Nat → World → Prop), (∀ args w, (callFunc k args).run P w = .ok (.enter k args) w) →
    (∀ g h W1, Below W.heap.size W W1 → W.heap.size ≤ g → g < W1.heap.size → W.heap.size ≤ h → h < W1.heap.size → J g h 0 W1) →
    (∀ g h j x v W2, J g h j W2 → ks[j]? = some x → vs[j]? = some v → Calls P k (#[.string x, .int .i64 v] ++ caps) W2 fun e W3 => W3.heap[g]? = W2.heap[g]? ∧ W3.heap[h]? = W2.heap[h]? ∧ ((e = .returned (.bool true) ∧ J g h (j + 1) W3) ∨ (e = .returned (.bool false) ∧ Jx g h (j + 1) W3))) →
    Calls P fz #[.func (.func k) #[] caps, .pointer (some ⟨Bl, 0, none⟩)] W fun e W' => (∃ r, e = .returned r) ∧ ∃ g h, J g h ks.length W' ∨ ∃ j, j ≤ ks.length ∧ Jx g h j W'

theorem row_cells {w : World} {base g cap n e : Nat} {α : Type} {xs : List α} {enc : α → Value} (h : w.ownsRow base e 1 (.slice (some ⟨g, 0, none⟩) n cap) n (xs.map enc)) (hn : n = xs.length) :
    ∃ cur, w.heap[g]? = some (.cells cur e (0, 0)) ∧ base ≤ g ∧ ∀ (j : Nat) x, xs[j]? = some x → cur[j]? = some (enc x) := by
  rcases h.2 with ⟨h0, _⟩ | ⟨g', cap', cur, he, hb, hg, h1, hm, hs, ht⟩
  · cases h0
  · simp only [Value.slice.injEq, Option.some.injEq, Addr.mk.injEq, and_true] at he
    obtain ⟨rfl, -, -⟩ := he
    refine ⟨cur, hg, hb, fun j x hj => ?_⟩
    have hjl := (List.getElem?_eq_some_iff.1 hj).1
    have h1 : (xs.map enc)[j]? = some (enc x) := by simp [hj]
    rw [← h1, ← ht, List.getElem?_take, if_pos (by omega), Array.getElem?_toList]

set_option maxHeartbeats 4000000 in
theorem allS_any (Bl bt n cap n' cap' : Nat) (a a' : Option Addr) (ks : List ByteArray) (vs : List Int) (W : World) (hbl : W.cell? ⟨Bl, 0, none⟩ = some (.pointer (some ⟨bt, 0, none⟩))) (hc0 : W.cell? ⟨bt, 0, none⟩ = some (.slice a n cap)) (hc1 : W.cell? ⟨bt, 1, none⟩ = some (.slice a' n' cap'))
    (hk : Tx.SliceIs W.heap.size W (.slice a n cap) ks) (hv : SliceIs W.heap.size W (.slice a' n' cap') vs) (hl : vs.length = ks.length) (hlen : ks.length < 1000000) :
    WalkedP Tryz.prog 122 Bl ks vs W := by
  intro k caps J Jx ek hstart hcb
  have Hcb : Hid (∀ g h j x v W2, J g h j W2 → ks[j]? = some x → vs[j]? = some v → Calls Tryz.prog k (#[.string x, .int .i64 v] ++ caps) W2 fun e W3 => W3.heap[g]? = W2.heap[g]? ∧ W3.heap[h]? = W2.heap[h]? ∧ ((e = .returned (.bool true) ∧ J g h (j + 1) W3) ∨ (e = .returned (.bool false) ∧ Jx g h (j + 1) W3))) := hcb
  clear hcb
  have hBl := World.block_lt_of_cell? _ _ hbl
  have hbt := World.block_lt_of_cell? _ _ hc0
  simp only at hBl hbt
  have bX := Boxed.new W 68 (.slice a' n' cap')
  have hB1 : Below W.heap.size W (W.alloc (.cells #[.slice a' n' cap'] 68)) := (Below.refl _ W).alloc (Nat.le_refl _) _
  have hseq := valuesI_full W.heap.size (W.alloc (.cells #[.slice a' n' cap'] 68)).heap.size (.slice a' n' cap') vs (W.alloc (.cells #[.slice a' n' cap'] 68)) (by simp) (Nat.le_refl _) (by omega) bX.cell (by
    rcases hv.below hB1 (Nat.le_refl _) with h | ⟨b, off, cap, e, hb, hc⟩
    · exact .inl h
    · exact .inr ⟨b, off, cap, e, by simp; omega, hc⟩)
  have hcop := copiedI_any 124 _ vs (fun _ => False) _ (enters_of Tryz.func124 (by kernel_rfl) rfl) hseq (fun k h => h.elim) (by omega)
  clear hseq bX
  go_enter Tryz.func122, Tryz.ntmps122
  go_wp2_with fail
  refine (valuesI_any _ _ _ _).mono ?_
  rintro e w1 ⟨rfl, rfl⟩
  go_wp2_with fail
  refine hcop.mono ?_
  rintro e W2 ⟨v2, rfl, hr2, hB2⟩
  have hB2w : Below W.heap.size W W2 := hB1.trans (hB2.mono (by simp))
  have hsz2 : W.heap.size < W2.heap.size := by have := hB2.size; simp at this; omega
  have c2l := (hB2w.cell (p := ⟨Bl, 0, none⟩) hBl).trans hbl
  have c20 := (hB2w.cell (p := ⟨bt, 0, none⟩) hbt).trans hc0
  have bY := Boxed.new W2 72 (.slice a n cap)
  have hB3 : Below W2.heap.size W2 (W2.alloc (.cells #[.slice a n cap] 72)) := (Below.refl _ W2).alloc (Nat.le_refl _) _
  have hseq3 := Tx.valuesI_full W2.heap.size (W2.alloc (.cells #[.slice a n cap] 72)).heap.size (.slice a n cap) ks (W2.alloc (.cells #[.slice a n cap] 72)) (by simp) (Nat.le_refl _) hlen bY.cell (by
    rcases hk.below (hB2w.trans (hB3.mono hB2w.size)) (Nat.le_refl _) with h | ⟨b, off, cap, e, hb, hc⟩
    · exact .inl h
    · exact .inr ⟨b, off, cap, e, by simp; omega, hc⟩)
  have hcop3 := Tx.copiedI_any 125 _ ks (fun _ => False) _ (enters_of Tryz.func125 (by kernel_rfl) rfl) hseq3 (fun k h => h.elim) hlen
  clear hseq3 bY hcop hbl hc0 hc1
  go_wp2_with fail
  refine (Tx.valuesI_any _ _ _ _).mono ?_
  rintro e w1 ⟨rfl, rfl⟩
  go_wp2_with fail
  refine hcop3.mono ?_
  rintro e W4 ⟨v4, rfl, hr4, hB4⟩
  have hB24 : Below W2.heap.size W2 W4 := hB3.trans (hB4.mono (by simp))
  have hB4w : Below W.heap.size W W4 := hB2w.trans (hB24.mono hB2w.size)
  have hsz4 : W.heap.size < W4.heap.size := Nat.lt_of_lt_of_le hsz2 hB24.size
  have hr2' : W4.ownsRow W.heap.size 3 1 v2 vs.length (ints vs) := row_base (row_keep2 (G := []) hr2 ⟨hB24.os, hB24.tape, hB24.output, hB24.size, fun k hk _ => hB24.block k hk⟩ (by simp)) (by simp)
  have hr4' : W4.ownsRow W.heap.size 9 1 v4 ks.length (strs ks) := row_base hr4 (by simp; omega)
  clear hcop3 hr2 hr4 hB2 hB3 hB4 hB24 hB2w hB1 c2l c20 hk hv
  obtain ⟨ak, ck, rfl⟩ : ∃ a c, v4 = .slice a ks.length c := by
    rcases hr4'.2 with ⟨rfl, h0⟩ | ⟨g, cap, cur, rfl, _⟩
    · exact ⟨none, 0, by rw [h0]⟩
    · exact ⟨_, _, rfl⟩
  obtain ⟨av, cv, rfl⟩ : ∃ a c, v2 = .slice a ks.length c := by
    rcases hr2'.2 with ⟨rfl, h0⟩ | ⟨g, cap, cur, rfl, _⟩
    · exact ⟨none, 0, by rw [← hl, h0]⟩
    · exact ⟨_, _, by rw [hl]⟩
  by_cases hks : ks = []
  · subst hks
    clear hr2' hr4' Hcb
    go_wp2
    refine wp_loop_rounds 1 ?_
    rw [rounds_succ]
    go_wp2
    go_end0
    exact ⟨⟨_, rfl⟩, W.heap.size, W.heap.size, .inl (hstart _ _ _ hB4w (Nat.le_refl _) hsz4 (Nat.le_refl _) hsz4)⟩
  · have hpos : 0 < ks.length := List.length_pos_iff.2 hks
    obtain ⟨g, curk, hak, hgW, Hgg, Hk⟩ : ∃ g cur, ak = some ⟨g, 0, none⟩ ∧ W.heap.size ≤ g ∧ Hid (W4.heap[g]? = some (.cells cur 9 (0, 0))) ∧ Hid (∀ (j : Nat) x, ks[j]? = some x → cur[j]? = some (.string x)) := by
      rcases hr4'.2 with ⟨h0, h1⟩ | ⟨g, cap, cur, he, _⟩
      · omega
      · simp only [Value.slice.injEq] at he
        obtain ⟨rfl, -, rfl⟩ := he
        obtain ⟨cur, h1, h2, h3⟩ := row_cells hr4' rfl
        exact ⟨g, cur, rfl, h2, h1, h3⟩
    obtain ⟨h, curv, hav, hhW, Hhh, Hv⟩ : ∃ h cur, av = some ⟨h, 0, none⟩ ∧ W.heap.size ≤ h ∧ Hid (W4.heap[h]? = some (.cells cur 3 (0, 0))) ∧ Hid (∀ (j : Nat) x, vs[j]? = some x → cur[j]? = some (.int .i64 x)) := by
      rcases hr2'.2 with ⟨h0, h1⟩ | ⟨g, cap, cur, he, _⟩
      · omega
      · simp only [Value.slice.injEq] at he
        obtain ⟨rfl, -, rfl⟩ := he
        rw [← hl] at hr2'
        obtain ⟨cur, h1, h2, h3⟩ := row_cells hr2' rfl
        exact ⟨g, cur, rfl, h2, h1, h3⟩
    subst hak hav
    have hJ0 := hstart g h W4 hB4w hgW (heap_lt Hgg.out) hhW (heap_lt Hhh.out)
    clear hstart hr4' hr2' hB4w hsz4 hsz2
    go_wp2
    go_loopw [19] (fun i wr => ∃ j : Nat, j ≤ ks.length ∧ i = .int .i64 j ∧ J g h j wr ∧ wr.heap[g]? = some (.cells curk 9 (0, 0)) ∧ wr.heap[h]? = some (.cells curv 3 (0, 0))) (fun i _ => ks.length - (intOf i).toNat)
    case atStart => exact ⟨0, Nat.zero_le _, rfl, hJ0, Hgg.out, Hhh.out⟩
    case round =>
      obtain ⟨j, hj, rfl, hJs, hgr, hhr⟩ := hrel
      have Hgr : Hid (wr.heap[g]? = some (.cells curk 9 (0, 0))) := hgr
      have Hhr : Hid (wr.heap[h]? = some (.cells curv 3 (0, 0))) := hhr
      by_cases hlt : j < ks.length
      · obtain ⟨x, hx⟩ : ∃ x, ks[j]? = some x := ⟨_, List.getElem?_eq_getElem hlt⟩
        obtain ⟨v, hv⟩ : ∃ v, vs[j]? = some v := ⟨_, List.getElem?_eq_getElem (by omega)⟩
        have hcx : wr.cell? ⟨g, j, none⟩ = some (.string x) := (heap_cell hgr j).trans (Hk.out j x hx)
        have hcv : wr.cell? ⟨h, j, none⟩ = some (.int .i64 v) := (heap_cell hhr j).trans (Hv.out j v hv)
        have hcal := Hcb.out g h j x v wr hJs hx hv
        clear hx hv hgr hhr
        have hji : (j : Int) < ks.length := by omega
        go_wp2_with fail
        refine hcal.mono ?_
        rintro e W3 ⟨hg3, hh3, ⟨rfl, hJ3⟩ | ⟨rfl, hJx3⟩⟩
        · have Hg3 : Hid (W3.heap[g]? = some (.cells curk 9 (0, 0))) := hg3.trans Hgr.out
          have Hh3 : Hid (W3.heap[h]? = some (.cells curv 3 (0, 0))) := hh3.trans Hhr.out
          clear hg3 hh3 hcal
          go_wp2
          go_roundw
          case rel => exact ⟨j + 1, hlt, by go_num, hJ3, Hg3.out, Hh3.out⟩
          case measure => simp [intOf]; omega
        · clear hg3 hh3 hcal
          go_wp2
          refine bodyPost_ret (results_none rfl _ _ _) rfl ?_
          exact ⟨⟨_, rfl⟩, g, h, .inr ⟨j + 1, hlt, hJx3⟩⟩
      · obtain rfl : j = ks.length := by omega
        clear hgr hhr
        go_wp2
        go_end0
        exact ⟨⟨_, rfl⟩, g, h, .inl hJs⟩

theorem tab_walked {W : World} {base b Bl : Nat} {ks : List ByteArray} {vs : List Int} {F : List Nat} (h : TTab W base b ks vs F) (hbl : W.cell? ⟨Bl, 0, none⟩ = some (.pointer (some ⟨b, 0, none⟩))) (hlen : ks.length < 1000000) : WalkedP Tryz.prog 122 Bl ks vs W := by
  obtain ⟨vk, vv, hh, hb, hk, hv, hl, hs, rfl⟩ := h
  have h0 := heap_cell hh 0
  have h1 := heap_cell hh 1
  simp only [List.getElem?_toArray, List.getElem?_cons_zero, List.getElem?_cons_succ] at h0 h1
  have s0 := Tx.slice_of_row hk rfl (Nat.le_refl _)
  have s1 := slice_of_row hv rfl (Nat.le_refl _)
  obtain ⟨a, n, c, rfl⟩ : ∃ a n c, vk = .slice a n c := by rcases s0 with ⟨rfl, _⟩ | ⟨_, _, _, rfl, _⟩ <;> exact ⟨_, _, _, rfl⟩
  obtain ⟨a', n', c', rfl⟩ : ∃ a n c, vv = .slice a n c := by rcases s1 with ⟨rfl, _⟩ | ⟨_, _, _, rfl, _⟩ <;> exact ⟨_, _, _, rfl⟩
  exact allS_any Bl b _ _ _ _ _ _ ks vs W hbl h0 h1 s0 s1 hl hlen

theorem tall_any (bt : Nat) (w : World) :
    Calls Tryz.prog 100 #[.pointer (some ⟨bt, 0, none⟩)] w fun e w' => e = .returned (.func (.func 122) #[] #[.pointer (some ⟨w.heap.size, 0, none⟩)]) ∧ w' = w.alloc (.cells #[.pointer (some ⟨bt, 0, none⟩)] 41) := by
  go_enter Tryz.func100, Tryz.ntmps100
  go_wp2
  go_ret
  exact ⟨rfl, rfl⟩

theorem seq_not_nil (Bl : Nat) (W : World) : (binOp BinOp.eql 147 (.func (.func 122) #[] #[.pointer (some ⟨Bl, 0, none⟩)]) .nilFunc).run Tryz.prog W = .ok (.bool false) W := by
  kernel_rfl

end Go.Proofs.YtcjblafohfiiaabGreat.Nd
