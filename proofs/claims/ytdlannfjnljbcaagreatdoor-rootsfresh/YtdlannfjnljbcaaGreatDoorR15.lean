/-
  A visit of roots: what it is, root, Map.
-/
import Derived.Test.YtdlannfjnljbcaaGreatDoorR14
set_option linter.unusedVariables false
namespace Go.Proofs.YtdlannfjnljbcaaGreatDoor
open Go.RowKit

/-- Those that aren't null. -/
def nz (l : List Int) : List Int := l.filter (fun x => decide (x ≠ 0))

theorem nz_append (a b : List Int) : nz (a ++ b) = nz a ++ nz b := by simp [nz]
theorem nz_nil : nz [] = [] := rfl
theorem nz_zero : nz [0] = [] := by simp [nz]
theorem nz_one {x : Int} (h : x ≠ 0) : nz [x] = [x] := by simp [nz, h]
theorem nz_len (l : List Int) : (nz l).length ≤ l.length := List.length_filter_le _ _

/-- What a visit makes of a list, pre having been met ahead. -/
def newl (ans : List Int → Int → Int) : List Int → List Int → List Int
  | _, [] => []
  | pre, x :: l => (if x = 0 then 0 else ans pre x) :: newl ans (pre ++ nz [x]) l

theorem newl_length (ans : List Int → Int → Int) : ∀ (l pre : List Int), (newl ans pre l).length = l.length
  | [], _ => rfl
  | x :: l, pre => by simp [newl, newl_length ans l]

theorem newl_snoc (ans : List Int → Int → Int) : ∀ (l pre : List Int) (x : Int), newl ans pre (l ++ [x]) = newl ans pre l ++ [if x = 0 then 0 else ans (pre ++ nz l) x]
  | [], pre, x => by simp [newl, nz]
  | y :: l, pre, x => by
    simp only [List.cons_append, newl, newl_snoc ans l, List.append_assoc]
    rw [show y :: l = [y] ++ l from rfl, nz_append]

/-- The list behind k steps. -/
def midl (ans : List Int → Int → Int) (pre l : List Int) (k : Nat) : List Int := newl ans pre (l.take k) ++ l.drop k

theorem midl_zero (ans : List Int → Int → Int) (pre l : List Int) : midl ans pre l 0 = l := by simp [midl, newl]

theorem midl_all (ans : List Int → Int → Int) (pre l : List Int) : midl ans pre l l.length = newl ans pre l := by simp [midl]

theorem midl_length (ans : List Int → Int → Int) (pre l : List Int) (k : Nat) (hk : k ≤ l.length) : (midl ans pre l k).length = l.length := by
  simp [midl, newl_length]; omega

theorem midl_get (ans : List Int → Int → Int) (pre l : List Int) (k : Nat) : (midl ans pre l k)[k]? = l[k]? := by
  unfold midl
  by_cases h : k < l.length
  · rw [List.getElem?_append_right (by rw [newl_length, List.length_take]; omega), newl_length, List.length_take, List.getElem?_drop, Nat.min_eq_left (by omega), Nat.sub_self, Nat.add_zero]
  · rw [List.getElem?_eq_none (by simp [newl_length]; omega), List.getElem?_eq_none (by omega)]

theorem midl_succ (ans : List Int → Int → Int) (pre l : List Int) (k : Nat) (x : Int) (hx : l[k]? = some x) : (midl ans pre l k).set k (if x = 0 then 0 else ans (pre ++ nz (l.take k)) x) = midl ans pre l (k + 1) := by
  have hk := (List.getElem?_eq_some_iff.1 hx).1
  unfold midl
  rw [← take_snoc' hx, newl_snoc, List.set_append_right _ _ (by rw [newl_length, List.length_take]; omega), newl_length, List.length_take, Nat.min_eq_left (by omega), Nat.sub_self, List.append_assoc]
  congr 1
  have : l.drop k = x :: l.drop (k + 1) := by
    rw [List.drop_eq_getElem_cons hk]
    congr 1
    exact (List.getElem?_eq_some_iff.1 hx).2
  rw [this]
  rfl

/-- A visit: dk with the receiver r; ans: what it answers; J: what it knows, beside the blocks X that are not its own. -/
structure Vis (dk : Nat) (r : Value) (ans : List Int → Int → Int) (J : List Nat → List Int → World → Prop) (M : Nat) : Prop where
  ek : ∀ args w, (callFunc dk args).run Tryz.prog w = .ok (.enter dk args) w
  keep : ∀ X pre W W', J X pre W → Touch X W W' → J X pre W'
  more : ∀ X pre W o, J X pre W → J (W.heap.size :: X) pre (W.alloc o)
  run : ∀ X pre x W, J X pre W → 0 < x → pre.length < M → Calls Tryz.prog dk #[r, .int .i64 x] W fun e W' => e = .returned (.int .i64 (ans pre x)) ∧ J X (pre ++ [x]) W' ∧ (∀ k, k ∈ X → W'.heap[k]? = W.heap[k]?) ∧ W.heap.size ≤ W'.heap.size

theorem root_walk (dk : Nat) (r : Value) (x y : Int) (W : World) (R : World → Prop) (ek : ∀ args w, (callFunc dk args).run Tryz.prog w = .ok (.enter dk args) w) (hx : x ≠ 0)
    (hd : Calls Tryz.prog dk #[r, .int .i64 x] W fun e W' => e = .returned (.int .i64 y) ∧ R W') :
    Calls Tryz.prog 57 #[.func (.func dk) #[r] #[], .int .i64 x] W fun e W' => e = .returned (.int .i64 y) ∧ R W' := by
  have hz : (x == 0) = false := by simpa using hx
  go_enter Tryz.func57, Tryz.ntmps57
  go_wp2_with fail
  refine hd.mono ?_
  rintro e w' ⟨rfl, hR⟩
  clear hd
  go_wp2
  go_ret
  exact ⟨rfl, hR⟩

theorem root_zero (d : Value) (W : World) :
    Calls Tryz.prog 57 #[d, .int .i64 0] W fun e W' => e = .returned (.int .i64 0) ∧ W' = W := by
  go_enter Tryz.func57, Tryz.ntmps57
  go_wp2
  go_ret
  exact ⟨rfl, rfl⟩

theorem root_vis {dk : Nat} {r : Value} {ans : List Int → Int → Int} {J : List Nat → List Int → World → Prop} {M : Nat} (V : Vis dk r ans J M) (X : List Nat) (pre : List Int) (x : Int) (W : World) (h : J X pre W) (hx : 0 ≤ x) (hm : pre.length < M) :
    Calls Tryz.prog 57 #[.func (.func dk) #[r] #[], .int .i64 x] W fun e W' => e = .returned (.int .i64 (if x = 0 then 0 else ans pre x)) ∧ J X (pre ++ nz [x]) W' ∧ (∀ k, k ∈ X → W'.heap[k]? = W.heap[k]?) ∧ W.heap.size ≤ W'.heap.size := by
  by_cases e : x = 0
  · subst e
    refine (root_zero _ W).mono ?_
    rintro e W' ⟨rfl, rfl⟩
    exact ⟨rfl, by rw [nz_zero, List.append_nil]; exact h, fun _ _ => rfl, Nat.le_refl _⟩
  · rw [if_neg e, nz_one e]
    exact root_walk dk r x _ W _ V.ek e (V.run X pre x W h (by omega) hm)

/-- Map, of what lies there behind k steps. -/
structure Mq (W : World) (base q g cap f : Nat) (ts : List Int) (ans : List Int → Int → Int) (pre : List Int) (k : Nat) : Prop where
  que : W.heap[q]? = some (.cells #[.slice (some ⟨g, 0, none⟩) ts.length cap, .int .i64 f, .int .i64 0] 94 (0, 0))
  row : W.ownsRow base 3 1 (.slice (some ⟨g, 0, none⟩) ts.length cap) ts.length (ints (ts.take f ++ midl ans pre (ts.drop f) k))

set_option maxRecDepth 20000 in
set_option maxHeartbeats 2000000 in
theorem map_vis {dk : Nat} {r : Value} {ans : List Int → Int → Int} {J : List Nat → List Int → World → Prop} {M : Nat} (V : Vis dk r ans J M) (base q g cap f : Nat) (ts : List Int) (X : List Nat) (pre : List Int) (W : World)
    (hq : Mq W base q g cap f ts ans pre 0) (hj : J X pre W) (hqX : q ∈ X) (hgX : g ∈ X) (hf : f ≤ ts.length) (hlen : ts.length < 8796093022208) (h0 : ∀ x ∈ ts.drop f, 0 ≤ x) (hM : pre.length + ts.length < M) :
    Calls Tryz.prog 58 #[.pointer (some ⟨q, 0, none⟩), .func (.func 57) #[.func (.func dk) #[r] #[]] #[]] W fun e W' => e = .returned (.tuple #[]) ∧ Mq W' base q g cap f ts ans pre (ts.length - f) ∧ J X (pre ++ nz (ts.drop f)) W' ∧ (∀ k, k ∈ X → k ≠ g → W'.heap[k]? = W.heap[k]?) ∧ W.heap.size ≤ W'.heap.size := by
  have c0 := heap_cell hq.que 0
  have c1 := heap_cell hq.que 1
  simp only [List.getElem?_toArray, List.getElem?_cons_zero, List.getElem?_cons_succ] at c0 c1
  have hqg : q ≠ g := fun e => absurd (by simp [Value.ownBlock, e]) (row_ne hq.que hq.row)
  obtain ⟨hc1, hc2⟩ : ts.length ≤ cap ∧ cap ≤ maxLen := by
    rcases hq.row.2 with ⟨e, _⟩ | ⟨g', cap', cur, e, _, hg, hn, hm, _⟩
    · cases e
    · simp only [Value.slice.injEq, Option.some.injEq, Addr.mk.injEq, and_true] at e
      obtain ⟨rfl, -, rfl⟩ := e
      exact ⟨hn, hm⟩
  have hhe := held_some q g cap ts.length f W c0 c1 hf hc1 hc2
  by_cases hfl : f < ts.length
  · rw [if_neg (by omega)] at hhe
    obtain ⟨L, hL⟩ : ∃ L, L = ts.length - f := ⟨_, rfl⟩
    rw [← hL] at hhe ⊢
    have HL : Hid (L = ts.length - f) := hL
    have hL1 : L < 8796093022208 := by omega
    have hcf : L ≤ cap - f := by omega
    have HV : Hid (Vis dk r ans J M) := V
    have HM : Hid (pre.length + ts.length < M) := hM
    have Hh0 : Hid (∀ x ∈ ts.drop f, 0 ≤ x) := h0
    have HQ : Hid (Mq W base q g cap f ts ans pre 0) := hq
    have HJ : Hid (J X pre W) := hj
    have ek := fun args w => (enters_of Tryz.func57 (by kernel_rfl) rfl : ∀ args w, (callFunc 57 args).run Tryz.prog w = .ok (.enter 57 args) w) args w
    clear hL c0 c1 V hM h0 hq hj hfl
    go_enter Tryz.func58, Tryz.ntmps58
    go_wp2_with fail
    refine hhe.mono ?_
    rintro e w' ⟨rfl, nq, rfl⟩
    clear hhe
    go_wp2
    go_loopw [11] (fun i wr => ∃ (k : Nat), k ≤ L ∧ i = .int .i64 k ∧ Hid (Mq wr base q g cap f ts ans pre k) ∧ Hid (J X (pre ++ nz ((ts.drop f).take k)) wr) ∧ Hid ((∀ k, k ∈ X → k ≠ g → wr.heap[k]? = W.heap[k]?) ∧ W.heap.size ≤ wr.heap.size)) (fun i _ => L - (intOf i).toNat)
    case atStart => exact ⟨0, Nat.zero_le _, rfl, ⟨HQ.out.que, HQ.out.row⟩, (show J X (pre ++ nz ((ts.drop f).take 0)) _ from by simpa [nz] using HV.out.keep X pre W _ HJ.out (Touch.drewN _ _ _)), ⟨fun _ _ _ => rfl, Nat.le_refl _⟩⟩
    case round =>
      obtain ⟨k, hk, rfl, hm, hJ, hX⟩ := hrel
      by_cases hlt : k < L
      · have hki : (k : Int) < (L : Int) := by omega
        have hkl : f + k < ts.length := by have := HL.out; omega
        obtain ⟨x, hx⟩ : ∃ x, (ts.drop f)[k]? = some x := ⟨(ts.drop f)[k]'(by simp; omega), List.getElem?_eq_getElem _⟩
        have e0 : (ts.take f ++ midl ans pre (ts.drop f) k)[f + k]? = some x := by
          rw [List.getElem?_append_right (by rw [List.length_take]; omega), List.length_take, Nat.min_eq_left hf, show f + k - f = k by omega, midl_get, hx]
        have hcx : wr.cell? ⟨g, f + k, none⟩ = some (.int .i64 x) := by
          rw [hm.out.row.cellAt _ (by omega)]; simp only [ints, List.getElem?_map, e0, Option.map_some]
        have hpre : (pre ++ nz ((ts.drop f).take k)).length < M := by
          have h1 := nz_len ((ts.drop f).take k)
          have h2 := HM.out
          simp at h1 ⊢
          omega
        have hro := root_vis HV.out X (pre ++ nz ((ts.drop f).take k)) x wr hJ.out (Hh0.out x (List.mem_of_getElem? hx)) hpre
        have Hx : Hid ((ts.drop f)[k]? = some x) := hx
        clear hx e0 hpre
        go_wp2_with fail
        refine hro.mono ?_
        rintro e w2 ⟨rfl, hJ2, hX2, hs2⟩
        clear hro
        have hm2 : Hid (Mq w2 base q g cap f ts ans pre k) := ⟨(hX2 q hqX).trans hm.out.que, own_keep (k := 0) hm.out.row (fun j e => by simp [Value.ownBlock] at e; subst e; exact hX2 _ hgX)⟩
        have hcx2 : w2.cell? ⟨g, f + k, none⟩ = some (.int .i64 x) := (World.cell?_of_block (w := wr) (hX2 g hgX)).trans hcx
        have hfx2 := hm2.out.row.frozenAt (f + k)
        have hJ3 : Hid (J X (pre ++ nz ((ts.drop f).take k) ++ nz [x]) w2) := hJ2
        have hX3 : Hid ((∀ k, k ∈ X → k ≠ g → w2.heap[k]? = W.heap[k]?) ∧ W.heap.size ≤ w2.heap.size) := ⟨fun j hj hn => (hX2 j hj).trans (hX.out.1 j hj hn), Nat.le_trans hX.out.2 hs2⟩
        clear hJ2 hX2 hs2 hcx hm hJ hX
        have hex : ∃ y, (if x = 0 then 0 else ans (pre ++ nz ((ts.drop f).take k)) x) = y := ⟨_, rfl⟩
        obtain ⟨y, hy⟩ := hex
        rw [hy]
        have Hy : Hid ((if x = 0 then 0 else ans (pre ++ nz ((ts.drop f).take k)) x) = y) := hy
        clear hy
        have hm4 : Hid (Mq (w2.setCell ⟨g, f + k, none⟩ (.int .i64 y)) base q g cap f ts ans pre (k + 1)) := by
          refine ⟨?_, ?_⟩
          · rw [Below.heap_setCell _ _ _ _ (Ne.symm (Ne.symm hqg))]; exact hm2.out.que
          · have h1 := (hm2.out.row.stored (f + k) (.int .i64 y)).1
            have e1 : (ints (ts.take f ++ midl ans pre (ts.drop f) k)).set (f + k) (.int .i64 y) = ints (ts.take f ++ midl ans pre (ts.drop f) (k + 1)) := by
              rw [← midl_succ ans pre (ts.drop f) k x Hx.out, Hy.out]
              simp only [ints]
              rw [← List.map_set]
              congr 1
              rw [List.set_append_right _ _ (by rw [List.length_take]; omega), List.length_take, Nat.min_eq_left hf, show f + k - f = k by omega]
            rw [e1] at h1
            exact h1
        have hJ4 : Hid (J X (pre ++ nz ((ts.drop f).take (k + 1))) (w2.setCell ⟨g, f + k, none⟩ (.int .i64 y))) := by
          have := HV.out.keep X _ _ _ hJ3.out (Touch.setCell w2 ⟨g, f + k, none⟩ (.int .i64 y) hgX)
          rw [List.append_assoc, ← nz_append, take_snoc' Hx.out] at this
          exact this
        have hX4 : Hid ((∀ i, i ∈ X → i ≠ g → (w2.setCell ⟨g, f + k, none⟩ (.int .i64 y)).heap[i]? = W.heap[i]?) ∧ W.heap.size ≤ (w2.setCell ⟨g, f + k, none⟩ (.int .i64 y)).heap.size) := by
          refine ⟨fun j hj hn => ?_, by simpa [World.setCell] using hX3.out.2⟩
          rw [Below.heap_setCell _ _ _ _ (by simpa using hn)]
          exact hX3.out.1 j hj hn
        clear hm2 hJ3 hX3
        go_wp2
        exact ⟨⟨k + 1, hlt, by go_num, hm4, hJ4, hX4⟩, by simp [intOf]; omega⟩
      · obtain rfl : k = L := by omega
        have e : (ts.drop f).take k = ts.drop f := by rw [List.take_of_length_le]; simp; have := HL.out; omega
        have hJ' := hJ.out
        rw [e] at hJ'
        go_wp2
        go_returns
        exact ⟨rfl, hm.out, hJ', hX.out.1, hX.out.2⟩
  · have hz : ts.length - f = 0 := by omega
    have ed : ts.drop f = [] := by rw [List.drop_eq_nil_iff]; omega
    have HQ : Hid (Mq W base q g cap f ts ans pre 0) := hq
    have hJ' : J X (pre ++ nz (ts.drop f)) W := by rw [ed]; simpa [nz] using hj
    have HJ : Hid (∀ nq, J X (pre ++ nz (ts.drop f)) (W.drewN nq)) := fun nq => V.keep X _ W _ hJ' (Touch.drewN _ _ _)
    rw [hz] at hhe ⊢
    generalize (if cap = f then (⟨g, 0, none⟩ : Addr) else ⟨g, f, none⟩) = a at hhe
    clear hj hq hJ' V c0 c1 h0 hM
    go_enter Tryz.func58, Tryz.ntmps58
    go_wp2_with fail
    refine hhe.mono ?_
    rintro e w' ⟨rfl, nq, rfl⟩
    go_wp2
    go_rounds 1
    go_returns
    exact ⟨rfl, ⟨HQ.out.que, HQ.out.row⟩, HJ.out nq, fun _ _ _ => rfl, Nat.le_refl _⟩

end Go.Proofs.YtdlannfjnljbcaaGreatDoor
