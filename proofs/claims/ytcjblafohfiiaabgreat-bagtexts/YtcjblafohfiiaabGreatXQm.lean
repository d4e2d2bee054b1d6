/-
  Map, over the turner: texts.
-/
import Derived.Test.YtcjblafohfiiaabGreatXQt
import Derived.Handy
set_option linter.unusedVariables false
namespace Go.Proofs.YtcjblafohfiiaabGreat.Tx
open Go.RowKit Go.Shelf

/-- The array behind k steps. -/
def mpd (n : Int) (ts : List ByteArray) (f k : Nat) : List ByteArray := ts.mapIdx fun i x => if f ≤ i ∧ i < f + k then trd n x else x

theorem mpd_length (n : Int) (ts : List ByteArray) (f k : Nat) : (mpd n ts f k).length = ts.length := by simp [mpd]

theorem mpd_get (n : Int) (ts : List ByteArray) (f k i : Nat) : (mpd n ts f k)[i]? = (ts[i]?).map fun x => if f ≤ i ∧ i < f + k then trd n x else x := by
  simp [mpd, List.getElem?_mapIdx]

theorem mpd_zero (n : Int) (ts : List ByteArray) (f : Nat) : mpd n ts f 0 = ts := by
  apply List.ext_getElem?
  intro i
  rw [mpd_get]
  have : ¬ (f ≤ i ∧ i < f + 0) := by omega
  simp only [this, if_false]
  cases ts[i]? <;> rfl

theorem mpd_succ {n : Int} {x : ByteArray} {ts : List ByteArray} {f k : Nat} (hx : ts[f + k]? = some x) : (mpd n ts f k).set (f + k) (trd n x) = mpd n ts f (k + 1) := by
  have hl := (List.getElem?_eq_some_iff.1 hx).1
  apply List.ext_getElem?
  intro i
  rw [List.getElem?_set, mpd_get, mpd_get, mpd_length]
  by_cases h : f + k = i
  · subst h
    rw [if_pos rfl, if_pos hl, hx]
    have : f ≤ f + k ∧ f + k < f + (k + 1) := by omega
    simp [this]
  · rw [if_neg h]
    congr 1
    funext y
    by_cases h1 : f ≤ i ∧ i < f + k
    · rw [if_pos h1, if_pos (by omega)]
    · rw [if_neg h1, if_neg (by omega)]

theorem mpd_end (n : Int) (ts : List ByteArray) (f : Nat) : (mpd n ts f (ts.length - f)).drop f = (ts.drop f).map (trd n) := by
  apply List.ext_getElem?
  intro i
  rw [List.getElem?_drop, mpd_get, List.getElem?_map, List.getElem?_drop]
  by_cases h : f + i < ts.length
  · have : f ≤ f + i ∧ f + i < f + (ts.length - f) := by omega
    simp [this]
  · rw [List.getElem?_eq_none (by omega)]; rfl

/-- What is there behind k steps: the holder's cells C, the array, the turner, what it noted (P ahead of these steps). -/
structure Mst (w W : World) (G : List Nat) (bq : Nat) (C : Array Value) (ty g cap f : Nat) (n : Int) (told : Value) (P ts : List ByteArray) (tb base k : Nat) (sv : Value) : Prop where
  q : W.heap[bq]? = some (.cells C ty (0, 0))
  r : W.ownsRow base 9 1 (.slice (some ⟨g, 0, none⟩) ts.length cap) ts.length (strs (mpd n ts f k))
  t : W.heap[tb]? = some (.cells #[.int .i64 n, told, sv] 94 (0, 0))
  s : W.ownsRow base 9 1 sv (P.length + k) (strs (P ++ (ts.drop f).take k))
  new : ∀ b, sv.ownBlock = some b → b ∈ G ∨ w.heap.size ≤ b
  ng : some g ≠ sv.ownBlock
  nb : some bq ≠ sv.ownBlock
  ht : Touch G w W

theorem Mst.step {w W w1 : World} {G : List Nat} {bq : Nat} {C : Array Value} {ty g cap f tb base k : Nat} {n : Int} {x : ByteArray} {told sv v' : Value} {P ts : List ByteArray} (h : Mst w W G bq C ty g cap f n told P ts tb base k sv) (hg : g < w.heap.size) (hbq : bq < w.heap.size) (hgt : g ≠ tb) (hbt : bq ≠ tb) (hbg : bq ≠ g) (hG : g ∈ G ∧ tb ∈ G) (hx : ts[f + k]? = some x) (hk : k < ts.length - f)
    (hown : w1.ownsRow base 9 1 v' (P.length + k + 1) (strs (P ++ (ts.drop f).take k) ++ [.string x])) (hgrow : (W.alloc (.cells #[.string x] 9)).grownBy w1 sv.ownBlock) (hat : v'.ownBlock = sv.ownBlock ∨ v'.ownBlock = some (W.heap.size + 1)) :
    (w1.setCell ⟨tb, 2, none⟩ v').heap[bq]? = some (.cells C ty (0, 0)) ∧ (w1.setCell ⟨tb, 2, none⟩ v').cell? ⟨g, f + k, none⟩ = some (.string x) ∧ (w1.setCell ⟨tb, 2, none⟩ v').frozen? ⟨g, f + k, none⟩ = false ∧
      Mst w ((w1.setCell ⟨tb, 2, none⟩ v').setCell ⟨g, f + k, none⟩ (.string (trd n x))) G bq C ty g cap f n told P ts tb base (k + 1) v' := by
  have hsg := h.ng
  have hsb := h.nb
  have htl := heap_lt h.t
  have hst : some tb ≠ sv.ownBlock := row_ne h.t h.s
  have hz := h.ht.size
  have b1 : ∀ c o, W.heap[c]? = some o → some c ≠ sv.ownBlock → w1.heap[c]? = some o := fun c o hc hn => by
    rw [hgrow.block c (by have := heap_lt hc; simp; omega) hn]; exact (Below.heap_alloc W _ c (heap_lt hc)).trans hc
  have hq1 := b1 bq _ h.q hsb
  have ht1 := b1 tb _ h.t hst
  have ta : Touch (sv.ownBlock.toList) W w1 := (Touch.alloc _ _ _).trans (Touch.grown hgrow (fun k hk => by simp [hk]))
  have hr1 : w1.ownsRow base 9 1 (.slice (some ⟨g, 0, none⟩) ts.length cap) ts.length (strs (mpd n ts f k)) := row_keep2 h.r ta (fun k hk hm => by
    simp [Value.ownBlock] at hk hm
    subst hk
    exact hsg hm.symm)
  have hr2 := ownsRow_setOther hr1 (a := ⟨tb, 2, none⟩) (by simpa [Value.ownBlock] using (Ne.symm hgt)) v'
  have hfl : f + k < ts.length := by omega
  have hcx : (w1.setCell ⟨tb, 2, none⟩ v').cell? ⟨g, f + k, none⟩ = some (.string x) := by
    rw [hr2.cellAt _ (by omega)]
    have e : (mpd n ts f k)[f + k]? = some x := by
      rw [mpd_get, hx]
      have : ¬ (f ≤ f + k ∧ f + k < f + k) := by omega
      simp
    simp [strs, e]
  have hr3 := (hr2.stored (f + k) (.string (trd n x))).1
  have e3 : (strs (mpd n ts f k)).set (f + k) (.string (trd n x)) = strs (mpd n ts f (k + 1)) := by rw [← mpd_succ hx]; simp [strs, List.map_set]
  rw [e3] at hr3
  have hv' : ∀ b, v'.ownBlock = some b → b ∈ G ∨ w.heap.size ≤ b := fun b hb => by
    rcases hat with e | e
    · rw [e] at hb; exact h.new b hb
    · rw [e] at hb; simp only [Option.some.injEq] at hb; exact .inr (by omega)
  have hv'g : some g ≠ v'.ownBlock := fun e => by
    rcases hat with e' | e'
    · rw [e'] at e; exact hsg e
    · rw [e'] at e; simp only [Option.some.injEq] at e; omega
  have hv'b : some bq ≠ v'.ownBlock := fun e => by
    rcases hat with e' | e'
    · rw [e'] at e; exact hsb e
    · rw [e'] at e; simp only [Option.some.injEq] at e; omega
  have hv't : some tb ≠ v'.ownBlock := row_ne ht1 hown
  have hq2 : (w1.setCell ⟨tb, 2, none⟩ v').heap[bq]? = some (.cells C ty (0, 0)) := by rw [Below.heap_setCell _ _ _ _ hbt]; exact hq1
  refine ⟨hq2, hcx, hr2.frozenAt _, ?_, hr3, ?_, ?_, hv', hv'g, hv'b, ?_⟩
  · rw [Below.heap_setCell _ _ _ _ hbg]; exact hq2
  · rw [Below.heap_setCell _ _ _ _ (Ne.symm hgt), heap_set ht1]; rfl
  · have e : strs (P ++ (ts.drop f).take k) ++ [.string x] = strs (P ++ (ts.drop f).take (k + 1)) := by
      rw [List.take_add_one, List.getElem?_drop, hx]; simp [strs]
    rw [e] at hown
    exact ownsRow_setOther (ownsRow_setOther hown (a := ⟨tb, 2, none⟩) hv't v') (a := ⟨g, f + k, none⟩) hv'g _
  · have t1 : Touch (tb :: g :: sv.ownBlock.toList) W ((w1.setCell ⟨tb, 2, none⟩ v').setCell ⟨g, f + k, none⟩ (.string (trd n x))) := ((ta.mono (fun k hk => .inl (by simp [hk]))).trans (Touch.setCell _ _ _ (by simp))).trans (Touch.setCell _ _ _ (by simp))
    refine h.ht.then t1 (fun y hy => ?_)
    simp only [List.mem_cons] at hy
    rcases hy with rfl | rfl | hy
    · exact .inl hG.2
    · exact .inl hG.1
    · exact h.new y (by simpa using hy)

set_option maxHeartbeats 2000000 in
theorem map_core (bq g cap f tb base : Nat) (m n : Int) (told : Value) (ts : List ByteArray) (w : World) (h0 : Mst w w [g, tb] bq #[.slice (some ⟨g, 0, none⟩) ts.length cap, .int .i64 f, .int .i64 m] 125 g cap f n told [] ts tb base 0 (.slice none 0 0)) (hbase : base ≤ w.heap.size) (hf : f ≤ ts.length) (hlen : ts.length < 1000000) (hgt : g ≠ tb) (hbt : bq ≠ tb) (hbg : bq ≠ g) :
    Calls Tryz.prog 48 #[.pointer (some ⟨bq, 0, none⟩), .func (.func 49) #[.pointer (some ⟨tb, 0, none⟩)] #[]] w fun e w' => e = .returned (.tuple #[]) ∧ ∃ sv, Mst w w' [g, tb] bq #[.slice (some ⟨g, 0, none⟩) ts.length cap, .int .i64 f, .int .i64 m] 125 g cap f n told [] ts tb base (ts.length - f) sv := by
  have c0 := heap_cell h0.q 0
  have c1 := heap_cell h0.q 1
  simp only [List.getElem?_toArray, List.getElem?_cons_zero, List.getElem?_cons_succ] at c0 c1
  have hbq := heap_lt h0.q
  have hcm : ts.length ≤ cap ∧ cap ≤ maxLen ∧ g < w.heap.size := by
    rcases h0.r.2 with ⟨e, _⟩ | ⟨g', cap', cur, e, _, hg, hn, hm, _⟩
    · cases e
    · simp only [Value.slice.injEq, Option.some.injEq, Addr.mk.injEq, and_true] at e
      obtain ⟨rfl, -, rfl⟩ := e
      exact ⟨hn, hm, heap_lt hg⟩
  obtain ⟨hc1, hc2, hg⟩ := hcm
  have hhe := held_some bq g cap ts.length f w c0 c1 hf hc1 hc2
  have Hst : Hid (∀ {W w1 : World} {k : Nat} {x : ByteArray} {sv v' : Value}, Mst w W [g, tb] bq #[.slice (some ⟨g, 0, none⟩) ts.length cap, .int .i64 f, .int .i64 m] 125 g cap f n told [] ts tb base k sv → ts[f + k]? = some x → k < ts.length - f → w1.ownsRow base 9 1 v' (k + 1) (strs ((ts.drop f).take k) ++ [.string x]) → (W.alloc (.cells #[.string x] 9)).grownBy w1 sv.ownBlock → (v'.ownBlock = sv.ownBlock ∨ v'.ownBlock = some (W.heap.size + 1)) →
      (w1.setCell ⟨tb, 2, none⟩ v').cell? ⟨g, f + k, none⟩ = some (.string x) ∧ (w1.setCell ⟨tb, 2, none⟩ v').frozen? ⟨g, f + k, none⟩ = false ∧
      Mst w ((w1.setCell ⟨tb, 2, none⟩ v').setCell ⟨g, f + k, none⟩ (.string (trd n x))) [g, tb] bq #[.slice (some ⟨g, 0, none⟩) ts.length cap, .int .i64 f, .int .i64 m] 125 g cap f n told [] ts tb base (k + 1) v') := fun hm hx hk hown hgrow hat =>
    (hm.step hg hbq hgt hbt hbg ⟨by simp, by simp⟩ hx hk (by simpa using hown) hgrow hat).2
  by_cases hfl : f < ts.length
  · rw [if_neg (by omega)] at hhe
    obtain ⟨L, hL⟩ : ∃ L, L = ts.length - f := ⟨_, rfl⟩
    rw [← hL] at hhe ⊢
    have HL : Hid (L = ts.length - f) := hL
    have hL1 : L < 1000000 := by omega
    have hcf : L ≤ cap - f := by omega
    clear hL c0 c1
    go_enter Tryz.func48, Tryz.ntmps48
    go_wp2_with fail
    refine hhe.mono ?_
    rintro e w' ⟨rfl, nq, rfl⟩
    clear hhe
    go_wp2
    go_loopw [11] (fun i wr => ∃ (k : Nat) (sv : Value), k ≤ L ∧ i = .int .i64 k ∧ Mst w wr [g, tb] bq #[.slice (some ⟨g, 0, none⟩) ts.length cap, .int .i64 f, .int .i64 m] 125 g cap f n told [] ts tb base k sv) (fun i _ => L - (intOf i).toNat)
    case atStart => exact ⟨0, _, Nat.zero_le _, rfl, h0.q, h0.r, h0.t, h0.s, h0.new, h0.ng, h0.nb, h0.ht.trans (Touch.drewN _ _ _)⟩
    case round =>
      obtain ⟨k, sv, hk, rfl, hm⟩ := hrel
      have Hm : Hid (Mst w wr [g, tb] bq #[.slice (some ⟨g, 0, none⟩) ts.length cap, .int .i64 f, .int .i64 m] 125 g cap f n told [] ts tb base k sv) := hm
      by_cases hlt : k < L
      · have hki : (k : Int) < (L : Int) := by omega
        have hkl : f + k < ts.length := by have := HL.out; omega
        obtain ⟨x, hx⟩ : ∃ x, ts[f + k]? = some x := ⟨_, List.getElem?_eq_getElem hkl⟩
        have hcx : wr.cell? ⟨g, f + k, none⟩ = some (.string x) := by
          rw [hm.r.cellAt _ (by omega)]
          have e : (mpd n ts f k)[f + k]? = some x := by
            rw [mpd_get, hx]
            simp
          simp [strs, e]
        have hkd : k = ((ts.drop f).take k).length := by simp; omega
        have hof := of_core tb base n x sv told ((ts.drop f).take k) wr hm.t (by rw [← hkd]; simpa using hm.s) (by have := hm.ht.size; omega) (by rw [← hkd]; omega)
        rw [← hkd] at hof
        have Hx : Hid (ts[f + k]? = some x) := hx
        clear hm hx hkd
        go_wp2_with fail
        refine hof.mono ?_
        rintro e w2 ⟨rfl, v', w1, rfl, hown, hgrow, hat⟩
        obtain ⟨d1, d2, hm'⟩ := Hst.out Hm.out Hx.out (by have := HL.out; omega) hown hgrow hat
        clear hof hcx hown hgrow hat Hm
        go_wp2
        exact ⟨⟨k + 1, v', hlt, by go_num, hm'⟩, by simp [intOf]; omega⟩
      · obtain rfl : k = L := by omega
        go_wp2
        go_returns
        exact ⟨rfl, sv, Hm.out⟩
  · have hz : ts.length - f = 0 := by omega
    rw [hz] at hhe ⊢
    generalize (if cap = f then (⟨g, 0, none⟩ : Addr) else ⟨g, f, none⟩) = a at hhe
    go_enter Tryz.func48, Tryz.ntmps48
    go_wp2_with fail
    refine hhe.mono ?_
    rintro e w' ⟨rfl, nq, rfl⟩
    go_wp2
    go_rounds 1
    go_returns
    exact ⟨rfl, _, h0.q, h0.r, h0.t, h0.s, h0.new, h0.ng, h0.nb, h0.ht.trans (Touch.drewN _ _ _)⟩

end Go.Proofs.YtcjblafohfiiaabGreat.Tx
