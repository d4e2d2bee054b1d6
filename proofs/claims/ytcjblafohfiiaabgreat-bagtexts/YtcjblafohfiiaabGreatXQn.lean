/-
  One step of a queue of numbers: Map.
-/
import Derived.Test.YtcjblafohfiiaabGreatXQm
import Derived.Deep.CutRange
set_option linter.unusedVariables false
namespace Go.Proofs.YtcjblafohfiiaabGreat.Tx
open Go.RowKit Go.Shelf

set_option maxHeartbeats 1000000 in
theorem map_nil (bq : Nat) (fv : Value) (w : World) (h0 : w.cell? ⟨bq, 0, none⟩ = some (.slice none 0 0)) (h1 : w.cell? ⟨bq, 1, none⟩ = some (.int .i64 0)) :
    Calls Tryz.prog 48 #[.pointer (some ⟨bq, 0, none⟩), fv] w fun e w' => e = .returned (.tuple #[]) ∧ ∃ nq, w' = w.drewN nq := by
  go_enter Tryz.func48, Tryz.ntmps48
  go_wp2_with fail
  refine (held_nil bq w h0 h1).mono ?_
  rintro e w' ⟨rfl, nq, rfl⟩
  go_wp2
  go_rounds 1
  go_returns
  exact ⟨rfl, _, rfl⟩

theorem map_any (bq tb base N : Nat) (m n : Int) (told : Value) (xs : List ByteArray) (F : List Nat) (w : World) (hq : Que w base bq m N xs F) (ht : w.heap[tb]? = some (.cells #[.int .i64 n, told, .slice none 0 0] 94 (0, 0))) (htF : tb ∉ F) (hbase : base ≤ w.heap.size) (hN : N < 1000000) :
    Calls Tryz.prog 48 #[.pointer (some ⟨bq, 0, none⟩), .func (.func 49) #[.pointer (some ⟨tb, 0, none⟩)] #[]] w fun e w' => e = .returned (.tuple #[]) ∧ ∃ sv, Que w' base bq m N (xs.map (trd n)) F ∧
      w'.heap[tb]? = some (.cells #[.int .i64 n, told, sv] 94 (0, 0)) ∧ w'.ownsRow base 9 1 sv xs.length (strs xs) ∧ (∀ k, sv.ownBlock = some k → w.heap.size ≤ k) ∧ Touch (tb :: F) w w' := by
  obtain ⟨v, ts, f, hh, hb, hr, hf, hd, hn, rfl⟩ := hq
  rcases id hr.2 with ⟨rfl, hz⟩ | ⟨g, cap, cur, rfl, hbg, hg, hnc, hm, hcs, htk⟩
  · obtain rfl : ts = [] := List.eq_nil_of_length_eq_zero hz
    obtain rfl : f = 0 := by simpa using hf
    obtain rfl : xs = [] := by simpa using hd.symm
    have c0 := heap_cell hh 0
    have c1 := heap_cell hh 1
    simp only [List.getElem?_toArray, List.getElem?_cons_zero, List.getElem?_cons_succ] at c0 c1
    refine (map_nil bq _ w c0 c1).mono ?_
    rintro e w' ⟨rfl, nq, rfl⟩
    exact ⟨rfl, .slice none 0 0, ⟨_, [], 0, hh, hb, hr, Nat.le_refl _, rfl, hn, rfl⟩, ht, World.ownsRow_nil _ _ _ _, fun k h => by simp [Value.ownBlock] at h, Touch.drewN _ _ _⟩
  · have hbg' : bq ≠ g := fun e => absurd (by simp [Value.ownBlock, e]) (row_ne hh hr)
    have htq : tb ≠ bq := fun e => htF (by simp [e])
    have htg : tb ≠ g := fun e => htF (by simp [Value.ownBlock, e])
    have h0 : Mst w w [g, tb] bq #[.slice (some ⟨g, 0, none⟩) ts.length cap, .int .i64 f, .int .i64 m] 125 g cap f n told [] ts tb base 0 (.slice none 0 0) := ⟨hh, by rw [mpd_zero]; exact hr, ht, by simpa using World.ownsRow_nil w base 9 1, fun b hb => by simp [Value.ownBlock] at hb, by simp [Value.ownBlock], by simp [Value.ownBlock], Touch.refl _ _⟩
    refine (map_core bq g cap f tb base m n told ts w h0 hbase hf (by omega) htg.symm htq.symm hbg').mono ?_
    rintro e w' ⟨rfl, sv, hm'⟩
    have hxl : ts.length - f = xs.length := by rw [← hd]; simp
    have hs := hm'.s
    rw [List.take_of_length_le (by simp), hd, hxl] at hs
    have hst := row_ne hm'.t hm'.s
    refine ⟨rfl, sv, ⟨_, mpd n ts f (ts.length - f), f, hm'.q, hb, by rw [mpd_length]; exact hm'.r, by rw [mpd_length]; exact hf, by rw [mpd_end, hd], by rw [mpd_length]; exact hn, rfl⟩, hm'.t, by simpa using hs, fun k hk => ?_, hm'.ht.mono (fun k hk => .inl ?_)⟩
    · rcases hm'.new k hk with h | h
      · simp at h
        rcases h with rfl | rfl
        · exact absurd hk.symm hm'.ng
        · exact absurd hk.symm hst
      · exact h
    · simp [Value.ownBlock] at hk ⊢
      rcases hk with rfl | rfl
      · simp
      · simp

set_option maxRecDepth 20000 in
set_option maxHeartbeats 4000000 in
theorem qo_map (d i bs br base N : Nat) (m : Int) (xs : List ByteArray) (F : List Nat) (sec : Bool) (n wd : Int) (s : ByteArray) (stop : Int) (w : World) (hi : i < 2) (hp : PQ w base bs br N m xs F) (hbase : base ≤ w.heap.size) (hN : N < 1000000) (hlen : xs.length < 100000)
    (hc : w.cell? ⟨d, 4 + i, none⟩ = some (.pointer (some ⟨bs, 0, none⟩))) (hcr : w.cell? ⟨d, 14 + i, none⟩ = some (.pointer (some ⟨br, 0, none⟩))) :
    Calls Tryz.prog 20 #[.pointer (some ⟨d, 0, none⟩), .agg (opv 12 sec n wd s stop), .int .i64 i] w fun e w' => e = .returned (.bool true) ∧ ∃ F', PQ w' base bs br N m (xs.map (trd 0)) F' ∧ Touch F w w' ∧ Newer w.heap.size F F' := by
  obtain ⟨Fs, Fr, hs, hn, hap, rfl⟩ := hp
  have hi' : (i : Int) < 2 := by omega
  have hdl : d < w.heap.size := World.block_lt_of_cell? _ _ hc
  have ha : Touch [] w ((w.alloc (.cells (opv 12 sec n wd s stop) 31)).alloc (.cells #[.int .i64 0, .slice none 0 0, .slice none 0 0] 94)) := (Touch.alloc _ _ _).trans (Touch.alloc _ _ _)
  have hs0 := hs.keep ha (by intro k _ h; simp at h)
  have hn0 := hn.keep ha (by intro k _ h; simp at h)
  have bT := heap_alloc_new (w.alloc (.cells (opv 12 sec n wd s stop) 31)) (.cells #[.int .i64 0, .slice none 0 0, .slice none 0 0] 94 (0, 0))
  have hzz : (w.alloc (.cells (opv 12 sec n wd s stop) 31)).heap.size = w.heap.size + 1 := by simp
  rw [hzz] at bT
  have htF : w.heap.size + 1 ∉ Fs := fun h => by have := (hs.mem _ h).2; omega
  have hmp := map_any bs (w.heap.size + 1) base N m 0 (.slice none 0 0) xs Fs _ hs0 bT htF (by simp; omega) hN
  go_enter Tryz.func20, Tryz.ntmps20
  go_wp2_with fail
  refine hmp.mono ?_
  rintro e w2 ⟨rfl, sv, hq2, bT2, hsv, hnew, hT2⟩
  clear hmp
  have hn2 := hn0.keep hT2 (fun k hk hm => by
    rcases List.mem_cons.1 hm with h | h
    · have := (hn.mem _ hk).2; omega
    · exact hap k h hk)
  have hTT : Touch (Fs ++ Fr) w w2 := (ha.mono (by simp)).then hT2 (fun k hk => by
    rcases List.mem_cons.1 hk with h | h
    · exact .inr (by omega)
    · exact .inl (by simp [h]))
  have hnew2 : ∀ k, sv.ownBlock = some k → w.heap.size + 2 ≤ k := fun k hk => by have := hnew k hk; simp at this; omega
  obtain ⟨v2, hh2, hb2, hr2, hF2⟩ := hn2
  have cT := heap_cell bT2 2
  have c2 := heap_cell hh2 0
  simp only [List.getElem?_toArray, List.getElem?_cons_zero, List.getElem?_cons_succ] at cT c2
  have hv := slice_of_row hsv rfl (Nat.le_refl w2.heap.size)
  have hv2 := slice_of_row hr2 rfl (Nat.le_refl w2.heap.size)
  have hsame : ∀ q, Calls Tryz.prog 50 #[sv, v2] (w2.drewN q) fun e w' => e = .returned (.bool true) ∧ ∃ nq, w' = (w2.drewN q).drewN nq := fun q => sameInts_any sv v2 w2.heap.size w2.heap.size xs (w2.drewN q) (by omega) hv hv2
  clear hv hv2 ha hs0 hn0 bT hzz htF hnew
  go_wp2_with fail
  go_quiet ((go_at_call 50; exact Calls.quiet_of (hsame _)))
  go_upto_region 15 with fail
  clear hsame cT c2
  have hq3 := hq2.keep (Touch.drewN [] w2 nq) (by intro k _ h; simp at h)
  have hT3 : Touch (Fs ++ Fr) w (w2.drewN nq) := hTT.trans (Touch.drewN _ _ _)
  have hh3 : (w2.drewN nq).heap[br]? = some (.cells #[v2, .int .i64 m] 79 (0, 0)) := hh2
  have hr3 : (w2.drewN nq).ownsRow base 9 1 v2 xs.length (strs xs) := hr2
  have bT3 : (w2.drewN nq).heap[w.heap.size + 1]? = some (.cells #[.int .i64 0, .slice none 0 0, sv] 94 (0, 0)) := bT2
  have hs3 : (w2.drewN nq).ownsRow base 9 1 sv xs.length (strs xs) := hsv
  have hbr : br < w.heap.size := (hn.mem br (by rw [hF2]; simp)).2
  clear hq2 hTT hh2 hr2 bT2 hT2 hsv
  generalize w2.drewN nq = w3 at hq3 hT3 hh3 hr3 bT3 hs3 ⊢
  have hzw : w.heap.size ≤ w3.heap.size := hT3.size
  rcases id hr3.2 with ⟨rfl, h0⟩ | ⟨gr, capr, cur, rfl, hgb, hgg, hgn, hgm, hgs, hgt⟩
  · obtain rfl : xs = [] := List.eq_nil_of_length_eq_zero h0
    have c2 := heap_cell hh3 0
    simp only [List.getElem?_toArray, List.getElem?_cons_zero] at c2
    clear bT3 hs3
    go_wp2
    go_rounds 1
    go_ret
    exact ⟨rfl, Fs ++ Fr, ⟨Fs, Fr, hq3, ⟨_, hh3, hb2, hr3, hF2⟩, hap, rfl⟩, hT3, Newer.refl _ _⟩
  · have hgF : gr ∈ Fr := by rw [hF2]; simp [Value.ownBlock]
    have hgw := (hn.mem _ hgF).2
    have hbg : br ≠ gr := fun e => absurd (by simp [Value.ownBlock, e]) (row_ne hh3 hr3)
    have hM0 : Mst w3 w3 (gr :: (w.heap.size + 1) :: sv.ownBlock.toList) br #[.slice (some ⟨gr, 0, none⟩) xs.length capr, .int .i64 m] 79 gr capr 0 0 (.slice none 0 0) xs xs (w.heap.size + 1) base 0 sv := ⟨hh3, by rw [mpd_zero]; exact hr3, bT3, by simpa using hs3, fun b hb => .inl (by simp [hb]), fun e => by have := hnew2 gr e.symm; omega, fun e => by have := hnew2 br e.symm; omega, Touch.refl _ _⟩
    have hG : gr ∈ (gr :: (w.heap.size + 1) :: sv.ownBlock.toList) ∧ w.heap.size + 1 ∈ (gr :: (w.heap.size + 1) :: sv.ownBlock.toList) := ⟨by simp, by simp⟩
    have hfin : Hid (∀ k, k ∈ (gr :: (w.heap.size + 1) :: sv.ownBlock.toList) → k = gr ∨ w.heap.size ≤ k) := fun k hk => by
      simp only [List.mem_cons] at hk
      rcases hk with h | h | h
      · exact .inl h
      · exact .inr (by omega)
      · exact .inr (by have := hnew2 k (by simpa using h); omega)
    have Hst : Hid (∀ {W w1 : World} {k : Nat} {x : ByteArray} {sw v' : Value}, Mst w3 W (gr :: (w.heap.size + 1) :: sv.ownBlock.toList) br #[.slice (some ⟨gr, 0, none⟩) xs.length capr, .int .i64 m] 79 gr capr 0 0 (.slice none 0 0) xs xs (w.heap.size + 1) base k sw → xs[0 + k]? = some x → k < xs.length - 0 → w1.ownsRow base 9 1 v' (xs.length + k + 1) (strs (xs ++ (xs.drop 0).take k) ++ [.string x]) → (W.alloc (.cells #[.string x] 9)).grownBy w1 sw.ownBlock → (v'.ownBlock = sw.ownBlock ∨ v'.ownBlock = some (W.heap.size + 1)) →
        (w1.setCell ⟨w.heap.size + 1, 2, none⟩ v').heap[br]? = some (.cells #[.slice (some ⟨gr, 0, none⟩) xs.length capr, .int .i64 m] 79 (0, 0)) ∧ (w1.setCell ⟨w.heap.size + 1, 2, none⟩ v').cell? ⟨gr, 0 + k, none⟩ = some (.string x) ∧ (w1.setCell ⟨w.heap.size + 1, 2, none⟩ v').frozen? ⟨gr, 0 + k, none⟩ = false ∧
        Mst w3 ((w1.setCell ⟨w.heap.size + 1, 2, none⟩ v').setCell ⟨gr, 0 + k, none⟩ (.string (trd 0 x))) (gr :: (w.heap.size + 1) :: sv.ownBlock.toList) br #[.slice (some ⟨gr, 0, none⟩) xs.length capr, .int .i64 m] 79 gr capr 0 0 (.slice none 0 0) xs xs (w.heap.size + 1) base (k + 1) v') := fun hm hx hk hown hgrow hat =>
      hm.step (by omega) (by omega) (by omega) (by omega) hbg hG hx hk hown hgrow hat
    generalize hGG : gr :: (w.heap.size + 1) :: sv.ownBlock.toList = G at hM0 hfin Hst
    clear hGG hgb hgg hgs hgt hG bT3 hs3 hnew2 hr3
    have Hh3 : Hid (w3.heap[br]? = some (.cells #[.slice (some ⟨gr, 0, none⟩) xs.length capr, .int .i64 m] 79 (0, 0))) := hh3
    clear hh3
    go_wp2
    go_loopw [16] (fun iv wr => ∃ (k : Nat) (sw : Value), k ≤ xs.length ∧ iv = .int .i64 k ∧ Mst w3 wr G br #[.slice (some ⟨gr, 0, none⟩) xs.length capr, .int .i64 m] 79 gr capr 0 0 (.slice none 0 0) xs xs (w.heap.size + 1) base k sw) (fun iv _ => xs.length - (intOf iv).toNat)
    case atStart => exact ⟨0, sv, Nat.zero_le _, rfl, hM0⟩
    case round =>
      obtain ⟨k, sw, hk, rfl, hm⟩ := hrel
      have c2 := heap_cell hm.q 0
      simp only [List.getElem?_toArray, List.getElem?_cons_zero] at c2
      by_cases hlt : k < xs.length
      · have hki : (k : Int) < (xs.length : Int) := by omega
        obtain ⟨x, hx⟩ : ∃ x, xs[k]? = some x := ⟨_, List.getElem?_eq_getElem hlt⟩
        have hcx : wr.cell? ⟨gr, k, none⟩ = some (.string x) := by
          rw [hm.r.cellAt _ (by omega)]
          have e : (mpd 0 xs 0 k)[k]? = some x := by
            rw [mpd_get, hx]
            simp
          simp [strs, e]
        have hmd : Mst w3 wr.drew G br #[.slice (some ⟨gr, 0, none⟩) xs.length capr, .int .i64 m] 79 gr capr 0 0 (.slice none 0 0) xs xs (w.heap.size + 1) base k sw := ⟨hm.q, hm.r, hm.t, hm.s, hm.new, hm.ng, hm.nb, hm.ht.trans (Touch.drew _ _)⟩
        have hkd : xs.length + k = (xs ++ (xs.drop 0).take k).length := by simp; omega
        have hof := of_core (w.heap.size + 1) base 0 x sw (.slice none 0 0) (xs ++ (xs.drop 0).take k) wr.drew hmd.t (by rw [← hkd]; exact hmd.s) (by have := hmd.ht.size; omega) (by rw [← hkd]; omega)
        rw [← hkd] at hof
        have Hmd : Hid (Mst w3 wr.drew G br #[.slice (some ⟨gr, 0, none⟩) xs.length capr, .int .i64 m] 79 gr capr 0 0 (.slice none 0 0) xs xs (w.heap.size + 1) base k sw) := hmd
        have Hx : Hid (xs[0 + k]? = some x) := by rw [Nat.zero_add]; exact hx
        clear hm hmd hx hkd
        go_wp2_with fail
        go_region_with (go_at_call 49; refine hof.mono ?_; rintro e w5 ⟨rfl, v', w4, rfl, hown, hgrow, hat⟩; obtain ⟨q5, d1, d2, hm'⟩ := Hst.out Hmd.out Hx.out (by omega) hown hgrow hat; have c5 := heap_cell q5 0; clear q5; simp only [List.getElem?_toArray, List.getElem?_cons_zero] at c5; simp only [Nat.zero_add] at d1 d2 hm')
        all_goals
          go_wp2
          exact ⟨⟨k + 1, v', hlt, by go_num, hm'⟩, by simp [intOf]; omega⟩
      · obtain rfl : k = xs.length := by omega
        have hrr := hm.r
        have e : mpd 0 xs 0 xs.length = xs.map (trd 0) := by simpa using mpd_end 0 xs 0
        rw [e] at hrr
        have hq4 := hq3.keep hm.ht (fun j hj hmem => by
          rcases hfin.out j hmem with h | h
          · subst h; exact hap j hj hgF
          · have := (hs.mem j hj).2; omega)
        have hT4 : Touch (Fs ++ Fr) w wr := hT3.then hm.ht (fun j hj => by
          rcases hfin.out j hj with h | h
          · subst h; exact .inl (by simp [hgF])
          · exact .inr h)
        have hhr := hm.q
        clear hm
        go_wp2
        go_ret
        exact ⟨rfl, Fs ++ Fr, ⟨Fs, Fr, hq4, ⟨_, hhr, hb2, by simpa using hrr, by simpa using hF2⟩, hap, rfl⟩, hT4, Newer.refl _ _⟩

end Go.Proofs.YtcjblafohfiiaabGreat.Tx
