/-
  One step of a queue of numbers: Map.
-/
import Derived.Test.YtcjblafohfiiaaaGreatQm
import Derived.Deep.CutRange
set_option linter.unusedVariables false
namespace Go.Proofs.YtcjblafohfiiaaaGreat
open Go.RowKit Go.Shelf

set_option maxHeartbeats 1000000 in
theorem map_nil (bq : Nat) (fv : Value) (w : World) (h0 : w.cell? ⟨bq, 0, none⟩ = some (.slice none 0 0)) (h1 : w.cell? ⟨bq, 1, none⟩ = some (.int .i64 0)) :
    Calls Tryz.prog 38 #[.pointer (some ⟨bq, 0, none⟩), fv] w fun e w' => e = .returned (.tuple #[]) ∧ ∃ nq, w' = w.drewN nq := by
  go_enter Tryz.func38, Tryz.ntmps38
  go_wp2_with fail
  refine (held_nil bq w h0 h1).mono ?_
  rintro e w' ⟨rfl, nq, rfl⟩
  go_wp2
  go_rounds 1
  go_returns
  exact ⟨rfl, _, rfl⟩

theorem map_any (bq tb base N : Nat) (m n : Int) (told : Value) (xs : List Int) (F : List Nat) (w : World) (hq : Que w base bq m N xs F) (ht : w.heap[tb]? = some (.cells #[.int .i64 n, .slice none 0 0, told] 93 (0, 0))) (htF : tb ∉ F) (hbase : base ≤ w.heap.size) (hN : N < 1000000) :
    Calls Tryz.prog 38 #[.pointer (some ⟨bq, 0, none⟩), .func (.func 39) #[.pointer (some ⟨tb, 0, none⟩)] #[]] w fun e w' => e = .returned (.tuple #[]) ∧ ∃ sv, Que w' base bq m N (xs.map (trd n)) F ∧
      w'.heap[tb]? = some (.cells #[.int .i64 n, sv, told] 93 (0, 0)) ∧ w'.ownsRow base 3 1 sv xs.length (ints xs) ∧ Touch (tb :: F) w w' := by
  obtain ⟨v, ts, f, hh, hb, hr, hf, hd, hn, rfl⟩ := hq
  rcases id hr.2 with ⟨rfl, hz⟩ | ⟨g, cap, cur, rfl, hbg, hg, hnc, hm, hcs, htk⟩
  · obtain rfl : ts = [] := List.eq_nil_of_length_eq_zero hz
    obtain rfl : f = 0 := by simpa using hf
    obtain rfl : xs = [] := by simpa using hd.symm
    have c0 := heap_cell hh 0
    have c1 := heap_cell hh 1
    simp only [List.getElem?_toArray, List.getElem?_cons_zero, List.getElem?_cons_succ] at c0 c1
    refine (map_nil bq _ w c0 c1).mono ?_
    rintro e w' ⟨rfl, nq, rfl⟩
    exact ⟨rfl, .slice none 0 0, ⟨_, [], 0, hh, hb, hr, Nat.le_refl _, rfl, hn, rfl⟩, ht, World.ownsRow_nil _ _ _ _, Touch.drewN _ _ _⟩
  · have hbg' : bq ≠ g := fun e => absurd (by simp [Value.ownBlock, e]) (row_ne hh hr)
    have htq : tb ≠ bq := fun e => htF (by simp [e])
    have htg : tb ≠ g := fun e => htF (by simp [Value.ownBlock, e])
    have h0 : Mst w w bq g cap f m n told ts tb base 0 (.slice none 0 0) := ⟨hh, by rw [mpd_zero]; exact hr, ht, by simpa using World.ownsRow_nil w base 3 1, fun b hb => by simp [Value.ownBlock] at hb, Touch.refl _ _⟩
    refine (map_core bq g cap f tb base m n told ts w h0 hbase hf (by omega) htg.symm htq.symm hbg').mono ?_
    rintro e w' ⟨rfl, sv, hm'⟩
    have hxl : ts.length - f = xs.length := by rw [← hd]; simp
    have hs := hm'.s
    rw [List.take_of_length_le (by simp), hd, hxl] at hs
    refine ⟨rfl, sv, ⟨_, mpd n ts f (ts.length - f), f, hm'.q, hb, by rw [mpd_length]; exact hm'.r, by rw [mpd_length]; exact hf, by rw [mpd_end, hd], by rw [mpd_length]; exact hn, rfl⟩, hm'.t, hs, hm'.ht.mono (fun k hk => .inl ?_)⟩
    simp [Value.ownBlock] at hk ⊢
    rcases hk with rfl | rfl
    · simp
    · simp

set_option maxRecDepth 20000 in
set_option maxHeartbeats 4000000 in
theorem qo_map (d i bs br base N : Nat) (m : Int) (xs : List Int) (F : List Nat) (sec : Bool) (n wd : Int) (s : ByteArray) (stop : Int) (w : World) (hi : i < 2) (hp : PQ w base bs br N m xs F) (hbase : base ≤ w.heap.size) (hN : N < 1000000) (hlen : xs.length < 1000000)
    (hc : w.cell? ⟨d, 2 + i, none⟩ = some (.pointer (some ⟨bs, 0, none⟩))) (hcr : w.cell? ⟨d, 12 + i, none⟩ = some (.pointer (some ⟨br, 0, none⟩))) :
    Calls Tryz.prog 17 #[.pointer (some ⟨d, 0, none⟩), .agg (opv 7 sec n wd s stop), .int .i64 i] w fun e w' => e = .returned (.bool true) ∧ ∃ F', PQ w' base bs br N m (xs.map (trd n)) F' ∧ Touch F w w' ∧ Newer w.heap.size F F' := by
  obtain ⟨Fs, Fr, hs, hn, hap, rfl⟩ := hp
  have hi' : (i : Int) < 2 := by omega
  have hdl : d < w.heap.size := World.block_lt_of_cell? _ _ hc
  have ha : Touch [] w ((w.alloc (.cells (opv 7 sec n wd s stop) 30)).alloc (.cells #[.int .i64 n, .slice none 0 0, .slice none 0 0] 93)) := (Touch.alloc _ _ _).trans (Touch.alloc _ _ _)
  have hs0 := hs.keep ha (by intro k _ h; simp at h)
  have hn0 := hn.keep ha (by intro k _ h; simp at h)
  have bO : ((w.alloc (.cells (opv 7 sec n wd s stop) 30)).alloc (.cells #[.int .i64 n, .slice none 0 0, .slice none 0 0] 93)).heap[w.heap.size]? = some (.cells (opv 7 sec n wd s stop) 30 (0, 0)) := (Below.heap_alloc _ _ _ (by simp)).trans (heap_alloc_new w _)
  have bT := heap_alloc_new (w.alloc (.cells (opv 7 sec n wd s stop) 30)) (.cells #[.int .i64 n, .slice none 0 0, .slice none 0 0] 93 (0, 0))
  have hzz : (w.alloc (.cells (opv 7 sec n wd s stop) 30)).heap.size = w.heap.size + 1 := by simp
  rw [hzz] at bT
  have htF : w.heap.size + 1 ∉ Fs := fun h => by have := (hs.mem _ h).2; omega
  have hmp := map_any bs (w.heap.size + 1) base N m n (.slice none 0 0) xs Fs _ hs0 bT htF (by simp; omega) hN
  go_enter Tryz.func17, Tryz.ntmps17
  go_wp2_with fail
  refine hmp.mono ?_
  rintro e w2 ⟨rfl, sv, hq2, bT2, hsv, hT2⟩
  clear hmp
  have hn2 := hn0.keep hT2 (fun k hk hm => by
    rcases List.mem_cons.1 hm with h | h
    · have := (hn.mem _ hk).2; omega
    · exact hap k h hk)
  have bO2 := box_old bO hT2 (fun hm => by
    rcases List.mem_cons.1 hm with h | h
    · omega
    · have := (hs.mem _ h).2; omega)
  have hTT : Touch (Fs ++ Fr) w w2 := (ha.mono (by simp)).then hT2 (fun k hk => by
    rcases List.mem_cons.1 hk with h | h
    · exact .inr (by omega)
    · exact .inl (by simp [h]))
  obtain ⟨v2, hh2, hb2, hr2, hF2⟩ := hn2
  have cT := heap_cell bT2 1
  have c2 := heap_cell hh2 0
  simp only [List.getElem?_toArray, List.getElem?_cons_zero, List.getElem?_cons_succ] at cT c2
  have hv := slice_of_row hsv rfl (Nat.le_refl w2.heap.size)
  have hv2 := slice_of_row hr2 rfl (Nat.le_refl w2.heap.size)
  have hsame : ∀ q, Calls Tryz.prog 33 #[sv, v2] (w2.drewN q) fun e w' => e = .returned (.bool true) ∧ ∃ nq, w' = (w2.drewN q).drewN nq := fun q => sameInts_any sv v2 w2.heap.size w2.heap.size xs (w2.drewN q) hlen hv hv2
  clear hv hv2 hsv ha hs0 hn0 bO bT hzz htF bT2
  go_wp2_with fail
  go_quiet ((go_at_call 33; exact Calls.quiet_of (hsame _)))
  go_upto_region 15 with fail
  clear hsame cT c2
  have hq3 := hq2.keep (Touch.drewN [] w2 nq) (by intro k _ h; simp at h)
  have hT3 : Touch (Fs ++ Fr) w (w2.drewN nq) := hTT.trans (Touch.drewN _ _ _)
  have hh3 : (w2.drewN nq).heap[br]? = some (.cells #[v2, .int .i64 m] 76 (0, 0)) := hh2
  have hr3 : (w2.drewN nq).ownsRow base 3 1 v2 xs.length (ints xs) := hr2
  have bO3 : (w2.drewN nq).heap[w.heap.size]? = some (.cells (opv 7 sec n wd s stop) 30 (0, 0)) := bO2
  clear hq2 hTT hh2 hr2 bO2 hT2
  generalize w2.drewN nq = w3 at hq3 hT3 hh3 hr3 bO3 ⊢
  rcases id hr3.2 with ⟨rfl, h0⟩ | ⟨gr, capr, cur, rfl, hgb, hgg, hgn, hgm, hgs, hgt⟩
  · obtain rfl : xs = [] := List.eq_nil_of_length_eq_zero h0
    have c2 := heap_cell hh3 0
    simp only [List.getElem?_toArray, List.getElem?_cons_zero] at c2
    go_wp2
    go_rounds 1
    go_ret
    exact ⟨rfl, Fs ++ Fr, ⟨Fs, Fr, hq3, ⟨_, hh3, hb2, hr3, hF2⟩, hap, rfl⟩, hT3, Newer.refl _ _⟩
  · have hgF : gr ∈ Fr := by rw [hF2]; simp [Value.ownBlock]
    have hbg : br ≠ gr := fun e => absurd (by simp [Value.ownBlock, e]) (row_ne hh3 hr3)
    have hog : w.heap.size ≠ gr := by have := (hn.mem _ hgF).2; omega
    clear hgb hgg hgs hgt
    go_wp2
    go_loopw [16] (fun iv wr => ∃ (k : Nat), k ≤ xs.length ∧ iv = .int .i64 k ∧ wr.heap[br]? = some (.cells #[.slice (some ⟨gr, 0, none⟩) xs.length capr, .int .i64 m] 76 (0, 0)) ∧ wr.ownsRow base 3 1 (.slice (some ⟨gr, 0, none⟩) xs.length capr) xs.length (ints (mpd n xs 0 k)) ∧ Touch [gr] w3 wr) (fun iv _ => xs.length - (intOf iv).toNat)
    case atStart => exact ⟨0, Nat.zero_le _, rfl, hh3, by rw [mpd_zero]; exact hr3, Touch.refl _ _⟩
    case round =>
      obtain ⟨k, hk, rfl, hhr, hrr, htr⟩ := hrel
      have c2 := heap_cell hhr 0
      have cN := heap_cell (box_old bO3 htr (by simpa using hog)) 2
      simp only [List.getElem?_toArray, List.getElem?_cons_zero, List.getElem?_cons_succ] at c2 cN
      by_cases hlt : k < xs.length
      · have hki : (k : Int) < (xs.length : Int) := by omega
        obtain ⟨x, hx⟩ : ∃ x, xs[k]? = some x := ⟨_, List.getElem?_eq_getElem hlt⟩
        have hcx : wr.cell? ⟨gr, k, none⟩ = some (.int .i64 x) := by
          rw [hrr.cellAt _ (by omega)]
          have e : (mpd n xs 0 k)[k]? = some x := by
            rw [mpd_get, hx]
            simp
          simp [ints, e]
        have hfx := hrr.frozenAt k
        have hr4 : ∀ q, ((wr.drewN q).setCell ⟨gr, k, none⟩ (.int .i64 (trd n x))).ownsRow base 3 1 (.slice (some ⟨gr, 0, none⟩) xs.length capr) xs.length (ints (mpd n xs 0 (k + 1))) := fun q => by
          have hr5 : (wr.drewN q).ownsRow base 3 1 (.slice (some ⟨gr, 0, none⟩) xs.length capr) xs.length (ints (mpd n xs 0 k)) := hrr
          have h4 := (hr5.stored k (.int .i64 (trd n x))).1
          have e3 : (ints (mpd n xs 0 k)).set k (.int .i64 (trd n x)) = ints (mpd n xs 0 (k + 1)) := by
            have := mpd_succ (n := n) (ts := xs) (f := 0) (k := k) (x := x) (by simpa using hx)
            rw [← this]; simp [ints, List.map_set]
          rw [e3] at h4
          exact h4
        have hh4 : ∀ q, ((wr.drewN q).setCell ⟨gr, k, none⟩ (.int .i64 (trd n x))).heap[br]? = some (.cells #[.slice (some ⟨gr, 0, none⟩) xs.length capr, .int .i64 m] 76 (0, 0)) := fun q => by
          rw [Below.heap_setCell _ _ _ _ hbg]; exact hhr
        have ht4 : ∀ q, Touch [gr] w3 ((wr.drewN q).setCell ⟨gr, k, none⟩ (.int .i64 (trd n x))) := fun q => (htr.trans (Touch.drewN _ _ q)).trans (Touch.setCell _ _ _ (by simp))
        have Hr4 : Hid (∀ q, ((wr.drewN q).setCell ⟨gr, k, none⟩ (.int .i64 (trd n x))).ownsRow base 3 1 (.slice (some ⟨gr, 0, none⟩) xs.length capr) xs.length (ints (mpd n xs 0 (k + 1)))) := hr4
        have Hh4 : Hid (∀ q, ((wr.drewN q).setCell ⟨gr, k, none⟩ (.int .i64 (trd n x))).heap[br]? = some (.cells #[.slice (some ⟨gr, 0, none⟩) xs.length capr, .int .i64 m] 76 (0, 0))) := hh4
        have Ht4 : Hid (∀ q, Touch [gr] w3 ((wr.drewN q).setCell ⟨gr, k, none⟩ (.int .i64 (trd n x)))) := ht4
        clear hr4 hh4 ht4 hhr hrr htr hx
        go_wp2_with fail
        go_region
        go_wp2
        exact ⟨⟨k + 1, hlt, by go_num, Hh4.out 0, Hr4.out 0, (Ht4.out 0).trans (Touch.drew _ _)⟩, by simp [intOf]; omega⟩
      · obtain rfl : k = xs.length := by omega
        have e : mpd n xs 0 xs.length = xs.map (trd n) := by simpa using mpd_end n xs 0
        rw [e] at hrr
        have hq4 := hq3.keep htr (fun j hj hm => by
          simp at hm
          subst hm
          exact hap j hj hgF)
        have hT4 : Touch (Fs ++ Fr) w wr := hT3.trans (htr.mono (fun j hj => .inl (by simp at hj; subst hj; simp [hgF])))
        go_wp2
        go_ret
        exact ⟨rfl, Fs ++ Fr, ⟨Fs, Fr, hq4, ⟨_, hhr, hb2, by simpa using hrr, by simpa using hF2⟩, hap, rfl⟩, hT4, Newer.refl _ _⟩

end Go.Proofs.YtcjblafohfiiaaaGreat
