import Derived.Test.YtcjblafohfiiaabGreatXA
import Derived.Test.YtcjblafohfiiaabGreatSa
import Derived.Handy
import Derived.Deep.CutRange
import Derived.Test.YtcjblafohfiiaabGreatRu
/-
  One step of a queue of numbers (but for Map and All).
-/
set_option linter.unusedVariables false
namespace Go.Proofs.YtcjblafohfiiaabGreat.Tx
open Go.RowKit Go.Shelf

theorem rput_any (b base : Nat) (m : Int) (x : ByteArray) (xs : List ByteArray) (F : List Nat) (w : World) (hs : Num w base b m xs F) (hbase : base ≤ w.heap.size) (hlen : xs.length < 1000000) (hroom : ¬ (0 < m ∧ m ≤ xs.length)) :
    Calls Tryz.prog 45 #[.pointer (some ⟨b, 0, none⟩), .string x] w fun e w' => e = .returned (.int .i64 0) ∧
      ∃ F', Num w' base b m (xs ++ [x]) F' ∧ Touch F w w' ∧ Newer w.heap.size F F' := by
  obtain ⟨v, hh, hb, hr, rfl⟩ := hs
  refine (rput_core b base m x v xs w hh hr hbase hlen hroom).mono ?_
  rintro e w' ⟨rfl, nq, v', w1, rfl, hown, hgrow, hat⟩
  have hne : some b ≠ v.ownBlock := row_ne hh hr
  have hh1 : w1.heap[b]? = some (.cells #[v, .int .i64 m] 79 (0, 0)) := by
    rw [hgrow.block b (by have := heap_lt hh; simp; omega) hne]; exact (Below.heap_alloc (w.drewN nq) _ b (heap_lt hh)).trans hh
  have hne' : some b ≠ v'.ownBlock := row_ne hh1 hown
  have ht : Touch (b :: v.ownBlock.toList) w w1 := ((Touch.drewN _ w nq).trans (Touch.alloc _ _ _)).trans (Touch.grown hgrow (fun k hk => by simp [hk]))
  refine ⟨rfl, b :: v'.ownBlock.toList, ⟨v', ?_, hb, ?_, rfl⟩, ht.trans (Touch.setCell _ _ _ (by simp)), ?_⟩
  · rw [heap_set hh1]; rfl
  · simpa using ownsRow_setOther hown (a := ⟨b, 0, none⟩) hne' v'
  · intro k hk
    rcases List.mem_cons.1 hk with rfl | hk
    · exact .inl (by simp)
    · have hk' : v'.ownBlock = some k := by simpa using hk
      rcases hat with h1 | h1
      · exact .inl (by rw [h1] at hk'; simp [hk'])
      · rw [h1] at hk'; simp only [Option.some.injEq] at hk'; exact .inr (by omega)

/-- A queue and the document's list of it. -/
def PQ (W : World) (base bq br N : Nat) (m : Int) (xs : List ByteArray) (F : List Nat) : Prop :=
  ∃ Fq Fr, Que W base bq m N xs Fq ∧ Num W base br m xs Fr ∧ Apart Fq Fr ∧ F = Fq ++ Fr

theorem pq_after {w w1 w2 : World} {base bq br N N1 : Nat} {m : Int} {xs ys xs' : List ByteArray} {Fs Fr Fs1 Fr2 : List Nat} (hs : Que w base bq m N xs Fs) (hn : Num w base br m ys Fr) (hap : Apart Fs Fr) (hs1 : Que w1 base bq m N1 xs' Fs1) (ht1 : Touch Fs w w1) (hw1 : Newer w.heap.size Fs Fs1)
    (hn2 : Num w2 base br m xs' Fr2) (ht2 : Touch Fr w1 w2) (hw2 : Newer w1.heap.size Fr Fr2) : ∃ F', PQ w2 base bq br N1 m xs' F' ∧ Touch (Fs ++ Fr) w w2 ∧ Newer w.heap.size (Fs ++ Fr) F' := by
  have a1 : Apart Fs1 Fr := hap.newer hw1 (fun k hk => (hn.mem k hk).2)
  have a2 : Apart Fs1 Fr2 := (a1.symm.newer hw2 (fun k hk => (hs1.mem k hk).2)).symm
  refine ⟨Fs1 ++ Fr2, ⟨Fs1, Fr2, hs1.keep ht2 a1, hn2, a2, rfl⟩, (ht1.mono (fun k hk => .inl (by simp [hk]))).trans (ht2.mono (fun k hk => .inl (by simp [hk]))), ?_⟩
  intro k hk
  rcases List.mem_append.1 hk with h | h
  · rcases hw1 k h with h1 | h1
    · exact .inl (by simp [h1])
    · exact .inr h1
  · rcases newer_mono hw2 ht1.size k h with h1 | h1
    · exact .inl (by simp [h1])
    · exact .inr h1

set_option maxRecDepth 20000 in
set_option maxHeartbeats 2000000 in
theorem qo_put (d i bs br base N : Nat) (m : Int) (xs : List ByteArray) (F : List Nat) (sec : Bool) (n wd : Int) (s : ByteArray) (stop : Int) (w : World) (hi : i < 2) (hp : PQ w base bs br N m xs F) (hbase : base ≤ w.heap.size) (hlen : N < 1000000)
    (hc : w.cell? ⟨d, 4 + i, none⟩ = some (.pointer (some ⟨bs, 0, none⟩))) (hcr : w.cell? ⟨d, 14 + i, none⟩ = some (.pointer (some ⟨br, 0, none⟩))) (hxs : xs.length < 1000000) (hroom : ¬ (0 < m ∧ m ≤ (xs.length : Int))) :
    Calls Tryz.prog 20 #[.pointer (some ⟨d, 0, none⟩), .agg (opv 10 sec n wd s stop), .int .i64 i] w fun e w' => e = .returned (.bool true) ∧ ∃ F', PQ w' base bs br (N + 1) m (xs ++ [s]) F' ∧ Touch F w w' ∧ Newer w.heap.size F F' := by
  obtain ⟨Fs, Fr, hs, hn, hap, rfl⟩ := hp
  have hi' : (i : Int) < 2 := by omega
  have hdl : d < w.heap.size := World.block_lt_of_cell? _ _ hc
  have ha : Touch [] w (w.alloc (.cells (opv 10 sec n wd s stop) 31)) := Touch.alloc _ _ _
  have hs0 := hs.keep ha (by intro k _ h; simp at h)
  have hn0 := hn.keep ha (by intro k _ h; simp at h)
  have hpu := put_any bs base N m s xs Fs _ hs0 (by simp; omega) hlen hroom
  go_enter Tryz.func20, Tryz.ntmps20
  go_wp2_with fail
  refine hpu.mono ?_
  rintro e w1 ⟨rfl, Fs1, hs1, ht1, hw1⟩
  have hn1 := hn0.keep ht1 hap.symm
  have bO := box_old (Boxed6.new w (opv 10 sec n wd s stop) 31) ht1 (fun hm => by have := (hs.mem _ hm).2; omega)
  clear hpu
  have cN := heap_cell bO 4
  simp only [List.getElem?_toArray, List.getElem?_cons_zero, List.getElem?_cons_succ] at cN
  go_wp2_with fail
  have hz1 : w.heap.size < w1.heap.size := by have := ht1.size; simp at this; omega
  have hrp : Calls Tryz.prog 45 #[.pointer (some ⟨br, 0, none⟩), .string s] w1.drew fun e w' => e = .returned (.int .i64 0) ∧ ∃ F', Num w' base br m (xs ++ [s]) F' ∧ Touch Fr w1.drew w' ∧ Newer w1.heap.size Fr F' :=
    rput_any br base m s xs Fr w1.drew (hn1.keep (Touch.drew [] w1) (by intro k _ h; simp at h)) (by show base ≤ w1.heap.size; omega) hxs hroom
  go_region_with (first | (go_at_call 14; refine (num_any _ _).mono ?_; rintro e w' ⟨rfl, rfl⟩) | (go_at_call 45; refine hrp.mono ?_; rintro e w2 ⟨rfl, Fr2, hn2, ht2, hw2⟩))
  all_goals
    go_wp2
    go_ret
    exact ⟨rfl, pq_after hs hn hap hs1 ((ha.mono (by simp)).trans ht1) (newer_mono hw1 (by simp)) hn2 ((Touch.drew _ w1).trans ht2) hw2⟩

set_option maxRecDepth 20000 in
set_option maxHeartbeats 2000000 in
theorem qo_full (d i bs br base N : Nat) (m : Int) (xs : List ByteArray) (F : List Nat) (sec : Bool) (n wd : Int) (s : ByteArray) (stop : Int) (w : World) (hi : i < 2) (hp : PQ w base bs br N m xs F) (hbase : base ≤ w.heap.size) (hlen : xs.length < 1000000)
    (hc : w.cell? ⟨d, 4 + i, none⟩ = some (.pointer (some ⟨bs, 0, none⟩))) (hcr : w.cell? ⟨d, 14 + i, none⟩ = some (.pointer (some ⟨br, 0, none⟩))) (hfull : 0 < m ∧ m ≤ (xs.length : Int)) :
    Calls Tryz.prog 20 #[.pointer (some ⟨d, 0, none⟩), .agg (opv 10 sec n wd s stop), .int .i64 i] w fun e w' => e = .returned (.bool true) ∧ ∃ F', PQ w' base bs br N m xs F' ∧ Touch F w w' ∧ Newer w.heap.size F F' := by
  obtain ⟨Fs, Fr, hs, hn, hap, rfl⟩ := hp
  have hi' : (i : Int) < 2 := by omega
  have hdl : d < w.heap.size := World.block_lt_of_cell? _ _ hc
  have ha : Touch [] w (w.alloc (.cells (opv 10 sec n wd s stop) 31)) := Touch.alloc _ _ _
  have hs0 := hs.keep ha (by intro k _ h; simp at h)
  have hn0 := hn.keep ha (by intro k _ h; simp at h)
  have hpu := put_full bs base N m s xs Fs _ hs0 hfull
  go_enter Tryz.func20, Tryz.ntmps20
  go_wp2_with fail
  refine hpu.mono ?_
  rintro e w1 ⟨rfl, hs1, ht1⟩
  have hn1 := hn0.keep ht1 (by intro k _ h; simp at h)
  have bO := box_old (Boxed6.new w (opv 10 sec n wd s stop) 31) ht1 (by simp)
  clear hpu
  have cN := heap_cell bO 4
  simp only [List.getElem?_toArray, List.getElem?_cons_zero, List.getElem?_cons_succ] at cN
  go_wp2_with fail
  have hrp : ∀ k, Calls Tryz.prog 45 #[.pointer (some ⟨br, 0, none⟩), .string s] (w1.drewN k) fun e w' => e = .returned (.int .i64 11) ∧ ∃ nq, w' = (w1.drewN k).drewN nq := fun k =>
    rput_full br base m s xs Fr (w1.drewN k) (hn1.keep (Touch.drewN [] w1 k) (by intro k _ h; simp at h)) hfull
  go_quiet (first | (go_at_call 14; exact Calls.quiet_of_same ((num_any _ _).mono fun _ _ h => ⟨h.1, h.2.symm⟩)) | (go_at_call 45; exact Calls.quiet_of (hrp _)))
  go_wp2
  go_ret
  refine ⟨rfl, Fs ++ Fr, ⟨Fs, Fr, hs1.keep (Touch.drewN [] w1 _) (by intro k _ h; simp at h), hn1.keep (Touch.drewN [] w1 _) (by intro k _ h; simp at h), hap, rfl⟩, ?_, Newer.refl _ _⟩
  exact ((ha.trans ht1).trans (Touch.drewN _ _ _)).mono (by simp)

set_option maxRecDepth 20000 in
set_option maxHeartbeats 2000000 in
theorem qo_take (d i bs br base N : Nat) (m : Int) (x : ByteArray) (xs : List ByteArray) (F : List Nat) (sec : Bool) (n wd : Int) (s : ByteArray) (stop : Int) (w : World) (hi : i < 2) (hp : PQ w base bs br N m (x :: xs) F) (hbase : base ≤ w.heap.size) (hlen : N < 1000000) (hxs : xs.length < 1000000)
    (hc : w.cell? ⟨d, 4 + i, none⟩ = some (.pointer (some ⟨bs, 0, none⟩))) (hcr : w.cell? ⟨d, 14 + i, none⟩ = some (.pointer (some ⟨br, 0, none⟩))) :
    Calls Tryz.prog 20 #[.pointer (some ⟨d, 0, none⟩), .agg (opv 11 sec n wd s stop), .int .i64 i] w fun e w' => e = .returned (.bool true) ∧ ∃ F', PQ w' base bs br N m xs F' ∧ Touch F w w' ∧ Newer w.heap.size F F' := by
  obtain ⟨Fs, Fr, hs, hn, hap, rfl⟩ := hp
  have hi' : (i : Int) < 2 := by omega
  have hdl : d < w.heap.size := World.block_lt_of_cell? _ _ hc
  have ha : Touch [] w (w.alloc (.cells (opv 11 sec n wd s stop) 31)) := Touch.alloc _ _ _
  have hs0 := hs.keep ha (by intro k _ h; simp at h)
  have hn0 := hn.keep ha (by intro k _ h; simp at h)
  have hpo := take_any bs base N m x xs Fs _ hs0 hlen
  go_enter Tryz.func20, Tryz.ntmps20
  go_wp2_with fail
  refine hpo.mono ?_
  rintro e w1 ⟨rfl, hs1, ht1⟩
  have hn1 := hn0.keep ht1 hap.symm
  have hz1 : w.heap.size < w1.heap.size := by have := ht1.size; simp at this; omega
  have hrf := rfirst_any br base m x xs Fr w1 hn1 (by omega) hxs
  clear hpo
  go_wp2_with fail
  refine hrf.mono ?_
  rintro e w2 ⟨rfl, Fr2, hn2, ht2, hw2⟩
  go_wp2
  go_ret
  exact ⟨by simp, pq_after hs hn hap hs1 ((ha.mono (by simp)).trans ht1) (Newer.refl _ _) hn2 ht2 hw2⟩

set_option maxRecDepth 20000 in
set_option maxHeartbeats 2000000 in
theorem qo_take0 (d i bs br base N : Nat) (m : Int) (F : List Nat) (sec : Bool) (n wd : Int) (s : ByteArray) (stop : Int) (w : World) (hi : i < 2) (hp : PQ w base bs br N m [] F)
    (hc : w.cell? ⟨d, 4 + i, none⟩ = some (.pointer (some ⟨bs, 0, none⟩))) (hcr : w.cell? ⟨d, 14 + i, none⟩ = some (.pointer (some ⟨br, 0, none⟩))) :
    Calls Tryz.prog 20 #[.pointer (some ⟨d, 0, none⟩), .agg (opv 11 sec n wd s stop), .int .i64 i] w fun e w' => e = .returned (.bool true) ∧ ∃ F', PQ w' base bs br N m [] F' ∧ Touch F w w' ∧ Newer w.heap.size F F' := by
  obtain ⟨Fs, Fr, hs, hn, hap, rfl⟩ := hp
  have hi' : (i : Int) < 2 := by omega
  have hdl : d < w.heap.size := World.block_lt_of_cell? _ _ hc
  have ha : Touch [] w (w.alloc (.cells (opv 11 sec n wd s stop) 31)) := Touch.alloc _ _ _
  have hs0 := hs.keep ha (by intro k _ h; simp at h)
  have hn0 := hn.keep ha (by intro k _ h; simp at h)
  have hpo := take_none bs base N m Fs _ hs0
  go_enter Tryz.func20, Tryz.ntmps20
  go_wp2_with fail
  refine hpo.mono ?_
  rintro e w1 ⟨rfl, nq, rfl⟩
  have td : Touch [] (w.alloc (.cells (opv 11 sec n wd s stop) 31)) ((w.alloc (.cells (opv 11 sec n wd s stop) 31)).drewN nq) := Touch.drewN _ _ _
  have hs1 := hs0.keep td (by intro k _ h; simp at h)
  have hn1 := hn0.keep td (by intro k _ h; simp at h)
  have hrf := rfirst_none br base m Fr _ hn1
  go_wp2_with fail
  refine hrf.mono ?_
  rintro e w2 ⟨rfl, rfl⟩
  go_wp2
  go_ret
  exact ⟨rfl, Fs ++ Fr, ⟨Fs, Fr, hs1, hn1, hap, rfl⟩, (ha.trans td).mono (by simp), Newer.refl _ _⟩

end Go.Proofs.YtcjblafohfiiaabGreat.Tx

/-
  One step of a queue of numbers: Len and All.
-/
set_option linter.unusedVariables false
namespace Go.Proofs.YtcjblafohfiiaabGreat.Tx
open Go.RowKit Go.Shelf

set_option maxRecDepth 20000 in
set_option maxHeartbeats 2000000 in
theorem qo_len (d i bs br base N : Nat) (m : Int) (xs : List ByteArray) (F : List Nat) (sec : Bool) (n wd : Int) (s : ByteArray) (stop : Int) (w : World) (hi : i < 2) (hp : PQ w base bs br N m xs F)
    (hc : w.cell? ⟨d, 4 + i, none⟩ = some (.pointer (some ⟨bs, 0, none⟩))) (hcr : w.cell? ⟨d, 14 + i, none⟩ = some (.pointer (some ⟨br, 0, none⟩))) :
    Calls Tryz.prog 20 #[.pointer (some ⟨d, 0, none⟩), .agg (opv 13 sec n wd s stop), .int .i64 i] w fun e w' => e = .returned (.bool true) ∧ ∃ F', PQ w' base bs br N m xs F' ∧ Touch F w w' ∧ Newer w.heap.size F F' := by
  obtain ⟨Fs, Fr, hs, hn, hap, rfl⟩ := hp
  have hi' : (i : Int) < 2 := by omega
  have hdl : d < w.heap.size := World.block_lt_of_cell? _ _ hc
  have ha : Touch [] w (w.alloc (.cells (opv 13 sec n wd s stop) 31)) := Touch.alloc _ _ _
  have hs0 := hs.keep ha (by intro k _ h; simp at h)
  have hn0 := hn.keep ha (by intro k _ h; simp at h)
  have hfin : ∀ q, ∃ F', PQ ((w.alloc (.cells (opv 13 sec n wd s stop) 31)).drewN q) base bs br N m xs F' ∧ Touch (Fs ++ Fr) w ((w.alloc (.cells (opv 13 sec n wd s stop) 31)).drewN q) ∧ Newer w.heap.size (Fs ++ Fr) F' := fun q =>
    ⟨Fs ++ Fr, ⟨Fs, Fr, hs0.keep (Touch.drewN [] _ q) (by intro k _ h; simp at h), hn0.keep (Touch.drewN [] _ q) (by intro k _ h; simp at h), hap, rfl⟩, (ha.trans (Touch.drewN _ _ q)).mono (by simp), Newer.refl _ _⟩
  obtain ⟨v, ts, f, hh, _, hr, hf, hd, _, _⟩ := hs0
  obtain ⟨v2, hh2, _, hr2, _⟩ := hn0
  have c0 := heap_cell hh 0
  have c1 := heap_cell hh 1
  have c2 := heap_cell hh2 0
  simp only [List.getElem?_toArray, List.getElem?_cons_zero, List.getElem?_cons_succ] at c0 c1 c2
  obtain ⟨va, vc, rfl⟩ := row_slice hr2
  have hsl := qlen_any bs f ts.length base v _ _ c0 c1 hr hf
  rw [← List.length_drop, hd] at hsl
  clear hh hh2 hr hr2
  go_enter Tryz.func20, Tryz.ntmps20
  go_wp2_with fail
  refine hsl.mono ?_
  rintro e w1 ⟨rfl, q, rfl⟩
  go_wp2
  go_ret
  exact ⟨by simp, hfin _⟩

theorem que_walked {W : World} {base b N Bl : Nat} {m : Int} {xs : List ByteArray} {F : List Nat} (h : Que W base b m N xs F) (hbl : W.cell? ⟨Bl, 0, none⟩ = some (.func (.func 86) #[.pointer (some ⟨b, 0, none⟩)] #[])) (hN : N < 1000000) : Walked Tryz.prog 108 Bl xs W := by
  obtain ⟨v, ts, f, hh, hb, hr, hf, rfl, hn, rfl⟩ := h
  have h0 := heap_cell hh 0
  have h1 := heap_cell hh 1
  simp only [List.getElem?_toArray, List.getElem?_cons_zero, List.getElem?_cons_succ] at h0 h1
  have hl : (ts.drop f).length < 1000000 := by simp; omega
  rcases hr.2 with ⟨rfl, hz⟩ | ⟨g, cap, cur, rfl, _, hg, hnc, hc, _⟩
  · obtain rfl : f = 0 := by omega
    exact frozenQ_any Bl b _ _ _ _ W hbl (held_nil b W h0 h1) (.inl ⟨rfl, by simp; exact List.eq_nil_of_length_eq_zero hz⟩) hl
  · refine frozenQ_any Bl b _ _ _ _ W hbl (held_some b g cap ts.length f W h0 h1 hf hnc hc) (.inr ⟨g, if cap = f then 0 else f, cap - f, ?_, heap_lt hg, ?_⟩) hl
    · rw [List.length_drop]; split <;> rfl
    · intro j x hj
      rw [List.getElem?_drop] at hj
      have hjl := (List.getElem?_eq_some_iff.1 hj).1
      rw [if_neg (by omega), hr.cellAt _ (by omega)]
      simp [hj]

theorem walked_queue {w W : World} {base bs N Bl : Nat} {m : Int} {xs : List ByteArray} {Fs : List Nat} (hs : Que w base bs m N xs Fs) (hN : N < 1000000) (hB : Below w.heap.size w W) (hbl : W.cell? ⟨Bl, 0, none⟩ = some (.func (.func 86) #[.pointer (some ⟨bs, 0, none⟩)] #[])) :
    Walked Tryz.prog 108 Bl xs W := que_walked (hs.keep (Touch.of_below hB []) (by intro k _ h; simp at h)) hbl hN

set_option maxRecDepth 20000 in
set_option maxHeartbeats 4000000 in
theorem qo_all (d i bs br base N : Nat) (m : Int) (xs : List ByteArray) (F : List Nat) (k : Int) (sec : Bool) (n wd : Int) (s : ByteArray) (stop : Int) (w : World) (hi : i < 2) (hp : PQ w base bs br N m xs F) (hbase : base ≤ w.heap.size) (hN : N < 1000000) (hlen : xs.length < 1000000) (hk1 : (k == 10) = false) (hk2 : (k == 11) = false) (hk3 : (k == 12) = false) (hk4 : (k == 13) = false)
    (hc : w.cell? ⟨d, 4 + i, none⟩ = some (.pointer (some ⟨bs, 0, none⟩))) (hcr : w.cell? ⟨d, 14 + i, none⟩ = some (.pointer (some ⟨br, 0, none⟩))) :
    Calls Tryz.prog 20 #[.pointer (some ⟨d, 0, none⟩), .agg (opv k sec n wd s stop), .int .i64 i] w fun e w' => e = .returned (.bool true) ∧ ∃ F', PQ w' base bs br N m xs F' ∧ Touch F w w' ∧ Newer w.heap.size F F' := by
  obtain ⟨Fs, Fr, hs, hn, hap, rfl⟩ := hp
  have hi' : (i : Int) < 2 := by omega
  have hdl : d < w.heap.size := World.block_lt_of_cell? _ _ hc
  have ha : Touch [] w (w.alloc (.cells (opv k sec n wd s stop) 31)) := Touch.alloc _ _ _
  have hs0 := hs.keep ha (by intro k _ h; simp at h)
  have hn0 := hn.keep ha (by intro k _ h; simp at h)
  have bO := Boxed6.new w (opv k sec n wd s stop) 31
  have cS := heap_cell bO 5
  simp only [List.getElem?_toArray, List.getElem?_cons_zero, List.getElem?_cons_succ] at cS
  go_enter Tryz.func20, Tryz.ntmps20
  go_wp2_with fail
  have hza : (w.alloc (.cells (opv k sec n wd s stop) 31)).heap.size = w.heap.size + 1 := by simp
  generalize hwa : w.alloc (.cells (opv k sec n wd s stop) 31) = wa at ha hs0 hn0 bO cS hza ⊢
  have hza' : w.heap.size < wa.heap.size := by omega
  clear hza hwa
  have hin : ∀ W : World, Below wa.heap.size wa W → W.cell? ⟨wa.heap.size, 0, none⟩ = some (.func (.func 86) #[.pointer (some ⟨bs, 0, none⟩)] #[]) →
      Calls Tryz.prog 52 #[.func (.func 108) #[] #[.pointer (some ⟨wa.heap.size, 0, none⟩)], .int .i64 stop] W fun e w' =>
        ∃ v, e = .returned (.tuple #[v, .bool true]) ∧ w'.ownsRow wa.heap.size 9 1 v (cutTo xs.length stop) (strs (xs.take (cutTo xs.length stop))) ∧ Below wa.heap.size wa w' := fun W hB hl => by
    have h := ints_any wa.heap.size stop xs W hlen (fun W' hB' => walked_queue hs0 hN (hB.trans (hB'.mono hB.size)) ((hB'.cell (p := ⟨wa.heap.size, 0, none⟩) (World.block_lt_of_cell? _ _ hl)).trans hl))
    refine h.mono ?_
    rintro e w' ⟨v, he, hr, hb⟩
    exact ⟨v, he, row_base hr hB.size, hB.trans (hb.mono hB.size)⟩
  go_region_with (first | (go_at_call 53; refine (qall_any _ _).mono ?_; rintro e w' ⟨rfl, rfl⟩) | (go_at_call 52; refine (hin _ (by first | exact ((Below.refl _ wa).drew).alloc (Nat.le_refl _) _ | exact ((Below.refl _ wa).alloc (Nat.le_refl _) _).drew) (by first | exact (Boxed.new wa.drew _ _).cell | exact (Boxed.new wa _ _).cell)).mono ?_; rintro e w2 ⟨v, rfl, hrv, hb2⟩))
  all_goals
    have hT2 : Touch [] wa w2 := Touch.of_below hb2 []
    have hn2 := hn0.keep hT2 (by intro k _ h; simp at h)
    have hs2 := hs0.keep hT2 (by intro k _ h; simp at h)
    have hfin : ∀ q, ∃ F', PQ (w2.drewN q) base bs br N m xs F' ∧ Touch (Fs ++ Fr) w (w2.drewN q) ∧ Newer w.heap.size (Fs ++ Fr) F' := fun q =>
      ⟨Fs ++ Fr, ⟨Fs, Fr, hs2.keep (Touch.drewN [] w2 q) (by intro k _ h; simp at h), hn2.keep (Touch.drewN [] w2 q) (by intro k _ h; simp at h), hap, rfl⟩, ((ha.trans hT2).trans (Touch.drewN _ _ _)).mono (by simp), Newer.refl _ _⟩
    obtain ⟨v2, hh2, _, hr2, _⟩ := hn2
    have c2 := heap_cell hh2 0
    have cS2 := heap_cell (box_old bO hT2 (by simp)) 5
    simp only [List.getElem?_toArray, List.getElem?_cons_zero, List.getElem?_cons_succ] at c2 cS2
    have hcl := cutTo_le xs.length stop
    have hlv : cutTo xs.length stop = (xs.take (cutTo xs.length stop)).length := by rw [List.length_take]; omega
    have hl1 : (xs.take (cutTo xs.length stop)).length < 1000000 := by omega
    have hv := slice_of_row hrv hlv (Nat.le_refl w2.heap.size)
    have hut := fun q => upTo_any xs.length stop (w2.drewN q)
    rcases hr2.2 with ⟨rfl, h0⟩ | ⟨g, cap, cur, rfl, hgb, hgg, hgn, hgm, hgs, hgt⟩
    · obtain rfl : xs = [] := by simpa using h0
      have hc0 : cutTo ([] : List ByteArray).length stop = 0 := by simpa using hcl
      rw [hc0] at hut
      have hsame : ∀ q, Calls Tryz.prog 50 #[v, .slice none 0 0] (w2.drewN q) fun e w' => e = .returned (.bool true) ∧ ∃ nq, w' = (w2.drewN q).drewN nq := fun q =>
        sameInts_any v _ w2.heap.size w2.heap.size [] (w2.drewN q) (by decide) (by show SliceIs w2.heap.size w2 v []; simpa using hv) (.inl ⟨rfl, rfl⟩)
      clear hr2 hh2 hrv hv hl1 hlv hcl hc0 hn0 hs0 hs2 hin
      go_wp2_with fail
      go_quiet (first | (go_at_call 36; exact Calls.quiet_of_same ((hut _).mono fun _ _ h => ⟨h.1, h.2.symm⟩)) | (go_at_call 50; exact Calls.quiet_of (hsame _)))
      go_wp2
      go_ret
      exact ⟨rfl, hfin _⟩
    · have hsame : ∀ q, Calls Tryz.prog 50 #[v, .slice (some ⟨g, 0, none⟩) (cutTo xs.length stop) cap] (w2.drewN q) fun e w' => e = .returned (.bool true) ∧ ∃ nq, w' = (w2.drewN q).drewN nq := fun q =>
        sameInts_any v _ w2.heap.size w2.heap.size (xs.take (cutTo xs.length stop)) (w2.drewN q) hl1 hv (.inr ⟨g, 0, cap, by rw [← hlv], heap_lt hgg, fun j y hj => by
          rw [List.getElem?_take] at hj
          split at hj
          · obtain ⟨g3, cap3, e3, h3⟩ := row_cell hr2 j y hj
            simp only [Value.slice.injEq, Option.some.injEq, Addr.mk.injEq, true_and, and_true] at e3
            obtain ⟨rfl, rfl⟩ := e3
            rw [Nat.zero_add]; exact h3
          · cases hj⟩)
      have hb1 : ((cutTo xs.length stop : Nat) : Int) ≤ cap := by omega
      generalize cutTo xs.length stop = mm at *
      clear hr2 hh2 hrv hv hl1 hlv hcl hn0 hs0 hs2 hin hgg hgt
      unfold maxLen at hgm
      go_wp2_with fail
      go_quiet (first | (go_at_call 36; exact Calls.quiet_of_same ((hut _).mono fun _ _ h => ⟨h.1, h.2.symm⟩)) | (go_at_call 50; exact Calls.quiet_of (hsame _)))
      go_wp2
      go_ret
      exact ⟨rfl, hfin _⟩

end Go.Proofs.YtcjblafohfiiaabGreat.Tx

/-
  What Map is handed: the turner, of texts.
-/
set_option linter.unusedVariables false
namespace Go.Proofs.YtcjblafohfiiaabGreat.Tx
open Go.RowKit Go.Shelf

/-- What the turner makes of a text. -/
def trd (n : Int) (x : ByteArray) : ByteArray := if (100 : Int) < (x.size : Int) then ⟨#[]⟩ else x ++ ⟨#[43]⟩

set_option maxRecDepth 20000 in
set_option maxHeartbeats 1000000 in
theorem of_core (b base : Nat) (n : Int) (x : ByteArray) (v told : Value) (xs : List ByteArray) (w : World) (hh : w.heap[b]? = some (.cells #[.int .i64 n, told, v] 94 (0, 0))) (hr : w.ownsRow base 9 1 v xs.length (strs xs))
    (hbase : base ≤ w.heap.size) (hlen : xs.length < 1000000) :
    Calls Tryz.prog 49 #[.pointer (some ⟨b, 0, none⟩), .string x] w fun e w' => e = .returned (.string (trd n x)) ∧
      ∃ v' w1, w' = w1.setCell ⟨b, 2, none⟩ v' ∧ w1.ownsRow base 9 1 v' (xs.length + 1) (strs xs ++ [.string x]) ∧ (w.alloc (.cells #[.string x] 9)).grownBy w1 v.ownBlock ∧ (v'.ownBlock = v.ownBlock ∨ v'.ownBlock = some (w.heap.size + 1)) := by
  have hc1 := heap_cell hh 2
  simp only [List.getElem?_toArray, List.getElem?_cons_zero, List.getElem?_cons_succ] at hc1
  have hf1 := heap_frozen hh 2
  have hbl := heap_lt hh
  have hne : some b ≠ v.ownBlock := row_ne hh hr
  clear hh
  obtain ⟨i0, hi, hz0, hz1, hz2⟩ := info_parts Tryz.infoStr
  by_cases hbig : (100 : Int) < (x.size : Int)
  · have et : trd n x = ⟨#[]⟩ := by unfold trd; rw [if_pos hbig]
    rw [et]
    clear et
    go_enter Tryz.func49, Tryz.ntmps49
    go_wp2_with (at_builtin; refine wpList_append_own_at _ rfl _ _ 72 rfl base 9 i0 (.string ⟨#[]⟩) 1 16 Tryz.underlying72 hi hz0 hz1 hz2 rfl (by decide) _ _ _ rfl (hr.alloc _) ⟨w.heap.size, 0, none⟩ 1 1 [.string x] rfl rfl (cell_one_new _ _ _) (by simp [Value.oneCell']) (by simp [maxLen]; omega) (by omega) (by simp; omega) ?_)
    intro v' w1 hown' hgrow _ hat
    obtain ⟨g', cap', rfl⟩ := ownsRow_succ hown'
    have hcw : w1.cell? ⟨b, 2, none⟩ = some v := hgrow.cell (a := ⟨b, 2, none⟩) ((World.grownBy_alloc w _ none).cell (a := ⟨b, 2, none⟩) hc1 (by simp)) hne
    have hfw : w1.frozen? ⟨b, 2, none⟩ = false := by
      rw [World.frozen?_of_block (w := w.alloc (.cells #[.string x] 9)) (hgrow.block b (by simp; omega) hne), World.frozen?_of_block (w := w) (Below.heap_alloc _ _ b hbl)]
      exact hf1
    go_wp2
    go_ret
    exact ⟨rfl, _, w1, rfl, hown', hgrow, by simpa using hat⟩
  · have et : trd n x = x ++ ⟨#[43]⟩ := by unfold trd; rw [if_neg hbig]
    rw [et]
    clear et
    go_enter Tryz.func49, Tryz.ntmps49
    go_wp2_with (at_builtin; refine wpList_append_own_at _ rfl _ _ 72 rfl base 9 i0 (.string ⟨#[]⟩) 1 16 Tryz.underlying72 hi hz0 hz1 hz2 rfl (by decide) _ _ _ rfl (hr.alloc _) ⟨w.heap.size, 0, none⟩ 1 1 [.string x] rfl rfl (cell_one_new _ _ _) (by simp [Value.oneCell']) (by simp [maxLen]; omega) (by omega) (by simp; omega) ?_)
    intro v' w1 hown' hgrow _ hat
    obtain ⟨g', cap', rfl⟩ := ownsRow_succ hown'
    have hcw : w1.cell? ⟨b, 2, none⟩ = some v := hgrow.cell (a := ⟨b, 2, none⟩) ((World.grownBy_alloc w _ none).cell (a := ⟨b, 2, none⟩) hc1 (by simp)) hne
    have hfw : w1.frozen? ⟨b, 2, none⟩ = false := by
      rw [World.frozen?_of_block (w := w.alloc (.cells #[.string x] 9)) (hgrow.block b (by simp; omega) hne), World.frozen?_of_block (w := w) (Below.heap_alloc _ _ b hbl)]
      exact hf1
    go_wp2
    go_ret
    exact ⟨rfl, _, w1, rfl, hown', hgrow, by simpa using hat⟩

end Go.Proofs.YtcjblafohfiiaabGreat.Tx

/-
  Map, over the turner: texts.
-/
set_option linter.unusedVariables false
namespace Go.Proofs.YtcjblafohfiiaabGreat.Tx
open Go.RowKit Go.Shelf

/-- The array behind k steps. -/
def mpd (n : Int) (ts : List ByteArray) (f k : Nat) : List ByteArray := ts.mapIdx fun i x => if f ≤ i ∧ i < f + k then trd n x else x

theorem mpd_length (n : Int) (ts : List ByteArray) (f k : Nat) : (mpd n ts f k).length = ts.length := by simp [mpd]

theorem mpd_get (n : Int) (ts : List ByteArray) (f k i : Nat) : (mpd n ts f k)[i]? = (ts[i]?).map fun x => if f ≤ i ∧ i < f + k then trd n x else x := by
  simp [mpd, List.getElem?_mapIdx]

theorem mpd_zero (n : Int) (ts : List ByteArray) (f : Nat) : mpd n ts f 0 = ts := by
  apply List.ext_getElem?
  intro i
  rw [mpd_get]
  have : ¬ (f ≤ i ∧ i < f + 0) := by omega
  simp only [this, if_false]
  cases ts[i]? <;> rfl

theorem mpd_succ {n : Int} {x : ByteArray} {ts : List ByteArray} {f k : Nat} (hx : ts[f + k]? = some x) : (mpd n ts f k).set (f + k) (trd n x) = mpd n ts f (k + 1) := by
  have hl := (List.getElem?_eq_some_iff.1 hx).1
  apply List.ext_getElem?
  intro i
  rw [List.getElem?_set, mpd_get, mpd_get, mpd_length]
  by_cases h : f + k = i
  · subst h
    rw [if_pos rfl, if_pos hl, hx]
    have : f ≤ f + k ∧ f + k < f + (k + 1) := by omega
    simp [this]
  · rw [if_neg h]
    congr 1
    funext y
    by_cases h1 : f ≤ i ∧ i < f + k
    · rw [if_pos h1, if_pos (by omega)]
    · rw [if_neg h1, if_neg (by omega)]

theorem mpd_end (n : Int) (ts : List ByteArray) (f : Nat) : (mpd n ts f (ts.length - f)).drop f = (ts.drop f).map (trd n) := by
  apply List.ext_getElem?
  intro i
  rw [List.getElem?_drop, mpd_get, List.getElem?_map, List.getElem?_drop]
  by_cases h : f + i < ts.length
  · have : f ≤ f + i ∧ f + i < f + (ts.length - f) := by omega
    simp [this]
  · rw [List.getElem?_eq_none (by omega)]; rfl

/-- What is there behind k steps: the holder's cells C, the array, the turner, what it noted (P ahead of these steps). -/
structure Mst (w W : World) (G : List Nat) (bq : Nat) (C : Array Value) (ty g cap f : Nat) (n : Int) (told : Value) (P ts : List ByteArray) (tb base k : Nat) (sv : Value) : Prop where
  q : W.heap[bq]? = some (.cells C ty (0, 0))
  r : W.ownsRow base 9 1 (.slice (some ⟨g, 0, none⟩) ts.length cap) ts.length (strs (mpd n ts f k))
  t : W.heap[tb]? = some (.cells #[.int .i64 n, told, sv] 94 (0, 0))
  s : W.ownsRow base 9 1 sv (P.length + k) (strs (P ++ (ts.drop f).take k))
  new : ∀ b, sv.ownBlock = some b → b ∈ G ∨ w.heap.size ≤ b
  ng : some g ≠ sv.ownBlock
  nb : some bq ≠ sv.ownBlock
  ht : Touch G w W

theorem Mst.step {w W w1 : World} {G : List Nat} {bq : Nat} {C : Array Value} {ty g cap f tb base k : Nat} {n : Int} {x : ByteArray} {told sv v' : Value} {P ts : List ByteArray} (h : Mst w W G bq C ty g cap f n told P ts tb base k sv) (hg : g < w.heap.size) (hbq : bq < w.heap.size) (hgt : g ≠ tb) (hbt : bq ≠ tb) (hbg : bq ≠ g) (hG : g ∈ G ∧ tb ∈ G) (hx : ts[f + k]? = some x) (hk : k < ts.length - f)
    (hown : w1.ownsRow base 9 1 v' (P.length + k + 1) (strs (P ++ (ts.drop f).take k) ++ [.string x])) (hgrow : (W.alloc (.cells #[.string x] 9)).grownBy w1 sv.ownBlock) (hat : v'.ownBlock = sv.ownBlock ∨ v'.ownBlock = some (W.heap.size + 1)) :
    (w1.setCell ⟨tb, 2, none⟩ v').heap[bq]? = some (.cells C ty (0, 0)) ∧ (w1.setCell ⟨tb, 2, none⟩ v').cell? ⟨g, f + k, none⟩ = some (.string x) ∧ (w1.setCell ⟨tb, 2, none⟩ v').frozen? ⟨g, f + k, none⟩ = false ∧
      Mst w ((w1.setCell ⟨tb, 2, none⟩ v').setCell ⟨g, f + k, none⟩ (.string (trd n x))) G bq C ty g cap f n told P ts tb base (k + 1) v' := by
  have hsg := h.ng
  have hsb := h.nb
  have htl := heap_lt h.t
  have hst : some tb ≠ sv.ownBlock := row_ne h.t h.s
  have hz := h.ht.size
  have b1 : ∀ c o, W.heap[c]? = some o → some c ≠ sv.ownBlock → w1.heap[c]? = some o := fun c o hc hn => by
    rw [hgrow.block c (by have := heap_lt hc; simp; omega) hn]; exact (Below.heap_alloc W _ c (heap_lt hc)).trans hc
  have hq1 := b1 bq _ h.q hsb
  have ht1 := b1 tb _ h.t hst
  have ta : Touch (sv.ownBlock.toList) W w1 := (Touch.alloc _ _ _).trans (Touch.grown hgrow (fun k hk => by simp [hk]))
  have hr1 : w1.ownsRow base 9 1 (.slice (some ⟨g, 0, none⟩) ts.length cap) ts.length (strs (mpd n ts f k)) := row_keep2 h.r ta (fun k hk hm => by
    simp [Value.ownBlock] at hk hm
    subst hk
    exact hsg hm.symm)
  have hr2 := ownsRow_setOther hr1 (a := ⟨tb, 2, none⟩) (by simpa [Value.ownBlock] using (Ne.symm hgt)) v'
  have hfl : f + k < ts.length := by omega
  have hcx : (w1.setCell ⟨tb, 2, none⟩ v').cell? ⟨g, f + k, none⟩ = some (.string x) := by
    rw [hr2.cellAt _ (by omega)]
    have e : (mpd n ts f k)[f + k]? = some x := by
      rw [mpd_get, hx]
      have : ¬ (f ≤ f + k ∧ f + k < f + k) := by omega
      simp
    simp [strs, e]
  have hr3 := (hr2.stored (f + k) (.string (trd n x))).1
  have e3 : (strs (mpd n ts f k)).set (f + k) (.string (trd n x)) = strs (mpd n ts f (k + 1)) := by rw [← mpd_succ hx]; simp [strs, List.map_set]
  rw [e3] at hr3
  have hv' : ∀ b, v'.ownBlock = some b → b ∈ G ∨ w.heap.size ≤ b := fun b hb => by
    rcases hat with e | e
    · rw [e] at hb; exact h.new b hb
    · rw [e] at hb; simp only [Option.some.injEq] at hb; exact .inr (by omega)
  have hv'g : some g ≠ v'.ownBlock := fun e => by
    rcases hat with e' | e'
    · rw [e'] at e; exact hsg e
    · rw [e'] at e; simp only [Option.some.injEq] at e; omega
  have hv'b : some bq ≠ v'.ownBlock := fun e => by
    rcases hat with e' | e'
    · rw [e'] at e; exact hsb e
    · rw [e'] at e; simp only [Option.some.injEq] at e; omega
  have hv't : some tb ≠ v'.ownBlock := row_ne ht1 hown
  have hq2 : (w1.setCell ⟨tb, 2, none⟩ v').heap[bq]? = some (.cells C ty (0, 0)) := by rw [Below.heap_setCell _ _ _ _ hbt]; exact hq1
  refine ⟨hq2, hcx, hr2.frozenAt _, ?_, hr3, ?_, ?_, hv', hv'g, hv'b, ?_⟩
  · rw [Below.heap_setCell _ _ _ _ hbg]; exact hq2
  · rw [Below.heap_setCell _ _ _ _ (Ne.symm hgt), heap_set ht1]; rfl
  · have e : strs (P ++ (ts.drop f).take k) ++ [.string x] = strs (P ++ (ts.drop f).take (k + 1)) := by
      rw [List.take_add_one, List.getElem?_drop, hx]; simp [strs]
    rw [e] at hown
    exact ownsRow_setOther (ownsRow_setOther hown (a := ⟨tb, 2, none⟩) hv't v') (a := ⟨g, f + k, none⟩) hv'g _
  · have t1 : Touch (tb :: g :: sv.ownBlock.toList) W ((w1.setCell ⟨tb, 2, none⟩ v').setCell ⟨g, f + k, none⟩ (.string (trd n x))) := ((ta.mono (fun k hk => .inl (by simp [hk]))).trans (Touch.setCell _ _ _ (by simp))).trans (Touch.setCell _ _ _ (by simp))
    refine h.ht.then t1 (fun y hy => ?_)
    simp only [List.mem_cons] at hy
    rcases hy with rfl | rfl | hy
    · exact .inl hG.2
    · exact .inl hG.1
    · exact h.new y (by simpa using hy)

set_option maxHeartbeats 2000000 in
theorem map_core (bq g cap f tb base : Nat) (m n : Int) (told : Value) (ts : List ByteArray) (w : World) (h0 : Mst w w [g, tb] bq #[.slice (some ⟨g, 0, none⟩) ts.length cap, .int .i64 f, .int .i64 m] 125 g cap f n told [] ts tb base 0 (.slice none 0 0)) (hbase : base ≤ w.heap.size) (hf : f ≤ ts.length) (hlen : ts.length < 1000000) (hgt : g ≠ tb) (hbt : bq ≠ tb) (hbg : bq ≠ g) :
    Calls Tryz.prog 48 #[.pointer (some ⟨bq, 0, none⟩), .func (.func 49) #[.pointer (some ⟨tb, 0, none⟩)] #[]] w fun e w' => e = .returned (.tuple #[]) ∧ ∃ sv, Mst w w' [g, tb] bq #[.slice (some ⟨g, 0, none⟩) ts.length cap, .int .i64 f, .int .i64 m] 125 g cap f n told [] ts tb base (ts.length - f) sv := by
  have c0 := heap_cell h0.q 0
  have c1 := heap_cell h0.q 1
  simp only [List.getElem?_toArray, List.getElem?_cons_zero, List.getElem?_cons_succ] at c0 c1
  have hbq := heap_lt h0.q
  have hcm : ts.length ≤ cap ∧ cap ≤ maxLen ∧ g < w.heap.size := by
    rcases h0.r.2 with ⟨e, _⟩ | ⟨g', cap', cur, e, _, hg, hn, hm, _⟩
    · cases e
    · simp only [Value.slice.injEq, Option.some.injEq, Addr.mk.injEq, and_true] at e
      obtain ⟨rfl, -, rfl⟩ := e
      exact ⟨hn, hm, heap_lt hg⟩
  obtain ⟨hc1, hc2, hg⟩ := hcm
  have hhe := held_some bq g cap ts.length f w c0 c1 hf hc1 hc2
  have Hst : Hid (∀ {W w1 : World} {k : Nat} {x : ByteArray} {sv v' : Value}, Mst w W [g, tb] bq #[.slice (some ⟨g, 0, none⟩) ts.length cap, .int .i64 f, .int .i64 m] 125 g cap f n told [] ts tb base k sv → ts[f + k]? = some x → k < ts.length - f → w1.ownsRow base 9 1 v' (k + 1) (strs ((ts.drop f).take k) ++ [.string x]) → (W.alloc (.cells #[.string x] 9)).grownBy w1 sv.ownBlock → (v'.ownBlock = sv.ownBlock ∨ v'.ownBlock = some (W.heap.size + 1)) →
      (w1.setCell ⟨tb, 2, none⟩ v').cell? ⟨g, f + k, none⟩ = some (.string x) ∧ (w1.setCell ⟨tb, 2, none⟩ v').frozen? ⟨g, f + k, none⟩ = false ∧
      Mst w ((w1.setCell ⟨tb, 2, none⟩ v').setCell ⟨g, f + k, none⟩ (.string (trd n x))) [g, tb] bq #[.slice (some ⟨g, 0, none⟩) ts.length cap, .int .i64 f, .int .i64 m] 125 g cap f n told [] ts tb base (k + 1) v') := fun hm hx hk hown hgrow hat =>
    (hm.step hg hbq hgt hbt hbg ⟨by simp, by simp⟩ hx hk (by simpa using hown) hgrow hat).2
  by_cases hfl : f < ts.length
  · rw [if_neg (by omega)] at hhe
    obtain ⟨L, hL⟩ : ∃ L, L = ts.length - f := ⟨_, rfl⟩
    rw [← hL] at hhe ⊢
    have HL : Hid (L = ts.length - f) := hL
    have hL1 : L < 1000000 := by omega
    have hcf : L ≤ cap - f := by omega
    clear hL c0 c1
    go_enter Tryz.func48, Tryz.ntmps48
    go_wp2_with fail
    refine hhe.mono ?_
    rintro e w' ⟨rfl, nq, rfl⟩
    clear hhe
    go_wp2
    go_loopw [11] (fun i wr => ∃ (k : Nat) (sv : Value), k ≤ L ∧ i = .int .i64 k ∧ Mst w wr [g, tb] bq #[.slice (some ⟨g, 0, none⟩) ts.length cap, .int .i64 f, .int .i64 m] 125 g cap f n told [] ts tb base k sv) (fun i _ => L - (intOf i).toNat)
    case atStart => exact ⟨0, _, Nat.zero_le _, rfl, h0.q, h0.r, h0.t, h0.s, h0.new, h0.ng, h0.nb, h0.ht.trans (Touch.drewN _ _ _)⟩
    case round =>
      obtain ⟨k, sv, hk, rfl, hm⟩ := hrel
      have Hm : Hid (Mst w wr [g, tb] bq #[.slice (some ⟨g, 0, none⟩) ts.length cap, .int .i64 f, .int .i64 m] 125 g cap f n told [] ts tb base k sv) := hm
      by_cases hlt : k < L
      · have hki : (k : Int) < (L : Int) := by omega
        have hkl : f + k < ts.length := by have := HL.out; omega
        obtain ⟨x, hx⟩ : ∃ x, ts[f + k]? = some x := ⟨_, List.getElem?_eq_getElem hkl⟩
        have hcx : wr.cell? ⟨g, f + k, none⟩ = some (.string x) := by
          rw [hm.r.cellAt _ (by omega)]
          have e : (mpd n ts f k)[f + k]? = some x := by
            rw [mpd_get, hx]
            simp
          simp [strs, e]
        have hkd : k = ((ts.drop f).take k).length := by simp; omega
        have hof := of_core tb base n x sv told ((ts.drop f).take k) wr hm.t (by rw [← hkd]; simpa using hm.s) (by have := hm.ht.size; omega) (by rw [← hkd]; omega)
        rw [← hkd] at hof
        have Hx : Hid (ts[f + k]? = some x) := hx
        clear hm hx hkd
        go_wp2_with fail
        refine hof.mono ?_
        rintro e w2 ⟨rfl, v', w1, rfl, hown, hgrow, hat⟩
        obtain ⟨d1, d2, hm'⟩ := Hst.out Hm.out Hx.out (by have := HL.out; omega) hown hgrow hat
        clear hof hcx hown hgrow hat Hm
        go_wp2
        exact ⟨⟨k + 1, v', hlt, by go_num, hm'⟩, by simp [intOf]; omega⟩
      · obtain rfl : k = L := by omega
        go_wp2
        go_returns
        exact ⟨rfl, sv, Hm.out⟩
  · have hz : ts.length - f = 0 := by omega
    rw [hz] at hhe ⊢
    generalize (if cap = f then (⟨g, 0, none⟩ : Addr) else ⟨g, f, none⟩) = a at hhe
    go_enter Tryz.func48, Tryz.ntmps48
    go_wp2_with fail
    refine hhe.mono ?_
    rintro e w' ⟨rfl, nq, rfl⟩
    go_wp2
    go_rounds 1
    go_returns
    exact ⟨rfl, _, h0.q, h0.r, h0.t, h0.s, h0.new, h0.ng, h0.nb, h0.ht.trans (Touch.drewN _ _ _)⟩

end Go.Proofs.YtcjblafohfiiaabGreat.Tx

/-
  One step of a queue of numbers: Map.
-/
set_option linter.unusedVariables false
namespace Go.Proofs.YtcjblafohfiiaabGreat.Tx
open Go.RowKit Go.Shelf

set_option maxHeartbeats 1000000 in
theorem map_nil (bq : Nat) (fv : Value) (w : World) (h0 : w.cell? ⟨bq, 0, none⟩ = some (.slice none 0 0)) (h1 : w.cell? ⟨bq, 1, none⟩ = some (.int .i64 0)) :
    Calls Tryz.prog 48 #[.pointer (some ⟨bq, 0, none⟩), fv] w fun e w' => e = .returned (.tuple #[]) ∧ ∃ nq, w' = w.drewN nq := by
  go_enter Tryz.func48, Tryz.ntmps48
  go_wp2_with fail
  refine (held_nil bq w h0 h1).mono ?_
  rintro e w' ⟨rfl, nq, rfl⟩
  go_wp2
  go_rounds 1
  go_returns
  exact ⟨rfl, _, rfl⟩

theorem map_any (bq tb base N : Nat) (m n : Int) (told : Value) (xs : List ByteArray) (F : List Nat) (w : World) (hq : Que w base bq m N xs F) (ht : w.heap[tb]? = some (.cells #[.int .i64 n, told, .slice none 0 0] 94 (0, 0))) (htF : tb ∉ F) (hbase : base ≤ w.heap.size) (hN : N < 1000000) :
    Calls Tryz.prog 48 #[.pointer (some ⟨bq, 0, none⟩), .func (.func 49) #[.pointer (some ⟨tb, 0, none⟩)] #[]] w fun e w' => e = .returned (.tuple #[]) ∧ ∃ sv, Que w' base bq m N (xs.map (trd n)) F ∧
      w'.heap[tb]? = some (.cells #[.int .i64 n, told, sv] 94 (0, 0)) ∧ w'.ownsRow base 9 1 sv xs.length (strs xs) ∧ (∀ k, sv.ownBlock = some k → w.heap.size ≤ k) ∧ Touch (tb :: F) w w' := by
  obtain ⟨v, ts, f, hh, hb, hr, hf, hd, hn, rfl⟩ := hq
  rcases id hr.2 with ⟨rfl, hz⟩ | ⟨g, cap, cur, rfl, hbg, hg, hnc, hm, hcs, htk⟩
  · obtain rfl : ts = [] := List.eq_nil_of_length_eq_zero hz
    obtain rfl : f = 0 := by simpa using hf
    obtain rfl : xs = [] := by simpa using hd.symm
    have c0 := heap_cell hh 0
    have c1 := heap_cell hh 1
    simp only [List.getElem?_toArray, List.getElem?_cons_zero, List.getElem?_cons_succ] at c0 c1
    refine (map_nil bq _ w c0 c1).mono ?_
    rintro e w' ⟨rfl, nq, rfl⟩
    exact ⟨rfl, .slice none 0 0, ⟨_, [], 0, hh, hb, hr, Nat.le_refl _, rfl, hn, rfl⟩, ht, World.ownsRow_nil _ _ _ _, fun k h => by simp [Value.ownBlock] at h, Touch.drewN _ _ _⟩
  · have hbg' : bq ≠ g := fun e => absurd (by simp [Value.ownBlock, e]) (row_ne hh hr)
    have htq : tb ≠ bq := fun e => htF (by simp [e])
    have htg : tb ≠ g := fun e => htF (by simp [Value.ownBlock, e])
    have h0 : Mst w w [g, tb] bq #[.slice (some ⟨g, 0, none⟩) ts.length cap, .int .i64 f, .int .i64 m] 125 g cap f n told [] ts tb base 0 (.slice none 0 0) := ⟨hh, by rw [mpd_zero]; exact hr, ht, by simpa using World.ownsRow_nil w base 9 1, fun b hb => by simp [Value.ownBlock] at hb, by simp [Value.ownBlock], by simp [Value.ownBlock], Touch.refl _ _⟩
    refine (map_core bq g cap f tb base m n told ts w h0 hbase hf (by omega) htg.symm htq.symm hbg').mono ?_
    rintro e w' ⟨rfl, sv, hm'⟩
    have hxl : ts.length - f = xs.length := by rw [← hd]; simp
    have hs := hm'.s
    rw [List.take_of_length_le (by simp), hd, hxl] at hs
    have hst := row_ne hm'.t hm'.s
    refine ⟨rfl, sv, ⟨_, mpd n ts f (ts.length - f), f, hm'.q, hb, by rw [mpd_length]; exact hm'.r, by rw [mpd_length]; exact hf, by rw [mpd_end, hd], by rw [mpd_length]; exact hn, rfl⟩, hm'.t, by simpa using hs, fun k hk => ?_, hm'.ht.mono (fun k hk => .inl ?_)⟩
    · rcases hm'.new k hk with h | h
      · simp at h
        rcases h with rfl | rfl
        · exact absurd hk.symm hm'.ng
        · exact absurd hk.symm hst
      · exact h
    · simp [Value.ownBlock] at hk ⊢
      rcases hk with rfl | rfl
      · simp
      · simp

set_option maxRecDepth 20000 in
set_option maxHeartbeats 4000000 in
theorem qo_map (d i bs br base N : Nat) (m : Int) (xs : List ByteArray) (F : List Nat) (sec : Bool) (n wd : Int) (s : ByteArray) (stop : Int) (w : World) (hi : i < 2) (hp : PQ w base bs br N m xs F) (hbase : base ≤ w.heap.size) (hN : N < 1000000) (hlen : xs.length < 100000)
    (hc : w.cell? ⟨d, 4 + i, none⟩ = some (.pointer (some ⟨bs, 0, none⟩))) (hcr : w.cell? ⟨d, 14 + i, none⟩ = some (.pointer (some ⟨br, 0, none⟩))) :
    Calls Tryz.prog 20 #[.pointer (some ⟨d, 0, none⟩), .agg (opv 12 sec n wd s stop), .int .i64 i] w fun e w' => e = .returned (.bool true) ∧ ∃ F', PQ w' base bs br N m (xs.map (trd 0)) F' ∧ Touch F w w' ∧ Newer w.heap.size F F' := by
  obtain ⟨Fs, Fr, hs, hn, hap, rfl⟩ := hp
  have hi' : (i : Int) < 2 := by omega
  have hdl : d < w.heap.size := World.block_lt_of_cell? _ _ hc
  have ha : Touch [] w ((w.alloc (.cells (opv 12 sec n wd s stop) 31)).alloc (.cells #[.int .i64 0, .slice none 0 0, .slice none 0 0] 94)) := (Touch.alloc _ _ _).trans (Touch.alloc _ _ _)
  have hs0 := hs.keep ha (by intro k _ h; simp at h)
  have hn0 := hn.keep ha (by intro k _ h; simp at h)
  have bT := heap_alloc_new (w.alloc (.cells (opv 12 sec n wd s stop) 31)) (.cells #[.int .i64 0, .slice none 0 0, .slice none 0 0] 94 (0, 0))
  have hzz : (w.alloc (.cells (opv 12 sec n wd s stop) 31)).heap.size = w.heap.size + 1 := by simp
  rw [hzz] at bT
  have htF : w.heap.size + 1 ∉ Fs := fun h => by have := (hs.mem _ h).2; omega
  have hmp := map_any bs (w.heap.size + 1) base N m 0 (.slice none 0 0) xs Fs _ hs0 bT htF (by simp; omega) hN
  go_enter Tryz.func20, Tryz.ntmps20
  go_wp2_with fail
  refine hmp.mono ?_
  rintro e w2 ⟨rfl, sv, hq2, bT2, hsv, hnew, hT2⟩
  clear hmp
  have hn2 := hn0.keep hT2 (fun k hk hm => by
    rcases List.mem_cons.1 hm with h | h
    · have := (hn.mem _ hk).2; omega
    · exact hap k h hk)
  have hTT : Touch (Fs ++ Fr) w w2 := (ha.mono (by simp)).then hT2 (fun k hk => by
    rcases List.mem_cons.1 hk with h | h
    · exact .inr (by omega)
    · exact .inl (by simp [h]))
  have hnew2 : ∀ k, sv.ownBlock = some k → w.heap.size + 2 ≤ k := fun k hk => by have := hnew k hk; simp at this; omega
  obtain ⟨v2, hh2, hb2, hr2, hF2⟩ := hn2
  have cT := heap_cell bT2 2
  have c2 := heap_cell hh2 0
  simp only [List.getElem?_toArray, List.getElem?_cons_zero, List.getElem?_cons_succ] at cT c2
  have hv := slice_of_row hsv rfl (Nat.le_refl w2.heap.size)
  have hv2 := slice_of_row hr2 rfl (Nat.le_refl w2.heap.size)
  have hsame : ∀ q, Calls Tryz.prog 50 #[sv, v2] (w2.drewN q) fun e w' => e = .returned (.bool true) ∧ ∃ nq, w' = (w2.drewN q).drewN nq := fun q => sameInts_any sv v2 w2.heap.size w2.heap.size xs (w2.drewN q) (by omega) hv hv2
  clear hv hv2 ha hs0 hn0 bT hzz htF hnew
  go_wp2_with fail
  go_quiet ((go_at_call 50; exact Calls.quiet_of (hsame _)))
  go_upto_region 15 with fail
  clear hsame cT c2
  have hq3 := hq2.keep (Touch.drewN [] w2 nq) (by intro k _ h; simp at h)
  have hT3 : Touch (Fs ++ Fr) w (w2.drewN nq) := hTT.trans (Touch.drewN _ _ _)
  have hh3 : (w2.drewN nq).heap[br]? = some (.cells #[v2, .int .i64 m] 79 (0, 0)) := hh2
  have hr3 : (w2.drewN nq).ownsRow base 9 1 v2 xs.length (strs xs) := hr2
  have bT3 : (w2.drewN nq).heap[w.heap.size + 1]? = some (.cells #[.int .i64 0, .slice none 0 0, sv] 94 (0, 0)) := bT2
  have hs3 : (w2.drewN nq).ownsRow base 9 1 sv xs.length (strs xs) := hsv
  have hbr : br < w.heap.size := (hn.mem br (by rw [hF2]; simp)).2
  clear hq2 hTT hh2 hr2 bT2 hT2 hsv
  generalize w2.drewN nq = w3 at hq3 hT3 hh3 hr3 bT3 hs3 ⊢
  have hzw : w.heap.size ≤ w3.heap.size := hT3.size
  rcases id hr3.2 with ⟨rfl, h0⟩ | ⟨gr, capr, cur, rfl, hgb, hgg, hgn, hgm, hgs, hgt⟩
  · obtain rfl : xs = [] := List.eq_nil_of_length_eq_zero h0
    have c2 := heap_cell hh3 0
    simp only [List.getElem?_toArray, List.getElem?_cons_zero] at c2
    clear bT3 hs3
    go_wp2
    go_rounds 1
    go_ret
    exact ⟨rfl, Fs ++ Fr, ⟨Fs, Fr, hq3, ⟨_, hh3, hb2, hr3, hF2⟩, hap, rfl⟩, hT3, Newer.refl _ _⟩
  · have hgF : gr ∈ Fr := by rw [hF2]; simp [Value.ownBlock]
    have hgw := (hn.mem _ hgF).2
    have hbg : br ≠ gr := fun e => absurd (by simp [Value.ownBlock, e]) (row_ne hh3 hr3)
    have hM0 : Mst w3 w3 (gr :: (w.heap.size + 1) :: sv.ownBlock.toList) br #[.slice (some ⟨gr, 0, none⟩) xs.length capr, .int .i64 m] 79 gr capr 0 0 (.slice none 0 0) xs xs (w.heap.size + 1) base 0 sv := ⟨hh3, by rw [mpd_zero]; exact hr3, bT3, by simpa using hs3, fun b hb => .inl (by simp [hb]), fun e => by have := hnew2 gr e.symm; omega, fun e => by have := hnew2 br e.symm; omega, Touch.refl _ _⟩
    have hG : gr ∈ (gr :: (w.heap.size + 1) :: sv.ownBlock.toList) ∧ w.heap.size + 1 ∈ (gr :: (w.heap.size + 1) :: sv.ownBlock.toList) := ⟨by simp, by simp⟩
    have hfin : Hid (∀ k, k ∈ (gr :: (w.heap.size + 1) :: sv.ownBlock.toList) → k = gr ∨ w.heap.size ≤ k) := fun k hk => by
      simp only [List.mem_cons] at hk
      rcases hk with h | h | h
      · exact .inl h
      · exact .inr (by omega)
      · exact .inr (by have := hnew2 k (by simpa using h); omega)
    have Hst : Hid (∀ {W w1 : World} {k : Nat} {x : ByteArray} {sw v' : Value}, Mst w3 W (gr :: (w.heap.size + 1) :: sv.ownBlock.toList) br #[.slice (some ⟨gr, 0, none⟩) xs.length capr, .int .i64 m] 79 gr capr 0 0 (.slice none 0 0) xs xs (w.heap.size + 1) base k sw → xs[0 + k]? = some x → k < xs.length - 0 → w1.ownsRow base 9 1 v' (xs.length + k + 1) (strs (xs ++ (xs.drop 0).take k) ++ [.string x]) → (W.alloc (.cells #[.string x] 9)).grownBy w1 sw.ownBlock → (v'.ownBlock = sw.ownBlock ∨ v'.ownBlock = some (W.heap.size + 1)) →
        (w1.setCell ⟨w.heap.size + 1, 2, none⟩ v').heap[br]? = some (.cells #[.slice (some ⟨gr, 0, none⟩) xs.length capr, .int .i64 m] 79 (0, 0)) ∧ (w1.setCell ⟨w.heap.size + 1, 2, none⟩ v').cell? ⟨gr, 0 + k, none⟩ = some (.string x) ∧ (w1.setCell ⟨w.heap.size + 1, 2, none⟩ v').frozen? ⟨gr, 0 + k, none⟩ = false ∧
        Mst w3 ((w1.setCell ⟨w.heap.size + 1, 2, none⟩ v').setCell ⟨gr, 0 + k, none⟩ (.string (trd 0 x))) (gr :: (w.heap.size + 1) :: sv.ownBlock.toList) br #[.slice (some ⟨gr, 0, none⟩) xs.length capr, .int .i64 m] 79 gr capr 0 0 (.slice none 0 0) xs xs (w.heap.size + 1) base (k + 1) v') := fun hm hx hk hown hgrow hat =>
      hm.step (by omega) (by omega) (by omega) (by omega) hbg hG hx hk hown hgrow hat
    generalize hGG : gr :: (w.heap.size + 1) :: sv.ownBlock.toList = G at hM0 hfin Hst
    clear hGG hgb hgg hgs hgt hG bT3 hs3 hnew2 hr3
    have Hh3 : Hid (w3.heap[br]? = some (.cells #[.slice (some ⟨gr, 0, none⟩) xs.length capr, .int .i64 m] 79 (0, 0))) := hh3
    clear hh3
    go_wp2
    go_loopw [16] (fun iv wr => ∃ (k : Nat) (sw : Value), k ≤ xs.length ∧ iv = .int .i64 k ∧ Mst w3 wr G br #[.slice (some ⟨gr, 0, none⟩) xs.length capr, .int .i64 m] 79 gr capr 0 0 (.slice none 0 0) xs xs (w.heap.size + 1) base k sw) (fun iv _ => xs.length - (intOf iv).toNat)
    case atStart => exact ⟨0, sv, Nat.zero_le _, rfl, hM0⟩
    case round =>
      obtain ⟨k, sw, hk, rfl, hm⟩ := hrel
      have c2 := heap_cell hm.q 0
      simp only [List.getElem?_toArray, List.getElem?_cons_zero] at c2
      by_cases hlt : k < xs.length
      · have hki : (k : Int) < (xs.length : Int) := by omega
        obtain ⟨x, hx⟩ : ∃ x, xs[k]? = some x := ⟨_, List.getElem?_eq_getElem hlt⟩
        have hcx : wr.cell? ⟨gr, k, none⟩ = some (.string x) := by
          rw [hm.r.cellAt _ (by omega)]
          have e : (mpd 0 xs 0 k)[k]? = some x := by
            rw [mpd_get, hx]
            simp
          simp [strs, e]
        have hmd : Mst w3 wr.drew G br #[.slice (some ⟨gr, 0, none⟩) xs.length capr, .int .i64 m] 79 gr capr 0 0 (.slice none 0 0) xs xs (w.heap.size + 1) base k sw := ⟨hm.q, hm.r, hm.t, hm.s, hm.new, hm.ng, hm.nb, hm.ht.trans (Touch.drew _ _)⟩
        have hkd : xs.length + k = (xs ++ (xs.drop 0).take k).length := by simp; omega
        have hof := of_core (w.heap.size + 1) base 0 x sw (.slice none 0 0) (xs ++ (xs.drop 0).take k) wr.drew hmd.t (by rw [← hkd]; exact hmd.s) (by have := hmd.ht.size; omega) (by rw [← hkd]; omega)
        rw [← hkd] at hof
        have Hmd : Hid (Mst w3 wr.drew G br #[.slice (some ⟨gr, 0, none⟩) xs.length capr, .int .i64 m] 79 gr capr 0 0 (.slice none 0 0) xs xs (w.heap.size + 1) base k sw) := hmd
        have Hx : Hid (xs[0 + k]? = some x) := by rw [Nat.zero_add]; exact hx
        clear hm hmd hx hkd
        go_wp2_with fail
        go_region_with (go_at_call 49; refine hof.mono ?_; rintro e w5 ⟨rfl, v', w4, rfl, hown, hgrow, hat⟩; obtain ⟨q5, d1, d2, hm'⟩ := Hst.out Hmd.out Hx.out (by omega) hown hgrow hat; have c5 := heap_cell q5 0; clear q5; simp only [List.getElem?_toArray, List.getElem?_cons_zero] at c5; simp only [Nat.zero_add] at d1 d2 hm')
        all_goals
          go_wp2
          exact ⟨⟨k + 1, v', hlt, by go_num, hm'⟩, by simp [intOf]; omega⟩
      · obtain rfl : k = xs.length := by omega
        have hrr := hm.r
        have e : mpd 0 xs 0 xs.length = xs.map (trd 0) := by simpa using mpd_end 0 xs 0
        rw [e] at hrr
        have hq4 := hq3.keep hm.ht (fun j hj hmem => by
          rcases hfin.out j hmem with h | h
          · subst h; exact hap j hj hgF
          · have := (hs.mem j hj).2; omega)
        have hT4 : Touch (Fs ++ Fr) w wr := hT3.then hm.ht (fun j hj => by
          rcases hfin.out j hj with h | h
          · subst h; exact .inl (by simp [hgF])
          · exact .inr h)
        have hhr := hm.q
        clear hm
        go_wp2
        go_ret
        exact ⟨rfl, Fs ++ Fr, ⟨Fs, Fr, hq4, ⟨_, hhr, hb2, by simpa using hrr, by simpa using hF2⟩, hap, rfl⟩, hT4, Newer.refl _ _⟩

end Go.Proofs.YtcjblafohfiiaabGreat.Tx

/-
  One step of a queue of numbers, whatever it is; plays.
-/
set_option linter.unusedVariables false
namespace Go.Proofs.YtcjblafohfiiaabGreat.Tx
open Go.RowKit Go.Shelf

theorem qo_any (d i bs br base N : Nat) (m : Int) (xs : List ByteArray) (F : List Nat) (k : Int) (sec : Bool) (n wd : Int) (s : ByteArray) (stop : Int) (w : World) (hi : i < 2) (hp : PQ w base bs br N m xs F) (hbase : base ≤ w.heap.size) (hN : N < 1000000) (hl5 : xs.length < 100000)
    (hc : w.cell? ⟨d, 4 + i, none⟩ = some (.pointer (some ⟨bs, 0, none⟩))) (hcr : w.cell? ⟨d, 14 + i, none⟩ = some (.pointer (some ⟨br, 0, none⟩))) :
    Calls Tryz.prog 20 #[.pointer (some ⟨d, 0, none⟩), .agg (opv k sec n wd s stop), .int .i64 i] w fun e w' => e = .returned (.bool true) ∧ ∃ N' xs' F', N' ≤ N + 1 ∧ xs'.length ≤ xs.length + 1 ∧ PQ w' base bs br N' m xs' F' ∧ Touch F w w' ∧ Newer w.heap.size F F' := by
  have hlen : xs.length < 1000000 := by omega
  by_cases h1 : k = 10
  · subst h1
    by_cases hf : 0 < m ∧ m ≤ (xs.length : Int)
    · exact (qo_full d i bs br base N m xs F sec n wd s stop w hi hp hbase hlen hc hcr hf).mono fun e w' ⟨he, F', h⟩ => ⟨he, N, xs, F', by omega, by omega, h⟩
    · exact (qo_put d i bs br base N m xs F sec n wd s stop w hi hp hbase hN hc hcr hlen hf).mono fun e w' ⟨he, F', h⟩ => ⟨he, N + 1, _, F', by omega, by simp, h⟩
  · by_cases h2 : k = 11
    · subst h2
      cases xs with
      | nil => exact (qo_take0 d i bs br base N m F sec n wd s stop w hi hp hc hcr).mono fun e w' ⟨he, F', h⟩ => ⟨he, N, [], F', by omega, by simp, h⟩
      | cons x ys => exact (qo_take d i bs br base N m x ys F sec n wd s stop w hi hp hbase hN (by simp at hlen; omega) hc hcr).mono fun e w' ⟨he, F', h⟩ => ⟨he, N, ys, F', by omega, by simp; omega, h⟩
    · by_cases h3 : k = 12
      · subst h3
        exact (qo_map d i bs br base N m xs F sec n wd s stop w hi hp hbase hN hl5 hc hcr).mono fun e w' ⟨he, F', h⟩ => ⟨he, N, _, F', by omega, by simp, h⟩
      · by_cases h4 : k = 13
        · subst h4
          exact (qo_len d i bs br base N m xs F sec n wd s stop w hi hp hc hcr).mono fun e w' ⟨he, F', h⟩ => ⟨he, N, xs, F', by omega, by omega, h⟩
        · exact (qo_all d i bs br base N m xs F k sec n wd s stop w hi hp hbase hN hlen (by simpa using h1) (by simpa using h2) (by simpa using h3) (by simpa using h4) hc hcr).mono fun e w' ⟨he, F', h⟩ => ⟨he, N, xs, F', by omega, by omega, h⟩

set_option maxHeartbeats 2000000 in
/-- plays, of a queue. -/
theorem plays_text (R : World → Prop) (d : Nat) (k : Int) (sec : Bool) (n wd : Int) (s : ByteArray) (stop : Int) (w : World) (hk1 : 10 ≤ k) (hk4 : k ≤ 14)
    (h : Calls Tryz.prog 20 #[.pointer (some ⟨d, 0, none⟩), .agg (opv k sec n wd s stop), .int .i64 (if sec = true then 1 else 0)] (w.alloc (.cells (opv k sec n wd s stop) 31)) fun e w' => e = .returned (.bool true) ∧ R w') :
    Calls Tryz.prog 9 #[.pointer (some ⟨d, 0, none⟩), .agg (opv k sec n wd s stop)] w fun e w' => e = .returned (.bool true) ∧ R w' := by
  have e1 : ¬ k < 1 := by omega
  have e2 : ¬ 26 < k := by omega
  have e3 : ¬ k ≤ 4 := by omega
  have e4 : ¬ k ≤ 9 := by omega
  cases sec
  · simp only [Bool.false_eq_true, if_false] at h
    go_enter Tryz.func9, Tryz.ntmps9
    go_wp2_with fail
    refine h.mono ?_
    rintro e w' ⟨rfl, hR⟩
    go_wp2
    go_ret
    exact ⟨rfl, hR⟩
  · simp only [if_true] at h
    go_enter Tryz.func9, Tryz.ntmps9
    go_wp2_with fail
    refine h.mono ?_
    rintro e w' ⟨rfl, hR⟩
    go_wp2
    go_ret
    exact ⟨rfl, hR⟩

end Go.Proofs.YtcjblafohfiiaabGreat.Tx

/-
  BagQueues: two queues of numbers, every call.
-/
set_option linter.unusedVariables false
namespace Go.Proofs.YtcjblafohfiiaabGreat.Tx
open Go.RowKit Go.Shelf

theorem PQ.keep {W W' : World} {base bs br N : Nat} {m : Int} {xs : List ByteArray} {F G : List Nat} (h : PQ W base bs br N m xs F) (ht : Touch G W W') (ha : Apart F G) : PQ W' base bs br N m xs F := by
  obtain ⟨Fs, Fr, hs, hn, hap, rfl⟩ := h
  exact ⟨Fs, Fr, hs.keep ht (fun k hk => ha k (by simp [hk])), hn.keep ht (fun k hk => ha k (by simp [hk])), hap, rfl⟩

theorem PQ.mem {W : World} {base bs br N : Nat} {m : Int} {xs : List ByteArray} {F : List Nat} (h : PQ W base bs br N m xs F) : ∀ k, k ∈ F → base ≤ k ∧ k < W.heap.size := by
  obtain ⟨Fs, Fr, hs, hn, hap, rfl⟩ := h
  intro k hk
  rcases List.mem_append.1 hk with h | h
  · exact hs.mem k h
  · exact hn.mem k h

theorem PQ.start {W : World} {base bs br : Nat} {m : Int} (hs : W.heap[bs]? = some (oTqu m)) (hr : W.heap[br]? = some (oTxs m)) (h1 : base ≤ bs) (h2 : base ≤ br) (hne : bs ≠ br) : PQ W base bs br 0 m [] [bs, br] := by
  refine ⟨[bs], [br], ⟨.slice none 0 0, [], 0, hs, h1, World.ownsRow_nil _ _ _ _, Nat.le_refl _, rfl, Nat.le_refl _, rfl⟩, ⟨.slice none 0 0, hr, h2, World.ownsRow_nil _ _ _ _, rfl⟩, ?_, rfl⟩
  intro k hk hk2
  simp at hk hk2
  omega

/-- The two stacks, the desk. -/
structure In2 (w : World) (bs0 br0 bs1 br1 N0 N1 : Nat) (m0 m1 : Int) (k : Nat) (W : World) (xs0 xs1 : List ByteArray) (F0 F1 : List Nat) : Prop where
  p0 : PQ W w.heap.size bs0 br0 N0 m0 xs0 F0
  p1 : PQ W w.heap.size bs1 br1 N1 m1 xs1 F1
  ap : Apart F0 F1
  l0 : xs0.length ≤ k
  l1 : xs1.length ≤ k
  k0 : N0 ≤ k
  k1 : N1 ≤ k
  c0 : W.cell? ⟨w.heap.size, 4, none⟩ = some (.pointer (some ⟨bs0, 0, none⟩))
  c1 : W.cell? ⟨w.heap.size, 5, none⟩ = some (.pointer (some ⟨bs1, 0, none⟩))
  r0 : W.cell? ⟨w.heap.size, 14, none⟩ = some (.pointer (some ⟨br0, 0, none⟩))
  r1 : W.cell? ⟨w.heap.size, 15, none⟩ = some (.pointer (some ⟨br1, 0, none⟩))
  n0 : w.heap.size ∉ F0
  n1 : w.heap.size ∉ F1
  bel : Below w.heap.size w W

def InvQ (w : World) (k : Nat) (W : World) : Prop := ∃ bs0 br0 bs1 br1 N0 N1 m0 m1 xs0 xs1 F0 F1, In2 w bs0 br0 bs1 br1 N0 N1 m0 m1 k W xs0 xs1 F0 F1

theorem touch_cell {F : List Nat} {W W' : World} {p : Addr} {v : Value} (ht : Touch F W W') (hn : p.block ∉ F) (h : W.cell? p = some v) : W'.cell? p = some v := by
  rw [World.cell?_of_block (w := W) (ht.block p.block (World.block_lt_of_cell? _ _ h) hn)]
  exact h

theorem In2.alloc {w : World} {bs0 br0 bs1 br1 N0 N1 : Nat} {m0 m1 : Int} {k : Nat} {W : World} {xs0 xs1 : List ByteArray} {F0 F1 : List Nat} (h : In2 w bs0 br0 bs1 br1 N0 N1 m0 m1 k W xs0 xs1 F0 F1) (o : Obj) : In2 w bs0 br0 bs1 br1 N0 N1 m0 m1 k (W.alloc o) xs0 xs1 F0 F1 := by
  have ta : Touch [] W (W.alloc o) := Touch.alloc _ _ _
  exact ⟨h.p0.keep ta (by intro k _ h; simp at h), h.p1.keep ta (by intro k _ h; simp at h), h.ap, h.l0, h.l1, h.k0, h.k1, touch_cell ta (by simp) h.c0, touch_cell ta (by simp) h.c1, touch_cell ta (by simp) h.r0, touch_cell ta (by simp) h.r1, h.n0, h.n1, Below.alloc h.bel h.bel.size o⟩

theorem In2.step0 {w : World} {bs0 br0 bs1 br1 N0 N1 : Nat} {m0 m1 : Int} {k N0' : Nat} {W W' : World} {xs0 xs1 xs0' : List ByteArray} {F0 F1 F0' : List Nat} (h : In2 w bs0 br0 bs1 br1 N0 N1 m0 m1 k W xs0 xs1 F0 F1)
    (hl : xs0'.length ≤ xs0.length + 1) (hN : N0' ≤ N0 + 1) (hp : PQ W' w.heap.size bs0 br0 N0' m0 xs0' F0') (ht : Touch F0 W W') (hn : Newer W.heap.size F0 F0') : In2 w bs0 br0 bs1 br1 N0' N1 m0 m1 (k + 1) W' xs0' xs1 F0' F1 := by
  have hd : w.heap.size < W.heap.size := World.block_lt_of_cell? _ _ h.c0
  refine ⟨hp, h.p1.keep ht h.ap.symm, h.ap.newer hn (fun k hk => (h.p1.mem k hk).2), by have := h.l0; omega, by have := h.l1; omega, by have := h.k0; omega, by have := h.k1; omega, touch_cell ht h.n0 h.c0, touch_cell ht h.n0 h.c1, touch_cell ht h.n0 h.r0, touch_cell ht h.n0 h.r1, fun hm => ?_, h.n1, h.bel.trans (ht.below h.bel.size (fun k hk => (h.p0.mem k hk).1))⟩
  rcases hn _ hm with h1 | h1
  · exact h.n0 h1
  · omega

theorem In2.step1 {w : World} {bs0 br0 bs1 br1 N0 N1 : Nat} {m0 m1 : Int} {k N1' : Nat} {W W' : World} {xs0 xs1 xs1' : List ByteArray} {F0 F1 F1' : List Nat} (h : In2 w bs0 br0 bs1 br1 N0 N1 m0 m1 k W xs0 xs1 F0 F1)
    (hl : xs1'.length ≤ xs1.length + 1) (hN : N1' ≤ N1 + 1) (hp : PQ W' w.heap.size bs1 br1 N1' m1 xs1' F1') (ht : Touch F1 W W') (hn : Newer W.heap.size F1 F1') : In2 w bs0 br0 bs1 br1 N0 N1' m0 m1 (k + 1) W' xs0 xs1' F0 F1' := by
  have hd : w.heap.size < W.heap.size := World.block_lt_of_cell? _ _ h.c0
  refine ⟨h.p0.keep ht h.ap, hp, (h.ap.symm.newer hn (fun k hk => (h.p0.mem k hk).2)).symm, by have := h.l0; omega, by have := h.l1; omega, by have := h.k0; omega, by have := h.k1; omega, touch_cell ht h.n1 h.c0, touch_cell ht h.n1 h.c1, touch_cell ht h.n1 h.r0, touch_cell ht h.n1 h.r1, h.n0, fun hm => ?_, h.bel.trans (ht.below h.bel.size (fun k hk => (h.p1.mem k hk).1))⟩
  rcases hn _ hm with h1 | h1
  · exact h.n1 h1
  · omega

theorem inv_start (w W : World) (one two : Int) (D : List (Option Addr)) (M : List Int) (L : List Obj) (hb : Beg w one two 2 D M L) (h : Bg w W D M L) : InvQ w 0 W := by
  obtain ⟨dl, ml, -, b, hp, hd⟩ := hb
  obtain ⟨p0, q0⟩ := hp 0 (by omega)
  obtain ⟨p1, q1⟩ := hp 1 (by omega)
  have hd := hd rfl
  have s0 := h.obj (b 0 + 2) _ (p0.o 2 (by omega))
  have s1 := h.obj (b 1 + 2) _ (p1.o 2 (by omega))
  have t0 := h.obj (b 0 + 7) _ (p0.o 7 (by omega))
  have t1 := h.obj (b 1 + 7) _ (p1.o 7 (by omega))
  refine ⟨_, _, _, _, _, _, _, _, [], [], _, _, PQ.start s0 t0 (by omega) (by omega) (by omega), PQ.start s1 t1 (by omega) (by omega) (by omega), ?_, Nat.le_refl _, Nat.le_refl _, Nat.le_refl _, Nat.le_refl _, h.cellD 4 _ p0.d2, h.cellD 5 _ p1.d2, h.cellD 14 _ p0.d7, h.cellD 15 _ p1.d7, ?_, ?_, ?_⟩
  · intro k hk hk2
    simp at hk hk2
    omega
  · intro hk
    simp at hk
    omega
  · intro hk
    simp at hk
    omega
  · refine ⟨h.os, h.tape, h.output, by rw [h.size]; omega, fun k hk => ?_⟩
    rw [h.heap, Array.getElem?_append_left hk]

theorem inv_step (w : World) (k : Nat) (o : OpD) (W : World) (hk : k < 400) (hi : InvQ w k W) (h1 : 10 ≤ o.k) (h4 : o.k ≤ 14) :
    Calls Tryz.prog 9 #[.pointer (some ⟨w.heap.size, 0, none⟩), .agg (opv o.k o.sec o.n o.wd o.s o.stop)] W fun e W' => e = .returned (.bool true) ∧ InvQ w (k + 1) W' := by
  obtain ⟨bs0, br0, bs1, br1, N0, N1, m0, m1, xs0, xs1, F0, F1, hi⟩ := hi
  have ha := hi.alloc (.cells (opv o.k o.sec o.n o.wd o.s o.stop) 31)
  refine plays_text (InvQ w (k + 1)) w.heap.size o.k o.sec o.n o.wd o.s o.stop W h1 h4 ?_
  cases hsec : o.sec
  · rw [hsec] at ha
    have hl := ha.l0
    have hk0 := ha.k0
    refine (qo_any w.heap.size 0 bs0 br0 w.heap.size N0 m0 xs0 F0 o.k false o.n o.wd o.s o.stop _ (by omega) ha.p0 ha.bel.size (by omega) (by omega) ha.c0 ha.r0).mono ?_
    rintro e W' ⟨rfl, N', xs', F', hN, hx, hp, ht, hn⟩
    exact ⟨rfl, _, _, _, _, _, _, _, _, _, _, _, _, ha.step0 hx hN hp ht hn⟩
  · rw [hsec] at ha
    have hl := ha.l1
    have hk1 := ha.k1
    refine (qo_any w.heap.size 1 bs1 br1 w.heap.size N1 m1 xs1 F1 o.k true o.n o.wd o.s o.stop _ (by omega) ha.p1 ha.bel.size (by omega) (by omega) ha.c1 ha.r1).mono ?_
    rintro e W' ⟨rfl, N', xs', F', hN, hx, hp, ht, hn⟩
    exact ⟨rfl, _, _, _, _, _, _, _, _, _, _, _, _, ha.step1 hx hN hp ht hn⟩

set_option maxHeartbeats 1000000 in
theorem texts_any (one two : Int) (a : Option Addr) (cap : Nat) (ops : List OpD) (w : World) (hl : LOps w a ops) (hcap : ops.length ≤ 9223372036854775807) :
    Calls Tryz.prog 3 #[.int .i64 one, .int .i64 two, .slice a ops.length cap] w fun e w' => e = .returned (.bool true) ∧ Below w.heap.size w w' := by
  have hr := run_core one two 10 14 a cap ops w (InvQ w) hl hcap (fun W D M L hb h => inv_start w W one two D M L hb h) (fun k o W hk hi h1 h4 => inv_step w k o W hk hi h1 h4)
    (fun k W ⟨b0, b1, b2, b3, N0, N1, m0, m1, x0, x1, F0, F1, h⟩ => ⟨b0, b1, b2, b3, N0, N1, m0, m1, x0, x1, F0, F1, ⟨h.p0, h.p1, h.ap, by have := h.l0; omega, by have := h.l1; omega, by have := h.k0; omega, by have := h.k1; omega, h.c0, h.c1, h.r0, h.r1, h.n0, h.n1, h.bel⟩⟩)
    (fun k W ⟨_, _, _, _, _, _, _, _, _, _, _, _, h⟩ => h.bel)
  go_enter Tryz.func3, Tryz.ntmps3
  go_wp2_with fail
  refine hr.mono ?_
  rintro e w' ⟨rfl, hb⟩
  go_wp2
  go_ret
  exact ⟨rfl, hb⟩

end Go.Proofs.YtcjblafohfiiaabGreat.Tx

