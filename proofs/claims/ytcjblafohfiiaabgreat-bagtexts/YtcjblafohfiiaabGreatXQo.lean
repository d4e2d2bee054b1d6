/-
  One step of a queue of numbers (but for Map and All).
-/
import Derived.Test.YtcjblafohfiiaabGreatXRp
set_option linter.unusedVariables false
namespace Go.Proofs.YtcjblafohfiiaabGreat.Tx
open Go.RowKit Go.Shelf

theorem rput_any (b base : Nat) (m : Int) (x : ByteArray) (xs : List ByteArray) (F : List Nat) (w : World) (hs : Num w base b m xs F) (hbase : base ≤ w.heap.size) (hlen : xs.length < 1000000) (hroom : ¬ (0 < m ∧ m ≤ xs.length)) :
    Calls Tryz.prog 45 #[.pointer (some ⟨b, 0, none⟩), .string x] w fun e w' => e = .returned (.int .i64 0) ∧
      ∃ F', Num w' base b m (xs ++ [x]) F' ∧ Touch F w w' ∧ Newer w.heap.size F F' := by
  obtain ⟨v, hh, hb, hr, rfl⟩ := hs
  refine (rput_core b base m x v xs w hh hr hbase hlen hroom).mono ?_
  rintro e w' ⟨rfl, nq, v', w1, rfl, hown, hgrow, hat⟩
  have hne : some b ≠ v.ownBlock := row_ne hh hr
  have hh1 : w1.heap[b]? = some (.cells #[v, .int .i64 m] 79 (0, 0)) := by
    rw [hgrow.block b (by have := heap_lt hh; simp; omega) hne]; exact (Below.heap_alloc (w.drewN nq) _ b (heap_lt hh)).trans hh
  have hne' : some b ≠ v'.ownBlock := row_ne hh1 hown
  have ht : Touch (b :: v.ownBlock.toList) w w1 := ((Touch.drewN _ w nq).trans (Touch.alloc _ _ _)).trans (Touch.grown hgrow (fun k hk => by simp [hk]))
  refine ⟨rfl, b :: v'.ownBlock.toList, ⟨v', ?_, hb, ?_, rfl⟩, ht.trans (Touch.setCell _ _ _ (by simp)), ?_⟩
  · rw [heap_set hh1]; rfl
  · simpa using ownsRow_setOther hown (a := ⟨b, 0, none⟩) hne' v'
  · intro k hk
    rcases List.mem_cons.1 hk with rfl | hk
    · exact .inl (by simp)
    · have hk' : v'.ownBlock = some k := by simpa using hk
      rcases hat with h1 | h1
      · exact .inl (by rw [h1] at hk'; simp [hk'])
      · rw [h1] at hk'; simp only [Option.some.injEq] at hk'; exact .inr (by omega)

/-- A queue and the document's list of it. -/
def PQ (W : World) (base bq br N : Nat) (m : Int) (xs : List ByteArray) (F : List Nat) : Prop :=
  ∃ Fq Fr, Que W base bq m N xs Fq ∧ Num W base br m xs Fr ∧ Apart Fq Fr ∧ F = Fq ++ Fr

theorem pq_after {w w1 w2 : World} {base bq br N N1 : Nat} {m : Int} {xs ys xs' : List ByteArray} {Fs Fr Fs1 Fr2 : List Nat} (hs : Que w base bq m N xs Fs) (hn : Num w base br m ys Fr) (hap : Apart Fs Fr) (hs1 : Que w1 base bq m N1 xs' Fs1) (ht1 : Touch Fs w w1) (hw1 : Newer w.heap.size Fs Fs1)
    (hn2 : Num w2 base br m xs' Fr2) (ht2 : Touch Fr w1 w2) (hw2 : Newer w1.heap.size Fr Fr2) : ∃ F', PQ w2 base bq br N1 m xs' F' ∧ Touch (Fs ++ Fr) w w2 ∧ Newer w.heap.size (Fs ++ Fr) F' := by
  have a1 : Apart Fs1 Fr := hap.newer hw1 (fun k hk => (hn.mem k hk).2)
  have a2 : Apart Fs1 Fr2 := (a1.symm.newer hw2 (fun k hk => (hs1.mem k hk).2)).symm
  refine ⟨Fs1 ++ Fr2, ⟨Fs1, Fr2, hs1.keep ht2 a1, hn2, a2, rfl⟩, (ht1.mono (fun k hk => .inl (by simp [hk]))).trans (ht2.mono (fun k hk => .inl (by simp [hk]))), ?_⟩
  intro k hk
  rcases List.mem_append.1 hk with h | h
  · rcases hw1 k h with h1 | h1
    · exact .inl (by simp [h1])
    · exact .inr h1
  · rcases newer_mono hw2 ht1.size k h with h1 | h1
    · exact .inl (by simp [h1])
    · exact .inr h1

set_option maxRecDepth 20000 in
set_option maxHeartbeats 2000000 in
theorem qo_put (d i bs br base N : Nat) (m : Int) (xs : List ByteArray) (F : List Nat) (sec : Bool) (n wd : Int) (s : ByteArray) (stop : Int) (w : World) (hi : i < 2) (hp : PQ w base bs br N m xs F) (hbase : base ≤ w.heap.size) (hlen : N < 1000000)
    (hc : w.cell? ⟨d, 4 + i, none⟩ = some (.pointer (some ⟨bs, 0, none⟩))) (hcr : w.cell? ⟨d, 14 + i, none⟩ = some (.pointer (some ⟨br, 0, none⟩))) (hxs : xs.length < 1000000) (hroom : ¬ (0 < m ∧ m ≤ (xs.length : Int))) :
    Calls Tryz.prog 20 #[.pointer (some ⟨d, 0, none⟩), .agg (opv 10 sec n wd s stop), .int .i64 i] w fun e w' => e = .returned (.bool true) ∧ ∃ F', PQ w' base bs br (N + 1) m (xs ++ [s]) F' ∧ Touch F w w' ∧ Newer w.heap.size F F' := by
  obtain ⟨Fs, Fr, hs, hn, hap, rfl⟩ := hp
  have hi' : (i : Int) < 2 := by omega
  have hdl : d < w.heap.size := World.block_lt_of_cell? _ _ hc
  have ha : Touch [] w (w.alloc (.cells (opv 10 sec n wd s stop) 31)) := Touch.alloc _ _ _
  have hs0 := hs.keep ha (by intro k _ h; simp at h)
  have hn0 := hn.keep ha (by intro k _ h; simp at h)
  have hpu := put_any bs base N m s xs Fs _ hs0 (by simp; omega) hlen hroom
  go_enter Tryz.func20, Tryz.ntmps20
  go_wp2_with fail
  refine hpu.mono ?_
  rintro e w1 ⟨rfl, Fs1, hs1, ht1, hw1⟩
  have hn1 := hn0.keep ht1 hap.symm
  have bO := box_old (Boxed6.new w (opv 10 sec n wd s stop) 31) ht1 (fun hm => by have := (hs.mem _ hm).2; omega)
  clear hpu
  have cN := heap_cell bO 4
  simp only [List.getElem?_toArray, List.getElem?_cons_zero, List.getElem?_cons_succ] at cN
  go_wp2_with fail
  have hz1 : w.heap.size < w1.heap.size := by have := ht1.size; simp at this; omega
  have hrp : Calls Tryz.prog 45 #[.pointer (some ⟨br, 0, none⟩), .string s] w1.drew fun e w' => e = .returned (.int .i64 0) ∧ ∃ F', Num w' base br m (xs ++ [s]) F' ∧ Touch Fr w1.drew w' ∧ Newer w1.heap.size Fr F' :=
    rput_any br base m s xs Fr w1.drew (hn1.keep (Touch.drew [] w1) (by intro k _ h; simp at h)) (by show base ≤ w1.heap.size; omega) hxs hroom
  go_region_with (first | (go_at_call 14; refine (num_any _ _).mono ?_; rintro e w' ⟨rfl, rfl⟩) | (go_at_call 45; refine hrp.mono ?_; rintro e w2 ⟨rfl, Fr2, hn2, ht2, hw2⟩))
  all_goals
    go_wp2
    go_ret
    exact ⟨rfl, pq_after hs hn hap hs1 ((ha.mono (by simp)).trans ht1) (newer_mono hw1 (by simp)) hn2 ((Touch.drew _ w1).trans ht2) hw2⟩

set_option maxRecDepth 20000 in
set_option maxHeartbeats 2000000 in
theorem qo_full (d i bs br base N : Nat) (m : Int) (xs : List ByteArray) (F : List Nat) (sec : Bool) (n wd : Int) (s : ByteArray) (stop : Int) (w : World) (hi : i < 2) (hp : PQ w base bs br N m xs F) (hbase : base ≤ w.heap.size) (hlen : xs.length < 1000000)
    (hc : w.cell? ⟨d, 4 + i, none⟩ = some (.pointer (some ⟨bs, 0, none⟩))) (hcr : w.cell? ⟨d, 14 + i, none⟩ = some (.pointer (some ⟨br, 0, none⟩))) (hfull : 0 < m ∧ m ≤ (xs.length : Int)) :
    Calls Tryz.prog 20 #[.pointer (some ⟨d, 0, none⟩), .agg (opv 10 sec n wd s stop), .int .i64 i] w fun e w' => e = .returned (.bool true) ∧ ∃ F', PQ w' base bs br N m xs F' ∧ Touch F w w' ∧ Newer w.heap.size F F' := by
  obtain ⟨Fs, Fr, hs, hn, hap, rfl⟩ := hp
  have hi' : (i : Int) < 2 := by omega
  have hdl : d < w.heap.size := World.block_lt_of_cell? _ _ hc
  have ha : Touch [] w (w.alloc (.cells (opv 10 sec n wd s stop) 31)) := Touch.alloc _ _ _
  have hs0 := hs.keep ha (by intro k _ h; simp at h)
  have hn0 := hn.keep ha (by intro k _ h; simp at h)
  have hpu := put_full bs base N m s xs Fs _ hs0 hfull
  go_enter Tryz.func20, Tryz.ntmps20
  go_wp2_with fail
  refine hpu.mono ?_
  rintro e w1 ⟨rfl, hs1, ht1⟩
  have hn1 := hn0.keep ht1 (by intro k _ h; simp at h)
  have bO := box_old (Boxed6.new w (opv 10 sec n wd s stop) 31) ht1 (by simp)
  clear hpu
  have cN := heap_cell bO 4
  simp only [List.getElem?_toArray, List.getElem?_cons_zero, List.getElem?_cons_succ] at cN
  go_wp2_with fail
  have hrp : ∀ k, Calls Tryz.prog 45 #[.pointer (some ⟨br, 0, none⟩), .string s] (w1.drewN k) fun e w' => e = .returned (.int .i64 11) ∧ ∃ nq, w' = (w1.drewN k).drewN nq := fun k =>
    rput_full br base m s xs Fr (w1.drewN k) (hn1.keep (Touch.drewN [] w1 k) (by intro k _ h; simp at h)) hfull
  go_quiet (first | (go_at_call 14; exact Calls.quiet_of_same ((num_any _ _).mono fun _ _ h => ⟨h.1, h.2.symm⟩)) | (go_at_call 45; exact Calls.quiet_of (hrp _)))
  go_wp2
  go_ret
  refine ⟨rfl, Fs ++ Fr, ⟨Fs, Fr, hs1.keep (Touch.drewN [] w1 _) (by intro k _ h; simp at h), hn1.keep (Touch.drewN [] w1 _) (by intro k _ h; simp at h), hap, rfl⟩, ?_, Newer.refl _ _⟩
  exact ((ha.trans ht1).trans (Touch.drewN _ _ _)).mono (by simp)

set_option maxRecDepth 20000 in
set_option maxHeartbeats 2000000 in
theorem qo_take (d i bs br base N : Nat) (m : Int) (x : ByteArray) (xs : List ByteArray) (F : List Nat) (sec : Bool) (n wd : Int) (s : ByteArray) (stop : Int) (w : World) (hi : i < 2) (hp : PQ w base bs br N m (x :: xs) F) (hbase : base ≤ w.heap.size) (hlen : N < 1000000) (hxs : xs.length < 1000000)
    (hc : w.cell? ⟨d, 4 + i, none⟩ = some (.pointer (some ⟨bs, 0, none⟩))) (hcr : w.cell? ⟨d, 14 + i, none⟩ = some (.pointer (some ⟨br, 0, none⟩))) :
    Calls Tryz.prog 20 #[.pointer (some ⟨d, 0, none⟩), .agg (opv 11 sec n wd s stop), .int .i64 i] w fun e w' => e = .returned (.bool true) ∧ ∃ F', PQ w' base bs br N m xs F' ∧ Touch F w w' ∧ Newer w.heap.size F F' := by
  obtain ⟨Fs, Fr, hs, hn, hap, rfl⟩ := hp
  have hi' : (i : Int) < 2 := by omega
  have hdl : d < w.heap.size := World.block_lt_of_cell? _ _ hc
  have ha : Touch [] w (w.alloc (.cells (opv 11 sec n wd s stop) 31)) := Touch.alloc _ _ _
  have hs0 := hs.keep ha (by intro k _ h; simp at h)
  have hn0 := hn.keep ha (by intro k _ h; simp at h)
  have hpo := take_any bs base N m x xs Fs _ hs0 hlen
  go_enter Tryz.func20, Tryz.ntmps20
  go_wp2_with fail
  refine hpo.mono ?_
  rintro e w1 ⟨rfl, hs1, ht1⟩
  have hn1 := hn0.keep ht1 hap.symm
  have hz1 : w.heap.size < w1.heap.size := by have := ht1.size; simp at this; omega
  have hrf := rfirst_any br base m x xs Fr w1 hn1 (by omega) hxs
  clear hpo
  go_wp2_with fail
  refine hrf.mono ?_
  rintro e w2 ⟨rfl, Fr2, hn2, ht2, hw2⟩
  go_wp2
  go_ret
  exact ⟨by simp, pq_after hs hn hap hs1 ((ha.mono (by simp)).trans ht1) (Newer.refl _ _) hn2 ht2 hw2⟩

set_option maxRecDepth 20000 in
set_option maxHeartbeats 2000000 in
theorem qo_take0 (d i bs br base N : Nat) (m : Int) (F : List Nat) (sec : Bool) (n wd : Int) (s : ByteArray) (stop : Int) (w : World) (hi : i < 2) (hp : PQ w base bs br N m [] F)
    (hc : w.cell? ⟨d, 4 + i, none⟩ = some (.pointer (some ⟨bs, 0, none⟩))) (hcr : w.cell? ⟨d, 14 + i, none⟩ = some (.pointer (some ⟨br, 0, none⟩))) :
    Calls Tryz.prog 20 #[.pointer (some ⟨d, 0, none⟩), .agg (opv 11 sec n wd s stop), .int .i64 i] w fun e w' => e = .returned (.bool true) ∧ ∃ F', PQ w' base bs br N m [] F' ∧ Touch F w w' ∧ Newer w.heap.size F F' := by
  obtain ⟨Fs, Fr, hs, hn, hap, rfl⟩ := hp
  have hi' : (i : Int) < 2 := by omega
  have hdl : d < w.heap.size := World.block_lt_of_cell? _ _ hc
  have ha : Touch [] w (w.alloc (.cells (opv 11 sec n wd s stop) 31)) := Touch.alloc _ _ _
  have hs0 := hs.keep ha (by intro k _ h; simp at h)
  have hn0 := hn.keep ha (by intro k _ h; simp at h)
  have hpo := take_none bs base N m Fs _ hs0
  go_enter Tryz.func20, Tryz.ntmps20
  go_wp2_with fail
  refine hpo.mono ?_
  rintro e w1 ⟨rfl, nq, rfl⟩
  have td : Touch [] (w.alloc (.cells (opv 11 sec n wd s stop) 31)) ((w.alloc (.cells (opv 11 sec n wd s stop) 31)).drewN nq) := Touch.drewN _ _ _
  have hs1 := hs0.keep td (by intro k _ h; simp at h)
  have hn1 := hn0.keep td (by intro k _ h; simp at h)
  have hrf := rfirst_none br base m Fr _ hn1
  go_wp2_with fail
  refine hrf.mono ?_
  rintro e w2 ⟨rfl, rfl⟩
  go_wp2
  go_ret
  exact ⟨rfl, Fs ++ Fr, ⟨Fs, Fr, hs1, hn1, hap, rfl⟩, (ha.trans td).mono (by simp), Newer.refl _ _⟩

end Go.Proofs.YtcjblafohfiiaabGreat.Tx
