/-
  stackOp: one call of a stack against the document's list.
-/
import Derived.Test.YtcjblafohfiiaabGreatIn
import Derived.Test.YtcjblafohfiiaabGreatRf
import Derived.RegionTactic
import Derived.ChangeAlike
import Derived.BigRegion
import Derived.Deep.RegionWith
set_option linter.unusedVariables false
namespace Go.Proofs.YtcjblafohfiiaabGreat
open Go.RowKit Go.Shelf

theorem num_any (x : Int) (w : World) : Calls Tryz.prog 14 #[.int .i64 x] w fun e w' => e = .returned (.int .i64 x) ∧ w = w' := by
  go_enter Tryz.func14, Tryz.ntmps14
  go_wp2
  go_ret
  exact ⟨rfl, rfl⟩

theorem upTo_any (n : Nat) (stop : Int) (w : World) : Calls Tryz.prog 36 #[.int .i64 n, .int .i64 stop] w fun e w' => e = .returned (.int .i64 (cutTo n stop : Nat)) ∧ w = w' := by
  by_cases h1 : 1 ≤ stop
  · by_cases h2 : stop < n
    · have e : ((cutTo n stop : Nat) : Int) = stop := by unfold cutTo; rw [if_pos ⟨h1, h2⟩]; omega
      rw [e]; clear e
      go_enter Tryz.func36, Tryz.ntmps36
      go_wp2
      go_ret
      exact ⟨rfl, rfl⟩
    · have e : ((cutTo n stop : Nat) : Int) = n := by unfold cutTo; rw [if_neg (by omega)]
      rw [e]; clear e
      go_enter Tryz.func36, Tryz.ntmps36
      go_wp2
      go_ret
      exact ⟨rfl, rfl⟩
  · have e : ((cutTo n stop : Nat) : Int) = n := by unfold cutTo; rw [if_neg (by omega)]
    rw [e]; clear e
    go_enter Tryz.func36, Tryz.ntmps36
    go_wp2
    go_ret
    exact ⟨rfl, rfl⟩

/-- A stack and the document's list of it. -/
def PS (W : World) (base bs br : Nat) (m : Int) (xs : List Int) (F : List Nat) : Prop :=
  ∃ Fs Fr, Stk W base bs m xs Fs ∧ Num W base br m xs.reverse Fr ∧ Apart Fs Fr ∧ F = Fs ++ Fr

theorem box_old {W W' : World} {B t : Nat} {cs : Array Value} {F : List Nat} (h : W.heap[B]? = some (.cells cs t (0, 0))) (ht : Touch F W W') (hn : B ∉ F) : W'.heap[B]? = some (.cells cs t (0, 0)) := (ht.block B (heap_lt h) hn).trans h

theorem Boxed6.new (w : World) (cs : Array Value) (t : Nat) : (w.alloc (.cells cs t)).heap[w.heap.size]? = some (.cells cs t (0, 0)) := heap_alloc_new w _

abbrev opv (k : Int) (sec : Bool) (n wd : Int) (s : ByteArray) (stop : Int) : Array Value := #[.int .i64 k, .bool sec, .int .i64 n, .int .u64 wd, .string s, .int .i64 stop]

theorem newer_mono {a b : Nat} {F F' : List Nat} (h : Newer b F F') (hab : a ≤ b) : Newer a F F' := fun k hk => by
  rcases h k hk with h1 | h1
  · exact .inl h1
  · exact .inr (by omega)

theorem ps_after {w w1 w2 : World} {base bs br : Nat} {m : Int} {xs ys xs' : List Int} {Fs Fr Fs1 Fr2 : List Nat} (hs : Stk w base bs m xs Fs) (hn : Num w base br m ys Fr) (hap : Apart Fs Fr) (hs1 : Stk w1 base bs m xs' Fs1) (ht1 : Touch Fs w w1) (hw1 : Newer w.heap.size Fs Fs1)
    (hn2 : Num w2 base br m xs'.reverse Fr2) (ht2 : Touch Fr w1 w2) (hw2 : Newer w1.heap.size Fr Fr2) : ∃ F', PS w2 base bs br m xs' F' ∧ Touch (Fs ++ Fr) w w2 ∧ Newer w.heap.size (Fs ++ Fr) F' := by
  have a1 : Apart Fs1 Fr := hap.newer hw1 (fun k hk => (hn.mem k hk).2)
  have a2 : Apart Fs1 Fr2 := (a1.symm.newer hw2 (fun k hk => (hs1.mem k hk).2)).symm
  refine ⟨Fs1 ++ Fr2, ⟨Fs1, Fr2, hs1.keep ht2 a1, hn2, a2, rfl⟩, (ht1.mono (fun k hk => .inl (by simp [hk]))).trans (ht2.mono (fun k hk => .inl (by simp [hk]))), ?_⟩
  intro k hk
  rcases List.mem_append.1 hk with h | h
  · rcases hw1 k h with h1 | h1
    · exact .inl (by simp [h1])
    · exact .inr h1
  · rcases newer_mono hw2 ht1.size k h with h1 | h1
    · exact .inl (by simp [h1])
    · exact .inr h1

set_option maxHeartbeats 2000000 in
theorem so_push (d i bs br base : Nat) (m : Int) (xs : List Int) (F : List Nat) (sec : Bool) (n wd : Int) (s : ByteArray) (stop : Int) (w : World) (hi : i < 2) (hp : PS w base bs br m xs F) (hbase : base ≤ w.heap.size) (hlen : xs.length < 1000000)
    (hc : w.cell? ⟨d, i, none⟩ = some (.pointer (some ⟨bs, 0, none⟩))) (hcr : w.cell? ⟨d, 10 + i, none⟩ = some (.pointer (some ⟨br, 0, none⟩))) (hroom : ¬ (0 < m ∧ m ≤ (xs.length : Int))) :
    Calls Tryz.prog 18 #[.pointer (some ⟨d, 0, none⟩), .agg (opv 1 sec n wd s stop), .int .i64 i] w fun e w' => e = .returned (.bool true) ∧ ∃ F', PS w' base bs br m (xs ++ [n]) F' ∧ Touch F w w' ∧ Newer w.heap.size F F' := by
  obtain ⟨Fs, Fr, hs, hn, hap, rfl⟩ := hp
  have hi' : (i : Int) < 2 := by omega
  have hdl : d < w.heap.size := World.block_lt_of_cell? _ _ hc
  have ha : Touch [] w (w.alloc (.cells (opv 1 sec n wd s stop) 31)) := Touch.alloc _ _ _
  have hs0 := hs.keep ha (by intro k _ h; simp at h)
  have hn0 := hn.keep ha (by intro k _ h; simp at h)
  have hpu := push_any bs base m n xs Fs _ hs0 (by simp; omega) hlen hroom
  go_enter Tryz.func18, Tryz.ntmps18
  go_wp2_with fail
  refine hpu.mono ?_
  rintro e w1 ⟨rfl, Fs1, hs1, ht1, hw1⟩
  have hn1 := hn0.keep ht1 hap.symm
  have bO := box_old (Boxed6.new w (opv 1 sec n wd s stop) 31) ht1 (fun hm => by have := (hs.mem _ hm).2; omega)
  clear hpu
  have cN := heap_cell bO 2
  simp only [List.getElem?_toArray, List.getElem?_cons_zero, List.getElem?_cons_succ] at cN
  go_wp2_with fail
  have hz1 : w.heap.size < w1.heap.size := by have := ht1.size; simp at this; omega
  have hrp : Calls Tryz.prog 29 #[.pointer (some ⟨br, 0, none⟩), .int .i64 n] w1.drew fun e w' => e = .returned (.int .i64 0) ∧ ∃ F', Num w' base br m (n :: xs.reverse) F' ∧ Touch Fr w1.drew w' ∧ Newer w1.heap.size Fr F' :=
    rpush_any br base m n xs.reverse Fr w1.drew (hn1.keep (Touch.drew [] w1) (by intro k _ h; simp at h)) (by show base ≤ w1.heap.size; omega) (by simpa using hlen) (by simpa using hroom)
  go_region_with (first | (go_at_call 14; refine (num_any _ _).mono ?_; rintro e w' ⟨rfl, rfl⟩) | (go_at_call 29; refine hrp.mono ?_; rintro e w2 ⟨rfl, Fr2, hn2, ht2, hw2⟩))
  all_goals
    go_wp2
    go_ret
    exact ⟨rfl, ps_after hs hn hap hs1 ((ha.mono (by simp)).trans ht1) (newer_mono hw1 (by simp)) (by rw [List.reverse_append]; exact hn2) ((Touch.drew _ w1).trans ht2) hw2⟩

set_option maxHeartbeats 2000000 in
theorem so_full (d i bs br base : Nat) (m : Int) (xs : List Int) (F : List Nat) (sec : Bool) (n wd : Int) (s : ByteArray) (stop : Int) (w : World) (hi : i < 2) (hp : PS w base bs br m xs F) (hbase : base ≤ w.heap.size) (hlen : xs.length < 1000000)
    (hc : w.cell? ⟨d, i, none⟩ = some (.pointer (some ⟨bs, 0, none⟩))) (hcr : w.cell? ⟨d, 10 + i, none⟩ = some (.pointer (some ⟨br, 0, none⟩))) (hfull : 0 < m ∧ m ≤ (xs.length : Int)) :
    Calls Tryz.prog 18 #[.pointer (some ⟨d, 0, none⟩), .agg (opv 1 sec n wd s stop), .int .i64 i] w fun e w' => e = .returned (.bool true) ∧ ∃ F', PS w' base bs br m xs F' ∧ Touch F w w' ∧ Newer w.heap.size F F' := by
  obtain ⟨Fs, Fr, hs, hn, hap, rfl⟩ := hp
  have hi' : (i : Int) < 2 := by omega
  have hdl : d < w.heap.size := World.block_lt_of_cell? _ _ hc
  have ha : Touch [] w (w.alloc (.cells (opv 1 sec n wd s stop) 31)) := Touch.alloc _ _ _
  have hs0 := hs.keep ha (by intro k _ h; simp at h)
  have hn0 := hn.keep ha (by intro k _ h; simp at h)
  have hpu := push_full bs base m n xs Fs _ hs0 hfull
  go_enter Tryz.func18, Tryz.ntmps18
  go_wp2_with fail
  refine hpu.mono ?_
  rintro e w1 ⟨rfl, hs1, ht1⟩
  have hn1 := hn0.keep ht1 (by intro k _ h; simp at h)
  have bO := box_old (Boxed6.new w (opv 1 sec n wd s stop) 31) ht1 (by simp)
  clear hpu
  have cN := heap_cell bO 2
  simp only [List.getElem?_toArray, List.getElem?_cons_zero, List.getElem?_cons_succ] at cN
  go_wp2_with fail
  have hrp : ∀ k, Calls Tryz.prog 29 #[.pointer (some ⟨br, 0, none⟩), .int .i64 n] (w1.drewN k) fun e w' => e = .returned (.int .i64 11) ∧ ∃ nq, w' = (w1.drewN k).drewN nq := fun k =>
    rpush_full br base m n xs.reverse Fr (w1.drewN k) (hn1.keep (Touch.drewN [] w1 k) (by intro k _ h; simp at h)) (by simpa using hfull)
  go_quiet (first | (go_at_call 14; exact Calls.quiet_of_same ((num_any _ _).mono fun _ _ h => ⟨h.1, h.2.symm⟩)) | (go_at_call 29; exact Calls.quiet_of (hrp _)))
  go_wp2
  go_ret
  refine ⟨rfl, Fs ++ Fr, ⟨Fs, Fr, hs1.keep (Touch.drewN [] w1 _) (by intro k _ h; simp at h), hn1.keep (Touch.drewN [] w1 _) (by intro k _ h; simp at h), hap, rfl⟩, ?_, Newer.refl _ _⟩
  exact ((ha.trans ht1).trans (Touch.drewN _ _ _)).mono (by simp)

set_option maxHeartbeats 2000000 in
theorem so_pop (d i bs br base : Nat) (m x : Int) (xs : List Int) (F : List Nat) (sec : Bool) (n wd : Int) (s : ByteArray) (stop : Int) (w : World) (hi : i < 2) (hp : PS w base bs br m (xs ++ [x]) F) (hbase : base ≤ w.heap.size) (hlen : xs.length < 1000000)
    (hc : w.cell? ⟨d, i, none⟩ = some (.pointer (some ⟨bs, 0, none⟩))) (hcr : w.cell? ⟨d, 10 + i, none⟩ = some (.pointer (some ⟨br, 0, none⟩))) :
    Calls Tryz.prog 18 #[.pointer (some ⟨d, 0, none⟩), .agg (opv 2 sec n wd s stop), .int .i64 i] w fun e w' => e = .returned (.bool true) ∧ ∃ F', PS w' base bs br m xs F' ∧ Touch F w w' ∧ Newer w.heap.size F F' := by
  obtain ⟨Fs, Fr, hs, hn, hap, rfl⟩ := hp
  have hi' : (i : Int) < 2 := by omega
  have hdl : d < w.heap.size := World.block_lt_of_cell? _ _ hc
  have ha : Touch [] w (w.alloc (.cells (opv 2 sec n wd s stop) 31)) := Touch.alloc _ _ _
  have hs0 := hs.keep ha (by intro k _ h; simp at h)
  have hn0 := hn.keep ha (by intro k _ h; simp at h)
  have hpo := pop_any bs base m x xs Fs _ hs0 hlen
  go_enter Tryz.func18, Tryz.ntmps18
  go_wp2_with fail
  refine hpo.mono ?_
  rintro e w1 ⟨rfl, hs1, ht1⟩
  have hn1 := hn0.keep ht1 hap.symm
  have hz1 : w.heap.size < w1.heap.size := by have := ht1.size; simp at this; omega
  rw [List.reverse_append] at hn1
  have hrf := rfirst_any br base m x xs.reverse Fr w1 hn1 (by omega) (by simpa using hlen)
  clear hpo
  go_wp2_with fail
  refine hrf.mono ?_
  rintro e w2 ⟨rfl, Fr2, hn2, ht2, hw2⟩
  go_wp2
  go_ret
  exact ⟨by simp, ps_after hs hn hap hs1 ((ha.mono (by simp)).trans ht1) (Newer.refl _ _) hn2 ht2 hw2⟩

set_option maxHeartbeats 2000000 in
theorem so_pop0 (d i bs br base : Nat) (m : Int) (F : List Nat) (sec : Bool) (n wd : Int) (s : ByteArray) (stop : Int) (w : World) (hi : i < 2) (hp : PS w base bs br m [] F)
    (hc : w.cell? ⟨d, i, none⟩ = some (.pointer (some ⟨bs, 0, none⟩))) (hcr : w.cell? ⟨d, 10 + i, none⟩ = some (.pointer (some ⟨br, 0, none⟩))) :
    Calls Tryz.prog 18 #[.pointer (some ⟨d, 0, none⟩), .agg (opv 2 sec n wd s stop), .int .i64 i] w fun e w' => e = .returned (.bool true) ∧ ∃ F', PS w' base bs br m [] F' ∧ Touch F w w' ∧ Newer w.heap.size F F' := by
  obtain ⟨Fs, Fr, hs, hn, hap, rfl⟩ := hp
  have hi' : (i : Int) < 2 := by omega
  have hdl : d < w.heap.size := World.block_lt_of_cell? _ _ hc
  have ha : Touch [] w (w.alloc (.cells (opv 2 sec n wd s stop) 31)) := Touch.alloc _ _ _
  have hs0 := hs.keep ha (by intro k _ h; simp at h)
  have hn0 := hn.keep ha (by intro k _ h; simp at h)
  have hpo := pop_none bs base m Fs _ hs0
  have hrf := rfirst_none br base m Fr _ hn0
  go_enter Tryz.func18, Tryz.ntmps18
  go_wp2_with fail
  refine hpo.mono ?_
  rintro e w1 ⟨rfl, rfl⟩
  go_wp2_with fail
  refine hrf.mono ?_
  rintro e w2 ⟨rfl, rfl⟩
  go_wp2
  go_ret
  exact ⟨rfl, Fs ++ Fr, ⟨Fs, Fr, hs0, hn0, hap, rfl⟩, ha.mono (by simp), Newer.refl _ _⟩

set_option maxHeartbeats 2000000 in
theorem so_len (d i bs br base : Nat) (m : Int) (xs : List Int) (F : List Nat) (sec : Bool) (n wd : Int) (s : ByteArray) (stop : Int) (w : World) (hi : i < 2) (hp : PS w base bs br m xs F)
    (hc : w.cell? ⟨d, i, none⟩ = some (.pointer (some ⟨bs, 0, none⟩))) (hcr : w.cell? ⟨d, 10 + i, none⟩ = some (.pointer (some ⟨br, 0, none⟩))) :
    Calls Tryz.prog 18 #[.pointer (some ⟨d, 0, none⟩), .agg (opv 3 sec n wd s stop), .int .i64 i] w fun e w' => e = .returned (.bool true) ∧ ∃ F', PS w' base bs br m xs F' ∧ Touch F w w' ∧ Newer w.heap.size F F' := by
  obtain ⟨Fs, Fr, hs, hn, hap, rfl⟩ := hp
  have hi' : (i : Int) < 2 := by omega
  have hdl : d < w.heap.size := World.block_lt_of_cell? _ _ hc
  have ha : Touch [] w (w.alloc (.cells (opv 3 sec n wd s stop) 31)) := Touch.alloc _ _ _
  have hs0 := hs.keep ha (by intro k _ h; simp at h)
  have hn0 := hn.keep ha (by intro k _ h; simp at h)
  have hfin : ∃ F', PS (w.alloc (.cells (opv 3 sec n wd s stop) 31)) base bs br m xs F' ∧ Touch (Fs ++ Fr) w (w.alloc (.cells (opv 3 sec n wd s stop) 31)) ∧ Newer w.heap.size (Fs ++ Fr) F' := ⟨Fs ++ Fr, ⟨Fs, Fr, hs0, hn0, hap, rfl⟩, ha.mono (by simp), Newer.refl _ _⟩
  obtain ⟨v, hh, _, hr, _⟩ := hs0
  obtain ⟨v2, hh2, _, hr2, _⟩ := hn0
  have c0 := heap_cell hh 0
  have c2 := heap_cell hh2 0
  simp only [List.getElem?_toArray, List.getElem?_cons_zero] at c0 c2
  obtain ⟨va, vc, rfl⟩ := row_slice hr2
  rw [List.length_reverse] at c2
  have hsl := slen_any bs v xs.length _ base _ c0 hr
  clear hh hh2 hr hr2
  go_enter Tryz.func18, Tryz.ntmps18
  go_wp2_with fail
  refine (hsl.mono (fun _ _ h => (⟨h.1, h.2.symm⟩ : _ ∧ _ = _))).mono ?_
  rintro e w1 ⟨rfl, rfl⟩
  go_wp2
  go_ret
  exact ⟨by simp, hfin⟩

end Go.Proofs.YtcjblafohfiiaabGreat
