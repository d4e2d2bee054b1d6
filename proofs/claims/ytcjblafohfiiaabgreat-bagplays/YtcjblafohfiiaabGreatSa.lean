/-
  stackOp: All.
-/
import Derived.Test.YtcjblafohfiiaabGreatSo
set_option linter.unusedVariables false
namespace Go.Proofs.YtcjblafohfiiaabGreat
open Go.RowKit Go.Shelf

/-- A stack's iterator gives it from the top, in every world in which the stack lies. -/
theorem walked_stack {w W : World} {base bs Bl : Nat} {m : Int} {xs : List Int} {Fs : List Nat} (hs : Stk w base bs m xs Fs) (hlen : xs.length < 1000000) (hB : Below w.heap.size w W) (hbl : W.cell? ⟨Bl, 0, none⟩ = some (.func (.func 78) #[.pointer (some ⟨bs, 0, none⟩)] #[])) :
    Walked Tryz.prog 103 Bl xs.reverse W := by
  have hs' := hs.keep (Touch.of_below hB []) (by intro k _ h; simp at h)
  obtain ⟨v, hh, _, hr, _⟩ := hs'
  have c0 := heap_cell hh 0
  simp only [List.getElem?_toArray, List.getElem?_cons_zero] at c0
  exact frozenS_any Bl bs v xs W hbl c0 (slice_of_row hr rfl (Nat.le_refl _)) hlen

theorem cutTo_le (n : Nat) (stop : Int) : cutTo n stop ≤ n := by unfold cutTo; split <;> omega

set_option maxHeartbeats 4000000 in
theorem so_all (d i bs br base : Nat) (m : Int) (xs : List Int) (F : List Nat) (k : Int) (sec : Bool) (n wd : Int) (s : ByteArray) (stop : Int) (w : World) (hi : i < 2) (hp : PS w base bs br m xs F) (hbase : base ≤ w.heap.size) (hlen : xs.length < 1000000) (hk1 : (k == 1) = false) (hk2 : (k == 2) = false) (hk3 : (k == 3) = false)
    (hc : w.cell? ⟨d, i, none⟩ = some (.pointer (some ⟨bs, 0, none⟩))) (hcr : w.cell? ⟨d, 10 + i, none⟩ = some (.pointer (some ⟨br, 0, none⟩))) :
    Calls Tryz.prog 18 #[.pointer (some ⟨d, 0, none⟩), .agg (opv k sec n wd s stop), .int .i64 i] w fun e w' => e = .returned (.bool true) ∧ ∃ F', PS w' base bs br m xs F' ∧ Touch F w w' ∧ Newer w.heap.size F F' := by
  obtain ⟨Fs, Fr, hs, hn, hap, rfl⟩ := hp
  have hi' : (i : Int) < 2 := by omega
  have hdl : d < w.heap.size := World.block_lt_of_cell? _ _ hc
  have ha : Touch [] w (w.alloc (.cells (opv k sec n wd s stop) 31)) := Touch.alloc _ _ _
  have hs0 := hs.keep ha (by intro k _ h; simp at h)
  have hn0 := hn.keep ha (by intro k _ h; simp at h)
  have bO := Boxed6.new w (opv k sec n wd s stop) 31
  have cS := heap_cell bO 5
  simp only [List.getElem?_toArray, List.getElem?_cons_zero, List.getElem?_cons_succ] at cS
  go_enter Tryz.func18, Tryz.ntmps18
  go_wp2_with fail
  have hza : (w.alloc (.cells (opv k sec n wd s stop) 31)).heap.size = w.heap.size + 1 := by simp
  generalize hwa : w.alloc (.cells (opv k sec n wd s stop) 31) = wa at ha hs0 hn0 bO cS hza ⊢
  have hza' : w.heap.size < wa.heap.size := by omega
  clear hza hwa
  have hin : ∀ W : World, Below wa.heap.size wa W → W.cell? ⟨wa.heap.size, 0, none⟩ = some (.func (.func 78) #[.pointer (some ⟨bs, 0, none⟩)] #[]) →
      Calls Tryz.prog 33 #[.func (.func 103) #[] #[.pointer (some ⟨wa.heap.size, 0, none⟩)], .int .i64 stop] W fun e w' =>
        ∃ v, e = .returned (.tuple #[v, .bool true]) ∧ w'.ownsRow wa.heap.size 3 1 v (cutTo xs.length stop) (ints (xs.reverse.take (cutTo xs.length stop))) ∧ Below wa.heap.size wa w' := fun W hB hl => by
    have h := ints_any wa.heap.size stop xs.reverse W (by simpa using hlen) (fun W' hB' => walked_stack hs0 hlen (hB.trans (hB'.mono hB.size)) ((hB'.cell (p := ⟨wa.heap.size, 0, none⟩) (World.block_lt_of_cell? _ _ hl)).trans hl))
    rw [List.length_reverse] at h
    refine h.mono ?_
    rintro e w' ⟨v, he, hr, hb⟩
    exact ⟨v, he, row_base hr hB.size, hB.trans (hb.mono hB.size)⟩
  go_region_with (first | (go_at_call 34; refine (sall_any _ _).mono ?_; rintro e w' ⟨rfl, rfl⟩) | (go_at_call 33; refine (hin _ (by first | exact ((Below.refl _ wa).drew).alloc (Nat.le_refl _) _ | exact ((Below.refl _ wa).alloc (Nat.le_refl _) _).drew) (by first | exact (Boxed.new wa.drew _ _).cell | exact (Boxed.new wa _ _).cell)).mono ?_; rintro e w2 ⟨v, rfl, hrv, hb2⟩))
  all_goals
    have hT2 : Touch [] wa w2 := Touch.of_below hb2 []
    have hn2 := hn0.keep hT2 (by intro k _ h; simp at h)
    have hs2 := hs0.keep hT2 (by intro k _ h; simp at h)
    have hfin : ∀ q, ∃ F', PS (w2.drewN q) base bs br m xs F' ∧ Touch (Fs ++ Fr) w (w2.drewN q) ∧ Newer w.heap.size (Fs ++ Fr) F' := fun q =>
      ⟨Fs ++ Fr, ⟨Fs, Fr, hs2.keep (Touch.drewN [] w2 q) (by intro k _ h; simp at h), hn2.keep (Touch.drewN [] w2 q) (by intro k _ h; simp at h), hap, rfl⟩, ((ha.trans hT2).trans (Touch.drewN _ _ _)).mono (by simp), Newer.refl _ _⟩
    obtain ⟨v2, hh2, _, hr2, _⟩ := hn2
    have c2 := heap_cell hh2 0
    have cS2 := heap_cell (box_old bO hT2 (by simp)) 5
    simp only [List.getElem?_toArray, List.getElem?_cons_zero, List.getElem?_cons_succ] at c2 cS2
    have hcl := cutTo_le xs.length stop
    have hlv : cutTo xs.length stop = (xs.reverse.take (cutTo xs.length stop)).length := by rw [List.length_take, List.length_reverse]; omega
    have hl1 : (xs.reverse.take (cutTo xs.length stop)).length < 1000000 := by omega
    have hv := slice_of_row hrv hlv (Nat.le_refl w2.heap.size)
    have hut := fun q => upTo_any xs.length stop (w2.drewN q)
    rcases hr2.2 with ⟨rfl, h0⟩ | ⟨g, cap, cur, rfl, hgb, hgg, hgn, hgm, hgs, hgt⟩
    · obtain rfl : xs = [] := by simpa using h0
      have hc0 : cutTo ([] : List Int).length stop = 0 := by simpa using hcl
      rw [hc0] at hut
      have hsame : ∀ q, Calls Tryz.prog 35 #[v, .slice none 0 0] (w2.drewN q) fun e w' => e = .returned (.bool true) ∧ ∃ nq, w' = (w2.drewN q).drewN nq := fun q =>
        sameInts_any v _ w2.heap.size w2.heap.size [] (w2.drewN q) (by decide) (by show SliceIs w2.heap.size w2 v []; simpa using hv) (.inl ⟨rfl, rfl⟩)
      clear hr2 hh2 hrv hv hl1 hlv hcl hc0 hn0 hs0 hs2 hin
      go_wp2_with fail
      go_quiet (first | (go_at_call 36; exact Calls.quiet_of_same ((hut _).mono fun _ _ h => ⟨h.1, h.2.symm⟩)) | (go_at_call 35; exact Calls.quiet_of (hsame _)))
      go_wp2
      go_ret
      exact ⟨rfl, hfin _⟩
    · have hsame : ∀ q, Calls Tryz.prog 35 #[v, .slice (some ⟨g, 0, none⟩) (cutTo xs.length stop) cap] (w2.drewN q) fun e w' => e = .returned (.bool true) ∧ ∃ nq, w' = (w2.drewN q).drewN nq := fun q =>
        sameInts_any v _ w2.heap.size w2.heap.size (xs.reverse.take (cutTo xs.length stop)) (w2.drewN q) hl1 hv (.inr ⟨g, 0, cap, by rw [← hlv], heap_lt hgg, fun j y hj => by
          rw [List.getElem?_take] at hj
          split at hj
          · obtain ⟨g3, cap3, e3, h3⟩ := row_cell hr2 j y hj
            simp only [Value.slice.injEq, Option.some.injEq, Addr.mk.injEq, true_and, and_true] at e3
            obtain ⟨rfl, rfl⟩ := e3
            rw [Nat.zero_add]; exact h3
          · cases hj⟩)
      rw [List.length_reverse] at c2 hgn
      have hb1 : ((cutTo xs.length stop : Nat) : Int) ≤ cap := by omega
      generalize cutTo xs.length stop = mm at *
      clear hr2 hh2 hrv hv hl1 hlv hcl hn0 hs0 hs2 hin hgg hgt
      unfold maxLen at hgm
      go_wp2_with fail
      go_quiet (first | (go_at_call 36; exact Calls.quiet_of_same ((hut _).mono fun _ _ h => ⟨h.1, h.2.symm⟩)) | (go_at_call 35; exact Calls.quiet_of (hsame _)))
      go_wp2
      go_ret
      exact ⟨rfl, hfin _⟩

/-- One step of a stack, whatever it is. -/
theorem so_any (d i bs br base : Nat) (m : Int) (xs : List Int) (F : List Nat) (k : Int) (sec : Bool) (n wd : Int) (s : ByteArray) (stop : Int) (w : World) (hi : i < 2) (hp : PS w base bs br m xs F) (hbase : base ≤ w.heap.size) (hlen : xs.length < 1000000)
    (hc : w.cell? ⟨d, i, none⟩ = some (.pointer (some ⟨bs, 0, none⟩))) (hcr : w.cell? ⟨d, 10 + i, none⟩ = some (.pointer (some ⟨br, 0, none⟩))) :
    Calls Tryz.prog 18 #[.pointer (some ⟨d, 0, none⟩), .agg (opv k sec n wd s stop), .int .i64 i] w fun e w' => e = .returned (.bool true) ∧ ∃ xs' F', xs'.length ≤ xs.length + 1 ∧ PS w' base bs br m xs' F' ∧ Touch F w w' ∧ Newer w.heap.size F F' := by
  by_cases h1 : k = 1
  · subst h1
    by_cases hf : 0 < m ∧ m ≤ (xs.length : Int)
    · exact (so_full d i bs br base m xs F sec n wd s stop w hi hp hbase hlen hc hcr hf).mono fun e w' ⟨he, F', h⟩ => ⟨he, xs, F', by omega, h⟩
    · exact (so_push d i bs br base m xs F sec n wd s stop w hi hp hbase hlen hc hcr hf).mono fun e w' ⟨he, F', h⟩ => ⟨he, _, F', by simp, h⟩
  · by_cases h2 : k = 2
    · subst h2
      rcases List.eq_nil_or_concat xs with rfl | ⟨ys, x, rfl⟩
      · exact (so_pop0 d i bs br base m F sec n wd s stop w hi hp hc hcr).mono fun e w' ⟨he, F', h⟩ => ⟨he, [], F', by simp, h⟩
      · rw [List.concat_eq_append] at hp hlen ⊢
        exact (so_pop d i bs br base m x ys F sec n wd s stop w hi hp hbase (by simp at hlen; omega) hc hcr).mono fun e w' ⟨he, F', h⟩ => ⟨he, ys, F', by simp; omega, h⟩
    · by_cases h3 : k = 3
      · subst h3
        exact (so_len d i bs br base m xs F sec n wd s stop w hi hp hc hcr).mono fun e w' ⟨he, F', h⟩ => ⟨he, xs, F', by omega, h⟩
      · exact (so_all d i bs br base m xs F k sec n wd s stop w hi hp hbase hlen (by simpa using h1) (by simpa using h2) (by simpa using h3) hc hcr).mono fun e w' ⟨he, F', h⟩ => ⟨he, xs, F', by omega, h⟩

set_option maxHeartbeats 2000000 in
/-- plays, of a stack. -/
theorem plays_stack (R : World → Prop) (d : Nat) (k : Int) (sec : Bool) (n wd : Int) (s : ByteArray) (stop : Int) (w : World) (hk1 : 1 ≤ k) (hk4 : k ≤ 4)
    (h : Calls Tryz.prog 18 #[.pointer (some ⟨d, 0, none⟩), .agg (opv k sec n wd s stop), .int .i64 (if sec = true then 1 else 0)] (w.alloc (.cells (opv k sec n wd s stop) 31)) fun e w' => e = .returned (.bool true) ∧ R w') :
    Calls Tryz.prog 9 #[.pointer (some ⟨d, 0, none⟩), .agg (opv k sec n wd s stop)] w fun e w' => e = .returned (.bool true) ∧ R w' := by
  have e1 : ¬ k < 1 := by omega
  have e2 : ¬ 26 < k := by omega
  cases sec
  · simp only [Bool.false_eq_true, if_false] at h
    go_enter Tryz.func9, Tryz.ntmps9
    go_wp2_with fail
    refine h.mono ?_
    rintro e w' ⟨rfl, hR⟩
    go_wp2
    go_ret
    exact ⟨rfl, hR⟩
  · simp only [if_true] at h
    go_enter Tryz.func9, Tryz.ntmps9
    go_wp2_with fail
    refine h.mono ?_
    rintro e w' ⟨rfl, hR⟩
    go_wp2
    go_ret
    exact ⟨rfl, hR⟩

end Go.Proofs.YtcjblafohfiiaabGreat
