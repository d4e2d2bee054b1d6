/-
  One step of a queue of numbers: Len and All.
-/
import Derived.Test.YtcjblafohfiiaabGreatXQo
import Derived.Test.YtcjblafohfiiaabGreatSa
set_option linter.unusedVariables false
namespace Go.Proofs.YtcjblafohfiiaabGreat.Tx
open Go.RowKit Go.Shelf

set_option maxRecDepth 20000 in
set_option maxHeartbeats 2000000 in
theorem qo_len (d i bs br base N : Nat) (m : Int) (xs : List ByteArray) (F : List Nat) (sec : Bool) (n wd : Int) (s : ByteArray) (stop : Int) (w : World) (hi : i < 2) (hp : PQ w base bs br N m xs F)
    (hc : w.cell? ⟨d, 4 + i, none⟩ = some (.pointer (some ⟨bs, 0, none⟩))) (hcr : w.cell? ⟨d, 14 + i, none⟩ = some (.pointer (some ⟨br, 0, none⟩))) :
    Calls Tryz.prog 20 #[.pointer (some ⟨d, 0, none⟩), .agg (opv 13 sec n wd s stop), .int .i64 i] w fun e w' => e = .returned (.bool true) ∧ ∃ F', PQ w' base bs br N m xs F' ∧ Touch F w w' ∧ Newer w.heap.size F F' := by
  obtain ⟨Fs, Fr, hs, hn, hap, rfl⟩ := hp
  have hi' : (i : Int) < 2 := by omega
  have hdl : d < w.heap.size := World.block_lt_of_cell? _ _ hc
  have ha : Touch [] w (w.alloc (.cells (opv 13 sec n wd s stop) 31)) := Touch.alloc _ _ _
  have hs0 := hs.keep ha (by intro k _ h; simp at h)
  have hn0 := hn.keep ha (by intro k _ h; simp at h)
  have hfin : ∀ q, ∃ F', PQ ((w.alloc (.cells (opv 13 sec n wd s stop) 31)).drewN q) base bs br N m xs F' ∧ Touch (Fs ++ Fr) w ((w.alloc (.cells (opv 13 sec n wd s stop) 31)).drewN q) ∧ Newer w.heap.size (Fs ++ Fr) F' := fun q =>
    ⟨Fs ++ Fr, ⟨Fs, Fr, hs0.keep (Touch.drewN [] _ q) (by intro k _ h; simp at h), hn0.keep (Touch.drewN [] _ q) (by intro k _ h; simp at h), hap, rfl⟩, (ha.trans (Touch.drewN _ _ q)).mono (by simp), Newer.refl _ _⟩
  obtain ⟨v, ts, f, hh, _, hr, hf, hd, _, _⟩ := hs0
  obtain ⟨v2, hh2, _, hr2, _⟩ := hn0
  have c0 := heap_cell hh 0
  have c1 := heap_cell hh 1
  have c2 := heap_cell hh2 0
  simp only [List.getElem?_toArray, List.getElem?_cons_zero, List.getElem?_cons_succ] at c0 c1 c2
  obtain ⟨va, vc, rfl⟩ := row_slice hr2
  have hsl := qlen_any bs f ts.length base v _ _ c0 c1 hr hf
  rw [← List.length_drop, hd] at hsl
  clear hh hh2 hr hr2
  go_enter Tryz.func20, Tryz.ntmps20
  go_wp2_with fail
  refine hsl.mono ?_
  rintro e w1 ⟨rfl, q, rfl⟩
  go_wp2
  go_ret
  exact ⟨by simp, hfin _⟩

theorem que_walked {W : World} {base b N Bl : Nat} {m : Int} {xs : List ByteArray} {F : List Nat} (h : Que W base b m N xs F) (hbl : W.cell? ⟨Bl, 0, none⟩ = some (.func (.func 86) #[.pointer (some ⟨b, 0, none⟩)] #[])) (hN : N < 1000000) : Walked Tryz.prog 108 Bl xs W := by
  obtain ⟨v, ts, f, hh, hb, hr, hf, rfl, hn, rfl⟩ := h
  have h0 := heap_cell hh 0
  have h1 := heap_cell hh 1
  simp only [List.getElem?_toArray, List.getElem?_cons_zero, List.getElem?_cons_succ] at h0 h1
  have hl : (ts.drop f).length < 1000000 := by simp; omega
  rcases hr.2 with ⟨rfl, hz⟩ | ⟨g, cap, cur, rfl, _, hg, hnc, hc, _⟩
  · obtain rfl : f = 0 := by omega
    exact frozenQ_any Bl b _ _ _ _ W hbl (held_nil b W h0 h1) (.inl ⟨rfl, by simp; exact List.eq_nil_of_length_eq_zero hz⟩) hl
  · refine frozenQ_any Bl b _ _ _ _ W hbl (held_some b g cap ts.length f W h0 h1 hf hnc hc) (.inr ⟨g, if cap = f then 0 else f, cap - f, ?_, heap_lt hg, ?_⟩) hl
    · rw [List.length_drop]; split <;> rfl
    · intro j x hj
      rw [List.getElem?_drop] at hj
      have hjl := (List.getElem?_eq_some_iff.1 hj).1
      rw [if_neg (by omega), hr.cellAt _ (by omega)]
      simp [hj]

theorem walked_queue {w W : World} {base bs N Bl : Nat} {m : Int} {xs : List ByteArray} {Fs : List Nat} (hs : Que w base bs m N xs Fs) (hN : N < 1000000) (hB : Below w.heap.size w W) (hbl : W.cell? ⟨Bl, 0, none⟩ = some (.func (.func 86) #[.pointer (some ⟨bs, 0, none⟩)] #[])) :
    Walked Tryz.prog 108 Bl xs W := que_walked (hs.keep (Touch.of_below hB []) (by intro k _ h; simp at h)) hbl hN

set_option maxRecDepth 20000 in
set_option maxHeartbeats 4000000 in
theorem qo_all (d i bs br base N : Nat) (m : Int) (xs : List ByteArray) (F : List Nat) (k : Int) (sec : Bool) (n wd : Int) (s : ByteArray) (stop : Int) (w : World) (hi : i < 2) (hp : PQ w base bs br N m xs F) (hbase : base ≤ w.heap.size) (hN : N < 1000000) (hlen : xs.length < 1000000) (hk1 : (k == 10) = false) (hk2 : (k == 11) = false) (hk3 : (k == 12) = false) (hk4 : (k == 13) = false)
    (hc : w.cell? ⟨d, 4 + i, none⟩ = some (.pointer (some ⟨bs, 0, none⟩))) (hcr : w.cell? ⟨d, 14 + i, none⟩ = some (.pointer (some ⟨br, 0, none⟩))) :
    Calls Tryz.prog 20 #[.pointer (some ⟨d, 0, none⟩), .agg (opv k sec n wd s stop), .int .i64 i] w fun e w' => e = .returned (.bool true) ∧ ∃ F', PQ w' base bs br N m xs F' ∧ Touch F w w' ∧ Newer w.heap.size F F' := by
  obtain ⟨Fs, Fr, hs, hn, hap, rfl⟩ := hp
  have hi' : (i : Int) < 2 := by omega
  have hdl : d < w.heap.size := World.block_lt_of_cell? _ _ hc
  have ha : Touch [] w (w.alloc (.cells (opv k sec n wd s stop) 31)) := Touch.alloc _ _ _
  have hs0 := hs.keep ha (by intro k _ h; simp at h)
  have hn0 := hn.keep ha (by intro k _ h; simp at h)
  have bO := Boxed6.new w (opv k sec n wd s stop) 31
  have cS := heap_cell bO 5
  simp only [List.getElem?_toArray, List.getElem?_cons_zero, List.getElem?_cons_succ] at cS
  go_enter Tryz.func20, Tryz.ntmps20
  go_wp2_with fail
  have hza : (w.alloc (.cells (opv k sec n wd s stop) 31)).heap.size = w.heap.size + 1 := by simp
  generalize hwa : w.alloc (.cells (opv k sec n wd s stop) 31) = wa at ha hs0 hn0 bO cS hza ⊢
  have hza' : w.heap.size < wa.heap.size := by omega
  clear hza hwa
  have hin : ∀ W : World, Below wa.heap.size wa W → W.cell? ⟨wa.heap.size, 0, none⟩ = some (.func (.func 86) #[.pointer (some ⟨bs, 0, none⟩)] #[]) →
      Calls Tryz.prog 52 #[.func (.func 108) #[] #[.pointer (some ⟨wa.heap.size, 0, none⟩)], .int .i64 stop] W fun e w' =>
        ∃ v, e = .returned (.tuple #[v, .bool true]) ∧ w'.ownsRow wa.heap.size 9 1 v (cutTo xs.length stop) (strs (xs.take (cutTo xs.length stop))) ∧ Below wa.heap.size wa w' := fun W hB hl => by
    have h := ints_any wa.heap.size stop xs W hlen (fun W' hB' => walked_queue hs0 hN (hB.trans (hB'.mono hB.size)) ((hB'.cell (p := ⟨wa.heap.size, 0, none⟩) (World.block_lt_of_cell? _ _ hl)).trans hl))
    refine h.mono ?_
    rintro e w' ⟨v, he, hr, hb⟩
    exact ⟨v, he, row_base hr hB.size, hB.trans (hb.mono hB.size)⟩
  go_region_with (first | (go_at_call 53; refine (qall_any _ _).mono ?_; rintro e w' ⟨rfl, rfl⟩) | (go_at_call 52; refine (hin _ (by first | exact ((Below.refl _ wa).drew).alloc (Nat.le_refl _) _ | exact ((Below.refl _ wa).alloc (Nat.le_refl _) _).drew) (by first | exact (Boxed.new wa.drew _ _).cell | exact (Boxed.new wa _ _).cell)).mono ?_; rintro e w2 ⟨v, rfl, hrv, hb2⟩))
  all_goals
    have hT2 : Touch [] wa w2 := Touch.of_below hb2 []
    have hn2 := hn0.keep hT2 (by intro k _ h; simp at h)
    have hs2 := hs0.keep hT2 (by intro k _ h; simp at h)
    have hfin : ∀ q, ∃ F', PQ (w2.drewN q) base bs br N m xs F' ∧ Touch (Fs ++ Fr) w (w2.drewN q) ∧ Newer w.heap.size (Fs ++ Fr) F' := fun q =>
      ⟨Fs ++ Fr, ⟨Fs, Fr, hs2.keep (Touch.drewN [] w2 q) (by intro k _ h; simp at h), hn2.keep (Touch.drewN [] w2 q) (by intro k _ h; simp at h), hap, rfl⟩, ((ha.trans hT2).trans (Touch.drewN _ _ _)).mono (by simp), Newer.refl _ _⟩
    obtain ⟨v2, hh2, _, hr2, _⟩ := hn2
    have c2 := heap_cell hh2 0
    have cS2 := heap_cell (box_old bO hT2 (by simp)) 5
    simp only [List.getElem?_toArray, List.getElem?_cons_zero, List.getElem?_cons_succ] at c2 cS2
    have hcl := cutTo_le xs.length stop
    have hlv : cutTo xs.length stop = (xs.take (cutTo xs.length stop)).length := by rw [List.length_take]; omega
    have hl1 : (xs.take (cutTo xs.length stop)).length < 1000000 := by omega
    have hv := slice_of_row hrv hlv (Nat.le_refl w2.heap.size)
    have hut := fun q => upTo_any xs.length stop (w2.drewN q)
    rcases hr2.2 with ⟨rfl, h0⟩ | ⟨g, cap, cur, rfl, hgb, hgg, hgn, hgm, hgs, hgt⟩
    · obtain rfl : xs = [] := by simpa using h0
      have hc0 : cutTo ([] : List ByteArray).length stop = 0 := by simpa using hcl
      rw [hc0] at hut
      have hsame : ∀ q, Calls Tryz.prog 50 #[v, .slice none 0 0] (w2.drewN q) fun e w' => e = .returned (.bool true) ∧ ∃ nq, w' = (w2.drewN q).drewN nq := fun q =>
        sameInts_any v _ w2.heap.size w2.heap.size [] (w2.drewN q) (by decide) (by show SliceIs w2.heap.size w2 v []; simpa using hv) (.inl ⟨rfl, rfl⟩)
      clear hr2 hh2 hrv hv hl1 hlv hcl hc0 hn0 hs0 hs2 hin
      go_wp2_with fail
      go_quiet (first | (go_at_call 36; exact Calls.quiet_of_same ((hut _).mono fun _ _ h => ⟨h.1, h.2.symm⟩)) | (go_at_call 50; exact Calls.quiet_of (hsame _)))
      go_wp2
      go_ret
      exact ⟨rfl, hfin _⟩
    · have hsame : ∀ q, Calls Tryz.prog 50 #[v, .slice (some ⟨g, 0, none⟩) (cutTo xs.length stop) cap] (w2.drewN q) fun e w' => e = .returned (.bool true) ∧ ∃ nq, w' = (w2.drewN q).drewN nq := fun q =>
        sameInts_any v _ w2.heap.size w2.heap.size (xs.take (cutTo xs.length stop)) (w2.drewN q) hl1 hv (.inr ⟨g, 0, cap, by rw [← hlv], heap_lt hgg, fun j y hj => by
          rw [List.getElem?_take] at hj
          split at hj
          · obtain ⟨g3, cap3, e3, h3⟩ := row_cell hr2 j y hj
            simp only [Value.slice.injEq, Option.some.injEq, Addr.mk.injEq, true_and, and_true] at e3
            obtain ⟨rfl, rfl⟩ := e3
            rw [Nat.zero_add]; exact h3
          · cases hj⟩)
      have hb1 : ((cutTo xs.length stop : Nat) : Int) ≤ cap := by omega
      generalize cutTo xs.length stop = mm at *
      clear hr2 hh2 hrv hv hl1 hlv hcl hn0 hs0 hs2 hin hgg hgt
      unfold maxLen at hgm
      go_wp2_with fail
      go_quiet (first | (go_at_call 36; exact Calls.quiet_of_same ((hut _).mono fun _ _ h => ⟨h.1, h.2.symm⟩)) | (go_at_call 50; exact Calls.quiet_of (hsame _)))
      go_wp2
      go_ret
      exact ⟨rfl, hfin _⟩

end Go.Proofs.YtcjblafohfiiaabGreat.Tx
