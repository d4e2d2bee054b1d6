/-
  The document's roots: Handles, Queue, Handle.
-/
import Derived.Test.YtemdmpfifcihfaaR30
import Derived.Laws.AppendOwnNone
set_option linter.unusedVariables false
namespace Go.Proofs.Ytemdmpfifcihfaa
open Go.RowKit

theorem rrow_h (S : Sta) : rrow S (S.T * 2) = tolds S.hs := by simp [rrow]
theorem rrow_q (S : Sta) : rrow S (S.T * 2 + 1) = S.qs := by simp [rrow]
theorem tolds_length (hs : List (Option Int)) : (tolds hs).length = hs.length := by simp [tolds]

section
variable {w : World} {base b : Nat} {vt : Value} {vs : Nat → Value} {S : Sta}

theorem Rf.hnd (H : Rf w base b vt vs S) : w.ownsRow base 3 1 (vs (S.T * 2)) S.hs.length (ints (tolds S.hs)) := by
  have := H.row (S.T * 2) (by omega)
  rw [rrow_h, tolds_length] at this
  exact this

theorem Rf.que (H : Rf w base b vt vs S) : w.ownsRow base 3 1 (vs (S.T * 2 + 1)) S.qs.length (ints S.qs) := by
  have := H.row (S.T * 2 + 1) (by omega)
  rw [rrow_q] at this
  exact this

theorem Rf.cell0 (H : Rf w base b vt vs S) : w.cell? ⟨b, 0, none⟩ = some vt := by have := heap_cell H.own 0; simpa using this
theorem Rf.cell1 (H : Rf w base b vt vs S) : w.cell? ⟨b, 1, none⟩ = some (.int .i64 S.most) := by have := heap_cell H.own 1; simpa using this
theorem Rf.cell2 (H : Rf w base b vt vs S) : w.cell? ⟨b, 2, none⟩ = some (vs (S.T * 2)) := by have := heap_cell H.own 2; simpa using this
theorem Rf.cell3 (H : Rf w base b vt vs S) : w.cell? ⟨b, 3, none⟩ = some (vs (S.T * 2 + 1)) := by have := heap_cell H.own 3; simpa using this
end

set_option maxRecDepth 20000 in
set_option maxHeartbeats 1000000 in
theorem rhandles_own (b base n : Nat) (v : Value) (xs : List Int) (w : World) (hc : w.cell? ⟨b, 2, none⟩ = some v) (hr : w.ownsRow base 3 1 v n (ints xs)) (hn : n < 8796093022208) :
    Calls Try.prog 58 #[.pointer (some ⟨b, 0, none⟩)] w fun e w' => ∃ v', e = .returned v' ∧ w'.ownsRow w.heap.size 3 1 v' n (ints xs) ∧ Below w.heap.size w w' := by
  obtain ⟨i0, hi0, hz0, hz1, hz2⟩ := info_parts Try.infoInt
  have hl := hr.1
  have HH : Hid ((Try.prog.info? 3 = some i0) ∧ i0.zero = some (.int .i64 0) ∧ i0.size = 1 ∧ i0.bytes = 8) := ⟨hi0, hz0, hz1, hz2⟩
  clear hi0 hz0 hz1 hz2
  rcases hr.2 with ⟨rfl, rfl⟩ | ⟨g, cap, cur, rfl, -⟩
  · have hx : ints xs = [] := List.eq_nil_of_length_eq_zero (by simpa using hl)
    rw [hx]
    clear hr hl hx
    go_enter Try.func58, Try.ntmps58
    go_wp2_with (at_builtin; refine wpList_append_own_none rfl _ _ 31 rfl w.heap.size 3 i0 1 Try.underlying31 HH.out.1 (.slice none 0 0) 0 [] rfl (World.ownsRow_nil _ _ _ _) rfl ?_)
    go_wp2
    go_ret
    exact ⟨_, rfl, World.ownsRow_nil _ _ _ _, Below.refl _ _⟩
  · have HN : Hid (∀ j u, (ints xs)[j]? = some u → w.cell? ((⟨g, 0, none⟩ : Addr).add j) = some u) := hr.cells (g := g) rfl
    have HO : Hid (∀ u ∈ ints xs, u.oneCell' = true) := fun u hu => by
      obtain ⟨i, -, rfl⟩ := List.mem_map.1 hu; rfl
    have HL : Hid ((ints xs).length = n * 1) := hl
    have Hn : Hid (n < 8796093022208) := hn
    clear hr hl hn
    go_enter Try.func58, Try.ntmps58
    go_wp2_with (at_builtin; refine wpList_append_own_at _ rfl _ _ 31 rfl w.heap.size 3 i0 (.int .i64 0) 1 8 Try.underlying31 HH.out.1 HH.out.2.1 HH.out.2.2.1 HH.out.2.2.2 rfl (by decide) (.slice none 0 0) 0 [] rfl (World.ownsRow_nil _ _ _ _) ⟨g, 0, none⟩ n cap (ints xs) rfl HL.out HN.out HO.out (by have := Hn.out; simp [maxLen]; omega) (by have := Hn.out; omega) (by simp) ?_)
    intro v' w2 ho hg _ _
    have hb2 : Below w.heap.size w w2 := (Below.refl _ w).grown hg (Nat.le_refl _) (fun k e => by simp [Value.ownBlock] at e)
    have ho2 : w2.ownsRow w.heap.size 3 1 v' n (ints xs) := by simpa using ho
    obtain ⟨a, c, rfl⟩ := own_slice ho2
    have HO2 : Hid (w2.ownsRow w.heap.size 3 1 (.slice a n c) n (ints xs)) := ho2
    clear ho hg ho2
    go_wp2
    go_ret
    exact ⟨_, rfl, HO2.out, hb2⟩

set_option maxRecDepth 20000 in
set_option maxHeartbeats 1000000 in
theorem rqueue_own (b base n : Nat) (v : Value) (xs : List Int) (w : World) (hc : w.cell? ⟨b, 3, none⟩ = some v) (hr : w.ownsRow base 3 1 v n (ints xs)) (hn : n < 8796093022208) :
    Calls Try.prog 61 #[.pointer (some ⟨b, 0, none⟩)] w fun e w' => ∃ v', e = .returned v' ∧ w'.ownsRow w.heap.size 3 1 v' n (ints xs) ∧ Below w.heap.size w w' := by
  obtain ⟨i0, hi0, hz0, hz1, hz2⟩ := info_parts Try.infoInt
  have hl := hr.1
  have HH : Hid ((Try.prog.info? 3 = some i0) ∧ i0.zero = some (.int .i64 0) ∧ i0.size = 1 ∧ i0.bytes = 8) := ⟨hi0, hz0, hz1, hz2⟩
  clear hi0 hz0 hz1 hz2
  rcases hr.2 with ⟨rfl, rfl⟩ | ⟨g, cap, cur, rfl, -⟩
  · have hx : ints xs = [] := List.eq_nil_of_length_eq_zero (by simpa using hl)
    rw [hx]
    clear hr hl hx
    go_enter Try.func61, Try.ntmps61
    go_wp2_with (at_builtin; refine wpList_append_own_none rfl _ _ 31 rfl w.heap.size 3 i0 1 Try.underlying31 HH.out.1 (.slice none 0 0) 0 [] rfl (World.ownsRow_nil _ _ _ _) rfl ?_)
    go_wp2
    go_ret
    exact ⟨_, rfl, World.ownsRow_nil _ _ _ _, Below.refl _ _⟩
  · have HN : Hid (∀ j u, (ints xs)[j]? = some u → w.cell? ((⟨g, 0, none⟩ : Addr).add j) = some u) := hr.cells (g := g) rfl
    have HO : Hid (∀ u ∈ ints xs, u.oneCell' = true) := fun u hu => by
      obtain ⟨i, -, rfl⟩ := List.mem_map.1 hu; rfl
    have HL : Hid ((ints xs).length = n * 1) := hl
    have Hn : Hid (n < 8796093022208) := hn
    clear hr hl hn
    go_enter Try.func61, Try.ntmps61
    go_wp2_with (at_builtin; refine wpList_append_own_at _ rfl _ _ 31 rfl w.heap.size 3 i0 (.int .i64 0) 1 8 Try.underlying31 HH.out.1 HH.out.2.1 HH.out.2.2.1 HH.out.2.2.2 rfl (by decide) (.slice none 0 0) 0 [] rfl (World.ownsRow_nil _ _ _ _) ⟨g, 0, none⟩ n cap (ints xs) rfl HL.out HN.out HO.out (by have := Hn.out; simp [maxLen]; omega) (by have := Hn.out; omega) (by simp) ?_)
    intro v' w2 ho hg _ _
    have hb2 : Below w.heap.size w w2 := (Below.refl _ w).grown hg (Nat.le_refl _) (fun k e => by simp [Value.ownBlock] at e)
    have ho2 : w2.ownsRow w.heap.size 3 1 v' n (ints xs) := by simpa using ho
    obtain ⟨a, c, rfl⟩ := own_slice ho2
    have HO2 : Hid (w2.ownsRow w.heap.size 3 1 (.slice a n c) n (ints xs)) := ho2
    clear ho hg ho2
    go_wp2
    go_ret
    exact ⟨_, rfl, HO2.out, hb2⟩

theorem rhandles_any (base b : Nat) (S : Sta) (F : List Nat) (w : World) (H : Rfs w base b S F) (hO : S.Ok) :
    Calls Try.prog 58 #[.pointer (some ⟨b, 0, none⟩)] w fun e w' => ∃ v', e = .returned v' ∧ w'.ownsRow w.heap.size 3 1 v' S.hs.length (ints (tolds S.hs)) ∧ Below w.heap.size w w' := by
  obtain ⟨vt, vs, H, rfl⟩ := H
  exact rhandles_own b base _ _ _ w H.cell2 H.hnd (by have := hO.hn; omega)

theorem rqueue_any (base b : Nat) (S : Sta) (F : List Nat) (w : World) (H : Rfs w base b S F) (hn : S.qs.length < 8796093022208) :
    Calls Try.prog 61 #[.pointer (some ⟨b, 0, none⟩)] w fun e w' => ∃ v', e = .returned v' ∧ w'.ownsRow w.heap.size 3 1 v' S.qs.length (ints S.qs) ∧ Below w.heap.size w w' := by
  obtain ⟨vt, vs, H, rfl⟩ := H
  exact rqueue_own b base _ _ _ w H.cell3 H.que hn

theorem own_set {B g n C i : Nat} {w : World} {e : TypeId} {xs : List Value} (h : w.ownsRow B e 1 (.slice (some ⟨g, 0, none⟩) n C) n xs) (u : Value) : (w.setCell ⟨g, i, none⟩ u).ownsRow B e 1 (.slice (some ⟨g, 0, none⟩) n C) n (xs.set i u) := by
  obtain ⟨hl, ⟨h0, _⟩ | ⟨g', cap, cur, hv, hge, hh, hn, hm, hs, ht⟩⟩ := h
  · cases h0
  · injection hv with e1 _ e3
    injection e1 with e1
    injection e1 with e1
    subst e1; subst e3
    refine ⟨by simpa using hl, .inr ⟨g, C, cur.setIfInBounds i u, rfl, hge, heap_set hh i u, hn, hm, by simpa using hs, ?_⟩⟩
    rw [Array.toList_setIfInBounds, List.take_set, ht]

theorem own_thaw {B g n C i : Nat} {w : World} {e : TypeId} {xs : List Value} (h : w.ownsRow B e 1 (.slice (some ⟨g, 0, none⟩) n C) n xs) : w.frozen? ⟨g, i, none⟩ = false := by
  obtain ⟨hl, ⟨h0, _⟩ | ⟨g', cap, cur, hv, hge, hh, hn, hm, hs, ht⟩⟩ := h
  · cases h0
  · injection hv with e1 _ e3
    injection e1 with e1
    injection e1 with e1
    subst e1
    exact heap_frozen hh i

/-- A cell of the handles. -/
theorem Rf.hcell {w : World} {base b : Nat} {vt : Value} {vs : Nat → Value} {S : Sta} (H : Rf w base b vt vs S) {k : Nat} (hk : k < S.hs.length) : ∃ g cap, vs (S.T * 2) = .slice (some ⟨g, 0, none⟩) S.hs.length cap ∧ w.cell? ⟨g, k, none⟩ = some (.int .i64 ((S.hs[k]).getD (-1))) ∧ w.frozen? ⟨g, k, none⟩ = false := by
  have h := H.hnd
  obtain ⟨g, cap, e, -, -⟩ := own_addr h (by omega)
  rw [e] at h
  refine ⟨g, cap, e, ?_, own_thaw h⟩
  have h2 := h.cells (g := g) rfl k (.int .i64 ((S.hs[k]).getD (-1))) (by simp [ints, tolds, hk])
  rwa [Addr.add_lit, Nat.zero_add] at h2

theorem tolds_set (hs : List (Option Int)) (k : Nat) (o : Option Int) : tolds (hs.set k o) = (tolds hs).set k (o.getD (-1)) := by
  unfold tolds
  rw [List.map_set]

/-- A handle is set. -/
theorem Rf.setH {w : World} {base b : Nat} {vt : Value} {vs : Nat → Value} {S : Sta} (H : Rf w base b vt vs S) {g cap : Nat} (hv : vs (S.T * 2) = .slice (some ⟨g, 0, none⟩) S.hs.length cap) (k : Nat) (o : Option Int) :
    Rf (w.setCell ⟨g, k, none⟩ (.int .i64 (o.getD (-1)))) base b vt vs { S with hs := S.hs.set k o } ∧ Touch (rfp b vt S.T vs) w (w.setCell ⟨g, k, none⟩ (.int .i64 (o.getD (-1)))) := by
  have ht : Touch [g] w (w.setCell ⟨g, k, none⟩ (.int .i64 (o.getD (-1)))) := Touch.setCell _ _ _ (by simp)
  have hg : (vs (S.T * 2)).ownBlock = some g := by rw [hv]; rfl
  have hb : b ∉ [g] := fun h => (row_ne2 H.own H.hnd) (by rw [hg]; simpa using h)
  refine ⟨⟨H.bb, (ht.block b (heap_lt H.own) hb).trans H.own, own_keep (k := 0) H.thr (fun j e => ht.block j (H.thr.lt j e).2 (fun hm => (rows_ne H.thr H.hnd) j e (by rw [hg, (by simpa using hm : j = g)]))), fun j hj => ?_, H.ap⟩, ht.mono (fun j hj => .inl (mem_rfp.2 (.inr (.inr ⟨S.T * 2, by omega, by rw [hg, (by simpa using hj : j = g)]⟩))))⟩
  by_cases e : j = S.T * 2
  · subst e
    have h := H.hnd
    rw [hv] at h
    have h2 := own_set (i := k) h (.int .i64 (o.getD (-1)))
    rw [show rrow { S with hs := S.hs.set k o } (S.T * 2) = tolds (S.hs.set k o) from rrow_h { S with hs := S.hs.set k o }, tolds_length, List.length_set, hv, tolds_set]
    simpa [ints, List.map_set] using h2
  · have e2 : rrow { S with hs := S.hs.set k o } j = rrow S j := by
      unfold rrow
      rw [if_neg e, if_neg e]
    rw [e2]
    exact own_keep (k := 0) (H.row j hj) (fun i ei => ht.block i ((H.row j hj).lt i ei).2 (fun hm => e (H.ap j (S.T * 2) i hj (by omega) ei (by rw [hg, (by simpa using hm : i = g)]))))

theorem hop_some {hs : List (Option Int)} {k : Nat} {y : Int} (h : hs[k]? = some (some y)) : hop hs k = true ∧ hat hs k = y := by
  unfold hop hat
  rw [h]
  exact ⟨rfl, rfl⟩

theorem hop_none {hs : List (Option Int)} {k : Nat} (h : hs[k]? = some none ∨ hs[k]? = none) : hop hs k = false := by
  unfold hop
  rcases h with h | h <;> rw [h]

set_option maxRecDepth 20000 in
theorem rhandle_any (base b : Nat) (i : Int) (S : Sta) (F : List Nat) (w : World) (H : Rfs w base b S F) (hO : S.Ok) :
    Calls Try.prog 56 #[.pointer (some ⟨b, 0, none⟩), .int .i64 i] w fun e w' => e = .returned (.tuple #[.int .i64 (S.handleV i), .int .i64 (S.handleE i)]) ∧ w = w' := by
  obtain ⟨vt, vs, H, rfl⟩ := H
  by_cases h0 : i < 0
  · have e1 : S.handleV i = 0 := by unfold Sta.handleV; rw [if_neg (by omega)]
    have e2 : S.handleE i = 55 := by unfold Sta.handleE; rw [if_neg (by omega)]
    rw [e1, e2]
    clear H hO e1 e2
    go_enter Try.func56, Try.ntmps56
    go_wp2
    go_ret2
    exact ⟨rfl, rfl⟩
  obtain ⟨k, rfl⟩ := Int.eq_ofNat_of_zero_le (show 0 ≤ i by omega)
  by_cases hk : k < S.hs.length
  · obtain ⟨g, cap, hv, hc, -⟩ := H.hcell hk
    have c2 := H.cell2
    rw [hv] at c2
    have hki : (k : Int) < (S.hs.length : Int) := by omega
    cases ex : S.hs[k] with
    | none =>
      rw [ex] at hc
      have hp := hop_none (hs := S.hs) (k := k) (.inl (by rw [List.getElem?_eq_getElem hk, ex]))
      have e1 : S.handleV k = 0 := by unfold Sta.handleV; rw [if_neg (by rw [Int.toNat_natCast, hp]; simp)]
      have e2 : S.handleE k = 55 := by unfold Sta.handleE; rw [if_neg (by rw [Int.toNat_natCast, hp]; simp)]
      rw [e1, e2]
      simp only [Option.getD_none] at hc
      clear H hO e1 e2 hp ex hv
      go_enter Try.func56, Try.ntmps56
      go_wp2
      go_ret2
      exact ⟨rfl, rfl⟩
    | some y =>
      rw [ex] at hc
      have hp := hop_some (hs := S.hs) (k := k) (y := y) (by rw [List.getElem?_eq_getElem hk, ex])
      have e1 : S.handleV k = y := by unfold Sta.handleV; rw [if_pos ⟨by omega, by rw [Int.toNat_natCast]; exact hp.1⟩, Int.toNat_natCast, hp.2]
      have e2 : S.handleE k = 0 := by unfold Sta.handleE; rw [if_pos ⟨by omega, by rw [Int.toNat_natCast]; exact hp.1⟩]
      rw [e1, e2]
      have hy : ¬ y < 0 := by have := hO.h0 y (by rw [← ex]; exact List.getElem_mem hk); omega
      simp only [Option.getD_some] at hc
      clear H hO e1 e2 hp ex hv
      go_enter Try.func56, Try.ntmps56
      go_wp2
      go_ret2
      exact ⟨rfl, rfl⟩
  · have hp := hop_none (hs := S.hs) (k := k) (.inr (List.getElem?_eq_none (by omega)))
    have e1 : S.handleV k = 0 := by unfold Sta.handleV; rw [if_neg (by rw [Int.toNat_natCast, hp]; simp)]
    have e2 : S.handleE k = 55 := by unfold Sta.handleE; rw [if_neg (by rw [Int.toNat_natCast, hp]; simp)]
    rw [e1, e2]
    have c2 := H.cell2
    obtain ⟨a, c, ev⟩ := own_slice H.hnd
    rw [ev] at c2
    have hki : (k : Int) ≥ (S.hs.length : Int) := by omega
    clear H hO e1 e2 hp ev
    go_enter Try.func56, Try.ntmps56
    go_wp2
    go_ret2
    exact ⟨rfl, rfl⟩

set_option maxRecDepth 20000 in
theorem rclose_any (base b : Nat) (i : Int) (S : Sta) (F : List Nat) (w : World) (H : Rfs w base b S F) (hO : S.Ok) :
    Calls Try.prog 57 #[.pointer (some ⟨b, 0, none⟩), .int .i64 i] w fun e w' => e = .returned (.int .i64 (S.handleE i)) ∧ Rfs w' base b (S.closeS i) F ∧ Touch F w w' := by
  have hh := rhandle_any base b i S F w H hO
  obtain ⟨vt, vs, H, rfl⟩ := H
  by_cases hi : 0 ≤ i ∧ hop S.hs i.toNat = true
  · obtain ⟨k, rfl⟩ := Int.eq_ofNat_of_zero_le hi.1
    have hk := hop_lt hi.2
    obtain ⟨g, cap, hv, hc, hf⟩ := H.hcell (k := k) (by simpa using hk)
    have e2 : S.handleE k = 0 := by unfold Sta.handleE; rw [if_pos hi]
    have e3 : S.closeS k = { S with hs := S.hs.set k none } := by unfold Sta.closeS; rw [if_pos hi]; rfl
    rw [e2] at hh
    rw [e2, e3]
    have c2 := H.cell2
    rw [hv] at c2
    have HS : Hid (Rf (w.setCell ⟨g, k, none⟩ (.int .i64 (-1))) base b vt vs { S with hs := S.hs.set k none } ∧ Touch (rfp b vt S.T vs) w (w.setCell ⟨g, k, none⟩ (.int .i64 (-1)))) := H.setH hv k none
    have hki : (k : Int) < (S.hs.length : Int) := by simp at hk; omega
    obtain ⟨z, hz⟩ : ∃ z : Int, w.cell? ⟨g, k, none⟩ = some (.int .i64 z) := ⟨_, hc⟩
    clear hc H hO e2 e3 hi hk hv
    go_enter Try.func57, Try.ntmps57
    go_wp2_with fail
    refine hh.mono ?_
    rintro e w1 ⟨rfl, rfl⟩
    clear hh
    go_wp2
    go_ret
    exact ⟨rfl, ⟨vt, vs, HS.out.1, rfl⟩, HS.out.2⟩
  · have e2 : S.handleE i = 55 := by unfold Sta.handleE; rw [if_neg hi]
    have e3 : S.closeS i = S := by unfold Sta.closeS; rw [if_neg hi]
    rw [e2] at hh
    rw [e2, e3]
    have HS : Hid (Rf w base b vt vs S) := H
    clear H hO e2 e3 hi
    go_enter Try.func57, Try.ntmps57
    go_wp2_with fail
    refine hh.mono ?_
    rintro e w1 ⟨rfl, rfl⟩
    clear hh
    go_wp2
    go_ret
    exact ⟨rfl, ⟨vt, vs, HS.out, rfl⟩, Touch.refl _ _⟩

end Go.Proofs.Ytemdmpfifcihfaa
