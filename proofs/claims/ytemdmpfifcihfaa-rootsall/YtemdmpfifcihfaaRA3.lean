import Derived.Test.YtemdmpfifcihfaaRA2
/-
  The document's Push.
-/
set_option linter.unusedVariables false
namespace Go.Proofs.Ytemdmpfifcihfaa
open Go.RowKit

/-- A thread's copy in block B, between the steps of Push. -/
structure Pw (w : World) (base B : Nat) (u1 u2 : Option Nat) (v1 : Value) (l1 : List Int) (v2 : Value) (l2 : List Int) (W : World) : Prop where
  blk : W.heap[B]? = some (.cells #[v1, v2] 76 (0, 0))
  r1 : W.ownsRow base 3 1 v1 l1.length (ints l1)
  r2 : W.ownsRow base 3 1 v2 l2.length (ints l2)
  ht : Touch (u1.toList ++ u2.toList) w W
  a1 : ∀ i, v1.ownBlock = some i → u1 = some i ∨ w.heap.size ≤ i
  a2 : ∀ i, v2.ownBlock = some i → u2 = some i ∨ w.heap.size ≤ i
  ne : ∀ i, v1.ownBlock = some i → v2.ownBlock ≠ some i
  Bw : w.heap.size ≤ B
  bw : base ≤ w.heap.size

theorem Pw.start {w : World} {base b : Nat} {vt : Value} {vs : Nat → Value} {S : Sta} (H : Rf w base b vt vs S) (hb : base ≤ w.heap.size) {k : Nat} (hk : k < S.T) : Pw w base w.heap.size (vs (k * 2)).ownBlock (vs (k * 2 + 1)).ownBlock (vs (k * 2)) (S.rw (k * 2 + 1)) (vs (k * 2 + 1)) (sts (S.rw (k * 2))) (w.alloc (.cells #[vs (k * 2), vs (k * 2 + 1)] 76)) :=
  ⟨heap_alloc_new w _, (H.slots hk).alloc _, by rw [sts_length]; exact (H.starts hk).alloc _, Touch.alloc _ _ _, fun i e => .inl e, fun i e => .inl e, fun i e1 e2 => by have := H.ap _ _ i (by omega) (by omega) e1 e2; omega, Nat.le_refl _, hb⟩

theorem Pw.app2 {w W W1 : World} {base B : Nat} {u1 u2 : Option Nat} {v1 v2 v' : Value} {l1 l2 : List Int} {x : Int} {o : Obj} (P : Pw w base B u1 u2 v1 l1 v2 l2 W)
    (ho : W1.ownsRow base 3 1 v' (l2.length + 1) (ints l2 ++ [.int .i64 x])) (hg : (W.alloc o).grownBy W1 v2.ownBlock) (hat : v'.ownBlock = v2.ownBlock ∨ v'.ownBlock = some (W.heap.size + 1)) :
    W1.cell? ⟨B, 1, none⟩ = some v2 ∧ W1.frozen? ⟨B, 1, none⟩ = false ∧ Pw w base B u1 u2 v1 l1 v' (l2 ++ [x]) (W1.setCell ⟨B, 1, none⟩ v') := by
  have hlt := heap_lt P.blk
  have hsz := P.ht.size
  have hb1 : W1.heap[B]? = some (.cells #[v1, v2] 76 (0, 0)) := by
    rw [hg.block B (by simp; omega) (row_ne2 P.blk P.r2)]
    exact (Below.heap_alloc W _ B hlt).trans P.blk
  have tg : Touch v2.ownBlock.toList W W1 := (Touch.alloc _ _ _).trans (Touch.grown hg (fun k hk => by simp [hk]))
  have r1' : W1.ownsRow base 3 1 v1 l1.length (ints l1) := own_keep (k := 0) P.r1 (fun i e => tg.block i (P.r1.lt i e).2 (fun hm => P.ne i e (by simpa using hm)))
  have fresh : ∀ i, v'.ownBlock = some i → v2.ownBlock = some i ∨ W.heap.size ≤ i := fun i e => by
    rcases hat with h | h
    · left; rw [← h]; exact e
    · right; rw [h] at e; simp only [Option.some.injEq] at e; omega
  refine ⟨by have := heap_cell hb1 1; simpa using this, heap_frozen hb1 1, ⟨by rw [heap_set hb1]; rfl, ownsRow_setOther r1' (row_ne2 hb1 r1') _, ?_, ?_, P.a1, fun i e => ?_, fun i e1 e2 => ?_, P.Bw, P.bw⟩⟩
  · have e : ints (l2 ++ [x]) = ints l2 ++ [.int .i64 x] := by simp [ints]
    rw [e, List.length_append]
    exact ownsRow_setOther ho (row_ne2 hb1 ho) _
  · refine P.ht.then (F := _) (G := B :: v2.ownBlock.toList) ((tg.mono (fun k hk => .inl (by simp at hk; simp [hk]))).trans (Touch.setCell _ _ _ (by simp))) (fun k hk => ?_)
    simp only [List.mem_cons, Option.mem_toList] at hk
    rcases hk with rfl | hk
    · exact .inr P.Bw
    · rcases P.a2 k hk with h | h
      · left; simp [h]
      · exact .inr h
  · rcases fresh i e with h | h
    · exact P.a2 i h
    · right; omega
  · rcases fresh i e2 with h | h
    · exact P.ne i e1 h
    · have := (P.r1.lt i e1).2; omega

theorem Pw.app1 {w W W1 : World} {base B : Nat} {u1 u2 : Option Nat} {v1 v2 v' : Value} {l1 l2 : List Int} {x : Int} {o : Obj} (P : Pw w base B u1 u2 v1 l1 v2 l2 W)
    (ho : W1.ownsRow base 3 1 v' (l1.length + 1) (ints l1 ++ [.int .i64 x])) (hg : (W.alloc o).grownBy W1 v1.ownBlock) (hat : v'.ownBlock = v1.ownBlock ∨ v'.ownBlock = some (W.heap.size + 1)) :
    W1.cell? ⟨B, 0, none⟩ = some v1 ∧ W1.frozen? ⟨B, 0, none⟩ = false ∧ Pw w base B u1 u2 v' (l1 ++ [x]) v2 l2 (W1.setCell ⟨B, 0, none⟩ v') := by
  have hlt := heap_lt P.blk
  have hsz := P.ht.size
  have hb1 : W1.heap[B]? = some (.cells #[v1, v2] 76 (0, 0)) := by
    rw [hg.block B (by simp; omega) (row_ne2 P.blk P.r1)]
    exact (Below.heap_alloc W _ B hlt).trans P.blk
  have tg : Touch v1.ownBlock.toList W W1 := (Touch.alloc _ _ _).trans (Touch.grown hg (fun k hk => by simp [hk]))
  have r2' : W1.ownsRow base 3 1 v2 l2.length (ints l2) := own_keep (k := 0) P.r2 (fun i e => tg.block i (P.r2.lt i e).2 (fun hm => P.ne i (by simpa using hm) e))
  have fresh : ∀ i, v'.ownBlock = some i → v1.ownBlock = some i ∨ W.heap.size ≤ i := fun i e => by
    rcases hat with h | h
    · left; rw [← h]; exact e
    · right; rw [h] at e; simp only [Option.some.injEq] at e; omega
  refine ⟨by have := heap_cell hb1 0; simpa using this, heap_frozen hb1 0, ⟨by rw [heap_set hb1]; rfl, ?_, ownsRow_setOther r2' (row_ne2 hb1 r2') _, ?_, fun i e => ?_, P.a2, fun i e1 e2 => ?_, P.Bw, P.bw⟩⟩
  · have e : ints (l1 ++ [x]) = ints l1 ++ [.int .i64 x] := by simp [ints]
    rw [e, List.length_append]
    exact ownsRow_setOther ho (row_ne2 hb1 ho) _
  · refine P.ht.then (F := _) (G := B :: v1.ownBlock.toList) ((tg.mono (fun k hk => .inl (by simp at hk; simp [hk]))).trans (Touch.setCell _ _ _ (by simp))) (fun k hk => ?_)
    simp only [List.mem_cons, Option.mem_toList] at hk
    rcases hk with rfl | hk
    · exact .inr P.Bw
    · rcases P.a1 k hk with h | h
      · left; simp [h]
      · exact .inr h
  · rcases fresh i e with h | h
    · exact P.a1 i h
    · right; omega
  · rcases fresh i e1 with h | h
    · exact P.ne i h e2
    · have := (P.r2.lt i e2).2; omega

theorem Pw.drew {w W : World} {base B : Nat} {u1 u2 : Option Nat} {v1 v2 : Value} {l1 l2 : List Int} (P : Pw w base B u1 u2 v1 l1 v2 l2 W) (n : Nat) : Pw w base B u1 u2 v1 l1 v2 l2 (W.drewN n) :=
  ⟨P.blk, P.r1, P.r2, P.ht.trans (Touch.drewN _ _ _), P.a1, P.a2, P.ne, P.Bw, P.bw⟩

theorem sts_snoc (l : List Int) (n : Int) : sts (l ++ [n]) = sts l ++ [l.sum] := by
  unfold sts
  rw [List.length_append, List.length_singleton, List.range_succ, List.map_append]
  congr 1
  · apply List.map_congr_left
    intro i hi
    have := List.mem_range.1 hi
    rw [List.take_append_of_le_length (by omega)]
  · simp

end Go.Proofs.Ytemdmpfifcihfaa

/-
  The document's Push, whole.
-/
set_option linter.unusedVariables false
namespace Go.Proofs.Ytemdmpfifcihfaa
open Go.RowKit

theorem Rfs.same {w w' : World} {base b : Nat} {S : Sta} {F : List Nat} (H : Rfs w base b S F) (ht : Touch [] w w') : ∃ F', Rfs w' base b S F' ∧ Touch F w w' ∧ Newer w.heap.size F F' :=
  ⟨F, H.nil ht, ht.mono (fun k h => by cases h), Newer.refl _ _⟩

/-- Cells of the document's roots that a step over a thread's two lists leaves alone. -/
theorem Pw.keep {w W : World} {base b B : Nat} {vt : Value} {vs : Nat → Value} {S : Sta} {k g cap : Nat} {v1 v2 : Value} {l1 l2 : List Int} (H : Rf w base b vt vs S) (hk : k < S.T) (hv : vt = .slice (some ⟨g, 0, none⟩) S.T cap) (P : Pw w base B (vs (k * 2)).ownBlock (vs (k * 2 + 1)).ownBlock v1 l1 v2 l2 W) :
    W.cell? ⟨b, 0, none⟩ = some vt ∧ W.cell? ⟨b, 1, none⟩ = some (.int .i64 S.most) ∧ W.cell? ⟨g, k * 2, none⟩ = some (vs (k * 2)) ∧ W.cell? ⟨g, k * 2 + 1, none⟩ = some (vs (k * 2 + 1)) ∧ W.frozen? ⟨g, k * 2, none⟩ = false ∧ W.frozen? ⟨g, k * 2 + 1, none⟩ = false ∧ g ≠ b := by
  have hn : ∀ i, i ∈ (vs (k * 2)).ownBlock.toList ++ (vs (k * 2 + 1)).ownBlock.toList → (vs (k * 2)).ownBlock = some i ∨ (vs (k * 2 + 1)).ownBlock = some i := fun i hi => by
    rcases List.mem_append.1 hi with h | h
    · exact .inl (by simpa using h)
    · exact .inr (by simpa using h)
  have r1 := H.row (k * 2) (by omega)
  have r2 := H.row (k * 2 + 1) (by omega)
  have hb1 : W.heap[b]? = some (.cells #[vt, .int .i64 S.most, vs (S.T * 2), vs (S.T * 2 + 1)] 74 (0, 0)) := (P.ht.block b (heap_lt H.own) (fun hm => by
    rcases hn b hm with h | h
    · exact (row_ne2 H.own r1) h.symm
    · exact (row_ne2 H.own r2) h.symm)).trans H.own
  have ht1 : W.ownsRow base 76 2 vt S.T ((List.range (S.T * 2)).map vs) := own_keep (k := 0) H.thr (fun j e => P.ht.block j (H.thr.lt j e).2 (fun hm => by
    rcases hn j hm with h | h
    · exact (rows_ne H.thr r1) j e h
    · exact (rows_ne H.thr r2) j e h))
  have hgb : g ≠ b := fun e => (row_ne2 hb1 ht1) (by rw [hv, e]; rfl)
  rw [hv] at ht1
  have hc := ht1.cells (g := g) rfl
  have hfz : ∀ j, W.frozen? ⟨g, j, none⟩ = false := fun j => by
    obtain ⟨_, ⟨h0, _⟩ | ⟨g', cap', cur, e, _, hh, _⟩⟩ := ht1
    · cases h0
    · injection e with e1 _ _
      injection e1 with e1
      injection e1 with e1
      subst e1
      exact heap_frozen hh j
  refine ⟨by have := heap_cell hb1 0; simpa using this, by have := heap_cell hb1 1; simpa using this, ?_, ?_, hfz _, hfz _, hgb⟩
  · have := hc (k * 2) (vs (k * 2)) (by rw [List.getElem?_map, List.getElem?_range (by omega)]; rfl)
    rwa [Addr.add_lit, Nat.zero_add] at this
  · have := hc (k * 2 + 1) (vs (k * 2 + 1)) (by rw [List.getElem?_map, List.getElem?_range (by omega)]; rfl)
    rwa [Addr.add_lit, Nat.zero_add] at this

set_option maxRecDepth 20000 in
set_option maxHeartbeats 4000000 in
theorem rpush_any (base b : Nat) (t n : Int) (S : Sta) (F : List Nat) (w : World) (H : Rfs w base b S F) (hO : S.Ok) (hb : base ≤ w.heap.size) :
    Calls Try.prog 50 #[.pointer (some ⟨b, 0, none⟩), .int .i64 t, .int .i64 n] w fun e w' => e = .returned (.int .i64 (S.pushE t n)) ∧ ∃ F', Rfs w' base b (S.pushS t n) F' ∧ Touch F w w' ∧ Newer w.heap.size F F' := by
  have his := ris_any base b t S F w H hO
  by_cases ht : 0 ≤ t ∧ t < (S.T : Int)
  · rw [show decide (0 ≤ t ∧ t < (S.T : Int)) = true by simpa using ht] at his
    by_cases hn : n < 1
    · have e1 : S.pushE t n = 50 := by unfold Sta.pushE; rw [if_pos ht, if_pos hn]
      have e2 : S.pushS t n = S := by unfold Sta.pushS; rw [e1, if_neg (by decide)]
      rw [e1, e2]
      have HS : Hid (∃ F', Rfs w base b S F' ∧ Touch F w w ∧ Newer w.heap.size F F') := H.same (Touch.refl _ _)
      clear H hO ht e1 e2 hb
      go_enter Try.func50, Try.ntmps50
      go_wp2_with fail
      refine his.mono ?_
      rintro e w1 ⟨rfl, rfl⟩
      clear his
      go_wp2
      go_ret
      exact ⟨rfl, HS.out⟩
    · obtain ⟨n, rfl⟩ : ∃ m : Nat, n = m := ⟨n.toNat, by omega⟩
      obtain ⟨k, rfl⟩ := Int.eq_ofNat_of_zero_le ht.1
      have hk : k < S.T := by omega
      have HR : Hid (Rfs w base b S F) := H
      obtain ⟨vt, vs, H, rfl⟩ := H
      obtain ⟨g, cap, ev, x0, x1⟩ := H.thc hk
      have c0 := H.cell0
      have c1 := H.cell1
      rw [ev] at c0
      have hst := H.starts hk
      obtain ⟨a1, C1, e1⟩ := own_slice (H.slots hk)
      obtain ⟨a2, C2, e2⟩ := own_slice hst
      have hki : (k : Int) < (S.T : Int) := ht.2
      have hgw : g < w.heap.size := World.block_lt_of_cell? _ _ x0
      have P0 := Pw.start H hb hk
      have hL := hO.room k hk
      have hm2 := hO.m2
      have hfr := hO.frames hk
      have hsum := hO.sum k hk
      have HV : Hid (vt = .slice (some ⟨g, 0, none⟩) S.T cap) := ev
      have HRf : Hid (Rf w base b vt vs S) := H
      obtain ⟨u1, hu1⟩ : ∃ u, u = (vs (k * 2)).ownBlock := ⟨_, rfl⟩
      obtain ⟨u2, hu2⟩ : ∃ u, u = (vs (k * 2 + 1)).ownBlock := ⟨_, rfl⟩
      have HU : Hid (u1 = (vs (k * 2)).ownBlock ∧ u2 = (vs (k * 2 + 1)).ownBlock) := ⟨hu1, hu2⟩
      rw [← hu1, ← hu2] at P0
      rw [e1] at x0 P0
      rw [e2] at x1 P0
      have hpe : S.pushE k n = if (S.most : Int) - ((S.rw (k * 2 + 1)).length : Int) < n then 53 else 0 := by unfold Sta.pushE; rw [if_pos ht, if_neg hn, Int.toNat_natCast]
      by_cases hov : (S.most : Int) - ((S.rw (k * 2 + 1)).length : Int) < n
      · have e3 : S.pushE k n = 53 := by rw [hpe, if_pos hov]
        have e4 : S.pushS k n = S := by unfold Sta.pushS; rw [e3, if_neg (by decide)]
        rw [e3, e4]
        have c1' : (w.alloc (.cells #[.slice a1 (S.rw (k * 2 + 1)).length C1, .slice a2 (S.rw (k * 2)).length C2] 76)).cell? ⟨b, 1, none⟩ = some (.int .i64 S.most) := (World.cell?_of_block (w := w) (Below.heap_alloc w _ b (World.block_lt_of_cell? _ _ c1))).trans c1
        have hni : ¬ (n : Int) < 1 := hn
        clear H hO ht e3 e4 hpe P0 HU HRf HV hu1 hu2 hst hsum hfr ev e1 e2 c1
        generalize (S.rw (k * 2 + 1)).length = L1 at *
        generalize (S.rw (k * 2)).length = L2 at *
        generalize S.most = most at *
        go_enter Try.func50, Try.ntmps50
        go_wp2_with fail
        refine his.mono ?_
        rintro e w1 ⟨rfl, rfl⟩
        clear his
        go_upto_region 7 with fail
        have tt : Touch [] w (w.alloc (.cells #[.slice a1 L1 C1, .slice a2 L2 C2] 76)) := Touch.alloc _ _ _
        have y0 : (w.alloc (.cells #[.slice a1 L1 C1, .slice a2 L2 C2] 76)).cell? ⟨w.heap.size, 0, none⟩ = some (.slice a1 L1 C1) := by simp
        have HT : Hid (Touch [] w (w.alloc (.cells #[.slice a1 L1 C1, .slice a2 L2 C2] 76))) := tt
        clear tt
        generalize w.alloc (.cells #[.slice a1 L1 C1, .slice a2 L2 C2] 76) = w2 at *
        go_quiet (fail)
        go_wp2
        go_ret
        exact ⟨rfl, HR.out.same (HT.out.trans (Touch.drewN _ _ _))⟩
      · have e3 : S.pushE k n = 0 := by rw [hpe, if_neg hov]
        have e4 : S.pushS k n = S.push k n := by unfold Sta.pushS; rw [e3, if_pos rfl]; simp
        rw [e3, e4]
        have hov' : decide ((S.most : Int) - ((S.rw (k * 2 + 1)).length : Int) < n) = false := decide_eq_false hov
        have hni : ¬ (n : Int) < 1 := hn
        have HFin : Hid (∀ W v1 v2, Pw w base w.heap.size u1 u2 v1 (S.rw (k * 2 + 1) ++ List.replicate n 0) v2 (sts (S.rw (k * 2)) ++ [((S.rw (k * 2 + 1)).length : Int)]) W → ∃ F', Rfs ((W.setCell ⟨g, k * 2, none⟩ v1).setCell ⟨g, k * 2 + 1, none⟩ v2) base b (S.push k n) F' ∧ Touch (rfp b vt S.T vs) w ((W.setCell ⟨g, k * 2, none⟩ v1).setCell ⟨g, k * 2 + 1, none⟩ v2) ∧ Newer w.heap.size (rfp b vt S.T vs) F') := by
          intro W v1 v2 P
          rw [hu1, hu2] at P
          have r1 : (S.push k n).rw (k * 2 + 1) = S.rw (k * 2 + 1) ++ List.replicate n 0 := by unfold Sta.push; simp only; rw [upd_same]
          have r2 : (S.push k n).rw (k * 2) = S.rw (k * 2) ++ [(n : Int)] := by unfold Sta.push; simp only; rw [upd_ne _ _ (by omega), upd_same]
          have P2 := P.r2
          rw [← hsum, ← sts_snoc _ (n : Int), sts_length] at P2
          refine H.setThr (S' := S.push k n) hk ev P.ht (by rw [r1]; exact P.r1) (by rw [r2]; exact P2) P.a1 P.a2 P.ne rfl rfl rfl rfl (fun j h1 h2 => ?_)
          unfold Sta.push; simp only; rw [upd_ne _ _ h2, upd_ne _ _ h1]
        have HKeep : Hid (∀ W v1 l1 v2 l2, Pw w base w.heap.size u1 u2 v1 l1 v2 l2 W → W.cell? ⟨b, 0, none⟩ = some vt ∧ W.cell? ⟨b, 1, none⟩ = some (.int .i64 S.most) ∧ W.cell? ⟨g, k * 2, none⟩ = some (vs (k * 2)) ∧ W.cell? ⟨g, k * 2 + 1, none⟩ = some (vs (k * 2 + 1)) ∧ W.frozen? ⟨g, k * 2, none⟩ = false ∧ W.frozen? ⟨g, k * 2 + 1, none⟩ = false ∧ g ≠ b) := by
          intro W v1 l1 v2 l2 P
          rw [hu1, hu2] at P
          exact Pw.keep H hk ev P
        have hfl : (sts (S.rw (k * 2))).length < 8192 := by rw [sts_length]; omega
        have hll : (S.rw (k * 2 + 1)).length ≤ 4096 := by omega
        have hn2 : n ≤ 4096 := by omega
        rw [← sts_length (S.rw (k * 2))] at x1 P0
        obtain ⟨i0, hi0, hz0, hz1, hz2⟩ := info_parts Try.infoInt
        have HH : Hid ((Try.prog.info? 3 = some i0) ∧ i0.zero = some (.int .i64 0) ∧ i0.size = 1 ∧ i0.bytes = 8) := ⟨hi0, hz0, hz1, hz2⟩
        have HP0 : Hid _ := P0
        clear H hO ht e3 e4 hpe hov P0 HU HRf hu1 hu2 hst hsum hfr ev e1 e2 hi0 hz0 hz1 hz2 HR hn
        generalize S.rw (k * 2 + 1) = l1 at *
        generalize sts (S.rw (k * 2)) = l2 at *
        generalize S.most = most at *
        go_enter Try.func50, Try.ntmps50
        go_wp2_with fail
        refine his.mono ?_
        rintro e w1 ⟨rfl, rfl⟩
        clear his
        go_upto_region 7 with fail
        have y0 : (w.alloc (.cells #[.slice a1 l1.length C1, .slice a2 l2.length C2] 76)).cell? ⟨w.heap.size, 0, none⟩ = some (.slice a1 l1.length C1) := by simp
        have y1 := (HKeep.out _ _ _ _ _ HP0.out).2.1
        clear c0 c1 x0 x1
        generalize w.alloc (.cells #[.slice a1 l1.length C1, .slice a2 l2.length C2] 76) = w2 at *
        obtain ⟨B, hB⟩ : ∃ B, B = w.heap.size := ⟨_, rfl⟩
        rw [← hB] at HP0 HFin HKeep y0 ⊢
        have HB : Hid (B = w.heap.size) := hB
        clear hB
        go_quiet (fail)
        have P1 : Hid (Pw w base B u1 u2 (.slice a1 l1.length C1) l1 (.slice a2 l2.length C2) l2 (w2.drewN nq)) := HP0.out.drew nq
        have z0 : (w2.drewN nq).cell? ⟨B, 0, none⟩ = some (.slice a1 l1.length C1) := by have := heap_cell P1.out.blk 0; simpa using this
        have z1 : (w2.drewN nq).cell? ⟨B, 1, none⟩ = some (.slice a2 l2.length C2) := by have := heap_cell P1.out.blk 1; simpa using this
        have hbs : base ≤ (w2.drewN nq).heap.size := Nat.le_trans P1.out.bw P1.out.ht.size
        clear HP0 y0 y1
        generalize w2.drewN nq = w3 at *
        go_wp2_with (at_builtin; refine wpList_append_own_at _ rfl _ _ 31 rfl base 3 i0 (.int .i64 0) 1 8 Try.underlying31 HH.out.1 HH.out.2.1 HH.out.2.2.1 HH.out.2.2.2 rfl (by decide) _ _ _ rfl (P1.out.r2.alloc _) ⟨w3.heap.size, 0, none⟩ 1 1 [.int .i64 l1.length] rfl rfl (cell_one_new _ _ _) (by simp [Value.oneCell']) (by simp [maxLen]; omega) (by omega) (by simp; omega) ?_)
        intro v4 w4 o4 g4 _ hat4
        obtain ⟨k4, f4, P4⟩ := P1.out.app2 (x := (l1.length : Int)) (by simpa using o4) g4 hat4
        obtain ⟨a4, C4, e4⟩ := own_slice o4
        subst e4
        have HP4 : Hid _ := P4
        clear o4 g4 hat4 P4 P1 z0 z1 hbs
        go_upto_region 10 with fail
        obtain ⟨w5, hw5⟩ : ∃ w5, w5 = w4.setCell ⟨B, 1, none⟩ (.slice a4 (l2.length + 1) C4) := ⟨_, rfl⟩
        rw [← hw5] at HP4 ⊢
        clear hw5 k4 f4
        go_wp2
        go_loopw [9] (fun v wr => ∃ (j : Nat) (v1 : Value), v = .int .i64 j ∧ j ≤ n ∧ Hid (Pw w base B u1 u2 v1 (l1 ++ List.replicate j 0) (.slice a4 (l2.length + 1) C4) (l2 ++ [(l1.length : Int)]) wr)) (fun v _ => n - (intOf v).toNat)
        case atStart => exact ⟨0, _, rfl, Nat.zero_le _, by simpa using HP4⟩
        case round =>
          obtain ⟨j, v1, rfl, hj, hp⟩ := hrel
          clear HP4
          obtain ⟨a5, C5, e5⟩ := own_slice hp.out.r1
          subst e5
          have hln : (l1 ++ List.replicate j (0 : Int)).length = l1.length + j := by simp
          have z0 : wr.cell? ⟨B, 0, none⟩ = some (.slice a5 (l1.length + j) C5) := by have := heap_cell hp.out.blk 0; rw [hln] at this; simpa using this
          have hbs : base ≤ wr.heap.size := Nat.le_trans hp.out.bw hp.out.ht.size
          have hp2 := hp.out
          rw [hln] at hp2
          have HP2 : Hid (Pw w base B u1 u2 (.slice a5 (l1.length + j) C5) (l1 ++ List.replicate j 0) (.slice a4 (l2.length + 1) C4) (l2 ++ [(l1.length : Int)]) wr) := hp2
          clear hp2 hp
          by_cases hlt : j < n
          · have hji : (j : Int) < n := by omega
            have hr1 := HP2.out.r1
            rw [hln] at hr1
            have HR1 : Hid (wr.ownsRow base 3 1 (.slice a5 (l1.length + j) C5) (l1.length + j) (ints (l1 ++ List.replicate j 0))) := hr1
            clear hr1
            go_wp2_with (at_builtin; refine wpList_append_own_at _ rfl _ _ 31 rfl base 3 i0 (.int .i64 0) 1 8 Try.underlying31 HH.out.1 HH.out.2.1 HH.out.2.2.1 HH.out.2.2.2 rfl (by decide) _ _ _ rfl (HR1.out.alloc _) ⟨wr.heap.size, 0, none⟩ 1 1 [.int .i64 0] rfl rfl (cell_one_new _ _ _) (by simp [Value.oneCell']) (by simp [maxLen]; omega) (by omega) (by simp; omega) ?_)
            intro v6 w6 o6 g6 _ hat6
            obtain ⟨k6, f6, P6⟩ := HP2.out.app1 (x := 0) (by rw [hln]; simpa using o6) g6 hat6
            obtain ⟨a6, C6, e6⟩ := own_slice o6
            subst e6
            rw [List.append_assoc, ← List.replicate_succ'] at P6
            have HP6 : Hid _ := P6
            clear o6 g6 hat6 P6 HR1 HP2 z0 hbs
            go_wp2
            go_roundw
            case rel => exact ⟨j + 1, _, by go_num, by omega, HP6⟩
            case measure => simp [intOf]; omega
          · obtain rfl : j = n := by omega
            have hnk : ¬ (j : Int) < (j : Int) := by omega
            obtain ⟨q0, q1, q2, q3, q4, q5, q6⟩ := HKeep.out _ _ _ _ _ HP2.out
            rw [HV.out] at q0
            have z1 : wr.cell? ⟨B, 1, none⟩ = some (.slice a4 (l2.length + 1) C4) := by have := heap_cell HP2.out.blk 1; simpa using this
            have hgB : g ≠ B := fun e => by
              have := HB.out
              omega
            have HF : Hid _ := HFin.out wr _ _ HP2.out
            clear HP2 HFin HKeep q1 hbs
            go_upto_region 14 with fail
            refine quiet_tail 7 mixed (by kernel_rfl) ?_
            simp only [List.take_succ_cons, List.take_zero, List.drop_succ_cons, List.drop_zero]
            repeat (go_big_quiet_step (fail))
            refine wpQuiet_nil ?_
            go_wp2
            go_ret
            obtain ⟨F', s1, s2, s3⟩ := HF.out
            exact ⟨rfl, F', s1.nil (Touch.drew _ _), s2.trans (Touch.drew _ _), by rw [← HB.out]; exact s3⟩
  · rw [show decide (0 ≤ t ∧ t < (S.T : Int)) = false by simpa using ht] at his
    have e1 : S.pushE t n = 51 := by unfold Sta.pushE; rw [if_neg ht]
    have e2 : S.pushS t n = S := by unfold Sta.pushS; rw [e1, if_neg (by decide)]
    rw [e1, e2]
    have HS : Hid (∃ F', Rfs w base b S F' ∧ Touch F w w ∧ Newer w.heap.size F F') := H.same (Touch.refl _ _)
    clear H hO ht e1 e2 hb
    go_enter Try.func50, Try.ntmps50
    go_wp2_with fail
    refine his.mono ?_
    rintro e w1 ⟨rfl, rfl⟩
    clear his
    go_wp2
    go_ret
    exact ⟨rfl, HS.out⟩
end Go.Proofs.Ytemdmpfifcihfaa

/-
  The document's Pop.
-/
set_option linter.unusedVariables false
namespace Go.Proofs.Ytemdmpfifcihfaa
open Go.RowKit

theorem own_cutm {B g n C m : Nat} {w : World} {e : TypeId} {xs : List Value} (h : w.ownsRow B e 1 (.slice (some ⟨g, 0, none⟩) n C) n xs) (hm : m ≤ n) : w.ownsRow B e 1 (.slice (some ⟨g, 0, none⟩) m C) m (xs.take m) := by
  obtain ⟨hl, ⟨h0, _⟩ | ⟨g', cap, cur, hv, hge, hh, hn, hx, hs, ht⟩⟩ := h
  · cases h0
  · injection hv with e1 _ e3
    injection e1 with e1
    injection e1 with e1
    subst e1; subst e3
    refine ⟨by rw [List.length_take]; omega, .inr ⟨g, C, cur, rfl, hge, hh, by omega, hx, hs, ?_⟩⟩
    rw [← ht, List.take_take, Nat.min_eq_left (by omega), Nat.mul_one]

theorem ints_take (l : List Int) (m : Nat) : ints (l.take m) = (ints l).take m := by simp [ints, List.map_take]

theorem Pw.cut1 {w W : World} {base B : Nat} {u1 u2 : Option Nat} {g n C : Nat} {v2 : Value} {l1 l2 : List Int} {m : Nat} (P : Pw w base B u1 u2 (.slice (some ⟨g, 0, none⟩) n C) l1 v2 l2 W) (hn : n = l1.length) (hm : m ≤ n) :
    Pw w base B u1 u2 (.slice (some ⟨g, 0, none⟩) m C) (l1.take m) v2 l2 (W.setCell ⟨B, 0, none⟩ (.slice (some ⟨g, 0, none⟩) m C)) := by
  have r1 := P.r1
  rw [← hn] at r1
  have r1' := own_cutm r1 hm
  refine ⟨by rw [heap_set P.blk]; rfl, ?_, ownsRow_setOther P.r2 (row_ne2 P.blk P.r2) _, P.ht.then (F := _) (G := [B]) (Touch.setCell _ _ _ (by simp)) (fun k hk => .inr (by simp at hk; rw [hk]; exact P.Bw)), P.a1, P.a2, P.ne, P.Bw, P.bw⟩
  rw [List.length_take, Nat.min_eq_left (by omega), ints_take]
  exact ownsRow_setOther r1' (row_ne2 P.blk r1') _

theorem Pw.cut2 {w W : World} {base B : Nat} {u1 u2 : Option Nat} {g n C : Nat} {v1 : Value} {l1 l2 : List Int} {m : Nat} (P : Pw w base B u1 u2 v1 l1 (.slice (some ⟨g, 0, none⟩) n C) l2 W) (hn : n = l2.length) (hm : m ≤ n) :
    Pw w base B u1 u2 v1 l1 (.slice (some ⟨g, 0, none⟩) m C) (l2.take m) (W.setCell ⟨B, 1, none⟩ (.slice (some ⟨g, 0, none⟩) m C)) := by
  have r2 := P.r2
  rw [← hn] at r2
  have r2' := own_cutm r2 hm
  refine ⟨by rw [heap_set P.blk]; rfl, ownsRow_setOther P.r1 (row_ne2 P.blk P.r1) _, ?_, P.ht.then (F := _) (G := [B]) (Touch.setCell _ _ _ (by simp)) (fun k hk => .inr (by simp at hk; rw [hk]; exact P.Bw)), P.a1, P.a2, P.ne, P.Bw, P.bw⟩
  rw [List.length_take, Nat.min_eq_left (by omega), ints_take]
  exact ownsRow_setOther r2' (row_ne2 P.blk r2') _

set_option maxRecDepth 20000 in
set_option maxHeartbeats 4000000 in
theorem rpop_any (base b : Nat) (t : Int) (S : Sta) (F : List Nat) (w : World) (H : Rfs w base b S F) (hO : S.Ok) (hb : base ≤ w.heap.size) :
    Calls Try.prog 51 #[.pointer (some ⟨b, 0, none⟩), .int .i64 t] w fun e w' => e = .returned (.int .i64 (S.popE t)) ∧ ∃ F', Rfs w' base b (S.popS t) F' ∧ Touch F w w' ∧ Newer w.heap.size F F' := by
  have his := ris_any base b t S F w H hO
  by_cases ht : 0 ≤ t ∧ t < (S.T : Int)
  · rw [show decide (0 ≤ t ∧ t < (S.T : Int)) = true by simpa using ht] at his
    obtain ⟨k, rfl⟩ := Int.eq_ofNat_of_zero_le ht.1
    have hk : k < S.T := by omega
    have HR : Hid (Rfs w base b S F) := H
    obtain ⟨vt, vs, H, rfl⟩ := H
    obtain ⟨g, cap, ev, x0, x1⟩ := H.thc hk
    have hgw : g < w.heap.size := World.block_lt_of_cell? _ _ x0
    have c0 := H.cell0
    rw [ev] at c0
    have hki : (k : Int) < (S.T : Int) := ht.2
    have P0 := Pw.start H hb hk
    have hst := H.starts hk
    obtain ⟨a1, C1, e1⟩ := own_slice (H.slots hk)
    obtain ⟨a2, C2, e2⟩ := own_slice hst
    by_cases hne : S.rw (k * 2) = []
    · have e3 : S.popE k = 54 := by unfold Sta.popE; rw [if_pos ht, if_pos (by simpa using hne)]
      have e4 : S.popS k = S := by unfold Sta.popS; rw [e3, if_neg (by decide)]
      rw [e3, e4]
      rw [e1] at x0
      rw [e2, hne] at x1
      simp only [List.length_nil] at x1
      have tt : Touch [] w (w.alloc (.cells #[.slice a1 (S.rw (k * 2 + 1)).length C1, .slice a2 0 C2] 76)) := Touch.alloc _ _ _
      have HT : Hid (∃ F', Rfs (w.alloc (.cells #[.slice a1 (S.rw (k * 2 + 1)).length C1, .slice a2 0 C2] 76)) base b S F' ∧ Touch (rfp b vt S.T vs) w (w.alloc (.cells #[.slice a1 (S.rw (k * 2 + 1)).length C1, .slice a2 0 C2] 76)) ∧ Newer w.heap.size (rfp b vt S.T vs) F') := HR.out.same tt
      clear H hO ht e3 e4 P0 hst e1 e2 ev hne tt HR
      generalize (S.rw (k * 2 + 1)).length = L1 at *
      go_enter Try.func51, Try.ntmps51
      go_wp2_with fail
      refine his.mono ?_
      rintro e w1 ⟨rfl, rfl⟩
      clear his
      go_wp2
      go_ret
      exact ⟨rfl, HT.out⟩
    · obtain ⟨l, m, n, el, hm0, hlen, hsum, hl4, hnm⟩ := hO.last hk hne
      have e3 : S.popE k = 0 := by unfold Sta.popE; rw [if_pos ht, if_neg (by simpa using hne)]
      have e4 : S.popS k = S.pop k m := by
        unfold Sta.popS; rw [e3, if_pos rfl]
        simp only [Int.toNat_natCast]
        rw [el]; simp
      rw [e3, e4]
      have r1 : (S.pop k m).rw (k * 2 + 1) = (S.rw (k * 2 + 1)).take n := by unfold Sta.pop; simp only; rw [upd_same, hlen]; congr 1; omega
      have r2 : (S.pop k m).rw (k * 2) = l := by unfold Sta.pop; simp only; rw [upd_ne _ _ (by omega), upd_same, el]; simp
      have hsts : sts (S.rw (k * 2)) = sts l ++ [(n : Int)] := by rw [el, sts_snoc, hsum]
      have hsl : (sts l ++ [(n : Int)]).length = l.length + 1 := by simp [sts_length]
      have HFin : Hid (∀ W v1 v2, Pw w base w.heap.size (vs (k * 2)).ownBlock (vs (k * 2 + 1)).ownBlock v1 ((S.rw (k * 2 + 1)).take n) v2 ((sts l ++ [(n : Int)]).take l.length) W → ∃ F', Rfs ((W.setCell ⟨g, k * 2, none⟩ v1).setCell ⟨g, k * 2 + 1, none⟩ v2) base b (S.pop k m) F' ∧ Touch (rfp b vt S.T vs) w ((W.setCell ⟨g, k * 2, none⟩ v1).setCell ⟨g, k * 2 + 1, none⟩ v2) ∧ Newer w.heap.size (rfp b vt S.T vs) F') := by
        intro W v1 v2 P
        have P2 := P.r2
        rw [List.take_left' (sts_length l), sts_length] at P2
        refine H.setThr (S' := S.pop k m) hk ev P.ht (by rw [r1]; exact P.r1) (by rw [r2]; exact P2) P.a1 P.a2 P.ne rfl rfl rfl rfl (fun j h1 h2 => ?_)
        unfold Sta.pop; simp only; rw [upd_ne _ _ h2, upd_ne _ _ h1]
      have HKeep : Hid (∀ W v1 l1 v2 l2, Pw w base w.heap.size (vs (k * 2)).ownBlock (vs (k * 2 + 1)).ownBlock v1 l1 v2 l2 W → W.cell? ⟨b, 0, none⟩ = some vt ∧ W.cell? ⟨b, 1, none⟩ = some (.int .i64 S.most) ∧ W.cell? ⟨g, k * 2, none⟩ = some (vs (k * 2)) ∧ W.cell? ⟨g, k * 2 + 1, none⟩ = some (vs (k * 2 + 1)) ∧ W.frozen? ⟨g, k * 2, none⟩ = false ∧ W.frozen? ⟨g, k * 2 + 1, none⟩ = false ∧ g ≠ b) := fun W v1 l1 v2 l2 P => Pw.keep H hk ev P
      obtain ⟨u1, hu1⟩ : ∃ u, u = (vs (k * 2)).ownBlock := ⟨_, rfl⟩
      obtain ⟨u2, hu2⟩ : ∃ u, u = (vs (k * 2 + 1)).ownBlock := ⟨_, rfl⟩
      rw [← hu1, ← hu2] at P0 HFin HKeep
      obtain ⟨g1, D1, f1, hD1, -⟩ := own_addr (H.slots hk) (by omega)
      have hst2 := hst
      rw [el] at hst2
      obtain ⟨g2, D2, f2, hD2, -⟩ := own_addr hst2 (by simp)
      rw [hsts] at P0
      rw [hlen] at f1 hD1
      simp only [List.length_append, List.length_singleton] at f2 hD2
      rw [f1] at x0 P0
      rw [f2] at x1 P0
      have HV : Hid (vt = .slice (some ⟨g, 0, none⟩) S.T cap) := ev
      have HP0 : Hid _ := P0
      have hl1 : (S.rw (k * 2 + 1)).length = n + m := hlen
      clear H hO ht e3 e4 P0 hst hst2 e1 e2 ev hne HR hu1 hu2 r1 r2 hsts el hsum f1 f2 hlen
      generalize S.rw (k * 2 + 1) = l1 at *
      go_enter Try.func51, Try.ntmps51
      go_wp2_with fail
      refine his.mono ?_
      rintro e w1 ⟨rfl, rfl⟩
      clear his
      go_upto_region 5 with fail
      generalize w.alloc (.cells #[.slice (some ⟨g1, 0, none⟩) (n + m) D1, .slice (some ⟨g2, 0, none⟩) (l.length + 1) D2] 76) = w2 at *
      obtain ⟨B, hB⟩ : ∃ B, B = w.heap.size := ⟨_, rfl⟩
      rw [← hB] at HP0 HFin HKeep hgw ⊢
      have HB : Hid (B = w.heap.size) := hB
      clear hB c0 x0 x1
      have z0 : w2.cell? ⟨B, 0, none⟩ = some (.slice (some ⟨g1, 0, none⟩) (n + m) D1) := by have := heap_cell HP0.out.blk 0; simpa using this
      have z1 : w2.cell? ⟨B, 1, none⟩ = some (.slice (some ⟨g2, 0, none⟩) (l.length + 1) D2) := by have := heap_cell HP0.out.blk 1; simpa using this
      have f0 := heap_frozen HP0.out.blk 0
      have z2 : w2.cell? ⟨g2, l.length, none⟩ = some (.int .i64 n) := by
        have h := HP0.out.r2
        rw [hsl] at h
        have := h.cells (g := g2) rfl l.length (.int .i64 n) (by unfold ints; rw [List.map_append, List.getElem?_append_right (by simp [sts_length])]; simp [sts_length])
        rwa [Addr.add_lit, Nat.zero_add] at this
      have hi1 : (n : Int) ≤ (D1 : Int) := by omega
      have hi2 : (l.length : Int) ≤ (D2 : Int) := by omega
      go_upto_region 8 with fail
      have HP1 : Hid (Pw w base B u1 u2 (.slice (some ⟨g1, 0, none⟩) n D1) (l1.take n) (.slice (some ⟨g2, 0, none⟩) (l.length + 1) D2) (sts l ++ [(n : Int)]) (w2.setCell ⟨B, 0, none⟩ (.slice (some ⟨g1, 0, none⟩) n D1)).drew) := (HP0.out.cut1 hl1.symm (by omega)).drew 1
      refine quiet_tail 10 mixed (by kernel_rfl) ?_
      simp only [List.take_succ_cons, List.take_zero, List.drop_succ_cons, List.drop_zero]
      repeat (go_big_quiet_step (fail))
      refine wpQuiet_nil ?_
      go_upto_region 9 with fail
      clear HP0 z0 z1 z2 f0
      generalize (w2.setCell ⟨B, 0, none⟩ (.slice (some ⟨g1, 0, none⟩) n D1)).drew = w3 at *
      have z1 : w3.cell? ⟨B, 1, none⟩ = some (.slice (some ⟨g2, 0, none⟩) (l.length + 1) D2) := by have := heap_cell HP1.out.blk 1; simpa using this
      have f1 := heap_frozen HP1.out.blk 1
      go_upto_region 10 with fail
      have HP2 : Hid (Pw w base B u1 u2 (.slice (some ⟨g1, 0, none⟩) n D1) (l1.take n) (.slice (some ⟨g2, 0, none⟩) l.length D2) ((sts l ++ [(n : Int)]).take l.length) (w3.setCell ⟨B, 1, none⟩ (.slice (some ⟨g2, 0, none⟩) l.length D2))) := HP1.out.cut2 hsl.symm (by omega)
      clear HP1 z1 f1
      generalize w3.setCell ⟨B, 1, none⟩ (.slice (some ⟨g2, 0, none⟩) l.length D2) = w4 at *
      obtain ⟨q0, q1, q2, q3, q4, q5, q6⟩ := HKeep.out _ _ _ _ _ HP2.out
      rw [HV.out] at q0
      have z0 : w4.cell? ⟨B, 0, none⟩ = some (.slice (some ⟨g1, 0, none⟩) n D1) := by have := heap_cell HP2.out.blk 0; simpa using this
      have z1 : w4.cell? ⟨B, 1, none⟩ = some (.slice (some ⟨g2, 0, none⟩) l.length D2) := by have := heap_cell HP2.out.blk 1; simpa using this
      have hgB : g ≠ B := by omega
      have HF : Hid _ := HFin.out w4 _ _ HP2.out
      clear HP2 HFin HKeep q1
      refine quiet_tail 7 mixed (by kernel_rfl) ?_
      simp only [List.take_succ_cons, List.take_zero, List.drop_succ_cons, List.drop_zero]
      repeat (go_big_quiet_step (fail))
      refine wpQuiet_nil ?_
      go_wp2
      go_ret
      obtain ⟨F', s1, s2, s3⟩ := HF.out
      exact ⟨rfl, F', s1.nil (Touch.drew _ _), s2.trans (Touch.drew _ _), by rw [← HB.out]; exact s3⟩
  · rw [show decide (0 ≤ t ∧ t < (S.T : Int)) = false by simpa using ht] at his
    have e1 : S.popE t = 51 := by unfold Sta.popE; rw [if_neg ht]
    have e2 : S.popS t = S := by unfold Sta.popS; rw [e1, if_neg (by decide)]
    rw [e1, e2]
    have HS : Hid (∃ F', Rfs w base b S F' ∧ Touch F w w ∧ Newer w.heap.size F F') := H.same (Touch.refl _ _)
    clear H hO ht e1 e2 hb
    go_enter Try.func51, Try.ntmps51
    go_wp2_with fail
    refine his.mono ?_
    rintro e w1 ⟨rfl, rfl⟩
    clear his
    go_wp2
    go_ret
    exact ⟨rfl, HS.out⟩
end Go.Proofs.Ytemdmpfifcihfaa

