/-
  Push.
-/
import Derived.Test.YtdlannfjnljbcaaGreatDoorPRa
import Derived.Outline
import Derived.Deep.DeepCutAuto
set_option linter.unusedVariables false
namespace Go.Proofs.YtdlannfjnljbcaaGreatDoor
open Go.RowKit

/-- What may be. -/
structure Sta.Ok (S : Sta) : Prop where
  T1 : 1 ≤ S.T
  T8 : S.T ≤ 8
  m1 : 1 ≤ S.most
  m2 : S.most ≤ 4096
  hn : S.hs.length ≤ 1024
  sum : ∀ t, t < S.T → (S.rw (t * 2)).sum = (S.rw (t * 2 + 1)).length
  pos : ∀ t, t < S.T → ∀ n ∈ S.rw (t * 2), 1 ≤ n
  room : ∀ t, t < S.T → (S.rw (t * 2 + 1)).length ≤ S.most
  s0 : ∀ t, t < S.T → ∀ x ∈ S.rw (t * 2 + 1), 0 ≤ x
  h0 : ∀ x, some x ∈ S.hs → 0 ≤ x
  q0 : ∀ x ∈ S.qs, 0 ≤ x

theorem len_le_sum : ∀ (l : List Int), (∀ n ∈ l, 1 ≤ n) → (l.length : Int) ≤ l.sum
  | [], _ => by simp
  | x :: l, h => by
    have h1 := len_le_sum l (fun n hn => h n (by simp [hn]))
    have h2 := h x (by simp)
    simp; omega

theorem Sta.Ok.frames {S : Sta} (h : S.Ok) {t : Nat} (ht : t < S.T) : (S.rw (t * 2)).length ≤ 4096 := by
  have h1 := len_le_sum _ (h.pos t ht)
  have h2 := h.sum t ht
  have h3 := h.room t ht
  have h4 := h.m2
  omega

theorem own_slice {w : World} {base n e size : Nat} {v : Value} {xs : List Value} (h : w.ownsRow base e size v n xs) : ∃ a cap, v = .slice a n cap := by
  rcases h.2 with ⟨rfl, rfl⟩ | ⟨g, cap, cur, rfl, _⟩
  · exact ⟨none, 0, rfl⟩
  · exact ⟨_, _, rfl⟩

/-- A frame more. -/
def Sta.push (S : Sta) (t n : Nat) : Sta := { S with rw := upd (upd S.rw (t * 2) (S.rw (t * 2) ++ [(n : Int)])) (t * 2 + 1) (S.rw (t * 2 + 1) ++ List.replicate n 0) }

/-- The first append and its store. -/
theorem grown_rt {w w1 : World} {base b g h q N : Nat} {FQ : List Nat} {vs : Nat → Value} {S : Sta} {o : Obj} {i : Nat} {v' : Value} {l' : List Int} {nq : Nat} (H : Rt w base b g h q N FQ vs S) (hi : i < S.T * 2)
    (hown : w1.ownsRow base 3 1 v' l'.length (ints l')) (hgrow : ((w.drewN nq).alloc o).grownBy w1 (vs i).ownBlock) (hat : v'.ownBlock = (vs i).ownBlock ∨ v'.ownBlock = some (w.heap.size + 1)) :
    w1.cell? ⟨g, i, none⟩ = some (vs i) ∧ w1.frozen? ⟨g, i, none⟩ = false ∧ Rt (w1.setCell ⟨g, i, none⟩ v') base b g h q N FQ (upd vs i v') { S with rw := upd S.rw i l' } := by
  have ht : Touch ((vs i).ownBlock.toList) w w1 := ((Touch.drewN _ w nq).trans (Touch.alloc _ _ _)).trans (Touch.grown hgrow (fun k hk => by simp [hk]))
  have hg1 : w1.rowIs g 84 (S.T * 2) vs := H.thr.of_block (ht.block g H.thr.lt (fun hm => H.row_ne_g hi (by simpa using hm) rfl))
  have hne : some g ≠ v'.ownBlock := by
    obtain ⟨c, hc, -⟩ := hg1
    exact row_ne hc hown
  refine ⟨hg1.cell hi, hg1.frozen _, H.setRow hi ((ht.mono (fun k hk => .inl (by simp [hk]))).trans (Touch.setCell _ _ _ (by simp))) (hg1.set i v') (ownsRow_setOther hown hne _) ?_⟩
  rcases hat with e | e
  · exact .inl e
  · exact .inr fun k hk => by rw [e] at hk; simp only [Option.some.injEq] at hk; omega

/-- The second append and its store. -/
theorem grown_rt0 {w w1 : World} {base b g h q N : Nat} {FQ : List Nat} {vs : Nat → Value} {S : Sta} {i : Nat} {v' : Value} {l' : List Int} (H : Rt w base b g h q N FQ vs S) (hi : i < S.T * 2)
    (hown : w1.ownsRow base 3 1 v' l'.length (ints l')) (hgrow : w.grownBy w1 (vs i).ownBlock) (hat : v'.ownBlock = (vs i).ownBlock ∨ v'.ownBlock = some w.heap.size) :
    w1.cell? ⟨g, i, none⟩ = some (vs i) ∧ w1.frozen? ⟨g, i, none⟩ = false ∧ Rt (w1.setCell ⟨g, i, none⟩ v') base b g h q N FQ (upd vs i v') { S with rw := upd S.rw i l' } := by
  have ht : Touch ((vs i).ownBlock.toList) w w1 := Touch.grown hgrow (fun k hk => by simp [hk])
  have hg1 : w1.rowIs g 84 (S.T * 2) vs := H.thr.of_block (ht.block g H.thr.lt (fun hm => H.row_ne_g hi (by simpa using hm) rfl))
  have hne : some g ≠ v'.ownBlock := by
    obtain ⟨c, hc, -⟩ := hg1
    exact row_ne hc hown
  refine ⟨hg1.cell hi, hg1.frozen _, H.setRow hi ((ht.mono (fun k hk => .inl (by simp [hk]))).trans (Touch.setCell _ _ _ (by simp))) (hg1.set i v') (ownsRow_setOther hown hne _) ?_⟩
  rcases hat with e | e
  · exact .inl e
  · exact .inr fun k hk => by rw [e] at hk; simp only [Option.some.injEq] at hk; omega

theorem Rt.c0 {w : World} {base b g h q N : Nat} {FQ : List Nat} {vs : Nat → Value} {S : Sta} (H : Rt w base b g h q N FQ vs S) : w.cell? ⟨b, 0, none⟩ = some (.slice (some ⟨g, 0, none⟩) S.T S.T) := by
  have := heap_cell H.own 0; simpa using this
theorem Rt.c1 {w : World} {base b g h q N : Nat} {FQ : List Nat} {vs : Nat → Value} {S : Sta} (H : Rt w base b g h q N FQ vs S) : w.cell? ⟨b, 1, none⟩ = some (.int .i64 S.most) := by
  have := heap_cell H.own 1; simpa using this
theorem Rt.c2 {w : World} {base b g h q N : Nat} {FQ : List Nat} {vs : Nat → Value} {S : Sta} (H : Rt w base b g h q N FQ vs S) : w.cell? ⟨b, 2, none⟩ = some (.slice (some ⟨h, 0, none⟩) S.hs.length S.hs.length) := by
  have := heap_cell H.own 2; simpa using this
theorem Rt.c3 {w : World} {base b g h q N : Nat} {FQ : List Nat} {vs : Nat → Value} {S : Sta} (H : Rt w base b g h q N FQ vs S) : w.cell? ⟨b, 3, none⟩ = some (.pointer (some ⟨q, 0, none⟩)) := by
  have := heap_cell H.own 3; simpa using this

set_option maxRecDepth 20000 in
set_option maxHeartbeats 1000000 in
theorem push_core (base b g h q N t n : Nat) (FQ : List Nat) (vs : Nat → Value) (S : Sta) (w : World) (H : Rt w base b g h q N FQ vs S) (hO : S.Ok) (hb : base ≤ w.heap.size) (ht : t < S.T) (hn : 1 ≤ n) (hr : n + (S.rw (t * 2 + 1)).length ≤ S.most) :
    Calls Tryz.prog 18 #[.pointer (some ⟨b, 0, none⟩), .int .i64 t, .int .i64 n] w fun e w' => e = .returned (.int .i64 0) ∧ ∃ vs', Rt w' base b g h q N FQ vs' (S.push t n) ∧ Touch (g :: (vs (t * 2)).ownBlock.toList ++ (vs (t * 2 + 1)).ownBlock.toList) w w' ∧ (∀ i k, i < S.T * 2 → (vs' i).ownBlock = some k → (vs i).ownBlock = some k ∨ w.heap.size ≤ k) := by
  have hm2 := hO.m2
  have c0 := H.c0
  have c1 := H.c1
  have d0 := H.thr.cell (i := t * 2) (by omega)
  have d1 := H.thr.cell (i := t * 2 + 1) (by omega)
  have r0 := H.row (t * 2) (by omega)
  obtain ⟨a0, cap0, e0⟩ := own_slice r0
  obtain ⟨a1, cap1, e1⟩ := own_slice (H.row (t * 2 + 1) (by omega))
  have hfr := hO.frames ht
  have hth := thread_in b g S.T t S.T w c0 ht hO.T8
  have k1 : ¬ ((n : Int) < 1) := by omega
  have k2 : ¬ ((S.most : Int) - ((S.rw (t * 2 + 1)).length : Int) < (n : Int)) := by omega
  obtain ⟨i0, hi, hz0, hz1, hz2⟩ := info_parts Tryz.infoInt
  have HH : Hid (Rt w base b g h q N FQ vs S) := H
  have HO : Hid S.Ok := hO
  have Hr0 : Hid (w.ownsRow base 3 1 (vs (t * 2)) (S.rw (t * 2)).length (ints (S.rw (t * 2)))) := r0
  have E0 : Hid (vs (t * 2) = .slice a0 (S.rw (t * 2)).length cap0) := e0
  have E1 : Hid (vs (t * 2 + 1) = .slice a1 (S.rw (t * 2 + 1)).length cap1) := e1
  have Hb : Hid (1 ≤ n ∧ n + (S.rw (t * 2 + 1)).length ≤ S.most ∧ S.most ≤ 4096 ∧ (S.rw (t * 2)).length ≤ 4096) := ⟨hn, hr, hm2, hfr⟩
  have k3 : (S.most : Int) - ((S.rw (t * 2 + 1)).length : Int) < 9223372036854775808 := by omega
  have k4 : -9223372036854775808 ≤ (S.most : Int) - ((S.rw (t * 2 + 1)).length : Int) := by omega
  rw [e0] at d0
  rw [e1] at d1
  clear H hO r0 e0 e1 hn hr hm2 hfr
  go_enter Tryz.func18, Tryz.ntmps18
  go_wp2_with fail
  refine hth.mono ?_
  rintro e w' ⟨rfl, rfl⟩
  go_wp2_with fail
  go_quiet (fail)
  clear hth c0 c1
  have hr2 : (w.drewN nq).ownsRow base 3 1 (.slice a0 (S.rw (t * 2)).length cap0) (S.rw (t * 2)).length (ints (S.rw (t * 2))) := by rw [← E0.out]; exact Hr0.out
  have Hr2 : Hid ((w.drewN nq).ownsRow base 3 1 (.slice a0 (S.rw (t * 2)).length cap0) (S.rw (t * 2)).length (ints (S.rw (t * 2)))) := hr2
  clear hr2 k3 k4
  go_wp2_with (at_builtin; refine wpList_append_own_at _ rfl _ _ 33 rfl base 3 i0 (.int .i64 0) 1 8 Tryz.underlying33 hi hz0 hz1 hz2 rfl (by decide) _ _ _ rfl (Hr2.out.alloc _) ⟨w.heap.size, 0, none⟩ 1 1 [.int .i64 n] rfl rfl (cell_one_new _ _ _) (by simp [Value.oneCell']) (by have := Hb.out; simp [maxLen]; omega) (by have := Hb.out; omega) (by simp; omega) ?_)
  intro v' w1 hown' hgrow _ hat
  have hg2 : (w.drewN nq |>.alloc (.cells #[.int .i64 n] 3)).grownBy w1 (vs (t * 2)).ownBlock := by rw [E0.out]; exact hgrow
  have hat2 : v'.ownBlock = (vs (t * 2)).ownBlock ∨ v'.ownBlock = some (w.heap.size + 1) := by rw [E0.out]; simpa using hat
  have hown2 : w1.ownsRow base 3 1 v' (S.rw (t * 2) ++ [(n : Int)]).length (ints (S.rw (t * 2) ++ [(n : Int)])) := by simpa using hown'
  obtain ⟨g', cap', rfl⟩ := ownsRow_succ hown'
  obtain ⟨q1, q2, q3⟩ := grown_rt HH.out (by omega) hown2 hg2 hat2
  have T1 : Hid (Touch (g :: (vs (t * 2)).ownBlock.toList) w (w1.setCell ⟨g, t * 2, none⟩ (.slice (some ⟨g', 0, none⟩) ((S.rw (t * 2)).length + 1) cap'))) :=
    ((((Touch.drewN _ w nq).trans (Touch.alloc _ _ _)).trans (Touch.grown hg2 (fun k hk => by simp [hk]))).trans (Touch.setCell _ _ _ (by simp)))
  have N1 : Hid (∀ k, (Value.slice (some ⟨g', 0, none⟩) ((S.rw (t * 2)).length + 1) cap').ownBlock = some k → (vs (t * 2)).ownBlock = some k ∨ w.heap.size ≤ k) := fun k hk => by
    rcases hat2 with e | e
    · exact .inl (e ▸ hk)
    · rw [e] at hk; simp only [Option.some.injEq] at hk; exact .inr (by omega)
  have Q3 : Hid (Rt (w1.setCell ⟨g, t * 2, none⟩ (.slice (some ⟨g', 0, none⟩) ((S.rw (t * 2)).length + 1) cap')) base b g h q N FQ (upd vs (t * 2) (.slice (some ⟨g', 0, none⟩) ((S.rw (t * 2)).length + 1) cap')) { S with rw := upd S.rw (t * 2) (S.rw (t * 2) ++ [(n : Int)]) }) := q3
  rw [E0.out] at q1
  clear q3 hown' hown2 hat hat2 hgrow hg2 Hr2 Hr0
  go_upto_region 9 with fail
  generalize w1.setCell ⟨g, t * 2, none⟩ (.slice (some ⟨g', 0, none⟩) ((S.rw (t * 2)).length + 1) cap') = w2 at *
  clear q1 q2 d0 d1
  have d1 := Q3.out.thr.cell (i := t * 2 + 1) (by show _ < S.T * 2; omega)
  rw [upd_ne _ _ (by omega), E1.out] at d1
  have r1 := Q3.out.row (t * 2 + 1) (by show _ < S.T * 2; omega)
  rw [upd_ne _ _ (by omega), E1.out] at r1
  simp only [upd_ne S.rw _ (show t * 2 + 1 ≠ t * 2 by omega)] at r1
  obtain ⟨v2, w3, hz, hz3, hz4, hz5⟩ := run_zeros_own w2 base 33 3 33 3 i0 (.int .i64 0) 8 .i64 .i64 Tryz.underlying33 Tryz.underlying3 hi hz0 hz1 hz2 rfl rfl _ _ _ r1 n (by have := Hb.out; omega) (by have := Hb.out; simp [maxLen]; omega) (by have := Hb.out; omega) (by have := T1.out.size; omega)
  obtain ⟨a2, cap2, rfl⟩ := own_slice hz3
  have hown3 : w3.ownsRow base 3 1 (.slice a2 ((S.rw (t * 2 + 1)).length + n) cap2) (S.rw (t * 2 + 1) ++ List.replicate n 0).length (ints (S.rw (t * 2 + 1) ++ List.replicate n 0)) := by simpa using hz3
  have hg3 : w2.grownBy w3 ((upd vs (t * 2) (.slice (some ⟨g', 0, none⟩) ((S.rw (t * 2)).length + 1) cap')) (t * 2 + 1)).ownBlock := by rw [upd_ne _ _ (by omega), E1.out]; exact hz4
  have hat3 : (Value.slice a2 ((S.rw (t * 2 + 1)).length + n) cap2).ownBlock = ((upd vs (t * 2) (.slice (some ⟨g', 0, none⟩) ((S.rw (t * 2)).length + 1) cap')) (t * 2 + 1)).ownBlock ∨ (Value.slice a2 ((S.rw (t * 2 + 1)).length + n) cap2).ownBlock = some w2.heap.size := by rw [upd_ne _ _ (by omega), E1.out]; exact hz5
  obtain ⟨p1, p2, p3⟩ := grown_rt0 Q3.out (by show _ < S.T * 2; omega) hown3 hg3 hat3
  rw [upd_ne _ _ (by omega), E1.out] at p1
  have T2 : Hid (Touch (g :: (vs (t * 2 + 1)).ownBlock.toList) w2 (w3.setCell ⟨g, t * 2 + 1, none⟩ (.slice a2 ((S.rw (t * 2 + 1)).length + n) cap2))) := by
    rw [upd_ne _ _ (by omega)] at hg3
    exact (Touch.grown hg3 (fun k hk => by simp [hk])).trans (Touch.setCell _ _ _ (by simp))
  have N2 : Hid (∀ k, (Value.slice a2 ((S.rw (t * 2 + 1)).length + n) cap2).ownBlock = some k → (vs (t * 2 + 1)).ownBlock = some k ∨ w.heap.size ≤ k) := fun k hk => by
    rw [upd_ne _ _ (by omega)] at hat3
    rcases hat3 with e | e
    · exact .inl (e ▸ hk)
    · rw [e] at hk; simp only [Option.some.injEq] at hk; have := T1.out.size; exact .inr (by omega)
  have P3 : Hid (Rt (w3.setCell ⟨g, t * 2 + 1, none⟩ (.slice a2 ((S.rw (t * 2 + 1)).length + n) cap2)) base b g h q N FQ (upd (upd vs (t * 2) (.slice (some ⟨g', 0, none⟩) ((S.rw (t * 2)).length + 1) cap')) (t * 2 + 1) (.slice a2 ((S.rw (t * 2 + 1)).length + n) cap2)) (S.push t n)) := by
    have e : (upd S.rw (t * 2) (S.rw (t * 2) ++ [(n : Int)])) (t * 2 + 1) = S.rw (t * 2 + 1) := upd_ne _ _ (by omega)
    exact p3
  clear p3 hz3 hz4 hz5 hown3 hg3 hat3 r1 Q3
  go_wp2_with (at_builtin; refine Lib.wpList_append_run _ rfl _ _ _ _ rfl _ _ rfl rfl _ _ hz ?_)
  go_wp2
  go_ret
  refine ⟨rfl, _, P3.out, ?_, ?_⟩
  · exact (T1.out.mono (fun k hk => .inl (by simp at hk ⊢; rcases hk with h | h <;> simp [h]))).trans (T2.out.mono (fun k hk => .inl (by simp at hk ⊢; rcases hk with h | h <;> simp [h])))
  · intro i k hi hk
    by_cases e : i = t * 2 + 1
    · subst e; rw [upd_same] at hk; exact N2.out k hk
    · rw [upd_ne _ _ e] at hk
      by_cases e : i = t * 2
      · subst e; rw [upd_same] at hk; exact N1.out k hk
      · rw [upd_ne _ _ e] at hk; exact .inl hk

end Go.Proofs.YtdlannfjnljbcaaGreatDoor
