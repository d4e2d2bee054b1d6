/-
  Push, whatever it is handed; Pop.
-/
import Derived.Test.YtdlannfjnljbcaaGreatDoorR5
import Derived.RegionTactic
import Derived.BigRegion
import Derived.Deep.RegionWith
set_option linter.unusedVariables false
namespace Go.Proofs.YtdlannfjnljbcaaGreatDoor
open Go.RowKit

set_option maxRecDepth 20000 in
theorem push_e51 (b g T cap : Nat) (t n : Int) (w : World) (h0 : w.cell? ⟨b, 0, none⟩ = some (.slice (some ⟨g, 0, none⟩) T cap)) (hn : ¬ (0 ≤ t ∧ t < T)) (hT : T ≤ 8) :
    Calls Tryz.prog 18 #[.pointer (some ⟨b, 0, none⟩), .int .i64 t, .int .i64 n] w fun e w' => e = .returned (.int .i64 51) ∧ w = w' := by
  have hth := thread_out b g T cap t w h0 hn hT
  clear hn
  go_enter Tryz.func18, Tryz.ntmps18
  go_wp2_with fail
  refine hth.mono ?_
  rintro e w' ⟨rfl, rfl⟩
  go_wp2
  go_ret
  exact ⟨rfl, rfl⟩

set_option maxRecDepth 20000 in
theorem push_e50 (b g T cap t : Nat) (n : Int) (w : World) (h0 : w.cell? ⟨b, 0, none⟩ = some (.slice (some ⟨g, 0, none⟩) T cap)) (ht : t < T) (hT : T ≤ 8) (hn : n < 1) :
    Calls Tryz.prog 18 #[.pointer (some ⟨b, 0, none⟩), .int .i64 t, .int .i64 n] w fun e w' => e = .returned (.int .i64 50) ∧ w = w' := by
  have hth := thread_in b g T t cap w h0 ht hT
  go_enter Tryz.func18, Tryz.ntmps18
  go_wp2_with fail
  refine hth.mono ?_
  rintro e w' ⟨rfl, rfl⟩
  go_wp2
  go_ret
  exact ⟨rfl, rfl⟩

set_option maxRecDepth 20000 in
theorem push_e53 (b g T cap t m l c : Nat) (a : Option Addr) (n : Int) (w : World) (h0 : w.cell? ⟨b, 0, none⟩ = some (.slice (some ⟨g, 0, none⟩) T cap)) (h1 : w.cell? ⟨b, 1, none⟩ = some (.int .i64 m))
    (h2 : w.cell? ⟨g, t * 2 + 1, none⟩ = some (.slice a l c)) (ht : t < T) (hT : T ≤ 8) (hn : ¬ (n < 1)) (hr : (m : Int) - (l : Int) < n) (hm : m ≤ 4096) (hl : l ≤ 4096) :
    Calls Tryz.prog 18 #[.pointer (some ⟨b, 0, none⟩), .int .i64 t, .int .i64 n] w fun e w' => e = .returned (.int .i64 53) ∧ ∃ nq, w' = w.drewN nq := by
  have hth := thread_in b g T t cap w h0 ht hT
  go_enter Tryz.func18, Tryz.ntmps18
  go_wp2_with fail
  refine hth.mono ?_
  rintro e w' ⟨rfl, rfl⟩
  go_wp2_with fail
  go_quiet (fail)
  go_wp2
  go_ret
  exact ⟨rfl, nq, rfl⟩

/-- What Push answers, and what it leaves. -/
def Sta.pushE (S : Sta) (t n : Int) : Int := if 0 ≤ t ∧ t < S.T then (if n < 1 then 50 else if (S.most : Int) - ((S.rw (t.toNat * 2 + 1)).length : Int) < n then 53 else 0) else 51

def Sta.pushS (S : Sta) (t n : Int) : Sta := if S.pushE t n = 0 then S.push t.toNat n.toNat else S

theorem fp_new {b g h : Nat} {FQ FQ' : List Nat} {T n : Nat} {vs vs' : Nat → Value} (h1 : ∀ i k, i < T * 2 → (vs' i).ownBlock = some k → (vs i).ownBlock = some k ∨ n ≤ k) (h2 : Newer n FQ FQ') : Newer n (fp b g h FQ T vs) (fp b g h FQ' T vs') := by
  intro k hk
  rcases mem_fp.1 hk with rfl | rfl | rfl | hk | ⟨i, hi, hv⟩
  · exact .inl (by simp [mem_fp])
  · exact .inl (by simp [mem_fp])
  · exact .inl (by simp [mem_fp])
  · rcases h2 k hk with h | h
    · exact .inl (by simp [mem_fp, h])
    · exact .inr h
  · rcases h1 i k hi hv with h | h
    · exact .inl (mem_fp.2 (.inr (.inr (.inr (.inr ⟨i, hi, h⟩)))))
    · exact .inr h

theorem push_any (base b N : Nat) (t n : Int) (S : Sta) (F : List Nat) (w : World) (H : Rts w base b N S F) (hO : S.Ok) (hb : base ≤ w.heap.size) :
    Calls Tryz.prog 18 #[.pointer (some ⟨b, 0, none⟩), .int .i64 t, .int .i64 n] w fun e w' => e = .returned (.int .i64 (S.pushE t n)) ∧ ∃ F', Rts w' base b N (S.pushS t n) F' ∧ Touch F w w' ∧ Newer w.heap.size F F' := by
  obtain ⟨g, h, q, FQ, vs, H, rfl⟩ := H
  by_cases ht : 0 ≤ t ∧ t < S.T
  · obtain ⟨t, rfl⟩ := Int.eq_ofNat_of_zero_le ht.1
    have ht2 : t < S.T := by omega
    by_cases hn : n < 1
    · have e : S.pushE t n = 50 := by unfold Sta.pushE; rw [if_pos ht, if_pos hn]
      rw [e]
      refine (push_e50 b g S.T S.T t n w H.c0 ht2 hO.T8 hn).mono ?_
      rintro e' w' ⟨rfl, rfl⟩
      exact ⟨rfl, _, ⟨g, h, q, FQ, vs, by unfold Sta.pushS; rw [e]; exact H, by unfold Sta.pushS; rw [e]; rfl⟩, Touch.refl _ _, Newer.refl _ _⟩
    · by_cases hr : (S.most : Int) - ((S.rw (t * 2 + 1)).length : Int) < n
      · have e : S.pushE t n = 53 := by unfold Sta.pushE; rw [if_pos ht, if_neg hn, if_pos]; exact hr
        rw [e]
        obtain ⟨a1, cap1, e1⟩ := own_slice (H.row (t * 2 + 1) (by omega))
        have d1 := H.thr.cell (i := t * 2 + 1) (by omega)
        rw [e1] at d1
        refine (push_e53 b g S.T S.T t S.most _ cap1 a1 n w H.c0 H.c1 d1 ht2 hO.T8 hn hr hO.m2 (Nat.le_trans (hO.room t ht2) hO.m2)).mono ?_
        rintro e' w' ⟨rfl, nq, rfl⟩
        exact ⟨rfl, _, ⟨g, h, q, FQ, vs, by unfold Sta.pushS; rw [e]; exact H.touch (Touch.drewN [] _ _) (fun k _ h => by cases h), by unfold Sta.pushS; rw [e]; rfl⟩, Touch.drewN _ _ _, Newer.refl _ _⟩
      · have e : S.pushE t n = 0 := by unfold Sta.pushE; rw [if_pos ht, if_neg hn, if_neg]; exact hr
        obtain ⟨n, rfl⟩ := Int.eq_ofNat_of_zero_le (show 0 ≤ n by omega)
        rw [e]
        refine (push_core base b g h q N t n FQ vs S w H hO hb ht2 (by omega) (by omega)).mono ?_
        rintro e' w' ⟨rfl, vs', H', ht', hnew⟩
        refine ⟨rfl, _, ⟨g, h, q, FQ, vs', by unfold Sta.pushS; rw [e]; exact H', by unfold Sta.pushS; rw [e]; rfl⟩, ht'.mono (fun k hk => .inl ?_), fp_new hnew (Newer.refl _ _)⟩
        simp only [List.mem_append, List.mem_cons, Option.mem_toList, List.cons_append] at hk
        rcases hk with rfl | hk | hk
        · simp [mem_fp]
        · exact mem_fp.2 (.inr (.inr (.inr (.inr ⟨t * 2, by omega, hk⟩))))
        · exact mem_fp.2 (.inr (.inr (.inr (.inr ⟨t * 2 + 1, by omega, hk⟩))))
  · have e : S.pushE t n = 51 := by unfold Sta.pushE; rw [if_neg ht]
    rw [e]
    refine (push_e51 b g S.T S.T t n w H.c0 ht hO.T8).mono ?_
    rintro e' w' ⟨rfl, rfl⟩
    exact ⟨rfl, _, ⟨g, h, q, FQ, vs, by unfold Sta.pushS; rw [e]; exact H, by unfold Sta.pushS; rw [e]; rfl⟩, Touch.refl _ _, Newer.refl _ _⟩

theorem Sta.push_T (S : Sta) (t n : Int) : (S.pushS t n).T = S.T := by unfold Sta.pushS; split <;> rfl

/-- A thread's frames become others. -/
theorem Sta.Ok.turn {S : Sta} (h : S.Ok) (t : Nat) (sz sl : List Int) (hs : sz.sum = sl.length) (hp : ∀ n ∈ sz, 1 ≤ n) (hr : sl.length ≤ S.most) (h0 : ∀ x ∈ sl, 0 ≤ x) : ({ S with rw := upd (upd S.rw (t * 2) sz) (t * 2 + 1) sl } : Sta).Ok := by
  have key : ∀ u, (upd (upd S.rw (t * 2) sz) (t * 2 + 1) sl (u * 2) = if u = t then sz else S.rw (u * 2)) ∧ (upd (upd S.rw (t * 2) sz) (t * 2 + 1) sl (u * 2 + 1) = if u = t then sl else S.rw (u * 2 + 1)) := by
    intro u
    by_cases e : u = t
    · subst e
      simp [upd]
    · rw [upd_ne _ _ (by omega), upd_ne _ _ (by omega), upd_ne _ _ (by omega), upd_ne _ _ (by omega), if_neg e, if_neg e]
      exact ⟨rfl, rfl⟩
  refine ⟨h.T1, h.T8, h.m1, h.m2, h.hn, fun u hu => ?_, fun u hu => ?_, fun u hu => ?_, fun u hu => ?_, h.h0, h.q0⟩
  · show (upd (upd S.rw (t * 2) sz) (t * 2 + 1) sl (u * 2)).sum = (upd (upd S.rw (t * 2) sz) (t * 2 + 1) sl (u * 2 + 1)).length
    rw [(key u).1, (key u).2]
    by_cases e : u = t
    · rw [if_pos e, if_pos e]; exact hs
    · rw [if_neg e, if_neg e]; exact h.sum u hu
  · show ∀ n ∈ upd (upd S.rw (t * 2) sz) (t * 2 + 1) sl (u * 2), 1 ≤ n
    rw [(key u).1]
    by_cases e : u = t
    · rw [if_pos e]; exact hp
    · rw [if_neg e]; exact h.pos u hu
  · show (upd (upd S.rw (t * 2) sz) (t * 2 + 1) sl (u * 2 + 1)).length ≤ S.most
    rw [(key u).2]
    by_cases e : u = t
    · rw [if_pos e]; exact hr
    · rw [if_neg e]; exact h.room u hu
  · show ∀ n ∈ upd (upd S.rw (t * 2) sz) (t * 2 + 1) sl (u * 2 + 1), 0 ≤ n
    rw [(key u).2]
    by_cases e : u = t
    · rw [if_pos e]; exact h0
    · rw [if_neg e]; exact h.s0 u hu

theorem Sta.Ok.pushS {S : Sta} (h : S.Ok) (t n : Int) : (S.pushS t n).Ok := by
  unfold Sta.pushS
  split
  · rename_i he
    have ht : 0 ≤ t ∧ t < S.T := by
      apply Classical.byContradiction; intro hn; unfold Sta.pushE at he; rw [if_neg hn] at he; cases he
    have hn : ¬ n < 1 := by
      intro hn; unfold Sta.pushE at he; rw [if_pos ht, if_pos hn] at he; cases he
    have hr : ¬ (S.most : Int) - ((S.rw (t.toNat * 2 + 1)).length : Int) < n := by
      intro hr; unfold Sta.pushE at he; rw [if_pos ht, if_neg hn, if_pos hr] at he; cases he
    have h1 := h.sum t.toNat (by omega)
    have h2 := h.pos t.toNat (by omega)
    have h3 := h.room t.toNat (by omega)
    have h4 := h.s0 t.toNat (by omega)
    refine h.turn t.toNat _ _ ?_ ?_ ?_ ?_
    · simp; omega
    · intro x hx
      rcases List.mem_append.1 hx with hx | hx
      · exact h2 x hx
      · have := List.mem_singleton.1 hx; omega
    · simp; omega
    · intro x hx
      rcases List.mem_append.1 hx with hx | hx
      · exact h4 x hx
      · have := List.eq_of_mem_replicate hx; omega
  · exact h

end Go.Proofs.YtdlannfjnljbcaaGreatDoor
