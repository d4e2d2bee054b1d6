/-
  One step of a queue of numbers, whatever it is; plays.
-/
import Derived.Test.YtcjblafohfiiaabGreatXQn
set_option linter.unusedVariables false
namespace Go.Proofs.YtcjblafohfiiaabGreat.Tx
open Go.RowKit Go.Shelf

theorem qo_any (d i bs br base N : Nat) (m : Int) (xs : List ByteArray) (F : List Nat) (k : Int) (sec : Bool) (n wd : Int) (s : ByteArray) (stop : Int) (w : World) (hi : i < 2) (hp : PQ w base bs br N m xs F) (hbase : base ≤ w.heap.size) (hN : N < 1000000) (hl5 : xs.length < 100000)
    (hc : w.cell? ⟨d, 4 + i, none⟩ = some (.pointer (some ⟨bs, 0, none⟩))) (hcr : w.cell? ⟨d, 14 + i, none⟩ = some (.pointer (some ⟨br, 0, none⟩))) :
    Calls Tryz.prog 20 #[.pointer (some ⟨d, 0, none⟩), .agg (opv k sec n wd s stop), .int .i64 i] w fun e w' => e = .returned (.bool true) ∧ ∃ N' xs' F', N' ≤ N + 1 ∧ xs'.length ≤ xs.length + 1 ∧ PQ w' base bs br N' m xs' F' ∧ Touch F w w' ∧ Newer w.heap.size F F' := by
  have hlen : xs.length < 1000000 := by omega
  by_cases h1 : k = 10
  · subst h1
    by_cases hf : 0 < m ∧ m ≤ (xs.length : Int)
    · exact (qo_full d i bs br base N m xs F sec n wd s stop w hi hp hbase hlen hc hcr hf).mono fun e w' ⟨he, F', h⟩ => ⟨he, N, xs, F', by omega, by omega, h⟩
    · exact (qo_put d i bs br base N m xs F sec n wd s stop w hi hp hbase hN hc hcr hlen hf).mono fun e w' ⟨he, F', h⟩ => ⟨he, N + 1, _, F', by omega, by simp, h⟩
  · by_cases h2 : k = 11
    · subst h2
      cases xs with
      | nil => exact (qo_take0 d i bs br base N m F sec n wd s stop w hi hp hc hcr).mono fun e w' ⟨he, F', h⟩ => ⟨he, N, [], F', by omega, by simp, h⟩
      | cons x ys => exact (qo_take d i bs br base N m x ys F sec n wd s stop w hi hp hbase hN (by simp at hlen; omega) hc hcr).mono fun e w' ⟨he, F', h⟩ => ⟨he, N, ys, F', by omega, by simp; omega, h⟩
    · by_cases h3 : k = 12
      · subst h3
        exact (qo_map d i bs br base N m xs F sec n wd s stop w hi hp hbase hN hl5 hc hcr).mono fun e w' ⟨he, F', h⟩ => ⟨he, N, _, F', by omega, by simp, h⟩
      · by_cases h4 : k = 13
        · subst h4
          exact (qo_len d i bs br base N m xs F sec n wd s stop w hi hp hc hcr).mono fun e w' ⟨he, F', h⟩ => ⟨he, N, xs, F', by omega, by omega, h⟩
        · exact (qo_all d i bs br base N m xs F k sec n wd s stop w hi hp hbase hN hlen (by simpa using h1) (by simpa using h2) (by simpa using h3) (by simpa using h4) hc hcr).mono fun e w' ⟨he, F', h⟩ => ⟨he, N, xs, F', by omega, by omega, h⟩

set_option maxHeartbeats 2000000 in
/-- plays, of a queue. -/
theorem plays_text (R : World → Prop) (d : Nat) (k : Int) (sec : Bool) (n wd : Int) (s : ByteArray) (stop : Int) (w : World) (hk1 : 10 ≤ k) (hk4 : k ≤ 14)
    (h : Calls Tryz.prog 20 #[.pointer (some ⟨d, 0, none⟩), .agg (opv k sec n wd s stop), .int .i64 (if sec = true then 1 else 0)] (w.alloc (.cells (opv k sec n wd s stop) 31)) fun e w' => e = .returned (.bool true) ∧ R w') :
    Calls Tryz.prog 9 #[.pointer (some ⟨d, 0, none⟩), .agg (opv k sec n wd s stop)] w fun e w' => e = .returned (.bool true) ∧ R w' := by
  have e1 : ¬ k < 1 := by omega
  have e2 : ¬ 26 < k := by omega
  have e3 : ¬ k ≤ 4 := by omega
  have e4 : ¬ k ≤ 9 := by omega
  cases sec
  · simp only [Bool.false_eq_true, if_false] at h
    go_enter Tryz.func9, Tryz.ntmps9
    go_wp2_with fail
    refine h.mono ?_
    rintro e w' ⟨rfl, hR⟩
    go_wp2
    go_ret
    exact ⟨rfl, hR⟩
  · simp only [if_true] at h
    go_enter Tryz.func9, Tryz.ntmps9
    go_wp2_with fail
    refine h.mono ?_
    rintro e w' ⟨rfl, hR⟩
    go_wp2
    go_ret
    exact ⟨rfl, hR⟩

end Go.Proofs.YtcjblafohfiiaabGreat.Tx
