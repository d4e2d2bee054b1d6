/-
  A piece: drop, fill. What a buffer's rest becomes.
-/
import Derived.Test.YtpiemfchjlihfaaGreatDoorBM1
import Derived.Test.YtpiemfchjlihfaaGreatDoorCTagS
import Derived.Test.YtpiemfchjlihfaaGreatDoorPKm
import Derived.Defers
set_option linter.unusedVariables false
set_option maxRecDepth 20000
namespace Go.Proofs.YtpiemfchjlihfaaGreatDoor
open Go.RowKit

/-- One thread's rest is another one. -/
def Bfs.put (B : Bfs) (t : Nat) (a n : Int) : Bfs := ⟨B.n, B.size, fun j => if j = t then a else B.at_ j, fun j => if j = t then n else B.ws j⟩

theorem Bf.frozen {w : World} {b : Nat} {B : Bfs} (h : Bf w b B) (j : Nat) : w.frozen? ⟨b, j, none⟩ = false := h.own.frozen j

theorem Bf.setAt {w : World} {b : Nat} {B : Bfs} (h : Bf w b B) (t : Nat) (a : Int) : Bf (w.setCell ⟨b, 2 + t * 2, none⟩ (.int .i64 a)) b (B.put t a (B.ws t)) := by
  refine ⟨(h.own.set _ _).congr (fun j _ => ?_), h.n0, h.n1, h.s0, h.s1⟩
  unfold bf Bfs.put
  dsimp only
  by_cases e : j = 2 + t * 2
  · subst e
    rw [if_pos rfl, if_neg (by omega), if_neg (by omega), if_pos (by omega), if_pos (by omega)]
  · rw [if_neg e]
    by_cases h0 : j = 0
    · rw [if_pos h0, if_pos h0]
    · rw [if_neg h0, if_neg h0]
      by_cases h1 : j = 1
      · rw [if_pos h1, if_pos h1]
      · rw [if_neg h1, if_neg h1]
        by_cases h2 : j % 2 = 0
        · rw [if_pos h2, if_pos h2, if_neg (by omega)]
        · rw [if_neg h2, if_neg h2]
          by_cases h3 : (j - 2) / 2 = t
          · rw [if_pos h3, h3]
          · rw [if_neg h3]

theorem Bf.setWs {w : World} {b : Nat} {B : Bfs} (h : Bf w b B) (t : Nat) (n : Int) : Bf (w.setCell ⟨b, 2 + t * 2 + 1, none⟩ (.int .i64 n)) b (B.put t (B.at_ t) n) := by
  refine ⟨(h.own.set _ _).congr (fun j _ => ?_), h.n0, h.n1, h.s0, h.s1⟩
  unfold bf Bfs.put
  dsimp only
  by_cases e : j = 2 + t * 2 + 1
  · subst e
    rw [if_pos rfl, if_neg (by omega), if_neg (by omega), if_neg (by omega), if_pos (by omega)]
  · rw [if_neg e]
    by_cases h0 : j = 0
    · rw [if_pos h0, if_pos h0]
    · rw [if_neg h0, if_neg h0]
      by_cases h1 : j = 1
      · rw [if_pos h1, if_pos h1]
      · rw [if_neg h1, if_neg h1]
        by_cases h2 : j % 2 = 0
        · rw [if_pos h2, if_pos h2]
          by_cases h3 : (j - 2) / 2 = t
          · rw [if_pos h3, h3]
          · rw [if_neg h3]
        · rw [if_neg h2, if_neg h2, if_neg (by omega)]

theorem Bfs.put_put (B : Bfs) (t : Nat) (a n a' n' : Int) : (B.put t a n).put t a' n' = B.put t a' n' := by
  unfold Bfs.put
  congr 1
  · funext j; dsimp only; split <;> rfl
  · funext j; dsimp only; split <;> rfl

theorem Bfs.put_at (B : Bfs) (t : Nat) (a n : Int) : (B.put t a n).at_ t = a := by unfold Bfs.put; simp
theorem Bfs.put_ws (B : Bfs) (t : Nat) (a n : Int) : (B.put t a n).ws t = n := by unfold Bfs.put; simp

/-- A piece loses its first n words. -/
def Bfs.drop (B : Bfs) (t : Nat) (n : Int) : Bfs := B.put t (if B.ws t - n = 0 then 0 else B.at_ t + n) (B.ws t - n)

set_option maxHeartbeats 1000000 in
theorem bdrop_any {w : World} {b : Nat} {B : Bfs} (h : Bf w b B) (t : Nat) (ht : t < 8) (n : Int) (h1 : 0 ≤ B.at_ t) (h2 : B.at_ t ≤ 1000000) (h3 : 0 ≤ n) (h4 : n ≤ B.ws t) (h5 : B.ws t ≤ 1000000) :
    Calls Tryz.prog 91 #[.pointer (some ⟨b, 2 + t * 2, none⟩), .int .i64 n] w fun e w' => e = .returned (.tuple #[]) ∧ Bf w' b (B.drop t n) ∧ Touch [b] w w' ∧ w'.heap.size = w.heap.size := by
  have ka := h.cell (2 + t * 2) (by omega) _ (bf_at B t)
  have kw := h.cell (2 + t * 2 + 1) (by omega) _ (bf_ws B t)
  have za := h.frozen (2 + t * 2)
  have zw := h.frozen (2 + t * 2 + 1)
  have q1 := h.setAt t (B.at_ t + n)
  have q2 := q1.setWs t (B.ws t - n)
  rw [Bfs.put_put, Bfs.put_at] at q2
  have q3 := q2.setAt t 0
  rw [Bfs.put_put, Bfs.put_ws] at q3
  have T1 : Touch [b] w (w.setCell ⟨b, 2 + t * 2, none⟩ (.int .i64 (B.at_ t + n))) := Touch.setCell _ _ _ (by simp)
  have T2 := T1.trans (Touch.setCell (w.setCell ⟨b, 2 + t * 2, none⟩ (.int .i64 (B.at_ t + n))) ⟨b, 2 + t * 2 + 1, none⟩ (.int .i64 (B.ws t - n)) (by simp))
  have T3 := T2.trans (Touch.setCell ((w.setCell ⟨b, 2 + t * 2, none⟩ (.int .i64 (B.at_ t + n))).setCell ⟨b, 2 + t * 2 + 1, none⟩ (.int .i64 (B.ws t - n))) ⟨b, 2 + t * 2, none⟩ (.int .i64 0) (by simp))
  have HQ : Hid (Bf ((w.setCell ⟨b, 2 + t * 2, none⟩ (.int .i64 (B.at_ t + n))).setCell ⟨b, 2 + t * 2 + 1, none⟩ (.int .i64 (B.ws t - n))) b (B.put t (B.at_ t + n) (B.ws t - n))) := q2
  have HQ3 : Hid (Bf (((w.setCell ⟨b, 2 + t * 2, none⟩ (.int .i64 (B.at_ t + n))).setCell ⟨b, 2 + t * 2 + 1, none⟩ (.int .i64 (B.ws t - n))).setCell ⟨b, 2 + t * 2, none⟩ (.int .i64 0)) b (B.put t 0 (B.ws t - n))) := q3
  have HT2 : Hid (Touch [b] w ((w.setCell ⟨b, 2 + t * 2, none⟩ (.int .i64 (B.at_ t + n))).setCell ⟨b, 2 + t * 2 + 1, none⟩ (.int .i64 (B.ws t - n)))) := T2
  have HT3 : Hid (Touch [b] w (((w.setCell ⟨b, 2 + t * 2, none⟩ (.int .i64 (B.at_ t + n))).setCell ⟨b, 2 + t * 2 + 1, none⟩ (.int .i64 (B.ws t - n))).setCell ⟨b, 2 + t * 2, none⟩ (.int .i64 0))) := T3
  clear q1 q2 q3 T1 T2 T3 h
  unfold Bfs.drop
  generalize B.at_ t = A at *
  generalize B.ws t = W at *
  go_enter Tryz.func91, Tryz.ntmps91
  by_cases e : W - n = 0
  · rw [if_pos e]
    have e' : (W - n == 0) = true := by simpa using e
    have HE : Hid (W - n = 0) := e
    clear e
    go_wp2
    go_end0
    refine ⟨rfl, HQ3.out, HT3.out, by simp [World.setCell]⟩
  · rw [if_neg e]
    have e' : (W - n == 0) = false := by simpa using e
    clear e
    go_wp2
    go_end0
    exact ⟨rfl, HQ.out, HT2.out, by simp [World.setCell]⟩

end Go.Proofs.YtpiemfchjlihfaaGreatDoor
