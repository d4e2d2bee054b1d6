/-
  Buffers in memory: New, has, Rest, Room.
-/
import Derived.Test.YtpiemfchjlihfaaGreatDoorPAb
import Derived.Test.YtpiemfchjlihfaaGreatDoorPAa
import Derived.Test.YtpiemfchjlihfaaGreatDoorPKm
import Derived.Deep.MidRow
import Derived.Deep.WholeRow
set_option linter.unusedVariables false
set_option maxRecDepth 20000
namespace Go.Proofs.YtpiemfchjlihfaaGreatDoor
open Go.RowKit

/-- Buffers: threads, size, where the rest of each thread begins and how many words it has. -/
structure Bfs where
  n : Int
  size : Int
  at_ : Nat → Int
  ws : Nat → Int

def bf (B : Bfs) : Nat → Value := fun j => if j = 0 then .int .i64 B.n else if j = 1 then .int .i64 B.size else if j % 2 = 0 then .int .i64 (B.at_ ((j - 2) / 2)) else .int .i64 (B.ws ((j - 2) / 2))

/-- Buffers in block b. -/
structure Bf (w : World) (b : Nat) (B : Bfs) : Prop where
  own : w.rowIs b 75 18 (bf B)
  n0 : 1 ≤ B.n
  n1 : B.n ≤ 8
  s0 : 0 ≤ B.size
  s1 : B.size ≤ 65536

theorem bnew_no (n s : Int) (h : ¬ (1 ≤ n ∧ n ≤ 8 ∧ 0 ≤ s ∧ s ≤ 65536)) (w : World) :
    Calls Tryz.prog 7 #[.int .i64 n, .int .i64 s] w fun e w' => e = .returned (.tuple #[.pointer none, .int .i64 130]) ∧ w = w' := by
  go_enter Tryz.func7, Tryz.ntmps7
  by_cases h1 : n < 1
  · go_wp2
    go_returns
    exact ⟨rfl, rfl⟩
  · by_cases h2 : 8 < n
    · go_wp2
      go_returns
      exact ⟨rfl, rfl⟩
    · by_cases h3 : s < 0
      · go_wp2
        go_returns
        exact ⟨rfl, rfl⟩
      · have h4 : 65536 < s := by omega
        go_wp2
        go_returns
        exact ⟨rfl, rfl⟩

theorem Bf.cell {w : World} {b : Nat} {B : Bfs} (h : Bf w b B) (j : Nat) (hj : j < 18) (v : Value) (hv : bf B j = v) : w.cell? ⟨b, j, none⟩ = some v := by
  rw [← hv]
  exact h.own.cell (i := j) hj

theorem Bf.keep {w w' : World} {b : Nat} {B : Bfs} (h : Bf w b B) (hb : w'.heap[b]? = w.heap[b]?) : Bf w' b B := ⟨h.own.of_block hb, h.n0, h.n1, h.s0, h.s1⟩
theorem Bf.below {w w' : World} {b : Nat} {B : Bfs} (h : Bf w b B) (l : Below w.heap.size w w') : Bf w' b B := h.keep (l.block _ h.own.lt)
theorem Bf.touch {w w' : World} {b : Nat} {B : Bfs} {F : List Nat} (h : Bf w b B) (l : Touch F w w') (hb : b ∉ F) : Bf w' b B := h.keep (l.block _ h.own.lt hb)

abbrev bfs0 (n s : Int) : Bfs := ⟨n, s, fun _ => 0, fun _ => 0⟩

theorem bnew_yes (n s : Int) (h : 1 ≤ n ∧ n ≤ 8 ∧ 0 ≤ s ∧ s ≤ 65536) (w : World) :
    Calls Tryz.prog 7 #[.int .i64 n, .int .i64 s] w fun e w' => ∃ b, e = .returned (.tuple #[.pointer (some ⟨b, 0, none⟩), .int .i64 0]) ∧ Bf w' b (bfs0 n s) ∧ Below w.heap.size w w' ∧ w.heap.size ≤ b := by
  have h1 := World.rowIs_alloc w #[.int .i64 n, .int .i64 s, .int .i64 0, .int .i64 0, .int .i64 0, .int .i64 0, .int .i64 0, .int .i64 0, .int .i64 0, .int .i64 0, .int .i64 0, .int .i64 0, .int .i64 0, .int .i64 0, .int .i64 0, .int .i64 0, .int .i64 0, .int .i64 0] 75 (bf (bfs0 n s)) (by
    intro i hi
    match i, hi with
    | 0, _ | 1, _ | 2, _ | 3, _ | 4, _ | 5, _ | 6, _ | 7, _ | 8, _ | 9, _ | 10, _ | 11, _ | 12, _ | 13, _ | 14, _ | 15, _ | 16, _ | 17, _ => rfl
    | j + 18, h => exact absurd (show j + 18 < 18 from h) (by omega))
  have Hb : Hid (Bf (w.alloc (.cells #[.int .i64 n, .int .i64 s, .int .i64 0, .int .i64 0, .int .i64 0, .int .i64 0, .int .i64 0, .int .i64 0, .int .i64 0, .int .i64 0, .int .i64 0, .int .i64 0, .int .i64 0, .int .i64 0, .int .i64 0, .int .i64 0, .int .i64 0, .int .i64 0] 75)) w.heap.size (bfs0 n s)) := ⟨h1, h.1, h.2.1, h.2.2.1, h.2.2.2⟩
  obtain ⟨h2, h3, h4, h5⟩ := h
  clear h1
  go_enter Tryz.func7, Tryz.ntmps7
  go_wp2
  go_returns
  exact ⟨w.heap.size, rfl, Hb.out, Below.alloc (Below.refl _ _) (Nat.le_refl _) _, Nat.le_refl _⟩

/-- Is there such a thread? -/
theorem bhas_any {w : World} {b : Nat} {B : Bfs} (h : Bf w b B) (t : Int) :
    Calls Tryz.prog 49 #[.pointer (some ⟨b, 0, none⟩), .int .i64 t] w fun e w' => e = .returned (.bool (decide (0 ≤ t ∧ t < B.n))) ∧ w = w' := by
  have k0 := h.cell 0 (by omega) (.int .i64 B.n) rfl
  clear h
  go_enter Tryz.func49, Tryz.ntmps49
  by_cases h1 : 0 ≤ t
  · by_cases h2 : t < B.n
    · rw [decide_eq_true (⟨h1, h2⟩ : 0 ≤ t ∧ t < B.n)]
      go_wp2
      go_returns
      exact ⟨rfl, rfl⟩
    · rw [decide_eq_false (fun h : 0 ≤ t ∧ t < B.n => h2 h.2)]
      go_wp2
      go_returns
      exact ⟨rfl, rfl⟩
  · rw [decide_eq_false (fun h : 0 ≤ t ∧ t < B.n => h1 h.1)]
    go_wp2
    go_returns
    exact ⟨rfl, rfl⟩

theorem brest_no {w : World} {b : Nat} {B : Bfs} (h : Bf w b B) (t : Int) (ht : ¬ (0 ≤ t ∧ t < B.n)) :
    Calls Tryz.prog 21 #[.pointer (some ⟨b, 0, none⟩), .int .i64 t] w fun e w' => e = .returned (.tuple #[.int .i64 0, .int .i64 0]) ∧ w = w' := by
  have q := bhas_any h t
  rw [decide_eq_false ht] at q
  clear h ht
  go_enter Tryz.func21, Tryz.ntmps21
  go_wp2_with fail
  refine q.mono ?_
  rintro e9 w1 ⟨rfl, rfl⟩
  go_wp2
  go_returns
  exact ⟨rfl, rfl⟩

theorem bf_at (B : Bfs) (t : Nat) : bf B (2 + t * 2) = .int .i64 (B.at_ t) := by
  unfold bf
  rw [if_neg (by omega), if_neg (by omega), if_pos (by omega), show (2 + t * 2 - 2) / 2 = t by omega]
theorem bf_ws (B : Bfs) (t : Nat) : bf B (2 + t * 2 + 1) = .int .i64 (B.ws t) := by
  unfold bf
  rw [if_neg (by omega), if_neg (by omega), if_neg (by omega), show (2 + t * 2 + 1 - 2) / 2 = t by omega]

theorem brest_yes {w : World} {b : Nat} {B : Bfs} (h : Bf w b B) (t : Nat) (ht : (t : Int) < B.n) :
    Calls Tryz.prog 21 #[.pointer (some ⟨b, 0, none⟩), .int .i64 t] w fun e w' => e = .returned (.tuple #[.int .i64 (B.at_ t), .int .i64 (B.ws t)]) ∧ Below w.heap.size w w' := by
  have q := bhas_any h t
  rw [decide_eq_true (⟨by omega, ht⟩ : 0 ≤ (t : Int) ∧ (t : Int) < B.n)] at q
  have n1 := h.n1
  have ht8 : t < 8 := by omega
  have ka := h.cell (2 + t * 2) (by omega) _ (bf_at B t)
  have kw := h.cell (2 + t * 2 + 1) (by omega) _ (bf_ws B t)
  clear h ht
  go_enter Tryz.func21, Tryz.ntmps21
  go_wp2_with fail
  refine q.mono ?_
  rintro e9 w1 ⟨rfl, rfl⟩
  go_wp2
  go_quiet (fail)
  go_wp2
  go_returns
  exact ⟨rfl, below_drewN (Below.alloc (Below.refl _ _) (Nat.le_refl _) _) nq⟩

theorem broom_no {w : World} {b : Nat} {B : Bfs} (h : Bf w b B) (t : Int) (ht : ¬ (0 ≤ t ∧ t < B.n)) (a : Value) :
    Calls Tryz.prog 19 #[.pointer (some ⟨b, 0, none⟩), a, .int .i64 t] w fun e w' => e = .returned (.int .i64 0) ∧ w = w' := by
  have q := bhas_any h t
  rw [decide_eq_false ht] at q
  clear h ht
  go_enter Tryz.func19, Tryz.ntmps19
  go_wp2_with fail
  refine q.mono ?_
  rintro e9 w1 ⟨rfl, rfl⟩
  go_wp2
  go_returns
  exact ⟨rfl, rfl⟩

theorem broom_yes {w : World} {b : Nat} {B : Bfs} (h : Bf w b B) (t : Nat) (ht : (t : Int) < B.n) {ab ag : Nat} {c : Cfg} {x : Tps} {sw : Bool} {ws : Nat → Int} (hA : Ar w ab ag c x sw ws) :
    Calls Tryz.prog 19 #[.pointer (some ⟨b, 0, none⟩), .pointer (some ⟨ab, 0, none⟩), .int .i64 t] w fun e w' => e = .returned (.int .i64 (max (B.ws t) (bhd c 1 - x.top 1))) ∧ Below w.heap.size w w' := by
  have q := bhas_any h t
  rw [decide_eq_true (⟨by omega, ht⟩ : 0 ≤ (t : Int) ∧ (t : Int) < B.n)] at q
  have n1 := h.n1
  have ht8 : t < 8 := by omega
  have kw := h.cell (2 + t * 2 + 1) (by omega) _ (bf_ws B t)
  have hlt := h.own.lt
  haveI hinh : Inhabited (Kg.Bel w) := ⟨⟨w, Below.refl _ _⟩⟩
  have xw : ∀ p : Kg.Bel w, p.v.cell? ⟨b, 2 + t * 2 + 1, none⟩ = some (.int .i64 (B.ws t)) := fun p => (p.h.cell (p := ⟨b, 2 + t * 2 + 1, none⟩) hlt).trans kw
  have HF : Hid (∀ p : Kg.Bel w, Calls Tryz.prog 52 #[.pointer (some ⟨ab, 0, none⟩), .int .i64 1] p.v fun e w' => e = .returned (.int .i64 (bhd c 1 - x.top 1)) ∧ Below p.v.heap.size p.v w') := fun p => free_any ab ag c x sw ws 1 p.v (hA.below p.h)
  generalize bhd c 1 - x.top 1 = fr at HF ⊢
  generalize B.ws t = ow at xw kw ⊢
  obtain ⟨m, hm⟩ : ∃ m, (if ow < fr then fr else ow) = m := ⟨_, rfl⟩
  rw [show max ow fr = m by rw [← hm]; omega]
  clear h ht hA hlt kw
  go_enter Tryz.func19, Tryz.ntmps19
  go_wp2_with fail
  refine q.mono ?_
  rintro e9 w1 ⟨rfl, rfl⟩
  go_upto_region 3 with fail
  refine Kg.region_below Kg.mixed (by kernel_rfl) ?_
  repeat (go_big_quiet_step (first | (go_at_call 52; exact Kg.calls_bel (HF.out _))))
  refine wpQuiet_nil ?_
  rintro w8 ⟨⟨w8, b8⟩, rfl⟩
  clear xw HF hinh
  go_wp2
  go_returns
  exact ⟨rfl, b8⟩

end Go.Proofs.YtpiemfchjlihfaaGreatDoor
