/-
  Images: lists of numbers as they are read; are all numbers of a list within bounds?
-/
import Derived.Test.YtckgcpoheodbcaaGreatDoorPCa
import Derived.Test.YtckgcpoheodbcaaGreatDoorPKm
import Derived.Test.YtckgcpoheodbcaaGreatDoorPIp
import Derived.RangeFuncBox
import Derived.Shelf.Abstract
set_option linter.unusedVariables false
set_option maxRecDepth 20000
namespace Go.Proofs.YtckgcpoheodbcaaGreatDoor
open Go.RowKit Go.Shelf

def InI (x : Int) : Prop := -9223372036854775808 ≤ x ∧ x ≤ 9223372036854775807

/-- v reads as the numbers xs, in a block below n0. -/
def Lrd (n0 : Nat) (w : World) (v : Value) (k : IntKind) (xs : List Int) : Prop :=
  ∃ a cap, v = .slice a xs.length cap ∧ xs.length ≤ cap ∧ ∀ (f : Nat) z, xs[f]? = some z → ∃ q off, a = some ⟨q, off, none⟩ ∧ q < n0 ∧ w.cell? ⟨q, off + f, none⟩ = some (.int k z)

theorem Lrd.below {n0 : Nat} {w w' : World} {v : Value} {k : IntKind} {xs : List Int} (h : Lrd n0 w v k xs) (l : Below n0 w w') : Lrd n0 w' v k xs := by
  obtain ⟨a, cap, h1, h2, h3⟩ := h
  refine ⟨a, cap, h1, h2, fun f z hz => ?_⟩
  obtain ⟨q, off, h4, h5, h6⟩ := h3 f z hz
  exact ⟨q, off, h4, h5, (l.cell (p := ⟨q, off + f, none⟩) h5).trans h6⟩

theorem Lrd.mono {n0 n1 : Nat} {w : World} {v : Value} {k : IntKind} {xs : List Int} (h : Lrd n0 w v k xs) (l : n0 ≤ n1) : Lrd n1 w v k xs := by
  obtain ⟨a, cap, h1, h2, h3⟩ := h
  refine ⟨a, cap, h1, h2, fun f z hz => ?_⟩
  obtain ⟨q, off, h4, h5, h6⟩ := h3 f z hz
  exact ⟨q, off, h4, Nat.lt_of_lt_of_le h5 l, h6⟩

theorem row_at {w : World} {e size n : Nat} {v : Value} {xs : List Value} (h : w.ownsRow 0 e size v n xs) (hs : 0 < size) : ∃ a cap, v = .slice a n cap ∧ n ≤ cap ∧ ∀ (f : Nat) z, xs[f]? = some z → ∃ q, a = some ⟨q, 0, none⟩ ∧ q < w.heap.size ∧ w.cell? ⟨q, f, none⟩ = some z := by
  have hl := h.1
  rcases h.2 with ⟨rfl, rfl⟩ | ⟨g, cap, cur, rfl, hb, hg, hn, hc, hsz, ht⟩
  · exact ⟨none, 0, rfl, Nat.le_refl _, fun f z hz => by
      have := (List.getElem?_eq_some_iff.1 hz).1
      omega⟩
  · refine ⟨_, _, rfl, hn, fun f z hz => ⟨g, rfl, (Array.getElem?_eq_some_iff.1 hg).1, ?_⟩⟩
    have hf := (List.getElem?_eq_some_iff.1 hz).1
    rw [cell_of_row _ _ f _ _ _ hg, ← Array.getElem?_toList]
    rw [← ht, List.getElem?_take] at hz
    split at hz
    · exact hz
    · simp at hz

theorem Lrd.of_row {w : World} {e : Nat} {v : Value} {k : IntKind} {xs : List Int} (h : w.ownsRow 0 e 1 v xs.length (xs.map (Value.int k))) : Lrd w.heap.size w v k xs := by
  obtain ⟨a, cap, h1, h2, h3⟩ := row_at h (by decide)
  refine ⟨a, cap, h1, h2, fun f z hz => ?_⟩
  obtain ⟨q, h4, h5, h6⟩ := h3 f (.int k z) (by rw [List.getElem?_map, hz]; rfl)
  exact ⟨q, 0, h4, h5, by rw [Nat.zero_add]; exact h6⟩

/-- Within bounds. -/
def inB (lo hi z : Int) : Bool := decide (lo ≤ z) && decide (z ≤ hi)
/-- All of them. -/
def allB (lo hi : Int) (l : List Int) : Prop := ∀ z, z ∈ l → inB lo hi z = true

theorem within1_enters : ∀ args w, (callFunc 138 args).run Tryz.prog w = .ok (.enter 138 args) w := enters_of Tryz.func138 (by kernel_rfl) rfl

set_option maxHeartbeats 1000000 in
theorem within1_any (lo hi z : Int) (b1 b2 : Nat) (w : World) (h1 : w.cell? ⟨b1, 0, none⟩ = some (.int .i64 lo)) (h2 : w.cell? ⟨b2, 0, none⟩ = some (.int .i64 hi)) :
    Calls Tryz.prog 138 #[.int .i64 z, .pointer (some ⟨b1, 0, none⟩), .pointer (some ⟨b2, 0, none⟩)] w fun e w' => e = .returned (.bool (!inB lo hi z)) ∧ w' = w := by
  go_enter Tryz.func138, Tryz.ntmps138
  by_cases ha : z < lo
  · have e : (!inB lo hi z) = true := by simp [inB]; omega
    rw [e]
    go_wp2
    go_ret
    exact ⟨rfl, rfl⟩
  · by_cases hb : hi < z
    · have e : (!inB lo hi z) = true := by simp [inB]; omega
      rw [e]
      go_wp2
      go_ret
      exact ⟨rfl, rfl⟩
    · have e : (!inB lo hi z) = false := by simp [inB]; omega
      rw [e]
      go_wp2
      go_ret
      exact ⟨rfl, rfl⟩

set_option maxHeartbeats 2000000 in
/-- slices.IndexFunc over the closure: below 0, if all are within. -/
theorem indexF_any (lo hi : Int) (b1 b2 n0 : Nat) (v : Value) (l : List Int) (w : World) (hv : Lrd n0 w v .i64 l) (hn : n0 ≤ w.heap.size) (hl : l.length ≤ 4611686018427387904) (h1 : w.cell? ⟨b1, 0, none⟩ = some (.int .i64 lo)) (h2 : w.cell? ⟨b2, 0, none⟩ = some (.int .i64 hi)) :
    Calls Tryz.prog 101 #[v, .func (.func 138) #[] #[.pointer (some ⟨b1, 0, none⟩), .pointer (some ⟨b2, 0, none⟩)]] w fun e w' => ∃ r : Int, e = .returned (.int .i64 r) ∧ w' = w ∧ (0 ≤ r ↔ ¬ allB lo hi l) := by
  obtain ⟨a, cap, rfl, hcap, hc⟩ := hv
  have Hc : Hid (∀ (f : Nat) z, l[f]? = some z → ∃ q off, a = some ⟨q, off, none⟩ ∧ q < n0 ∧ w.cell? ⟨q, off + f, none⟩ = some (.int .i64 z)) := hc
  have hent := within1_enters
  clear hc
  go_enter Tryz.func101, Tryz.ntmps101
  go_wp2
  go_loopw [8] (fun v8 wr => ∃ k : Nat, k ≤ l.length ∧ v8 = .int .i64 k ∧ w = wr ∧ Hid (∀ z, z ∈ l.take k → inB lo hi z = true)) (fun v8 _ => l.length - (intOf v8).toNat)
  case atStart => exact ⟨0, Nat.zero_le _, rfl, rfl, (fun z hz => by simp at hz : ∀ z, z ∈ l.take 0 → inB lo hi z = true)⟩
  case round =>
    obtain ⟨k, hk, rfl, rfl, Hk⟩ := hrel
    by_cases hkl : k < l.length
    · have hz : l[k]? = some (l[k]'hkl) := List.getElem?_eq_getElem hkl
      generalize l[k]'hkl = z at hz
      obtain ⟨q, off, rfl, hq, ca⟩ := Hc.out k z hz
      have hcal := within1_any lo hi z b1 b2 w h1 h2
      have hkI : (k : Int) < (l.length : Int) := by omega
      have Hz : Hid (l[k]? = some z) := hz
      clear hz
      by_cases hin : inB lo hi z = true
      · have e : (!inB lo hi z) = false := by simp [hin]
        rw [e] at hcal
        have Hn : Hid (∀ y, y ∈ l.take (k + 1) → inB lo hi y = true) := fun y hy => by
          rw [List.take_add_one, Hz.out] at hy
          rcases List.mem_append.1 hy with h9 | h9
          · exact Hk.out y h9
          · simp at h9; rw [h9]; exact hin
        clear hin e
        go_wp2_with fail
        refine hcal.mono ?_
        rintro e w5 ⟨rfl, rfl⟩
        clear hcal
        go_wp2
        go_roundw
        case rel => exact ⟨k + 1, by omega, by go_num, trivial, Hn⟩
        case measure => simp [intOf]; omega
      · have e : (!inB lo hi z) = true := by simp [hin]
        rw [e] at hcal
        have Hf : Hid (¬ allB lo hi l) := fun h9 => hin (h9 z (List.mem_of_getElem? Hz.out))
        clear hin e
        go_wp2_with fail
        refine hcal.mono ?_
        rintro e w5 ⟨rfl, rfl⟩
        clear hcal
        go_wp2
        go_ret
        exact ⟨_, rfl, rfl, fun _ => Hf.out, fun _ => by omega⟩
    · have hki : ¬ (k : Int) < (l.length : Int) := by omega
      have hke : k = l.length := by omega
      have Ha : Hid (allB lo hi l) := by
        have h9 := Hk.out
        rw [hke, List.take_length] at h9
        exact h9
      clear Hk
      go_wp2
      go_ret
      exact ⟨-1, rfl, rfl, fun h9 => by omega, fun h9 => absurd Ha.out h9⟩

set_option maxHeartbeats 2000000 in
/-- allWithin. -/
theorem gWithin_any (lo hi : Int) (n0 : Nat) (v : Value) (l : List Int) (w : World) (hv : Lrd n0 w v .i64 l) (hn : n0 ≤ w.heap.size) (hl : l.length ≤ 4611686018427387904) :
    Calls Tryz.prog 114 #[v, .int .i64 lo, .int .i64 hi] w fun e w' => ∃ r : Bool, e = .returned (.bool r) ∧ Below w.heap.size w w' ∧ (r = true ↔ allB lo hi l) := by
  have l1 : Below w.heap.size w (w.alloc (.cells #[.int .i64 lo] 3)) := Below.alloc (Below.refl _ _) (Nat.le_refl _) _
  have l2 : Below w.heap.size w ((w.alloc (.cells #[.int .i64 lo] 3)).alloc (.cells #[.int .i64 hi] 3)) := Below.alloc l1 l1.size _
  have b1 : Boxed ((w.alloc (.cells #[.int .i64 lo] 3)).alloc (.cells #[.int .i64 hi] 3)) w.heap.size 3 (.int .i64 lo) := (Below.heap_alloc _ _ _ (by simp)).trans (Boxed.new w 3 _)
  have b2 : Boxed ((w.alloc (.cells #[.int .i64 lo] 3)).alloc (.cells #[.int .i64 hi] 3)) (w.heap.size + 1) 3 (.int .i64 hi) := by
    have := Boxed.new (w.alloc (.cells #[.int .i64 lo] 3)) 3 (.int .i64 hi)
    simpa using this
  have hf := indexF_any lo hi w.heap.size (w.heap.size + 1) n0 v l _ (hv.below (l2.mono hn)) (Nat.le_trans hn l2.size) hl b1.cell b2.cell
  obtain ⟨a, cap, rfl, -, -⟩ := hv
  have Hl2 : Hid (Below w.heap.size w ((w.alloc (.cells #[.int .i64 lo] 3)).alloc (.cells #[.int .i64 hi] 3))) := l2
  clear l1 b1 b2 l2
  go_enter Tryz.func114, Tryz.ntmps114
  go_wp2_with (first | (go_at_call 137; go_in))
  refine hf.mono ?_
  rintro e w5 ⟨r, rfl, rfl, hr⟩
  have Hr : Hid (0 ≤ r ↔ ¬ allB lo hi l) := hr
  clear hf hr
  go_wp2
  go_ret
  refine ⟨!decide (0 ≤ r), rfl, Hl2.out, ?_⟩
  by_cases h0 : 0 ≤ r
  · simp only [h0, decide_true, Bool.not_true, Bool.false_eq_true, false_iff]
    exact Hr.out.1 h0
  · simp only [h0, decide_false, Bool.not_false, true_iff]
    exact Classical.not_not.1 (fun h => h0 (Hr.out.2 h))

end Go.Proofs.YtckgcpoheodbcaaGreatDoor
