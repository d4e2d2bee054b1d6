/-
  Handles: told, Index, isOpen, Handle, Close, Open.
-/
import Derived.Test.YtemdmpfifcihfaaR9
import Derived.Laws.StructEq
set_option linter.unusedVariables false
namespace Go.Proofs.Ytemdmpfifcihfaa
open Go.RowKit

/-- Is handle i open; what it holds. -/
def hop (hs : List (Option Int)) (i : Nat) : Bool := match hs[i]? with | some (some _) => true | _ => false
def hat (hs : List (Option Int)) (i : Nat) : Int := match hs[i]? with | some (some x) => x | _ => 0

theorem hcell_even (hs : List (Option Int)) (i : Nat) : hcell hs (i * 2) = .bool (hop hs i) := by
  unfold hcell hop
  rw [show i * 2 / 2 = i by omega, show i * 2 % 2 = 0 by omega]
  split <;> simp_all

theorem hcell_odd (hs : List (Option Int)) (i : Nat) : hcell hs (i * 2 + 1) = .int .i64 (hat hs i) := by
  unfold hcell hat
  rw [show (i * 2 + 1) / 2 = i by omega, show (i * 2 + 1) % 2 = 1 by omega]
  split <;> simp_all

theorem eq_handle (o p : Bool) (a c : Int) (w : World) : (binOp .eql 78 (.agg #[.bool o, .int .i64 a]) (.agg #[.bool p, .int .i64 c])).run Try.prog w = .ok (.bool (o == p && a == c)) w := by
  rw [run_eql_struct, show (10000 : Nat) = 9999 + 1 from rfl, run_equalIn_struct w 9999 78 _ _ (by kernel_rfl) (by kernel_rfl)]
  cases o <;> cases p <;> simp [go_sem, Try.underlying78] <;> split <;> simp_all

theorem hat_closed {hs : List (Option Int)} {i : Nat} (h : hop hs i = false) : hat hs i = 0 := by
  unfold hop at h
  unfold hat
  split at h <;> simp_all

/-- The least handle that isn't open. -/
def least (hs : List (Option Int)) : Int := match hs.findIdx? Option.isNone with | some i => i | none => -1

theorem hop_iff {hs : List (Option Int)} {i : Nat} (hi : i < hs.length) : hop hs i = !(hs[i].isNone) := by
  unfold hop
  rw [List.getElem?_eq_getElem hi]
  cases hs[i] <;> rfl

theorem hop_t {hs : List (Option Int)} {i : Nat} (hi : i < hs.length) (h : hop hs i = true) : hs[i].isNone = false := by
  have := hop_iff hi
  rw [h] at this
  generalize hs[i] = o at *
  cases o
  · cases this
  · rfl

theorem hop_f {hs : List (Option Int)} {i : Nat} (hi : i < hs.length) (h : hop hs i = false) : hs[i].isNone = true := by
  have := hop_iff hi
  rw [h] at this
  generalize hs[i] = o at *
  cases o
  · rfl
  · cases this

theorem least_at {hs : List (Option Int)} {i : Nat} (hi : i < hs.length) (h : hop hs i = false) (hp : ∀ j, j < i → hop hs j = true) : least hs = i := by
  unfold least
  have : hs.findIdx? Option.isNone = some i := by
    rw [List.findIdx?_eq_some_iff_getElem]
    exact ⟨hi, hop_f hi h, fun j hj => by rw [hop_t (show j < hs.length by omega) (hp j hj)]; exact Bool.false_ne_true⟩
  rw [this]

theorem least_none {hs : List (Option Int)} (hp : ∀ j, j < hs.length → hop hs j = true) : least hs = -1 := by
  unfold least
  have : hs.findIdx? Option.isNone = none := by
    rw [List.findIdx?_eq_none_iff]
    intro x hx
    obtain ⟨j, hj, rfl⟩ := List.mem_iff_getElem.1 hx
    exact hop_t hj (hp j hj)
  rw [this]

set_option maxRecDepth 20000 in
set_option maxHeartbeats 1000000 in
theorem index_any (h : Nat) (hs : List (Option Int)) (w : World) (hr : w.rowIs h 78 (hs.length * 2) (hcell hs)) (hH : hs.length ≤ 1024) :
    Calls Try.prog 46 #[.slice (some ⟨h, 0, none⟩) hs.length hs.length, .agg #[.bool false, .int .i64 0]] w fun e w' => e = .returned (.int .i64 (least hs)) ∧ Below w.heap.size w w' := by
  have Hr : Hid (w.rowIs h 78 (hs.length * 2) (hcell hs)) := hr
  have hlt := hr.lt
  obtain ⟨L, hL⟩ : ∃ L, L = hs.length := ⟨_, rfl⟩
  have heq := fun (o : Bool) (a : Int) (w : World) => eq_handle false o 0 a w
  have hne : ¬ (h = w.heap.size) := by omega
  clear hr
  go_enter Try.func46, Try.ntmps46
  go_wp2
  have b0 : (w.alloc (.cells #[.bool false, .int .i64 0] 78)).cell? ⟨w.heap.size, 0, none⟩ = some (.bool false) := by simp
  have b1 : (w.alloc (.cells #[.bool false, .int .i64 0] 78)).cell? ⟨w.heap.size, 1, none⟩ = some (.int .i64 0) := by simp
  have HB : Hid (Below w.heap.size w (w.alloc (.cells #[.bool false, .int .i64 0] 78))) := Below.alloc (Below.refl _ _) (Nat.le_refl _) _
  have HR : Hid ((w.alloc (.cells #[.bool false, .int .i64 0] 78)).rowIs h 78 (hs.length * 2) (hcell hs)) := Hr.out.alloc _
  clear Hr
  generalize w.alloc (.cells #[.bool false, .int .i64 0] 78) = w1 at *
  go_loopw [8] (fun i wr => ∃ (k q : Nat), k ≤ hs.length ∧ i = .int .i64 k ∧ wr = w1.drewN q ∧ Hid (∀ j, j < k → hop hs j = true)) (fun i _ => hs.length - (intOf i).toNat)
  case atStart => exact ⟨0, 0, Nat.zero_le _, rfl, rfl, fun j hj => by omega⟩
  case round =>
    obtain ⟨k, q, hk, rfl, rfl, hp⟩ := hrel
    by_cases hlt : k < hs.length
    · have c0 := HR.out.cell (i := k * 2) (by omega)
      have c1 := HR.out.cell (i := k * 2 + 1) (by omega)
      rw [hcell_even] at c0
      rw [hcell_odd] at c1
      have hki : (k : Int) < (hs.length : Int) := by omega
      by_cases ho : hop hs k = true
      · rw [ho] at c0
        have hq := heq true (hat hs k)
        go_wp2
        go_quiet (fail)
        go_wp2
        go_roundw
        case rel => exact ⟨k + 1, _, hlt, by go_num, rfl, fun j hj => by
          by_cases e : j = k
          · rw [e]; exact ho
          · exact hp.out j (by omega)⟩
        case measure => simp [intOf]; omega
      · have ho' : hop hs k = false := by simpa using ho
        rw [ho'] at c0
        rw [hat_closed ho'] at c1
        have hq := heq false 0
        go_wp2
        go_quiet (fail)
        go_wp2
        go_ret
        exact ⟨by rw [least_at hlt ho' hp.out]; rfl, below_drewN (below_drewN HB.out _) _⟩
    · obtain rfl : k = hs.length := by omega
      go_wp2
      go_ret
      exact ⟨by rw [least_none hp.out]; rfl, below_drewN HB.out _⟩

set_option maxRecDepth 20000 in
theorem isOpen_any (b h : Nat) (hs : List (Option Int)) (i : Int) (w : World) (h0 : w.cell? ⟨b, 2, none⟩ = some (.slice (some ⟨h, 0, none⟩) hs.length hs.length)) (hr : w.rowIs h 78 (hs.length * 2) (hcell hs)) (hH : hs.length ≤ 1024) :
    Calls Try.prog 35 #[.pointer (some ⟨b, 0, none⟩), .int .i64 i] w fun e w' => e = .returned (.bool (decide (0 ≤ i) && hop hs i.toNat)) ∧ w = w' := by
  have hwi := within_any i 0 ((hs.length : Int) - 1) w
  by_cases hi : 0 ≤ i ∧ i < hs.length
  · obtain ⟨k, rfl⟩ := Int.eq_ofNat_of_zero_le hi.1
    rw [show decide ((0 : Int) ≤ (k : Int) ∧ (k : Int) ≤ (hs.length : Int) - 1) = true by simp; omega] at hwi
    have hki : (k : Int) < (hs.length : Int) := hi.2
    have c0 := hr.cell (i := k * 2) (by omega)
    rw [hcell_even] at c0
    have e : (decide ((0 : Int) ≤ (k : Int)) && hop hs (k : Int).toNat) = hop hs k := by simp
    rw [e]
    generalize hop hs k = o at *
    clear hr hi e
    go_enter Try.func35, Try.ntmps35
    go_wp2_with fail
    refine hwi.mono ?_
    rintro e w' ⟨rfl, rfl⟩
    clear hwi
    go_wp2
    go_ret
    exact ⟨rfl, rfl⟩
  · rw [show decide ((0 : Int) ≤ i ∧ i ≤ (hs.length : Int) - 1) = false by simp; omega] at hwi
    have e : (decide (0 ≤ i) && hop hs i.toNat) = false := by
      by_cases h1 : 0 ≤ i
      · have : hop hs i.toNat = false := by
          unfold hop
          rw [List.getElem?_eq_none (by omega)]
        simp [this]
      · simp [h1]
    rw [e]
    clear hr hi e
    go_enter Try.func35, Try.ntmps35
    go_wp2_with fail
    refine hwi.mono ?_
    rintro e w' ⟨rfl, rfl⟩
    clear hwi
    go_wp2
    go_ret
    exact ⟨rfl, rfl⟩

set_option maxRecDepth 20000 in
theorem close_walk (b h k : Nat) (o : Bool) (a : Int) (hs : List (Option Int)) (w : World) (h0 : w.cell? ⟨b, 2, none⟩ = some (.slice (some ⟨h, 0, none⟩) hs.length hs.length)) (hk : k < hs.length)
    (c0 : w.cell? ⟨h, k * 2, none⟩ = some (.bool o)) (c1 : w.cell? ⟨h, k * 2 + 1, none⟩ = some (.int .i64 a)) (f0 : w.frozen? ⟨h, k * 2, none⟩ = false) (f1 : w.frozen? ⟨h, k * 2 + 1, none⟩ = false)
    (hop : Calls Try.prog 35 #[.pointer (some ⟨b, 0, none⟩), .int .i64 k] w fun e w' => e = .returned (.bool true) ∧ w = w') :
    Calls Try.prog 25 #[.pointer (some ⟨b, 0, none⟩), .int .i64 k] w fun e w' => e = .returned (.int .i64 0) ∧ w' = (w.setCell ⟨h, k * 2, none⟩ (.bool false)).setCell ⟨h, k * 2 + 1, none⟩ (.int .i64 0) := by
  have hki : (k : Int) < (hs.length : Int) := by omega
  go_enter Try.func25, Try.ntmps25
  go_wp2_with fail
  refine hop.mono ?_
  rintro e w' ⟨rfl, rfl⟩
  go_wp2
  go_ret
  exact ⟨rfl, rfl⟩

end Go.Proofs.Ytemdmpfifcihfaa
