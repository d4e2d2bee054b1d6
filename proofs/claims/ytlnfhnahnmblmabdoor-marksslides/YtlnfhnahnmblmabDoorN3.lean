/-
  The reference's slide: To, Back.
-/
import Derived.Test.YtlnfhnahnmblmabDoorN2
import Derived.Test.YtlnfhnahnmblmabDoorM18
set_option linter.unusedVariables false
set_option maxRecDepth 20000
namespace Go.Proofs.YtlnfhnahnmblmabDoor
open Go.RowKit Go.Shelf

/-- The words that go, in order. -/
def gos (N : Nat → Bool) : Nat → List Int
  | 0 => []
  | e + 1 => gos N e ++ (if N e then [(e : Int)] else [])

theorem gos_len (N : Nat → Bool) : ∀ e, (gos N e).length = rk N e
  | 0 => rfl
  | e + 1 => by
    simp only [gos, rk, List.length_append, gos_len N e]
    cases N e <;> simp

theorem gos_at {N : Nat → Bool} {a : Nat} (ha : N a = true) : ∀ e, a < e → (gos N e)[rk N a]? = some (a : Int)
  | 0, h => by omega
  | e + 1, h => by
    simp only [gos]
    by_cases hae : a = e
    · subst hae
      rw [List.getElem?_append_right (by rw [gos_len]; exact Nat.le_refl _), gos_len, Nat.sub_self, ha]; rfl
    · have hlt := rk_lt ha (show a < e by omega)
      rw [List.getElem?_append_left (by rw [gos_len]; exact hlt)]
      exact gos_at ha e (by omega)

theorem gos_of {N : Nat → Bool} {e i : Nat} {z : Int} (h : (gos N e)[i]? = some z) : ∃ a : Nat, z = a ∧ N a = true ∧ a < e ∧ rk N a = i := by
  have hi : i < rk N e := by
    have := (List.getElem?_eq_some_iff.1 h).1
    rwa [gos_len] at this
  obtain ⟨a, h1, h2, h3⟩ := rk_at e i hi
  have := gos_at h2 e h1
  rw [h3, h] at this
  exact ⟨a, Option.some.inj this, h2, h1, h3⟩

/-- A slide's two cells. -/
def rsf (base : Nat) (v : Value) : Nat → Value
  | 0 => .int .i64 base
  | _ => v

/-- The reference's slide in block s; its list lies in blocks from lo on. -/
structure Rs (w : World) (s base e lo : Nat) (N : Nat → Bool) (p : Option Addr) (C : Nat) : Prop where
  own : w.rowIs s 80 2 (rsf base (.slice p (rk N e) C))
  ls : Lsb lo w p (gos N e)
  cap : rk N e ≤ C
  base : base ≤ 1048576
  le : e ≤ 1048576
  out : ∀ k, e ≤ k → N k = false

theorem Rs.below {w w' : World} {s base e lo : Nat} {N : Nat → Bool} {p : Option Addr} {C : Nat} (h : Rs w s base e lo N p C) (l : Below w.heap.size w w') : Rs w' s base e lo N p C :=
  ⟨h.own.of_block (l.block _ h.own.lt), h.ls.below l, h.cap, h.base, h.le, h.out⟩

set_option maxHeartbeats 2000000 in
theorem rto_any (s base e lo : Nat) (N : Nat → Bool) (p : Option Addr) (C : Nat) (z : Int) (w : World) (hS : Rs w s base e lo N p C) :
    Calls Tryd.prog 35 #[.pointer (some ⟨s, 0, none⟩), .int .i64 z] w fun r w' => r = .returned (.tuple #[.int .i64 (tov N base z : Nat), .bool (hasB N z)]) ∧ w = w' := by
  have c0 : w.cell? ⟨s, 0, none⟩ = some (.int .i64 base) := hS.own.cell (i := 0) (by decide)
  have c1 : w.cell? ⟨s, 1, none⟩ = some (.slice p (rk N e) C) := hS.own.cell (i := 1) (by decide)
  have hrk := rk_le N e
  have he := hS.le
  have hb := hS.base
  have HS : Hid (Rs w s base e lo N p C) := hS
  have hlen := gos_len N e
  clear hS
  go_enter Tryd.func35, Tryd.ntmps35
  go_wp2
  go_loopw [6] (fun v wr => ∃ i : Nat, v = .int .i64 i ∧ i ≤ rk N e ∧ Hid (∀ j u, j < i → (gos N e)[j]? = some u → u ≠ z) ∧ wr = w) (fun v _ => (rk N e - intOf v).toNat)
  case atStart => exact ⟨0, rfl, Nat.zero_le _, (fun j u hj => absurd hj (Nat.not_lt_zero _) : ∀ j u, j < 0 → (gos N e)[j]? = some u → u ≠ z), rfl⟩
  case round =>
    obtain ⟨i, rfl, hi, hI, rfl⟩ := hrel
    by_cases hlt : i < rk N e
    · obtain ⟨u, hu⟩ : ∃ u, (gos N e)[i]? = some u := ⟨_, List.getElem?_eq_getElem (by omega)⟩
      obtain ⟨g', -, hp, cu⟩ := HS.out.ls i u hu
      rw [hp] at c1
      by_cases huz : u = z
      · obtain ⟨a, ha, hNa, hae, hra⟩ := gos_of hu
        have hz : z = (a : Int) := by rw [← huz, ha]
        have ht : tov N base z = base + i := by
          rw [hz]
          unfold tov
          rw [if_pos (show hasB N (a : Int) = true by simp [hasB, hNa]), Int.toNat_natCast, hra]
        have hh : hasB N z = true := by rw [hz]; simp [hasB, hNa]
        have hP : Hid (tov N base z = base + i ∧ hasB N z = true) := ⟨ht, hh⟩
        have hbq : (u == z) = true := by simp [huz]
        clear hu ha hz ht hh hlen
        go_wp2
        go_ret2
        refine ⟨?_, rfl⟩
        rw [hP.out.1, hP.out.2, show ((base + i : Nat) : Int) = (base : Int) + i by omega]
        rfl
      · have hk2 : Hid (∀ j v, j < i + 1 → (gos N e)[j]? = some v → v ≠ z) := fun j v hj hv => by
          by_cases ej : j = i
          · subst ej; rw [hu] at hv; exact fun e2 => huz ((Option.some.inj hv).trans e2)
          · exact hI.out j v (by omega) hv
        have hbq : (u == z) = false := by simpa using huz
        clear hu hlen
        go_wp2
        go_roundw
        case rel => exact ⟨i + 1, by simp, by omega, hk2, by trivial⟩
        case measure => simp [intOf]; omega
    · have hin : i = rk N e := by omega
      have hh : hasB N z = false := by
        cases hz : hasB N z
        · rfl
        · exfalso
          have hz0 : 0 ≤ z := by
            unfold hasB at hz
            simp only [Bool.and_eq_true, decide_eq_true_eq] at hz
            exact hz.1
          obtain ⟨a, rfl⟩ := Int.eq_ofNat_of_zero_le hz0
          have hNa : N a = true := by simpa [hasB] using hz
          have hae : a < e := by
            rcases Nat.lt_or_ge a e with h | h
            · exact h
            · rw [HS.out.out a h] at hNa; cases hNa
          have hr := rk_lt hNa hae
          exact hI.out (rk N a) a (by omega) (gos_at hNa e hae) rfl
      have ht : tov N base z = 0 := by simp [tov, hh]
      have hP : Hid (tov N base z = 0 ∧ hasB N z = false) := ⟨ht, hh⟩
      clear ht hh
      subst hin
      go_wp2
      go_ret2
      exact ⟨by rw [hP.out.1, hP.out.2]; rfl, rfl⟩

set_option maxHeartbeats 2000000 in
theorem rback_out (s base e lo : Nat) (N : Nat → Bool) (p : Option Addr) (C : Nat) (a : Int) (h : a < base ∨ (base : Int) + (rk N e : Nat) ≤ a) (ha : a ≤ 9223372036854775807) (w : World) (hS : Rs w s base e lo N p C) :
    Calls Tryd.prog 37 #[.pointer (some ⟨s, 0, none⟩), .int .i64 a] w fun r w' => r = .returned (.tuple #[.int .i64 0, .bool false]) ∧ Below w.heap.size w w' := by
  have c0 : w.cell? ⟨s, 0, none⟩ = some (.int .i64 base) := hS.own.cell (i := 0) (by decide)
  have c1 : w.cell? ⟨s, 1, none⟩ = some (.slice p (rk N e) C) := hS.own.cell (i := 1) (by decide)
  have hrk := rk_le N e
  have he := hS.le
  have hb := hS.base
  clear hS
  generalize rk N e = L at *
  by_cases h1 : a < base
  · clear h
    go_enter Tryd.func37, Tryd.ntmps37
    go_wp2
    go_quiet (fail)
    go_wp2
    go_ret2
    exact ⟨rfl, below_drewN (Below.refl _ _) _⟩
  · have h2 : (L : Int) ≤ a - base := by omega
    have hw : IntKind.i64.wrap (a - base) = a - base := by rw [IntKind.wrap_i64]; omega
    clear h
    go_enter Tryd.func37, Tryd.ntmps37
    go_wp2
    go_quiet (fail)
    go_wp2
    go_ret2
    exact ⟨rfl, below_drewN (Below.refl _ _) _⟩

set_option maxHeartbeats 2000000 in
theorem rback_in (s base e lo a : Nat) (N : Nat → Bool) (hN : N a = true) (p : Option Addr) (C : Nat) (w : World) (hS : Rs w s base e lo N p C) :
    Calls Tryd.prog 37 #[.pointer (some ⟨s, 0, none⟩), .int .i64 (base + rk N a : Nat)] w fun r w' => r = .returned (.tuple #[.int .i64 a, .bool true]) ∧ Below w.heap.size w w' := by
  have hae : a < e := by
    rcases Nat.lt_or_ge a e with h | h
    · exact h
    · rw [hS.out a h] at hN; cases hN
  have c0 : w.cell? ⟨s, 0, none⟩ = some (.int .i64 base) := hS.own.cell (i := 0) (by decide)
  have c1 : w.cell? ⟨s, 1, none⟩ = some (.slice p (rk N e) C) := hS.own.cell (i := 1) (by decide)
  obtain ⟨g', -, hp, cu⟩ := hS.ls _ _ (gos_at hN e hae)
  rw [hp] at c1
  have hrk := rk_le N e
  have hlt := rk_lt hN hae
  have he := hS.le
  have hb := hS.base
  have hcap := hS.cap
  clear hS hp hN
  generalize rk N e = L at *
  generalize rk N a = i at *
  obtain ⟨x, hx⟩ : ∃ x, x = base + i := ⟨_, rfl⟩
  rw [← hx]
  have g1 : ¬ x < base := by omega
  have hxi : (x : Int) - base = i := by omega
  have g2 : ¬ ((L : Int) ≤ (x : Int) - base) := by omega
  have hw : IntKind.i64.wrap ((x : Int) - base) = i := by rw [IntKind.wrap_i64]; omega
  clear hx
  go_enter Tryd.func37, Tryd.ntmps37
  go_wp2
  go_quiet (fail)
  go_wp2
  go_quiet (fail)
  go_wp2
  go_ret2
  exact ⟨rfl, below_drewN (below_drewN (Below.refl _ _) _) _⟩
end Go.Proofs.YtlnfhnahnmblmabDoor
