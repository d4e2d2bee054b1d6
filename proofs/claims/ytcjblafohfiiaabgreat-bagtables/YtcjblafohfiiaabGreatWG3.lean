/-
  The document's table: Near.
-/
import Derived.Test.YtcjblafohfiiaabGreatWG1
import Derived.Test.YtcjblafohfiiaabGreatWcmp
import Derived.Handy
set_option linter.unusedVariables false
namespace Go.Proofs.YtcjblafohfiiaabGreat.Wd
open Go.RowKit Go.Shelf

theorem drew2 (w : World) (a b : Nat) : (w.drewN a).drewN b = w.drewN (a + b) := by simp [World.drewN, Nat.add_assoc]

/-- Where the best one stands, as a number. -/
def enc (a : Option Nat) : Int := match a with | none => -1 | some a => (a : Int)

theorem best_no {kr : List Int} {k x : Int} {i : Nat} {a : Option Nat} (h : Best ltI kr k i a) (hx : kr[i]? = some x) (hk : ltI k x = true) : Best ltI kr k (i + 1) a := by
  cases a with
  | none =>
    intro j y hj hy
    rcases Nat.lt_or_ge j i with h1 | h1
    · exact h j y h1 hy
    · obtain rfl : j = i := by omega
      rw [hx] at hy; cases hy; exact hk
  | some a =>
    obtain ⟨h1, y, h2, h3, h4⟩ := h
    refine ⟨by omega, y, h2, h3, fun j z hj hz hkz => ?_⟩
    rcases Nat.lt_or_ge j i with h5 | h5
    · exact h4 j z h5 hz hkz
    · obtain rfl : j = i := by omega
      rw [hx] at hz; cases hz; rw [hk] at hkz; cases hkz

theorem best_first {kr : List Int} {k x : Int} {i : Nat} (h : Best ltI kr k i none) (hx : kr[i]? = some x) (hk : ltI k x = false) : Best ltI kr k (i + 1) (some i) := by
  refine ⟨by omega, x, hx, hk, fun j z hj hz hkz => ?_⟩
  rcases Nat.lt_or_ge j i with h5 | h5
  · have := h j z h5 hz; rw [this] at hkz; cases hkz
  · obtain rfl : j = i := by omega
    rw [hx] at hz; cases hz; exact sordI.irr _

theorem best_more {kr : List Int} {k x y : Int} {i a : Nat} (h : Best ltI kr k i (some a)) (hx : kr[i]? = some x) (hk : ltI k x = false) (hy : kr[a]? = some y) (hyx : ltI y x = true) : Best ltI kr k (i + 1) (some i) := by
  obtain ⟨h1, y', h2, h3, h4⟩ := h
  rw [hy] at h2; cases h2
  refine ⟨by omega, x, hx, hk, fun j z hj hz hkz => ?_⟩
  rcases Nat.lt_or_ge j i with h5 | h5
  · have h6 := h4 j z h5 hz hkz
    cases h7 : ltI x z with
    | false => rfl
    | true => rw [sordI.trans _ _ _ hyx h7] at h6; cases h6
  · obtain rfl : j = i := by omega
    rw [hx] at hz; cases hz; exact sordI.irr _

theorem best_less {kr : List Int} {k x y : Int} {i a : Nat} (h : Best ltI kr k i (some a)) (hx : kr[i]? = some x) (hy : kr[a]? = some y) (hyx : ltI y x = false) : Best ltI kr k (i + 1) (some a) := by
  obtain ⟨h1, y', h2, h3, h4⟩ := h
  rw [hy] at h2; cases h2
  refine ⟨by omega, y, hy, h3, fun j z hj hz hkz => ?_⟩
  rcases Nat.lt_or_ge j i with h5 | h5
  · exact h4 j z h5 hz hkz
  · obtain rfl : j = i := by omega
    rw [hx] at hz; cases hz; exact hyx

theorem best_exists (kr : List Int) (k : Int) : ∀ (i : Nat), i ≤ kr.length → ∀ (j : Nat) x, j < i → kr[j]? = some x → ltI k x = false → ∃ a, Best ltI kr k i (some a)
  | 0, _, j, x, hj, _, _ => by omega
  | i + 1, hi, j, x, hj, hx, hkx => by
    obtain ⟨z, hz⟩ : ∃ z, kr[i]? = some z := ⟨_, List.getElem?_eq_getElem (by omega)⟩
    by_cases hex : ∃ j' x', j' < i ∧ kr[j']? = some x' ∧ ltI k x' = false
    · obtain ⟨j', x', h1, h2, h3⟩ := hex
      obtain ⟨a, ha⟩ := best_exists kr k i (by omega) j' x' h1 h2 h3
      cases hkz : ltI k z with
      | true => exact ⟨a, best_no ha hz hkz⟩
      | false =>
        obtain ⟨y, hy⟩ : ∃ y, kr[a]? = some y := by obtain ⟨_, y, h, _⟩ := ha; exact ⟨y, h⟩
        cases hyz : ltI y z with
        | true => exact ⟨i, best_more ha hz hkz hy hyz⟩
        | false => exact ⟨a, best_less ha hz hy hyz⟩
    · have hb : Best ltI kr k i none := fun j' x' h1 h2 => by
        cases h3 : ltI k x' with
        | true => rfl
        | false => exact absurd ⟨j', x', h1, h2, h3⟩ hex
      have hji : j = i := by
        rcases Nat.lt_or_ge j i with h1 | h1
        · exact absurd ⟨j, x, h1, hx, hkx⟩ hex
        · omega
      subst hji
      exact ⟨j, best_first hb hx hkx⟩

set_option maxRecDepth 20000 in
set_option maxHeartbeats 4000000 in
/-- Near: the best key and what stands there. -/
theorem rnear_any (b base : Nat) (k : Int) (kr : List Int) (vr : List Int) (F : List Nat) (w : World) (h : Rf w base b kr vr F) (hlen : kr.length < 1000000) :
    Calls Tryz.prog 61 #[.pointer (some ⟨b, 0, none⟩), .int .i64 k] w fun e w' => (∃ nq, w' = w.drewN nq) ∧ ((Best ltI kr k kr.length none ∧ e = .returned (.tuple #[(.int .i64 0), (.int .u64 0), .bool false])) ∨ ∃ a x v, Best ltI kr k kr.length (some a) ∧ kr[a]? = some x ∧ vr[a]? = some v ∧ e = .returned (.tuple #[.int .i64 x, .int .u64 v, .bool true])) := by
  obtain ⟨vk, vv, hh, hb, hk, hv, hl, rfl⟩ := h
  have hc0 := heap_cell hh 0
  have hc1 := heap_cell hh 1
  simp only [List.getElem?_toArray, List.getElem?_cons_zero, List.getElem?_cons_succ] at hc0 hc1
  obtain ⟨a0, cap, rfl, hcell⟩ := row_sl hk
  obtain ⟨a1, cap1, rfl, hcell1⟩ := row_sl hv
  have Hcell : Hid (∀ (j : Nat) x, (ints kr)[j]? = some x → ∃ g, a0 = some ⟨g, 0, none⟩ ∧ w.cell? ⟨g, j, none⟩ = some x ∧ w.frozen? ⟨g, j, none⟩ = false) := hcell
  have Hcell1 : Hid (∀ (j : Nat) x, (u64s vr)[j]? = some x → ∃ g, a1 = some ⟨g, 0, none⟩ ∧ w.cell? ⟨g, j, none⟩ = some x ∧ w.frozen? ⟨g, j, none⟩ = false) := hcell1
  have Hl : Hid (vr.length = kr.length) := hl
  clear hcell hcell1 hh hk hv hl
  go_enter Tryz.func61, Tryz.ntmps61
  go_wp2
  go_loopw [7, 8] (fun at_ i wr => ∃ (i' nq : Nat) (a : Option Nat), i' ≤ kr.length ∧ i = .int .i64 i' ∧ at_ = .int .i64 (enc a) ∧ Hid (Best ltI kr k i' a) ∧ wr = w.drewN nq) (fun _ i _ => kr.length - (intOf i).toNat)
  case atStart => exact ⟨0, 0, none, Nat.zero_le _, rfl, rfl, fun j x hj => by omega, rfl⟩
  case round =>
    obtain ⟨i, nq, a, hi, rfl, rfl, hB, rfl⟩ := hrel
    by_cases hlt : i < kr.length
    · obtain ⟨x, hx⟩ : ∃ x, kr[i]? = some x := ⟨_, List.getElem?_eq_getElem hlt⟩
      obtain ⟨g, rfl, hcx, -⟩ := Hcell.out i (.int .i64 x) (by simp [hx])
      have hii : (i : Int) < (kr.length : Int) := by omega
      have Hx : Hid (kr[i]? = some x) := hx
      clear hx
      cases hkx : ltI k x with
      | true =>
        have hd := leqF hkx
        have HB' : Hid (Best ltI kr k (i + 1) a) := best_no hB.out Hx.out hkx
        clear hkx hB
        go_wp2_with fail
        go_quiet (fail)
        go_wp2
        go_roundw
        case rel => exact ⟨i + 1, _, a, hlt, by go_num, rfl, HB', rfl⟩
        case measure => simp [intOf]; omega
      | false =>
        have hd := leqT hkx
        cases a with
        | none =>
          have HB' : Hid (Best ltI kr k (i + 1) (some i)) := best_first hB.out Hx.out hkx
          clear hkx hB
          have he : enc none = -1 := rfl
          rw [he]
          go_wp2_with fail
          go_quiet (fail)
          go_wp2
          go_roundw
          case rel => exact ⟨i + 1, _, some i, hlt, by go_num, rfl, HB', rfl⟩
          case measure => simp [intOf]; omega
        | some a =>
          have hai : a < i := hB.out.1
          obtain ⟨y, hy⟩ : ∃ y, kr[a]? = some y := ⟨_, List.getElem?_eq_getElem (by omega)⟩
          obtain ⟨g2, e2, hcy, -⟩ := Hcell.out a (.int .i64 y) (by simp [hy])
          simp only [Option.some.injEq, Addr.mk.injEq, and_true] at e2
          subst e2
          have haz : decide ((a : Int) < 0) = false := decide_eq_false (by omega)
          have hal : (a : Int) < (kr.length : Int) := by omega
          have he : enc (some a) = (a : Int) := rfl
          rw [he]
          cases hyx : ltI y x with
          | true =>
            have hdd := gtrT hyx
            have HB' : Hid (Best ltI kr k (i + 1) (some i)) := best_more hB.out Hx.out hkx hy hyx
            clear hkx hB hyx hy
            go_wp2_with fail
            go_quiet (fail)
            go_wp2
            go_roundw
            case rel => exact ⟨i + 1, _, some i, hlt, by go_num, rfl, HB', rfl⟩
            case measure => simp [intOf]; omega
          | false =>
            have hdd := gtrF hyx
            have HB' : Hid (Best ltI kr k (i + 1) (some a)) := best_less hB.out Hx.out hy hyx
            clear hkx hB hyx hy
            go_wp2_with fail
            go_quiet (fail)
            go_wp2
            go_roundw
            case rel => exact ⟨i + 1, _, some a, hlt, by go_num, rfl, HB', rfl⟩
            case measure => simp [intOf]; omega
    · obtain rfl : i = kr.length := by omega
      cases a with
      | none =>
        have he : enc none = -1 := rfl
        rw [he]
        go_wp2
        go_returns
        exact ⟨⟨_, rfl⟩, .inl ⟨hB.out, rfl⟩⟩
      | some a =>
        have hai : a < kr.length := hB.out.1
        obtain ⟨y, hy⟩ : ∃ y, kr[a]? = some y := ⟨_, List.getElem?_eq_getElem (by omega)⟩
        obtain ⟨v, hv⟩ : ∃ v, vr[a]? = some v := ⟨_, List.getElem?_eq_getElem (by have := Hl.out; omega)⟩
        obtain ⟨g, rfl, hcy, -⟩ := Hcell.out a (.int .i64 y) (by simp [hy])
        obtain ⟨g1, rfl, hcv, -⟩ := Hcell1.out a (.int .u64 v) (by simp [hv])
        have haz : ¬ (a : Int) < 0 := by omega
        have hal : (a : Int) < (kr.length : Int) := by omega
        have hal2 : (a : Int) < (vr.length : Int) := by have := Hl.out; omega
        have he : enc (some a) = (a : Int) := rfl
        rw [he]
        have Hy : Hid (kr[a]? = some y) := hy
        have Hv : Hid (vr[a]? = some v) := hv
        clear hy hv
        go_wp2_with fail
        go_quiet (fail)
        go_wp2
        go_returns
        exact ⟨⟨_, drew2 _ _ _⟩, .inr ⟨a, y, v, hB.out, Hy.out, Hv.out, rfl⟩⟩

end Go.Proofs.YtcjblafohfiiaabGreat.Wd
