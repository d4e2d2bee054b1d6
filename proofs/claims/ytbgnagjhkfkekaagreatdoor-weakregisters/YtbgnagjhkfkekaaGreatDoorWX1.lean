/-
  WeakRegisters: which address is added, whether a Final object stands there; sameInts.
-/
import Derived.Test.YtbgnagjhkfkekaaGreatDoorWF1
import Derived.Test.YtbgnagjhkfkekaaGreatDoorPWb
import Derived.Test.YtbgnagjhkfkekaaGreatDoorKG14
set_option linter.unusedVariables false
set_option maxRecDepth 20000
namespace Go.Proofs.YtbgnagjhkfkekaaGreatDoor
open Go.RowKit Go.Shelf

set_option maxHeartbeats 2000000 in
/-- Of two lists that are the same. -/
theorem same10_lrd (u v : Value) (l : List Int) (n0 : Nat) (w : World) (h : Lrd n0 w u .i64 l) (h' : Lrd n0 w v .i64 l) (hn : n0 ≤ w.heap.size) (hl : l.length ≤ 1073741824) :
    Calls Tryz.prog 12 #[u, v] w fun e w' => e = .returned (.bool true) ∧ Below w.heap.size w w' := by
  obtain ⟨a, cap, rfl, -, hc⟩ := h
  obtain ⟨a', cap', rfl, -, hc'⟩ := h'
  have Hc : Hid (∀ (f : Nat) z, l[f]? = some z → ∃ q off, a = some ⟨q, off, none⟩ ∧ q < n0 ∧ w.cell? ⟨q, off + f, none⟩ = some (.int .i64 z)) := hc
  have Hc' : Hid (∀ (f : Nat) z, l[f]? = some z → ∃ q off, a' = some ⟨q, off, none⟩ ∧ q < n0 ∧ w.cell? ⟨q, off + f, none⟩ = some (.int .i64 z)) := hc'
  clear hc hc'
  go_enter Tryz.func12, Tryz.ntmps12
  go_wp2
  go_loopw [5] (fun v5 wr => ∃ k : Nat, k ≤ l.length ∧ v5 = .int .i64 k ∧ Below w.heap.size w wr) (fun v5 _ => l.length - (intOf v5).toNat)
  case atStart => exact ⟨0, Nat.zero_le _, rfl, Below.refl _ _⟩
  case round =>
    obtain ⟨k, hk, rfl, hbe⟩ := hrel
    by_cases hkl : k < l.length
    · have hz : l[k]? = some (l[k]'hkl) := List.getElem?_eq_getElem hkl
      generalize l[k]'hkl = z at hz
      obtain ⟨q, off, rfl, hq, ca⟩ := Hc.out k z hz
      obtain ⟨q', off', rfl, hq', ca'⟩ := Hc'.out k z hz
      have da : wr.cell? ⟨q, off + k, none⟩ = some (.int .i64 z) := (hbe.cell (p := ⟨q, off + k, none⟩) (by simp only; omega)).trans ca
      have da' : wr.cell? ⟨q', off' + k, none⟩ = some (.int .i64 z) := (hbe.cell (p := ⟨q', off' + k, none⟩) (by simp only; omega)).trans ca'
      have hkI : (k : Int) < (l.length : Int) := by omega
      clear hz ca ca'
      go_upto_region 6 with fail
      go_quiet (fail)
      have hb2 : Below w.heap.size w (wr.drewN nq) := below_drewN hbe nq
      clear da da'
      go_wp2
      go_roundw
      case rel => exact ⟨k + 1, by omega, by go_num, hb2⟩
      case measure => simp [intOf]; omega
    · have hkn : ¬ (k : Int) < (l.length : Int) := by omega
      go_wp2
      go_ret
      exact ⟨rfl, hbe⟩


theorem same10_yes {w : World} {base base' : Nat} (u v : Value) (l : List Int) (h : w.ownsRow base 3 1 u l.length (ints l)) (h' : w.ownsRow base' 3 1 v l.length (ints l)) (hl : l.length ≤ 1073741824) :
    Calls Tryz.prog 12 #[u, v] w fun e w' => e = .returned (.bool true) ∧ Below w.heap.size w w' :=
  same10_lrd u v l w.heap.size w (Lrd.of_row (Kg.row_base h (Nat.zero_le _))) (Lrd.of_row (Kg.row_base h' (Nat.zero_le _))) (Nat.le_refl _) hl

/-- The address that is added for a number. -/
def adr (L : List LT) (W z : Int) : Int := if 1 ≤ z ∧ z ≤ L.length then ((L[(z - 1).toNat]?).map (·.at_)).getD 0 else if (L.length : Int) < z then W + z % 5 else if z < 0 then z else 0
/-- Is it a Final object's number? -/
def fin (L : List LT) (z : Int) : Bool := match ob L z with | some o => decide (o.k = 4) | none => false

theorem not_at_out {c : Cfg} (hc : c.Ok) {x : Tps} {ws : Nat → Int} {a : Int} (h : a < 1 ∨ c.words ≤ a) : ¬ At c x ws a := fun hA => by
  have := spc_pos hc hA.1
  omega

section
variable {w w' : World} {b g : Nat} {c : Cfg} {th : List Tng} {L : List LT}

/-- What Head answers at the address of a number. -/
theorem hd_of (ok : LOk c L) (HA : Ax w b g c (tps c L) false (wlay L) th) (hS : Sk L th) (z : Int) :
    ∃ s k p r a t h d, HdAt w b (adr L c.words z) s k p r a t h d ∧ (fin L z = true ↔ k = 4) ∧ (fin L z = true → ∃ n : Nat, adr L c.words z = n ∧ (n : Int) < c.words) := by
  have hno : ¬ At c (tps c L) (wlay L) (adr L c.words z) → ∃ s k p r a t h d, HdAt w b (adr L c.words z) s k p r a t h d ∧ k = 0 := fun hn =>
    ⟨0, 0, 0, 0, 0, 0, false, false, fun w1 l => head_not b g c (tps c L) false (wlay L) _ hn w1 (HA.ar.below l) (HA.la.keep l), rfl⟩
  by_cases h1 : 1 ≤ z ∧ z ≤ L.length
  · have hlt : (z - 1).toNat < L.length := by omega
    have ho : L[(z - 1).toNat]? = some (L[(z - 1).toNat]'hlt) := List.getElem?_eq_getElem hlt
    generalize L[(z - 1).toNat]'hlt = o at ho
    have ea : adr L c.words z = o.at_ := by
      unfold adr
      rw [if_pos h1, ho]
      rfl
    have hz : z = (((z - 1).toNat + 1 : Nat) : Int) := by omega
    by_cases h0 : o.at_ = 0
    · have hf : fin L z = false := by
        unfold fin
        have : ob L z = none := by
          unfold ob
          rw [if_pos h1.1, ho]
          simp [Option.filter, h0]
        rw [this]
      obtain ⟨s, k, p, r, a, t, h, d, hh, hk⟩ := hno (by rw [ea, h0]; exact not_at_out ok.cok (.inl (by omega)))
      exact ⟨s, k, p, r, a, t, h, d, hh, by rw [hf, hk]; simp, by rw [hf]; simp⟩
    · have hp := ok.plc.pos ok.cok ho h0
      have hOk := ok.plc _ o ho
      by_cases hfl : 0 < o.fill
      · have hf : fin L z = false := by
          unfold fin
          have : ob L z = none := by
            unfold ob
            rw [if_pos h1.1, ho]
            have : ¬ (0 < o.at_ ∧ o.fill = 0) := by omega
            simp [Option.filter, this]
          rw [this]
        obtain ⟨s, k, p, r, a, t, h, d, hh, hk⟩ := hno (by rw [ea]; exact filler_not ok.cok ok.plc ho h0 hfl)
        exact ⟨s, k, p, r, a, t, h, d, hh, by rw [hf, hk]; simp, by rw [hf]; simp⟩
      · have hob : ob L z = some o := by
          rw [hz]
          exact ob_at ho (by omega) (by have := hOk.f0; omega)
        obtain ⟨j, T, hj, hn, hm⟩ := hS.find hob
        have hTm := List.mem_of_getElem? hj
        refine ⟨T.s, o.k, T.p, T.r, T.a, T.t, T.h, true, fun w1 l => ?_, ?_, fun _ => ⟨o.at_.toNat, ?_, ?_⟩⟩
        · have h9 := (HA.below l).head hTm
          rw [hm.at_, hm.k] at h9
          rw [ea]
          exact h9
        · unfold fin
          rw [hob]
          simp
        · rw [ea]; omega
        · omega
  · have hf : fin L z = false := by
      unfold fin
      have : ob L z = none := by
        unfold ob
        by_cases h2 : 1 ≤ z
        · rw [if_pos h2, List.getElem?_eq_none (by omega)]
          rfl
        · rw [if_neg h2]
      rw [this]
    have hwd : c.words = 1 + c.eden + c.surv + c.surv + c.ten := rfl
    obtain ⟨s, k, p, r, a, t, h, d, hh, hk⟩ := hno (by
      refine not_at_out ok.cok ?_
      unfold adr
      rw [if_neg h1]
      by_cases h2 : (L.length : Int) < z
      · rw [if_pos h2]; right; omega
      · rw [if_neg h2]
        by_cases h3 : z < 0
        · rw [if_pos h3]; left; omega
        · rw [if_neg h3]; left; omega)
    exact ⟨s, k, p, r, a, t, h, d, hh, by rw [hf, hk]; simp, by rw [hf]; simp⟩
end

end Go.Proofs.YtbgnagjhkfkekaaGreatDoor
