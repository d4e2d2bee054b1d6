/-
  Handle, Close, Open, Handles.
-/
import Derived.Test.YtdlannfjnljbcaaGreatDoorPRb
import Derived.Test.YtdlannfjnljbcaaGreatDoorRQ
set_option linter.unusedVariables false
namespace Go.Proofs.YtdlannfjnljbcaaGreatDoor
open Go.RowKit

theorem hcell_set {hs : List (Option Int)} {k : Nat} (hk : k < hs.length) (o : Option Int) (j : Nat) : hcell (hs.set k o) j = if j = k * 2 + 1 then .int .i64 (o.getD 0) else if j = k * 2 then .bool o.isSome else hcell hs j := by
  have e : j = j / 2 * 2 ∨ j = j / 2 * 2 + 1 := by omega
  by_cases h1 : j = k * 2 + 1
  · subst h1
    rw [if_pos rfl, hcell_odd]
    unfold hat
    rw [List.getElem?_set_self hk]
    cases o <;> rfl
  · rw [if_neg h1]
    by_cases h2 : j = k * 2
    · subst h2
      rw [if_pos rfl, hcell_even]
      unfold hop
      rw [List.getElem?_set_self hk]
      cases o <;> rfl
    · rw [if_neg h2]
      unfold hcell
      rw [List.getElem?_set_ne (by omega)]

theorem hset_rt {w : World} {base b g h q N : Nat} {FQ : List Nat} {vs : Nat → Value} {S : Sta} (H : Rt w base b g h q N FQ vs S) {k : Nat} (hk : k < S.hs.length) (o : Option Int) (nq : Nat) :
    Rt (((w.drewN nq).setCell ⟨h, k * 2, none⟩ (.bool o.isSome)).setCell ⟨h, k * 2 + 1, none⟩ (.int .i64 (o.getD 0))) base b g h q N FQ vs { S with hs := S.hs.set k o } ∧ Touch [h] w (((w.drewN nq).setCell ⟨h, k * 2, none⟩ (.bool o.isSome)).setCell ⟨h, k * 2 + 1, none⟩ (.int .i64 (o.getD 0))) := by
  have tt : Touch [h] w (((w.drewN nq).setCell ⟨h, k * 2, none⟩ (.bool o.isSome)).setCell ⟨h, k * 2 + 1, none⟩ (.int .i64 (o.getD 0))) := ((Touch.drewN _ w nq).trans (Touch.setCell _ _ _ (by simp))).trans (Touch.setCell _ _ _ (by simp))
  refine ⟨H.setHnd tt (by simp) ?_, tt⟩
  have := ((show (w.drewN nq).rowIs h 72 (S.hs.length * 2) (hcell S.hs) from H.hnd).set (k * 2) (.bool o.isSome)).set (k * 2 + 1) (.int .i64 (o.getD 0))
  exact this.congr (fun j _ => (hcell_set hk o j).symm)

/-- What Handle tells. -/
def Sta.handleV (S : Sta) (i : Int) : Int := if 0 ≤ i ∧ hop S.hs i.toNat = true then hat S.hs i.toNat else 0
def Sta.handleE (S : Sta) (i : Int) : Int := if 0 ≤ i ∧ hop S.hs i.toNat = true then 0 else 55
def Sta.closeS (S : Sta) (i : Int) : Sta := if 0 ≤ i ∧ hop S.hs i.toNat = true then { S with hs := S.hs.set i.toNat none } else S
def Sta.openV (S : Sta) : Int := if least S.hs < 0 then 0 else least S.hs
def Sta.openE (S : Sta) : Int := if least S.hs < 0 then 56 else 0
def Sta.openS (S : Sta) (x : Int) : Sta := if least S.hs < 0 then S else { S with hs := S.hs.set (least S.hs).toNat (some (adr x)) }

theorem hop_lt {hs : List (Option Int)} {i : Nat} (h : hop hs i = true) : i < hs.length := by
  apply Classical.byContradiction
  intro hn
  unfold hop at h
  rw [List.getElem?_eq_none (by omega)] at h
  cases h

theorem open_dec {hs : List (Option Int)} {i : Int} (h : 0 ≤ i ∧ hop hs i.toNat = true) : (decide (0 ≤ i) && hop hs i.toNat) = true := by simp [h.1, h.2]
theorem open_dec' {hs : List (Option Int)} {i : Int} (h : ¬ (0 ≤ i ∧ hop hs i.toNat = true)) : (decide (0 ≤ i) && hop hs i.toNat) = false := by
  by_cases h1 : 0 ≤ i
  · have : hop hs i.toNat = false := by cases e : hop hs i.toNat; rfl; exact absurd ⟨h1, e⟩ h
    simp [this]
  · simp [h1]

set_option maxRecDepth 20000 in
theorem close_none (b : Nat) (i : Int) (w : World) (hop : Calls Tryz.prog 53 #[.pointer (some ⟨b, 0, none⟩), .int .i64 i] w fun e w' => e = .returned (.bool false) ∧ w = w') :
    Calls Tryz.prog 22 #[.pointer (some ⟨b, 0, none⟩), .int .i64 i] w fun e w' => e = .returned (.int .i64 55) ∧ w = w' := by
  go_enter Tryz.func22, Tryz.ntmps22
  go_wp2_with fail
  refine hop.mono ?_
  rintro e w' ⟨rfl, rfl⟩
  go_wp2
  go_ret
  exact ⟨rfl, rfl⟩

theorem hclose_any (base b N : Nat) (i : Int) (S : Sta) (F : List Nat) (w : World) (H : Rts w base b N S F) (hO : S.Ok) :
    Calls Tryz.prog 22 #[.pointer (some ⟨b, 0, none⟩), .int .i64 i] w fun e w' => e = .returned (.int .i64 (S.handleE i)) ∧ Rts w' base b N (S.closeS i) F ∧ Touch F w w' := by
  obtain ⟨g, h, q, FQ, vs, H, rfl⟩ := H
  have ho := isOpen_any b h S.hs i w H.c2 H.hnd hO.hn
  by_cases hi : 0 ≤ i ∧ hop S.hs i.toNat = true
  · rw [open_dec hi] at ho
    obtain ⟨k, rfl⟩ := Int.eq_ofNat_of_zero_le hi.1
    have hk : k < S.hs.length := hop_lt hi.2
    have c0 := H.hnd.cell (i := k * 2) (by omega)
    have c1 := H.hnd.cell (i := k * 2 + 1) (by omega)
    rw [hcell_even] at c0
    rw [hcell_odd] at c1
    have e1 : S.closeS k = { S with hs := S.hs.set k none } := by unfold Sta.closeS; rw [if_pos hi]; rfl
    have e2 : S.handleE k = 0 := by unfold Sta.handleE; rw [if_pos hi]
    rw [e1, e2]
    refine (close_walk b h k _ _ S.hs w H.c2 hk c0 c1 (H.hnd.frozen _) (H.hnd.frozen _) ho).mono ?_
    rintro e w' ⟨rfl, rfl⟩
    obtain ⟨H', tt⟩ := hset_rt H hk none 0
    exact ⟨rfl, ⟨g, h, q, FQ, vs, H', rfl⟩, tt.mono (fun k hk => .inl (by simp at hk; simp [mem_fp, hk]))⟩
  · rw [open_dec' hi] at ho
    have e1 : S.closeS i = S := by unfold Sta.closeS; rw [if_neg hi]
    have e2 : S.handleE i = 55 := by unfold Sta.handleE; rw [if_neg hi]
    rw [e1, e2]
    refine (close_none b i w ho).mono ?_
    rintro e w' ⟨rfl, rfl⟩
    exact ⟨rfl, ⟨g, h, q, FQ, vs, H, rfl⟩, Touch.refl _ _⟩

set_option maxRecDepth 20000 in
theorem open_no (b h L : Nat) (x m : Int) (w : World) (R : World → Prop) (h0 : w.cell? ⟨b, 2, none⟩ = some (.slice (some ⟨h, 0, none⟩) L L)) (hm : m < 0)
    (hix : Calls Tryz.prog 26 #[.slice (some ⟨h, 0, none⟩) L L, .agg #[.bool false, .int .i64 0]] w fun e w' => e = .returned (.int .i64 m) ∧ R w') :
    Calls Tryz.prog 7 #[.pointer (some ⟨b, 0, none⟩), .int .i64 x] w fun e w' => e = .returned (.tuple #[.int .i64 0, .int .i64 56]) ∧ R w' := by
  go_enter Tryz.func7, Tryz.ntmps7
  go_wp2_with fail
  refine hix.mono ?_
  rintro e w' ⟨rfl, hR⟩
  clear hix h0
  go_wp2
  go_ret2
  exact ⟨rfl, hR⟩

set_option maxRecDepth 20000 in
set_option maxHeartbeats 1000000 in
theorem open_yes (b h L k : Nat) (x : Int) (w : World) (R : World → Prop) (h0 : w.cell? ⟨b, 2, none⟩ = some (.slice (some ⟨h, 0, none⟩) L L)) (hk : k < L)
    (hR : ∀ w', R w' → w'.cell? ⟨b, 2, none⟩ = some (.slice (some ⟨h, 0, none⟩) L L) ∧ (∃ o, w'.cell? ⟨h, k * 2, none⟩ = some (.bool o)) ∧ (∃ a, w'.cell? ⟨h, k * 2 + 1, none⟩ = some (.int .i64 a)) ∧ w'.frozen? ⟨h, k * 2, none⟩ = false ∧ w'.frozen? ⟨h, k * 2 + 1, none⟩ = false)
    (hix : Calls Tryz.prog 26 #[.slice (some ⟨h, 0, none⟩) L L, .agg #[.bool false, .int .i64 0]] w fun e w' => e = .returned (.int .i64 (k : Int)) ∧ R w') :
    Calls Tryz.prog 7 #[.pointer (some ⟨b, 0, none⟩), .int .i64 x] w fun e w' => e = .returned (.tuple #[.int .i64 k, .int .i64 0]) ∧ ∃ w1, R w1 ∧ w' = ((w1.drewN 1).setCell ⟨h, k * 2, none⟩ (.bool true)).setCell ⟨h, k * 2 + 1, none⟩ (.int .i64 (adr x)) := by
  have hki : (k : Int) < (L : Int) := by omega
  go_enter Tryz.func7, Tryz.ntmps7
  go_wp2_with fail
  refine hix.mono ?_
  rintro e w1 ⟨rfl, h1⟩
  obtain ⟨k0, ⟨o, k1⟩, ⟨a, k2⟩, k3, k4⟩ := hR w1 h1
  have H1 : Hid (R w1) := h1
  clear hix h0 hR h1
  have had : Calls Tryz.prog 25 #[.int .i64 x] w1.drew fun e w' => e = .returned (.int .i64 (adr x)) ∧ w' = w1.drew := (address_any x _).mono (fun e w' h => ⟨h.1, h.2.symm⟩)
  go_wp2_with fail
  refine quiet_tail 9 mixed (by kernel_rfl) ?_
  simp only [List.take_succ_cons, List.take_zero, List.drop_succ_cons, List.drop_zero]
  repeat (go_big_quiet_step (exact had _))
  refine wpQuiet_nil ?_
  go_wp2
  go_ret2
  exact ⟨rfl, w1, H1.out, rfl⟩

end Go.Proofs.YtdlannfjnljbcaaGreatDoor
