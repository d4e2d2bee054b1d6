/-
  The document's buffers: Room, Rest, Retire, New.
-/
import Derived.Test.YtpiemfchjlihfaaGreatDoorRB1
import Derived.Test.YtpiemfchjlihfaaGreatDoorPKm
set_option linter.unusedVariables false
set_option maxRecDepth 20000
namespace Go.Proofs.YtpiemfchjlihfaaGreatDoor
open Go.RowKit Go.Shelf

section
variable {w w' : World} {vb ga gr n : Nat} {sz : Int} {at_ rs : Nat → Int}

theorem r13room_no (h : Rbs w vb ga gr n sz at_ rs) (t : Int) (ht : ¬ (0 ≤ t ∧ t < n)) (a : Value) :
    Calls Tryz.prog 20 #[.pointer (some ⟨vb, 0, none⟩), a, .int .i64 t] w fun e w' => e = .returned (.int .i64 0) ∧ w = w' := by
  have q := r13is_any h t
  rw [decide_eq_false ht] at q
  clear h ht
  go_enter Tryz.func20, Tryz.ntmps20
  go_wp2_with fail
  refine q.mono ?_
  rintro e9 w1 ⟨rfl, rfl⟩
  go_wp2
  go_ret
  exact ⟨rfl, rfl⟩

theorem r13room_yes (h : Rbs w vb ga gr n sz at_ rs) (t : Nat) (ht : t < n) {rb : Nat} {g : Nat → Nat} {c : Cfg} {x : Tps} {sw : Bool} {ws : Nat → Int} (hA : Ra w rb g c x sw ws) :
    Calls Tryz.prog 20 #[.pointer (some ⟨vb, 0, none⟩), .pointer (some ⟨rb, 0, none⟩), .int .i64 t] w fun e w' => e = .returned (.int .i64 (max (rs t) (bhd c 1 - x.top 1))) ∧ Below w.heap.size w w' := by
  have q := r13is_any h t
  rw [decide_eq_true (⟨by omega, by omega⟩ : 0 ≤ (t : Int) ∧ (t : Int) < n)] at q
  have q2 := rfree_any rb g c x sw ws 1 w hA
  have H : Hid (Rbs w vb ga gr n sz at_ rs) := h
  have hti : (t : Int) < (n : Int) := by omega
  generalize bhd c 1 - x.top 1 = fr at q2 ⊢
  obtain ⟨ow, how⟩ : ∃ ow, ow = rs t := ⟨_, rfl⟩
  rw [← how]
  have How : Hid (ow = rs t) := how
  obtain ⟨m, hm⟩ : ∃ m, (if ow < fr then fr else ow) = m := ⟨_, rfl⟩
  rw [show max ow fr = m by rw [← hm]; omega]
  clear h hA how
  go_enter Tryz.func20, Tryz.ntmps20
  go_wp2_with fail
  refine q.mono ?_
  rintro e9 w1 ⟨rfl, rfl⟩
  go_wp2_with fail
  refine q2.mono ?_
  rintro e9 w2 ⟨rfl, b2⟩
  have h2 := H.out.below b2
  have k2 := h2.c2
  have k3 : w2.cell? ⟨gr, t, none⟩ = some (.int .i64 ow) := by rw [How.out]; exact h2.rr.cell ht
  have HB : Hid (Below w.heap.size w w2) := b2
  clear q q2 b2 h2
  go_wp2
  go_ret
  exact ⟨rfl, HB.out⟩

theorem r13rest_no (h : Rbs w vb ga gr n sz at_ rs) (t : Int) (ht : ¬ (0 ≤ t ∧ t < n)) :
    Calls Tryz.prog 22 #[.pointer (some ⟨vb, 0, none⟩), .int .i64 t] w fun e w' => e = .returned (.tuple #[.int .i64 0, .int .i64 0]) ∧ w = w' := by
  have q := r13is_any h t
  rw [decide_eq_false ht] at q
  clear h ht
  go_enter Tryz.func22, Tryz.ntmps22
  go_wp2_with fail
  refine q.mono ?_
  rintro e9 w1 ⟨rfl, rfl⟩
  go_wp2
  go_ret2
  exact ⟨rfl, rfl⟩

theorem r13rest_yes (h : Rbs w vb ga gr n sz at_ rs) (t : Nat) (ht : t < n) (q0 r0 : Int) (hq : rs t = 0 → q0 = 0 ∧ r0 = 0) (hr : rs t ≠ 0 → q0 = at_ t ∧ r0 = rs t) :
    Calls Tryz.prog 22 #[.pointer (some ⟨vb, 0, none⟩), .int .i64 t] w fun e w' => e = .returned (.tuple #[.int .i64 q0, .int .i64 r0]) ∧ Below w.heap.size w w' := by
  have q := r13is_any h t
  rw [decide_eq_true (⟨by omega, by omega⟩ : 0 ≤ (t : Int) ∧ (t : Int) < n)] at q
  have hti : (t : Int) < (n : Int) := by omega
  have k1 := h.c1
  have k2 := h.c2
  have k3 : w.cell? ⟨gr, t, none⟩ = some (.int .i64 (rs t)) := h.rr.cell ht
  have k4 : w.cell? ⟨ga, t, none⟩ = some (.int .i64 (at_ t)) := h.ra.cell ht
  clear h
  by_cases h0 : rs t = 0
  · obtain ⟨rfl, rfl⟩ := hq h0
    rw [h0] at k3
    clear hr hq
    go_enter Tryz.func22, Tryz.ntmps22
    go_wp2_with fail
    refine q.mono ?_
    rintro e9 w1 ⟨rfl, rfl⟩
    go_wp2
    go_ret2
    exact ⟨rfl, Below.refl _ _⟩
  · obtain ⟨rfl, rfl⟩ := hr h0
    clear hr hq
    go_enter Tryz.func22, Tryz.ntmps22
    go_wp2_with fail
    refine q.mono ?_
    rintro e9 w1 ⟨rfl, rfl⟩
    go_wp2
    go_quiet (fail)
    go_wp2
    go_ret2
    exact ⟨rfl, below_drewN (Below.refl _ _) nq⟩

set_option maxHeartbeats 4000000 in
theorem r13retire_any (h : Rbs w vb ga gr n sz at_ rs) (a : Value) :
    Calls Tryz.prog 24 #[.pointer (some ⟨vb, 0, none⟩), a] w fun e w' => e = .returned (.tuple #[]) ∧ Rbs w' vb ga gr n sz (fun _ => 0) (fun _ => 0) ∧ Touch [vb, ga, gr] w w' := by
  have HN : Hid (1 ≤ n ∧ n ≤ 8) := h.n1
  have hn8 : n ≤ 8 := h.n1.2
  have H0 : Hid (Rbs w vb ga gr n sz (fun j => if j < 0 then 0 else at_ j) (fun j => if j < 0 then 0 else rs j)) := by
    have e1 : (fun j => if j < 0 then 0 else at_ j) = at_ := by funext j; rw [if_neg (by omega)]
    have e2 : (fun j => if j < 0 then 0 else rs j) = rs := by funext j; rw [if_neg (by omega)]
    rw [e1, e2]
    exact h
  clear h
  go_enter Tryz.func24, Tryz.ntmps24
  go_wp2
  go_loopw [4] (fun iv wr => ∃ k : Nat, iv = .int .i64 k ∧ k ≤ n ∧ Hid (Rbs wr vb ga gr n sz (fun j => if j < k then 0 else at_ j) (fun j => if j < k then 0 else rs j)) ∧ Hid (Touch [vb, ga, gr] w wr)) (fun iv _ => n - (intOf iv).toNat)
  case atStart => exact ⟨0, rfl, by omega, H0, Touch.refl _ _⟩
  case round =>
    obtain ⟨k, rfl, hk, HR, HT⟩ := hrel
    clear H0
    have k1 := HR.out.c1
    by_cases hkn : k < n
    · have hki : (k : Int) < (n : Int) := by omega
      have k2 := HR.out.c2
      have g1 := HR.out.ra.frozen k
      have g2 := HR.out.rr.frozen k
      have c1 : wr.cell? ⟨ga, k, none⟩ = some (.int .i64 (at_ k)) := by rw [HR.out.ra.cell hkn, if_neg (by omega)]
      have c2 : wr.cell? ⟨gr, k, none⟩ = some (.int .i64 (rs k)) := by rw [HR.out.rr.cell hkn, if_neg (by omega)]
      have hne := HR.out.ne
      obtain ⟨a1, a2⟩ := HR.out.apart
      have HR2 : Hid (Rbs ((wr.setCell ⟨ga, k, none⟩ (.int .i64 0)).setCell ⟨gr, k, none⟩ (.int .i64 0)) vb ga gr n sz (fun j => if j < k + 1 then 0 else at_ j) (fun j => if j < k + 1 then 0 else rs j)) := by
        have h1 := (HR.out.setA k 0).setR k 0
        have key : ∀ f : Nat → Int, upd (fun j => if j < k then 0 else f j) k 0 = fun j => if j < k + 1 then 0 else f j := fun f => by
          funext j
          unfold upd
          by_cases e : j = k
          · rw [if_pos e, if_pos (by omega)]
          · rw [if_neg e]
            show (if j < k then 0 else f j) = _
            by_cases e2 : j < k
            · rw [if_pos e2, if_pos (by omega)]
            · rw [if_neg e2, if_neg (by omega)]
        rw [key, key] at h1
        exact h1
      have HT2 : Hid (Touch [vb, ga, gr] w ((wr.setCell ⟨ga, k, none⟩ (.int .i64 0)).setCell ⟨gr, k, none⟩ (.int .i64 0))) := (HT.out.trans (Touch.setCell _ _ _ (by simp))).trans (Touch.setCell _ _ _ (by simp))
      go_wp2
      go_roundw
      case rel => exact ⟨k + 1, by go_num, by omega, HR2, HT2⟩
      case measure => simp [intOf]; omega
    · have hki : ¬ (k : Int) < (n : Int) := by omega
      have HF : Hid (Rbs wr vb ga gr n sz (fun _ => 0) (fun _ => 0)) := by
        refine ⟨HR.out.own, HR.out.ra.congr (fun j hj => ?_), HR.out.rr.congr (fun j hj => ?_), HR.out.ne, HR.out.n1, HR.out.s1⟩
        · show Value.int .i64 (if j < k then 0 else at_ j) = _
          rw [if_pos (by omega)]
        · show Value.int .i64 (if j < k then 0 else rs j) = _
          rw [if_pos (by omega)]
      go_wp2
      go_returns
      exact ⟨rfl, HF.out, HT.out⟩

end

theorem r13new_no (n s : Int) (h : ¬ (1 ≤ n ∧ n ≤ 8 ∧ 0 ≤ s ∧ s ≤ 65536)) (w : World) :
    Calls Tryz.prog 8 #[.int .i64 n, .int .i64 s] w fun e w' => e = .returned (.tuple #[.pointer none, .int .i64 130]) ∧ w = w' := by
  go_enter Tryz.func8, Tryz.ntmps8
  by_cases h1 : n < 1
  · go_wp2
    go_ret2
    exact ⟨rfl, rfl⟩
  · by_cases h2 : 8 < n
    · go_wp2
      go_ret2
      exact ⟨rfl, rfl⟩
    · by_cases h3 : s < 0
      · go_wp2
        go_ret2
        exact ⟨rfl, rfl⟩
      · have h4 : 65536 < s := by omega
        go_wp2
        go_ret2
        exact ⟨rfl, rfl⟩

end Go.Proofs.YtpiemfchjlihfaaGreatDoor
