/-
  Shortest paths: the nearest of some, by the document. (mkLP4.py prints this text.)
-/
import Derived.Test.YtckgcpoheodbcaaGreatDoorLP3
set_option linter.unusedVariables false
set_option maxRecDepth 20000
namespace Go.Proofs.YtckgcpoheodbcaaGreatDoor
open Go.RowKit Go.Shelf Go.Proofs.YtckgcpoheodbcaaGreatDoor.Lp

set_option maxHeartbeats 8000000 in
theorem nearest_any (w : World) (fb fc m : Nat) (fa : Nat → Nat) (hfa : ∀ x, x < m → w.cell? ⟨fb, x, none⟩ = some (.int .i64 (fa x : Nat))) (n0 : Nat) (v : Value) (L : List Nat) (hl : Lrd n0 w v .i64 (L.map Int.ofNat)) (hL : ∀ x, x ∈ L → 1 ≤ x ∧ x < m) (hlen : L.length ≤ 1000000000) (hm : m ≤ 1000000000) (hm0 : 0 < m) (d : Nat) :
    Calls Tryz.prog 23 #[.slice (some ⟨fb, 0, none⟩) m fc, v, .int .i64 (d : Nat)] w fun e w' => ∃ best : Nat, e = .returned (.int .i64 (best : Nat)) ∧ NI fa L d best ∧ best < m ∧ ∃ nq, w' = w.drewN nq := by
  obtain ⟨a, ca, ev, -, hc⟩ := hl
  rw [List.length_map] at ev
  subst ev
  have HC : Hid (∀ (i : Nat) x, L[i]? = some x → ∃ q off, a = some ⟨q, off, none⟩ ∧ w.cell? ⟨q, off + i, none⟩ = some (.int .i64 (x : Nat))) := fun i x hx => by
    obtain ⟨q, off, h1, -, h3⟩ := hc i (x : Int) (by rw [List.getElem?_map, hx]; rfl)
    exact ⟨q, off, h1, h3⟩
  have HFA : Hid (∀ x, x < m → w.cell? ⟨fb, x, none⟩ = some (.int .i64 (fa x : Nat))) := hfa
  have HLL : Hid (∀ x, x ∈ L → 1 ≤ x ∧ x < m) := hL
  clear hc hfa hL
  go_enter Tryz.func23, Tryz.ntmps23
  go_wp2
  go_loopw [7, 8] (fun vb vi wr => ∃ i b nq : Nat, i ≤ L.length ∧ vi = .int .i64 (i : Nat) ∧ vb = .int .i64 (b : Nat) ∧ NI fa (L.take i) d b ∧ b < m ∧ wr = w.drewN nq) (fun _ vi _ => L.length - (intOf vi).toNat)
  case atStart => exact ⟨0, 0, 0, Nat.zero_le _, rfl, rfl, NI.nil fa d, hm0, rfl⟩
  case round =>
    obtain ⟨i, b, nq, hi, rfl, rfl, hni, hbn, rfl⟩ := hrel
    have HNI : Hid (NI fa (L.take i) d b) := hni
    clear hni
    by_cases hil : i < L.length
    · have hiI : (i : Int) < (L.length : Int) := by omega
      have hz : L[i]? = some (L[i]'hil) := List.getElem?_eq_getElem hil
      generalize L[i]'hil = x at hz
      obtain ⟨q, off, rfl, cx⟩ := HC.out i x hz
      have hx := HLL.out x (List.mem_of_getElem? hz)
      have HX0 : Hid (x ≠ 0) := by show _ ≠ _; omega
      have HT : Hid (L.take (i + 1) = L.take i ++ [x]) := by show _ = _; rw [List.take_add_one, hz]; rfl
      have fx := HFA.out x hx.2
      have fbb := HFA.out b hbn
      have hxn : (x : Int) < (m : Int) := by omega
      have hbn' : (b : Int) < (m : Int) := by omega
      have hbm : b < m := hbn
      have hxm : x < m := hx.2
      clear hz
      by_cases h0 : fa x = 0
      · have HV : Hid (nst fa d b x = b) := by show _ = _; unfold nst; rw [if_pos (.inl h0)]
        have h0' : ((fa x : Int) == 0) = true := beq_iff_eq.2 (by omega)
        go_wp2
        go_roundw
        case rel => exact ⟨i + 1, b, _, by omega, by go_num, rfl, by rw [HT.out, ← HV.out]; exact HNI.out.snoc HX0.out, by omega, rfl⟩
        case measure => simp [intOf]; omega
      · have h0' : ((fa x : Int) == 0) = false := beq_eq_false_iff_ne.2 (by omega)
        by_cases hd : 0 < d
        · have hd' : decide ((0 : Int) < (d : Int)) = true := decide_eq_true (by omega)
          by_cases hq : fa x = d
          · subst hq
            have HCd : Hid (¬ (fa x = 0 ∨ (0 < fa x ∧ fa x ≠ fa x))) := by show ¬ _; omega
            by_cases e1 : b = 0
            · have e1' : ((b : Int) == 0) = true := beq_iff_eq.2 (by omega)
              have E1 : Hid (b = 0) := e1
              clear e1
              have HV : Hid (nst fa (fa x) b x = x) := by
                show _ = _
                unfold nst
                rw [if_neg HCd.out, if_pos (.inl E1.out)]
              go_upto_region 7 with fail
              go_quiet (fail)
              go_wp2
              go_roundw
              case rel => exact ⟨i + 1, x, _, by omega, by go_num, rfl, by rw [HT.out]; have h9 := HNI.out.snoc (x := x) HX0.out; rw [HV.out] at h9; exact h9, by omega, rfl⟩
              case measure => simp [intOf]; omega
            · have e1' : ((b : Int) == 0) = false := beq_eq_false_iff_ne.2 (by omega)
              by_cases e2 : fa x < fa b
              · have e2' : decide ((fa x : Int) < (fa b : Int)) = true := decide_eq_true (by omega)
                have HV : Hid (nst fa (fa x) b x = x) := by
                  show _ = _
                  unfold nst
                  rw [if_neg HCd.out, if_pos (.inr (.inl e2))]
                go_upto_region 7 with fail
                go_quiet (fail)
                go_wp2
                go_roundw
                case rel => exact ⟨i + 1, x, _, by omega, by go_num, rfl, by rw [HT.out]; have h9 := HNI.out.snoc (x := x) HX0.out; rw [HV.out] at h9; exact h9, by omega, rfl⟩
                case measure => simp [intOf]; omega
              · have e2' : decide ((fa x : Int) < (fa b : Int)) = false := decide_eq_false (by omega)
                by_cases e3 : fa x = fa b
                · have e3' : ((fa x : Int) == (fa b : Int)) = true := beq_iff_eq.2 (by omega)
                  have E3 : Hid (fa x = fa b) := e3
                  clear e3
                  by_cases e4 : x < b
                  · have e4' : decide ((x : Int) < (b : Int)) = true := decide_eq_true (by omega)
                    have HV : Hid (nst fa (fa x) b x = x) := by
                      show _ = _
                      unfold nst
                      rw [if_neg HCd.out, if_pos (.inr (.inr ⟨E3.out, e4⟩))]
                    go_upto_region 7 with fail
                    go_quiet (fail)
                    go_wp2
                    go_roundw
                    case rel => exact ⟨i + 1, x, _, by omega, by go_num, rfl, by rw [HT.out]; have h9 := HNI.out.snoc (x := x) HX0.out; rw [HV.out] at h9; exact h9, by omega, rfl⟩
                    case measure => simp [intOf]; omega
                  · have e4' : decide ((x : Int) < (b : Int)) = false := decide_eq_false (by omega)
                    have HV : Hid (nst fa (fa x) b x = b) := by
                      show _ = _
                      unfold nst
                      rw [if_neg HCd.out, if_neg (by omega)]
                    go_upto_region 7 with fail
                    go_quiet (fail)
                    go_wp2
                    go_roundw
                    case rel => exact ⟨i + 1, b, _, by omega, by go_num, rfl, by rw [HT.out]; have h9 := HNI.out.snoc (x := x) HX0.out; rw [HV.out] at h9; exact h9, by omega, rfl⟩
                    case measure => simp [intOf]; omega
                · have e3' : ((fa x : Int) == (fa b : Int)) = false := beq_eq_false_iff_ne.2 (by omega)
                  have HV : Hid (nst fa (fa x) b x = b) := by
                    show _ = _
                    unfold nst
                    rw [if_neg HCd.out, if_neg (by omega)]
                  go_upto_region 7 with fail
                  go_quiet (fail)
                  go_wp2
                  go_roundw
                  case rel => exact ⟨i + 1, b, _, by omega, by go_num, rfl, by rw [HT.out]; have h9 := HNI.out.snoc (x := x) HX0.out; rw [HV.out] at h9; exact h9, by omega, rfl⟩
                  case measure => simp [intOf]; omega
          · have hq' : ((fa x : Int) == (d : Int)) = false := beq_eq_false_iff_ne.2 (by omega)
            have HV : Hid (nst fa d b x = b) := by show _ = _; unfold nst; rw [if_pos (.inr ⟨hd, hq⟩)]
            go_wp2
            go_roundw
            case rel => exact ⟨i + 1, b, _, by omega, by go_num, rfl, by rw [HT.out, ← HV.out]; exact HNI.out.snoc HX0.out, by omega, rfl⟩
            case measure => simp [intOf]; omega
        · have hd' : decide ((0 : Int) < (d : Int)) = false := decide_eq_false (by omega)
          have HCd : Hid (¬ (fa x = 0 ∨ (0 < d ∧ fa x ≠ d))) := by show ¬ _; omega
          by_cases e1 : b = 0
          · have e1' : ((b : Int) == 0) = true := beq_iff_eq.2 (by omega)
            have E1 : Hid (b = 0) := e1
            clear e1
            have HV : Hid (nst fa d b x = x) := by
              show _ = _
              unfold nst
              rw [if_neg HCd.out, if_pos (.inl E1.out)]
            go_upto_region 7 with fail
            go_quiet (fail)
            go_wp2
            go_roundw
            case rel => exact ⟨i + 1, x, _, by omega, by go_num, rfl, by rw [HT.out]; have h9 := HNI.out.snoc (x := x) HX0.out; rw [HV.out] at h9; exact h9, by omega, rfl⟩
            case measure => simp [intOf]; omega
          · have e1' : ((b : Int) == 0) = false := beq_eq_false_iff_ne.2 (by omega)
            by_cases e2 : fa x < fa b
            · have e2' : decide ((fa x : Int) < (fa b : Int)) = true := decide_eq_true (by omega)
              have HV : Hid (nst fa d b x = x) := by
                show _ = _
                unfold nst
                rw [if_neg HCd.out, if_pos (.inr (.inl e2))]
              go_upto_region 7 with fail
              go_quiet (fail)
              go_wp2
              go_roundw
              case rel => exact ⟨i + 1, x, _, by omega, by go_num, rfl, by rw [HT.out]; have h9 := HNI.out.snoc (x := x) HX0.out; rw [HV.out] at h9; exact h9, by omega, rfl⟩
              case measure => simp [intOf]; omega
            · have e2' : decide ((fa x : Int) < (fa b : Int)) = false := decide_eq_false (by omega)
              by_cases e3 : fa x = fa b
              · have e3' : ((fa x : Int) == (fa b : Int)) = true := beq_iff_eq.2 (by omega)
                have E3 : Hid (fa x = fa b) := e3
                clear e3
                by_cases e4 : x < b
                · have e4' : decide ((x : Int) < (b : Int)) = true := decide_eq_true (by omega)
                  have HV : Hid (nst fa d b x = x) := by
                    show _ = _
                    unfold nst
                    rw [if_neg HCd.out, if_pos (.inr (.inr ⟨E3.out, e4⟩))]
                  go_upto_region 7 with fail
                  go_quiet (fail)
                  go_wp2
                  go_roundw
                  case rel => exact ⟨i + 1, x, _, by omega, by go_num, rfl, by rw [HT.out]; have h9 := HNI.out.snoc (x := x) HX0.out; rw [HV.out] at h9; exact h9, by omega, rfl⟩
                  case measure => simp [intOf]; omega
                · have e4' : decide ((x : Int) < (b : Int)) = false := decide_eq_false (by omega)
                  have HV : Hid (nst fa d b x = b) := by
                    show _ = _
                    unfold nst
                    rw [if_neg HCd.out, if_neg (by omega)]
                  go_upto_region 7 with fail
                  go_quiet (fail)
                  go_wp2
                  go_roundw
                  case rel => exact ⟨i + 1, b, _, by omega, by go_num, rfl, by rw [HT.out]; have h9 := HNI.out.snoc (x := x) HX0.out; rw [HV.out] at h9; exact h9, by omega, rfl⟩
                  case measure => simp [intOf]; omega
              · have e3' : ((fa x : Int) == (fa b : Int)) = false := beq_eq_false_iff_ne.2 (by omega)
                have HV : Hid (nst fa d b x = b) := by
                  show _ = _
                  unfold nst
                  rw [if_neg HCd.out, if_neg (by omega)]
                go_upto_region 7 with fail
                go_quiet (fail)
                go_wp2
                go_roundw
                case rel => exact ⟨i + 1, b, _, by omega, by go_num, rfl, by rw [HT.out]; have h9 := HNI.out.snoc (x := x) HX0.out; rw [HV.out] at h9; exact h9, by omega, rfl⟩
                case measure => simp [intOf]; omega
    · have hiI : ¬ (i : Int) < (L.length : Int) := by omega
      rw [List.take_of_length_le (by omega)] at HNI
      go_wp2
      go_ret
      exact ⟨b, rfl, HNI.out, hbn, nq, rfl⟩

end Go.Proofs.YtckgcpoheodbcaaGreatDoor
