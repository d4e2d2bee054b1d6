/-
  Policy: the chapter's example 2 (known); sure.
-/
import Derived.Test.YtcijdbhabbepaaaGreatDoorPL12
set_option linter.unusedVariables false
set_option maxRecDepth 20000
namespace Go.Proofs.YtcijdbhabbepaaaGreatDoor.Po
open Go.RowKit Go.Proofs.YtcijdbhabbepaaaGreatDoor.Kg

/-- Small spaces. -/
abbrev cs : Cfg := ⟨64, 64, 100, 40, 30, 2, 1, 50, 3, 1, 16, 4, 0, 1⟩

theorem cs_ok : cs.Ok := by constructor <;> decide
theorem cs_flt : flt cs 20 1 10 = 0 := by
  unfold flt
  rw [if_neg (fun q => q ((Cfg.okd cs).2 cs_ok)), if_neg (by omega), if_neg (by omega)]

theorem small12_any (w : World) : Calls Tryz.prog 8 #[] w fun e w' => e = .returned (cv cs) ∧ Below w.heap.size w w' := by
  go_enter Tryz.func8, Tryz.ntmps8
  go_wp2
  refine bodyPost_ret (v := cv cs) (by simp [results, Tryz.results8, go_sem]) rfl ?_
  exact ⟨rfl, by go_grown⟩

abbrev kk : Task := mk12 cs 20 1 10
abbrev v1 : Vw := ⟨5, 59, 35, 65⟩
abbrev v2 : Vw := ⟨64, 20, 45, 55⟩
abbrev v3 : Vw := ⟨54, 30, 45, 55⟩
abbrev v4 : Vw := ⟨60, 24, 33, 67⟩
theorem n1 : kk.next t00 v1 = (3, ⟨false, false, [1]⟩) := by kernel_rfl
theorem n2 : kk.next ⟨false, false, [1]⟩ v2 = (1, ⟨true, false, [1]⟩) := by kernel_rfl
theorem n3 : kk.next ⟨true, false, [1]⟩ v3 = (5, ⟨true, false, [1, 3]⟩) := by kernel_rfl
theorem n4 : kk.next ⟨true, false, [1, 3]⟩ v4 = (7, ⟨true, true, [1, 3]⟩) := by kernel_rfl

theorem kk_of : Tof kk := ⟨by decide, by rw [show kk.most = 40 by kernel_rfl]; omega, fun _ => by decide⟩

theorem Tof.nx {k : Task} {t : Tst} {i : Nat} {h : Int → Nat} (J : Jn k t i h) : t.ov = true → t.cl = true := J.oc

set_option maxHeartbeats 8000000 in
theorem known_any (w : World) : Calls Tryz.prog 4 #[] w fun e w' => e = .returned (.bool true) ∧ Below w.heap.size w w' := by
  have q0 := small12_any w
  go_enter Tryz.func4, Tryz.ntmps4
  go_wp2_with fail
  refine q0.mono ?_
  rintro e9 w1 ⟨rfl, b1⟩
  have HB1 : Hid (Below w.heap.size w w1) := b1
  clear q0 b1
  have q1 := pbegin_yes cs_flt w1
  go_wp2_with fail
  refine q1.mono ?_
  rintro e9 w2 ⟨b, g, rfl, hb, hg, hP, hB⟩
  have HB2 : Hid (Below w.heap.size w w2) := HB1.out.trans (hB.mono HB1.out.size)
  have HP2 : Hid (Pt w2 w1.heap.size b (.slice none 0 0) g kk t00) := hP
  have Hbg : Hid (w.heap.size ≤ b ∧ w.heap.size ≤ g) := ⟨Nat.le_trans HB1.out.size hb, Nat.le_trans HB1.out.size hg⟩
  clear q1 hb hg hP hB HB1
  have q2 := pnext_any HP2.out (by decide) kk_of (by simp) v1
  rw [n1] at q2
  go_wp2_with fail
  refine q2.mono ?_
  rintro e9 w3 ⟨rfl, ⟨u3, h1, h2, h3⟩⟩
  have HB3 : Hid (Below w.heap.size w w3) := HB2.out.trans (h2.below HB2.out.size (fun q hq => by simp [Fq, Value.ownBlock] at hq; have := Hbg.out; omega))
  have HN3 : Hid (∀ q, q ∈ Fq b u3 g → w.heap.size ≤ q) := fun q hq => (h3 q hq).elim (fun hq => by simp [Fq, Value.ownBlock] at hq; have := Hbg.out; omega) (fun hq => Nat.le_trans HB2.out.size hq)
  have HP3 : Hid (Pt w3 w1.heap.size b u3 g kk ⟨false, false, [1]⟩) := h1
  clear q2 h1 h2 h3 HP2 HB2
  have q2 := pnext_any HP3.out (by decide) kk_of (by simp) v2
  rw [n2] at q2
  go_wp2_with fail
  refine q2.mono ?_
  rintro e9 w4 ⟨rfl, ⟨u4, h1, h2, h3⟩⟩
  have HB4 : Hid (Below w.heap.size w w4) := HB3.out.trans (h2.below HB3.out.size HN3.out)
  have HN4 : Hid (∀ q, q ∈ Fq b u4 g → w.heap.size ≤ q) := fun q hq => (h3 q hq).elim (HN3.out q) (fun hq => Nat.le_trans HB3.out.size hq)
  have HP4 : Hid (Pt w4 w1.heap.size b u4 g kk ⟨true, false, [1]⟩) := h1
  clear q2 h1 h2 h3 HP3 HB3 HN3
  have q2 := pnext_any HP4.out (by decide) kk_of (by simp) v3
  rw [n3] at q2
  go_wp2_with fail
  refine q2.mono ?_
  rintro e9 w5 ⟨rfl, ⟨u5, h1, h2, h3⟩⟩
  have HB5 : Hid (Below w.heap.size w w5) := HB4.out.trans (h2.below HB4.out.size HN4.out)
  have HN5 : Hid (∀ q, q ∈ Fq b u5 g → w.heap.size ≤ q) := fun q hq => (h3 q hq).elim (HN4.out q) (fun hq => Nat.le_trans HB4.out.size hq)
  have HP5 : Hid (Pt w5 w1.heap.size b u5 g kk ⟨true, false, [1, 3]⟩) := h1
  clear q2 h1 h2 h3 HP4 HB4 HN4
  have q2 := pnext_any HP5.out (by decide) kk_of (by simp) v4
  rw [n4] at q2
  go_wp2_with fail
  refine q2.mono ?_
  rintro e9 w6 ⟨rfl, ⟨u6, h1, h2, h3⟩⟩
  have HB6 : Hid (Below w.heap.size w w6) := HB5.out.trans (h2.below HB5.out.size HN5.out)
  clear q2 h1 h2 h3 HP5 HB5 HN5
  have q0 := small12_any w6
  go_wp2_with fail
  refine q0.mono ?_
  rintro e9 w7 ⟨rfl, b1⟩
  have HB7 : Hid (Below w.heap.size w w7) := HB6.out.trans (b1.mono HB6.out.size)
  clear q0 b1 HB6
  have ql := plimit_yes cs_ok 20 w7
  rw [show clim cs 20 = 40 by kernel_rfl] at ql
  go_wp2_with fail
  refine ql.mono ?_
  rintro e9 w8 ⟨rfl, b1⟩
  have HB8 : Hid (Below w.heap.size w w8) := HB7.out.trans (b1.mono HB7.out.size)
  clear ql b1 HB7
  go_wp2
  go_ret
  exact ⟨rfl, HB8.out⟩

end Go.Proofs.YtcijdbhabbepaaaGreatDoor.Po
