/-
  Policy: the landed Next.
-/
import Derived.Test.YtcijdbhabbepaaaGreatDoorPL4
import Derived.Test.YtcijdbhabbepaaaGreatDoorPL5
import Derived.Test.YtcijdbhabbepaaaGreatDoorPL6
import Derived.Shelf.Abstract
set_option linter.unusedVariables false
set_option maxRecDepth 20000
namespace Go.Proofs.YtcijdbhabbepaaaGreatDoor.Po
open Go.RowKit Go.Proofs.YtcijdbhabbepaaaGreatDoor.Kg

/-- What a call does to a landed turn. -/
structure Gop (w w' : World) (base b : Nat) (v : Value) (g : Nat) (k : Task) (t' : Tst) : Prop where
  ex : ∃ v', Pt w' base b v' g k t' ∧ Kg.Touch (Fq b v g) w w' ∧ Newer w.heap.size (Fq b v g) (Fq b v' g)

/-- What the numbers of a task keep to. -/
structure Tof (k : Task) : Prop where
  kd : 1 ≤ k.kind ∧ k.kind ≤ 5
  most : 0 ≤ k.most ∧ k.most ≤ 4294967296
  words : k.kind = 1 → 2 ≤ k.words ∧ k.words < 9223372036854775808

theorem touch_fq {b : Nat} {v : Value} {g : Nat} {w w' : World} (h : Kg.Touch [b] w w') : Kg.Touch (Fq b v g) w w' := h.mono (fun q hq => .inl (by simp at hq; subst hq; exact fq_b _ _ _))

theorem next_eq (k : Task) (t : Tst) (x : Vw) (hov : t.ov = false) : k.next t x = (if t.cl = false then k.live t x.clip else k.shut t x.clip) := rfl

/-- The action that stands in the field answers as the document's next step. -/
theorem act_any {w : World} {base b : Nat} {v : Value} {g : Nat} {k : Task} {t : Tst} (h : Pt w base b v g k t) (hov : t.ov = false) (hk : Tof k) (x : Vw) :
    ∃ f caps, act k t g = .func (.func f) #[] caps ∧ (∀ args w, (callFunc f args).run Tryz.prog w = .ok (.enter f args) w) ∧ ∀ w1, Below w.heap.size w w1 → Calls Tryz.prog f (#[.pointer (some ⟨b, 0, none⟩), vv x.clip] ++ caps) w1 fun e w' => Did w1 w' base b v g k t (k.next t x) e := by
  have hn := next_eq k t x hov
  by_cases hc : t.cl = true
  · refine ⟨76, #[], ?_, enters_of Tryz.func76 (by kernel_rfl) rfl, fun w1 hb => ?_⟩
    · unfold act; rw [if_neg (by simp [hov]), if_pos (.inl hc)]
    · rw [hn, if_neg (by simp [hc])]
      exact closing_any (h.below hb) hov (.inl hc) x.clip
  · have hc' : t.cl = false := by simpa using hc
    rw [hn, if_pos hc']
    by_cases k5 : k.kind = 5
    · refine ⟨76, #[], ?_, enters_of Tryz.func76 (by kernel_rfl) rfl, fun w1 hb => ?_⟩
      · unfold act; rw [if_neg (by simp [hov]), if_pos (.inr k5)]
      · have e : k.live t x.clip = k.shut t x.clip := by
          unfold Task.live Task.opn
          rw [if_neg (show ¬ k.kind = 1 by omega), if_neg (show ¬ (k.kind = 2 ∨ k.kind = 3) by omega), if_neg (show ¬ k.kind = 4 by omega)]
          rfl
        rw [e]
        exact closing_any (h.below hb) hov (.inr k5) x.clip
    · have ha : act k t g = if k.kind = 1 then (if k.big = true then fnBig else fnSmall) else if k.kind = 4 then fnMajor else fnForced g := by
        unfold act; rw [if_neg (by simp [hov]), if_neg (fun q => q.elim hc k5)]
      by_cases k1 : k.kind = 1
      · rw [ha, if_pos k1]
        have e : k.live t x.clip = if k.big = true then k.bigs t x.clip else k.small t x.clip := by
          unfold Task.live Task.opn
          rw [if_pos k1]
          unfold Task.small Task.bigs
          repeat' split
          all_goals first | rfl | simp_all
        by_cases kb : k.big = true
        · rw [e, if_pos kb, if_pos kb]
          exact ⟨73, #[], rfl, enters_of Tryz.func73 (by kernel_rfl) rfl, fun w1 hb => pbig_any (h.below hb) hov hk.most (hk.words k1) x.clip⟩
        · rw [e, if_neg kb, if_neg kb]
          exact ⟨72, #[], rfl, enters_of Tryz.func72 (by kernel_rfl) rfl, fun w1 hb => psmall_any (h.below hb) hov x.clip⟩
      · rw [ha, if_neg k1]
        by_cases k4 : k.kind = 4
        · rw [if_pos k4]
          have e : k.live t x.clip = (5, t.close.cyc 3) := by
            unfold Task.live Task.opn
            rw [if_neg k1, if_neg (show ¬ (k.kind = 2 ∨ k.kind = 3) by omega), if_pos k4]
            rfl
          rw [e]
          exact ⟨75, #[], rfl, enters_of Tryz.func75 (by kernel_rfl) rfl, fun w1 hb => major_any (h.below hb) hov x.clip⟩
        · rw [if_neg k4]
          have hk23 : k.kind = 2 ∨ k.kind = 3 := by have := hk.kd; omega
          exact ⟨106, #[.pointer (some ⟨g, 0, none⟩)], rfl, enters_of Tryz.func106 (by kernel_rfl) rfl, fun w1 hb => pforced_any (h.below hb) hov hk23 x.clip⟩

end Go.Proofs.YtcijdbhabbepaaaGreatDoor.Po
