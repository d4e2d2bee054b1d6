/-
  The two arenas side by side: writes of the kind 6, and every kind of write.
-/
import Derived.Test.YtbdkcelggffneaaGreatDoorB31
set_option linter.unusedVariables false
set_option maxRecDepth 20000
namespace Go.Proofs.YtbdkcelggffneaaGreatDoor
open Go.RowKit Go.Shelf

section
variable (p a h r : Nat) (g : Nat → Nat) (c : Cfg) (x : Tps) (sw : Bool) (ws : Nat → Int)

theorem write6_any (o : Opg) (ho : o.k = 6) (hs : Wd o.s) (w : World) (hB : Bx w p a h r g c x sw ws) :
    Calls Tryz.prog 17 #[.pointer (some ⟨p, 0, none⟩), o.val] w (Wrote p a h r g c w) := by
  have hwd := hB.bo.ar.wat_wd o.at_
  by_cases hy : At c x ws o.at_ ∧ flt o.hk o.p o.r o.ag o.t = 0 ∧ ptOf (wat c ws o.at_) = o.p ∧ rwOf (wat c ws o.at_) = o.r
  · obtain ⟨hat, hf, hp, hr⟩ := hy
    have h0 := spc_nn hB.bo.ar.ok hat.1
    obtain ⟨q, hq⟩ : ∃ q : Nat, o.at_ = q := ⟨o.at_.toNat, by omega⟩
    have hsub := hB.bo.ar.sub_in (spc c o.at_)
    have ho2 := osz_in c ws o.at_
    have hst := hat.2.2.2
    have e1 : (o.at_ + 1).toNat = q + 1 := by omega
    have e2 : o.at_.toNat = q := by omega
    refine (write6_core p a h r g c x sw ws true x sw (upd (upd ws q (wrd o.hk o.p o.r o.ag o.t o.h)) (q + 1) o.s) o ho (fun w1 H1 => ?_) (fun w1 H1 => ?_) w hB).mono (fun e w' hh => ⟨hh.1, _, _, _, hh.2.1, hh.2.2⟩)
    · have hob : ∀ w2, Below w1.heap.size w1 w2 → Calls Tryz.prog 78 #[.pointer (some ⟨a, 0, none⟩), .int .i64 q] w2 fun e w' => e = .returned (.tuple #[ov (wat c ws (q + 1)) (kdOf (wat c ws q)) o.p o.r (agOf (wat c ws q)) (stOf (wat c ws q)) (hdOf (wat c ws q)) (.slice (some ⟨h, (q : Int).toNat, none⟩) (osz c ws q).toNat (osz c ws q).toNat), .bool true]) ∧ Below w2.heap.size w2 w' := fun w2 l => by
        have := object_yes a h c x sw ws o.at_ _ rfl hat.1 hat.2.1 hat.2.2 w2 (H1.bo.ar.below l) (H1.bo.la.keep l)
        unfold obv at this
        rw [hp, hr, hq] at this
        exact this
      rw [hq]
      exact (setHead_good a h c x sw ws q o.s o.hk o.p o.r o.ag o.t o.h hs hf _ _ _ _ _ _ ⟨_, _, _, rfl⟩ (by omega) w1 H1.bo.ar H1.bo.la hob).mono (fun e w' hh => ⟨hh.1, hh.2.1, hh.2.2.mono (fun k hk => .inl (by simp at hk; simp [hk]))⟩)
    · have := rsetHead_yes r g c x sw ws o.at_ o.s o.hk o.ag o.t o.h hat (by rw [hp, hr]; exact hf) hwd w1 H1
      rw [hp, hr, e1, e2] at this
      exact this
  · refine (write6_core p a h r g c x sw ws false x sw ws o ho (fun w1 H1 => ?_) (fun w1 H1 => ?_) w hB).mono (fun e w' hh => ⟨hh.1, _, _, _, hh.2.1, hh.2.2⟩)
    · by_cases hat : At c x ws o.at_
      · have hob : ∀ w2, Below w1.heap.size w1 w2 → Calls Tryz.prog 78 #[.pointer (some ⟨a, 0, none⟩), .int .i64 o.at_] w2 fun e w' => e = .returned (.tuple #[obv c h ws o.at_, .bool true]) ∧ Below w2.heap.size w2 w' := fun w2 l => object_yes a h c x sw ws o.at_ _ rfl hat.1 hat.2.1 hat.2.2 w2 (H1.bo.ar.below l) (H1.bo.la.keep l)
        unfold obv at hob
        by_cases hf : flt o.hk o.p o.r o.ag o.t = 0
        · refine (setHead_other a o.at_ o.s o.hk o.p o.r o.ag o.t o.h hf _ _ _ _ _ _ _ ?_ _ ⟨_, _, _, rfl⟩ w1 H1.bo.la hob).mono (fun e w' hh => ⟨hh.1, ar_same H1.bo.ar hh.2⟩)
          by_cases hp : ptOf (wat c ws o.at_) = o.p
          · exact .inr (fun hr => hy ⟨hat, hf, hp, hr.symm⟩)
          · exact .inl (fun hh => hp hh.symm)
        · exact (setHead_bad a o.at_ o.s o.hk o.p o.r o.ag o.t o.h hf _ _ _ _ _ _ _ _ ⟨_, _, _, rfl⟩ w1 H1.bo.la hob).mono (fun e w' hh => ⟨hh.1, ar_same H1.bo.ar hh.2⟩)
      · exact (setHead_not a o.at_ o.s o.hk o.p o.r o.ag o.t o.h w1 H1.bo.la (fun w2 l => object_not a h c x sw ws o.at_ hat w2 (H1.bo.ar.below l) (H1.bo.la.keep l))).mono (fun e w' hh => ⟨hh.1, ar_same H1.bo.ar hh.2⟩)
    · exact (rsetHead_no r g c x sw ws o.at_ o.s o.hk o.p o.r o.ag o.t o.h hy hwd w1 H1).mono (fun e w' hh => ⟨hh.1, H1.below hh.2, Touch.of_below hh.2 _⟩)

/-- Every step that writes. -/
theorem stepw_all (o : Opg) (h1 : 1 ≤ o.k) (h9 : o.k ≤ 9) (hs : Wd o.s) (hu : Wd o.u) (w : World) (hB : Bx w p a h r g c x sw ws) :
    Calls Tryz.prog 7 #[.pointer (some ⟨p, 0, none⟩), o.val] w (Wrote p a h r g c w) := by
  refine stepw_any p a h r g c x sw ws o h1 h9 (fun w1 H1 => ?_) w hB
  have hk : o.k = 1 ∨ o.k = 2 ∨ o.k = 3 ∨ o.k = 4 ∨ o.k = 5 ∨ o.k = 6 ∨ o.k = 7 ∨ o.k = 8 ∨ o.k = 9 := by omega
  rcases hk with hk | hk | hk | hk | hk | hk | hk | hk | hk
  · exact write1_any p a h r g c x sw ws o hk w1 H1
  · exact write2_any p a h r g c x sw ws o hk w1 H1
  · exact write3_any p a h r g c x sw ws o hk w1 H1
  · exact write4_any p a h r g c x sw ws o hk hs w1 H1
  · exact write5_any p a h r g c x sw ws o hk w1 H1
  · exact write6_any p a h r g c x sw ws o hk hs w1 H1
  · exact write7_any p a h r g c x sw ws o hk w1 H1
  · exact write8_any p a h r g c x sw ws o hk hu w1 H1
  · exact write9_any p a h r g c x sw ws o hk hu w1 H1
end

end Go.Proofs.YtbdkcelggffneaaGreatDoor
