/-
  The two arenas side by side: writes of the kinds 1, 2, 5, 7, 8, 9.
-/
import Derived.Test.YtbdkcelggffneaaGreatDoorB27
set_option linter.unusedVariables false
set_option maxRecDepth 20000
namespace Go.Proofs.YtbdkcelggffneaaGreatDoor
open Go.RowKit Go.Shelf

section
variable (p a h r : Nat) (g : Nat → Nat) (c : Cfg) (x : Tps) (sw : Bool) (ws : Nat → Int)

/-- What a step that writes leaves. -/
def Wrote (w : World) : Ending → World → Prop := fun e w' => e = .returned (.bool true) ∧ ∃ x' sw' ws', Bx w' p a h r g c x' sw' ws' ∧ Touch (a :: h :: rft r g) w w'

theorem ar_same {w w' : World} {a h : Nat} {c : Cfg} {x : Tps} {sw : Bool} {ws : Nat → Int} (hA : Ar w a h c x sw ws) (l : Below w.heap.size w w') : Ar w' a h c x sw ws ∧ Touch [a, h] w w' := ⟨hA.below l, Touch.of_below l _⟩

theorem write1_any (o : Opg) (ho : o.k = 1) (w : World) (hB : Bx w p a h r g c x sw ws) :
    Calls Tryz.prog 17 #[.pointer (some ⟨p, 0, none⟩), o.val] w (Wrote p a h r g c w) := by
  have hsub := hB.bo.ar.sub_in o.sp
  by_cases hn : 1 ≤ o.at_ ∧ o.at_ ≤ bhd c o.sp - x.top o.sp
  · obtain ⟨P, hP⟩ : ∃ P : Nat, x.top o.sp = P := ⟨(x.top o.sp).toNat, by omega⟩
    obtain ⟨n, hN⟩ : ∃ n : Nat, o.at_ = n := ⟨o.at_.toNat, by omega⟩
    have hs : 1 ≤ o.sp ∧ o.sp ≤ 4 := by
      refine Decidable.byContradiction fun hs => ?_
      have e1 : bhd c o.sp = 0 := by unfold bhd; rw [if_neg (by omega), if_neg (by omega), if_neg (by omega), if_neg (by omega)]
      omega
    obtain ⟨S, hS⟩ : ∃ S : Nat, o.sp = S := ⟨o.sp.toNat, by omega⟩
    refine (write1_core p a h r g c x sw ws (P : Int) true (x.put o.sp (P + n)) sw (zer ws P n) o ho (fun w1 H1 => ?_) (fun w1 H1 => ?_) w hB).mono (fun e w' hh => ⟨hh.1, _, _, _, hh.2.1, hh.2.2⟩)
    · rw [hN]; exact take_yes a h c x sw ws o.sp P n hP (by omega) (by omega) w1 H1.bo.ar
    · rw [hN, hS]; exact rtake_yes r g c x sw ws S P n (by omega) (by omega) (by rw [← hS]; exact hP) (by omega) (by rw [← hS]; omega) w1 H1
  · refine (write1_core p a h r g c x sw ws 0 false x sw ws o ho (fun w1 H1 => ?_) (fun w1 H1 => ?_) w hB).mono (fun e w' hh => ⟨hh.1, _, _, _, hh.2.1, hh.2.2⟩)
    · exact (take_no a h c x sw ws o.sp o.at_ hn w1 H1.bo.ar).mono (fun e w' hh => ⟨hh.1, ar_same H1.bo.ar hh.2⟩)
    · exact (rtake_no r g c x sw ws o.sp o.at_ hn w1 H1).mono (fun e w' hh => ⟨hh.1, H1.below hh.2, Touch.of_below hh.2 _⟩)

theorem write2_any (o : Opg) (ho : o.k = 2) (w : World) (hB : Bx w p a h r g c x sw ws) :
    Calls Tryz.prog 17 #[.pointer (some ⟨p, 0, none⟩), o.val] w (Wrote p a h r g c w) := by
  by_cases hn : (1 ≤ o.sp ∧ o.sp ≤ 4) ∧ fst c o.sp ≤ o.at_ ∧ o.at_ ≤ x.top o.sp
  · refine (write2_core p a h r g c x sw ws true (x.put o.sp o.at_) sw ws o ho (fun w1 H1 => ?_) (fun w1 H1 => ?_) w hB).mono (fun e w' hh => ⟨hh.1, _, _, _, hh.2.1, hh.2.2⟩)
    · exact (cut_yes a h c x sw ws o.sp o.at_ hn.1 hn.2.1 hn.2.2 w1 H1.bo.ar).mono (fun e w' hh => ⟨hh.1, hh.2.1, hh.2.2.mono (fun k hk => .inl (by simp at hk; simp [hk]))⟩)
    · exact rcut_yes r g c x sw ws o.sp o.at_ hn.1 hn.2.1 hn.2.2 w1 H1
  · refine (write2_core p a h r g c x sw ws false x sw ws o ho (fun w1 H1 => ?_) (fun w1 H1 => ?_) w hB).mono (fun e w' hh => ⟨hh.1, _, _, _, hh.2.1, hh.2.2⟩)
    · exact (cut_no a h c x sw ws o.sp o.at_ hn w1 H1.bo.ar).mono (fun e w' hh => ⟨hh.1, ar_same H1.bo.ar hh.2⟩)
    · exact (rcut_no r g c x sw ws o.sp o.at_ hn w1 H1).mono (fun e w' hh => ⟨hh.1, H1.below hh.2, Touch.of_below hh.2 _⟩)

theorem write5_any (o : Opg) (ho : o.k = 5) (w : World) (hB : Bx w p a h r g c x sw ws) :
    Calls Tryz.prog 17 #[.pointer (some ⟨p, 0, none⟩), o.val] w (Wrote p a h r g c w) := by
  have hsub := hB.bo.ar.sub_in o.sp
  by_cases hn : 1 ≤ o.at_ ∧ o.at_ ≤ bhd c o.sp - x.top o.sp
  · obtain ⟨P, hP⟩ : ∃ P : Nat, x.top o.sp = P := ⟨(x.top o.sp).toNat, by omega⟩
    obtain ⟨n, hN⟩ : ∃ n : Nat, o.at_ = n := ⟨o.at_.toNat, by omega⟩
    have hs : 1 ≤ o.sp ∧ o.sp ≤ 4 := by
      refine Decidable.byContradiction fun hs => ?_
      have e1 : bhd c o.sp = 0 := by unfold bhd; rw [if_neg (by omega), if_neg (by omega), if_neg (by omega), if_neg (by omega)]
      omega
    obtain ⟨S, hS⟩ : ∃ S : Nat, o.sp = S := ⟨o.sp.toNat, by omega⟩
    refine (write5_core p a h r g c x sw ws true (x.put o.sp (P + n)) sw (upd (zer ws P n) P ((n : Int) * 4 + 3)) o ho (fun w1 H1 => ?_) (fun w1 H1 => ?_) w hB).mono (fun e w' hh => ⟨hh.1, _, _, _, hh.2.1, hh.2.2⟩)
    · rw [hN]; exact fill_yes a h c x sw ws o.sp P n hP (by omega) (by omega) w1 H1.bo.ar
    · rw [hN, hS]; exact rfill_yes r g c x sw ws S P n (by omega) (by omega) (by rw [← hS]; exact hP) (by omega) (by rw [← hS]; omega) w1 H1
  · refine (write5_core p a h r g c x sw ws false x sw ws o ho (fun w1 H1 => ?_) (fun w1 H1 => ?_) w hB).mono (fun e w' hh => ⟨hh.1, _, _, _, hh.2.1, hh.2.2⟩)
    · exact (fill_no a h c x sw ws o.sp o.at_ hn w1 H1.bo.ar).mono (fun e w' hh => ⟨hh.1, ar_same H1.bo.ar hh.2⟩)
    · exact (rfill_no r g c x sw ws o.sp o.at_ hn w1 H1).mono (fun e w' hh => ⟨hh.1, H1.below hh.2, Touch.of_below hh.2 _⟩)

theorem write9_any (o : Opg) (ho : o.k = 9) (hu : Wd o.u) (w : World) (hB : Bx w p a h r g c x sw ws) :
    Calls Tryz.prog 17 #[.pointer (some ⟨p, 0, none⟩), o.val] w (Wrote p a h r g c w) := by
  by_cases hn : 1 ≤ o.at_ ∧ o.at_ < c.words
  · obtain ⟨n, hN⟩ : ∃ n : Nat, o.at_ = n := ⟨o.at_.toNat, by omega⟩
    refine (write9_core p a h r g c x sw ws true x sw (upd ws n o.u) o ho (fun w1 H1 => ?_) (fun w1 H1 => ?_) w hB).mono (fun e w' hh => ⟨hh.1, _, _, _, hh.2.1, hh.2.2⟩)
    · rw [hN]; exact (setWord_yes a h c x sw ws n o.u hu (by omega) (by omega) w1 H1.bo.ar).mono (fun e w' hh => ⟨hh.1, hh.2.1, hh.2.2.1.mono (fun k hk => .inl (by simp at hk; simp [hk]))⟩)
    · rw [hN]; exact rsetWord_yes r g c x sw ws n o.u (by omega) (by omega) w1 H1
  · refine (write9_core p a h r g c x sw ws false x sw ws o ho (fun w1 H1 => ?_) (fun w1 H1 => ?_) w hB).mono (fun e w' hh => ⟨hh.1, _, _, _, hh.2.1, hh.2.2⟩)
    · exact (setWord_no a h c x sw ws o.at_ o.u hn w1 H1.bo.ar).mono (fun e w' hh => ⟨hh.1, hh.2 ▸ ⟨H1.bo.ar, Touch.refl _ _⟩⟩)
    · exact (rsetWord_no r g c x sw ws o.at_ o.u hn w1 H1).mono (fun e w' hh => ⟨hh.1, H1.below hh.2, Touch.of_below hh.2 _⟩)
end

end Go.Proofs.YtbdkcelggffneaaGreatDoor
