/-
  The reference's map: Set, Clear.
-/
import Derived.Test.YtlnfhnahnmblmabDoorN1
import Derived.Deep.Cut
set_option linter.unusedVariables false
set_option maxRecDepth 20000
namespace Go.Proofs.YtlnfhnahnmblmabDoor
open Go.RowKit Go.Shelf

theorem rset_out (r h n : Nat) (M : Nat → Bool) (fr ct : Int) (hfr : fr ≤ 9223372036854775807) (hc : fr < 0 ∨ ct < 0 ∨ (n : Int) - fr < ct) (w : World) (hM : Rm w r h n M) :
    Calls Tryd.prog 16 #[.pointer (some ⟨r, 0, none⟩), .int .i64 fr, .int .i64 ct] w fun e w' => e = .returned (.tuple #[.bool false, .int .i64 41]) ∧ w = w' := by
  have hn := hM.le
  have c0 := hM.c0
  clear hM
  by_cases h1 : fr < 0
  · clear hc
    go_enter Tryd.func16, Tryd.ntmps16
    go_wp2
    go_ret2
    exact ⟨rfl, rfl⟩
  · by_cases h2 : ct < 0
    · clear hc
      go_enter Tryd.func16, Tryd.ntmps16
      go_wp2
      go_ret2
      exact ⟨rfl, rfl⟩
    · by_cases h4 : (n : Int) < fr
      · clear hc
        go_enter Tryd.func16, Tryd.ntmps16
        go_wp2
        go_ret2
        exact ⟨rfl, rfl⟩
      · have h3 : (n : Int) - fr < ct := by omega
        clear hc
        go_enter Tryd.func16, Tryd.ntmps16
        go_wp2
        go_ret2
        exact ⟨rfl, rfl⟩

theorem Rm.mark {w : World} {r h n : Nat} {M : Nat → Bool} (x : Rm w r h n M) {f i : Nat} (hf : f ≤ i) (hi : i < n) (N : Nat → Bool) (hN : ∀ k, M k = add N f i k) : Rm (w.setCell ⟨h, i, none⟩ (.bool true)) r h n (add N f (i + 1)) := by
  have hs : ∀ k, k ≠ i → add N f (i + 1) k = M k := fun k hk => by
    rw [hN k]
    unfold add
    congr 1
    rw [Bool.eq_iff_iff]
    simp only [Bool.and_eq_true, decide_eq_true_eq]
    omega
  refine ⟨x.own.setOther x.ne _, (x.row.set i _).congr (fun j _ => ?_), x.le, fun k hk => ?_⟩
  · split
    · rename_i e
      subst e
      simp [add, hf]
    · rename_i e
      rw [hs j e]
  · rw [hs k (by omega)]; exact x.out k hk

set_option maxHeartbeats 2000000 in
theorem rset_in (r h n : Nat) (M : Nat → Bool) (f ct : Nat) (hc : f + ct ≤ n) (w : World) (hM : Rm w r h n M) :
    Calls Tryd.prog 16 #[.pointer (some ⟨r, 0, none⟩), .int .i64 f, .int .i64 ct] w fun e w' => ∃ fs : Bool, (fs = true ↔ ∀ k, f ≤ k → k < f + ct → M k = false) ∧ e = .returned (.tuple #[.bool fs, .int .i64 0]) ∧ Rm w' r h n (add M f (f + ct)) ∧ Touch [h] w w' := by
  have hn := hM.le
  have c0 := hM.c0
  have HM : Hid (Rm w r h n M) := hM
  have h1 : decide ((f : Int) < 0) = false := by simp
  have h2 : decide ((ct : Int) < 0) = false := by simp
  have h3 : ¬ (n : Int) < f := by omega
  have h4 : ¬ ((n : Int) - f < ct) := by omega
  clear hM
  go_enter Tryd.func16, Tryd.ntmps16
  go_wp2
  clear h1 h2 h3 h4
  go_loopw [8, 9] (fun v8 v9 wr => ∃ (i : Nat) (fs : Bool), v8 = .bool fs ∧ v9 = .int .i64 i ∧ f ≤ i ∧ i ≤ f + ct ∧ Hid ((fs = true ↔ ∀ k, f ≤ k → k < i → M k = false) ∧ Rm wr r h n (add M f i) ∧ Touch [h] w wr)) (fun _ v _ => (f + ct - intOf v).toNat)
  case atStart =>
    refine ⟨f, true, rfl, rfl, Nat.le_refl _, by omega, ⟨⟨fun _ k h1 h2 => by omega, fun _ => rfl⟩, ?_, Touch.refl _ _⟩⟩
    have : add M f f = M := by
      funext k
      unfold add
      rw [show (decide (f ≤ k) && decide (k < f)) = false by simp, Bool.or_false]
    rw [this]
    exact HM.out
  case round =>
    obtain ⟨i, fs, rfl, rfl, hfi, hi, hI⟩ := hrel
    obtain ⟨hfs, hMr, hT⟩ := hI.out
    clear hI
    by_cases hlt : i < f + ct
    · have hin : i < n := by omega
      have k0 := hMr.c0
      have k1 := hMr.at hin
      have kf := hMr.row.frozen i
      have hMi : add M f i i = M i := by simp [add]
      rw [hMi] at k1
      have H2 : Hid (Rm (wr.setCell ⟨h, i, none⟩ (.bool true)) r h n (add M f (i + 1)) ∧ Touch [h] w (wr.setCell ⟨h, i, none⟩ (.bool true))) := ⟨hMr.mark hfi hin M (fun _ => rfl), hT.trans (Touch.setCell _ _ _ (by simp))⟩
      have HF : Hid ((fs && !(M i)) = true ↔ ∀ k, f ≤ k → k < i + 1 → M k = false) := by
        rw [Bool.and_eq_true, hfs]
        constructor
        · rintro ⟨h1, h2⟩ k h3 h4
          by_cases e : k = i
          · subst e; simpa using h2
          · exact h1 k h3 (by omega)
        · intro h1
          exact ⟨fun k h2 h3 => h1 k h2 (by omega), by rw [h1 i hfi (by omega)]; rfl⟩
      clear hfs hMr hT hMi c0
      cases fs
      · go_wp2
        go_roundw
        case rel => exact ⟨i + 1, false, rfl, by simp, by omega, by omega, ⟨by simpa using HF.out, H2.out.1, H2.out.2⟩⟩
        case measure => simp [intOf]; omega
      · generalize M i = mi at *
        go_wp2
        go_roundw
        case rel => exact ⟨i + 1, !mi, rfl, by simp, by omega, by omega, ⟨by simpa using HF.out, H2.out.1, H2.out.2⟩⟩
        case measure => simp [intOf]; omega
    · have : i = f + ct := by omega
      subst this
      have HE : Hid ((fs = true ↔ ∀ k, f ≤ k → k < f + ct → M k = false) ∧ Rm wr r h n (add M f (f + ct)) ∧ Touch [h] w wr) := ⟨hfs, hMr, hT⟩
      clear hfs hMr hT
      go_wp2
      go_ret2
      exact ⟨fs, HE.out.1, rfl, HE.out.2.1, HE.out.2.2⟩

set_option maxHeartbeats 1000000 in
theorem rclear_any (r h n : Nat) (M : Nat → Bool) (w : World) (hM : Rm w r h n M) :
    Calls Tryd.prog 23 #[.pointer (some ⟨r, 0, none⟩)] w fun e w' => e = .returned (.tuple #[]) ∧ (∃ h', w.heap.size ≤ h' ∧ Rm w' r h' n (fun _ => false)) ∧ Touch [r] w w' := by
  obtain ⟨i0, hi0, hz0, hz1, hz2⟩ := info_parts Tryd.infoBool
  have hn := hM.le
  have hmk : ∀ w, (Instr.makeSlice 51 (.int .i64 n) (.int .i64 n)).run Tryd.prog w = .ok (.slice (some ⟨w.heap.size, 0, none⟩) n n) (w.alloc (.cells (madeCells #[.bool false] n) 4)) := fun w => by
    have := run_make (P := Tryd.prog) w 51 4 i0 (.bool false) Tryd.underlying51 hi0 hz0 .i64 .i64 n n (by omega) (Int.le_refl _) (by rw [hz2]; omega) (by omega)
    rw [hz1, Nat.mul_one, Int.toNat_natCast] at this
    exact this
  have c0 := hM.c0
  have kf := hM.own.frozen 0
  have hrl := hM.own.lt
  have HM : Hid (Rm w r h n M) := hM
  clear hi0 hz0 hz1 hz2 hM
  go_enter Tryd.func23, Tryd.ntmps23
  go_wp2
  go_returns
  refine ⟨rfl, ⟨w.heap.size, Nat.le_refl _, ?_, ?_, hn, fun _ _ => rfl⟩, ?_⟩
  · exact ((HM.out.own.set 0 _).alloc _).congr (fun i hi => by simp; omega)
  · have := World.rowIs_made (w.setCell ⟨r, 0, none⟩ (.slice (some ⟨w.heap.size, 0, none⟩) n n)) (.bool false) n 4
    rw [World.size_setCell] at this
    exact this
  · exact (Touch.setCell _ _ _ (by simp)).trans (Touch.alloc _ _ _)
end Go.Proofs.YtlnfhnahnmblmabDoor
