import Derived.Test.YtlkengnefhhppaaGreatDoorPKd
set_option linter.unusedVariables false
set_option maxHeartbeats 8000000
set_option maxRecDepth 20000
namespace Go.Proofs.YtlkengnefhhppaaGreatDoor.Kg
open Go.RowKit
theorem Iv.let {w : World} {base b : Nat} {f : Nat → Value} {xs : Nat → List Value} {K : List Nat} (h : Iv w base b f xs K) (j : Nat) (h1 : 13 ≤ j) (h2 : j ≤ 20) (hn : xs j ≠ []) :
  ∃ g, (f j).ownBlock = some g ∧ Iv (w.setCell ⟨b, j, none⟩ (.slice none 0 0)) base b (put f j (.slice none 0 0)) (putl xs j []) (g :: K) ∧ Ey w (w.setCell ⟨b, j, none⟩ (.slice none 0 0)) b f (put f j (.slice none 0 0)) K (g :: K) ∧ Rd (w.setCell ⟨b, j, none⟩ (.slice none 0 0)) (g :: K) (f j) (xs j) := by
 have hl : 0 < (xs j).length := List.length_pos_iff.2 hn
 obtain ⟨g, cap, e⟩ := ownsRow_some (h.own j h1 h2) hl
 have hg : (f j).ownBlock = some g := by rw [e]; rfl
 have hlt := (h.own j h1 h2).lt g hg
 have ht : Touch [b] w (w.setCell ⟨b, j, none⟩ (.slice none 0 0)) := Touch.setCell _ _ _ (by simp)
 refine ⟨g, hg, (h.drop j h1 h2).more hlt.1 (by simpa [World.setCell] using hlt.2) ?_, ?_, ?_⟩
 ·intro ho
  rcases ho with rfl | ⟨i, a1, a2, a3⟩
  ·exact h.rb j h1 h2 hg.symm
  ·by_cases hi : i = j
   ·subst hi; rw [put_same] at a3; cases a3
   ·rw [put_ne _ _ hi] at a3
    exact h.dis i j g a1 a2 h1 h2 hi a3 hg
 ·have h3 := (h.dropEx j).ey
  refine ⟨h3.t, h3.o, fun k hk => by simp [hk], fun k hk => ?_⟩
  rcases List.mem_cons.1 hk with rfl | hk
  ·exact .inr (.inl (.inr ⟨j, h1, h2, hg⟩))
  ·exact .inl hk
 ·exact Rd.row (ownsRow_setOther (h.own j h1 h2) (h.rb j h1 h2) _) (fun k hk => by rw [hg] at hk; simp at hk; simp [hk])
theorem Rd.ey {w w' : World} {b : Nat} {K : List Nat} {v v0 : Value} {l : List Value} {j : Nat} (h : Rd w K v l) (hb : b ∉ K) (g : Nat) (e : w' = w.setCell ⟨b, j, none⟩ v0) : Rd w' (g :: K) v l := by
 subst e
 exact (h.off (Touch.setCell (F := [b]) _ _ _ (by simp)) (fun k hk => by simp at hk; subst hk; exact hb)).more g
theorem mk_start {w : World} {base b : Nat} {f : Nat → Value} {xs : Nat → List Value} {K : List Nat} {ms ds : List Int} (h : Iv w base b f xs K) (h1 : Prs w K (xs 13) (xs 14)) (hW : Wts w base K (xs 15) (xs 16) ms) (e18 : xs 18 = ints ms) (e19 : xs 19 = ints ds) (l19 : ds.length = (xs 15).length) (e17 : xs 17 = []) (e20 : xs 20 = [])
  (hD : Dst (xs 15) (xs 13 ++ xs 14 ++ xs 16)) (hne : xs 15 ≠ []) :
  ∃ f4 xs4 K4, Mk ((((w.setCell ⟨b, 15, none⟩ (.slice none 0 0)).setCell ⟨b, 16, none⟩ (.slice none 0 0)).setCell ⟨b, 18, none⟩ (.slice none 0 0)).setCell ⟨b, 19, none⟩ (.slice none 0 0)) base b f f4 xs4 K4 [] [] [] (xs 15) (xs 16) ms ds (f 15) (f 16) (f 18) (f 19) (xs 13).length 0 ∧
   Ey w ((((w.setCell ⟨b, 15, none⟩ (.slice none 0 0)).setCell ⟨b, 16, none⟩ (.slice none 0 0)).setCell ⟨b, 18, none⟩ (.slice none 0 0)).setCell ⟨b, 19, none⟩ (.slice none 0 0)) b f f4 K K4 := by
 have hl16 : xs 16 ≠ [] := fun e => hne (List.eq_nil_of_length_eq_zero (by rw [hW.l1, e]; rfl))
 have hms : ms ≠ [] := fun e => hne (List.eq_nil_of_length_eq_zero (by rw [hW.l2, e]; rfl))
 have hds : ds ≠ [] := fun e => hne (List.eq_nil_of_length_eq_zero (by rw [← l19, e]; rfl))
 have hl18 : xs 18 ≠ [] := by rw [e18]; simpa [ints] using hms
 have hl19 : xs 19 ≠ [] := by rw [e19]; simpa [ints] using hds
 obtain ⟨gA, oA, V1, E1, R1⟩ := h.let 15 (by decide) (by decide) hne
 obtain ⟨gN, oN, V2, E2, R2⟩ := V1.let 16 (by decide) (by decide) (by rw [putl_ne _ _ (by decide)]; exact hl16)
 obtain ⟨gM, oM, V3, E3, R3⟩ := V2.let 18 (by decide) (by decide) (by rw [putl_ne _ _ (by decide), putl_ne _ _ (by decide)]; exact hl18)
 obtain ⟨gD, oD, V4, E4, R4⟩ := V3.let 19 (by decide) (by decide) (by rw [putl_ne _ _ (by decide), putl_ne _ _ (by decide), putl_ne _ _ (by decide)]; exact hl19)
 rw [put_ne _ _ (by decide)] at oN
 rw [put_ne _ _ (by decide), put_ne _ _ (by decide)] at oM
 rw [put_ne _ _ (by decide), put_ne _ _ (by decide), put_ne _ _ (by decide)] at oD
 rw [put_ne _ _ (by decide), putl_ne _ _ (by decide)] at R2
 rw [put_ne _ _ (by decide), put_ne _ _ (by decide), putl_ne _ _ (by decide), putl_ne _ _ (by decide)] at R3
 rw [put_ne _ _ (by decide), put_ne _ _ (by decide), put_ne _ _ (by decide), putl_ne _ _ (by decide), putl_ne _ _ (by decide), putl_ne _ _ (by decide)] at R4
 have EE := E1.trans (E2.trans (E3.trans E4))
 have ht : Touch [b] w ((((w.setCell ⟨b, 15, none⟩ (.slice none 0 0)).setCell ⟨b, 16, none⟩ (.slice none 0 0)).setCell ⟨b, 18, none⟩ (.slice none 0 0)).setCell ⟨b, 19, none⟩ (.slice none 0 0)) :=
  (((Touch.setCell _ _ _ (by simp)).trans (Touch.setCell _ _ _ (by simp))).trans (Touch.setCell _ _ _ (by simp))).trans (Touch.setCell _ _ _ (by simp))
 have hbK : ∀ k, k ∈ [b] → k ∉ K := fun k hk => by simp at hk; subst hk; exact h.kb
 have nr : ∀ j, 13 ≤ j → j ≤ 20 → ∀ v, v ∈ xs 15 → Far v (f j) := fun j a1 a2 v hv g hg e => h.kp j g a1 a2 e (hW.inA hv g hg)
 have pr4 := h1.off ht hbK
 have P4 : Prs _ (gD :: gM :: gN :: gA :: K) (xs 13) (xs 14) := (((pr4.more gA).more gN).more gM).more gD
 have W4 : Wts _ base (gD :: gM :: gN :: gA :: K) (xs 15) (xs 16) ms := hW.keep ht (fun k hk => by simp [hk]) (fun v hv k hk hm => hbK k hm (hW.inA hv k hk)) (fun v hv k hk hm => hbK k hm (hW.inN hv k hk))
 have D1 : Dst (xs 15) (xs 13 ++ xs 14 ++ xs 16 ++ [f 15, f 16, f 18, f 19]) := ⟨hD.one, fun v hv u hu => by
  rcases List.mem_append.1 hu with hu | hu
  ·exact hD.two v hv u hu
  ·simp only [List.mem_cons, List.not_mem_nil, or_false] at hu
   rcases hu with rfl | rfl | rfl | rfl
   ·exact nr 15 (by decide) (by decide) v hv
   ·exact nr 16 (by decide) (by decide) v hv
   ·exact nr 18 (by decide) (by decide) v hv
   ·exact nr 19 (by decide) (by decide) v hv⟩
 refine ⟨_, _, _, ⟨V4, ?_, ?_, ?_, ?_, ?_, ?_, ?_, ?_, ?_, ?_, ?_, ?_, ?_, ?_, ?_, ?_⟩, EE⟩
 ·simpa [putl] using P4
 ·simpa [putl] using Wts.nil _ _ _
 ·simp [putl, ints]
 ·simp [putl, ints]
 ·simp [putl]
 ·rw [show putl (putl (putl (putl xs 15 []) 16 []) 18 []) 19 [] 17 = [] by simp [putl, e17]]; exact Frs.nil_ _ _ _
 ·simp [putl, e20, ints]
 ·simpa using W4
 ·exact ((R1.ey V1.kb gN rfl).ey V2.kb gM rfl).ey V3.kb gD rfl
 ·exact (R2.ey V2.kb gM rfl).ey V3.kb gD rfl
 ·rw [← e18]; exact R3.ey V3.kb gD rfl
 ·rw [← e19]; exact R4
 ·simp only [List.drop_zero]
  refine ⟨by simpa [putl] using D1.one, fun v hv u hu => D1.two v (by simpa [putl] using hv) u ?_⟩
  simp [putl, e17] at hu ⊢
  rcases hu with hu | hu | hu | hu | hu | hu | hu
  all_goals simp [hu]
 ·rw [show putl (putl (putl (putl xs 15 []) 16 []) 18 []) 19 [] 17 = [] by simp [putl, e17]]
  exact ⟨by simp, fun v hv => by simp at hv, fun v hv => by simp at hv⟩
 ·intro j hj
  rw [put_ne _ _ (by omega), put_ne _ _ (by omega), put_ne _ _ (by omega), put_ne _ _ (by omega)]
 ·simp [putl, e17]
end Go.Proofs.YtlkengnefhhppaaGreatDoor.Kg
