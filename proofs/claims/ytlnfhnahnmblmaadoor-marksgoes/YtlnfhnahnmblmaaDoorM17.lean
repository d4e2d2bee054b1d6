/-
  MarksGoes, walked: where there is a slide.
-/
import Derived.Test.YtlnfhnahnmblmaaDoorM16
set_option linter.unusedVariables false
set_option maxRecDepth 100000
namespace Go.Proofs.YtlnfhnahnmblmaaDoor
open Go.RowKit Go.Shelf

set_option maxHeartbeats 16000000 in
theorem goes_in (n : Nat) (hn : n ≤ 8192) (a : Option Addr) (cap : Nat) (l : List Int) (hlen : l.length ≤ 9223372036854775807) (f e base : Nat) (hfe : f ≤ e) (hen : e ≤ n) (hba : base ≤ 1048576) (w : World) (hL : Laid w) (hl : Lst w a l) :
    Calls Tryd.prog 6 #[.int .i64 n, .slice a l.length cap, .int .i64 f, .int .i64 e, .int .i64 base] w fun r w' => r = .returned (.bool true) ∧ Below w.heap.size w w' := by
  have hk := known_any w hL
  have HL : Hid (Laid w) := hL
  have Hl : Hid (Lst w a l) := hl
  clear hL hl
  go_enter Tryd.func6, Tryd.ntmps6
  go_wp2_with fail
  refine hk.mono ?_
  rintro r w1 ⟨rfl, b1⟩
  have hf := filled_in n hn a cap l hlen w1 (HL.out.below b1) (Hl.out.below b1)
  clear hk
  go_wp2_with fail
  refine hf.mono ?_
  rintro r w2 ⟨⟨b, g, rfl, hM, -, -⟩, b2⟩
  have b3 := b1.trans (b2.mono b1.size)
  generalize fil n (l.take 600) (fun _ => false) = M at hM
  have hs := slide_in b g n f e base M hfe hen hba w2 hM (HL.out.below b3)
  have HM : Hid (Mp w2 b g n M) := hM
  clear hf b1 b2 hM
  go_wp2_with fail
  refine hs.mono ?_
  rintro r w3 ⟨⟨s, kb, kg, q, rfl, hS, -, -, -, -⟩, b4⟩
  have b5 := b3.trans (b4.mono b3.size)
  have hMS : Hid (Mp w3 b g n M ∧ Sl w3 s kb kg q base e (cut M f e)) := ⟨HM.out.below b4, hS⟩
  have hnum := num_any 0 w3
  have h1 : decide ((f : Int) < 0) = false := by simp
  have h4 : decide ((base : Int) < 0) = false := by simp
  have h5 : decide (1048576 < (base : Int)) = false := by simp; omega
  have h6 : ¬ n < e := by omega
  have h7 : ¬ e < f := by omega
  clear hs b4 hS HM b3
  go_wp2_with fail
  refine hnum.mono ?_
  rintro r w4 ⟨rfl, rfl⟩
  clear hnum
  go_wp2
  clear h1 h4 h5 h6 h7
  go_loopw [15, 16] (fun v15 v16 wr => ∃ (z : Int) (c : Nat), v15 = .int .i64 c ∧ v16 = .int .i64 z ∧ -1 ≤ z ∧ z ≤ n + 1 ∧ c ≤ n ∧ Hid (c = rk (cut M f e) z.toNat ∧ Mp wr b g n M ∧ Sl wr s kb kg q base e (cut M f e)) ∧ Below w.heap.size w wr) (fun _ v16 _ => (n + 1 - intOf v16).toNat)
  case atStart => exact ⟨-1, 0, rfl, rfl, by decide, by omega, Nat.zero_le _, ⟨rfl, hMS.out.1, hMS.out.2⟩, b5⟩
  case round =>
    obtain ⟨z, c, rfl, rfl, hz0, hz1, hcn, hI, hB⟩ := hrel
    obtain ⟨hc, hM, hS⟩ := hI.out
    have hLr := HL.out.below hB
    by_cases hzn : z ≤ n
    · have hh := has_any b g n M z wr hM
      cases hN : hasB (cut M f e) z
      · have hto := to_out s kb kg q base e (cut M f e) z hN wr hS
        have hnx : Hid (c = rk (cut M f e) (z + 1).toNat) := by
          show _ = _
          rw [hc]
          by_cases h0 : z < 0
          · rw [show z.toNat = 0 by omega, show (z + 1).toNat = 0 by omega]
          · obtain ⟨zn, rfl⟩ := Int.eq_ofNat_of_zero_le (show 0 ≤ z by omega)
            rw [show ((zn : Int) + 1).toNat = zn + 1 by omega, Int.toNat_natCast]
            have : cut M f e zn = false := by
              unfold hasB at hN
              simpa using hN
            simp [rk, this]
        have hcs := cut_not hN
        have HMS : Hid (Mp wr b g n M ∧ Sl wr s kb kg q base e (cut M f e)) := ⟨hM, hS⟩
        clear hI hc hM hS hN
        cases hMz : hasB M z
        · rw [hMz] at hh
          clear hcs hMz
          go_wp2_with fail
          refine hh.mono ?_
          rintro r w5 ⟨rfl, rfl⟩
          clear hh
          go_wp2_with fail
          refine hto.mono ?_
          rintro r w5 ⟨rfl, rfl⟩
          clear hto
          go_wp2
          go_roundw
          case rel => exact ⟨z + 1, c, rfl, rfl, by omega, by omega, hcn, ⟨hnx.out, HMS.out.1, HMS.out.2⟩, hB⟩
          case measure => simp [intOf]; omega
        · rw [hMz] at hh
          have hcs2 : z < f ∨ (e : Int) ≤ z := by
            rcases hcs with h | h
            · rw [hMz] at h; cases h
            · exact h
          clear hcs hMz
          by_cases d1 : z < f
          · clear hcs2
            go_wp2_with fail
            refine hh.mono ?_
            rintro r w5 ⟨rfl, rfl⟩
            clear hh
            go_wp2_with fail
            refine hto.mono ?_
            rintro r w5 ⟨rfl, rfl⟩
            clear hto
            go_wp2
            go_roundw
            case rel => exact ⟨z + 1, c, rfl, rfl, by omega, by omega, hcn, ⟨hnx.out, HMS.out.1, HMS.out.2⟩, hB⟩
            case measure => simp [intOf]; omega
          · have d2 : (e : Int) ≤ z := by omega
            clear hcs2
            go_wp2_with fail
            refine hh.mono ?_
            rintro r w5 ⟨rfl, rfl⟩
            clear hh
            go_wp2_with fail
            refine hto.mono ?_
            rintro r w5 ⟨rfl, rfl⟩
            clear hto
            go_wp2
            go_roundw
            case rel => exact ⟨z + 1, c, rfl, rfl, by omega, by omega, hcn, ⟨hnx.out, HMS.out.1, HMS.out.2⟩, hB⟩
            case measure => simp [intOf]; omega
      · obtain ⟨x, rfl, x1, x2, x3⟩ := cut_has hN
        have hNx : cut M f e x = true := by simp [cut, x1, x2, x3]
        rw [Int.toNat_natCast] at hc
        have hto := to_in s kb kg q base e x (cut M f e) hNx wr hS hLr
        rw [show ((base + rk (cut M f e) x : Nat) : Int) = (base : Int) + (c : Int) by rw [← hc]; omega] at hto
        have hMx : hasB M (x : Int) = true := by simp [hasB, x1]
        rw [hMx] at hh
        have hnx : Hid (c + 1 = rk (cut M f e) ((x : Int) + 1).toNat) := by
          show _ = _
          rw [show ((x : Int) + 1).toNat = x + 1 by omega]
          simp [rk, hNx, hc]
        have hle := rk_cut_le M f e x
        rw [← hc] at hle
        have hcx : c + 1 ≤ n := by omega
        have hback : ∀ W, Below wr.heap.size wr W → Calls Tryd.prog 26 #[.pointer (some ⟨s, 0, none⟩), .int .i64 ((base : Int) + (c : Int))] W fun r w' => r = .returned (.tuple #[.int .i64 x, .bool true]) ∧ Below W.heap.size W w' := fun W hW => by
          have := back_in s kb kg q base e x (cut M f e) hNx W (hS.below hW) (hLr.below hW)
          rw [show ((base + rk (cut M f e) x : Nat) : Int) = (base : Int) + (c : Int) by rw [← hc]; omega] at this
          exact this
        have HBK : Hid _ := hback
        have HMS : Hid (Mp wr b g n M ∧ Sl wr s kb kg q base e (cut M f e)) := ⟨hM, hS⟩
        clear hI hc hM hS hN hback hMx hNx hLr
        go_wp2_with fail
        refine hh.mono ?_
        rintro r w5 ⟨rfl, rfl⟩
        clear hh
        go_wp2_with fail
        refine hto.mono ?_
        rintro r w6 ⟨rfl, b6⟩
        clear hto
        go_wp2_with fail
        refine (HBK.out w6 b6).mono ?_
        rintro r w7 ⟨rfl, b7⟩
        have b8 := b6.trans (b7.mono b6.size)
        have b9 := hB.trans (b8.mono hB.size)
        have HMS7 : Hid (Mp w7 b g n M ∧ Sl w7 s kb kg q base e (cut M f e)) := ⟨HMS.out.1.below b8, HMS.out.2.below b8⟩
        clear b6 b7 b8 HMS HBK hB
        by_cases hbf : base ≤ f
        · have h8 : ¬ ((x : Int) < (base : Int) + c) := by omega
          go_wp2
          go_roundw
          case rel => exact ⟨(x : Int) + 1, c + 1, by simp, rfl, by omega, by omega, hcx, ⟨hnx.out, HMS7.out.1, HMS7.out.2⟩, b9⟩
          case measure => simp [intOf]; omega
        · go_wp2
          go_roundw
          case rel => exact ⟨(x : Int) + 1, c + 1, by simp, rfl, by omega, by omega, hcx, ⟨hnx.out, HMS7.out.1, HMS7.out.2⟩, b9⟩
          case measure => simp [intOf]; omega
    · have hz2 : z = n + 1 := by omega
      subst hz2
      have hce : rk (cut M f e) e = c := by
        rw [hc, show ((n : Int) + 1).toNat = n + 1 by omega]
        exact (rk_out hS.kept.out (by omega)).symm
      have hb1 := back_out s kb kg q base e (cut M f e) ((base : Int) - 1) (.inl (by omega)) wr hS
      have hb2 : ∀ W, Below wr.heap.size wr W → Calls Tryd.prog 26 #[.pointer (some ⟨s, 0, none⟩), .int .i64 ((base : Int) + (c : Int))] W fun r w' => r = .returned (.tuple #[.int .i64 0, .bool false]) ∧ Below W.heap.size W w' := fun W hW =>
        back_out s kb kg q base e (cut M f e) ((base : Int) + c) (.inr (by rw [hce]; omega)) W (hS.below hW)
      have ht : ∀ W, Below wr.heap.size wr W → Calls Tryd.prog 14 #[.pointer (some ⟨s, 0, none⟩)] W fun r w' => r = .returned (.int .i64 c) ∧ W = w' := fun W hW => by
        have := total_any s kb kg q base e (cut M f e) W (hS.below hW)
        rw [hce] at this
        exact this
      have hco : ∀ W, Below wr.heap.size wr W → Calls Tryd.prog 17 #[.pointer (some ⟨b, 0, none⟩), .int .i64 f, .int .i64 e] W fun r w' => r = .returned (.int .i64 c) ∧ Below W.heap.size W w' := fun W hW => by
        have := count_any b g n M f e (by omega) W (hM.below hW) (hLr.below hW)
        rw [show (min (e : Int) n).toNat = e by omega, show (max (f : Int) 0).toNat = f by omega, ← rk_cut M f e hfe, hce] at this
        exact this
      have HB2 : Hid _ := hb2
      have HT : Hid _ := ht
      have HCO : Hid _ := hco
      clear hb2 ht hco hI hc hM hS hce hLr
      go_wp2_with fail
      refine hb1.mono ?_
      rintro r w5 ⟨rfl, b6⟩
      clear hb1
      go_wp2_with fail
      refine (HB2.out w5 b6).mono ?_
      rintro r w6 ⟨rfl, b7⟩
      have b8 := b6.trans (b7.mono b6.size)
      clear b6 b7 HB2
      go_wp2_with fail
      refine (HT.out w6 b8).mono ?_
      rintro r w7 ⟨rfl, rfl⟩
      go_wp2_with fail
      refine (HCO.out w6 b8).mono ?_
      rintro r w7 ⟨rfl, b9⟩
      have b10 := hB.trans ((b8.trans (b9.mono b8.size)).mono hB.size)
      clear b8 b9 HT HCO hB
      go_wp2
      go_ret
      exact ⟨rfl, b10⟩

theorem goes_any (ws : Int) (a : Option Addr) (cap : Nat) (l : List Int) (hlen : l.length ≤ 9223372036854775807) (fr be ba : Int) (w : World) (hL : Laid w) (hl : Lst w a l) :
    Calls Tryd.prog 6 #[.int .i64 ws, .slice a l.length cap, .int .i64 fr, .int .i64 be, .int .i64 ba] w fun r w' => r = .returned (.bool true) ∧ Below w.heap.size w w' := by
  by_cases h : ws < 0 ∨ 8192 < ws
  · exact goes_no ws h _ fr be ba w hL
  · obtain ⟨n, rfl⟩ := Int.eq_ofNat_of_zero_le (show 0 ≤ ws by omega)
    by_cases hc : fr < 0 ∨ (n : Int) < be ∨ be < fr ∨ ba < 0 ∨ 1048576 < ba
    · exact goes_out n (by omega) a cap l hlen fr be ba hc w hL hl
    · obtain ⟨f, rfl⟩ := Int.eq_ofNat_of_zero_le (show 0 ≤ fr by omega)
      obtain ⟨e, rfl⟩ := Int.eq_ofNat_of_zero_le (show 0 ≤ be by omega)
      obtain ⟨base, rfl⟩ := Int.eq_ofNat_of_zero_le (show 0 ≤ ba by omega)
      exact goes_in n (by omega) a cap l hlen f e base (by omega) (by omega) (by omega) w hL hl
end Go.Proofs.YtlnfhnahnmblmaaDoor
