/-
  desk.runs, whole.
-/
import Derived.Test.YtlnfhnahnmblmabDoorN12
import Derived.Deep.CutRange
set_option linter.unusedVariables false
set_option maxRecDepth 100000
namespace Go.Proofs.YtlnfhnahnmblmabDoor
open Go.RowKit Go.Shelf

theorem runs_not_nil (a b c : Nat) (W : World) : (binOp BinOp.eql 68 (.func (.func 47) #[] #[.pointer (some ⟨a, 0, none⟩), .pointer (some ⟨b, 0, none⟩), .pointer (some ⟨c, 0, none⟩)]) .nilFunc).run Tryd.prog W = .ok (.bool false) W := by kernel_rfl

set_option maxHeartbeats 8000000 in
theorem druns_any (d b g r h n : Nat) (M : Nat → Bool) (vs vt : Value) (stop : Int) (w : World) (hD : w.rowIs d 47 4 (df b r vs vt)) (hM : Mp w b g n M) (hR : Rm w r h n M) (hL : Laid w) :
    Calls Tryd.prog 21 #[.pointer (some ⟨d, 0, none⟩), .int .i64 stop] w fun e w' => e = .returned (.bool true) ∧ Below w.heap.size w w' := by
  obtain ⟨a0, hs0⟩ := sk_ex M false n _ 0 rfl
  have ha0 := hs0.ge (Nat.zero_le _)
  obtain ⟨l, hat⟩ := at_ex M n _ a0 rfl ha0.2 (fun h => by
    rcases hs0 with ⟨h1, _⟩ | ⟨_, _, h3, _⟩
    · omega
    · exact h3)
  obtain ⟨eA, eD⟩ := runs_whole hs0 hat
  have lA : (As M n).length = l.length := by rw [eA]; simp
  have lD : (Ds M n).length = l.length := by rw [eD]; simp
  have hrl := runs_len hat ha0.2
  have hn := hM.le
  have hls := hL.size
  have b0 : Below w.heap.size w (w.alloc (.cells #[.int .i64 stop] 3)) := Below.alloc (Below.refl _ _) (Nat.le_refl _) _
  have bx0 := Boxed.new w 3 (.int .i64 stop)
  have hd1 : (w.alloc (.cells #[.int .i64 stop] 3)).rowIs d 47 4 (df b r vs vt) := hD.of_block (b0.block _ hD.lt)
  have d1 : (w.alloc (.cells #[.int .i64 stop] 3)).cell? ⟨d, 1, none⟩ = some (.pointer (some ⟨r, 0, none⟩)) := hd1.cell (i := 1) (by decide)
  have hr := rruns_any r h n M _ (hR.below b0)
  rw [lA, lD] at hr
  have HW : Hid (Sk M false 0 n a0 ∧ At M n a0 l ∧ (As M n).length = l.length ∧ (Ds M n).length = l.length) := ⟨hs0, hat, lA, lD⟩
  have H0 : Hid ((w.alloc (.cells #[.int .i64 stop] 3)).rowIs d 47 4 (df b r vs vt) ∧ Mp (w.alloc (.cells #[.int .i64 stop] 3)) b g n M ∧ Laid (w.alloc (.cells #[.int .i64 stop] 3)) ∧ Boxed (w.alloc (.cells #[.int .i64 stop] 3)) w.heap.size 3 (.int .i64 stop) ∧ Below w.heap.size w (w.alloc (.cells #[.int .i64 stop] 3))) := ⟨hd1, hM.below b0, hL.below b0, bx0, b0⟩
  clear hs0 hat eA eD lA lD hD hM hR hL b0 bx0 hd1
  obtain ⟨len, hlen⟩ : ∃ len, len = l.length := ⟨_, rfl⟩
  rw [← hlen] at hr hrl HW
  have HLn : Hid (len = l.length) := hlen
  clear hlen
  go_enter Tryd.func21, Tryd.ntmps21
  go_upto_region 1 with fail
  generalize w.alloc (.cells #[.int .i64 stop] 3) = w0 at *
  obtain ⟨sB, hsB⟩ : ∃ sB, sB = w.heap.size := ⟨_, rfl⟩
  rw [← hsB] at H0 hls ⊢
  have HsB : Hid (sB = w.heap.size) := hsB
  clear hsB
  go_wp2_with fail
  refine hr.mono ?_
  rintro e w1 ⟨⟨pa, Ca, pd, Cd, rfl, hCa, hCd, la, ld⟩, b1⟩
  have H1 : Hid (w1.rowIs d 47 4 (df b r vs vt) ∧ Mp w1 b g n M ∧ Laid w1 ∧ Boxed w1 sB 3 (.int .i64 stop) ∧ Lsc w0.heap.size w1.heap.size w1 pa (As M n) ∧ Lsc w0.heap.size w1.heap.size w1 pd (Ds M n) ∧ Below sB w w1) :=
    ⟨H0.out.1.of_block (b1.block _ H0.out.1.lt), H0.out.2.1.below b1, H0.out.2.2.1.below b1, box_below H0.out.2.2.2.1 b1, la.c, ld.c, H0.out.2.2.2.2.trans (b1.mono (by rw [HsB.out]; exact H0.out.2.2.2.2.size))⟩
  have HB1 : Hid (Below w0.heap.size w0 w1) := b1
  clear hr la ld b1 H0 d1
  have hsz1 : sB < w1.heap.size := H1.out.2.2.2.1.lt
  have hlo : w0.heap.size ≤ w1.heap.size := HB1.out.size
  clear HB1
  go_upto_region 2 with fail
  have y5 : ((w1.alloc (.cells #[.slice pa len Ca] 64)).alloc (.cells #[.slice pd len Cd] 64)).cell? ⟨w1.heap.size, 0, none⟩ = some (.slice pa len Ca) := ((Boxed.new w1 64 (.slice pa len Ca)).alloc _).cell
  go_cut [7] from 20 to 21 (fun v wc => v = .pointer (some ⟨w1.heap.size + 1 + 1, 0, none⟩) ∧ wc = ((w1.alloc (.cells #[.slice pa len Ca] 64)).alloc (.cells #[.slice pd len Cd] 64)).alloc (.cells #[.int .i64 len] 3))
  case first =>
    go_wp2_with fail
    go_meet
    exact ⟨by simp, rfl⟩
  case rest =>
  obtain ⟨rfl, hwc⟩ := hcut
  apply_assumption
  have b3 : Below w1.heap.size w1 wc := by
    rw [hwc]; exact ((Below.alloc (Below.refl _ _) (Nat.le_refl _) _).alloc (by simp) _).alloc (by simp; omega) _
  have q0 : Boxed wc w1.heap.size 64 (.slice pa len Ca) := by rw [hwc]; exact ((Boxed.new w1 64 _).alloc _).alloc _
  have q1 : Boxed wc (w1.heap.size + 1) 64 (.slice pd len Cd) := by
    have := (Boxed.new (w1.alloc (.cells #[.slice pa len Ca] 64)) 64 (.slice pd len Cd)).alloc (.cells #[.int .i64 len] 3)
    rw [← hwc, World.size_alloc] at this; exact this
  have q2 : Boxed wc (w1.heap.size + 1 + 1) 3 (.int .i64 len) := by
    have := Boxed.new ((w1.alloc (.cells #[.slice pa len Ca] 64)).alloc (.cells #[.slice pd len Cd] 64)) 3 (.int .i64 len)
    rw [← hwc, World.size_alloc, World.size_alloc] at this; exact this
  have q3 := box_below H1.out.2.2.2.1 b3
  clear hwc y5
  have HA : Hid ((As M n).length = len ∧ (Ds M n).length = len) := ⟨HW.out.2.2.1, HW.out.2.2.2⟩
  obtain ⟨B, hB⟩ : ∃ B, B = w1.heap.size := ⟨_, rfl⟩
  rw [← hB] at q0 q1 q2 b3 hsz1 hlo ⊢
  have H3 : Hid (Below B w1 wc ∧ B = w1.heap.size) := ⟨b3, hB⟩
  have HQ : Hid (Boxed wc B 64 (.slice pa len Ca) ∧ Boxed wc (B + 1) 64 (.slice pd len Cd) ∧ Boxed wc (B + 1 + 1) 3 (.int .i64 len) ∧ Boxed wc sB 3 (.int .i64 stop)) := ⟨q0, q1, q2, q3⟩
  have c2 := q2.cell
  have c2f := q2.frozen
  have c3 := q3.cell
  clear b3 hB q0 q1 q2 q3
  refine wp_seq_k ?_
  intro K hK
  go_cut [] from 22 to 29 (fun wd => Hid (Dt (B + 1 + 1) B (B + 1) sB pa pd Ca Cd w0.heap.size B (As M n) (Ds M n) (wnt stop len) stop wd ∧ Below B w1 wd))
  case first =>
    have hla : Lsc w0.heap.size B wc pa (As M n) := by
      have h1 := H1.out.2.2.2.2.1
      have h2 := H3.out
      rw [← h2.2] at h1
      rw [h2.2] at h2
      exact h1.below h2.1
    have hld : Lsc w0.heap.size B wc pd (Ds M n) := by
      have h1 := H1.out.2.2.2.2.2.1
      have h2 := H3.out
      rw [← h2.2] at h1
      rw [h2.2] at h2
      exact h1.below h2.1
    have HD : Hid (wnt stop len = len → Dt (B + 1 + 1) B (B + 1) sB pa pd Ca Cd w0.heap.size B (As M n) (Ds M n) (wnt stop len) stop wc) := fun e => by
      refine ⟨by rw [e]; exact HQ.out.2.2.1, by rw [HA.out.1]; exact HQ.out.1, by rw [HA.out.2]; exact HQ.out.2.1, HQ.out.2.2.2, hla, hld⟩
    have HE : Hid ((wnt stop len : Int) = stop → Dt (B + 1 + 1) B (B + 1) sB pa pd Ca Cd w0.heap.size B (As M n) (Ds M n) (wnt stop len) stop (wc.setCell ⟨B + 1 + 1, 0, none⟩ (.int .i64 stop)) ∧ Below B w1 (wc.setCell ⟨B + 1 + 1, 0, none⟩ (.int .i64 stop))) := fun e => by
      have t : Touch [B + 1 + 1] wc (wc.setCell ⟨B + 1 + 1, 0, none⟩ (.int .i64 stop)) := Touch.setCell _ _ _ (by simp)
      refine ⟨⟨by rw [e]; exact HQ.out.2.2.1.set _, box_touch (by rw [HA.out.1]; exact HQ.out.1) t (by simp <;> omega), box_touch (by rw [HA.out.2]; exact HQ.out.2.1) t (by simp <;> omega), box_touch HQ.out.2.2.2 t (by simp; omega), hla.touch t (by simp; omega), hld.touch t (by simp; omega)⟩, ?_⟩
      exact H3.out.1.setCell (by simp; omega) _
    clear hla hld
    by_cases e1 : 1 ≤ stop
    · by_cases e2 : stop < len
      · have hh := HE.out (by unfold wnt; rw [if_pos ⟨e1, e2⟩]; omega)
        have HH : Hid _ := hh
        clear HD HE hh
        go_wp2_with fail
        go_meet
        exact HH
      · have hh := HD.out (by unfold wnt; rw [if_neg (by omega)])
        have HH : Hid _ := hh
        have e2' : decide (stop < (len : Int)) = false := by simpa using e2
        clear HD HE hh
        go_wp2_with fail
        go_meet
        exact ⟨HH.out, H3.out.1⟩
    · have hh := HD.out (by unfold wnt; rw [if_neg (by omega)])
      have HH : Hid _ := hh
      have e2' : decide (1 ≤ stop) = false := by simpa using e1
      clear HD HE hh
      go_wp2_with fail
      go_meet
      exact ⟨HH.out, H3.out.1⟩
  case rest =>
  have hB1 := H3.out.2
  have bW : Below w1.heap.size w1 wc := by rw [← hB1]; exact hcut.out.2
  have hM4 := H1.out.2.1.below bW
  have hL4 := H1.out.2.2.1.below bW
  have hD4 : wc.rowIs d 47 4 (df b r vs vt) := H1.out.1.of_block (bW.block _ H1.out.1.lt)
  have d0 : wc.cell? ⟨d, 0, none⟩ = some (.pointer (some ⟨b, 0, none⟩)) := hD4.cell (i := 0) (by decide)
  have hRuns := Runs_any b g n M wc hM4
  have HS : Hid (Mp wc b g n M ∧ Laid wc ∧ Dt (B + 1 + 1) B (B + 1) sB pa pd Ca Cd w0.heap.size B (As M n) (Ds M n) (wnt stop len) stop wc ∧ Below sB w wc) := ⟨hM4, hL4, hcut.out.1, H1.out.2.2.2.2.2.2.trans (bW.mono (by omega))⟩
  have hszc : B + 1 + 1 < wc.heap.size := hcut.out.1.wb.lt
  clear hB1 bW hM4 hL4 hD4 hcut H3 HQ c2 c2f c3 H1
  apply hK
  clear hK
  go_wp2_with fail
  refine hRuns.mono ?_
  rintro e w5 ⟨rfl, hw5⟩
  have b5 : Below wc.heap.size wc w5 := by rw [hw5]; exact ((Below.alloc (Below.refl _ _) (Nat.le_refl _) _).alloc (by simp) _).alloc (by simp; omega) _
  have q0 : Boxed w5 wc.heap.size 31 (.pointer (some ⟨b, 0, none⟩)) := by rw [hw5]; exact ((Boxed.new wc 31 (.pointer (some ⟨b, 0, none⟩))).alloc _).alloc _
  have q1 : Boxed w5 (wc.heap.size + 1) 3 (.int .i64 0) := by
    have := (Boxed.new (wc.alloc (.cells #[.pointer (some ⟨b, 0, none⟩)] 31)) 3 (.int .i64 0)).alloc (.cells #[.int .i64 n] 3)
    rw [← hw5, World.size_alloc] at this; exact this
  have q2 : Boxed w5 (wc.heap.size + 1 + 1) 3 (.int .i64 n) := by
    have := Boxed.new ((wc.alloc (.cells #[.pointer (some ⟨b, 0, none⟩)] 31)).alloc (.cells #[.int .i64 0] 3)) 3 (.int .i64 n)
    rw [← hw5, World.size_alloc, World.size_alloc] at this; exact this
  obtain ⟨cm, hcm⟩ : ∃ cm, cm = wc.heap.size := ⟨_, rfl⟩
  rw [← hcm] at q0 q1 q2 hszc ⊢
  have hq2 := q2.lt
  have H5 : Hid (Boxed w5 cm 31 (.pointer (some ⟨b, 0, none⟩)) ∧ Boxed w5 (cm + 1) 3 (.int .i64 0) ∧ Boxed w5 (cm + 1 + 1) 3 (.int .i64 n) ∧ Mp w5 b g n M ∧ Laid w5 ∧ Dt (B + 1 + 1) B (B + 1) sB pa pd Ca Cd w0.heap.size B (As M n) (Ds M n) (wnt stop len) stop w5 ∧ Below sB w w5) :=
    ⟨q0, q1, q2, HS.out.1.below b5, HS.out.2.1.below b5, HS.out.2.2.1.below b5, HS.out.2.2.2.trans (b5.mono (by omega))⟩
  clear hRuns hw5 b5 q0 q1 q2 HS hcm d0
  have hnf := runs_not_nil cm (cm + 1) (cm + 1 + 1)
  go_wp2
  clear hnf
  go_loopw [9] (fun v wr => ∃ (j : Nat), v = .int .i64 j ∧ j ≤ 2 ∧ Hid (Below w5.heap.size w5 wr)) (fun v _ => 2 - (intOf v).toNat)
  case atStart => exact ⟨0, rfl, by omega, Below.refl _ _⟩
  case round =>
    obtain ⟨j, rfl, hj, hb⟩ := hrel
    by_cases hlt : j < 2
    · have hji : (j : Int) < 2 := by omega
      go_upto_region 13 with fail
      have hb' := hb.out
      obtain ⟨w6, hw6⟩ : ∃ w6, w6 = (wr.alloc (.cells #[.int .i64 0] 3)).alloc (.cells #[.bool true] 4) := ⟨_, rfl⟩
      have b6 : Below wr.heap.size wr w6 := by rw [hw6]; exact (Below.alloc (Below.refl _ _) (Nat.le_refl _) _).alloc (by simp) _
      have x0 : Boxed w6 wr.heap.size 3 (.int .i64 0) := by rw [hw6]; exact (Boxed.new wr 3 _).alloc _
      have x1 : Boxed w6 (wr.heap.size + 1) 4 (.bool true) := by
        have := Boxed.new (wr.alloc (.cells #[.int .i64 0] 3)) 4 (.bool true)
        rw [← hw6, World.size_alloc] at this; exact this
      rw [← hw6]
      obtain ⟨kB, hkB⟩ : ∃ kB, kB = wr.heap.size := ⟨_, rfl⟩
      have hk5 : w5.heap.size ≤ kB := by rw [hkB]; exact hb'.size
      have B6 : Below w5.heap.size w5 w6 := hb'.trans (b6.mono hb'.size)
      rw [← hkB] at x0 x1 ⊢
      have hdt := H5.out.2.2.2.2.2.1.below B6
      have hcall := druns_once b g n a0 cm (cm + 1) (cm + 1 + 1) M l HW.out.1 HW.out.2.1 w6 (H5.out.2.2.2.1.below B6) (H5.out.2.2.2.2.1.below B6) (box_below H5.out.1 B6).cell (box_below H5.out.2.1 B6).cell (box_below H5.out.2.2.1 B6).cell
        (kB + 1) kB (B + 1 + 1) B (B + 1) sB (by omega) (by omega) (by omega) (by omega) (by constructor <;> (simp; omega)) pa pd Ca Cd w0.heap.size B (by omega) (by omega) stop (by rw [← HLn.out]; exact hCa) (by rw [← HLn.out]; exact hCd)
        (by rw [← HLn.out]; exact ⟨x1, x0, hdt.wb, hdt.ab, hdt.nb, hdt.sb, hdt.la, hdt.ld⟩)
      rw [← HLn.out] at hcall
      generalize hwt : wnt stop len = wt at *
      have H6 : Hid (Below w5.heap.size w5 w6) := B6
      clear hb hb' hw6 b6 x0 x1 hkB B6 hdt hwt
      go_wp2_with fail
      refine hcall.mono ?_
      rintro e w7 ⟨rfl, t7, hJ7⟩
      have c0 := hJ7.ok.cell
      have c1 := hJ7.kb.cell
      have c2 := hJ7.wb.cell
      have H7 : Hid (Below w5.heap.size w5 w7) := H6.out.trans (t7.below H6.out.size (by simp; omega))
      clear hcall t7 hJ7 H6
      go_wp2
      go_roundw
      case rel => exact ⟨j + 1, by go_num, by omega, H7⟩
      case measure => simp [intOf]; omega
    · obtain rfl : j = 2 := by omega
      have hfin : Hid (Below sB w wr) := H5.out.2.2.2.2.2.2.trans (hb.out.mono (by omega))
      clear hb H5
      go_wp2
      go_ret
      exact ⟨rfl, by rw [← HsB.out]; exact hfin.out⟩
end Go.Proofs.YtlnfhnahnmblmabDoor
