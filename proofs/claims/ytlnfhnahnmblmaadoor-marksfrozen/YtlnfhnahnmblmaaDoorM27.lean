/-
  MarksFrozen, walked.
-/
import Derived.Test.YtlnfhnahnmblmaaDoorM26
set_option linter.unusedVariables false
set_option maxRecDepth 100000
namespace Go.Proofs.YtlnfhnahnmblmaaDoor
open Go.RowKit Go.Shelf

set_option maxHeartbeats 2000000 in
theorem frozen_no (ws : Int) (h : ws < 0 ∨ 8192 < ws) (v v2 : Value) (wh : Int) (hv : ∃ p L C, v2 = .slice p L C) (w : World) (hL : Laid w) :
    Calls Tryd.prog 5 #[.int .i64 ws, v, v2, .int .i64 wh] w fun r w' => r = .returned (.bool true) ∧ Below w.heap.size w w' := by
  obtain ⟨p, L, C, rfl⟩ := hv
  have b0 : Below w.heap.size w ((w.alloc (.cells #[.slice p L C] 22)).alloc (.cells #[.int .i64 wh] 3)) := (Below.alloc (Below.refl _ _) (Nat.le_refl _) _).alloc (by simp) _
  have hk := known_any _ (hL.below b0)
  go_enter Tryd.func5, Tryd.ntmps5
  go_wp2_with fail
  refine hk.mono ?_
  rintro r w1 ⟨rfl, b1⟩
  have hf := filled_out ws h v w1
  have b2 := b0.trans (b1.mono b0.size)
  clear hk b1 b0
  go_wp2_with fail
  refine hf.mono ?_
  rintro r w2 ⟨rfl, rfl⟩
  clear hf h
  go_wp2
  go_ret
  exact ⟨rfl, Below.alloc b2 b2.size _⟩

theorem Lst.td {w w' : World} {a : Option Addr} {l : List Int} (h : Lst w a l) (bel : Below w.heap.size w w') : Ltd w.heap.size w' a l := fun i u hu => by
  obtain ⟨h0, b, off, h1, h2, h3⟩ := h i u hu
  exact ⟨h0, b, off, h1, h2, (bel.cell h2).trans h3⟩

theorem run_store_func (P : Program) (w : World) (a : Addr) (m : Mode) (f : Fn) (x y : Array Value) : (store a (.func f x y) m).run P w = stored P w a (.func f x y) m := run_store P w a _ m rfl
attribute [local go_sem] run_store_func

set_option maxHeartbeats 4000000 in
theorem frozen_in (n : Nat) (hn : n ≤ 8192) (a a2 : Option Addr) (cap cap2 : Nat) (l l2 : List Int) (hlen : l.length ≤ 9223372036854775807) (hlen2 : l2.length ≤ 9223372036854775807) (wh : Int) (hwh : -9223372036854775808 ≤ wh ∧ wh ≤ 9223372036854775807) (w : World) (hL : Laid w) (hl : Lst w a l) (hl2 : Lst w a2 l2) :
    Calls Tryd.prog 5 #[.int .i64 n, .slice a l.length cap, .slice a2 l2.length cap2, .int .i64 wh] w fun r w' => r = .returned (.bool true) ∧ Below w.heap.size w w' := by
  obtain ⟨W0, hW0⟩ : ∃ W0, W0 = (w.alloc (.cells #[.slice a2 l2.length cap2] 22)).alloc (.cells #[.int .i64 wh] 3) := ⟨_, rfl⟩
  have b0 : Below w.heap.size w W0 := by rw [hW0]; exact (Below.alloc (Below.refl _ _) (Nat.le_refl _) _).alloc (by simp) _
  have o0 : Boxed W0 w.heap.size 22 (.slice a2 l2.length cap2) := by rw [hW0]; exact (Boxed.new w 22 _).alloc _
  have o1 : Boxed W0 (w.heap.size + 1) 3 (.int .i64 wh) := by
    have := Boxed.new (w.alloc (.cells #[.slice a2 l2.length cap2] 22)) 3 (.int .i64 wh)
    rw [← hW0, World.size_alloc] at this; exact this
  have hk := known_any W0 (hL.below b0)
  have HL : Hid (Laid w) := hL
  have Hl : Hid (Lst w a l ∧ Lst w a2 l2) := ⟨hl, hl2⟩
  have hgs := hL.size
  clear hL hl hl2
  go_enter Tryd.func5, Tryd.ntmps5
  go_upto_region 1 with fail
  rw [← hW0]
  have hsz0 : W0.heap.size = w.heap.size + 2 := by rw [hW0]; simp
  obtain ⟨D, hD⟩ : ∃ D, D = w.heap.size := ⟨_, rfl⟩
  rw [← hD] at o0 o1 hgs hsz0 ⊢
  have HD : Hid (D = w.heap.size) := hD
  clear hW0 hD
  go_wp2_with fail
  refine hk.mono ?_
  rintro r w1 ⟨rfl, b1⟩
  have b2 := b0.trans (b1.mono b0.size)
  have hf := filled_in n hn a cap l hlen w1 (HL.out.below b2) (Hl.out.1.below b2)
  have o0' := box_below o0 b1
  have o1' := box_below o1 b1
  have hs1 := b1.size
  clear hk b0 o0 o1 b1
  go_wp2_with fail
  refine hf.mono ?_
  rintro r w2 ⟨⟨b, g, rfl, hM, hgb, hgg⟩, b3⟩
  have b4 := b2.trans (b3.mono b2.size)
  have o0 := box_below o0' b3
  have o1 := box_below o1' b3
  generalize fil n (l.take 600) (fun _ => false) = M at hM
  have hbl := hM.own.lt
  have hgl := hM.row.lt
  clear hf b2 b3 o0' o1'
  go_upto_region 6 with fail
  obtain ⟨w3, hw3⟩ : ∃ w3, w3 = w2.alloc (.cells #[.pointer (some ⟨b, 0, none⟩)] 24) := ⟨_, rfl⟩
  have b23 : Below w2.heap.size w2 w3 := by rw [hw3]; exact Below.alloc (Below.refl _ _) (Nat.le_refl _) _
  have o2 : Boxed w3 w2.heap.size 24 (.pointer (some ⟨b, 0, none⟩)) := by rw [hw3]; exact Boxed.new w2 24 _
  rw [← hw3]
  obtain ⟨mB, hmB⟩ : ∃ mB, mB = w2.heap.size := ⟨_, rfl⟩
  have hs3 : w3.heap.size = mB + 1 := by rw [hw3, hmB]; simp
  rw [← hmB] at o2 hbl hgl ⊢
  have b5 := b4.trans (b23.mono b4.size)
  have hM3 := hM.below b23
  have p0 := box_below o0 b23
  have p1 := box_below o1 b23
  have hmD : D + 2 ≤ mB := by have := o1.lt; omega
  clear hw3 hmB b23 o0 o1 hM b4
  obtain ⟨a0, hs0⟩ := sk_ex M false n _ 0 rfl
  have ha0 := hs0.ge (Nat.zero_le _)
  obtain ⟨rl, hat⟩ := at_ex M n _ a0 rfl ha0.2 (fun h => by
    rcases hs0 with ⟨h1, _⟩ | ⟨_, _, h3, _⟩
    · omega
    · exact h3)
  have htw := two_each hat ha0.2
  have hpr := pairs_any b g n a0 hn M rl hs0 hat w3 hM3 (HL.out.below b5)
  have HA : Hid (Sk M false 0 n a0 ∧ At M n a0 rl) := ⟨hs0, hat⟩
  have km := o2.cell
  clear hs0 hat ha0
  go_wp2_with fail
  refine hpr.mono ?_
  rintro r w4 ⟨p, C, rfl, hC, hls, b6⟩
  have hls4 := hls.c
  clear hpr km hls
  have hM4 := hM3.below b6
  have p0' := box_below p0 b6
  have p1' := box_below p1 b6
  have p2' := box_below o2 b6
  have b7 := b5.trans (b6.mono b5.size)
  have hs4 := b6.size
  clear hM3 p0 p1 o2 b5 b6
  go_upto_region 7 with fail
  obtain ⟨W5, hW5⟩ : ∃ W5, W5 = w4.alloc (.cells #[.slice p (2 * rl.length) C] 22) := ⟨_, rfl⟩
  have b45 : Below w4.heap.size w4 W5 := by rw [hW5]; exact Below.alloc (Below.refl _ _) (Nat.le_refl _) _
  have q3 : Boxed W5 w4.heap.size 22 (.slice p (2 * rl.length) C) := by rw [hW5]; exact Boxed.new w4 22 _
  rw [← hW5]
  obtain ⟨wB, hwB⟩ : ∃ wB, wB = w4.heap.size := ⟨_, rfl⟩
  have hs5 : W5.heap.size = wB + 1 := by rw [hW5, hwB]; simp
  rw [← hwB] at q3 hls4 hs4 ⊢
  have b8 := b7.trans (b45.mono b7.size)
  have hM5 := hM4.below b45
  have u0 := box_below p0' b45
  have u1 := box_below p1' b45
  have u2 := box_below p2' b45
  have hls5 := hls4.below b45
  clear hW5 hwB b45 b7 hM4 p0' p1' p2' hls4
  have hRuns := Runs_any b g n M W5 hM5
  have km := u2.cell
  go_wp2_with fail
  refine hRuns.mono ?_
  rintro r w6 ⟨rfl, hw6⟩
  have b56 : Below W5.heap.size W5 w6 := by rw [hw6]; exact ((Below.alloc (Below.refl _ _) (Nat.le_refl _) _).alloc (by simp) _).alloc (by simp; omega) _
  have q0 : Boxed w6 W5.heap.size 24 (.pointer (some ⟨b, 0, none⟩)) := by rw [hw6]; exact ((Boxed.new W5 24 (.pointer (some ⟨b, 0, none⟩))).alloc _).alloc _
  have q1 : Boxed w6 (W5.heap.size + 1) 3 (.int .i64 0) := by
    have := (Boxed.new (W5.alloc (.cells #[.pointer (some ⟨b, 0, none⟩)] 24)) 3 (.int .i64 0)).alloc (.cells #[.int .i64 n] 3)
    rw [← hw6, World.size_alloc] at this; exact this
  have q2 : Boxed w6 (W5.heap.size + 1 + 1) 3 (.int .i64 n) := by
    have := Boxed.new ((W5.alloc (.cells #[.pointer (some ⟨b, 0, none⟩)] 24)).alloc (.cells #[.int .i64 0] 3)) 3 (.int .i64 n)
    rw [← hw6, World.size_alloc, World.size_alloc] at this; exact this
  have hs6 : w6.heap.size = wB + 4 := by rw [hw6]; simp; omega
  obtain ⟨cm, hcm⟩ : ∃ cm, cm = W5.heap.size := ⟨_, rfl⟩
  rw [← hcm] at q0 q1 q2 ⊢
  have hcw : cm = wB + 1 := by omega
  have b9 := b8.trans (b56.mono b8.size)
  have hM6 := hM5.below b56
  have v0 := box_below u0 b56
  have v1 := box_below u1 b56
  have v2 := box_below u2 b56
  have v3 := box_below q3 b56
  have hls6 := hls5.below b56
  have Hcw : Hid (cm = wB + 1) := hcw
  have Hs6 : Hid (w6.heap.size = wB + 4) := hs6
  clear hRuns km hw6 hcm b56 b8 hM5 u0 u1 u2 q3 hls5 hcw hs5 hs6
  go_upto_region 10 with fail
  obtain ⟨W8, hW8⟩ : ∃ W8, W8 = ((w6.alloc (.cells #[.func (.func 43) #[] #[.pointer (some ⟨cm, 0, none⟩), .pointer (some ⟨cm + 1, 0, none⟩), .pointer (some ⟨cm + 1 + 1, 0, none⟩)]] 40)).alloc (.cells #[.bool true] 4)).alloc (.cells #[.int .i64 0] 3) := ⟨_, rfl⟩
  have b68 : Below w6.heap.size w6 W8 := by rw [hW8]; exact ((Below.alloc (Below.refl _ _) (Nat.le_refl _) _).alloc (by simp) _).alloc (by simp; omega) _
  have x0 : Boxed W8 w6.heap.size 40 (.func (.func 43) #[] #[.pointer (some ⟨cm, 0, none⟩), .pointer (some ⟨cm + 1, 0, none⟩), .pointer (some ⟨cm + 1 + 1, 0, none⟩)]) := by rw [hW8]; exact ((Boxed.new w6 40 _).alloc _).alloc _
  have x1 : Boxed W8 (w6.heap.size + 1) 4 (.bool true) := by
    have := (Boxed.new (w6.alloc (.cells #[.func (.func 43) #[] #[.pointer (some ⟨cm, 0, none⟩), .pointer (some ⟨cm + 1, 0, none⟩), .pointer (some ⟨cm + 1 + 1, 0, none⟩)]] 40)) 4 (.bool true)).alloc (.cells #[.int .i64 0] 3)
    rw [← hW8, World.size_alloc] at this; exact this
  have x2 : Boxed W8 (w6.heap.size + 1 + 1) 3 (.int .i64 0) := by
    have := Boxed.new ((w6.alloc (.cells #[.func (.func 43) #[] #[.pointer (some ⟨cm, 0, none⟩), .pointer (some ⟨cm + 1, 0, none⟩), .pointer (some ⟨cm + 1 + 1, 0, none⟩)]] 40)).alloc (.cells #[.bool true] 4)) 3 (.int .i64 0)
    rw [← hW8, World.size_alloc, World.size_alloc] at this; exact this
  rw [← hW8]
  obtain ⟨sB, hsB⟩ : ∃ sB, sB = w6.heap.size := ⟨_, rfl⟩
  have hs6 := Hs6.out
  rw [← hsB] at x0 x1 x2 hs6 ⊢
  have b10 := b9.trans (b68.mono b9.size)
  have hlp : (prs rl).length = 2 * rl.length := prs_len rl
  obtain ⟨P, hP⟩ : ∃ P : Pl, P = { gB := sB + 1, nB := sB + 1 + 1, wB := wB, mB := mB, sB := sB, hB := D + 1, oB := D, b := b, g := g, n := n, cm := cm, cf := cm + 1, cb := cm + 1 + 1, C := C, lo := w3.heap.size, hi := wB, cap2 := cap2, D := D, wh := wh, p := p, a2 := a2, l2 := l2, ws := prs rl } := ⟨_, rfl⟩
  have hcw := Hcw.out
  have hDw := HD.out
  have hgD : D ≤ g ∧ D + 2 ≤ g ∧ D + 2 ≤ b := by omega
  have hbg := hM6.ne
  have hJ : Fj P 0 M W8 := by
    rw [hP]
    exact ⟨⟨x1, x2, by dsimp only; rw [hlp]; exact box_below v3 b68, hls6.below b68⟩, box_below v2 b68, x0, box_below v1 b68, box_below v0 b68, by dsimp only; rw [hDw]; exact Hl.out.2.td b10, hM6.below b68, HL.out.below b10, box_below q0 b68, box_below q1 b68, box_below q2 b68⟩
  have hO : Po P := by
    rw [hP]
    refine ⟨⟨?_, ?_, ?_, ?_, ?_, ?_, ?_, ?_, ?_, ?_, ?_, ?_, ?_⟩, ⟨?_, ?_, ?_, ?_, ?_, ?_, ?_, ?_, ?_, ?_, ?_, ?_, ?_⟩, ⟨?_, ?_, ?_, ?_, ?_, ?_, ?_, ?_, ?_, ?_, ?_, ?_, ?_⟩, ?_, ?_, ?_, hn, ?_, ?_, hlen2, hwh⟩ <;> dsimp only <;> omega
  have HJ : Hid (Fj P 0 M W8 ∧ Po P ∧ Below w.heap.size w W8) := ⟨hJ, hO, b10⟩
  have hcall := runs_call b g n 0 n a0 cm (cm + 1) (cm + 1 + 1) M rl (Nat.zero_le _) (Nat.le_refl _) HA.out.1 HA.out.2 W8 (hM6.below b68) (HL.out.below b10) (box_below q0 b68).cell (box_below q1 b68).cell (box_below q2 b68).cell
    23 #[.pointer (some ⟨sB + 1, 0, none⟩), .pointer (some ⟨sB + 1 + 1, 0, none⟩), .pointer (some ⟨wB, 0, none⟩), .pointer (some ⟨mB, 0, none⟩), .pointer (some ⟨sB, 0, none⟩), .pointer (some ⟨D + 1, 0, none⟩), .pointer (some ⟨D, 0, none⟩)]
    (fun F pre X => F = [sB + 1, sB + 1 + 1, g] ∧ ∃ M', Fj P pre.length M' X) (fun _ _ => False) (enters_of Tryd.func23 (by kernel_rfl) rfl)
    (fun F pre X h q hq => by
      obtain ⟨rfl, M', h⟩ := h
      have h1 := h.cj.gd.lt
      have h2 := h.cj.nb.lt
      have h3 := h.mp.row.lt
      rw [hP] at h1 h2 h3
      simp only [List.mem_cons, List.not_mem_nil, or_false] at hq
      dsimp only at h1 h2 h3
      omega)
    (fun F pre X X' h l => by
      obtain ⟨rfl, M', h⟩ := h
      exact ⟨rfl, M', h.below l⟩)
    (fun F pre x X h hp => by
      obtain ⟨rfl, M', h⟩ := h
      obtain ⟨p1, p2⟩ := prs_at hp
      have hpl := hp.length_le
      simp at hpl
      have hws : P.ws = prs rl := by rw [hP]
      have := frz1_any P hO pre.length (by omega) M' _ _ (by rw [hws]; exact p1) (by rw [hws]; exact p2) X h
      have e1 : P.gB = sB + 1 := by rw [hP]
      have e2 : P.nB = sB + 1 + 1 := by rw [hP]
      have e3 : P.wB = wB := by rw [hP]
      have e4 : P.mB = mB := by rw [hP]
      have e5 : P.sB = sB := by rw [hP]
      have e6 : P.hB = D + 1 := by rw [hP]
      have e7 : P.oB = D := by rw [hP]
      have e8 : P.g = g := by rw [hP]
      rw [e1, e2, e3, e4, e5, e6, e7, e8] at this
      exact this.mono (fun r X' ⟨t, h1, M3, h2⟩ => ⟨t, .inl ⟨h1, _, Newer.refl _ _, rfl, M3, by rw [List.length_append]; exact h2⟩⟩))
    [sB + 1, sB + 1 + 1, g] ⟨by simp; omega, by simp; omega, by simp; omega⟩ ⟨rfl, M, hJ⟩
  have ks := x0.cell
  have hl8 : sB + 1 + 1 < W8.heap.size := x2.lt
  have hdw : w.heap.size ≤ sB ∧ w.heap.size ≤ g := by omega
  have HP : Hid (P = { gB := sB + 1, nB := sB + 1 + 1, wB := wB, mB := mB, sB := sB, hB := D + 1, oB := D, b := b, g := g, n := n, cm := cm, cf := cm + 1, cb := cm + 1 + 1, C := C, lo := w3.heap.size, hi := wB, cap2 := cap2, D := D, wh := wh, p := p, a2 := a2, l2 := l2, ws := prs rl }) := hP
  have HsB : Hid (sB = wB + 4) := hs6
  clear hW8 hsB b68 x0 x1 x2 b10 hJ hO hcw hDw q0 q1 q2 hM6 v0 v1 v2 v3 hls6 b9 hP hs6
  go_wp2_with fail
  refine hcall.mono ?_
  rintro r w9 ⟨rfl, t9, ⟨F', -, hF, M2, hJ9⟩ | ⟨_, _, _, h⟩⟩
  rotate_left
  · exact h.elim
  have b11 := HJ.out.2.2.trans (t9.below HJ.out.2.2.size (by simp; omega))
  rw [HP.out] at hJ9
  have k1 := hJ9.cj.gd.cell
  have k2 := hJ9.cj.nb.cell
  have k3 := hJ9.cj.wb.cell
  have k4 := hJ9.ma.cell
  dsimp only at k1 k2 k3 k4
  rw [hlp] at k3
  obtain ⟨a1, hs1'⟩ := sk_ex M2 false n _ 0 rfl
  have ha1 := hs1'.ge (Nat.zero_le _)
  obtain ⟨rl2, hat2⟩ := at_ex M2 n _ a1 rfl ha1.2 (fun h => by
    rcases hs1' with ⟨h1, _⟩ | ⟨_, _, h3, _⟩
    · omega
    · exact h3)
  have htw2 := two_each hat2 ha1.2
  have hpr := pairs_any b g n a1 hn M2 rl2 hs1' hat2 w9 hJ9.mp hJ9.la
  have HA2 : Hid (Sk M2 false 0 n a1 ∧ At M2 n a1 rl2) := ⟨hs1', hat2⟩
  have H9 : Hid (Fj { gB := sB + 1, nB := sB + 1 + 1, wB := wB, mB := mB, sB := sB, hB := D + 1, oB := D, b := b, g := g, n := n, cm := cm, cf := cm + 1, cb := cm + 1 + 1, C := C, lo := w3.heap.size, hi := wB, cap2 := cap2, D := D, wh := wh, p := p, a2 := a2, l2 := l2, ws := prs rl } rl.length M2 w9 ∧ Below w.heap.size w w9) := ⟨hJ9, b11⟩
  have hw9 : wB < w9.heap.size ∧ sB + 1 + 1 < w9.heap.size := ⟨hJ9.cj.wb.lt, hJ9.cj.nb.lt⟩
  clear hcall hF t9 hJ9 hs1' hat2 ha1 ks hlp b11
  generalize 2 * rl.length = L1 at *
  go_upto_region 13 with fail
  clear k1 k2 k3
  go_wp2_with fail
  refine hpr.mono ?_
  rintro r w10 ⟨p2, C2, rfl, hC2, hls, b12⟩
  have hJ10 := H9.out.1.below b12
  have hls10 := hls.c
  have h910 : w9.heap.size ≤ w10.heap.size := b12.size
  have k1 := hJ10.cj.wb.cell
  have kf := hJ10.cj.wb.frozen
  have H10 : Hid (Fj { gB := sB + 1, nB := sB + 1 + 1, wB := wB, mB := mB, sB := sB, hB := D + 1, oB := D, b := b, g := g, n := n, cm := cm, cf := cm + 1, cb := cm + 1 + 1, C := C, lo := w3.heap.size, hi := wB, cap2 := cap2, D := D, wh := wh, p := p, a2 := a2, l2 := l2, ws := prs rl } rl.length M2 w10 ∧ Below w.heap.size w w10 ∧ Lsc w9.heap.size w10.heap.size w10 p2 (prs rl2)) := ⟨hJ10, H9.out.2.trans (b12.mono H9.out.2.size), hls10⟩
  dsimp only at k1 kf
  clear hpr k4 hls H9 b12 hJ10 hls10
  go_upto_region 14 with fail
  obtain ⟨w11, hw11⟩ : ∃ w11, w11 = w10.setCell ⟨wB, 0, none⟩ (.slice p2 (2 * rl2.length) C2) := ⟨_, rfl⟩
  rw [← hw11]
  have n2 := HsB.out
  have t11 : Touch [wB] w10 w11 := by rw [hw11]; exact Touch.setCell _ _ _ (by simp)
  have y0 : Boxed w11 wB 22 (.slice p2 (2 * rl2.length) C2) := by rw [hw11]; exact H10.out.1.cj.wb.set _
  have y1 : Boxed w11 (sB + 1 + 1) 3 (.int .i64 (2 * rl.length : Nat)) := box_touch H10.out.1.cj.nb t11 (by simp; omega)
  have k2 := y1.cell
  have kf2 := y1.frozen
  clear hw11 k1 kf n2
  generalize 2 * rl.length = L1' at *
  go_upto_region 15 with fail
  obtain ⟨w12, hw12⟩ : ∃ w12, w12 = w11.setCell ⟨sB + 1 + 1, 0, none⟩ (.int .i64 0) := ⟨_, rfl⟩
  rw [← hw12]
  have n1 := Hcw.out
  have n2 := HsB.out
  have t12 : Touch [sB + 1 + 1] w11 w12 := by rw [hw12]; exact Touch.setCell _ _ _ (by simp)
  have z0 : Boxed w12 wB 22 (.slice p2 (2 * rl2.length) C2) := box_touch y0 t12 (by simp; omega)
  have z1 : Boxed w12 (sB + 1 + 1) 3 (.int .i64 0) := by rw [hw12]; exact y1.set _
  have tt : Touch [wB, sB + 1 + 1] w10 w12 := (t11.wide (by simp)).trans (t12.wide (by simp))
  obtain ⟨hJ10, b13, hls10⟩ := H10.out
  have hlp2 : (prs rl2).length = 2 * rl2.length := prs_len rl2
  have hM12 := hJ10.mp.touch tt (by simp; omega) (by simp; omega)
  have hL12 := hJ10.la.touch tt (by simp; omega) (by simp; omega)
  have c1 := box_touch hJ10.c1 tt (by simp; omega)
  have c2 := box_touch hJ10.c2 tt (by simp; omega)
  have c3 := box_touch hJ10.c3 tt (by simp; omega)
  have c4 := box_touch hJ10.cj.gd tt (by simp; omega)
  have c5 := box_touch hJ10.sq tt (by simp; omega)
  dsimp only at hM12 c1 c2 c3 c4 c5
  have hcj2 : Cj (sB + 1) (sB + 1 + 1) wB p2 C2 w9.heap.size w10.heap.size (prs rl2) 0 w12 := ⟨c4, z1, by rw [hlp2]; exact z0, hls10.touch tt (by simp; omega)⟩
  have hcall2 := runs_call b g n 0 n a1 cm (cm + 1) (cm + 1 + 1) M2 rl2 (Nat.zero_le _) (Nat.le_refl _) HA2.out.1 HA2.out.2 w12 hM12 hL12 c1.cell c2.cell c3.cell
    25 #[.pointer (some ⟨sB + 1, 0, none⟩), .pointer (some ⟨sB + 1 + 1, 0, none⟩), .pointer (some ⟨wB, 0, none⟩)]
    (fun F pre X => F = [sB + 1, sB + 1 + 1] ∧ Cj (sB + 1) (sB + 1 + 1) wB p2 C2 w9.heap.size w10.heap.size (prs rl2) pre.length X) (fun _ _ => False) (enters_of Tryd.func25 (by kernel_rfl) rfl)
    (fun F pre X h q hq => by
      obtain ⟨rfl, h⟩ := h
      have h1 := h.gd.lt
      have h2 := h.nb.lt
      simp only [List.mem_cons, List.not_mem_nil, or_false] at hq
      omega)
    (fun F pre X X' h l => ⟨h.1, h.2.below l⟩)
    (fun F pre x X h hp => by
      obtain ⟨rfl, h⟩ := h
      obtain ⟨p3, p4⟩ := prs_at hp
      have hpl := hp.length_le
      simp at hpl
      have := frz2_any (sB + 1) (sB + 1 + 1) wB (by omega) (by omega) (by omega) p2 C2 w9.heap.size w10.heap.size (.inl (by omega)) (.inl (by omega)) (prs rl2) pre.length (by omega) _ _ p3 p4 (by rw [hlp2]; exact hC2) (by omega) X h
      exact this.mono (fun r X' ⟨t, h1, h2⟩ => ⟨t, .inl ⟨h1, _, Newer.refl _ _, rfl, by rw [List.length_append]; exact h2⟩⟩))
    [sB + 1, sB + 1 + 1] ⟨by simp; omega, by simp, by simp; omega⟩ ⟨rfl, hcj2⟩
  have ks := c5.cell
  have hd2 := HD.out
  have B12 : Hid (Below w.heap.size w w12) := b13.trans (tt.below b13.size (by simp; omega))
  clear hw12 t11 t12 y0 y1 z0 z1 tt hJ10 b13 hls10 hM12 hL12 c1 c2 c3 c4 c5 hcj2 k2 kf2 n1 n2 hd2 H10
  go_wp2_with fail
  refine hcall2.mono ?_
  rintro r w13 ⟨rfl, t13, ⟨F', -, hF, hC13⟩ | ⟨_, _, _, h⟩⟩
  rotate_left
  · exact h.elim
  have b14 := B12.out.trans (t13.below B12.out.size (by simp; omega))
  have k1 := hC13.gd.cell
  have k2 := hC13.nb.cell
  have k3 := hC13.wb.cell
  rw [hlp2] at k3
  clear hcall2 hF hC13 t13 ks hlp2
  generalize 2 * rl2.length = L2 at *
  go_wp2
  go_ret
  exact ⟨by simp, b14⟩

theorem frozen_any (ws : Int) (a a2 : Option Addr) (cap cap2 : Nat) (l l2 : List Int) (hlen : l.length ≤ 9223372036854775807) (hlen2 : l2.length ≤ 9223372036854775807) (wh : Int) (hwh : -9223372036854775808 ≤ wh ∧ wh ≤ 9223372036854775807) (w : World) (hL : Laid w) (hl : Lst w a l) (hl2 : Lst w a2 l2) :
    Calls Tryd.prog 5 #[.int .i64 ws, .slice a l.length cap, .slice a2 l2.length cap2, .int .i64 wh] w fun r w' => r = .returned (.bool true) ∧ Below w.heap.size w w' := by
  by_cases h : ws < 0 ∨ 8192 < ws
  · exact frozen_no ws h _ _ wh ⟨_, _, _, rfl⟩ w hL
  · obtain ⟨n, rfl⟩ := Int.eq_ofNat_of_zero_le (show 0 ≤ ws by omega)
    exact frozen_in n (by omega) a a2 cap cap2 l l2 hlen hlen2 wh hwh w hL hl hl2
end Go.Proofs.YtlnfhnahnmblmaaDoor
