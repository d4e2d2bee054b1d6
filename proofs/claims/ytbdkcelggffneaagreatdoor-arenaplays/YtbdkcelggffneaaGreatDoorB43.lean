/-
  ArenaPlays: the script.
-/
import Derived.Test.YtbdkcelggffneaaGreatDoorB42
set_option linter.unusedVariables false
set_option maxRecDepth 20000
namespace Go.Proofs.YtbdkcelggffneaaGreatDoor
open Go.RowKit Go.Shelf

/-- What a step's numbers keep to. -/
def Opg.In (o : Opg) : Prop := Wd o.s ∧ Wd o.u ∧ -9223372036854775808 ≤ o.at_ ∧ o.at_ ≤ 9223372036854775807

/-- A script that came in, in blocks below n0. -/
def LOps3 (n0 : Nat) (w : World) (a : Option Addr) (ops : List Opg) : Prop := ∀ (i : Nat) (o : Opg), ops[i]? = some o → o.In ∧ ∃ g off, a = some ⟨g, off, none⟩ ∧ g < n0 ∧ ∀ j, j < 14 → w.cell? ⟨g, off + i * 14 + j, none⟩ = o.cells[j]?

theorem LOps3.below {n0 : Nat} {w w' : World} {a : Option Addr} {ops : List Opg} (h : LOps3 n0 w a ops) (hb : Below n0 w w') : LOps3 n0 w' a ops := fun i o ho => by
  obtain ⟨hA, g, off, e, hg, c0⟩ := h i o ho
  exact ⟨hA, g, off, e, hg, fun j hj => (hb.cell (p := ⟨g, off + i * 14 + j, none⟩) hg).trans (c0 j hj)⟩

set_option maxHeartbeats 8000000 in
theorem plays3_any (c d : Cfg) (a0 : Option Addr) (cap : Nat) (ops : List Opg) (hlen : ops.length ≤ 9223372036854775807) (w : World) (hL : Laid w) (ho : LOps3 w.heap.size w a0 ops) :
    Calls Tryz.prog 3 #[cv c, cv d, .slice a0 ops.length cap] w fun e w' => e = .returned (.bool true) ∧ Below w.heap.size w w' := by
  have l0 : Hid (Below w.heap.size w ((w.alloc (.cells (ccells c) 23)).alloc (.cells (ccells d) 23))) := Below.alloc (Below.alloc (Below.refl _ _) (Nat.le_refl _) _) (by simp) _
  have f0 : Cfd ((w.alloc (.cells (ccells c) 23)).alloc (.cells (ccells d) 23)) w.heap.size c := (Cfd.new w c).below (Below.alloc (Below.refl _ _) (Nat.le_refl _) _)
  have g0 : Cfd ((w.alloc (.cells (ccells c) 23)).alloc (.cells (ccells d) 23)) (w.heap.size + 1) d := by
    have := Cfd.new (w.alloc (.cells (ccells c) 23)) d
    rw [show (w.alloc (.cells (ccells c) 23)).heap.size = w.heap.size + 1 by simp] at this
    exact this
  have HL : Hid (Laid w) := hL
  have HO : Hid (LOps3 w.heap.size w a0 ops) := ho
  have HB0 : Hid (1 < w.heap.size ∧ 0 < w.heap.size) := ⟨hL.lt0, hL.lt1⟩
  clear hL ho
  go_enter Tryz.func3, Tryz.ntmps3
  go_upto_region 1 with fail
  generalize (w.alloc (.cells (ccells c) 23)).alloc (.cells (ccells d) 23) = v at *
  have k0 : v.cell? ⟨w.heap.size, 0, none⟩ = some (.int .i64 c.eden) := f0.cell 0
  have k1 : v.cell? ⟨w.heap.size, 1, none⟩ = some (.int .i64 c.surv) := f0.cell 1
  have k2 : v.cell? ⟨w.heap.size, 2, none⟩ = some (.int .i64 c.ten) := f0.cell 2
  have k3 : v.cell? ⟨w.heap.size, 3, none⟩ = some (.int .i64 c.large) := f0.cell 3
  have k4 : v.cell? ⟨w.heap.size, 4, none⟩ = some (.int .i64 c.floor) := f0.cell 4
  have k5 : v.cell? ⟨w.heap.size, 5, none⟩ = some (.int .i64 c.num) := f0.cell 5
  have k6 : v.cell? ⟨w.heap.size, 6, none⟩ = some (.int .i64 c.den) := f0.cell 6
  have k7 : v.cell? ⟨w.heap.size, 7, none⟩ = some (.int .i64 c.target) := f0.cell 7
  have k8 : v.cell? ⟨w.heap.size, 8, none⟩ = some (.int .i64 c.maxAge) := f0.cell 8
  have k9 : v.cell? ⟨w.heap.size, 9, none⟩ = some (.int .i64 c.threads) := f0.cell 9
  have k10 : v.cell? ⟨w.heap.size, 10, none⟩ = some (.int .i64 c.slots) := f0.cell 10
  have k11 : v.cell? ⟨w.heap.size, 11, none⟩ = some (.int .i64 c.handles) := f0.cell 11
  have k12 : v.cell? ⟨w.heap.size, 12, none⟩ = some (.int .i64 c.buffer) := f0.cell 12
  have k13 : v.cell? ⟨w.heap.size, 13, none⟩ = some (.int .i64 c.workers) := f0.cell 13
  go_wp2_with fail
  refine (begin_sd c HB0.out l0.out.size (HL.out.keep l0.out)).mono ?_
  rintro e w1 ⟨p1, F1, rfl, s1, -, l1⟩
  clear k0 k1 k2 k3 k4 k5 k6 k7 k8 k9 k10 k11 k12 k13
  have g1 := g0.below l1
  have L1 : Hid (Below w.heap.size w w1) := l0.out.trans (l1.mono l0.out.size)
  have S1 : Hid (Sd w1 w.heap.size p1 F1) := s1
  clear l1 l0 f0 g0 s1
  generalize w.heap.size + 1 = bd at *
  have k0 : w1.cell? ⟨bd, 0, none⟩ = some (.int .i64 d.eden) := g1.cell 0
  have k1 : w1.cell? ⟨bd, 1, none⟩ = some (.int .i64 d.surv) := g1.cell 1
  have k2 : w1.cell? ⟨bd, 2, none⟩ = some (.int .i64 d.ten) := g1.cell 2
  have k3 : w1.cell? ⟨bd, 3, none⟩ = some (.int .i64 d.large) := g1.cell 3
  have k4 : w1.cell? ⟨bd, 4, none⟩ = some (.int .i64 d.floor) := g1.cell 4
  have k5 : w1.cell? ⟨bd, 5, none⟩ = some (.int .i64 d.num) := g1.cell 5
  have k6 : w1.cell? ⟨bd, 6, none⟩ = some (.int .i64 d.den) := g1.cell 6
  have k7 : w1.cell? ⟨bd, 7, none⟩ = some (.int .i64 d.target) := g1.cell 7
  have k8 : w1.cell? ⟨bd, 8, none⟩ = some (.int .i64 d.maxAge) := g1.cell 8
  have k9 : w1.cell? ⟨bd, 9, none⟩ = some (.int .i64 d.threads) := g1.cell 9
  have k10 : w1.cell? ⟨bd, 10, none⟩ = some (.int .i64 d.slots) := g1.cell 10
  have k11 : w1.cell? ⟨bd, 11, none⟩ = some (.int .i64 d.handles) := g1.cell 11
  have k12 : w1.cell? ⟨bd, 12, none⟩ = some (.int .i64 d.buffer) := g1.cell 12
  have k13 : w1.cell? ⟨bd, 13, none⟩ = some (.int .i64 d.workers) := g1.cell 13
  go_wp2_with fail
  refine (begin_sd d HB0.out L1.out.size (HL.out.keep L1.out)).mono ?_
  rintro e w2 ⟨p2, F2, rfl, s2, hf2, l2⟩
  clear k0 k1 k2 k3 k4 k5 k6 k7 k8 k9 k10 k11 k12 k13
  have L2 : Hid (Below w.heap.size w w2) := L1.out.trans (l2.mono L1.out.size)
  have T2 : Hid (Two w w2 p1 p2) := Two.new (S1.out.below l2) s2 (fun q hq => (S1.out.mem q hq).2) hf2 L2.out
  clear l2 g1 s2 hf2 S1 L1
  go_wp2_with fail
  refine (known3_any w2 (HL.out.keep L2.out)).mono ?_
  rintro e w3 ⟨rfl, l3⟩
  have T3 : Hid (Two w w3 p1 p2) := T2.out.below l3
  clear l3 L2 T2 HB0
  go_wp2
  go_loopw [11] (fun v wr => ∃ k : Nat, v = .int .i64 k ∧ k ≤ ops.length ∧ Hid (Two w wr p1 p2)) (fun v _ => ops.length - (intOf v).toNat)
  case atStart => exact ⟨0, rfl, Nat.zero_le _, T3⟩
  case round =>
    obtain ⟨k, rfl, hk, hd⟩ := hrel
    clear T3
    by_cases hlt : k < ops.length
    · have hki : (k : Int) < (ops.length : Int) := by omega
      have hkm : (k : Int) < 9223372036854775807 := by omega
      obtain ⟨o, ho⟩ : ∃ o, ops[k]? = some o := ⟨_, List.getElem?_eq_getElem hlt⟩
      obtain ⟨hIn, g0, off, rfl, hg, cs⟩ := (HO.out.below hd.out.be) k o ho
      have HIn : Hid o.In := hIn
      clear ho hIn
      have c1 : wr.cell? ⟨g0, off + k * 14 + 1, none⟩ = some (.int .i64 o.f1) := cs 1 (by decide)
      have HC : Hid (∀ j, j < 14 → wr.cell? ⟨g0, off + k * 14 + j, none⟩ = o.cells[j]?) := cs
      clear cs
      by_cases hf : o.f1 = 1
      · rw [hf] at c1
        rcases hd.out.swap.got with q2 | ⟨a2, q2⟩
        · generalize ops.length = ll at *
          go_wp2
          go_roundw
          case rel => exact ⟨k + 1, by go_num, by omega, hd⟩
          case measure => simp [intOf]; omega
        · have hc := Two.step o HIn.out.1 HIn.out.2.1 HIn.out.2.2 hd.out.swap q2
          have c0 : wr.cell? ⟨g0, off + k * 14, none⟩ = some (.int .i64 o.k) := HC.out 0 (by decide)
          have c2 : wr.cell? ⟨g0, off + k * 14 + 2, none⟩ = some (.int .i64 o.sp) := HC.out 2 (by decide)
          have c3 : wr.cell? ⟨g0, off + k * 14 + 3, none⟩ = some (.int .i64 o.at_) := HC.out 3 (by decide)
          have c4 : wr.cell? ⟨g0, off + k * 14 + 4, none⟩ = some (.int .i64 o.i) := HC.out 4 (by decide)
          have c5 : wr.cell? ⟨g0, off + k * 14 + 5, none⟩ = some (.int .i64 o.n) := HC.out 5 (by decide)
          have c6 : wr.cell? ⟨g0, off + k * 14 + 6, none⟩ = some (.int .u64 o.u) := HC.out 6 (by decide)
          have c7 : wr.cell? ⟨g0, off + k * 14 + 7, none⟩ = some (.int .u64 o.s) := HC.out 7 (by decide)
          have c8 : wr.cell? ⟨g0, off + k * 14 + 8, none⟩ = some (.int .i64 o.hk) := HC.out 8 (by decide)
          have c9 : wr.cell? ⟨g0, off + k * 14 + 9, none⟩ = some (.int .i64 o.p) := HC.out 9 (by decide)
          have c10 : wr.cell? ⟨g0, off + k * 14 + 10, none⟩ = some (.int .i64 o.r) := HC.out 10 (by decide)
          have c11 : wr.cell? ⟨g0, off + k * 14 + 11, none⟩ = some (.int .i64 o.ag) := HC.out 11 (by decide)
          have c12 : wr.cell? ⟨g0, off + k * 14 + 12, none⟩ = some (.int .i64 o.t) := HC.out 12 (by decide)
          have c13 : wr.cell? ⟨g0, off + k * 14 + 13, none⟩ = some (.bool o.h) := HC.out 13 (by decide)
          simp only [Opg.val, Opg.cells] at hc
          rw [hf] at hc
          clear HC
          generalize o.k = x0, o.sp = x2, o.at_ = x3, o.i = x4, o.n = x5, o.u = x6, o.s = x7, o.hk = x8, o.p = x9, o.r = x10, o.ag = x11, o.t = x12, o.h = x13 at *
          clear hd
          generalize ops.length = ll at *
          go_wp2_with fail
          refine hc.mono ?_
          rintro e w5 ⟨rfl, t5⟩
          have T5 : Hid (Two w w5 p1 p2) := t5.swap
          clear hc t5 c0 c1 c2 c3 c4 c5 c6 c7 c8 c9 c10 c11 c12 c13 q2
          go_wp2
          go_roundw
          case rel => exact ⟨k + 1, by go_num, by omega, T5⟩
          case measure => simp [intOf]; omega
      · have hf1 : (o.f1 == 1) = false := by simpa using hf
        rcases hd.out.got with q2 | ⟨a2, q2⟩
        · generalize ops.length = ll at *
          generalize o.f1 = ff at *
          go_wp2
          go_roundw
          case rel => exact ⟨k + 1, by go_num, by omega, hd⟩
          case measure => simp [intOf]; omega
        · have hc := Two.step o HIn.out.1 HIn.out.2.1 HIn.out.2.2 hd.out q2
          have c0 : wr.cell? ⟨g0, off + k * 14, none⟩ = some (.int .i64 o.k) := HC.out 0 (by decide)
          have c2 : wr.cell? ⟨g0, off + k * 14 + 2, none⟩ = some (.int .i64 o.sp) := HC.out 2 (by decide)
          have c3 : wr.cell? ⟨g0, off + k * 14 + 3, none⟩ = some (.int .i64 o.at_) := HC.out 3 (by decide)
          have c4 : wr.cell? ⟨g0, off + k * 14 + 4, none⟩ = some (.int .i64 o.i) := HC.out 4 (by decide)
          have c5 : wr.cell? ⟨g0, off + k * 14 + 5, none⟩ = some (.int .i64 o.n) := HC.out 5 (by decide)
          have c6 : wr.cell? ⟨g0, off + k * 14 + 6, none⟩ = some (.int .u64 o.u) := HC.out 6 (by decide)
          have c7 : wr.cell? ⟨g0, off + k * 14 + 7, none⟩ = some (.int .u64 o.s) := HC.out 7 (by decide)
          have c8 : wr.cell? ⟨g0, off + k * 14 + 8, none⟩ = some (.int .i64 o.hk) := HC.out 8 (by decide)
          have c9 : wr.cell? ⟨g0, off + k * 14 + 9, none⟩ = some (.int .i64 o.p) := HC.out 9 (by decide)
          have c10 : wr.cell? ⟨g0, off + k * 14 + 10, none⟩ = some (.int .i64 o.r) := HC.out 10 (by decide)
          have c11 : wr.cell? ⟨g0, off + k * 14 + 11, none⟩ = some (.int .i64 o.ag) := HC.out 11 (by decide)
          have c12 : wr.cell? ⟨g0, off + k * 14 + 12, none⟩ = some (.int .i64 o.t) := HC.out 12 (by decide)
          have c13 : wr.cell? ⟨g0, off + k * 14 + 13, none⟩ = some (.bool o.h) := HC.out 13 (by decide)
          simp only [Opg.val, Opg.cells] at hc
          clear HC
          generalize o.k = x0, o.f1 = x1, o.sp = x2, o.at_ = x3, o.i = x4, o.n = x5, o.u = x6, o.s = x7, o.hk = x8, o.p = x9, o.r = x10, o.ag = x11, o.t = x12, o.h = x13 at *
          clear hd
          generalize ops.length = ll at *
          go_wp2_with fail
          refine hc.mono ?_
          rintro e w5 ⟨rfl, t5⟩
          have T5 : Hid (Two w w5 p1 p2) := t5
          clear hc t5 c0 c1 c2 c3 c4 c5 c6 c7 c8 c9 c10 c11 c12 c13 q2
          go_wp2
          go_roundw
          case rel => exact ⟨k + 1, by go_num, by omega, T5⟩
          case measure => simp [intOf]; omega
    · obtain rfl : k = ops.length := by omega
      clear HO hlt hk
      rcases hd.out.got with q1 | ⟨a1, q1⟩
      · rcases hd.out.swap.got with q2 | ⟨a2, q2⟩
        · go_wp2
          go_ret
          exact ⟨rfl, hd.out.be⟩
        · have hc := hd.out.swap.whole q2
          clear hd
          go_wp2_with fail
          refine hc.mono ?_
          rintro e w5 ⟨rfl, t5⟩
          have T5 : Hid (Below w.heap.size w w5) := t5.be
          clear hc t5 q1 q2
          go_wp2
          go_ret
          exact ⟨rfl, T5.out⟩
      · have hc := hd.out.whole q1
        clear hd
        go_wp2_with fail
        refine hc.mono ?_
        rintro e w5 ⟨rfl, t5⟩
        have T5 : Hid (Two w w5 p1 p2) := t5
        clear hc t5 q1
        rcases T5.out.swap.got with q2 | ⟨a2, q2⟩
        · go_wp2
          go_ret
          exact ⟨rfl, T5.out.be⟩
        · have hc := T5.out.swap.whole q2
          clear T5
          go_wp2_with fail
          refine hc.mono ?_
          rintro e w6 ⟨rfl, t6⟩
          have T6 : Hid (Below w.heap.size w w6) := t6.be
          clear hc t6 q2
          go_wp2
          go_ret
          exact ⟨rfl, T6.out⟩

end Go.Proofs.YtbdkcelggffneaaGreatDoor
