/-
  held says yes.
-/
import Derived.Test.YtbdkcelggffneaaDoorHVa
set_option linter.unusedVariables false
set_option maxRecDepth 20000
namespace Go.Proofs.YtbdkcelggffneaaDoor
open Go.RowKit Go.Shelf

set_option maxHeartbeats 16000000 in
theorem held_core (b : Nat) (a0 : Option Addr) (cap : Nat) (th : List Tng) (hlen : th.length ≤ 1000) (w : World) (hT : Tgs w a0 th) (hps : ∀ (i : Nat) T, th[i]? = some T → T.ps.length ≤ 1000000 ∧ T.rs.length ≤ 1000000)
    (OB : ∀ (s : Nat) w1, 1 ≤ s → s ≤ 4 → Below w.heap.size w w1 → Calls Tryd.prog 27 #[.pointer (some ⟨b, 0, none⟩), .int .i64 s, .int .i64 0, .int .i64 ((th.length : Int) + 1)] w1 fun e w' => ∃ tb, e = .returned (.tuple #[.pointer (some ⟨tb, 0, none⟩), .bool true]) ∧ Tok w' tb (th.filter (inS s)) ∧ Below w1.heap.size w1 w')
    (PT : ∀ (i : Nat) T (f : Nat) z w1, th[i]? = some T → T.ps[f]? = some z → Below w.heap.size w w1 → Calls Tryd.prog 41 #[.pointer (some ⟨b, 0, none⟩), .int .i64 T.at_, .int .i64 f] w1 fun e w' => e = .returned (.tuple #[.int .i64 z, .bool true]) ∧ Below w1.heap.size w1 w')
    (RW : ∀ (i : Nat) T (f : Nat) z w1, th[i]? = some T → T.rs[f]? = some z → Below w.heap.size w w1 → Calls Tryd.prog 42 #[.pointer (some ⟨b, 0, none⟩), .int .i64 T.at_, .int .i64 f] w1 fun e w' => e = .returned (.tuple #[.int .u64 z, .bool true]) ∧ Below w1.heap.size w1 w')
    (CK : ∀ w1, Below w.heap.size w w1 → Calls Tryd.prog 43 #[.pointer (some ⟨b, 0, none⟩)] w1 fun e w' => e = .returned (.tuple #[.int .i64 0, .int .i64 0]) ∧ Below w1.heap.size w1 w') :
    Calls Tryd.prog 24 #[.pointer (some ⟨b, 0, none⟩), .slice a0 th.length cap] w fun e w' => e = .returned (.bool true) ∧ Below w.heap.size w w' := by
  have HT : Hid (Tgs w a0 th) := hT
  have HPS : Hid (∀ (i : Nat) T, th[i]? = some T → T.ps.length ≤ 1000000 ∧ T.rs.length ≤ 1000000) := hps
  have HOB : Hid (∀ (s : Nat) w1, 1 ≤ s → s ≤ 4 → Below w.heap.size w w1 → Calls Tryd.prog 27 #[.pointer (some ⟨b, 0, none⟩), .int .i64 s, .int .i64 0, .int .i64 ((th.length : Int) + 1)] w1 fun e w' => ∃ tb, e = .returned (.tuple #[.pointer (some ⟨tb, 0, none⟩), .bool true]) ∧ Tok w' tb (th.filter (inS s)) ∧ Below w1.heap.size w1 w') := OB
  have HPT : Hid (∀ (i : Nat) T (f : Nat) z w1, th[i]? = some T → T.ps[f]? = some z → Below w.heap.size w w1 → Calls Tryd.prog 41 #[.pointer (some ⟨b, 0, none⟩), .int .i64 T.at_, .int .i64 f] w1 fun e w' => e = .returned (.tuple #[.int .i64 z, .bool true]) ∧ Below w1.heap.size w1 w') := PT
  have HRW : Hid (∀ (i : Nat) T (f : Nat) z w1, th[i]? = some T → T.rs[f]? = some z → Below w.heap.size w w1 → Calls Tryd.prog 42 #[.pointer (some ⟨b, 0, none⟩), .int .i64 T.at_, .int .i64 f] w1 fun e w' => e = .returned (.tuple #[.int .u64 z, .bool true]) ∧ Below w1.heap.size w1 w') := RW
  have HCK : Hid (∀ w1, Below w.heap.size w w1 → Calls Tryd.prog 43 #[.pointer (some ⟨b, 0, none⟩)] w1 fun e w' => e = .returned (.tuple #[.int .i64 0, .int .i64 0]) ∧ Below w1.heap.size w1 w') := CK
  clear hT hps OB PT RW CK
  have B0 : Hid (Below w.heap.size w w) := Below.refl _ _
  go_enter Tryd.func24, Tryd.ntmps24
  go_wp2
  go_loopw [5] (fun v wr => ∃ s : Nat, 1 ≤ s ∧ s ≤ 5 ∧ v = .int .i64 s ∧ Hid (Below w.heap.size w wr)) (fun v _ => 5 - (intOf v).toNat)
  case atStart => exact ⟨1, by decide, by decide, rfl, B0⟩
  case round =>
    obtain ⟨s, s1, s5, rfl, bl⟩ := hrel
    clear B0
    by_cases h4 : s ≤ 4
    · have h4i : (s : Int) ≤ 4 := by omega
      have hob := HOB.out s wr s1 h4 bl.out
      go_wp2_with fail
      refine hob.mono ?_
      rintro e w1 ⟨tb, rfl, k1, l1⟩
      have HK : Hid (Tok w1 tb (th.filter (inS s))) := k1
      have B1 : Hid (Below w.heap.size w w1) := bl.out.trans (l1.mono bl.out.size)
      have HFl : Hid ((th.filter (inS s)).length ≤ th.length) := List.length_filter_le _ _
      clear hob k1 l1 bl
      have B2 : Hid (Below w1.heap.size w1 w1) := Below.refl _ _
      go_wp2
      go_loopw [8, 9] (fun v8 v9 w2 => ∃ i : Nat, i ≤ th.length ∧ v9 = .int .i64 i ∧ v8 = .int .i64 ((th.take i).filter (inS s)).length ∧ Hid (Below w1.heap.size w1 w2)) (fun _ v9 _ => th.length - (intOf v9).toNat)
      case atStart => exact ⟨0, Nat.zero_le _, rfl, rfl, B2⟩
      case round =>
        obtain ⟨i, hi, rfl, rfl, b2⟩ := hrel
        clear B2
        by_cases hlt : i < th.length
        · obtain ⟨T, hTi⟩ : ∃ T, th[i]? = some T := ⟨_, List.getElem?_eq_getElem hlt⟩
          have hli : (i : Int) < (th.length : Int) := by omega
          have bw := B1.out.trans (b2.out.mono B1.out.size)
          obtain ⟨ga, rfl, -, hc⟩ := (HT.out.below bw).cell i T hTi
          have t1 : wr.cell? ⟨ga, i * 11 + 1, none⟩ = some (.int .i64 T.sp) := hc 1 (by decide)
          by_cases hsp : T.sp = (s : Int)
          · obtain ⟨hfa, hfb⟩ := filter_at (inS s) th i T hTi (by simpa [inS] using hsp)
            have kk := HK.out.below b2.out
            obtain ⟨a1, c1, u0, x1⟩ := kk.t0
            obtain ⟨q2, rfl, u1⟩ := x1 _ T hfa
            obtain ⟨q3, m3, u2, x3⟩ := kk.t1 _ T hfa
            have hkl := (List.getElem?_eq_some_iff.1 hfa).1
            have Hfb : Hid (((th.take (i + 1)).filter (inS s)).length = ((th.take i).filter (inS s)).length + 1) := hfb
            have hfl := HFl.out
            clear x1 kk bw hfa hfb hTi
            rw [hsp] at t1
            have t0 : wr.cell? ⟨ga, i * 11, none⟩ = some (.int .i64 T.at_) := hc 0 (by decide)
            have t2 : wr.cell? ⟨ga, i * 11 + 2, none⟩ = some (.int .u64 T.s) := hc 2 (by decide)
            have t3 : wr.cell? ⟨ga, i * 11 + 3, none⟩ = some (.int .i64 T.k) := hc 3 (by decide)
            have t4 : wr.cell? ⟨ga, i * 11 + 4, none⟩ = some (.int .i64 T.p) := hc 4 (by decide)
            have t5 : wr.cell? ⟨ga, i * 11 + 5, none⟩ = some (.int .i64 T.r) := hc 5 (by decide)
            have t6 : wr.cell? ⟨ga, i * 11 + 6, none⟩ = some (.int .i64 T.a) := hc 6 (by decide)
            have t7 : wr.cell? ⟨ga, i * 11 + 7, none⟩ = some (.int .i64 T.t) := hc 7 (by decide)
            have t8 : wr.cell? ⟨ga, i * 11 + 8, none⟩ = some (.bool T.h) := hc 8 (by decide)
            have Hk : Hid (((th.take i).filter (inS s)).length < (th.filter (inS s)).length) := hkl
            obtain ⟨K, hK⟩ : ∃ K, K = ((th.take i).filter (inS s)).length := ⟨_, rfl⟩
            rw [← hK] at u1 x3 hkl Hfb ⊢
            obtain ⟨LL, hLL⟩ : ∃ LL, LL = (th.filter (inS s)).length := ⟨_, rfl⟩
            rw [← hLL] at u0 u2 hkl hfl
            have hklI : (K : Int) < (LL : Int) := by omega
            have hge : decide ((LL : Int) ≤ (K : Int)) = false := decide_eq_false (by omega)
            have hgn : decide (LL ≤ K) = false := decide_eq_false (by omega)
            have hgm : decide (K < LL) = true := decide_eq_true (by omega)
            have n0 : wr.cell? ⟨q3, K * 7, none⟩ = some (.int .u64 T.s) := x3 0 (by decide)
            have n1 : wr.cell? ⟨q3, K * 7 + 1, none⟩ = some (.int .i64 T.k) := x3 1 (by decide)
            have n2 : wr.cell? ⟨q3, K * 7 + 2, none⟩ = some (.int .i64 T.p) := x3 2 (by decide)
            have n3 : wr.cell? ⟨q3, K * 7 + 3, none⟩ = some (.int .i64 T.r) := x3 3 (by decide)
            have n4 : wr.cell? ⟨q3, K * 7 + 4, none⟩ = some (.int .i64 T.a) := x3 4 (by decide)
            have n5 : wr.cell? ⟨q3, K * 7 + 5, none⟩ = some (.int .i64 T.t) := x3 5 (by decide)
            have n6 : wr.cell? ⟨q3, K * 7 + 6, none⟩ = some (.bool T.h) := x3 6 (by decide)
            have HE : Hid (K = ((th.take i).filter (inS s)).length) := hK
            clear x3 hc hsp hLL hK
            have hsame := sameHead_same T.s T.k T.p T.r T.a T.t T.h
            generalize T.at_ = z0, T.s = z1, T.k = z2, T.p = z3, T.r = z4, T.a = z5, T.t = z6, T.h = z7 at t0 t2 t3 t4 t5 t6 t7 t8 u1 n0 n1 n2 n3 n4 n5 n6 hsame
            go_upto_region 12 with fail
            refine quiet_tail 35 mixed (by kernel_rfl) ?_
            simp only [List.take_succ_cons, List.take_zero, List.drop_succ_cons, List.drop_zero]
            repeat (go_big_quiet_step (fail))
            refine wpQuiet_nil ?_
            clear t0 t1 t2 t3 t4 t5 t6 t7 t8 n0 n1 n2 n3 n4 n5 n6 u0 u1 u2
            go_wp2_with fail
            refine (hsame _).mono ?_
            rintro e w7 ⟨rfl, b7⟩
            have b8 : Hid (Below w1.heap.size w1 w7) := b2.out.trans ((Below.trans (below_drewN (Below.refl _ _) 1) b7).mono b2.out.size)
            clear b7 b2 hsame
            go_wp2
            go_roundw
            case rel => exact ⟨i + 1, hlt, by go_num, by rw [Hfb.out]; go_num, b8⟩
            case measure => simp [intOf]; omega
          · have hne : (T.sp == (s : Int)) = false := by simpa using hsp
            have Hfn : Hid (((th.take (i + 1)).filter (inS s)).length = ((th.take i).filter (inS s)).length) := filter_no (inS s) th i T hTi (by simpa [inS] using hsp)
            clear hc hTi bw
            generalize T.sp = tsp at *
            go_wp2
            go_roundw
            case rel => exact ⟨i + 1, hlt, by go_num, by rw [Hfn.out], b2⟩
            case measure => simp [intOf]; omega
        · obtain rfl : i = th.length := by omega
          have kk := HK.out.below b2.out
          obtain ⟨a1, c1, u0, -⟩ := kk.t0
          have B3 : Hid (Below w.heap.size w wr) := B1.out.trans (b2.out.mono B1.out.size)
          clear kk b2
          rw [List.take_length]
          generalize (th.filter (inS s)).length = LL at *
          go_wp2
          go_roundw
          case rel => exact ⟨s + 1, by omega, by omega, by go_num, B3⟩
          case measure => simp [intOf]; omega
    · obtain rfl : s = 5 := by omega
      clear HOB
      go_wp2
      go_loopw [10] (fun v w1 => ∃ i : Nat, i ≤ th.length ∧ v = .int .i64 i ∧ Hid (Below w.heap.size w w1)) (fun v _ => th.length - (intOf v).toNat)
      case atStart => exact ⟨0, Nat.zero_le _, rfl, bl⟩
      case round =>
        obtain ⟨i, hi, rfl, b1⟩ := hrel
        clear bl
        by_cases hlt : i < th.length
        · obtain ⟨T, hTi⟩ : ∃ T, th[i]? = some T := ⟨_, List.getElem?_eq_getElem hlt⟩
          have hli : (i : Int) < (th.length : Int) := by omega
          obtain ⟨ga, rfl, -, hc⟩ := (HT.out.below b1.out).cell i T hTi
          have t0 : wr.cell? ⟨ga, i * 11, none⟩ = some (.int .i64 T.at_) := hc 0 (by decide)
          have t1 : wr.cell? ⟨ga, i * 11 + 1, none⟩ = some (.int .i64 T.sp) := hc 1 (by decide)
          have t2 : wr.cell? ⟨ga, i * 11 + 2, none⟩ = some (.int .u64 T.s) := hc 2 (by decide)
          have t3 : wr.cell? ⟨ga, i * 11 + 3, none⟩ = some (.int .i64 T.k) := hc 3 (by decide)
          have t4 : wr.cell? ⟨ga, i * 11 + 4, none⟩ = some (.int .i64 T.p) := hc 4 (by decide)
          have t5 : wr.cell? ⟨ga, i * 11 + 5, none⟩ = some (.int .i64 T.r) := hc 5 (by decide)
          have t6 : wr.cell? ⟨ga, i * 11 + 6, none⟩ = some (.int .i64 T.a) := hc 6 (by decide)
          have t7 : wr.cell? ⟨ga, i * 11 + 7, none⟩ = some (.int .i64 T.t) := hc 7 (by decide)
          have t8 : wr.cell? ⟨ga, i * 11 + 8, none⟩ = some (.bool T.h) := hc 8 (by decide)
          have t9 : wr.cell? ⟨ga, i * 11 + 9, none⟩ = some (.slice (some ⟨T.gp, 0, none⟩) T.ps.length T.ps.length) := hc 9 (by decide)
          have t10 : wr.cell? ⟨ga, i * 11 + 10, none⟩ = some (.slice (some ⟨T.gr, 0, none⟩) T.rs.length T.rs.length) := hc 10 (by decide)
          have HTi : Hid (th[i]? = some T) := hTi
          obtain ⟨hp1, hp2⟩ := HPS.out i T hTi
          clear hc hTi
          have lb : Below wr.heap.size wr (wr.alloc (.cells T.cells 81)) := Below.alloc (Below.refl _ _) (Nat.le_refl _) _
          have tc : Tc (wr.alloc (.cells T.cells 81)) wr.heap.size T.cells := ⟨heap_alloc_new _ _⟩
          have BV : Hid (Below w.heap.size w (wr.alloc (.cells T.cells 81))) := b1.out.trans (lb.mono b1.out.size)
          go_upto_region 21 with fail
          clear t0 t1 t2 t3 t4 t5 t6 t7 t8 t9 t10 lb b1
          obtain ⟨bx, hbx⟩ : ∃ bx, bx = wr.heap.size := ⟨_, rfl⟩
          obtain ⟨v, hv⟩ : ∃ v, v = wr.alloc (.cells T.cells 81) := ⟨_, rfl⟩
          have HTc : Hid (Tc v bx T.cells) := by rw [hv, hbx]; exact tc
          have HBV : Hid (Below w.heap.size w v) := by rw [hv]; exact BV.out
          rw [← hbx, ← hv]
          clear tc BV hbx hv
          have BB : Hid (Below v.heap.size v v) := Below.refl _ _
          go_wp2
          go_loopw [12] (fun v' w2 => ∃ f : Nat, f ≤ T.ps.length ∧ v' = .int .i64 f ∧ Hid (Below v.heap.size v w2)) (fun v' _ => T.ps.length - (intOf v').toNat)
          case atStart => exact ⟨0, Nat.zero_le _, rfl, BB⟩
          case round =>
            obtain ⟨f, hf, rfl, b2⟩ := hrel
            clear BB
            have y9 : wr.cell? ⟨bx, 9, none⟩ = some (.slice (some ⟨T.gp, 0, none⟩) T.ps.length T.ps.length) := (b2.out.cell (p := ⟨bx, 9, none⟩) HTc.out.lt).trans (HTc.out.cell 9)
            by_cases hfl : f < T.ps.length
            · obtain ⟨z, hz⟩ : ∃ z, T.ps[f]? = some z := ⟨_, List.getElem?_eq_getElem hfl⟩
              have hfi : (f : Int) < (T.ps.length : Int) := by omega
              have y0 : wr.cell? ⟨bx, 0, none⟩ = some (.int .i64 T.at_) := (b2.out.cell (p := ⟨bx, 0, none⟩) HTc.out.lt).trans (HTc.out.cell 0)
              have bw : Below w.heap.size w wr := HBV.out.trans (b2.out.mono HBV.out.size)
              have hpt := HPT.out i T f z wr HTi.out hz bw
              have yz : wr.cell? ⟨T.gp, f, none⟩ = some (.int .i64 z) := (HT.out.below bw).ps i T HTi.out f z hz
              have Hy : Hid (wr.cell? ⟨T.gp, f, none⟩ = some (.int .i64 z) ∧ wr.cell? ⟨bx, 9, none⟩ = some (.slice (some ⟨T.gp, 0, none⟩) T.ps.length T.ps.length)) := ⟨yz, y9⟩
              clear hz bw yz
              go_wp2_with fail
              refine hpt.mono ?_
              rintro e w5 ⟨rfl, l5⟩
              have yz : w5.cell? ⟨T.gp, f, none⟩ = some (.int .i64 z) := (l5.cell (World.block_lt_of_cell? _ _ Hy.out.1)).trans Hy.out.1
              have z9 : w5.cell? ⟨bx, 9, none⟩ = some (.slice (some ⟨T.gp, 0, none⟩) T.ps.length T.ps.length) := (l5.cell (World.block_lt_of_cell? _ _ Hy.out.2)).trans Hy.out.2
              have b5 : Hid (Below v.heap.size v w5) := b2.out.trans (l5.mono b2.out.size)
              clear hpt y0 y9 Hy l5 b2
              go_wp2
              refine ⟨?relx, ?measure⟩
              case relx =>
                repeat apply Exists.intro
                exact ⟨⟨f + 1, hfl, by go_num, b5⟩, rfl⟩
              case measure => simp [intOf]; omega
            · obtain rfl : f = T.ps.length := by omega
              go_wp2
              clear y9
              go_loopw [15] (fun v' w2 => ∃ f : Nat, f ≤ T.rs.length ∧ v' = .int .i64 f ∧ Hid (Below v.heap.size v w2)) (fun v' _ => T.rs.length - (intOf v').toNat)
              case atStart => exact ⟨0, Nat.zero_le _, rfl, b2⟩
              case round =>
                obtain ⟨f, hf2, rfl, b3⟩ := hrel
                clear b2
                have y10 : wr.cell? ⟨bx, 10, none⟩ = some (.slice (some ⟨T.gr, 0, none⟩) T.rs.length T.rs.length) := (b3.out.cell (p := ⟨bx, 10, none⟩) HTc.out.lt).trans (HTc.out.cell 10)
                by_cases hfl2 : f < T.rs.length
                · obtain ⟨z, hz⟩ : ∃ z, T.rs[f]? = some z := ⟨_, List.getElem?_eq_getElem hfl2⟩
                  have hfi : (f : Int) < (T.rs.length : Int) := by omega
                  have y0 : wr.cell? ⟨bx, 0, none⟩ = some (.int .i64 T.at_) := (b3.out.cell (p := ⟨bx, 0, none⟩) HTc.out.lt).trans (HTc.out.cell 0)
                  have bw : Below w.heap.size w wr := HBV.out.trans (b3.out.mono HBV.out.size)
                  have hpt := HRW.out i T f z wr HTi.out hz bw
                  have yz : wr.cell? ⟨T.gr, f, none⟩ = some (.int .u64 z) := (HT.out.below bw).rs i T HTi.out f z hz
                  have Hy : Hid (wr.cell? ⟨T.gr, f, none⟩ = some (.int .u64 z) ∧ wr.cell? ⟨bx, 10, none⟩ = some (.slice (some ⟨T.gr, 0, none⟩) T.rs.length T.rs.length)) := ⟨yz, y10⟩
                  clear hz bw yz
                  go_wp2_with fail
                  refine hpt.mono ?_
                  rintro e w5 ⟨rfl, l5⟩
                  have yz : w5.cell? ⟨T.gr, f, none⟩ = some (.int .u64 z) := (l5.cell (World.block_lt_of_cell? _ _ Hy.out.1)).trans Hy.out.1
                  have z10 : w5.cell? ⟨bx, 10, none⟩ = some (.slice (some ⟨T.gr, 0, none⟩) T.rs.length T.rs.length) := (l5.cell (World.block_lt_of_cell? _ _ Hy.out.2)).trans Hy.out.2
                  have b5 : Hid (Below v.heap.size v w5) := b3.out.trans (l5.mono b3.out.size)
                  clear hpt y0 y10 Hy l5 b3
                  go_wp2
                  refine ⟨?relx, ?measure⟩
                  case relx =>
                    repeat apply Exists.intro
                    exact ⟨⟨f + 1, hfl2, by go_num, b5⟩, rfl⟩
                  case measure => simp [intOf]; omega
                · obtain rfl : f = T.rs.length := by omega
                  have B9 : Hid (Below w.heap.size w wr) := HBV.out.trans (b3.out.mono HBV.out.size)
                  clear b3
                  go_wp2
                  go_roundw
                  case rel => exact ⟨i + 1, hlt, by go_num, B9⟩
                  case measure => simp [intOf]; omega
        · obtain rfl : i = th.length := by omega
          have hck := HCK.out wr b1.out
          go_wp2_with fail
          refine hck.mono ?_
          rintro e w5 ⟨rfl, l5⟩
          have b5 : Hid (Below w.heap.size w w5) := b1.out.trans (l5.mono b1.out.size)
          clear hck l5 b1
          go_wp2
          go_ret
          exact ⟨rfl, b5.out⟩

end Go.Proofs.YtbdkcelggffneaaDoor
