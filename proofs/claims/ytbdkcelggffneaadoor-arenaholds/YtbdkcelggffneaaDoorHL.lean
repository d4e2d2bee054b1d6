/-
  ArenaHolds: the loop.
-/
import Derived.Test.YtbdkcelggffneaaDoorHJ
import Derived.Test.YtbdkcelggffneaaDoorA17
set_option linter.unusedVariables false
set_option maxRecDepth 20000
namespace Go.Proofs.YtbdkcelggffneaaDoor
open Go.RowKit Go.Shelf

/-- One thing to do. -/
structure DoG where
  K : Int
  S : Int
  N : Int
  B : Int
  C : Int
  W : Int
  s : Int
  k : Int
  p : Int
  r : Int
  a : Int
  t : Int
  h : Bool

abbrev DoG.cells (o : DoG) : Array Value := dcells o.K o.S o.N o.B o.C o.W o.s o.k o.p o.r o.a o.t o.h
def DoG.In (o : DoG) : Prop := (-9223372036854775808 ≤ o.N ∧ o.N ≤ 9223372036854775807) ∧ (-9223372036854775808 ≤ o.C ∧ o.C ≤ 9223372036854775807) ∧ Wd o.s ∧ Wd o.W

def LDos (n0 : Nat) (w : World) (a : Option Addr) (ops : List DoG) : Prop := ∀ (i : Nat) (o : DoG), ops[i]? = some o → o.In ∧ ∃ g off, a = some ⟨g, off, none⟩ ∧ g < n0 ∧ ∀ j, j < 13 → w.cell? ⟨g, off + i * 13 + j, none⟩ = o.cells[j]?

theorem LDos.below {n0 : Nat} {w w' : World} {a : Option Addr} {ops : List DoG} (h : LDos n0 w a ops) (hb : Below n0 w w') : LDos n0 w' a ops := fun i o ho => by
  obtain ⟨hA, g, off, e, hg, c0⟩ := h i o ho
  exact ⟨hA, g, off, e, hg, fun j hj => (hb.cell (p := ⟨g, off + i * 13 + j, none⟩) hg).trans (c0 j hj)⟩

set_option maxHeartbeats 4000000 in
theorem holds_no (c : Cfg) (hc : ¬ c.Ok) (lv : Value) (w : World) (hL : Laid w) :
    Calls Tryd.prog 4 #[cv c, lv] w fun e w' => e = .returned (.bool true) ∧ Below w.heap.size w w' := by
  have b0 : Below w.heap.size w (w.alloc (.cells (ccells c) 23)) := Below.alloc (Below.refl _ _) (Nat.le_refl _) _
  have f0 := Cfd.new w c
  have hk := known3_any _ (hL.keep b0)
  clear hL
  go_enter Tryd.func4, Tryd.ntmps4
  go_wp2_with fail
  refine hk.mono ?_
  rintro e w1 ⟨rfl, b1⟩
  have f1 := f0.below b1
  have B1 : Hid (Below w.heap.size w w1) := b0.trans (b1.mono b0.size)
  clear hk b0 b1 f0
  have k0 : w1.cell? ⟨w.heap.size, 0, none⟩ = some (.int .i64 c.eden) := f1.cell 0
  have k1 : w1.cell? ⟨w.heap.size, 1, none⟩ = some (.int .i64 c.surv) := f1.cell 1
  have k2 : w1.cell? ⟨w.heap.size, 2, none⟩ = some (.int .i64 c.ten) := f1.cell 2
  have k3 : w1.cell? ⟨w.heap.size, 3, none⟩ = some (.int .i64 c.large) := f1.cell 3
  have k4 : w1.cell? ⟨w.heap.size, 4, none⟩ = some (.int .i64 c.floor) := f1.cell 4
  have k5 : w1.cell? ⟨w.heap.size, 5, none⟩ = some (.int .i64 c.num) := f1.cell 5
  have k6 : w1.cell? ⟨w.heap.size, 6, none⟩ = some (.int .i64 c.den) := f1.cell 6
  have k7 : w1.cell? ⟨w.heap.size, 7, none⟩ = some (.int .i64 c.target) := f1.cell 7
  have k8 : w1.cell? ⟨w.heap.size, 8, none⟩ = some (.int .i64 c.maxAge) := f1.cell 8
  have k9 : w1.cell? ⟨w.heap.size, 9, none⟩ = some (.int .i64 c.threads) := f1.cell 9
  have k10 : w1.cell? ⟨w.heap.size, 10, none⟩ = some (.int .i64 c.slots) := f1.cell 10
  have k11 : w1.cell? ⟨w.heap.size, 11, none⟩ = some (.int .i64 c.handles) := f1.cell 11
  have k12 : w1.cell? ⟨w.heap.size, 12, none⟩ = some (.int .i64 c.buffer) := f1.cell 12
  have k13 : w1.cell? ⟨w.heap.size, 13, none⟩ = some (.int .i64 c.workers) := f1.cell 13
  go_wp2_with fail
  refine (valid_any c false (by simp [hc]) w1).mono ?_
  rintro e w2 ⟨rfl, l2⟩
  clear k0 k1 k2 k3 k4 k5 k6 k7 k8 k9 k10 k11 k12 k13
  have f2 := f1.below l2
  have B2 : Hid (Below w.heap.size w w2) := B1.out.trans (l2.mono B1.out.size)
  clear f1 l2 B1
  have k0 : w2.cell? ⟨w.heap.size, 0, none⟩ = some (.int .i64 c.eden) := f2.cell 0
  have k1 : w2.cell? ⟨w.heap.size, 1, none⟩ = some (.int .i64 c.surv) := f2.cell 1
  have k2 : w2.cell? ⟨w.heap.size, 2, none⟩ = some (.int .i64 c.ten) := f2.cell 2
  have k3 : w2.cell? ⟨w.heap.size, 3, none⟩ = some (.int .i64 c.large) := f2.cell 3
  have k4 : w2.cell? ⟨w.heap.size, 4, none⟩ = some (.int .i64 c.floor) := f2.cell 4
  have k5 : w2.cell? ⟨w.heap.size, 5, none⟩ = some (.int .i64 c.num) := f2.cell 5
  have k6 : w2.cell? ⟨w.heap.size, 6, none⟩ = some (.int .i64 c.den) := f2.cell 6
  have k7 : w2.cell? ⟨w.heap.size, 7, none⟩ = some (.int .i64 c.target) := f2.cell 7
  have k8 : w2.cell? ⟨w.heap.size, 8, none⟩ = some (.int .i64 c.maxAge) := f2.cell 8
  have k9 : w2.cell? ⟨w.heap.size, 9, none⟩ = some (.int .i64 c.threads) := f2.cell 9
  have k10 : w2.cell? ⟨w.heap.size, 10, none⟩ = some (.int .i64 c.slots) := f2.cell 10
  have k11 : w2.cell? ⟨w.heap.size, 11, none⟩ = some (.int .i64 c.handles) := f2.cell 11
  have k12 : w2.cell? ⟨w.heap.size, 12, none⟩ = some (.int .i64 c.buffer) := f2.cell 12
  have k13 : w2.cell? ⟨w.heap.size, 13, none⟩ = some (.int .i64 c.workers) := f2.cell 13
  go_wp2_with fail
  refine (new_no c hc w2).mono ?_
  rintro e w3 ⟨rfl, l3⟩
  clear k0 k1 k2 k3 k4 k5 k6 k7 k8 k9 k10 k11 k12 k13
  have B3 : Hid (Below w.heap.size w w3) := B2.out.trans (l3.mono B2.out.size)
  clear f2 l3 B2
  go_wp2
  go_ret
  exact ⟨rfl, B3.out⟩

set_option maxHeartbeats 16000000 in
theorem holds_yes (c : Cfg) (hc : c.Ok) (a0 : Option Addr) (cap : Nat) (ops : List DoG) (hlen : ops.length ≤ 9223372036854775807) (w : World) (hL : Laid w) (ho : LDos w.heap.size w a0 ops) :
    Calls Tryd.prog 4 #[cv c, .slice a0 ops.length cap] w fun e w' => e = .returned (.bool true) ∧ Below w.heap.size w w' := by
  have b0 : Below w.heap.size w (w.alloc (.cells (ccells c) 23)) := Below.alloc (Below.refl _ _) (Nat.le_refl _) _
  have f0 := Cfd.new w c
  have hk := known3_any _ (hL.keep b0)
  have HL : Hid (Laid w) := hL
  have HO : Hid (LDos w.heap.size w a0 ops) := ho
  have HTB : Hid (1 < w.heap.size ∧ 0 < w.heap.size) := ⟨hL.lt0, hL.lt1⟩
  clear hL ho
  go_enter Tryd.func4, Tryd.ntmps4
  go_wp2_with fail
  refine hk.mono ?_
  rintro e w1 ⟨rfl, b1⟩
  have f1 := f0.below b1
  have B1 : Hid (Below w.heap.size w w1) := b0.trans (b1.mono b0.size)
  clear hk b0 b1 f0
  have k0 : w1.cell? ⟨w.heap.size, 0, none⟩ = some (.int .i64 c.eden) := f1.cell 0
  have k1 : w1.cell? ⟨w.heap.size, 1, none⟩ = some (.int .i64 c.surv) := f1.cell 1
  have k2 : w1.cell? ⟨w.heap.size, 2, none⟩ = some (.int .i64 c.ten) := f1.cell 2
  have k3 : w1.cell? ⟨w.heap.size, 3, none⟩ = some (.int .i64 c.large) := f1.cell 3
  have k4 : w1.cell? ⟨w.heap.size, 4, none⟩ = some (.int .i64 c.floor) := f1.cell 4
  have k5 : w1.cell? ⟨w.heap.size, 5, none⟩ = some (.int .i64 c.num) := f1.cell 5
  have k6 : w1.cell? ⟨w.heap.size, 6, none⟩ = some (.int .i64 c.den) := f1.cell 6
  have k7 : w1.cell? ⟨w.heap.size, 7, none⟩ = some (.int .i64 c.target) := f1.cell 7
  have k8 : w1.cell? ⟨w.heap.size, 8, none⟩ = some (.int .i64 c.maxAge) := f1.cell 8
  have k9 : w1.cell? ⟨w.heap.size, 9, none⟩ = some (.int .i64 c.threads) := f1.cell 9
  have k10 : w1.cell? ⟨w.heap.size, 10, none⟩ = some (.int .i64 c.slots) := f1.cell 10
  have k11 : w1.cell? ⟨w.heap.size, 11, none⟩ = some (.int .i64 c.handles) := f1.cell 11
  have k12 : w1.cell? ⟨w.heap.size, 12, none⟩ = some (.int .i64 c.buffer) := f1.cell 12
  have k13 : w1.cell? ⟨w.heap.size, 13, none⟩ = some (.int .i64 c.workers) := f1.cell 13
  go_wp2_with fail
  refine (valid_any c true (by simp [hc]) w1).mono ?_
  rintro e w2 ⟨rfl, l2⟩
  clear k0 k1 k2 k3 k4 k5 k6 k7 k8 k9 k10 k11 k12 k13
  have f2 := f1.below l2
  have B2 : Hid (Below w.heap.size w w2) := B1.out.trans (l2.mono B1.out.size)
  clear f1 l2 B1
  have k0 : w2.cell? ⟨w.heap.size, 0, none⟩ = some (.int .i64 c.eden) := f2.cell 0
  have k1 : w2.cell? ⟨w.heap.size, 1, none⟩ = some (.int .i64 c.surv) := f2.cell 1
  have k2 : w2.cell? ⟨w.heap.size, 2, none⟩ = some (.int .i64 c.ten) := f2.cell 2
  have k3 : w2.cell? ⟨w.heap.size, 3, none⟩ = some (.int .i64 c.large) := f2.cell 3
  have k4 : w2.cell? ⟨w.heap.size, 4, none⟩ = some (.int .i64 c.floor) := f2.cell 4
  have k5 : w2.cell? ⟨w.heap.size, 5, none⟩ = some (.int .i64 c.num) := f2.cell 5
  have k6 : w2.cell? ⟨w.heap.size, 6, none⟩ = some (.int .i64 c.den) := f2.cell 6
  have k7 : w2.cell? ⟨w.heap.size, 7, none⟩ = some (.int .i64 c.target) := f2.cell 7
  have k8 : w2.cell? ⟨w.heap.size, 8, none⟩ = some (.int .i64 c.maxAge) := f2.cell 8
  have k9 : w2.cell? ⟨w.heap.size, 9, none⟩ = some (.int .i64 c.threads) := f2.cell 9
  have k10 : w2.cell? ⟨w.heap.size, 10, none⟩ = some (.int .i64 c.slots) := f2.cell 10
  have k11 : w2.cell? ⟨w.heap.size, 11, none⟩ = some (.int .i64 c.handles) := f2.cell 11
  have k12 : w2.cell? ⟨w.heap.size, 12, none⟩ = some (.int .i64 c.buffer) := f2.cell 12
  have k13 : w2.cell? ⟨w.heap.size, 13, none⟩ = some (.int .i64 c.workers) := f2.cell 13
  go_wp2_with fail
  refine (new_yes c hc w2).mono ?_
  rintro e w3 ⟨b, g, rfl, A3, l3, hb3, hg3⟩
  clear k0 k1 k2 k3 k4 k5 k6 k7 k8 k9 k10 k11 k12 k13
  have B3 : Below w.heap.size w w3 := B2.out.trans (l3.mono B2.out.size)
  have I3 : Hid (Iq w w3 b g c (tops0 c) false (fun _ => 0) (.slice none 0 0) []) := ⟨A3, HL.out.keep B3, Mh.nil _ _ _, Hld.nil (fun s => by unfold tops0 Tps.top fst; rfl), B3, Nat.le_trans B2.out.size hb3, Nat.le_trans B2.out.size hg3, HTB.out⟩
  clear f2 l3 B2 B3 A3 hb3 hg3 HL HTB
  go_wp2
  go_loopw [5, 8, 9] (fun v5 v8 v9 wr => ∃ i : Nat, i ≤ ops.length ∧ i ≤ 60 ∧ v5 = .bool true ∧ v9 = .int .i64 i ∧ ∃ x sw ws th, th.length ≤ i ∧ Hid (Iq w wr b g c x sw ws v8 th)) (fun _ _ v9 _ => 60 - (intOf v9).toNat)
  case atStart => exact ⟨0, Nat.zero_le _, by omega, rfl, rfl, _, _, _, [], by simp, I3⟩
  case round =>
    obtain ⟨i, hi, hi60, rfl, rfl, x, sw, ws, th, hth, HI⟩ := hrel
    clear I3
    by_cases hlt : i < ops.length
    · have hli : (i : Int) < (ops.length : Int) := by omega
      by_cases h60 : i < 60
      · have h60i : (i : Int) < 60 := by omega
        obtain ⟨o, ho⟩ : ∃ o, ops[i]? = some o := ⟨_, List.getElem?_eq_getElem hlt⟩
        obtain ⟨hIn, g0, off, rfl, hg0, cs⟩ := (HO.out.below HI.out.be) i o ho
        obtain ⟨hN, hC, hs, hW⟩ := hIn
        obtain ⟨K, S, N, B, C, W, s, k, p, r, a, t, h⟩ := o
        dsimp only at hN hC hs hW cs
        obtain ⟨a2, cap2, rfl⟩ := HI.out.mh.sl
        have dd := Dc.new wr (dcells K S N B C W s k p r a t h)
        have lb : Below wr.heap.size wr (wr.alloc (.cells (dcells K S N B C W s k p r a t h) 48)) := Below.alloc (Below.refl _ _) (Nat.le_refl _) _
        have HI1 : Hid (Iq w (wr.alloc (.cells (dcells K S N B C W s k p r a t h) 48)) b g c x sw ws (.slice a2 th.length cap2) th) := HI.out.below lb
        have d0 : wr.cell? ⟨g0, off + i * 13, none⟩ = some (.int .i64 K) := cs 0 (by decide)
        have d1 : wr.cell? ⟨g0, off + i * 13 + 1, none⟩ = some (.int .i64 S) := cs 1 (by decide)
        have d2 : wr.cell? ⟨g0, off + i * 13 + 2, none⟩ = some (.int .i64 N) := cs 2 (by decide)
        have d3 : wr.cell? ⟨g0, off + i * 13 + 3, none⟩ = some (.int .i64 B) := cs 3 (by decide)
        have d4 : wr.cell? ⟨g0, off + i * 13 + 4, none⟩ = some (.int .i64 C) := cs 4 (by decide)
        have d5 : wr.cell? ⟨g0, off + i * 13 + 5, none⟩ = some (.int .u64 W) := cs 5 (by decide)
        have d6 : wr.cell? ⟨g0, off + i * 13 + 6, none⟩ = some (.int .u64 s) := cs 6 (by decide)
        have d7 : wr.cell? ⟨g0, off + i * 13 + 7, none⟩ = some (.int .i64 k) := cs 7 (by decide)
        have d8 : wr.cell? ⟨g0, off + i * 13 + 8, none⟩ = some (.int .i64 p) := cs 8 (by decide)
        have d9 : wr.cell? ⟨g0, off + i * 13 + 9, none⟩ = some (.int .i64 r) := cs 9 (by decide)
        have d10 : wr.cell? ⟨g0, off + i * 13 + 10, none⟩ = some (.int .i64 a) := cs 10 (by decide)
        have d11 : wr.cell? ⟨g0, off + i * 13 + 11, none⟩ = some (.int .i64 t) := cs 11 (by decide)
        have d12 : wr.cell? ⟨g0, off + i * 13 + 12, none⟩ = some (.bool h) := cs 12 (by decide)
        clear cs ho HI lb
        generalize hol : ops.length = ol at *
        clear hol
        go_upto_region 12 with fail
        clear d0 d1 d2 d3 d4 d5 d6 d7 d8 d9 d10 d11 d12
        obtain ⟨v, hv⟩ : ∃ v, v = wr.alloc (.cells (dcells K S N B C W s k p r a t h) 48) := ⟨_, rfl⟩
        obtain ⟨R, hR⟩ : ∃ R, R = wr.heap.size := ⟨_, rfl⟩
        rw [← hv] at dd HI1 ⊢
        rw [← hR] at dd ⊢
        clear hv hR
        have HD : Hid (Dc v R (dcells K S N B C W s k p r a t h)) := dd
        have d0 : v.cell? ⟨R, 0, none⟩ = some (.int .i64 K) := dd.cell 0
        have d1 : v.cell? ⟨R, 1, none⟩ = some (.int .i64 S) := dd.cell 1
        have d2 : v.cell? ⟨R, 2, none⟩ = some (.int .i64 N) := dd.cell 2
        have d3 : v.cell? ⟨R, 3, none⟩ = some (.int .i64 B) := dd.cell 3
        have d4 : v.cell? ⟨R, 4, none⟩ = some (.int .i64 C) := dd.cell 4
        have d5 : v.cell? ⟨R, 5, none⟩ = some (.int .u64 W) := dd.cell 5
        have d6 : v.cell? ⟨R, 6, none⟩ = some (.int .u64 s) := dd.cell 6
        have d7 : v.cell? ⟨R, 7, none⟩ = some (.int .i64 k) := dd.cell 7
        have d8 : v.cell? ⟨R, 8, none⟩ = some (.int .i64 p) := dd.cell 8
        have d9 : v.cell? ⟨R, 9, none⟩ = some (.int .i64 r) := dd.cell 9
        have d10 : v.cell? ⟨R, 10, none⟩ = some (.int .i64 a) := dd.cell 10
        have d11 : v.cell? ⟨R, 11, none⟩ = some (.int .i64 t) := dd.cell 11
        have d12 : v.cell? ⟨R, 12, none⟩ = some (.bool h) := dd.cell 12
        clear dd
        by_cases h1 : K = 1
        · subst h1
          have hm := made_any HI1.out (by omega) 1 S N B C W s k p r a t h hs
          go_wp2_with fail
          refine hm.mono ?_
          rintro e w5 ⟨lv', rfl, x', ws', th', I5, hl5⟩
          have HI5 : Hid (Iq w w5 b g c x' sw ws' lv' th') := I5
          clear d0 d1 d2 d3 d4 d5 d6 d7 d8 d9 d10 d11 d12
          clear hm I5 HI1 HD
          obtain ⟨a1, cap1, rfl⟩ := HI5.out.mh.sl
          have hh := held_any a1 cap1 (by omega) HI5.out.ar HI5.out.la HI5.out.mh.tgs HI5.out.hl
          go_wp2_with fail
          refine hh.mono ?_
          rintro e w9 ⟨rfl, l9⟩
          have I9 := HI5.out.below l9
          have HI9 : Hid (Iq w w9 b g c x' sw ws' (.slice a1 th'.length cap1) th') := I9
          clear hh l9 I9 HI5
          go_wp2
          go_roundw
          case rel => exact ⟨i + 1, by omega, by omega, rfl, by go_num, x', sw, ws', th', by omega, HI9⟩
          case measure => simp [intOf]; omega
        have n1 : (K == 1) = false := by simpa using h1
        by_cases h2 : K = 2
        · subst h2
          have htop := top_any b g c x sw ws S v HI1.out.ar
          clear n1
          go_wp2_with fail
          refine htop.mono ?_
          rintro e w5 ⟨rfl, l5⟩
          have HI5 : Hid (Iq w w5 b g c x sw ws (.slice a2 th.length cap2) th) := HI1.out.below l5
          have HD5 : Hid (Dc w5 R (dcells 2 S N B C W s k p r a t h)) := ⟨(l5.block R HD.out.lt).trans HD.out.at_⟩
          clear d0 d1 d2 d3 d4 d5 d6 d7 d8 d9 d10 d11 d12
          clear htop l5 HI1 HD
          have d1 : w5.cell? ⟨R, 1, none⟩ = some (.int .i64 S) := HD5.out.cell 1
          have d2 : w5.cell? ⟨R, 2, none⟩ = some (.int .i64 N) := HD5.out.cell 2
          have hsub := HI5.out.ar.sub_in S
          by_cases hfit : 1 ≤ N ∧ N ≤ bhd c S - x.top S
          · have hS : 1 ≤ S ∧ S ≤ 4 := by
              by_cases hS : 1 ≤ S ∧ S ≤ 4
              · exact hS
              · have := sp_out hS HI5.out.ar; omega
            obtain ⟨n, rfl⟩ : ∃ n : Nat, N = n := ⟨N.toNat, by omega⟩
            obtain ⟨q, hq⟩ : ∃ q : Nat, x.top S = q := ⟨(x.top S).toNat, by omega⟩
            have hwo := HI5.out.ar.words
            have hfy := fill_yes b g c x sw ws S q n hq (by omega) (by omega) w5 HI5.out.ar
            have Hq : Hid (x.top S = q ∧ 0 < n ∧ (q : Int) + n ≤ bhd c S ∧ 1 ≤ S ∧ S ≤ 4) := ⟨hq, by omega, by omega, hS.1, hS.2⟩
            have hqn : (q : Int) + n ≤ 1000000 := by omega
            rw [hq]
            go_wp2_with fail
            refine hfy.mono ?_
            rintro e w6 ⟨rfl, A6, t6⟩
            have I6 := HI5.out.fill S q n hS hq (by omega) (by omega) A6 t6
            have HD6 : Hid (Dc w6 R (dcells 2 S n B C W s k p r a t h)) := ⟨(t6.block R HD5.out.lt (by
              obtain ⟨⟨gs, hgs⟩, bs, hbs⟩ := HI5.out.ar.rowTy
              simp only [List.mem_cons, List.not_mem_nil, or_false, not_or]
              exact ⟨heap_ty_ne HD5.out.at_ hbs (by decide), heap_ty_ne HD5.out.at_ hgs (by decide)⟩)).trans HD5.out.at_⟩
            have HI6 : Hid (Iq w w6 b g c (x.put S (q + n)) sw (upd (zer ws q n) q ((n : Int) * 4 + 3)) (.slice a2 th.length cap2) th) := I6
            have Hto : Hid (∀ pp : Bel w6, Calls Tryd.prog 10 #[.pointer (some ⟨b, 0, none⟩), .int .i64 S] pp.v fun e w' => e = .returned (.int .i64 ((q : Int) + n)) ∧ Below pp.v.heap.size pp.v w') := fun pp => by
              have := top_any b g c _ sw _ S pp.v (HI6.out.ar.below pp.h)
              rw [Tps.top_put _ _ _ hS] at this
              exact this
            clear hfy A6 t6 I6 HI5 HD5 d1 d2 hsub hfit hq
            have z1 : ∀ pp : Bel w6, pp.v.cell? ⟨R, 1, none⟩ = some (.int .i64 S) := fun pp => (pp.h.cell (p := ⟨R, 1, none⟩) HD6.out.lt).trans (HD6.out.cell 1)
            have z2 : ∀ pp : Bel w6, pp.v.cell? ⟨R, 2, none⟩ = some (.int .i64 n) := fun pp => (pp.h.cell (p := ⟨R, 2, none⟩) HD6.out.lt).trans (HD6.out.cell 2)
            have e1 : decide (1 ≤ S) = true := decide_eq_true hS.1
            have e2 : decide (S ≤ 4) = true := decide_eq_true hS.2
            have e3 : decide (1 ≤ (n : Int)) = true := decide_eq_true (by have := Hq.out; omega)
            have e3n : decide (1 ≤ n) = true := decide_eq_true (by have := Hq.out; omega)
            have e3p : decide (0 < n) = true := decide_eq_true (by have := Hq.out; omega)
            haveI hinh : Inhabited (Bel w6) := ⟨⟨w6, Below.refl _ _⟩⟩
            go_upto_region 17 with fail
            refine region_below mixed (by kernel_rfl) ?_
            repeat (go_big_quiet_step (first | (go_at_call 10; exact calls_bel (Hto.out _))))
            refine wpQuiet_nil ?_
            rintro w7 ⟨⟨w7, b7⟩, rfl⟩
            have HI7 : Hid (Iq w w7 b g c (x.put S (q + n)) sw (upd (zer ws q n) q ((n : Int) * 4 + 3)) (.slice a2 th.length cap2) th) := HI6.out.below b7
            clear z1 z2 Hto HI6 HD6 b7 e1 e2 e3 e3n e3p
            have hh := held_any a2 cap2 (by omega) HI7.out.ar HI7.out.la HI7.out.mh.tgs HI7.out.hl
            go_wp2_with fail
            refine hh.mono ?_
            rintro e w9 ⟨rfl, l9⟩
            have I9 := HI7.out.below l9
            have HI9 : Hid (Iq w w9 b g c (x.put S (q + n)) sw (upd (zer ws q n) q ((n : Int) * 4 + 3)) (.slice a2 th.length cap2) th) := I9
            clear hh l9 I9 HI7
            go_wp2
            go_roundw
            case rel => exact ⟨i + 1, by omega, by omega, rfl, by go_num, (x.put S (q + n)), sw, (upd (zer ws q n) q ((n : Int) * 4 + 3)), th, by omega, HI9⟩
            case measure => simp [intOf]; omega
          · have hfn := fill_no b g c x sw ws S N hfit w5 HI5.out.ar
            have hTt := HI5.out.ar.sub_in S
            have hwo := HI5.out.ar.words
            have Hto5 : Hid (∀ w1, Below w5.heap.size w5 w1 → Calls Tryd.prog 10 #[.pointer (some ⟨b, 0, none⟩), .int .i64 S] w1 fun e w' => e = .returned (.int .i64 (x.top S)) ∧ Below w1.heap.size w1 w') := fun w1 l => top_any b g c x sw ws S w1 (HI5.out.ar.below l)
            have hT0 : 0 ≤ x.top S ∧ x.top S ≤ 262145 := by omega
            clear hTt hsub hwo
            obtain ⟨TP, hTP⟩ : ∃ TP, TP = x.top S := ⟨_, rfl⟩
            rw [← hTP] at Hto5 hT0 ⊢
            clear hTP
            go_wp2_with fail
            refine hfn.mono ?_
            rintro e w6 ⟨rfl, l6⟩
            have HI6 : Hid (Iq w w6 b g c x sw ws (.slice a2 th.length cap2) th) := HI5.out.below l6
            have HD6 : Hid (Dc w6 R (dcells 2 S N B C W s k p r a t h)) := ⟨(l6.block R HD5.out.lt).trans HD5.out.at_⟩
            have Hto : Hid (∀ pp : Bel w6, Calls Tryd.prog 10 #[.pointer (some ⟨b, 0, none⟩), .int .i64 S] pp.v fun e w' => e = .returned (.int .i64 TP) ∧ Below pp.v.heap.size pp.v w') := fun pp => Hto5.out pp.v (l6.trans (pp.h.mono l6.size))
            clear hfn l6 HI5 HD5 d1 d2 Hto5
            have z1 : ∀ pp : Bel w6, pp.v.cell? ⟨R, 1, none⟩ = some (.int .i64 S) := fun pp => (pp.h.cell (p := ⟨R, 1, none⟩) HD6.out.lt).trans (HD6.out.cell 1)
            have z2 : ∀ pp : Bel w6, pp.v.cell? ⟨R, 2, none⟩ = some (.int .i64 N) := fun pp => (pp.h.cell (p := ⟨R, 2, none⟩) HD6.out.lt).trans (HD6.out.cell 2)
            haveI hinh : Inhabited (Bel w6) := ⟨⟨w6, Below.refl _ _⟩⟩
            by_cases hS1 : 1 ≤ S
            · have e1 : decide (1 ≤ S) = true := decide_eq_true hS1
              by_cases hS4 : S ≤ 4
              · have e2 : decide (S ≤ 4) = true := decide_eq_true hS4
                by_cases hN1 : 1 ≤ N
                · have e3 : decide (1 ≤ N) = true := decide_eq_true hN1
                  have hN0 : ¬ N = 0 := by omega
                  have hNb : (N == 0) = false := by simpa using hN0
                  by_cases hov : TP + N ≤ 9223372036854775807
                  · have hov2 : -9223372036854775808 ≤ TP + N := by omega
                    have hne : (TP == TP + N) = false := by simp; omega
                    go_upto_region 17 with fail
                    refine region_below mixed (by kernel_rfl) ?_
                    repeat (go_big_quiet_step (first | (go_at_call 10; exact calls_bel (Hto.out _))))
                    refine wpQuiet_nil ?_
                    rintro w7 ⟨⟨w7, b7⟩, rfl⟩
                    have HI7 : Hid (Iq w w7 b g c x sw ws (.slice a2 th.length cap2) th) := HI6.out.below b7
                    clear z1 z2 Hto HI6 HD6 b7
                    have hh := held_any a2 cap2 (by omega) HI7.out.ar HI7.out.la HI7.out.mh.tgs HI7.out.hl
                    go_wp2_with fail
                    refine hh.mono ?_
                    rintro e w9 ⟨rfl, l9⟩
                    have I9 := HI7.out.below l9
                    have HI9 : Hid (Iq w w9 b g c x sw ws (.slice a2 th.length cap2) th) := I9
                    clear hh l9 I9 HI7
                    go_wp2
                    go_roundw
                    case rel => exact ⟨i + 1, by omega, by omega, rfl, by go_num, x, sw, ws, th, by omega, HI9⟩
                    case measure => simp [intOf]; omega
                  · have hNN := hN.2
                    have hw : IntKind.i64.wrap (TP + N) = TP + N - 18446744073709551616 := by
                      simp [IntKind.wrap, IntKind.bits, IntKind.signed]
                      omega
                    have hw6 : wrap64 (TP + N) = TP + N - 18446744073709551616 := by unfold wrap64; omega
                    have hne : (TP == TP + N - 18446744073709551616) = false := by simp; omega
                    have hne2 : ¬ TP = TP + N - 18446744073709551616 := by omega
                    have hne3 : (TP == IntKind.i64.wrap (TP + N)) = false := by rw [hw]; exact hne
                    have hne4 : (TP == wrap64 (TP + N)) = false := by rw [hw6]; exact hne
                    have hne5 : ¬ TP = wrap64 (TP + N) := by omega
                    go_upto_region 17 with fail
                    refine region_below mixed (by kernel_rfl) ?_
                    repeat (go_big_quiet_step (first | (go_at_call 10; exact calls_bel (Hto.out _))))
                    refine wpQuiet_nil ?_
                    rintro w7 ⟨⟨w7, b7⟩, rfl⟩
                    have HI7 : Hid (Iq w w7 b g c x sw ws (.slice a2 th.length cap2) th) := HI6.out.below b7
                    clear z1 z2 Hto HI6 HD6 b7
                    have hh := held_any a2 cap2 (by omega) HI7.out.ar HI7.out.la HI7.out.mh.tgs HI7.out.hl
                    go_wp2_with fail
                    refine hh.mono ?_
                    rintro e w9 ⟨rfl, l9⟩
                    have I9 := HI7.out.below l9
                    have HI9 : Hid (Iq w w9 b g c x sw ws (.slice a2 th.length cap2) th) := I9
                    clear hh l9 I9 HI7
                    go_wp2
                    go_roundw
                    case rel => exact ⟨i + 1, by omega, by omega, rfl, by go_num, x, sw, ws, th, by omega, HI9⟩
                    case measure => simp [intOf]; omega
                · have e3 : decide (1 ≤ N) = false := decide_eq_false hN1
                  go_upto_region 17 with fail
                  refine region_below mixed (by kernel_rfl) ?_
                  repeat (go_big_quiet_step (first | (go_at_call 10; exact calls_bel (Hto.out _))))
                  refine wpQuiet_nil ?_
                  rintro w7 ⟨⟨w7, b7⟩, rfl⟩
                  have HI7 : Hid (Iq w w7 b g c x sw ws (.slice a2 th.length cap2) th) := HI6.out.below b7
                  clear z1 z2 Hto HI6 HD6 b7
                  have hh := held_any a2 cap2 (by omega) HI7.out.ar HI7.out.la HI7.out.mh.tgs HI7.out.hl
                  go_wp2_with fail
                  refine hh.mono ?_
                  rintro e w9 ⟨rfl, l9⟩
                  have I9 := HI7.out.below l9
                  have HI9 : Hid (Iq w w9 b g c x sw ws (.slice a2 th.length cap2) th) := I9
                  clear hh l9 I9 HI7
                  go_wp2
                  go_roundw
                  case rel => exact ⟨i + 1, by omega, by omega, rfl, by go_num, x, sw, ws, th, by omega, HI9⟩
                  case measure => simp [intOf]; omega
              · have e2 : decide (S ≤ 4) = false := decide_eq_false hS4
                go_upto_region 17 with fail
                refine region_below mixed (by kernel_rfl) ?_
                repeat (go_big_quiet_step (first | (go_at_call 10; exact calls_bel (Hto.out _))))
                refine wpQuiet_nil ?_
                rintro w7 ⟨⟨w7, b7⟩, rfl⟩
                have HI7 : Hid (Iq w w7 b g c x sw ws (.slice a2 th.length cap2) th) := HI6.out.below b7
                clear z1 z2 Hto HI6 HD6 b7
                have hh := held_any a2 cap2 (by omega) HI7.out.ar HI7.out.la HI7.out.mh.tgs HI7.out.hl
                go_wp2_with fail
                refine hh.mono ?_
                rintro e w9 ⟨rfl, l9⟩
                have I9 := HI7.out.below l9
                have HI9 : Hid (Iq w w9 b g c x sw ws (.slice a2 th.length cap2) th) := I9
                clear hh l9 I9 HI7
                go_wp2
                go_roundw
                case rel => exact ⟨i + 1, by omega, by omega, rfl, by go_num, x, sw, ws, th, by omega, HI9⟩
                case measure => simp [intOf]; omega
            · have e1 : decide (1 ≤ S) = false := decide_eq_false hS1
              go_upto_region 17 with fail
              refine region_below mixed (by kernel_rfl) ?_
              repeat (go_big_quiet_step (first | (go_at_call 10; exact calls_bel (Hto.out _))))
              refine wpQuiet_nil ?_
              rintro w7 ⟨⟨w7, b7⟩, rfl⟩
              have HI7 : Hid (Iq w w7 b g c x sw ws (.slice a2 th.length cap2) th) := HI6.out.below b7
              clear z1 z2 Hto HI6 HD6 b7
              have hh := held_any a2 cap2 (by omega) HI7.out.ar HI7.out.la HI7.out.mh.tgs HI7.out.hl
              go_wp2_with fail
              refine hh.mono ?_
              rintro e w9 ⟨rfl, l9⟩
              have I9 := HI7.out.below l9
              have HI9 : Hid (Iq w w9 b g c x sw ws (.slice a2 th.length cap2) th) := I9
              clear hh l9 I9 HI7
              go_wp2
              go_roundw
              case rel => exact ⟨i + 1, by omega, by omega, rfl, by go_num, x, sw, ws, th, by omega, HI9⟩
              case measure => simp [intOf]; omega
        have n2 : (K == 2) = false := by simpa using h2
        by_cases h6 : K = 6
        · subst h6
          clear n1 n2
          cases sw
          · have hfr := from_any b g c x false ws v HI1.out.ar
            simp only [Bool.false_eq_true, if_false] at hfr
            have hsw := swap_any b g c x false ws v HI1.out.ar
            simp only [Bool.not_false] at hsw
            go_wp2_with fail
            refine hfr.mono ?_
            rintro e w5 ⟨rfl, rfl⟩
            go_wp2_with fail
            refine hsw.mono ?_
            rintro e w6 ⟨rfl, A6, t6, -⟩
            have I6 : Iq w w6 b g c x true ws (.slice a2 th.length cap2) th := HI1.out.swap A6 t6
            have HI6 : Hid (Iq w w6 b g c x true ws (.slice a2 th.length cap2) th) := I6
            clear d0 d1 d2 d3 d4 d5 d6 d7 d8 d9 d10 d11 d12
            clear hfr hsw A6 t6 I6 HI1 HD
            have hf6 := from_any b g c x true ws w6 HI6.out.ar
            have ht6 := to_any b g c x true ws w6 HI6.out.ar
            simp only [if_true] at hf6 ht6
            go_wp2_with fail
            refine hf6.mono ?_
            rintro e w7 ⟨rfl, rfl⟩
            go_wp2_with fail
            refine ht6.mono ?_
            rintro e w7 ⟨rfl, rfl⟩
            go_wp2_with fail
            refine hf6.mono ?_
            rintro e w7 ⟨rfl, rfl⟩
            clear hf6 ht6
            have hh := held_any a2 cap2 (by omega) HI6.out.ar HI6.out.la HI6.out.mh.tgs HI6.out.hl
            go_wp2_with fail
            refine hh.mono ?_
            rintro e w9 ⟨rfl, l9⟩
            have I9 := HI6.out.below l9
            have HI9 : Hid (Iq w w9 b g c x true ws (.slice a2 th.length cap2) th) := I9
            clear hh l9 I9 HI6
            go_wp2
            go_roundw
            case rel => exact ⟨i + 1, by omega, by omega, rfl, by go_num, x, true, ws, th, by omega, HI9⟩
            case measure => simp [intOf]; omega
          · have hfr := from_any b g c x true ws v HI1.out.ar
            simp only [if_true] at hfr
            have hsw := swap_any b g c x true ws v HI1.out.ar
            simp only [Bool.not_true] at hsw
            go_wp2_with fail
            refine hfr.mono ?_
            rintro e w5 ⟨rfl, rfl⟩
            go_wp2_with fail
            refine hsw.mono ?_
            rintro e w6 ⟨rfl, A6, t6, -⟩
            have I6 : Iq w w6 b g c x false ws (.slice a2 th.length cap2) th := HI1.out.swap A6 t6
            have HI6 : Hid (Iq w w6 b g c x false ws (.slice a2 th.length cap2) th) := I6
            clear d0 d1 d2 d3 d4 d5 d6 d7 d8 d9 d10 d11 d12
            clear hfr hsw A6 t6 I6 HI1 HD
            have hf6 := from_any b g c x false ws w6 HI6.out.ar
            have ht6 := to_any b g c x false ws w6 HI6.out.ar
            simp only [Bool.false_eq_true, if_false] at hf6 ht6
            go_wp2_with fail
            refine hf6.mono ?_
            rintro e w7 ⟨rfl, rfl⟩
            go_wp2_with fail
            refine ht6.mono ?_
            rintro e w7 ⟨rfl, rfl⟩
            go_wp2_with fail
            refine hf6.mono ?_
            rintro e w7 ⟨rfl, rfl⟩
            clear hf6 ht6
            have hh := held_any a2 cap2 (by omega) HI6.out.ar HI6.out.la HI6.out.mh.tgs HI6.out.hl
            go_wp2_with fail
            refine hh.mono ?_
            rintro e w9 ⟨rfl, l9⟩
            have I9 := HI6.out.below l9
            have HI9 : Hid (Iq w w9 b g c x false ws (.slice a2 th.length cap2) th) := I9
            clear hh l9 I9 HI6
            go_wp2
            go_roundw
            case rel => exact ⟨i + 1, by omega, by omega, rfl, by go_num, x, false, ws, th, by omega, HI9⟩
            case measure => simp [intOf]; omega
        have n6 : (K == 6) = false := by simpa using h6
        by_cases hne : th = []
        · subst hne
          simp only [List.length_nil] at HI1 ⊢
          have hh := held_any (th := []) a2 cap2 (by simp) HI1.out.ar HI1.out.la HI1.out.mh.tgs HI1.out.hl
          simp only [List.length_nil] at hh
          go_wp2_with fail
          refine hh.mono ?_
          rintro e w9 ⟨rfl, l9⟩
          have HI9 : Hid (Iq w w9 b g c x sw ws (.slice a2 0 cap2) []) := HI1.out.below l9
          clear d0 d1 d2 d3 d4 d5 d6 d7 d8 d9 d10 d11 d12
          clear hh l9 HI1 HD
          go_wp2
          go_roundw
          case rel => exact ⟨i + 1, by omega, by omega, rfl, by go_num, x, sw, ws, [], by simp, HI9⟩
          case measure => simp [intOf]; omega
        · have hl0 : 0 < th.length := List.length_pos_iff.2 hne
          have hl0i : (0 : Int) < (th.length : Int) := by omega
          have hm := changed_any HI1.out hne (by omega) K S N B C W s k p r a t h hN hC hs hW
          generalize hth2 : th.length = TL at *
          go_wp2_with fail
          refine hm.mono ?_
          rintro e w5 ⟨rfl, ws', th', I5, hl5⟩
          have HI5 : Hid (Iq w w5 b g c x sw ws' (.slice a2 TL cap2) th') := I5
          clear d0 d1 d2 d3 d4 d5 d6 d7 d8 d9 d10 d11 d12
          clear hm I5 HI1 HD
          subst hl5
          have hh := held_any a2 cap2 (by omega) HI5.out.ar HI5.out.la HI5.out.mh.tgs HI5.out.hl
          go_wp2_with fail
          refine hh.mono ?_
          rintro e w9 ⟨rfl, l9⟩
          have HI9 : Hid (Iq w w9 b g c x sw ws' (.slice a2 th'.length cap2) th') := HI5.out.below l9
          clear hh l9 HI5
          go_wp2
          go_roundw
          case rel => exact ⟨i + 1, by omega, by omega, rfl, by go_num, x, sw, ws', th', by omega, HI9⟩
          case measure => simp [intOf]; omega
      · have h60' : decide ((i : Int) < 60) = false := decide_eq_false (by omega)
        have HF : Hid (Below w.heap.size w wr) := HI.out.be
        clear HI h60
        go_wp2
        go_ret
        exact ⟨rfl, HF.out⟩
    · obtain rfl : i = ops.length := by omega
      have HF : Hid (Below w.heap.size w wr) := HI.out.be
      clear HI hlt
      go_wp2
      go_ret
      exact ⟨rfl, HF.out⟩

theorem holds_any (c : Cfg) (a0 : Option Addr) (cap : Nat) (ops : List DoG) (hlen : ops.length ≤ 9223372036854775807) (w : World) (hL : Laid w) (ho : LDos w.heap.size w a0 ops) :
    Calls Tryd.prog 4 #[cv c, .slice a0 ops.length cap] w fun e w' => e = .returned (.bool true) ∧ Below w.heap.size w w' := by
  by_cases hc : c.Ok
  · exact holds_yes c hc a0 cap ops hlen w hL ho
  · exact holds_no c hc _ w hL

end Go.Proofs.YtbdkcelggffneaaDoor
