import Derived.Test.YtemdmpfifcihfaaRA5
import Derived.Test.YtemdmpfifcihfaaRRC
import Derived.Test.YtemdmpfifcihfaaR26
/-
  RootsAll walked: the statement's own steps.
-/
set_option linter.unusedVariables false
namespace Go.Proofs.Ytemdmpfifcihfaa
open Go.RowKit

set_option maxRecDepth 40000 in
set_option maxHeartbeats 8000000 in
theorem all_in (T m H : Nat) (hT : 1 ≤ T) (hT8 : T ≤ 8) (hm : 1 ≤ m) (hm2 : m ≤ 4096) (hH : H ≤ 1024) (a : Option Addr) (cap : Nat) (ops : List OpD) (hlen : ops.length < 8796092982208) (hrg : ∀ o ∈ ops, -9223372036854775808 ≤ o.n ∧ o.n < 9223372036854775808) (w : World) (hl : LOps w.heap.size w a ops) :
    Calls Try.prog 7 #[.int .i64 T, .int .i64 m, .int .i64 H, .slice a ops.length cap] w fun e w' => e = .returned (.bool true) ∧ Below w.heap.size w w' := by
  have c1 := new_in T m H hT hT8 hm hm2 hH w
  have HB : Hid (1 ≤ T ∧ T ≤ 8 ∧ 1 ≤ m ∧ m ≤ 4096 ∧ H ≤ 1024) := ⟨hT, hT8, hm, hm2, hH⟩
  have Hl : Hid (LOps w.heap.size w a ops) := hl
  have HL : Hid (ops.length < 8796092982208) := hlen
  have HR : Hid (∀ o ∈ ops, -9223372036854775808 ≤ o.n ∧ o.n < 9223372036854775808) := hrg
  clear hT hT8 hm hm2 hH hl hlen hrg
  go_enter Try.func7, Try.ntmps7
  go_wp2_with fail
  refine c1.mono ?_
  rintro e w1 ⟨r1, Fa, rfl, h1, t1⟩
  have c2 := r5new_in T m H HB.out.1 HB.out.2.1 HB.out.2.2.1 HB.out.2.2.2.1 HB.out.2.2.2.2 w1
  have H1 : Hid (Rts w1 w.heap.size r1 0 (sta0 T m H) Fa ∧ Touch [] w w1) := ⟨h1, t1⟩
  clear c1 h1 t1
  go_wp2_with fail
  refine c2.mono ?_
  rintro e w2 ⟨b1, Ga, rfl, h2, l2⟩
  have c3 := new_in T m H HB.out.1 HB.out.2.1 HB.out.2.2.1 HB.out.2.2.2.1 HB.out.2.2.2.2 w2
  have H2 : Hid (Rfs w2 w1.heap.size b1 (sta0 T m H) Ga ∧ Below w1.heap.size w1 w2) := ⟨h2, l2⟩
  clear c2 h2 l2
  go_wp2_with fail
  refine c3.mono ?_
  rintro e w3 ⟨r2, Fb, rfl, h3, t3⟩
  have c4 := r5new_in T m H HB.out.1 HB.out.2.1 HB.out.2.2.1 HB.out.2.2.2.1 HB.out.2.2.2.2 w3
  have H3 : Hid (Rts w3 w2.heap.size r2 0 (sta0 T m H) Fb ∧ Touch [] w2 w3) := ⟨h3, t3⟩
  clear c3 h3 t3
  go_wp2_with fail
  refine c4.mono ?_
  rintro e w4 ⟨b2, Gb, rfl, h4, l4⟩
  have t5 : Touch [] w4 ((w4.alloc (.cells #[.pointer (some ⟨r1, 0, none⟩), .pointer (some ⟨b1, 0, none⟩)] 61)).alloc (.cells #[.pointer (some ⟨r2, 0, none⟩), .pointer (some ⟨b2, 0, none⟩)] 61)) := (Touch.alloc _ _ _).trans (Touch.alloc _ _ _)
  have M0 : Hid (MI w w4.heap.size (w4.heap.size + 1) r1 b1 r2 b2 T 0 ((w4.alloc (.cells #[.pointer (some ⟨r1, 0, none⟩), .pointer (some ⟨b1, 0, none⟩)] 61)).alloc (.cells #[.pointer (some ⟨r2, 0, none⟩), .pointer (some ⟨b2, 0, none⟩)] 61))) := by
    refine MI.new HB.out.1 HB.out.2.1 HB.out.2.2.1 HB.out.2.2.2.1 HB.out.2.2.2.2 H1.out.1 H1.out.2 H2.out.1 H2.out.2 H3.out.1 H3.out.2 h4 l4 t5 (Nat.le_refl _) (by omega) ((Below.heap_alloc _ _ _ (by simp)).trans (heap_alloc_new w4 _)) ?_
    have := heap_alloc_new (w4.alloc (.cells #[.pointer (some ⟨r1, 0, none⟩), .pointer (some ⟨b1, 0, none⟩)] 61)) (.cells #[.pointer (some ⟨r2, 0, none⟩), .pointer (some ⟨b2, 0, none⟩)] 61)
    rwa [World.size_alloc] at this
  clear c4 h4 l4 t5 H1 H2 H3
  go_upto_region 10 with fail
  generalize (w4.alloc (.cells #[.pointer (some ⟨r1, 0, none⟩), .pointer (some ⟨b1, 0, none⟩)] 61)).alloc (.cells #[.pointer (some ⟨r2, 0, none⟩), .pointer (some ⟨b2, 0, none⟩)] 61) = w5 at *
  generalize w4.heap.size = PA at *
  go_wp2
  go_loopw [19] (fun i wr => ∃ (k : Nat), k ≤ ops.length ∧ i = .int .i64 k ∧ Hid (MI w PA (PA + 1) r1 b1 r2 b2 T k wr)) (fun i _ => ops.length - (intOf i).toNat)
  case atStart => exact ⟨0, Nat.zero_le _, rfl, M0⟩
  case round =>
    obtain ⟨k, hk, rfl, hp⟩ := hrel
    clear M0
    obtain ⟨x0, x1⟩ := hp.out.xa
    obtain ⟨y0, y1⟩ := hp.out.swap.xa
    by_cases hlt : k < ops.length
    · obtain ⟨o, ho⟩ : ∃ o, ops[k]? = some o := ⟨_, List.getElem?_eq_getElem hlt⟩
      have hbn := HR.out o (List.mem_of_getElem? ho)
      obtain ⟨g, off, rfl, hg, c0, c1, c2, c3, c4, c5, hcm⟩ := (Hl.out.below hp.out.be) k o ho
      obtain ⟨kd, t, n, x, sec, la, l, lc⟩ := o
      simp only at c0 c1 c2 c3 c4 c5 hbn hcm
      have hki : (k : Int) < (ops.length : Int) := by omega
      have hk2 : k < 8796092982208 := by have := HL.out; omega
      have hgw : g < wr.heap.size := World.block_lt_of_cell? _ _ c0
      clear ho
      generalize hll : ops.length = ol at *
      clear hll
      cases sec with
      | false =>
        have tt : Touch [] wr (wr.alloc (.cells #[.pointer (some ⟨r1, 0, none⟩), .pointer (some ⟨b1, 0, none⟩)] 61)) := Touch.alloc _ _ _
        have d0 := fun j v (h : wr.cell? ⟨g, j, none⟩ = some v) => (World.cell?_of_block (w := wr) (tt.block g hgw (by simp))).trans h
        have e0 := d0 _ _ c0
        have e1 := d0 _ _ c1
        have e2 := d0 _ _ c2
        have e3 := d0 _ _ c3
        have e4 := d0 _ _ c4
        have e5 := d0 _ _ c5
        have hp2 : Hid (MI w PA (PA + 1) r1 b1 r2 b2 T k (wr.alloc (.cells #[.pointer (some ⟨r1, 0, none⟩), .pointer (some ⟨b1, 0, none⟩)] 61)).drew) := (hp.out.nil tt).nil (Touch.drew _ _)
        have hcm2 : Came w.heap.size (wr.alloc (.cells #[.pointer (some ⟨r1, 0, none⟩), .pointer (some ⟨b1, 0, none⟩)] 61)).drew la l := hcm.keep (fun q hq => tt.block q (by have := hp.out.be.size; omega) (by simp))
        have hc := hp2.out.playA kd t n x false la l lc hk2 hbn (Nat.le_refl _) hcm2
        have z0 : (wr.alloc (.cells #[.pointer (some ⟨r1, 0, none⟩), .pointer (some ⟨b1, 0, none⟩)] 61)).cell? ⟨wr.heap.size, 0, none⟩ = some (.pointer (some ⟨r1, 0, none⟩)) := by simp
        have z1 : (wr.alloc (.cells #[.pointer (some ⟨r1, 0, none⟩), .pointer (some ⟨b1, 0, none⟩)] 61)).cell? ⟨wr.heap.size, 1, none⟩ = some (.pointer (some ⟨b1, 0, none⟩)) := by simp
        clear d0 tt hcm hcm2 hp2 hp y0 y1
        generalize l.length = ll at *
        go_upto_region 14 with fail
        clear c0 c1 c2 c3 c4 c5 x0 x1
        generalize wr.alloc (.cells #[.pointer (some ⟨r1, 0, none⟩), .pointer (some ⟨b1, 0, none⟩)] 61) = wx at *
        generalize wr.heap.size = PT at *
        go_upto_region 16 with fail
        refine quiet_call 5 mixed (by kernel_rfl) ?_
        simp only [List.take_succ_cons, List.take_zero, List.drop_succ_cons, List.drop_zero]
        repeat (go_big_quiet_step (fail))
        refine wpQuiet_nil ?_
        go_wp2_with fail
        refine hc.mono ?_
        rintro e w7 ⟨rfl, h7⟩
        have H7 : Hid (MI w PA (PA + 1) r1 b1 r2 b2 T (k + 1) w7) := h7
        clear hc h7 e0 e1 e2 e3 e4 e5 z0 z1
        go_wp2_with fail
        refine thenQuiet_mk ?_
        repeat (go_big_quiet_step (fail))
        refine wpQuiet_nil ?_
        go_wp2
        go_roundw
        case rel => exact ⟨k + 1, hlt, by go_num, H7⟩
        case measure => simp [intOf]; omega
      | true =>
        have tt : Touch [] wr (wr.alloc (.cells #[.pointer (some ⟨r2, 0, none⟩), .pointer (some ⟨b2, 0, none⟩)] 61)) := Touch.alloc _ _ _
        have d0 := fun j v (h : wr.cell? ⟨g, j, none⟩ = some v) => (World.cell?_of_block (w := wr) (tt.block g hgw (by simp))).trans h
        have e0 := d0 _ _ c0
        have e1 := d0 _ _ c1
        have e2 := d0 _ _ c2
        have e3 := d0 _ _ c3
        have e4 := d0 _ _ c4
        have e5 := d0 _ _ c5
        have hp2 : Hid (MI w (PA + 1) PA r2 b2 r1 b1 T k (wr.alloc (.cells #[.pointer (some ⟨r2, 0, none⟩), .pointer (some ⟨b2, 0, none⟩)] 61)).drew) := (hp.out.swap.nil tt).nil (Touch.drew _ _)
        have hcm2 : Came w.heap.size (wr.alloc (.cells #[.pointer (some ⟨r2, 0, none⟩), .pointer (some ⟨b2, 0, none⟩)] 61)).drew la l := hcm.keep (fun q hq => tt.block q (by have := hp.out.be.size; omega) (by simp))
        have hc := hp2.out.playA kd t n x true la l lc hk2 hbn (Nat.le_refl _) hcm2
        have z0 : (wr.alloc (.cells #[.pointer (some ⟨r2, 0, none⟩), .pointer (some ⟨b2, 0, none⟩)] 61)).cell? ⟨wr.heap.size, 0, none⟩ = some (.pointer (some ⟨r2, 0, none⟩)) := by simp
        have z1 : (wr.alloc (.cells #[.pointer (some ⟨r2, 0, none⟩), .pointer (some ⟨b2, 0, none⟩)] 61)).cell? ⟨wr.heap.size, 1, none⟩ = some (.pointer (some ⟨b2, 0, none⟩)) := by simp
        have f4 : (wr.alloc (.cells #[.pointer (some ⟨r1, 0, none⟩), .pointer (some ⟨b1, 0, none⟩)] 61)).cell? ⟨g, off + k * 6 + 4, none⟩ = some (.bool true) := (World.cell?_of_block (w := wr) (Below.heap_alloc _ _ _ hgw)).trans c4
        have f0 : (wr.alloc (.cells #[.pointer (some ⟨r1, 0, none⟩), .pointer (some ⟨b1, 0, none⟩)] 61)).cell? ⟨PA + 1, 0, none⟩ = some (.pointer (some ⟨r2, 0, none⟩)) := (World.cell?_of_block (w := wr) (Below.heap_alloc _ _ _ (World.block_lt_of_cell? _ _ y0))).trans y0
        have f1 : (wr.alloc (.cells #[.pointer (some ⟨r1, 0, none⟩), .pointer (some ⟨b1, 0, none⟩)] 61)).cell? ⟨PA + 1, 1, none⟩ = some (.pointer (some ⟨b2, 0, none⟩)) := (World.cell?_of_block (w := wr) (Below.heap_alloc _ _ _ (World.block_lt_of_cell? _ _ y1))).trans y1
        clear d0 tt hcm hcm2 hp2 hp
        generalize l.length = ll at *
        go_upto_region 16 with fail
        clear c0 c1 c2 c3 c4 c5 x0 x1 f0 f1 f4
        generalize wr.alloc (.cells #[.pointer (some ⟨r2, 0, none⟩), .pointer (some ⟨b2, 0, none⟩)] 61) = wx at *
        generalize wr.heap.size = PT at *
        refine quiet_call 5 mixed (by kernel_rfl) ?_
        simp only [List.take_succ_cons, List.take_zero, List.drop_succ_cons, List.drop_zero]
        repeat (go_big_quiet_step (fail))
        refine wpQuiet_nil ?_
        go_wp2_with fail
        refine hc.mono ?_
        rintro e w7 ⟨rfl, h7⟩
        have H7 : Hid (MI w PA (PA + 1) r1 b1 r2 b2 T (k + 1) w7) := h7.swap
        clear hc h7 e0 e1 e2 e3 e4 e5 z0 z1
        go_wp2_with fail
        refine thenQuiet_mk ?_
        repeat (go_big_quiet_step (fail))
        refine wpQuiet_nil ?_
        go_wp2
        go_roundw
        case rel => exact ⟨k + 1, hlt, by go_num, H7⟩
        case measure => simp [intOf]; omega
    · obtain rfl : k = ops.length := by omega
      have hc := hp.out.lookA HL.out
      have hk2 := HL.out
      clear y0 y1
      go_wp2_with fail
      refine hc.mono ?_
      rintro e w6 ⟨rfl, h6⟩
      obtain ⟨y0, y1⟩ := h6.swap.xa
      have hc2 := h6.swap.lookA HL.out
      clear hc h6 hp x0 x1
      go_wp2_with fail
      refine hc2.mono ?_
      rintro e w7 ⟨rfl, h7⟩
      have H7 : Hid (Below w.heap.size w w7) := h7.be
      clear hc2 h7 y0 y1
      go_wp2
      go_ret
      exact ⟨rfl, H7.out⟩

set_option maxRecDepth 40000 in
set_option maxHeartbeats 4000000 in
theorem all_out (ta tb tc : Int) (h : ¬ Mays ta tb tc) (a : Option Addr) (len cap : Nat) (w : World) :
    Calls Try.prog 7 #[.int .i64 ta, .int .i64 tb, .int .i64 tc, .slice a len cap] w fun e w' => e = .returned (.bool true) ∧ Below w.heap.size w w' := by
  have c1 := new_out ta tb tc h w
  have c2 := r5new_out ta tb tc h w
  clear h
  go_enter Try.func7, Try.ntmps7
  go_wp2_with fail
  refine c1.mono ?_
  rintro e w1 ⟨rfl, rfl⟩
  go_wp2_with fail
  refine c2.mono ?_
  rintro e w1 ⟨rfl, rfl⟩
  go_wp2_with fail
  refine c1.mono ?_
  rintro e w1 ⟨rfl, rfl⟩
  clear c1 c2
  go_wp2
  go_ret
  exact ⟨rfl, Below.refl _ _⟩

theorem all_stated (ta tb tc : Int) (a : Option Addr) (cap : Nat) (ops : List OpD) (hlen : ops.length < 8796092982208) (hrg : ∀ o ∈ ops, -9223372036854775808 ≤ o.n ∧ o.n < 9223372036854775808) (w : World) (hl : LOps w.heap.size w a ops) :
    Calls Try.prog 7 #[.int .i64 ta, .int .i64 tb, .int .i64 tc, .slice a ops.length cap] w fun e w' => e = .returned (.bool true) ∧ Below w.heap.size w w' := by
  by_cases h : Mays ta tb tc
  · unfold Mays at h
    obtain ⟨T, rfl⟩ : ∃ q : Nat, ta = q := ⟨ta.toNat, by omega⟩
    obtain ⟨m, rfl⟩ : ∃ q : Nat, tb = q := ⟨tb.toNat, by omega⟩
    obtain ⟨H, rfl⟩ : ∃ q : Nat, tc = q := ⟨tc.toNat, by omega⟩
    exact all_in T m H (by omega) (by omega) (by omega) (by omega) (by omega) a cap ops hlen hrg w hl
  · exact all_out ta tb tc h a ops.length cap w
end Go.Proofs.Ytemdmpfifcihfaa

/-
  A script that comes in, with the bounds of its numbers.
-/
set_option linter.unusedVariables false
namespace Go.Proofs.Ytemdmpfifcihfaa
open Go.ChangeShapes Go.WideShapes Go.ChangeAt Go.RowKit

theorem open_op2 {H : Type} {enc : TypeId × Value → H} {w : World} {base fuel : Nat} {sp : Nat → Bool} {held : Bool} {cs : List Value} {x : DataW H × List MemPlace}
    (hf : DataW.trod enc Try.prog w base sp held fuel 48 cs = some x) : ∃ o : OpD, cs = [.int .i64 o.k, .int .i64 o.t, .int .i64 o.n, .int .i64 o.x, .bool o.sec, .slice o.a o.l.length o.cap] ∧ Came w.heap.size w o.a o.l ∧ (-9223372036854775808 ≤ o.n ∧ o.n < 9223372036854775808) := by
  obtain ⟨xs, n, _, hx, hl, hlen, hf'⟩ := DataW.trod_struct Try.underlying48 hf
  rw [nop] at hl
  obtain ⟨c0, c1, c2, c3, c4, c5, rfl⟩ := list6 hl
  have key : ∀ i, i < 6 → ∃ y, xs[i]? = some y := fun i hi => ⟨_, List.getElem?_eq_getElem (by rw [hlen]; exact hi)⟩
  have f0 : DataW.trod enc Try.prog w base sp held n 3 [c0] = xs[0]? := by simpa [n3, n4, nl] using hf' 0 _ rfl
  obtain ⟨y0, e0⟩ := key 0 (by decide)
  rw [e0] at f0
  obtain ⟨z0, g0, _⟩ := DataW.trod_int Try.underlying3 f0
  have f1 : DataW.trod enc Try.prog w base sp held n 3 [c1] = xs[1]? := by simpa [n3, n4, nl] using hf' 1 _ rfl
  obtain ⟨y1, e1⟩ := key 1 (by decide)
  rw [e1] at f1
  obtain ⟨z1, g1, _⟩ := DataW.trod_int Try.underlying3 f1
  have f2 : DataW.trod enc Try.prog w base sp held n 3 [c2] = xs[2]? := by simpa [n3, n4, nl] using hf' 2 _ rfl
  obtain ⟨y2, e2⟩ := key 2 (by decide)
  rw [e2] at f2
  obtain ⟨z2, g2, _, wf2⟩ := DataW.trod_int Try.underlying3 f2
  have f3 : DataW.trod enc Try.prog w base sp held n 3 [c3] = xs[3]? := by simpa [n3, n4, nl] using hf' 3 _ rfl
  obtain ⟨y3, e3⟩ := key 3 (by decide)
  rw [e3] at f3
  obtain ⟨z3, g3, _⟩ := DataW.trod_int Try.underlying3 f3
  have f4 : DataW.trod enc Try.prog w base sp held n 4 [c4] = xs[4]? := by simpa [n3, n4, nl] using hf' 4 _ rfl
  obtain ⟨y4, e4⟩ := key 4 (by decide)
  rw [e4] at f4
  obtain ⟨z4, g4, _⟩ := DataW.trod_bool Try.underlying4 f4
  have f5 : DataW.trod enc Try.prog w base sp held n 31 [c5] = xs[5]? := by simpa [n3, n4, nl] using hf' 5 _ rfl
  obtain ⟨y5, e5⟩ := key 5 (by decide)
  rw [e5] at f5
  have g5 : ∃ a len cap, c5 = .slice a len cap := by
    rcases DataW.trod_slice Try.underlying31 f5 with ⟨h, _⟩ | ⟨x, l, c, _, _, _, _, h, _⟩
    · simp at h; exact ⟨_, _, _, h⟩
    · simp at h; exact ⟨_, _, _, h⟩
  obtain ⟨a, len, cap, rfl⟩ := g5
  obtain ⟨l, rfl, hc⟩ := open_came f5
  simp only [List.cons.injEq, and_true] at g0 g1 g2 g3 g4
  subst g0 g1 g2 g3 g4
  exact ⟨⟨z0, z1, z2, z3, z4, a, l, cap⟩, rfl, hc, by
    have h : IntKind.i64.min ≤ z2 ∧ z2 ≤ IntKind.i64.max := by simpa [Lit.wf] using wf2
    have e1 : IntKind.i64.min = -9223372036854775808 := by decide
    have e2 : IntKind.i64.max = 9223372036854775807 := by decide
    show -9223372036854775808 ≤ z2 ∧ z2 < 9223372036854775808
    omega⟩

/-- A script that comes in. -/
theorem open_ops2 {H : Type} {enc : TypeId × Value → H} {w : World} {sp : Nat → Bool} {held : Bool} {a : Option Addr} {len cap : Nat} {d : DataW H} {p : List MemPlace}
    (h : DataW.Trod enc Try.prog w 0 sp held 36 (.slice a len cap) d p) : ∃ ops : List OpD, ops.length = len ∧ LOps w.heap.size w a ops ∧ (∀ o ∈ ops, -9223372036854775808 ≤ o.n ∧ o.n < 9223372036854775808) ∧ (len = 0 ∨ ∃ es ss, d = .slice es ss ∧ es.length = len) := by
  obtain ⟨fuel, hf⟩ := h
  rcases DataW.trod_slice Try.underlying36 hf with ⟨hcs, _⟩ | ⟨x, l, c, elems, rest, n, _, hcs, hd, _, hl, hm, hel, hget, _⟩
  · simp [Value.cells] at hcs
    obtain ⟨rfl, rfl, rfl⟩ := hcs
    exact ⟨[], rfl, fun i o ho => by simp at ho, fun o ho => by simp at ho, .inl rfl⟩
  · simp [Value.cells] at hcs
    obtain ⟨rfl, rfl, rfl⟩ := hcs
    simp only [Prod.mk.injEq] at hd
    have cells : ∀ i, i < len → ∃ o : OpD, (∀ j, j < 6 → w.cell? ((x.add (i * 6)).add j) = ([Value.int .i64 o.k, .int .i64 o.t, .int .i64 o.n, .int .i64 o.x, .bool o.sec, .slice o.a o.l.length o.cap] : List Value)[j]?) ∧ Came w.heap.size w o.a o.l ∧ (-9223372036854775808 ≤ o.n ∧ o.n < 9223372036854775808) := by
      intro i hi
      have h1 := hget i hi
      rw [nop, List.getElem?_eq_getElem (by omega)] at h1
      obtain ⟨cs, hc, ht⟩ := Option.bind_eq_some_iff.1 h1
      obtain ⟨o, rfl, hcm, hr⟩ := open_op2 ht
      exact ⟨o, (World.cells?_some hc).2.2, hcm, hr⟩
    have each : ∀ i, i < len → ∃ o : OpD, (-9223372036854775808 ≤ o.n ∧ o.n < 9223372036854775808) ∧ ∃ g off, x = ⟨g, off, none⟩ ∧ g < w.heap.size ∧
        w.cell? ⟨g, off + i * 6, none⟩ = some (.int .i64 o.k) ∧ w.cell? ⟨g, off + i * 6 + 1, none⟩ = some (.int .i64 o.t) ∧ w.cell? ⟨g, off + i * 6 + 2, none⟩ = some (.int .i64 o.n) ∧
        w.cell? ⟨g, off + i * 6 + 3, none⟩ = some (.int .i64 o.x) ∧ w.cell? ⟨g, off + i * 6 + 4, none⟩ = some (.bool o.sec) ∧ w.cell? ⟨g, off + i * 6 + 5, none⟩ = some (.slice o.a o.l.length o.cap) ∧ Came w.heap.size w o.a o.l := by
      intro i hi
      obtain ⟨o0, h0, -⟩ := cells 0 (by omega)
      obtain ⟨g, off, spot⟩ := x
      have hspot : spot = none := by simpa [Addr.add] using World.cell?_spot (h0 0 (by decide))
      subst hspot
      obtain ⟨o, ho, hcm, hr⟩ := cells i hi
      simp only [add_plain] at ho
      have c0 := ho 0 (by decide)
      exact ⟨o, hr, g, off, rfl, World.block_lt_of_cell? _ _ c0, c0, ho 1 (by decide), ho 2 (by decide), ho 3 (by decide), ho 4 (by decide), ho 5 (by decide), hcm⟩
    refine ⟨(List.range len).map fun i => if h : i < len then (each i h).choose else ⟨0, 0, 0, 0, false, none, [], 0⟩, by simp, fun i o ho => ?_, fun o ho => ?_, .inr ⟨_, _, hd.1, by simp [hel]⟩⟩
    rotate_left
    · obtain ⟨i, hi, rfl⟩ := List.mem_map.1 ho
      have hi := List.mem_range.1 hi
      rw [dif_pos hi]
      exact (each i hi).choose_spec.1
    have hi : i < len := by have := (List.getElem?_eq_some_iff.1 ho).1; simpa using this
    have e : o = (each i hi).choose := by simpa [List.getElem?_map, List.getElem?_range hi, hi] using ho.symm
    obtain ⟨-, g, off, hx, hg, rest⟩ := (each i hi).choose_spec
    rw [e]
    exact ⟨g, off, by rw [hx], hg, rest⟩

end Go.Proofs.Ytemdmpfifcihfaa

