/-
  RootsMoves, walked.
-/
import Derived.Test.YtemdmpfifcihfaaR24
set_option linter.unusedVariables false
namespace Go.Proofs.Ytemdmpfifcihfaa
open Go.RowKit

/-- What stands ahead of Update. -/
structure Mv (w : World) (b N : Nat) (S : Sta) (F : List Nat) (n1 u : Nat) (v2 v3 : Value) (W : World) : Prop where
  h : Rts W w.heap.size b N S F
  be : Below w.heap.size w W
  was : Ls W n1 u v2 S.all
  held : Ls W n1 u v3 (tolds S.hs)
  f1 : ∀ k, k ∈ F → k < n1
  u1 : u ≤ W.heap.size
  wn : w.heap.size ≤ n1
  nu : n1 ≤ u

theorem Mv.below {w : World} {b N : Nat} {S : Sta} {F : List Nat} {n1 u : Nat} {v2 v3 : Value} {W W' : World} (m : Mv w b N S F n1 u v2 v3 W) (hb : Below W.heap.size W W') : Mv w b N S F n1 u v2 v3 W' :=
  ⟨m.h.nil (Touch.of_below hb _), m.be.trans (hb.mono m.be.size), m.was.below hb, m.held.below hb, m.f1, Nat.le_trans m.u1 hb.size, m.wn, m.nu⟩

/-- What stands behind Update. -/
structure Mw (w : World) (b N : Nat) (S S' : Sta) (F : List Nat) (n1 u s4 u4 : Nat) (v2 v3 vf : Value) (W : World) : Prop where
  h : Rts W w.heap.size b N S' F
  be : Below w.heap.size w W
  was : Ls W n1 u v2 S.all
  held : Ls W n1 u v3 (tolds S.hs)
  fr : Fr W s4 u4 vf (fun i => S.frames i) 8
  f1 : ∀ k, k ∈ F → k < n1
  u1 : u ≤ W.heap.size
  u2 : u4 ≤ W.heap.size
  n4 : n1 ≤ s4
  wn : w.heap.size ≤ n1

theorem Mw.below {w : World} {b N : Nat} {S S' : Sta} {F : List Nat} {n1 u s4 u4 : Nat} {v2 v3 vf : Value} {W W' : World} (m : Mw w b N S S' F n1 u s4 u4 v2 v3 vf W) (hb : Below W.heap.size W W') : Mw w b N S S' F n1 u s4 u4 v2 v3 vf W' :=
  ⟨m.h.nil (Touch.of_below hb _), m.be.trans (hb.mono m.be.size), m.was.below hb, m.held.below hb, m.fr.below hb, m.f1, Nat.le_trans m.u1 hb.size, Nat.le_trans m.u2 hb.size, m.n4, m.wn⟩

theorem Mw.touch {w : World} {b N : Nat} {S S' : Sta} {F : List Nat} {n1 u s4 u4 : Nat} {v2 v3 vf : Value} {W W' : World} (m : Mw w b N S S' F n1 u s4 u4 v2 v3 vf W) (ht : Touch F W W') (hR : Rts W' w.heap.size b N S' F) : Mw w b N S S' F n1 u s4 u4 v2 v3 vf W' :=
  ⟨hR, m.be.trans (ht.below m.be.size (fun k hk => (m.h.mem k hk).1)), m.was.keep ht (fun k hk => .inl (m.f1 k hk)), m.held.keep ht (fun k hk => .inl (m.f1 k hk)), m.fr.keep ht (fun k hk => .inl (Nat.lt_of_lt_of_le (m.f1 k hk) m.n4)), m.f1, Nat.le_trans m.u1 ht.size, Nat.le_trans m.u2 ht.size, m.n4, m.wn⟩

/-- An element of a list that was handed out. -/
theorem Ls.at {W : World} {s u : Nat} {a : Option Addr} {n cap : Nat} {xs : List Int} (h : Ls W s u (.slice a n cap) xs) {k : Nat} {x : Int} (hx : xs[k]? = some x) : ∃ g off, a = some ⟨g, off, none⟩ ∧ W.cell? ⟨g, off + k, none⟩ = some (.int .i64 x) := by
  obtain ⟨a', cap', e, hc⟩ := is_slice h.is
  simp only [Value.slice.injEq] at e
  obtain ⟨rfl, -, -⟩ := e
  exact hc k x hx

set_option maxRecDepth 40000 in
set_option maxHeartbeats 8000000 in
theorem moves_any (th sl hn : Int) (a at' : Option Addr) (cap cap' : Nat) (ops : List OpD) (l : List Int) (w : World) (hl : LOps w.heap.size w a ops) (hto : Came w.heap.size w at' l) (hlen : ops.length < 4398046511104)
    (b1 : -9223372036854775808 ≤ th ∧ th < 9223372036854775808) (b2 : -9223372036854775808 ≤ sl ∧ sl < 9223372036854775808) (b3 : -9223372036854775808 ≤ hn ∧ hn < 9223372036854775808) :
    Calls Try.prog 5 #[.int .i64 th, .int .i64 sl, .int .i64 hn, .slice a ops.length cap, .slice at' l.length cap'] w fun e w' => e = .returned (.bool true) ∧ Below w.heap.size w w' := by
  have hkn := known_any w
  have Hl : Hid (LOps w.heap.size w a ops) := hl
  have Hto : Hid (Came w.heap.size w at' l) := hto
  have HL : Hid (ops.length < 4398046511104) := hlen
  obtain ⟨i0, hi0, hz0, hz1, hz2⟩ := info_parts Try.infoInts
  obtain ⟨j0, hj0, hy0, hy1, hy2⟩ := info_parts Try.infoInt
  have HH : Hid ((Try.prog.info? 31 = some i0) ∧ i0.zero = some (.slice none 0 0) ∧ i0.size = 1 ∧ i0.bytes = 24) := ⟨hi0, hz0, hz1, hz2⟩
  have HI : Hid ((Try.prog.info? 3 = some j0) ∧ j0.zero = some (.int .i64 0) ∧ j0.size = 1 ∧ j0.bytes = 8) := ⟨hj0, hy0, hy1, hy2⟩
  have B3 : Hid ((-9223372036854775808 ≤ th ∧ th < 9223372036854775808) ∧ (-9223372036854775808 ≤ sl ∧ sl < 9223372036854775808) ∧ (-9223372036854775808 ≤ hn ∧ hn < 9223372036854775808)) := ⟨b1, b2, b3⟩
  clear hl hto hlen hi0 hz0 hz1 hz2 hj0 hy0 hy1 hy2 b1 b2 b3
  go_enter Try.func5, Try.ntmps5
  go_wp2_with fail
  refine hkn.mono ?_
  rintro e w0 ⟨rfl, be0⟩
  have B0 : Hid (Below w.heap.size w w0) := be0
  have hpl := played_any th sl hn a cap ops w0 (Hl.out.up be0 be0.size) (by have := HL.out; omega) B3.out.1 B3.out.2.1 B3.out.2.2
  clear hkn be0
  go_wp2_with fail
  refine hpl.mono ?_
  rintro e w1 ⟨b, rfl, P⟩
  obtain ⟨N, S, F, h1, ok, -, -, hN⟩ := P.ex
  have OK : Hid S.Ok := ok
  have HN : Hid (N ≤ ops.length) := hN
  have h1' : Rts w1 w.heap.size b N S F := h1.base B0.out.size
  have B1 : Hid (Below w.heap.size w w1) := B0.out.trans (P.be.mono B0.out.size)
  have H1 : Hid (Rts w1 w.heap.size b N S F) := h1'
  have ha := all_any w.heap.size b N S F w1 h1' ok (by have := HL.out; omega)
  clear hpl P h1 h1' ok hN B0
  go_wp2_with fail
  refine ha.mono ?_
  rintro e w2 ⟨v2, rfl, o2, h2, t2⟩
  have B2 : Hid (Below w.heap.size w w2) := B1.out.trans (t2.below B1.out.size (fun k hk => (H1.out.mem k hk).1))
  have F1 : Hid (∀ k, k ∈ F → k < w1.heap.size) := fun k hk => (H1.out.mem k hk).2
  have L2 : Hid (Ls w2 w1.heap.size w2.heap.size v2 S.all) := Ls.new o2
  have T2 : Hid (w1.heap.size ≤ w2.heap.size) := t2.size
  have H2 : Hid (Rts w2 w.heap.size b N S F) := h2
  have hh := handles_any w.heap.size b N S F w2 h2 OK.out
  obtain ⟨a2, c2, e2⟩ := own_slice o2
  subst e2
  clear ha o2 h2 t2
  go_wp2_with fail
  refine hh.mono ?_
  rintro e w3 ⟨v3, rfl, o3, b3⟩
  have et : (tolds S.hs).length = S.hs.length := by simp [tolds]
  have M3 : Hid (Mv w b N S F w1.heap.size w3.heap.size (.slice a2 S.all.length c2) v3 w3) := by
    refine ⟨H2.out.nil (Touch.of_below b3 _), B2.out.trans (b3.mono B2.out.size), (L2.out.below b3).up b3.size, ?_, F1.out, Nat.le_refl _, B1.out.size, Nat.le_trans T2.out b3.size⟩
    have := Ls.new (W := w3) (s := w2.heap.size) (v := v3) (xs := tolds S.hs) (by rw [et]; exact o3)
    exact this.down T2.out
  obtain ⟨a3, c3, e3⟩ := own_slice o3
  subst e3
  have hq := queue_any w.heap.size b N S F w3 M3.out.h (by have := HL.out; have := HN.out; omega)
  clear hh o3 b3 et H2 B2 L2 H1 B1 F1 T2
  go_wp2_with fail
  refine hq.mono ?_
  rintro e w4 ⟨v4, rfl, o4, b4⟩
  have M4 : Hid (Mv w b N S F w1.heap.size w3.heap.size (.slice a2 S.all.length c2) (.slice a3 S.hs.length c3) w4) := M3.out.below b4
  obtain ⟨a4, c4, e4⟩ := own_slice o4
  subst e4
  clear hq o4 b4 M3
  go_wp2
  go_loopw [16, 17] (fun v i wr => ∃ (k : Nat), k ≤ 8 ∧ i = .int .i64 k ∧ Hid (Fr wr w4.heap.size wr.heap.size v (fun i => S.frames i) k) ∧ Hid (Below w4.heap.size w4 wr)) (fun _ i _ => 8 - (intOf i).toNat)
  case atStart => exact ⟨0, Nat.zero_le _, rfl, ⟨⟨[], rfl, World.ownsRow_nil _ _ _ _, fun i x hx => by simp at hx⟩, fun k e => by simp [Value.ownBlock] at e⟩, Below.refl _ _⟩
  case round =>
    obtain ⟨k, hk, rfl, hf, hb⟩ := hrel
    obtain ⟨fs, f1, f2, f3⟩ := hf.out.ex
    obtain ⟨af, cf, ef⟩ := own_slice f2
    subst ef
    by_cases hlt : k < 8
    · have hki : (k : Int) < 8 := by omega
      have hfr := frames_any w.heap.size b N (k : Int) S F wr (M4.out.h.nil (Touch.of_below (hb.out) _)) OK.out
      have FF : Hid (fs.length = k ∧ wr.ownsRow w4.heap.size 31 1 (.slice af k cf) k fs ∧ ∀ (i : Nat) x, fs[i]? = some x → Ls wr w4.heap.size wr.heap.size x (S.frames i)) := ⟨f1, f2, f3⟩
      clear f1 f2 f3 hf
      go_wp2_with fail
      refine hfr.mono ?_
      rintro e w5 ⟨v5, rfl, o5, b5⟩
      have hb5 : Hid (Below w4.heap.size w4 w5) := hb.out.trans (b5.mono hb.out.size)
      obtain ⟨q1, q2, q3⟩ := FF.out
      have q2' : w5.ownsRow w4.heap.size 31 1 (.slice af k cf) k fs := own_keep (k := 0) q2 (fun i e => b5.block i (q2.lt i e).2)
      have FF5 : Hid (fs.length = k ∧ w5.ownsRow w4.heap.size 31 1 (.slice af k cf) k fs ∧ (∀ (i : Nat) x, fs[i]? = some x → Ls w5 w4.heap.size w5.heap.size x (S.frames i)) ∧ Ls w5 w4.heap.size w5.heap.size v5 (S.frames k)) :=
        ⟨q1, q2', fun i x hx => ((q3 i x hx).below b5).up b5.size, (Ls.new o5).down hb.out.size⟩
      obtain ⟨a5, c5, e5⟩ := own_slice o5
      subst e5
      generalize (S.frames (k : Int)).length = n5 at *
      clear hfr o5 b5 q1 q2 q3 q2' FF hb
      go_wp2_with (at_builtin; refine wpList_append_own_at _ rfl _ _ 41 rfl w4.heap.size 31 i0 (.slice none 0 0) 1 24 Try.underlying41 HH.out.1 HH.out.2.1 HH.out.2.2.1 HH.out.2.2.2 rfl (by decide) _ _ _ rfl (FF5.out.2.1.alloc _) ⟨w5.heap.size, 0, none⟩ 1 1 [.slice a5 n5 c5] rfl rfl (cell_one_new _ _ _) (by simp [Value.oneCell']) (by simp [maxLen]; omega) (by omega) (by have := hb5.out.size; simp; omega) ?_)
      intro v6 w6 o6 g6 _ _
      have F6 : Hid (Fr w6 w4.heap.size w6.heap.size v6 (fun i => S.frames i) (k + 1)) := Fr.snoc (f := fun i => S.frames (i : Int)) FF5.out.1 FF5.out.2.1 FF5.out.2.2.1 FF5.out.2.2.2 o6 g6
      have hb6 : Hid (Below w4.heap.size w4 w6) := (hb5.out.alloc hb5.out.size _).grown g6 (by have := hb5.out.size; simp; omega) (fun i e => (FF5.out.2.1.lt i e).1)
      obtain ⟨a6, c6, e6⟩ := own_slice o6
      subst e6
      clear o6 g6 FF5 hb5
      go_wp2
      go_roundw
      case rel => exact ⟨k + 1, hlt, by go_num, F6, hb6⟩
      case measure => simp [intOf]; omega
    · obtain rfl : k = 8 := by omega
      have M5 : Hid (Mv w b N S F w1.heap.size w3.heap.size (.slice a2 S.all.length c2) (.slice a3 S.hs.length c3) wr) := M4.out.below hb.out
      have W4 : Hid (w1.heap.size ≤ w4.heap.size ∧ w4.heap.size ≤ wr.heap.size ∧ w3.heap.size ≤ w4.heap.size) := ⟨Nat.le_trans M4.out.nu M4.out.u1, hb.out.size, M4.out.u1⟩
      obtain ⟨K, hK⟩ : ∃ K, K = wr.heap.size := ⟨_, rfl⟩
      have hup := update_any w.heap.size b N wr.heap.size w.heap.size cap' at' l S F (wr.alloc (.cells #[.slice at' l.length cap', .slice none 0 0] 56)) (M5.out.h.nil (Touch.alloc _ _ _)) OK.out (by have := HL.out; have := HN.out; omega) (heap_alloc_new wr _)
        (Hto.out.keep (fun k hk => (Below.heap_alloc wr _ k (by have := M5.out.be.size; omega)).trans (M5.out.be.block k hk))) (fun hk => by have := (M5.out.h.mem _ hk).2; omega) (Nat.le_refl _) M5.out.be.size
      have FR : Hid (Fr wr w4.heap.size wr.heap.size (.slice af 8 cf) (fun i => S.frames i) 8) := hf.out
      clear f1 f2 f3 hf hb M4 hK
      go_wp2_with fail
      refine hup.mono ?_
      rintro e w5 ⟨rfl, h5, ⟨v5, k5, o5⟩, t5⟩
      have ok' : Hid (S.vis (ansU l)).Ok := OK.out.vis (fun pre x _ => adr_nn _)
      have M6 : Hid (Mw w b N S (S.vis (ansU l)) F w1.heap.size w3.heap.size w4.heap.size wr.heap.size (.slice a2 S.all.length c2) (.slice a3 S.hs.length c3) (.slice af 8 cf) w5) := by
        have ba := Below.alloc (Below.refl wr.heap.size wr) (Nat.le_refl _) (.cells #[.slice at' l.length cap', .slice none 0 0] 56)
        have m := M5.out.below ba
        have hKF : ∀ s u, w1.heap.size ≤ s → u ≤ wr.heap.size → ∀ k, k ∈ wr.heap.size :: F → k < s ∨ u ≤ k := fun s u hs hu k hk => by
          rcases List.mem_cons.1 hk with rfl | hk
          · exact .inr hu
          · exact .inl (Nat.lt_of_lt_of_le (M5.out.f1 k hk) hs)
        have u5 := M5.out.u1
        have s5 := t5.size
        simp at s5
        refine ⟨h5, m.be.trans (t5.below m.be.size (fun k hk => ?_)), m.was.keep t5 (hKF _ _ (Nat.le_refl _) u5), m.held.keep t5 (hKF _ _ (Nat.le_refl _) u5), (FR.out.below ba).keep t5 (hKF _ _ W4.out.1 (Nat.le_refl _)), M5.out.f1, by omega, by omega, W4.out.1, M5.out.wn⟩
        rcases List.mem_cons.1 hk with rfl | hk
        · exact M5.out.be.size
        · exact (M5.out.h.mem k hk).1
      have kc : w5.cell? ⟨wr.heap.size, 1, none⟩ = some v5 := by have := heap_cell k5 1; simpa using this
      have hsa := same_any v5 (.slice a2 S.all.length c2) S.all S.all w5 (own_is o5) M6.out.was.is (by have h1 := all_len OK.out; have h2 := M5.out.h.queN; have := HL.out; have := HN.out; omega)
      rw [show decide (S.all = S.all) = true by simp] at hsa
      obtain ⟨a5, c5, e5⟩ := own_slice o5
      subst e5
      clear hup h5 k5 o5 t5 M5 FR
      go_wp2_with fail
      refine hsa.mono ?_
      rintro e w6 ⟨rfl, nq, rfl⟩
      have M7 : Hid (Mw w b N S (S.vis (ansU l)) F w1.heap.size w3.heap.size w4.heap.size wr.heap.size (.slice a2 S.all.length c2) (.slice a3 S.hs.length c3) (.slice af 8 cf) (w5.drewN nq)) := M6.out.below (below_drewN (Below.refl _ _) _)
      clear hsa kc M6
      generalize w5.drewN nq = w6 at *
      go_wp2
      have hal : Hid (S.all.length < 4398046600000) := by have h1 := all_len OK.out; have h2 := M7.out.h.queN; have e : (S.vis (ansU l)).qs.length = S.qs.length := newl_length _ _ _; have := HL.out; have := HN.out; show S.all.length < 4398046600000; omega
      go_loopw [19, 20] (fun v i wq => ∃ (k : Nat), k ≤ S.all.length ∧ i = .int .i64 k ∧ Hid (Ls wq w6.heap.size wq.heap.size v (wnt l 0 k)) ∧ Hid (Below w6.heap.size w6 wq)) (fun _ i _ => S.all.length - (intOf i).toNat)
      case atStart => exact ⟨0, Nat.zero_le _, rfl, ⟨by rw [wnt_zero]; exact World.ownsRow_nil _ _ _ _, fun k e => by simp [Value.ownBlock] at e⟩, Below.refl _ _⟩
      case round =>
        obtain ⟨k, hk, rfl, hw, hb⟩ := hrel
        obtain ⟨aw, cw, ew⟩ := own_slice hw.out.o
        subst ew
        by_cases hlt : k < S.all.length
        · have hki : (k : Int) < (S.all.length : Int) := by omega
          have hk2 : k < 4398046600000 := by have := hal.out; omega
          have hto := Hto.out.keep (fun j hj => (hb.out.block j (by have := M7.out.be.size; omega)).trans (M7.out.be.block j hj))
          by_cases hll : k < l.length
          · obtain ⟨x, hx⟩ : ∃ x, l[k]? = some x := ⟨_, List.getElem?_eq_getElem hll⟩
            obtain ⟨g, off, ea, hg, hc⟩ := hto k x hx
            subst ea
            have hkl : (k : Int) < (l.length : Int) := by omega
            by_cases h0 : 0 < x
            · have Hx : Hid (wnt l 0 (k + 1) = wnt l 0 k ++ [x]) := wnt_yes hx h0
              have Hwl : Hid ((wnt l 0 k).length ≤ k) := wnt_len l k
              clear hx hto
              go_wp2_with (at_builtin; refine wpList_append_own_at _ rfl _ _ 31 rfl w6.heap.size 3 j0 (.int .i64 0) 1 8 Try.underlying31 HI.out.1 HI.out.2.1 HI.out.2.2.1 HI.out.2.2.2 rfl (by decide) _ _ _ rfl (hw.out.o.alloc _) ⟨wr.heap.size, 0, none⟩ 1 1 [.int .i64 x] rfl rfl (cell_one_new _ _ _) (by simp [Value.oneCell']) (by have := Hwl.out; simp [maxLen]; omega) (by have := Hwl.out; omega) (by have := hb.out.size; simp; omega) ?_)
              intro v7 w7 o7 g7 _ _
              have L7 : Hid (Ls w7 w6.heap.size w7.heap.size v7 (wnt l 0 (k + 1))) := by
                rw [Hx.out]
                exact Ls.new (by simpa using o7)
              have hb7 : Hid (Below w6.heap.size w6 w7) := (hb.out.alloc hb.out.size _).grown g7 (by have := hb.out.size; simp; omega) (fun i e => (hw.out.o.lt i e).1)
              obtain ⟨a7, c7, e7⟩ := own_slice o7
              subst e7
              clear o7 g7 hw hb Hx
              go_wp2
              go_roundw
              case rel => exact ⟨k + 1, hlt, by go_num, L7, hb7⟩
              case measure => simp [intOf]; omega
            · have Hx : Hid (wnt l 0 (k + 1) = wnt l 0 k) := wnt_no (fun y hy => by rw [hx] at hy; cases hy; exact h0)
              clear hx hto
              go_wp2
              go_roundw
              case rel => exact ⟨k + 1, hlt, by go_num, by rw [Hx.out]; exact hw, hb⟩
              case measure => simp [intOf]; omega
          · have Hx : Hid (wnt l 0 (k + 1) = wnt l 0 k) := wnt_no (fun y hy => by have := (List.getElem?_eq_some_iff.1 hy).1; omega)
            have hkl : ¬ (k : Int) < (l.length : Int) := by omega
            clear hto
            go_wp2
            go_roundw
            case rel => exact ⟨k + 1, hlt, by go_num, by rw [Hx.out]; exact hw, hb⟩
            case measure => simp [intOf]; omega
        · obtain rfl : k = S.all.length := by omega
          have M8 : Hid (Mw w b N S (S.vis (ansU l)) F w1.heap.size w3.heap.size w4.heap.size _ (.slice a2 S.all.length c2) (.slice a3 S.hs.length c3) (.slice af 8 cf) wr) := M7.out.below hb.out
          have n6 : Hid (w1.heap.size ≤ w6.heap.size) := by have h1 := M7.out.u2; have h2 := W4.out; show w1.heap.size ≤ w6.heap.size; omega
          have n6b : Hid (w6.heap.size ≤ wr.heap.size) := hb.out.size
          have hh := handles_any w.heap.size b N _ F wr M8.out.h ok'.out
          rw [show (S.vis (ansU l)).hs.length = S.hs.length from hnew_length _ _ _] at hh
          clear M7 hb
          go_wp2_with fail
          refine hh.mono ?_
          rintro e w7 ⟨v7, rfl, o7, b7⟩
          have e7 : (tolds (S.vis (ansU l)).hs).length = S.hs.length := by simp [tolds, Sta.vis, hnew_length]
          have L7 : Hid (Ls w7 wr.heap.size w7.heap.size v7 (tolds (S.vis (ansU l)).hs)) := Ls.new (by rw [e7]; exact o7)
          have M9 : Hid (Mw w b N S (S.vis (ansU l)) F w1.heap.size w3.heap.size w4.heap.size _ (.slice a2 S.all.length c2) (.slice a3 S.hs.length c3) (.slice af 8 cf) w7) := M8.out.below b7
          have W7 : Hid (Ls w7 w6.heap.size wr.heap.size (.slice aw (wnt l 0 S.all.length).length cw) (wnt l 0 S.all.length)) := hw.out.below b7
          have s7 : Hid (wr.heap.size ≤ w7.heap.size ∧ w6.heap.size ≤ wr.heap.size) := ⟨b7.size, n6b.out⟩
          have ha := all_any w.heap.size b N _ F w7 M9.out.h ok'.out (by have := HL.out; have := HN.out; omega)
          rw [all_vis] at ha
          obtain ⟨a7, c7, ex7⟩ := own_slice o7
          subst ex7
          clear hh o7 b7 M8 hw
          go_wp2_with fail
          refine ha.mono ?_
          rintro e w8 ⟨v8, rfl, o8, h8, t8⟩
          have M10 : Hid (Mw w b N S (S.vis (ansU l)) F w1.heap.size w3.heap.size w4.heap.size _ (.slice a2 S.all.length c2) (.slice a3 S.hs.length c3) (.slice af 8 cf) w8) := M9.out.touch t8 h8
          have L8 : Hid (Ls w8 wr.heap.size w7.heap.size (.slice a7 S.hs.length c7) (tolds (S.vis (ansU l)).hs)) := L7.out.keep t8 (fun k hk => .inl (by have h1 := M9.out.f1 k hk; have h2 := n6.out; have h3 := s7.out; omega))
          have W8 := W7.out.keep t8 (fun k hk => .inl (by have h1 := M9.out.f1 k hk; have h2 := n6.out; omega))
          have hsa := same_any v8 (.slice aw (wnt l 0 S.all.length).length cw) _ _ w8 (own_is o8) W8.is (by have h1 := wnt_len l S.all.length; have := hal.out; omega)
          rw [show decide (wnt l 0 S.all.length = wnt l 0 S.all.length) = true by simp] at hsa
          obtain ⟨a8, c8, ex8⟩ := own_slice o8
          subst ex8
          clear ha o8 h8 t8 M9 L7 W7 W8
          go_wp2_with fail
          refine hsa.mono ?_
          rintro e w9 ⟨rfl, nq, rfl⟩
          have M11 : Hid (Mw w b N S (S.vis (ansU l)) F w1.heap.size w3.heap.size w4.heap.size _ (.slice a2 S.all.length c2) (.slice a3 S.hs.length c3) (.slice af 8 cf) (w8.drewN nq)) := M10.out.below (below_drewN (Below.refl _ _) _)
          have L9 : Hid (Ls (w8.drewN nq) wr.heap.size w7.heap.size (.slice a7 S.hs.length c7) (tolds (S.vis (ansU l)).hs)) := L8.out.below (below_drewN (Below.refl _ _) _)
          have hq := queue_any w.heap.size b N _ F (w8.drewN nq) M11.out.h (by have := HL.out; have := HN.out; omega)
          rw [show (S.vis (ansU l)).qs.length = S.qs.length from newl_length _ _ _] at hq
          clear hsa M10 L8
          generalize w8.drewN nq = w9 at *
          go_wp2_with fail
          refine hq.mono ?_
          rintro e w10 ⟨v10, rfl, o10, b10⟩
          have M12 : Hid (Mw w b N S (S.vis (ansU l)) F w1.heap.size w3.heap.size w4.heap.size _ (.slice a2 S.all.length c2) (.slice a3 S.hs.length c3) (.slice af 8 cf) w10) := M11.out.below b10
          have L10 : Hid (Ls w10 wr.heap.size w7.heap.size (.slice a7 S.hs.length c7) (tolds (S.vis (ansU l)).hs)) := L9.out.below b10
          obtain ⟨a10, c10, ex10⟩ := own_slice o10
          subst ex10
          clear hq o10 b10 M11 L9
          go_wp2
          have hs4 : Hid (S.hs.length ≤ 1024) := OK.out.hn
          go_loopw [22] (fun i wq => ∃ (k q : Nat), k ≤ S.hs.length ∧ i = .int .i64 k ∧ wq = w10.drewN q) (fun i _ => S.hs.length - (intOf i).toNat)
          case atStart => exact ⟨0, 0, Nat.zero_le _, rfl, rfl⟩
          case round =>
            obtain ⟨k, qd, hk, rfl, rfl⟩ := hrel
            by_cases hlt : k < S.hs.length
            · obtain ⟨o, ho⟩ : ∃ o, S.hs[k]? = some o := ⟨_, List.getElem?_eq_getElem hlt⟩
              obtain ⟨t1, y, t2, t3, t4⟩ := told_vis l OK.out k o ho
              obtain ⟨g7, o7, ea7, k7⟩ := L10.out.at t2
              obtain ⟨g3, o3, ea3, k3⟩ := M12.out.held.at t1
              subst ea7
              subst ea3
              have hki : (k : Int) < (S.hs.length : Int) := by omega
              have hk1 : k < 1024 := by have := hs4.out; omega
              clear t1 t2 ho
              cases o with
              | none =>
                have ey := t3 rfl
                subst ey
                simp only [Option.getD_none] at k3
                clear t3 t4
                go_wp2
                go_quiet (fail)
                go_wp2
                go_roundw
                case rel => exact ⟨k + 1, _, hlt, by go_num, rfl⟩
                case measure => simp [intOf]; omega
              | some x =>
                obtain ⟨x0, y0, xy⟩ := t4 x rfl
                simp only [Option.getD_some] at k3
                have p1 : decide (x < 0) = false := by simp; omega
                have p2 : decide (y < 0) = false := by simp; omega
                clear t3 t4
                by_cases ex : x = 0
                · subst ex
                  have ey := xy rfl
                  subst ey
                  clear xy p1 p2 x0 y0
                  go_wp2
                  go_quiet (fail)
                  go_wp2
                  go_roundw
                  case rel => exact ⟨k + 1, _, hlt, by go_num, rfl⟩
                  case measure => simp [intOf]; omega
                · have p3 : (x == 0) = false := by simpa using ex
                  clear xy x0 y0 ex
                  go_wp2
                  go_quiet (fail)
                  go_wp2
                  go_roundw
                  case rel => exact ⟨k + 1, _, hlt, by go_num, rfl⟩
                  case measure => simp [intOf]; omega
            · obtain rfl : k = S.hs.length := by omega
              have M13 : Hid (Mw w b N S (S.vis (ansU l)) F w1.heap.size w3.heap.size w4.heap.size _ (.slice a2 S.all.length c2) (.slice a3 S.hs.length c3) (.slice af 8 cf) (w10.drewN qd)) := M12.out.below (below_drewN (Below.refl _ _) _)
              clear M12 L10
              generalize w10.drewN qd = w11 at *
              go_wp2
              go_loopw [23] (fun i wq => ∃ (k : Nat), k ≤ 8 ∧ i = .int .i64 k ∧ Hid (Below w11.heap.size w11 wq)) (fun i _ => 8 - (intOf i).toNat)
              case atStart => exact ⟨0, Nat.zero_le _, rfl, Below.refl _ _⟩
              case round =>
                obtain ⟨k, hk, rfl, hb⟩ := hrel
                by_cases hlt : k < 8
                · have M14 := M13.out.below hb.out
                  have hfr := frames_any w.heap.size b N (k : Int) _ F wr.drew (M14.h.nil (Touch.drew _ _)) ok'.out
                  rw [frames_vis] at hfr
                  obtain ⟨fs', g1, g2, g3⟩ := M14.fr.ex
                  obtain ⟨gf, df, ef, -, -⟩ := own_addr g2 (by decide)
                  simp only [Value.slice.injEq, true_and] at ef
                  obtain ⟨rfl, rfl⟩ := ef
                  obtain ⟨x, hx⟩ : ∃ x, fs'[k]? = some x := ⟨fs'[k]'(by omega), List.getElem?_eq_getElem _⟩
                  have lx := g3 k x hx
                  obtain ⟨ax, cx, ex⟩ := own_slice lx.o
                  subst ex
                  have kx : wr.cell? ⟨gf, k, none⟩ = some (.slice ax (S.frames k).length cx) := by
                    rw [g2.cellAt k (by omega)]; exact hx
                  have hgf : gf < wr.heap.size := World.block_lt_of_cell? _ _ kx
                  have hfl : (S.frames k).length < 9223372036854775807 := by
                    unfold Sta.frames
                    split
                    · rename_i hh; have := OK.out.frames (t := k) (by omega); simp; omega
                    · simp
                  have hsm : ∀ (w12 : World) (v' : Value), w12.ownsRow wr.heap.size 3 1 v' (S.frames k).length (ints (S.frames k)) → Below wr.heap.size wr w12 → Calls Try.prog 28 #[v', .slice ax (S.frames k).length cx] w12 (fun e w' => e = .returned (.bool true) ∧ ∃ nq, w' = w12.drewN nq) := fun w12 v' o12 b12 => by
                    have := same_any v' (.slice ax (S.frames k).length cx) (S.frames k) (S.frames k) w12 (own_is o12) (lx.below b12).is hfl
                    simpa using this
                  have Hsm : Hid (∀ (w12 : World) (v' : Value), w12.ownsRow wr.heap.size 3 1 v' (S.frames k).length (ints (S.frames k)) → Below wr.heap.size wr w12 → Calls Try.prog 28 #[v', .slice ax (S.frames k).length cx] w12 (fun e w' => e = .returned (.bool true) ∧ ∃ nq, w' = w12.drewN nq)) := hsm
                  have Hfr : Hid (Calls Try.prog 20 #[.pointer (some ⟨b, 0, none⟩), .int .i64 k] wr.drew fun e w' => ∃ v', e = .returned v' ∧ w'.ownsRow wr.heap.size 3 1 v' (S.frames k).length (ints (S.frames k)) ∧ Below wr.heap.size wr w') := hfr.mono (fun e w' ⟨v', h1, h2, h3⟩ => ⟨v', h1, h2, (below_drewN (Below.refl _ wr) 1).trans h3⟩)
                  have hki : (k : Int) < 8 := by omega
                  clear g1 g2 g3 hx lx hfr hsm M14
                  generalize (S.frames (k : Int)).length = nf at *
                  generalize ints (S.frames (k : Int)) = xf at *
                  go_wp2_with fail
                  go_region_with (first | (go_at_call 20; refine Hfr.out.mono ?_; rintro e w12 ⟨v', rfl, o12, b12⟩; obtain ⟨a12, c12, e12⟩ := own_slice o12; subst e12; have kx2 : w12.cell? ⟨gf, k, none⟩ = some (.slice ax nf cx) := (b12.cell (p := ⟨gf, k, none⟩) hgf).trans kx) | (go_at_call 28; refine (Hsm.out _ _ (by assumption) (by assumption)).mono ?_; rintro e w13 ⟨rfl, nq, rfl⟩))
                  all_goals
                    have b13 : Hid (Below w11.heap.size w11 (w12.drewN nq)) := hb.out.trans ((below_drewN b12 nq).mono hb.out.size)
                    clear o12 b12 kx2
                    go_wp2
                    go_roundw
                    case rel => exact ⟨k + 1, hlt, by go_num, b13⟩
                    case measure => simp [intOf]; omega
                · obtain rfl : k = 8 := by omega
                  have bf := M13.out.be.trans (hb.out.mono M13.out.be.size)
                  go_wp2
                  go_ret
                  exact ⟨rfl, bf⟩

end Go.Proofs.Ytemdmpfifcihfaa
