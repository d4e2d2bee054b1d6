/-
  RootsHandles, walked.
-/
import Derived.Test.YtemdmpfifcihfaaR35
set_option linter.unusedVariables false
namespace Go.Proofs.Ytemdmpfifcihfaa
open Go.RowKit

theorem wrap_in (n : Int) (h : -9223372036854775808 ≤ n ∧ n ≤ 9223372036854775807) : wrap64 n = n := by unfold wrap64; omega

theorem meas {n L : Nat} (h : n < L) (hL : L < 4398046511104) : L - (wrap64 ((n : Int) + 1)).toNat < L - n := by
  rw [wrap_in _ ⟨by omega, by omega⟩]
  omega

set_option maxRecDepth 40000 in
set_option maxHeartbeats 8000000 in
theorem handles_law (th sl hn : Int) (a av : Option Addr) (cap capv : Nat) (ops : List OpD) (l : List Int) (w : World) (hl : LOps w.heap.size w a ops) (hv : Came w.heap.size w av l) (hlen : ops.length < 4398046511104) (hlenv : l.length < 4398046511104)
    (b1 : -9223372036854775808 ≤ th ∧ th < 9223372036854775808) (b2 : -9223372036854775808 ≤ sl ∧ sl < 9223372036854775808) (b3 : -9223372036854775808 ≤ hn ∧ hn < 9223372036854775808) :
    Calls Try.prog 6 #[.int .i64 th, .int .i64 sl, .int .i64 hn, .slice a ops.length cap, .slice av l.length capv] w fun e w' => e = .returned (.bool true) ∧ Below w.heap.size w w' := by
  have hkn := known_any w
  obtain ⟨j0, hj0, hy0, hy1, hy2⟩ := info_parts Try.infoInt
  have HI : Hid ((Try.prog.info? 3 = some j0) ∧ j0.zero = some (.int .i64 0) ∧ j0.size = 1 ∧ j0.bytes = 8) := ⟨hj0, hy0, hy1, hy2⟩
  have Hl : Hid (LOps w.heap.size w a ops) := hl
  have Hv : Hid (Came w.heap.size w av l) := hv
  have HL : Hid (ops.length < 4398046511104 ∧ l.length < 4398046511104) := ⟨hlen, hlenv⟩
  have B3 : Hid ((-9223372036854775808 ≤ th ∧ th < 9223372036854775808) ∧ (-9223372036854775808 ≤ sl ∧ sl < 9223372036854775808) ∧ (-9223372036854775808 ≤ hn ∧ hn < 9223372036854775808)) := ⟨b1, b2, b3⟩
  clear hl hv hlen hlenv b1 b2 b3 hj0 hy0 hy1 hy2
  go_enter Try.func6, Try.ntmps6
  go_wp2_with fail
  refine hkn.mono ?_
  rintro e w0 ⟨rfl, be0⟩
  have B0 : Hid (Below w.heap.size w w0) := be0
  have hpl := played_any th sl hn a cap ops w0 (Hl.out.up be0 be0.size) (by have := HL.out; omega) B3.out.1 B3.out.2.1 B3.out.2.2
  clear hkn be0
  go_wp2_with fail
  refine hpl.mono ?_
  rintro e w1 ⟨b, rfl, P⟩
  obtain ⟨N, S, F, h1, ok, -, -, hN⟩ := P.ex
  have OK : Hid S.Ok := ok
  have HN : Hid (N ≤ ops.length) := hN
  have H1 : Hid (Rts w1 w.heap.size b N S F) := h1.base B0.out.size
  have B1 : Hid (Below w.heap.size w w1) := B0.out.trans (P.be.mono B0.out.size)
  clear hpl P h1 ok hN B0
  have hh := handles_any w.heap.size b N S F w1 H1.out OK.out
  go_wp2_with fail
  refine hh.mono ?_
  rintro e w2 ⟨v2, rfl, o2, b2⟩
  have L2 : Hid (Ls w2 w1.heap.size w2.heap.size v2 (tolds S.hs) ∧ Below w1.heap.size w1 w2) := ⟨Ls.new (by rw [show (tolds S.hs).length = S.hs.length by simp [tolds]]; exact o2), b2⟩
  have H2 : Hid (Rts w2 w.heap.size b N S F) := H1.out.nil (Touch.of_below b2 _)
  obtain ⟨a2, c2, e2⟩ := own_slice o2
  subst e2
  clear hh o2 b2
  have hto := tops_any w.heap.size b N S F w2 H2.out OK.out
  go_wp2_with fail
  refine hto.mono ?_
  rintro e w3 ⟨v3, rfl, f3, b3⟩
  obtain ⟨a3, c3, e3⟩ : ∃ a c, v3 = .slice a 8 c := by obtain ⟨fs, -, g2, -⟩ := f3.ex; exact own_slice g2
  subst e3
  have PH : Hid (Ph w b S w1.heap.size w3.heap.size (.slice a2 S.hs.length c2) (.slice a3 8 c3) (.slice none 0 0) [] S.hs S.qs ops.length w3) := by
    refine ⟨⟨N, S, F, H2.out.nil (Touch.of_below b3 _), OK.out, rfl, rfl, rfl, rfl, HN.out, fun k hk => .inl (H1.out.mem k hk).2, fun k e => by simp [Value.ownBlock] at e⟩, B1.out.trans ((L2.out.2.trans (b3.mono L2.out.2.size)).mono B1.out.size), (L2.out.1.below b3).up b3.size, ?_, World.ownsRow_nil _ _ _ _, Nat.le_refl _, ?_⟩
    · obtain ⟨fs, g1, g2, g3⟩ := f3.ex
      exact ⟨⟨fs, g1, row_base g2 L2.out.2.size, fun i x hx => (g3 i x hx).down L2.out.2.size⟩, f3.u⟩
    · have h1 := B1.out.size; have h2 := L2.out.2.size; have h3 := b3.size; omega
  clear hto f3 b3 L2 H2 H1 B1
  go_upto_region 9 with fail
  go_cut [16] from 16 to 16 (fun v wc => v = .int .i64 0 ∧ w3 = wc)
  case first =>
    go_wp2_with fail
    go_meet
    exact ⟨rfl, rfl⟩
  case rest =>
  obtain ⟨rfl, rfl⟩ := hcut
  apply_assumption
  have Z1 : Hid (S.hs.length ≤ 1024) := OK.out.hn
  go_cut [15] from 15 to 94 (fun v wc => ∃ hs' ms, Hid (Ph w b S w1.heap.size w3.heap.size (.slice a2 S.hs.length c2) (.slice a3 8 c3) v ms hs' S.qs ops.length wc) ∧ Hid (Opn S.hs hs' ms l 0) ∧ ms.length ≤ l.length)
  case first =>
    as_aux_lemma =>
      go_wp2
      go_loopw [15, 16] (fun m i wr => ∃ (ms : List Int) (hs' : List (Option Int)), ms.length ≤ l.length ∧ i = .int .i64 ms.length ∧ Hid (Ph w b S w1.heap.size w3.heap.size (.slice a2 S.hs.length c2) (.slice a3 8 c3) m ms hs' S.qs ops.length wr) ∧ Hid (Opn S.hs hs' ms l 0)) (fun _ i _ => l.length - (intOf i).toNat)
      case atStart => exact ⟨[], S.hs, Nat.zero_le _, rfl, PH, Opn.zero _ _⟩
      case round =>
        obtain ⟨ms, hs', hk, rfl, hp, ho⟩ := hrel
        obtain ⟨am, cm, em⟩ := own_slice hp.out.li
        subst em
        clear PH
        by_cases hlt : ms.length < l.length
        · obtain ⟨x, hx⟩ : ∃ x, l[ms.length]? = some x := ⟨_, List.getElem?_eq_getElem hlt⟩
          have Hx : Hid (l[ms.length]? = some x) := hx
          clear hx
          have hha := ph_handles hp.out
          have hki : (ms.length : Int) < (l.length : Int) := by omega
          go_wp2_with fail
          refine hha.mono ?_
          rintro e w4 ⟨v4, rfl, o4, b4⟩
          obtain ⟨a4, c4, e4, hc4⟩ := is_slice (own_is o4)
          rw [show (tolds hs').length = hs'.length by simp [tolds]] at e4
          subst e4
          have L4 : Hid (∀ j y, (tolds hs')[j]? = some y → ∃ b off, a4 = some ⟨b, off, none⟩ ∧ w4.cell? ⟨b, off + j, none⟩ = some (.int .i64 y)) := hc4
          have P4 : Hid (Ph w b S w1.heap.size w3.heap.size (.slice a2 S.hs.length c2) (.slice a3 8 c3) (.slice am ms.length cm) ms hs' S.qs ops.length w4) := hp.out.below b4
          have HB : Hid (hs'.length ≤ 1024 ∧ ∀ x, some x ∈ hs' → 0 ≤ x) := by
            obtain ⟨N, S', F, h1, h2, h3, h4, h5, h6, h7⟩ := P4.out.ex
            exact h5 ▸ ⟨h2.hn, h2.h0⟩
          clear hha o4 b4 hp hc4
          go_wp2
          go_loopw [17, 19] (fun f k wr => ∃ (k' : Nat) (z fv : Int), k' ≤ hs'.length ∧ k = .int .i64 z ∧ f = .int .i64 fv ∧ w4 = wr ∧ Hid (z = (k' : Int) - 1) ∧ Hid (fv = lfrom hs' k')) (fun _ k _ => (intOf k + 1).toNat)
          case atStart => exact ⟨hs'.length, (hs'.length : Int) - 1, -1, Nat.le_refl _, by have := HB.out.1; rw [wrap_in _ (by omega)], rfl, rfl, rfl, (lfrom_end _).symm⟩
          case round =>
            obtain ⟨k', z, fv, hk', rfl, rfl, rfl, hz, hf⟩ := hrel
            rcases k' with _ | n
            · obtain rfl : z = -1 := by have := hz.out; omega
              obtain ⟨g, off, ea, hg, hc⟩ := (Hv.out.keep (fun j hj => P4.out.be.block j hj)) ms.length x Hx.out
              subst ea
              have hopn := ph_open P4.out x
              rcases least_cases hs' with hl | ⟨k, hl, hkl, hcl⟩
              · obtain rfl : fv = -1 := by have := hf.out; rw [lfrom_zero, hl] at this; exact this
                rw [hl] at hopn
                simp only [show ((-1 : Int) < 0) = True from by simp, if_true] at hopn
                clear hl hz hf hk'
                go_wp2_with fail
                refine hopn.mono ?_
                rintro e w5 ⟨rfl, P5⟩
                have P5' : Hid (Ph w b S w1.heap.size w3.heap.size (.slice a2 S.hs.length c2) (.slice a3 8 c3) (.slice am ms.length cm) ms hs' S.qs ops.length w5) := P5
                clear hopn P5 P4 hc L4
                go_wp2
                go_meet
                exact ⟨hs', ms, P5', ho, hk⟩
              · obtain rfl : fv = k := by have := hf.out; rw [lfrom_zero, hl] at this; exact this
                have hk0 : ¬ ((k : Int) < 0) := by omega
                rw [hl] at hopn
                simp only [hk0, if_false] at hopn
                have Hk : Hid (k < hs'.length ∧ hop hs' k = false) := ⟨hkl, hcl⟩
                clear hl hz hf hk' hkl hcl
                go_wp2_with fail
                refine hopn.mono ?_
                rintro e w5 ⟨rfl, P5⟩
                have P5' : Hid (Ph w b S w1.heap.size w3.heap.size (.slice a2 S.hs.length c2) (.slice a3 8 c3) (.slice am ms.length cm) ms (hs'.set k (some (adr x))) S.qs ops.length w5) := P5
                clear hopn P5 P4 hc L4
                go_wp2_with (at_builtin; refine wpList_append_own_at _ rfl _ _ 31 rfl w3.heap.size 3 j0 (.int .i64 0) 1 8 Try.underlying31 HI.out.1 HI.out.2.1 HI.out.2.2.1 HI.out.2.2.2 rfl (by decide) _ _ _ rfl (P5'.out.li.alloc _) ⟨w5.heap.size, 0, none⟩ 1 1 [.int .i64 (k : Int)] rfl rfl (cell_one_new _ _ _) (by simp [Value.oneCell']) (by have := HL.out; simp [maxLen]; omega) (by have := HL.out; omega) (by have := P5'.out.u1; simp; omega) ?_)
                intro v7 w7 o7 g7 _ q7
                have P7 : Hid (Ph w b S w1.heap.size w3.heap.size (.slice a2 S.hs.length c2) (.slice a3 8 c3) v7 (ms ++ [(k : Int)]) (hs'.set k (some (adr x))) S.qs ops.length w7) := P5'.out.app (by simpa using o7) g7 (by simpa using q7)
                have O7 : Hid (Opn S.hs (hs'.set k (some (adr x))) (ms ++ [(k : Int)]) l 0) := ho.out.snoc Hx.out Hk.out.1 Hk.out.2
                clear o7 g7 q7 P5'
                have hk2 : ms.length < 4398046511104 := by have := HL.out; omega
                go_wp2
                go_roundw
                case rel => exact ⟨ms ++ [(k : Int)], _, by simp; omega, by simp, P7, O7⟩
                case measure => simp [intOf]; omega
            · obtain rfl : z = (n : Int) := by have := hz.out; omega
              have hn : n < hs'.length := by omega
              obtain ⟨g, off, ea, hc⟩ := L4.out n _ (least_down hn)
              subst ea
              have hni : (n : Int) < (hs'.length : Int) := by omega
              have hnn : (n : Int) ≥ 0 := by omega
              cases ex : hs'[n] with
              | none =>
                rw [ex] at hc
                have Hf : Hid (lfrom hs' n = n) := lfrom_none (by rw [List.getElem?_eq_getElem hn, ex])
                simp only [Option.getD_none] at hc
                clear ex hz hf
                go_wp2
                go_roundw
                case rel => exact ⟨n, (n : Int) - 1, n, by omega, by have := HB.out.1; rw [wrap_in _ (by omega)], rfl, trivial, rfl, Hf.out.symm⟩
                case measure => simp [intOf]; have := HB.out.1; rw [wrap_in _ (by omega)]; omega
              | some y =>
                rw [ex] at hc
                have Hf : Hid (lfrom hs' n = lfrom hs' (n + 1)) := lfrom_some (by rw [List.getElem?_eq_getElem hn, ex])
                have hy : ¬ y < 0 := by have := HB.out.2 y (by rw [← ex]; exact List.getElem_mem hn); omega
                simp only [Option.getD_some] at hc
                clear ex hz
                go_wp2
                go_roundw
                case rel => exact ⟨n, (n : Int) - 1, fv, by omega, by have := HB.out.1; rw [wrap_in _ (by omega)], rfl, trivial, rfl, hf.out.trans Hf.out.symm⟩
                case measure => simp [intOf]; have := HB.out.1; rw [wrap_in _ (by omega)]; omega
        · have hnk : ¬ (ms.length : Int) < (l.length : Int) := by omega
          go_wp2
          go_meet
          exact ⟨hs', ms, hp, ho, hk⟩
  case rest =>
    obtain ⟨hs', ms, p0, ho0, hml⟩ := hcut
    obtain ⟨am, cm, em⟩ := own_slice p0.out.li
    subst em
    have HM : Hid (ms.length ≤ l.length) := hml
    clear PH hml
    apply_assumption
    go_wp2
    go_loopw [22] (fun i wr => ∃ (j : Nat) (hs' : List (Option Int)), j ≤ ms.length ∧ i = .int .i64 j ∧ Hid (Ph w b S w1.heap.size w3.heap.size (.slice a2 S.hs.length c2) (.slice a3 8 c3) (.slice am ms.length cm) ms hs' S.qs ops.length wr) ∧ Hid (Opn S.hs hs' ms l j)) (fun i _ => ms.length - (intOf i).toNat)
    case atStart => exact ⟨0, hs', Nat.zero_le _, rfl, p0, ho0⟩
    case round =>
      obtain ⟨j, hs', hj, rfl, hp, ho⟩ := hrel
      clear p0 ho0
      by_cases hlt : j < ms.length
      · obtain ⟨x, hx⟩ : ∃ x, l[j]? = some x := ⟨_, List.getElem?_eq_getElem (by have := HM.out; omega)⟩
        obtain ⟨m, hm⟩ : ∃ m, ms[j]? = some m := ⟨_, List.getElem?_eq_getElem hlt⟩
        obtain ⟨m0, m1, m2, m3⟩ := ho.out.at_ j m (Nat.le_refl _) hm
        rw [show l.getD j 0 = x by rw [List.getD_eq_getElem?_getD, hx]; rfl] at m3
        have hha := ph_handle hp.out m0 m3
        have hcl := ph_close hp.out m0 m3
        have O5 : Hid (Opn S.hs (hs'.set m.toNat none) ms l (j + 1)) := ho.out.close hm
        have Hm : Hid (ms[j]? = some m ∧ (hs'.set m.toNat none)[m.toNat]? = some none) := ⟨hm, by rw [List.getElem?_set_self (by rw [ho.out.len]; exact m1)]⟩
        have hji : (j : Int) < (ms.length : Int) := by omega
        have hji2 : (j : Int) < (l.length : Int) := by have := HM.out; omega
        have had : (adr x == max x 0) = true := by simp [adr]
        obtain ⟨a5, c5, e5, hc5⟩ := is_slice (own_is hp.out.li)
        obtain ⟨g5, f5, ea5, hcm⟩ := hc5 j m hm
        subst ea5
        simp only [Value.slice.injEq, true_and] at e5
        obtain ⟨e51, e52⟩ := e5
        subst e51
        obtain ⟨g, off, ea, hg, hc⟩ := (Hv.out.keep (fun j hj => hp.out.be.block j hj)) j x hx
        subst ea
        clear hc5 e52 m0 m1 m2 m3 hm hx ho
        go_wp2_with fail
        refine hha.mono ?_
        rintro e w5 ⟨rfl, rfl⟩
        clear hha
        go_wp2_with fail
        refine hcl.mono ?_
        rintro e w5 ⟨rfl, P5⟩
        have hcl2 := ph_close2 P5 Hm.out.2
        have hcm5 : w5.cell? ⟨g5, f5 + j, none⟩ = some (.int .i64 m) := by
          obtain ⟨a6, c6, e6, h6⟩ := is_slice (own_is P5.li)
          obtain ⟨g6, f6, ea6, h7⟩ := h6 j m Hm.out.1
          simp only [Value.slice.injEq, true_and] at e6
          obtain ⟨e61, -⟩ := e6
          rw [ea6] at e61
          simp only [Option.some.injEq, Addr.mk.injEq, and_true] at e61
          obtain ⟨rfl, rfl⟩ := e61
          exact h7
        clear hcl P5 hc hp hcm had
        go_wp2_with fail
        refine hcl2.mono ?_
        rintro e w6 ⟨rfl, P6⟩
        have P6' : Hid (Ph w b S w1.heap.size w3.heap.size (.slice a2 S.hs.length c2) (.slice a3 8 c3) (.slice (some ⟨g5, f5, none⟩) ms.length cm) ms (hs'.set m.toNat none) S.qs ops.length w6) := P6
        have hk2 : j < 4398046511104 := by have h1 := HL.out; have h2 := HM.out; omega
        clear hcl2 P6 hcm5
        go_wp2
        go_roundw
        case rel => exact ⟨j + 1, _, hlt, by go_num, P6', O5⟩
        case measure => simp [intOf]; omega
      · obtain rfl : j = ms.length := by omega
        have hnk : ¬ (ms.length : Int) < (ms.length : Int) := by omega
        obtain rfl : hs' = S.hs := ho.out.done
        have hqu := ph_queue hp.out (by have := HL.out; omega)
        have HQ : Hid (S.qs.length ≤ ops.length) := by
          obtain ⟨N, S', F, h1, h2, h3, h4, h5, h6, h7, h8⟩ := hp.out.ex
          have := h1.queN
          rw [h6] at this
          exact Nat.le_trans this h7
        clear ho
        go_wp2_with fail
        refine hqu.mono ?_
        rintro e w5 ⟨v5, rfl, o5, b5⟩
        have P5 : Hid (Ph w b S w1.heap.size w3.heap.size (.slice a2 S.hs.length c2) (.slice a3 8 c3) v5 S.qs S.hs S.qs ops.length w5) := hp.out.swap b5 o5
        clear hqu o5 b5 hp hnk hlt hj
        go_wp2
        go_loopw [25, 26] (fun q i wr => ∃ (k : Nat) (Q : List Int), k ≤ l.length ∧ i = .int .i64 k ∧ Hid (Ph w b S w1.heap.size w3.heap.size (.slice a2 S.hs.length c2) (.slice a3 8 c3) q Q S.hs Q (ops.length + k) wr) ∧ Hid (Q.length ≤ ops.length + k)) (fun _ i _ => l.length - (intOf i).toNat)
        case atStart => exact ⟨0, S.qs, Nat.zero_le _, rfl, P5, HQ⟩
        case round =>
          obtain ⟨k, Q, hk, rfl, hp, hq⟩ := hrel
          obtain ⟨aq, cq, eq⟩ := own_slice hp.out.li
          subst eq
          clear P5
          by_cases hlt : k < l.length
          · obtain ⟨x, hx⟩ : ∃ x, l[k]? = some x := ⟨_, List.getElem?_eq_getElem hlt⟩
            obtain ⟨g, off, ea, hg, hc⟩ := (Hv.out.keep (fun j hj => hp.out.be.block j hj)) k x hx
            subst ea
            have Hx : Hid (l[k]? = some x) := hx
            have henq := ph_enq hp.out x (by have := HL.out; omega)
            have hki : (k : Int) < (l.length : Int) := by omega
            clear hx
            go_wp2_with fail
            refine henq.mono ?_
            rintro e w6 ⟨rfl, P6⟩
            have P6' : Hid (Ph w b S w1.heap.size w3.heap.size (.slice a2 S.hs.length c2) (.slice a3 8 c3) (.slice aq Q.length cq) Q S.hs (Q ++ [adr x]) (ops.length + k + 1) w6) := P6
            have hc6 : w6.cell? ⟨g, off + k, none⟩ = some (.int .i64 x) := by
              obtain ⟨g2, off2, ea2, hg2, hc2⟩ := (Hv.out.keep (fun j hj => P6.be.block j hj)) k x Hx.out
              simp only [Option.some.injEq, Addr.mk.injEq, and_true] at ea2
              obtain ⟨rfl, rfl⟩ := ea2
              exact hc2
            clear henq P6 hc hp
            go_wp2_with (at_builtin; refine wpList_append_own_at _ rfl _ _ 31 rfl w3.heap.size 3 j0 (.int .i64 0) 1 8 Try.underlying31 HI.out.1 HI.out.2.1 HI.out.2.2.1 HI.out.2.2.2 rfl (by decide) _ _ _ rfl (P6'.out.li.alloc _) ⟨w6.heap.size, 0, none⟩ 1 1 [.int .i64 (max x 0)] rfl rfl (cell_one_new _ _ _) (by simp [Value.oneCell']) (by have h1 := HL.out; have h2 := hq.out; simp [maxLen]; omega) (by have h1 := HL.out; have h2 := hq.out; omega) (by have := P6'.out.u1; simp; omega) ?_)
            intro v7 w7 o7 g7 _ q7
            have P7 : Hid (Ph w b S w1.heap.size w3.heap.size (.slice a2 S.hs.length c2) (.slice a3 8 c3) v7 (Q ++ [adr x]) S.hs (Q ++ [adr x]) (ops.length + k + 1) w7) := P6'.out.app (by simpa [adr] using o7) g7 (by simpa using q7)
            have Q7 : Hid ((Q ++ [adr x]).length ≤ ops.length + (k + 1)) := by have := hq.out; show (Q ++ [adr x]).length ≤ _; simp; omega
            clear o7 g7 q7 P6' hc6
            have hk2 : k < 4398046511104 := by have := HL.out; omega
            go_wp2
            go_roundw
            case rel => exact ⟨k + 1, Q ++ [adr x], hlt, by go_num, P7, Q7⟩
            case measure => simp [intOf]; omega
          · obtain rfl : k = l.length := by omega
            have hnk : ¬ (l.length : Int) < (l.length : Int) := by omega
            have P5 : Hid (Ph w b S w1.heap.size w3.heap.size (.slice a2 S.hs.length c2) (.slice a3 8 c3) (.slice aq Q.length cq) Q S.hs (Q.drop 0) (ops.length + l.length) wr) := hp
            go_wp2
            clear hp hlt hk hnk
            go_loopw [27] (fun i wr => ∃ (k : Nat), k ≤ Q.length ∧ i = .int .i64 k ∧ Hid (Ph w b S w1.heap.size w3.heap.size (.slice a2 S.hs.length c2) (.slice a3 8 c3) (.slice aq Q.length cq) Q S.hs (Q.drop k) (ops.length + l.length) wr)) (fun i _ => Q.length - (intOf i).toNat)
            case atStart => exact ⟨0, Nat.zero_le _, rfl, P5⟩
            case round =>
              obtain ⟨k, hk, rfl, hp⟩ := hrel
              clear P5
              have hde := ph_deq hp.out (by have := HL.out; omega)
              by_cases hlt : k < Q.length
              · obtain ⟨y, hy⟩ : ∃ y, Q[k]? = some y := ⟨_, List.getElem?_eq_getElem hlt⟩
                have ed : Q.drop k = y :: Q.drop (k + 1) := by rw [List.drop_eq_getElem_cons hlt, (List.getElem?_eq_some_iff.1 hy).2]
                rw [ed] at hde
                simp only [List.headD_cons, List.isEmpty_cons, Bool.not_false, List.tail_cons] at hde
                have Hy : Hid (Q[k]? = some y) := hy
                obtain ⟨a5, c5, e5, hc5⟩ := is_slice (own_is hp.out.li)
                obtain ⟨g5, f5, ea5, hcm⟩ := hc5 k y hy
                subst ea5
                simp only [Value.slice.injEq, true_and] at e5
                obtain ⟨e51, e52⟩ := e5
                subst e51
                have hki : (k : Int) < (Q.length : Int) := by omega
                clear hc5 e52 ed hy hcm
                go_wp2_with fail
                refine hde.mono ?_
                rintro e w6 ⟨rfl, P6⟩
                have P6' : Hid (Ph w b S w1.heap.size w3.heap.size (.slice a2 S.hs.length c2) (.slice a3 8 c3) (.slice (some ⟨g5, f5, none⟩) Q.length cq) Q S.hs (Q.drop (k + 1)) (ops.length + l.length) w6) := P6
                have hcm5 : w6.cell? ⟨g5, f5 + k, none⟩ = some (.int .i64 y) := by
                  obtain ⟨a6, c6, e6, h6⟩ := is_slice (own_is P6.li)
                  obtain ⟨g6, f6, ea6, h7⟩ := h6 k y Hy.out
                  simp only [Value.slice.injEq, true_and] at e6
                  obtain ⟨e61, -⟩ := e6
                  rw [ea6] at e61
                  simp only [Option.some.injEq, Addr.mk.injEq, and_true] at e61
                  obtain ⟨rfl, rfl⟩ := e61
                  exact h7
                have hk2 : k < 8796093022208 := by have h1 := HL.out; have h2 := hq.out; omega
                clear hde P6 hp
                go_wp2
                go_roundw
                case rel => exact ⟨k + 1, hlt, by go_num, P6'⟩
                case measure => simp [intOf]; omega
              · obtain rfl : k = Q.length := by omega
                have hnk : ¬ (Q.length : Int) < (Q.length : Int) := by omega
                rw [List.drop_length] at hde
                simp only [List.headD_nil, List.isEmpty_nil, Bool.not_true, List.tail_nil] at hde
                clear hlt hk hp
                go_wp2_with fail
                refine hde.mono ?_
                rintro e w6 ⟨rfl, P6⟩
                have P6' : Hid (Ph w b S w1.heap.size w3.heap.size (.slice a2 S.hs.length c2) (.slice a3 8 c3) (.slice aq Q.length cq) Q S.hs [] (ops.length + l.length) w6) := P6
                have hha := ph_handles P6
                clear hde P6 hnk
                go_wp2_with fail
                refine hha.mono ?_
                rintro e w7 ⟨v7, rfl, o7, b7⟩
                have P7 : Hid (Ph w b S w1.heap.size w3.heap.size (.slice a2 S.hs.length c2) (.slice a3 8 c3) (.slice aq Q.length cq) Q S.hs [] (ops.length + l.length) w7) := P6'.out.below b7
                have hsa := same_any v7 (.slice a2 S.hs.length c2) (tolds S.hs) (tolds S.hs) w7 (own_is o7) P7.out.was.is (by have := Z1.out; rw [show (tolds S.hs).length = S.hs.length by simp [tolds]]; omega)
                rw [show decide (tolds S.hs = tolds S.hs) = true by simp] at hsa
                obtain ⟨a7, c7, e7⟩ := own_slice o7
                subst e7
                clear hha o7 b7 P6'
                go_wp2_with fail
                refine hsa.mono ?_
                rintro e w8 ⟨rfl, nq, rfl⟩
                have P8 : Hid (Ph w b S w1.heap.size w3.heap.size (.slice a2 S.hs.length c2) (.slice a3 8 c3) (.slice aq Q.length cq) Q S.hs [] (ops.length + l.length) (w7.drewN nq)) := P7.out.below (below_drewN (Below.refl _ _) nq)
                clear hsa P7
                generalize w7.drewN nq = w8 at *
                have hto := ph_tops P8.out
                go_wp2_with fail
                refine hto.mono ?_
                rintro e w9 ⟨v9, rfl, f9, b9⟩
                have P9 : Hid (Ph w b S w1.heap.size w3.heap.size (.slice a2 S.hs.length c2) (.slice a3 8 c3) (.slice aq Q.length cq) Q S.hs [] (ops.length + l.length) w9) := P8.out.below b9
                have hall := sameAll_any (.slice a3 8 c3) v9 (fun i => S.topOf i) (fun i => S.topOf i) _ _ _ _ w9 P9.out.fr f9 (fun i _ => rfl) (fun i _ => top_len OK.out i)
                obtain ⟨a9, c9, e9⟩ : ∃ a c, v9 = .slice a 8 c := by obtain ⟨fs, -, g2, -⟩ := f9.ex; exact own_slice g2
                subst e9
                clear hto f9 b9 P8
                go_wp2_with fail
                refine hall.mono ?_
                rintro e w10 ⟨rfl, nq2, rfl⟩
                have BF : Hid (Below w.heap.size w (w9.drewN nq2)) := below_drewN P9.out.be nq2
                clear hall
                go_wp2
                go_ret
                exact ⟨rfl, BF.out⟩

end Go.Proofs.Ytemdmpfifcihfaa
