/-
  RootsFrames, walked.
-/
import Derived.Test.YtemdmpfifcihfaaR33
set_option linter.unusedVariables false
namespace Go.Proofs.Ytemdmpfifcihfaa
open Go.RowKit

theorem Fr.up {W : World} {s u u' : Nat} {v : Value} {f : Nat → List Int} {k : Nat} (h : Fr W s u v f k) (hu : u ≤ u') : Fr W s u' v f k := by
  obtain ⟨fs, f1, f2, f3⟩ := h.ex
  exact ⟨⟨fs, f1, f2, fun i x hx => (f3 i x hx).up hu⟩, fun k e => Nat.lt_of_lt_of_le (h.u k e) hu⟩

theorem top_len {S : Sta} (h : S.Ok) (i : Nat) : (S.topOf i).length < 9223372036854775807 := by
  rcases top_cases h i with ⟨-, e⟩ | ⟨l, m, -, -, hm, -, e, -⟩
  · rw [e]; simp
  · rw [e]; omega

theorem sum_take_le : ∀ (l : List Int) (k : Nat), (∀ x ∈ l, 1 ≤ x) → (l.take k).sum ≤ l.sum
  | [], k, _ => by simp
  | x :: l, 0, h => by
    have h1 := sum_take_le l 0 (fun y hy => h y (by simp [hy]))
    have h2 := h x (by simp)
    simp at h1 ⊢
    omega
  | x :: l, k + 1, h => by
    have h1 := sum_take_le l k (fun y hy => h y (by simp [hy]))
    simp
    exact h1

theorem sum_take_nn : ∀ (l : List Int) (k : Nat), (∀ x ∈ l, 1 ≤ x) → 0 ≤ (l.take k).sum
  | [], k, _ => by simp
  | x :: l, 0, h => by simp
  | x :: l, k + 1, h => by
    have h1 := sum_take_nn l k (fun y hy => h y (by simp [hy]))
    have h2 := h x (by simp)
    simp
    omega

set_option maxRecDepth 40000 in
set_option maxHeartbeats 8000000 in
theorem frames_law (th sl hn thr nn : Int) (a am av : Option Addr) (cap capm capv : Nat) (ops more : List OpD) (l : List Int) (w : World) (hl : LOps w.heap.size w a ops) (hm : LOps w.heap.size w am more) (hv : Came w.heap.size w av l) (hlen : ops.length < 4398046511104) (hlenm : more.length < 4398046511104)
    (b1 : -9223372036854775808 ≤ th ∧ th < 9223372036854775808) (b2 : -9223372036854775808 ≤ sl ∧ sl < 9223372036854775808) (b3 : -9223372036854775808 ≤ hn ∧ hn < 9223372036854775808) (b4 : -9223372036854775808 ≤ thr ∧ thr < 9223372036854775808) (b5 : -9223372036854775808 ≤ nn ∧ nn < 9223372036854775808) :
    Calls Try.prog 4 #[.int .i64 th, .int .i64 sl, .int .i64 hn, .slice a ops.length cap, .int .i64 thr, .int .i64 nn, .slice av l.length capv, .slice am more.length capm] w fun e w' => e = .returned (.bool true) ∧ Below w.heap.size w w' := by
  have hkn := known_any w
  obtain ⟨T0, hT0⟩ := Int.eq_ofNat_of_zero_le (plc_lt th 8 (by decide)).1
  have q1 := (plc_lt th 8 (by decide)).2
  obtain ⟨m0, hm0⟩ := Int.eq_ofNat_of_zero_le (plc_lt sl 40 (by decide)).1
  have q2 := (plc_lt sl 40 (by decide)).2
  obtain ⟨n0, hn0⟩ := Int.eq_ofNat_of_zero_le (plc_lt nn 20 (by decide)).1
  have q3 := (plc_lt nn 20 (by decide)).2
  obtain ⟨t, ht0⟩ := Int.eq_ofNat_of_zero_le (plc_lt thr (1 + T0) (by omega)).1
  have q4 := (plc_lt thr (1 + T0) (by omega)).2
  rw [show ((8 : Nat) : Int) = 8 from rfl] at hT0 q1
  rw [show ((40 : Nat) : Int) = 40 from rfl] at hm0 q2
  rw [show ((20 : Nat) : Int) = 20 from rfl] at hn0 q3
  have k1 : T0 < 8 := by omega
  have k2 : m0 < 40 := by omega
  have k3 : n0 < 20 := by omega
  have k4 : t < 1 + T0 := by omega
  have p1 : ∀ w, Calls Try.prog 18 #[.int .i64 th, .int .i64 8] w fun e w' => e = .returned (.int .i64 T0) ∧ w = w' := fun w => by have := place_any th 8 (by decide) (by decide) b1 w; rw [show ((8 : Nat) : Int) = 8 from rfl, hT0] at this; exact this
  have p2 : ∀ w, Calls Try.prog 18 #[.int .i64 thr, .int .i64 (1 + (T0 : Int))] w fun e w' => e = .returned (.int .i64 t) ∧ w = w' := fun w => by have := place_any thr (1 + T0) (by omega) (by omega) b4 w; rw [ht0, show ((1 + T0 : Nat) : Int) = 1 + (T0 : Int) by omega] at this; exact this
  have p3 : ∀ w, Calls Try.prog 18 #[.int .i64 nn, .int .i64 20] w fun e w' => e = .returned (.int .i64 n0) ∧ w = w' := fun w => by have := place_any nn 20 (by decide) (by decide) b5 w; rw [show ((20 : Nat) : Int) = 20 from rfl, hn0] at this; exact this
  have p4 : ∀ w, Calls Try.prog 18 #[.int .i64 sl, .int .i64 40] w fun e w' => e = .returned (.int .i64 m0) ∧ w = w' := fun w => by have := place_any sl 40 (by decide) (by decide) b2 w; rw [show ((40 : Nat) : Int) = 40 from rfl, hm0] at this; exact this
  have P1 : Hid (∀ w, Calls Try.prog 18 #[.int .i64 th, .int .i64 8] w fun e w' => e = .returned (.int .i64 T0) ∧ w = w') := p1
  have P2 : Hid (∀ w, Calls Try.prog 18 #[.int .i64 thr, .int .i64 (1 + (T0 : Int))] w fun e w' => e = .returned (.int .i64 t) ∧ w = w') := p2
  have P3 : Hid (∀ w, Calls Try.prog 18 #[.int .i64 nn, .int .i64 20] w fun e w' => e = .returned (.int .i64 n0) ∧ w = w') := p3
  have P4 : Hid (∀ w, Calls Try.prog 18 #[.int .i64 sl, .int .i64 40] w fun e w' => e = .returned (.int .i64 m0) ∧ w = w') := p4
  have E1 : Hid (plc th 8 = T0 ∧ plc sl 40 = m0) := ⟨hT0, hm0⟩
  have Hl : Hid (LOps w.heap.size w a ops) := hl
  have Hm : Hid (LOps w.heap.size w am more) := hm
  have Hv : Hid (Came w.heap.size w av l) := hv
  have HL : Hid (ops.length < 4398046511104 ∧ more.length < 4398046511104) := ⟨hlen, hlenm⟩
  have B3 : Hid ((-9223372036854775808 ≤ th ∧ th < 9223372036854775808) ∧ (-9223372036854775808 ≤ sl ∧ sl < 9223372036854775808) ∧ (-9223372036854775808 ≤ hn ∧ hn < 9223372036854775808)) := ⟨b1, b2, b3⟩
  clear hl hm hv hlen hlenm b1 b2 b3 b4 b5 q1 q2 q3 q4 p1 p2 p3 p4 hT0 hm0 hn0 ht0
  go_enter Try.func4, Try.ntmps4
  go_wp2_with fail
  refine hkn.mono ?_
  rintro e w0 ⟨rfl, be0⟩
  have B0 : Hid (Below w.heap.size w w0) := be0
  have hpl := played_any th sl hn a cap ops w0 (Hl.out.up be0 be0.size) (by have := HL.out; omega) B3.out.1 B3.out.2.1 B3.out.2.2
  rw [E1.out.1, E1.out.2] at hpl
  clear hkn be0
  go_wp2_with fail
  refine hpl.mono ?_
  rintro e w1 ⟨b, rfl, P⟩
  obtain ⟨N, S, F, h1, ok, eT, em, hN⟩ := P.ex
  have OK : Hid S.Ok := ok
  have ES : Hid (S.T = 1 + T0 ∧ S.most = 1 + m0 ∧ t < S.T ∧ N ≤ ops.length) := ⟨by omega, by omega, by omega, hN⟩
  have H1 : Hid (Rts w1 w.heap.size b N S F) := h1.base B0.out.size
  have B1 : Hid (Below w.heap.size w w1) := B0.out.trans (P.be.mono B0.out.size)
  clear hpl P h1 ok eT em hN B0
  go_wp2_with fail
  refine (P1.out _).mono ?_
  rintro e w' ⟨rfl, rfl⟩
  go_wp2_with fail
  refine (P2.out _).mono ?_
  rintro e w' ⟨rfl, rfl⟩
  go_wp2_with fail
  refine (P3.out _).mono ?_
  rintro e w' ⟨rfl, rfl⟩
  have hto := tops_any w.heap.size b N S F w1 H1.out OK.out
  go_wp2_with fail
  refine hto.mono ?_
  rintro e w2 ⟨vb, rfl, f2, b2⟩
  have H2 : Hid (Rts w2 w.heap.size b N S F) := H1.out.nil (Touch.of_below b2 _)
  have hfr := frames_any w.heap.size b N (t : Int) S F w2 H2.out OK.out
  have F2 : Hid (Fr w2 w1.heap.size w2.heap.size vb (fun i => S.topOf i) 8 ∧ Below w1.heap.size w1 w2) := ⟨f2, b2⟩
  obtain ⟨ab, cb, eb⟩ : ∃ a c, vb = .slice a 8 c := by obtain ⟨fs, -, g2, -⟩ := f2.ex; exact own_slice g2
  subst eb
  clear hto f2 b2
  go_wp2_with fail
  refine hfr.mono ?_
  rintro e w3 ⟨vz, rfl, o3, b3⟩
  have FR : Hid (Fr w3 w1.heap.size w3.heap.size (.slice ab 8 cb) (fun i => S.topOf i) 8) := (F2.out.1.below b3).up b3.size
  have SZ : Hid (Ls w3 w1.heap.size w3.heap.size vz (S.frames t)) := (Ls.new o3).down F2.out.2.size
  have B3w : Hid (Below w.heap.size w w3) := B1.out.trans ((F2.out.2.trans (b3.mono F2.out.2.size)).mono B1.out.size)
  have H3 : Hid (Rts w3 w.heap.size b N S F) := H2.out.nil (Touch.of_below b3 _)
  have HF : Hid (∀ k, k ∈ F → k < w1.heap.size ∨ w3.heap.size ≤ k) := fun k hk => .inl (H1.out.mem k hk).2
  obtain ⟨az, cz, ez⟩ := own_slice o3
  subst ez
  have hpu := push_any w.heap.size b N (t : Int) ((1 + n0 : Nat) : Int) S F w3 H3.out OK.out B3w.out.size
  rw [show ((1 + n0 : Nat) : Int) = 1 + (n0 : Int) by omega] at hpu
  have hn20 : (n0 : Int) < 20 := by omega
  clear hfr o3 b3 F2 H2 H1 B1
  rcases push_two (S := S) (t := t) (n := 1 + n0) ES.out.2.2.1 (by omega) with he | ⟨he, hov⟩
  · rw [show ((1 + n0 : Nat) : Int) = 1 + (n0 : Int) by omega] at he
    rw [he] at hpu
    have He : Hid (S.pushE t ((1 + n0 : Nat) : Int) = 0) := by show S.pushE t ((1 + n0 : Nat) : Int) = 0; rw [show ((1 + n0 : Nat) : Int) = 1 + (n0 : Int) by omega]; exact he
    clear he
    go_wp2_with fail
    refine hpu.mono ?_
    rintro e w4 ⟨rfl, F4, h4, t4, n4⟩
    have PF : Hid (Pf w b S t (1 + n0) w1.heap.size w3.heap.size (.slice ab 8 cb) (.slice az (S.frames (t : Int)).length cz) (fill l (1 + n0) 0) ops.length w4) := by
      rw [fill_zero]
      have fx := Fx.push He.out
      have e1 : S.pushS t ((1 + n0 : Nat) : Int) = S.pushS t (1 + (n0 : Int)) := by rw [show ((1 + n0 : Nat) : Int) = 1 + (n0 : Int) by omega]
      rw [e1] at fx
      exact ⟨⟨N, _, F4, h4, OK.out.pushS _ _, fx, ES.out.2.2.2, fun k hk => by
        rcases n4 k hk with h | h
        · exact HF.out k h
        · exact .inr h⟩, B3w.out.trans (t4.below B3w.out.size (fun j hj => (H3.out.mem j hj).1)), FR.out.keep t4 HF.out, SZ.out.keep t4 HF.out, t4.size⟩
    clear hpu h4 t4 n4 FR SZ B3w H3 HF He
    go_wp2
    go_loopw [25] (fun i wr => ∃ (k : Nat), k ≤ 1 + n0 ∧ i = .int .i64 k ∧ Hid (Pf w b S t (1 + n0) w1.heap.size w3.heap.size (.slice ab 8 cb) (.slice az (S.frames (t : Int)).length cz) (fill l (1 + n0) 0) ops.length wr)) (fun i _ => 1 + n0 - (intOf i).toNat)
    case atStart => exact ⟨0, Nat.zero_le _, rfl, PF⟩
    case round =>
      obtain ⟨k, hk, rfl, hp⟩ := hrel
      clear PF
      by_cases hlt : k < 1 + n0
      · have hg := pf_get hp.out ES.out.2.2.1 hlt
        rw [show (fill l (1 + n0) 0).getD k 0 = 0 by rw [fill_zero, List.getD_eq_getElem?_getD, List.getElem?_replicate, if_pos hlt]; rfl] at hg
        have hki : (k : Int) < 1 + (n0 : Int) := by omega
        go_wp2_with fail
        refine hg.mono ?_
        rintro e w5 ⟨rfl, P5⟩
        have P5' : Hid (Pf w b S t (1 + n0) w1.heap.size w3.heap.size (.slice ab 8 cb) (.slice az (S.frames (t : Int)).length cz) (fill l (1 + n0) 0) ops.length w5) := P5
        clear hg P5 hp
        go_wp2
        go_roundw
        case rel => exact ⟨k + 1, hlt, by go_num, P5'⟩
        case measure => simp [intOf]; omega
      · obtain rfl : k = 1 + n0 := by omega
        have hnk : ¬ ((1 + n0 : Nat) : Int) < 1 + (n0 : Int) := by omega
        go_wp2
        clear hnk
        go_loopw [28] (fun i wr => ∃ (k : Nat), k ≤ 1 + n0 ∧ k ≤ l.length ∧ i = .int .i64 k ∧ Hid (Pf w b S t (1 + n0) w1.heap.size w3.heap.size (.slice ab 8 cb) (.slice az (S.frames (t : Int)).length cz) (fill l (1 + n0) k) ops.length wr)) (fun i _ => 1 + n0 - (intOf i).toNat)
        case atStart => exact ⟨0, Nat.zero_le _, Nat.zero_le _, rfl, hp⟩
        case round =>
          obtain ⟨k, hk, hkl, rfl, hp⟩ := hrel
          by_cases hlt : k < 1 + n0 ∧ k < l.length
          · obtain ⟨hlt1, hlt2⟩ := hlt
            obtain ⟨x, hx⟩ : ∃ x, l[k]? = some x := ⟨_, List.getElem?_eq_getElem hlt2⟩
            obtain ⟨g, off, ea, hg, hc⟩ := (Hv.out.keep (fun j hj => hp.out.be.block j hj)) k x hx
            subst ea
            have hg := pf_set hp.out ES.out.2.2.1 hlt1 x
            rw [fill_set hx hlt1] at hg
            have hki : (k : Int) < 1 + (n0 : Int) := by omega
            have hki2 : (k : Int) < (l.length : Int) := by omega
            clear hx
            go_wp2_with fail
            refine hg.mono ?_
            rintro e w5 ⟨rfl, P5⟩
            have P5' : Hid (Pf w b S t (1 + n0) w1.heap.size w3.heap.size (.slice ab 8 cb) (.slice az (S.frames (t : Int)).length cz) (fill l (1 + n0) (k + 1)) ops.length w5) := P5
            clear hg P5 hp hc
            go_wp2
            go_roundw
            case rel => exact ⟨k + 1, hlt1, hlt2, by go_num, P5'⟩
            case measure => simp [intOf]; omega
          · have hend : Hid (k = 1 + n0 ∨ k = l.length) := by show k = 1 + n0 ∨ k = l.length; omega
            have hp2 : Hid (Pf w b S t (1 + n0) w1.heap.size w3.heap.size (.slice ab 8 cb) (.slice az (S.frames (t : Int)).length cz) (fill l (1 + n0) k) (ops.length + 0) wr) := hp.out
            have hll : ∀ h : ¬ k < l.length, ¬ (k : Int) < (l.length : Int) := fun h => by omega
            clear hp
            rcases Nat.lt_or_ge k (1 + n0) with h1 | h1
            all_goals
              first
                | (have h3 : (k : Int) < 1 + (n0 : Int) := by omega
                   have h2 : ¬ (k : Int) < (l.length : Int) := by omega
                   clear hlt hll
                   go_wp2
                   clear h2 h3)
                | (have h3 : ¬ (k : Int) < 1 + (n0 : Int) := by omega
                   clear hlt hll
                   go_wp2
                   clear h3)
              clear h1
              go_loopw [29] (fun i wr => ∃ (j : Nat), j ≤ more.length ∧ i = .int .i64 j ∧ Hid (Pf w b S t (1 + n0) w1.heap.size w3.heap.size (.slice ab 8 cb) (.slice az (S.frames (t : Int)).length cz) (fill l (1 + n0) k) (ops.length + j) wr)) (fun i _ => more.length - (intOf i).toNat)
              case atStart => exact ⟨0, Nat.zero_le _, rfl, hp2⟩
              case round =>
                obtain ⟨j, hj, rfl, hp⟩ := hrel
                clear hp2
                by_cases hlt : j < more.length
                · obtain ⟨o, ho⟩ : ∃ o, more[j]? = some o := ⟨_, List.getElem?_eq_getElem hlt⟩
                  obtain ⟨g, off, ea, hg, c0, c1, c2, c3, c4, c5, -⟩ := (Hm.out.below hp.out.be) j o ho
                  subst ea
                  obtain ⟨kd, tf, nf, x, sec, la, lo, lc⟩ := o
                  simp only at c0 c1 c2 c3 c4 c5
                  have hki : (j : Int) < (more.length : Int) := by omega
                  have hk2 : ops.length + j < 8796093022208 := by have := HL.out; omega
                  clear ho c1 c4 c5
                  by_cases e6 : kd = 6
                  · subst e6
                    obtain ⟨e0, f0, hc⟩ := pf_open hp.out x
                    go_wp2_with fail
                    refine hc.mono ?_
                    rintro e w5 ⟨rfl, P5⟩
                    have P5' : Hid (Pf w b S t (1 + n0) w1.heap.size w3.heap.size (.slice ab 8 cb) (.slice az (S.frames (t : Int)).length cz) (fill l (1 + n0) k) (ops.length + j + 1) w5) := P5
                    clear hc P5 hp c0 c2 c3
                    go_wp2
                    go_roundw
                    case rel => exact ⟨j + 1, hlt, by go_num, P5'⟩
                    case measure => simp [intOf]; omega
                  have e6' : (kd == 6) = false := by simpa using e6
                  clear e6
                  by_cases e8 : kd = 8
                  · subst e8
                    obtain ⟨e0, hc⟩ := pf_close hp.out nf
                    go_wp2_with fail
                    refine hc.mono ?_
                    rintro e w5 ⟨rfl, P5⟩
                    have P5' : Hid (Pf w b S t (1 + n0) w1.heap.size w3.heap.size (.slice ab 8 cb) (.slice az (S.frames (t : Int)).length cz) (fill l (1 + n0) k) (ops.length + j + 1) w5) := P5
                    clear hc P5 hp c0 c2 c3
                    go_wp2
                    go_roundw
                    case rel => exact ⟨j + 1, hlt, by go_num, P5'⟩
                    case measure => simp [intOf]; omega
                  have e8' : (kd == 8) = false := by simpa using e8
                  clear e8
                  by_cases e10 : kd = 10
                  · subst e10
                    have hc := pf_enq hp.out x hk2
                    go_wp2_with fail
                    refine hc.mono ?_
                    rintro e w5 ⟨rfl, P5⟩
                    have P5' : Hid (Pf w b S t (1 + n0) w1.heap.size w3.heap.size (.slice ab 8 cb) (.slice az (S.frames (t : Int)).length cz) (fill l (1 + n0) k) (ops.length + j + 1) w5) := P5
                    clear hc P5 hp c0 c2 c3
                    go_wp2
                    go_roundw
                    case rel => exact ⟨j + 1, hlt, by go_num, P5'⟩
                    case measure => simp [intOf]; omega
                  have e10' : (kd == 10) = false := by simpa using e10
                  clear e10
                  by_cases e11 : kd = 11
                  · subst e11
                    obtain ⟨e0, f0, hc⟩ := pf_deq hp.out hk2
                    go_wp2_with fail
                    refine hc.mono ?_
                    rintro e w5 ⟨rfl, P5⟩
                    have P5' : Hid (Pf w b S t (1 + n0) w1.heap.size w3.heap.size (.slice ab 8 cb) (.slice az (S.frames (t : Int)).length cz) (fill l (1 + n0) k) (ops.length + j + 1) w5) := P5
                    clear hc P5 hp c0 c2 c3
                    go_wp2
                    go_roundw
                    case rel => exact ⟨j + 1, hlt, by go_num, P5'⟩
                    case measure => simp [intOf]; omega
                  have e11' : (kd == 11) = false := by simpa using e11
                  clear e11
                  have P5' : Hid (Pf w b S t (1 + n0) w1.heap.size w3.heap.size (.slice ab 8 cb) (.slice az (S.frames (t : Int)).length cz) (fill l (1 + n0) k) (ops.length + j + 1) wr) := hp.out.mono
                  clear hp c2 c3
                  go_wp2
                  go_roundw
                  case rel => exact ⟨j + 1, hlt, by go_num, P5'⟩
                  case measure => simp [intOf]; omega
                · obtain rfl : j = more.length := by omega
                  have hnk : ¬ ((more.length : Int)) < (more.length : Int) := by omega
                  go_wp2
                  clear hnk
                  go_loopw [30] (fun i wr => ∃ (i' : Nat), i' ≤ k ∧ i = .int .i64 i' ∧ Hid (Pf w b S t (1 + n0) w1.heap.size w3.heap.size (.slice ab 8 cb) (.slice az (S.frames (t : Int)).length cz) (fill l (1 + n0) k) (ops.length + more.length) wr)) (fun i _ => k - (intOf i).toNat)
                  case atStart => exact ⟨0, Nat.zero_le _, rfl, hp⟩
                  case round =>
                    obtain ⟨i', hi', rfl, hp⟩ := hrel
                    by_cases hlt : i' < k
                    · obtain ⟨x, hx⟩ : ∃ x, l[i']? = some x := ⟨_, List.getElem?_eq_getElem (by omega)⟩
                      obtain ⟨g, off, ea, hg, hc⟩ := (Hv.out.keep (fun j hj => hp.out.be.block j hj)) i' x hx
                      subst ea
                      have hge := pf_get hp.out ES.out.2.2.1 (show i' < 1 + n0 by omega)
                      rw [fill_get hx (by omega) hlt] at hge
                      have hki : (i' : Int) < 1 + (n0 : Int) := by omega
                      have hki2 : (i' : Int) < (l.length : Int) := by omega
                      have Hc : Hid (∀ W', Below w.heap.size w W' → W'.cell? ⟨g, off + i', none⟩ = some (.int .i64 x)) := fun W' hb' => by
                        obtain ⟨g2, off2, ea2, hg2, hc2⟩ := (Hv.out.keep (fun j hj => hb'.block j hj)) i' x hx
                        simp only [Option.some.injEq, Addr.mk.injEq, and_true] at ea2
                        obtain ⟨rfl, rfl⟩ := ea2
                        exact hc2
                      unfold adr at hge
                      clear hx hc
                      go_wp2_with fail
                      refine hge.mono ?_
                      rintro e w5 ⟨rfl, P5⟩
                      have P5' : Hid (Pf w b S t (1 + n0) w1.heap.size w3.heap.size (.slice ab 8 cb) (.slice az (S.frames (t : Int)).length cz) (fill l (1 + n0) k) (ops.length + more.length) w5) := P5
                      have hc5 := Hc.out w5 P5.be
                      clear hge P5 hp Hc
                      go_wp2
                      go_roundw
                      case rel => exact ⟨i' + 1, hlt, by go_num, P5'⟩
                      case measure => simp [intOf]; omega
                    · obtain rfl : i' = k := by omega
                      have hpop := pf_pop hp.out ES.out.2.2.1
                      clear hp
                      have hd := hend.out
                      rcases Nat.lt_or_ge i' (1 + n0) with h1 | h1
                      all_goals
                        first
                          | (have h3 : (i' : Int) < 1 + (n0 : Int) := by omega
                             have h2 : ¬ (i' : Int) < (l.length : Int) := by omega
                             clear hlt h1 hd
                             go_wp2_with fail
                             clear h2 h3)
                          | (have h3 : ¬ (i' : Int) < 1 + (n0 : Int) := by omega
                             clear hlt h1 hd
                             go_wp2_with fail
                             clear h3)
                        refine hpop.mono ?_
                        rintro e w6 ⟨rfl, ⟨N6, S6, F6, R6, ok6, hT6, hr6⟩, be6, fr6, sz6⟩
                        have E6 : Hid (∀ i : Int, S6.topOf i = S.topOf i ∧ S6.frames i = S.frames i) := fun i => top_congr hT6 hr6 i
                        have G6 : Hid (Rts w6 w.heap.size b N6 S6 F6 ∧ S6.Ok ∧ Below w.heap.size w w6 ∧ Fr w6 w1.heap.size w3.heap.size (.slice ab 8 cb) (fun i => S.topOf i) 8 ∧ Ls w6 w1.heap.size w3.heap.size (.slice az (S.frames (t : Int)).length cz) (S.frames t)) := ⟨R6, ok6, be6, fr6, sz6⟩
                        have hfr := frames_any w.heap.size b N6 (t : Int) S6 F6 w6 R6 ok6
                        rw [(E6.out t).2] at hfr
                        clear hpop R6 ok6 be6 fr6 sz6 hT6 hr6
                        go_wp2_with fail
                        refine hfr.mono ?_
                        rintro e w7 ⟨v7, rfl, o7, b7⟩
                        have hsa := same_any v7 (.slice az (S.frames (t : Int)).length cz) (S.frames t) (S.frames t) w7 (own_is o7) (G6.out.2.2.2.2.below b7).is (by
                          unfold Sta.frames
                          split
                          · rename_i hh; have := OK.out.frames (t := t) (by omega); simp; omega
                          · simp)
                        rw [show decide (S.frames (t : Int) = S.frames (t : Int)) = true by simp] at hsa
                        have B7 : Hid (Below w6.heap.size w6 w7) := b7
                        obtain ⟨a7, c7, e7⟩ := own_slice o7
                        subst e7
                        clear hfr o7 b7
                        go_wp2_with fail
                        refine hsa.mono ?_
                        rintro e w8 ⟨rfl, nq, rfl⟩
                        have B8 : Hid (Below w6.heap.size w6 (w7.drewN nq)) := below_drewN B7.out nq
                        clear hsa B7
                        generalize w7.drewN nq = w8 at *
                        have hto := tops_any w.heap.size b N6 S6 F6 w8 (G6.out.1.nil (Touch.of_below B8.out _)) G6.out.2.1
                        go_wp2_with fail
                        refine hto.mono ?_
                        rintro e w9 ⟨v9, rfl, f9, b9⟩
                        have B9 : Hid (Below w6.heap.size w6 w9) := B8.out.trans (b9.mono B8.out.size)
                        have hall := sameAll_any (.slice ab 8 cb) v9 (fun i => S.topOf i) (fun i => S6.topOf i) _ _ _ _ w9 (G6.out.2.2.2.1.below B9.out) f9 (fun i _ => (E6.out i).1.symm) (fun i _ => top_len OK.out i)
                        obtain ⟨a9, c9, e9⟩ : ∃ a c, v9 = .slice a 8 c := by obtain ⟨fs, -, g2, -⟩ := f9.ex; exact own_slice g2
                        subst e9
                        clear hto f9 b9 B8
                        go_wp2_with fail
                        refine hall.mono ?_
                        rintro e w10 ⟨rfl, nq2, rfl⟩
                        have BF : Hid (Below w.heap.size w (w9.drewN nq2)) := below_drewN (G6.out.2.2.1.trans (B9.out.mono G6.out.2.2.1.size)) nq2
                        clear hall
                        go_wp2
                        go_ret
                        exact ⟨rfl, BF.out⟩
  · have hS : S.pushS t (1 + (n0 : Int)) = S := by
      rw [show ((1 + n0 : Nat) : Int) = 1 + (n0 : Int) by omega] at he
      unfold Sta.pushS
      rw [he]
      rfl
    rw [show ((1 + n0 : Nat) : Int) = 1 + (n0 : Int) by omega] at he
    rw [he, hS] at hpu
    have efr : S.frames t = S.rw (t * 2) := by unfold Sta.frames; rw [if_pos (by have := ES.out.2.2.1; omega)]; rfl
    have hpos : ∀ x ∈ S.frames t, 1 ≤ x := by rw [efr]; exact OK.out.pos t ES.out.2.2.1
    have hsum : (S.frames t).sum = (S.rw (t * 2 + 1)).length := by rw [efr]; exact OK.out.sum t ES.out.2.2.1
    have hrm : (S.rw (t * 2 + 1)).length ≤ 4096 := by have h1 := OK.out.room t ES.out.2.2.1; have h2 := OK.out.m2; omega
    have hfl : (S.frames t).length ≤ 4096 := by rw [efr]; exact OK.out.frames ES.out.2.2.1
    have HS : Hid ((∀ x ∈ S.frames t, 1 ≤ x) ∧ (S.frames t).sum = (S.rw (t * 2 + 1)).length ∧ (S.rw (t * 2 + 1)).length ≤ 4096 ∧ S.most < (S.rw (t * 2 + 1)).length + (1 + n0) ∧ (S.frames t).length ≤ 4096) := ⟨hpos, hsum, hrm, hov, hfl⟩
    clear he hS efr hpos hsum hrm hov hfl
    go_wp2_with fail
    refine hpu.mono ?_
    rintro e w4 ⟨rfl, F4, h4, t4, n4⟩
    have G4 : Hid (Rts w4 w.heap.size b N S F4 ∧ Below w.heap.size w w4 ∧ Fr w4 w1.heap.size w3.heap.size (.slice ab 8 cb) (fun i => S.topOf i) 8 ∧ Ls w4 w1.heap.size w3.heap.size (.slice az (S.frames (t : Int)).length cz) (S.frames t)) :=
      ⟨h4, B3w.out.trans (t4.below B3w.out.size (fun j hj => (H3.out.mem j hj).1)), FR.out.keep t4 HF.out, SZ.out.keep t4 HF.out⟩
    clear hpu h4 t4 n4 FR SZ B3w H3 HF
    go_wp2
    go_loopw [23, 24] (fun v i wr => ∃ (k : Nat), k ≤ (S.frames (t : Int)).length ∧ i = .int .i64 k ∧ v = .int .i64 ((S.frames t).take k).sum ∧ wr = w4) (fun _ i _ => (S.frames (t : Int)).length - (intOf i).toNat)
    case atStart => exact ⟨0, Nat.zero_le _, rfl, by simp, rfl⟩
    case round =>
      obtain ⟨k, hk, rfl, rfl, rfl⟩ := hrel
      have s1 := sum_take_le (S.frames t) k HS.out.1
      have s2 := sum_take_nn (S.frames t) k HS.out.1
      have s3 : (S.frames t).sum ≤ 4096 := by have := HS.out; omega
      by_cases hlt : k < (S.frames (t : Int)).length
      · obtain ⟨x, hx⟩ : ∃ x, (S.frames (t : Int))[k]? = some x := ⟨_, List.getElem?_eq_getElem hlt⟩
        obtain ⟨g, off, ea, hc⟩ := G4.out.2.2.2.get hx
        subst ea
        have hki : (k : Int) < ((S.frames (t : Int)).length : Int) := by omega
        have hk4 : k < 4096 := by have := HS.out; omega
        have s4 := sum_take_le (S.frames t) (k + 1) HS.out.1
        have esn : ((S.frames t).take (k + 1)).sum = ((S.frames t).take k).sum + x := by rw [← take_snoc' hx]; simp
        have x1 : 1 ≤ x := HS.out.1 x (List.mem_of_getElem? hx)
        have Esn : Hid (((S.frames t).take (k + 1)).sum = ((S.frames t).take k).sum + x) := esn
        have bx : ((S.frames t).take k).sum + x < 9223372036854775808 := by omega
        have bx2 : -9223372036854775808 ≤ ((S.frames t).take k).sum + x := by omega
        clear hx s1 s3 s4 esn x1
        generalize ((S.frames (t : Int)).take k).sum = sk at *
        go_wp2
        go_roundw
        case rel => exact ⟨k + 1, hlt, by go_num, by rw [Esn.out], by first | rfl | trivial⟩
        case measure => simp [intOf]; omega
      · obtain rfl : k = (S.frames (t : Int)).length := by omega
        have hnk : ¬ ((S.frames (t : Int)).length : Int) < ((S.frames (t : Int)).length : Int) := by omega
        have es : ((S.frames (t : Int)).take (S.frames (t : Int)).length).sum = (S.rw (t * 2 + 1)).length := by rw [List.take_length]; exact HS.out.2.1
        rw [es]
        clear s1 s2 s3
        have L4 : (S.rw (t * 2 + 1)).length ≤ 4096 := HS.out.2.2.1
        have Lov : Hid (1 + (m0 : Int) < ((S.rw (t * 2 + 1)).length : Int) + (1 + (n0 : Int))) := by have h1 := HS.out.2.2.2.1; have h2 := ES.out.2.1; show 1 + (m0 : Int) < ((S.rw (t * 2 + 1)).length : Int) + (1 + (n0 : Int)); omega
        clear es
        generalize (S.rw (t * 2 + 1)).length = ls at *
        go_wp2_with fail
        clear hnk
        refine (P4.out _).mono ?_
        rintro e w' ⟨rfl, rfl⟩
        have lov := Lov.out
        have hto := tops_any w.heap.size b N S F4 wr G4.out.1 OK.out
        go_wp2_with fail
        refine hto.mono ?_
        rintro e w9 ⟨v9, rfl, f9, b9⟩
        have B9 : Hid (Below wr.heap.size wr w9) := b9
        have hall := sameAll_any (.slice ab 8 cb) v9 (fun i => S.topOf i) (fun i => S.topOf i) _ _ _ _ w9 (G4.out.2.2.1.below b9) f9 (fun i _ => rfl) (fun i _ => top_len OK.out i)
        obtain ⟨a9, c9, e9⟩ : ∃ a c, v9 = .slice a 8 c := by obtain ⟨fs, -, g2, -⟩ := f9.ex; exact own_slice g2
        subst e9
        clear hto f9 b9
        go_wp2_with fail
        refine hall.mono ?_
        rintro e w10 ⟨rfl, nq2, rfl⟩
        have BF : Hid (Below w.heap.size w (w9.drewN nq2)) := below_drewN (G4.out.2.1.trans (B9.out.mono G4.out.2.1.size)) nq2
        clear hall
        go_wp2
        go_ret
        exact ⟨rfl, BF.out⟩

end Go.Proofs.Ytemdmpfifcihfaa
