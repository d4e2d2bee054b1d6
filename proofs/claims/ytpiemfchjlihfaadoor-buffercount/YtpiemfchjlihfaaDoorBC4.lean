/-
  BufferCount: its walk.
-/
import Derived.Test.YtpiemfchjlihfaaDoorBC3
set_option linter.unusedVariables false
set_option maxRecDepth 20000
namespace Go.Proofs.YtpiemfchjlihfaaDoor
open Go.RowKit

set_option maxHeartbeats 16000000 in
theorem count_any (A1 A2 A3 : Int) (u1 : -9223372036854775808 ≤ A1 ∧ A1 < 9223372036854775808) (u2 : -9223372036854775808 ≤ A2 ∧ A2 < 9223372036854775808) (u3 : -9223372036854775808 ≤ A3 ∧ A3 < 9223372036854775808) (w : World) (hL : Laid w) :
    Calls Tryd.prog 3 #[.int .i64 A1, .int .i64 A2, .int .i64 A3] w fun e w' => e = .returned (.bool true) ∧ Below w.heap.size w w' := by
  have HL : Hid (Laid w) := hL
  obtain ⟨v, hv20, cv1⟩ := among13_nat A2 20 u2.1 u2.2 (by decide)
  obtain ⟨u, hu60, cu1⟩ := among13_nat A1 60 u1.1 u1.2 (by decide)
  obtain ⟨K, hK, ck1⟩ := among13_nat A3 20 u3.1 u3.2 (by decide)
  obtain ⟨n, hn⟩ : ∃ n : Nat, n = v + 2 := ⟨_, rfl⟩
  obtain ⟨W, hW⟩ : ∃ W : Nat, W = n + u := ⟨_, rfl⟩
  have HN : Hid (n = v + 2) := hn
  have HWn : Hid (W = n + u) := hW
  have Cv : Hid (∀ w : World, Calls Tryd.prog 8 #[.int .i64 A2, .int .i64 20] w fun e w' => e = .returned (.int .i64 v) ∧ w = w') := cv1
  have Cu : Hid (∀ w : World, Calls Tryd.prog 8 #[.int .i64 A1, .int .i64 60] w fun e w' => e = .returned (.int .i64 u) ∧ w = w') := cu1
  have Ck : Hid (∀ w : World, Calls Tryd.prog 8 #[.int .i64 A3, .int .i64 20] w fun e w' => e = .returned (.int .i64 K) ∧ w = w') := ck1
  have q := known13_any w hL
  clear hL cv1 cu1 ck1 hn hW u1 u2 u3
  go_enter Tryd.func3, Tryd.ntmps3
  go_wp2_with fail
  refine q.mono ?_
  rintro e9 w1 ⟨rfl, b1⟩
  have H1 : Hid (Below w.heap.size w w1) := b1
  clear q b1
  have q := small_any w1
  go_wp2_with fail
  refine q.mono ?_
  rintro e9 w2 ⟨rfl, b2⟩
  have H2 : Hid (Below w.heap.size w w2) := H1.out.trans (b2.mono H1.out.size)
  clear q b2 H1
  go_upto_region 5 with fail
  have q := new_yes cbig cbig_ok (w2.alloc (.cells (ccells cbig) 24))
  have H3 : Hid (Below w.heap.size w (w2.alloc (.cells (ccells cbig) 24))) := Below.alloc H2.out H2.out.size _
  clear H2
  go_wp2_with fail
  refine q.mono ?_
  rintro e9 w4 ⟨ab, ag, rfl, hA, b4, l1, l2⟩
  have H4 : Hid (Below w.heap.size w w4) := H3.out.trans (b4.mono H3.out.size)
  have HA : Hid (Ar w4 ab ag cbig (tops0 cbig) false (fun _ => 0)) := hA
  have Hl : Hid (w.heap.size ≤ ab ∧ w.heap.size ≤ ag) := ⟨by have := H3.out.size; omega, by have := H3.out.size; omega⟩
  clear q hA b4 l1 l2 H3
  have q := Cv.out w4
  have e1 : (2 : Int) + (v : Int) = (n : Int) := by have := HN.out; omega
  have en1 : n ≤ 21 := by have := HN.out; omega
  have en2 : 2 ≤ n := by have := HN.out; omega
  go_wp2_with fail
  refine q.mono ?_
  rintro e9 w5 ⟨rfl, rfl⟩
  clear q
  have q := Cu.out w4
  go_wp2_with fail
  refine q.mono ?_
  rintro e9 w5 ⟨rfl, rfl⟩
  clear q
  have e2 : (n : Int) + (u : Int) = (W : Int) := by have := HWn.out; omega
  have q := Ck.out w4
  go_wp2_with fail
  refine q.mono ?_
  rintro e9 w5 ⟨rfl, rfl⟩
  clear q Cv Cu Ck
  have eW : W ≤ 80 ∧ n ≤ W := by have := HWn.out; omega
  have q := bnew_yes 2 (W : Int) (by omega) w4
  go_wp2_with fail
  refine q.mono ?_
  rintro e9 w5 ⟨b, rfl, hb, b3, l3⟩
  have HB : Hid (Bw w.heap.size w5 b ab ag cbig (tops0 cbig) (fun _ => 0) (bfs0 2 W)) := Bw.start HA.out (HL.out.keep H4.out) Hl.out ⟨HL.out.lt0, HL.out.lt1⟩ hb b3 l3
  have H5 : Hid (Below w.heap.size w w5) := H4.out.trans (b3.mono H4.out.size)
  have Hlo : Hid (∀ z, z ∈ [b, ab, ag] → w.heap.size ≤ z) := fun z hz => by
    have := HB.out.lo
    simp only [List.mem_cons, List.not_mem_nil, or_false] at hz
    omega
  clear q hb b3 l3 HA H4 e1 e2
  have ev : (n : Int) - 2 = (v : Int) := by have := HN.out; omega
  have q := plain_any (v : Int) w5
  go_wp2_with fail
  refine q.mono ?_
  rintro e9 w6 ⟨rfl, b4⟩
  have hpd : Hd13 1 1 0 (v : Int) 0 0 n := by rw [HN.out]; exact plain_hd v (by omega)
  have HPd : Hid (Hd13 1 1 0 (v : Int) 0 0 n) := hpd
  have q2 := (HB.out.below b4).new 1 (by show ((1 : Nat) : Int) < 2; decide) false hpd (by show ¬ (n : Int) ≤ 0; omega) (by show (n : Int) ≤ W; omega) (by show (n : Int) ≤ 1 + 2000 - 1; omega) 1 W rfl (by show min (W : Int) (1 + 2000 - 1) = W; omega)
  have H6 : Hid (Below w.heap.size w w6) := H5.out.trans (b4.mono H5.out.size)
  clear q b4 HB H5 hpd
  go_wp2_with fail
  refine q2.mono ?_
  rintro e9 w7 ⟨rfl, a1, a2⟩
  have H7 : Hid (Below w.heap.size w w7) := H6.out.trans (a2.below H6.out.size Hlo.out)
  obtain ⟨E, hE⟩ : ∃ E : Nat, E = W / n := ⟨_, rfl⟩
  have HE : Hid (1 ≤ E ∧ E * n ≤ W ∧ W < E * n + n) := by
    have h1 := Nat.div_add_mod W n
    have h2 := Nat.mod_lt W (show 0 < n by omega)
    rw [← hE, Nat.mul_comm] at h1
    refine ⟨?_, by omega, by omega⟩
    rw [hE]
    exact (Nat.le_div_iff_mul_le (by omega)).2 (by omega)
  have HC : Hid (∃ (x : Tps) (ws : Nat → Int) (B : Bfs), Bw w.heap.size w7 b ab ag cbig x ws B ∧ Cn n W E 0 0 0 x B) := by
    refine ⟨_, _, _, a1, .inl ⟨rfl, rfl, rfl⟩, ?_, rfl, rfl, rfl, fun h => ?_, ?_, ?_⟩
    · show ((1 : Nat) : Int) + W = _
      omega
    · exact absurd (show (0 : Int) < 0 from h) (by decide)
    · show (W : Int) - n = _
      rfl
    · show (if (W : Int) - n = 0 then (0 : Int) else ((1 : Nat) : Int) + n) = _
      rfl
  obtain ⟨x0, ws0, B0, hw0, hc0⟩ := HC.out
  have HW7 : Hid (Bw w.heap.size w7 b ab ag cbig x0 ws0 B0) := hw0
  have HC7 : Hid (Cn n W E 0 0 0 x0 B0) := hc0
  clear q2 a1 a2 H6 HC hw0 hc0
  have q := brest_yes HW7.out.bf 1 (by rw [HC7.out.bn]; decide)
  rw [HC7.out.w1, HC7.out.a1] at q
  obtain ⟨aa, haa⟩ : ∃ aa : Int, (if (W : Int) - n = 0 then (0 : Int) else 1 + n) = aa := ⟨_, rfl⟩
  have HAA : Hid ((if (W : Int) - n = 0 then (0 : Int) else 1 + n) = aa) := haa
  rw [haa] at q
  clear haa
  go_wp2_with fail
  refine q.mono ?_
  rintro e9 w8 ⟨rfl, b5⟩
  have HW8 : Hid (Bw w.heap.size w8 b ab ag cbig x0 ws0 B0) := HW7.out.below b5
  have H8 : Hid (Below w.heap.size w w8) := H7.out.trans (b5.mono H7.out.size)
  have hn0 : ¬ (n : Int) = 0 := by omega
  have hdv : (W : Int).tdiv n = (E : Int) := by rw [hE]; exact (Int.ofNat_tdiv W n).symm
  have eE : 1 ≤ E ∧ E ≤ 80 := by
    have h1 := HE.out
    have h2 : E * 1 ≤ E * n := Nat.mul_le_mul_left _ (by omega)
    omega
  clear q b5 HW7 H7 hE
  go_upto_region 18 with fail
  clear hdv ev
  go_loopw [13, 14, 18] (fun at_ ok i wr => ∃ (k a j : Nat) (A : Int) (x : Tps) (ws : Nat → Int) (B : Bfs), at_ = .int .i64 A ∧ ok = .bool true ∧ i = .int .i64 k ∧ k ≤ K ∧ Hid (Bw w.heap.size wr b ab ag cbig x ws B) ∧ Hid (Cn n W E k a j x B) ∧ Hid (Below w.heap.size w wr)) (fun _ _ i _ => K - (intOf i).toNat)
  case atStart => exact ⟨0, 0, 0, 1, x0, ws0, B0, rfl, rfl, rfl, by omega, HW8, HC7, H8⟩
  case round =>
    obtain ⟨k, a, j, A, x, ws, B, rfl, rfl, rfl, hk, HB, HCn, Hb⟩ := hrel
    clear HW8 HC7 H8
    by_cases hlt : k < K
    · have hli : (k : Int) < K := by omega
      have ev : (n : Int) - 2 = (v : Int) := by have := HN.out; omega
      have q := plain_any (v : Int) wr
      go_wp2_with fail
      refine q.mono ?_
      rintro e9 wa ⟨rfl, b4⟩
      have HBa : Hid (Bw w.heap.size wa b ab ag cbig x ws B) := HB.out.below b4
      have Hba : Hid (Below w.heap.size w wa) := Hb.out.trans (b4.mono Hb.out.size)
      have hne0 : ¬ (E : Int) = 0 := by omega
      have hdv : (k : Int).tdiv E = ((k / E : Nat) : Int) := (Int.ofNat_tdiv k E).symm
      have hrm : (k : Int).tmod E = ((k % E : Nat) : Int) := (Int.ofNat_tmod k E).symm
      have hq20 : k / E ≤ 19 := Nat.le_trans (Nat.div_le_self _ _) (by omega)
      have hr20 : k % E ≤ 19 := Nat.le_trans (Nat.mod_le _ _) (by omega)
      have hm1 : k / E * W ≤ 19 * 80 := Nat.mul_le_mul hq20 eW.1
      have hm2 : k % E * n ≤ 19 * 21 := Nat.mul_le_mul hr20 en1
      have hp1 : ((k / E : Nat) : Int) * W = ((k / E * W : Nat) : Int) := by simp
      have hp2 : ((k % E : Nat) : Int) * n = ((k % E * n : Nat) : Int) := by simp
      have HQ : Hid (∃ Q : Nat, Q = 1 + W + k / E * W + k % E * n ∧ ∃ (a' j' : Nat) (x' : Tps) (B' : Bfs), Cn n W E (k + 1) a' j' x' B' ∧ Calls Tryd.prog 10 #[.pointer (some ⟨b, 0, none⟩), .pointer (some ⟨ab, 0, none⟩), .int .i64 0, hv 1 1 0 (v : Int) 0 0 false] wa fun e w' => e = .returned (.tuple #[.int .i64 Q, .bool true]) ∧ (∃ ws', Bw w.heap.size w' b ab ag cbig x' ws' B') ∧ Touch [b, ab, ag] wa w') := by
        rcases HCn.out.cases eE.1 with ⟨c1, c2, c3, c4⟩ | ⟨c1, c2, c3⟩
        · obtain ⟨r1, r2, r3⟩ := HCn.out.rest c1 c2 HE.out.2.1 en2
          refine ⟨_, rfl, a, j + 1, x, _, r3, ?_⟩
          have e3 : a - 1 = k / E := by omega
          refine (HBa.out.rest 0 (by rw [HCn.out.bn]; decide) false HPd.out r1 _ r2).mono ?_
          rintro e w' ⟨rfl, z1, z2⟩
          rw [e3, c4]
          exact ⟨rfl, ⟨_, z1⟩, z2⟩
        · obtain ⟨r1, r2, r3⟩ := HCn.out.new c3 eE.1 HE.out.2.2 en2 eW.2
          refine ⟨_, rfl, a + 1, 1, _, _, r3, ?_⟩
          have h19 : a * W ≤ 19 * 80 := Nat.mul_le_mul (by rw [← c1]; exact hq20) eW.1
          refine (HBa.out.new 0 (by rw [HCn.out.bn]; decide) false HPd.out r1 (by rw [HCn.out.sz]; omega) (by rw [r2]; show (n : Int) ≤ 1 + 2000 - _; omega) _ W r2 (by rw [HCn.out.sz, r2]; show min (W : Int) (1 + 2000 - _) = W; omega)).mono ?_
          rintro e w' ⟨rfl, z1, z2⟩
          rw [c1, c2, Nat.zero_mul, Nat.add_zero]
          exact ⟨rfl, ⟨_, z1⟩, z2⟩
      obtain ⟨Q, hQ, a', j', x', B', cn, cq⟩ := HQ.out
      have HCn' : Hid (Cn n W E (k + 1) a' j' x' B') := cn
      clear q b4 HB Hb HCn HQ cn
      go_wp2_with fail
      refine cq.mono ?_
      rintro e9 wb ⟨rfl, ⟨ws', z1⟩, z2⟩
      have HBb : Hid (Bw w.heap.size wb b ab ag cbig x' ws' B') := z1
      have Hbb : Hid (Below w.heap.size w wb) := Hba.out.trans (z2.below Hba.out.size Hlo.out)
      clear cq z1 z2 HBa Hba ev
      obtain ⟨P1, hP1⟩ : ∃ P : Nat, P = k / E * W := ⟨_, rfl⟩
      obtain ⟨P2, hP2⟩ : ∃ P : Nat, P = k % E * n := ⟨_, rfl⟩
      rw [← hP1] at hm1 hp1 hQ
      rw [← hP2] at hm2 hp2 hQ
      generalize k / E = D at hdv hp1 hq20
      generalize k % E = R at hrm hp2 hr20
      have hne : ((Q : Int) != 1 + W + P1 + P2) = false := by rw [hQ]; simp
      clear hP1 hP2 hQ
      go_upto_region 21 with fail
      go_quiet (fail)
      have HBc : Hid (Bw w.heap.size (wb.drewN nq) b ab ag cbig x' ws' B') := HBb.out.below (below_drewN (Below.refl _ _) nq)
      have Hbc : Hid (Below w.heap.size w (wb.drewN nq)) := below_drewN Hbb.out nq
      clear HBb Hbb hdv hrm hp1 hp2 hm1 hm2 hne
      generalize wb.drewN nq = wc at HBc Hbc ⊢
      go_wp2
      go_roundw
      case rel => exact ⟨k + 1, a', j', Q, x', ws', B', rfl, rfl, by go_num, by omega, HBc, HCn', Hbc⟩
      case measure => simp [intOf]; omega
    · have hkK : k = K := by omega
      subst hkK
      have hli : ¬ (k : Int) < k := by omega
      have q := brest_yes HB.out.bf 1 (by rw [HCn.out.bn]; decide)
      rw [HCn.out.w1, HCn.out.a1, HAA.out] at q
      go_wp2_with fail
      refine q.mono ?_
      rintro e9 wa ⟨rfl, b4⟩
      have HBa : Hid (Bw w.heap.size wa b ab ag cbig x ws B) := HB.out.below b4
      have Hba : Hid (Below w.heap.size w wa) := Hb.out.trans (b4.mono Hb.out.size)
      have hne0 : ¬ (E : Int) = 0 := by omega
      have hdv : ((k : Int) + E - 1).tdiv E = (a : Int) := by
        rw [show (k : Int) + E - 1 = ((k + E - 1 : Nat) : Int) by omega, ← Int.ofNat_tdiv, HCn.out.used eE.1]
      have hp1 : (a : Int) * W = ((a * W : Nat) : Int) := by simp
      have ha19 : a ≤ 19 := by have := HCn.out.le eE.1; omega
      have hm1 : a * W ≤ 19 * 80 := Nat.mul_le_mul ha19 eW.1
      obtain ⟨T, hT⟩ : ∃ T : Int, x.top 1 = T := ⟨_, rfl⟩
      have hT2 : T = 1 + W + (a * W : Nat) := by rw [← hT, ← hp1]; exact HCn.out.top
      have HTp : Hid (∀ p : Kg.Bel wa, Calls Tryd.prog 13 #[.pointer (some ⟨ab, 0, none⟩), .int .i64 1] p.v fun e w' => e = .returned (.int .i64 T) ∧ Below p.v.heap.size p.v w') := fun p => by rw [← hT]; exact top_any ab ag cbig x false ws 1 p.v (HBa.out.ar.below p.h)
      generalize a * W = P at hp1 hm1 hT2
      have hTe : (T == 1 + W + P) = true := by rw [hT2]; simp
      have htb : T ≤ 10000 ∧ 0 ≤ T := by omega
      clear q b4 HB Hb HCn hT hT2
      go_upto_region 24 with fail
      haveI hinh : Inhabited (Kg.Bel wa) := ⟨⟨wa, Below.refl _ _⟩⟩
      refine Kg.region_below Kg.mixed (by kernel_rfl) ?_
      repeat (go_big_quiet_step (first | (go_at_call 13; exact Kg.calls_bel (HTp.out _))))
      refine wpQuiet_nil ?_
      rintro w8 ⟨⟨w8, b8⟩, rfl⟩
      have Hb8 : Hid (Below w.heap.size w w8) := Hba.out.trans (b8.mono Hba.out.size)
      clear HTp hinh hdv hp1 hTe
      go_wp2
      go_returns
      exact ⟨rfl, Hb8.out⟩

end Go.Proofs.YtpiemfchjlihfaaDoor
