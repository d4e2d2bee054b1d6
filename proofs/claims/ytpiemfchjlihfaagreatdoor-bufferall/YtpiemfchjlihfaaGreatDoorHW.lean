/-
  A space that is ranged over to its end.
-/
import Derived.Test.YtpiemfchjlihfaaGreatDoorA10
import Derived.Test.YtpiemfchjlihfaaGreatDoorRng
set_option linter.unusedVariables false
namespace Go.Proofs.YtpiemfchjlihfaaGreatDoor
open Go.RowKit Go.Shelf

attribute [local go_sem] Oper.semAt_some

/-- What the yield is told of an object. -/
abbrev encO (c : Cfg) (ws : Nat → Int) (a : Int) : Array Value := #[.int .i64 a, hdv c ws a]

theorem j_below {α : Type} {B : Nat} {J : (Nat → Prop) → List α → World → Prop} (h : OwnS B J) {S : Nat → Prop} {s : List α} {W W' : World} (hs : J S s W) (l : Below W.heap.size W W') : J (fun k => S k ∨ (W.heap.size ≤ k ∧ k < W'.heap.size)) s W' :=
  h S s W W' none hs ⟨l.os, l.tape, l.output, l.size, fun k hk _ => l.block k hk⟩ (fun r e => by cases e)

set_option maxRecDepth 100000 in
set_option maxHeartbeats 8000000 in
theorem walk_full (b g ca cs : Nat) (c : Cfg) (x : Tps) (sw : Bool) (ws : Nat → Int) (S : Int) (l : List Int) (p e : Int) (hp : Past c ws (x.top S) (fst c S) p) (hwk : Walk c ws (x.top S) p l e) (n0 : Nat) (w : World) (hI : It w b g ca cs c x sw ws S) (hn0 : n0 ≤ w.heap.size) (hbn : b < n0) (hgn : g < n0) (h0n : 1 < n0) (h1n : 0 < n0) :
    SeqFull Tryz.prog 99 #[.pointer (some ⟨ca, 0, none⟩), .pointer (some ⟨cs, 0, none⟩)] (encO c ws) l n0 (fun k => k = ca ∨ k = cs) w := fun n lp J W S0 hW hOw hJ hY h0 => by
  have hI' := hI.below hW
  refine callsIn_of_wp Tryz.func99 rfl trivial ?_ rfl
  simp only [Tryz.ntmps99, List.size_toArray, List.length_cons, List.length_nil, Nat.reduceAdd, Nat.reduceSub, Array.replicate_succ, Array.replicate_zero, List.push_toArray, List.append_toArray, List.nil_append, List.cons_append]
  have k1 := hI'.ca
  have k2 := hI'.cs
  have hx := extent_any b g c x sw ws S W hI'.ar
  obtain ⟨s0, s1, s2, s3⟩ := hI'.ar.sub_in S
  have wo := hI'.ar.words
  have hca := World.block_lt_of_cell? _ _ hI'.ca
  have hcs := World.block_lt_of_cell? _ _ hI'.cs
  have hSa := hOw ca (.inl rfl)
  have hSs := hOw cs (.inr rfl)
  have HI : Hid (It W b g ca cs c x sw ws S) := hI'
  have HIk : Hid (∀ W1 : World, Below n0 W W1 → W1.heap[ca]? = W.heap[ca]? → W1.heap[cs]? = W.heap[cs]? → It W1 b g ca cs c x sw ws S) := fun W1 lw e1 e2 => ⟨hI'.ar.keep (lw.block _ (by omega)) (lw.block _ (by omega)), hI'.laid.blocks (lw.block _ (by omega)) (lw.block _ (by omega)), (World.cell?_of_block (w := W) e1).trans hI'.ca, (World.cell?_of_block (w := W) e2).trans hI'.cs⟩
  have hnW : n0 ≤ W.heap.size := by have := hW.size; omega
  have HJ : Hid (OwnS W.heap.size J) := hJ
  have HY : Hid (∀ S pre x W1, J S pre W1 → pre ++ [x] <+: l → ∀ m, YieldAt Fence.wide m Tryz.prog lp (encO c ws x) W1 fun e W' => e = .returned (.bool true) ∧ J S (pre ++ [x]) W' ∧ (∀ k, S k → W'.heap[k]? = W1.heap[k]?) ∧ Below n0 W1 W') := hY
  clear hI hI' hJ hY hOw
  simp only at hca hcs
  generalize fst c S = f, bhd c S = q, x.top S = top at hx hp hwk s0 s1 s2 s3
  gi_wp2
  refine ⟨trivial, fun h => (by cases h), (callsIn_wide.2 hx).mono ?_⟩
  rintro r w1 ⟨rfl, b1⟩
  have b2 := Below.alloc b1 b1.size (.cells (ecells f q top) 61)
  have hE : Ec (w1.alloc (.cells (ecells f q top) 61)) w1.heap.size f q top := ⟨heap_alloc_new w1 _⟩
  have hES := b1.size
  have i2 := HIk.out _ (b2.mono hnW) (b2.block _ hca) (b2.block _ hcs)
  have j2 := j_below HJ.out h0 b2
  have k1 := i2.ca
  have k2 := i2.cs
  have k3 := hE.c0
  have k4 := hE.c2
  have hpa := past_any b g c x sw ws top f p s0 (by omega) hp _ i2.ar i2.laid
  have hEin : W.heap.size ≤ w1.heap.size ∧ w1.heap.size < (w1.alloc (.cells (ecells f q top) 61)).heap.size := ⟨hES, by simp⟩
  clear i2 hx b1 h0
  gi_wp2
  refine ⟨trivial, fun h => (by cases h), (callsIn_wide.2 hpa).mono ?_⟩
  rintro r w3 ⟨rfl, b3⟩
  have b4 := b2.trans (b3.mono b2.size)
  have hE3 := hE.below b3
  have j3 := j_below HJ.out j2 b3
  have p0 := hp.ge
  clear hpa k1 k2 k3 k4 b2 hE j2 b3
  generalize w1.heap.size = E at *
  generalize (w1.alloc (.cells (ecells f q top) 61)).heap.size = sz at *
  gi_wp2
  gi_loopw [5] (fun v wr => ∃ a pre rest S', v = .int .i64 a ∧ 0 ≤ a ∧ l = pre ++ rest ∧ Walk c ws top a rest e ∧ J S' pre wr ∧ Below n0 W wr ∧ S' E ∧ Ec wr E f q top ∧ (S' ca ∧ S' cs) ∧ wr.heap[ca]? = W.heap[ca]? ∧ wr.heap[cs]? = W.heap[cs]?) (fun v _ => (top - intOf v).toNat)
  case atStart => exact ⟨p, [], l, _, rfl, by omega, rfl, hwk, j3, b4.mono hnW, .inl (.inr hEin), hE3, ⟨.inl (.inl hSa), .inl (.inl hSs)⟩, b4.block _ hca, b4.block _ hcs⟩
  case round =>
    obtain ⟨a, pre, rest, S', rfl, ha, hl, hw, hJr, btr, hSE, hEc, hSc, hea, hes⟩ := hrel
    have HEA : Hid (wr.heap[ca]? = W.heap[ca]? ∧ wr.heap[cs]? = W.heap[cs]?) := ⟨hea, hes⟩
    have HJr : Hid (J S' pre wr) := hJr
    have Hw : Hid (Walk c ws top a rest e) := hw
    clear hJr hw
    have hr := HIk.out wr btr hea hes
    have hwr : W.heap.size ≤ wr.heap.size := btr.size
    clear hea hes
    have k1 := hr.ca
    have k2 := hr.cs
    have k4 := hEc.c2
    by_cases hat : a < top
    · by_cases hs : Stands c ws top a
      · have hbl := below_yes b g c x sw ws top a ha hat (by omega) hs wr hr.ar hr.laid
        obtain ⟨l', a', hre, hpa, hw'⟩ : ∃ l' a', rest = a :: l' ∧ Past c ws top (a + osz c ws a) a' ∧ Walk c ws top a' l' e := by
          rcases Hw.out with ⟨h⟩ | ⟨_, h⟩ | ⟨_, _, h3, h4⟩
          · omega
          · exact absurd hs h
          · exact ⟨_, _, rfl, h3, h4⟩
        have Hw' : Hid (Walk c ws top a' l' e) := hw'
        clear hw' Hw
        subst hre
        have hpre : pre ++ [a] <+: l := ⟨l', by rw [hl]; simp⟩
        have hz := osz_in c ws a
        have hzl := hs.2
        obtain ⟨n', hn⟩ : ∃ n' : Nat, osz c ws a = n' := Int.eq_ofNat_of_zero_le (by omega)
        have hpg := hpa.ge
        have hyi : ∀ S1 W1, J S1 pre W1 → _ := fun S1 W1 hW1 => HY.out S1 pre a W1 hW1 hpre (n - 1)
        have hpas : ∀ W1, It W1 b g ca cs c x sw ws S → _ := fun W1 hW1 => past_any b g c x sw ws top (a + osz c ws a) a' (by omega) (by omega) hpa W1 hW1.ar hW1.laid
        simp only [obv, hn, Int.toNat_natCast] at hbl
        simp only [encO, hdv] at hyi
        rw [hn] at hz hzl hpg hpas
        clear hs hn hpa
        generalize wat c ws (a + 1) = sr, kdOf (wat c ws a) = K, ptOf (wat c ws a) = P, rwOf (wat c ws a) = R, agOf (wat c ws a) = A, stOf (wat c ws a) = T, hdOf (wat c ws a) = H at hbl hyi
        have Hyi : Hid (∀ S1 W1, J S1 pre W1 → YieldAt Fence.wide (n - 1) Tryz.prog lp #[.int .i64 a, hv sr K P R A T H] W1 fun e W' => e = .returned (.bool true) ∧ J S1 (pre ++ [a]) W' ∧ (∀ k, S1 k → W'.heap[k]? = W1.heap[k]?) ∧ Below n0 W1 W') := hyi
        have Hpas : Hid (∀ W1, It W1 b g ca cs c x sw ws S → Calls Tryz.prog 100 #[.pointer (some ⟨b, 0, none⟩), .int .i64 top, .int .i64 (a + n')] W1 fun r w' => r = .returned (.int .i64 a') ∧ Below W1.heap.size W1 w') := hpas
        clear hyi hpas hr
        gi_wp2
        refine ⟨trivial, fun h => (by cases h), (callsIn_wide.2 hbl).mono ?_⟩
        rintro r w4 ⟨rfl, b5⟩
        have b6 := Below.alloc b5 b5.size (.cells (ocells sr K P R A T H (.slice (some ⟨g, a.toNat, none⟩) n' n')) 146)
        have o6 := Oc.new w4 (ocells sr K P R A T H (.slice (some ⟨g, a.toNat, none⟩) n' n'))
        have hEc6 := hEc.below b6
        have hwrn : n0 ≤ wr.heap.size := Nat.le_trans hnW btr.size
        have btr6 := btr.trans (b6.mono hwrn)
        have j6 := j_below HJ.out HJr.out b6
        have HB6 : Hid ((w4.alloc (.cells (ocells sr K P R A T H (.slice (some ⟨g, a.toNat, none⟩) n' n')) 146)).heap[ca]? = W.heap[ca]? ∧ (w4.alloc (.cells (ocells sr K P R A T H (.slice (some ⟨g, a.toNat, none⟩) n' n')) 146)).heap[cs]? = W.heap[cs]?) := ⟨(b6.block _ (by omega)).trans HEA.out.1, (b6.block _ (by omega)).trans HEA.out.2⟩
        obtain ⟨fn, tmps, assign, body, hy, hR⟩ := Hyi.out _ _ j6
        have hS6 : wr.heap.size ≤ w4.heap.size ∧ w4.heap.size < (w4.alloc (.cells (ocells sr K P R A T H (.slice (some ⟨g, a.toNat, none⟩) n' n')) 146)).heap.size := ⟨b5.size, by simp⟩
        have z0 := o6.cell 0
        have z1 := o6.cell 1
        have z2 := o6.cell 2
        have z3 := o6.cell 3
        have z4 := o6.cell 4
        have z5 := o6.cell 5
        have z6 := o6.cell 6
        clear hbl k1 k2 k4 HJr j6 b5 b6
        gi_wp2
        refine ⟨fun h => (by cases h), hR.mono ?_⟩
        rintro e' w6 ⟨rfl, hJ7, hS7, hk7⟩
        have btr7 := btr6.trans hk7
        have hE7 : Ec w6 E f q top := ⟨(hS7 E (.inl hSE)).trans hEc6.at_⟩
        have o7 : Oc w6 w4.heap.size (ocells sr K P R A T H (.slice (some ⟨g, a.toNat, none⟩) n' n')) := ⟨(hS7 _ (.inr hS6)).trans o6.at_⟩
        have HB7 : Hid (w6.heap[ca]? = W.heap[ca]? ∧ w6.heap[cs]? = W.heap[cs]?) := ⟨(hS7 _ (.inl hSc.1)).trans HB6.out.1, (hS7 _ (.inl hSc.2)).trans HB6.out.2⟩
        have r7 := HIk.out w6 btr7 HB7.out.1 HB7.out.2
        have hw6 : W.heap.size ≤ w6.heap.size := btr7.size
        have k1 := r7.ca
        have k4 := hE7.c2
        have z7 : w6.cell? ⟨w4.heap.size, 7, none⟩ = some (.slice (some ⟨g, a.toNat, none⟩) n' n') := o7.cell 7
        have hpc := Hpas.out w6 r7
        have HJ7 : Hid (J _ (pre ++ [a]) w6) := hJ7
        have hS7E : Hid (S' E) := hSE
        clear r7 o7 hS7 hk7 hEc6 btr6 o6 hy hR z0 z1 z2 z3 z4 z5 z6 hJ7 hS6 hSE
        gi_wp2
        refine ⟨trivial, fun h => (by cases h), (callsIn_wide.2 hpc).mono ?_⟩
        rintro r w7 ⟨rfl, b8⟩
        have hB8 : w7.heap[ca]? = W.heap[ca]? ∧ w7.heap[cs]? = W.heap[cs]? := ⟨(b8.block _ (by omega)).trans HB7.out.1, (b8.block _ (by omega)).trans HB7.out.2⟩
        have hE8 := hE7.below b8
        have HB8 : Hid (w7.heap[ca]? = W.heap[ca]? ∧ w7.heap[cs]? = W.heap[cs]?) := hB8
        clear hB8
        have j8 := j_below HJ.out HJ7.out b8
        have btr8 := btr7.trans (b8.mono (Nat.le_trans hnW btr7.size))
        clear hpc k1 k4 z7 b8 hE7 HJ7 btr7
        gi_wp2
        go_roundw
        case rel => exact ⟨a', pre ++ [a], l', _, rfl, by omega, by rw [hl]; simp, Hw'.out, j8, btr8, .inl (.inl hS7E.out), hE8, ⟨.inl (.inl hSc.1), .inl (.inl hSc.2)⟩, HB8.out.1, HB8.out.2⟩
        case measure => simp [intOf]; omega
      · have hbl := below_no b g c x sw ws top a ha hat (by omega) hs wr hr.ar hr.laid
        have hre : rest = [] := by
          rcases Hw.out with _ | _ | ⟨_, h2, _, _⟩
          · rfl
          · rfl
          · exact absurd h2 hs
        clear hr
        gi_wp2
        refine ⟨trivial, fun h => (by cases h), (callsIn_wide.2 hbl).mono ?_⟩
        rintro r w4 ⟨rfl, b5⟩
        have j6 := j_below HJ.out HJr.out (Below.alloc b5 b5.size (.cells ozero 146))
        clear hbl
        gi_wp2
        refine ⟨fun f h => (by cases h), ?_⟩
        gi_wp2
        go_returns
        subst hre
        rw [List.append_nil] at hl
        subst hl
        exact ⟨⟨_, rfl⟩, _, j6⟩
    · have hre : rest = [] := by
        rcases Hw.out with _ | _ | ⟨h2, _, _, _⟩
        · rfl
        · rfl
        · exact absurd h2 hat
      clear hr
      gi_wp2
      go_end0
      subst hre
      rw [List.append_nil] at hl
      subst hl
      exact ⟨⟨_, rfl⟩, S', HJr.out⟩

end Go.Proofs.YtpiemfchjlihfaaGreatDoor
