/-
  Images: ImageOne walked.
-/
import Derived.Test.YtblbiikfipcbcaaDoorIS1
set_option linter.unusedVariables false
set_option maxRecDepth 20000
namespace Go.Proofs.YtblbiikfipcbcaaDoor
open Go.RowKit Go.Shelf

/-- Refused, or read. -/
theorem Rres.two {bs : List Nat} {e : Ending} {w' : World} (h : Rres bs e w') : (∃ pl k : Nat, e = .returned (.tuple #[.agg (gcs (.slice none 0 0) (.slice none 0 0) (.slice none 0 0) (.slice none 0 0) (.slice none 0 0) 0), .int .i64 (pl : Int), .int .i64 (k : Int)]) ∧ pl ≤ bs.length ∧ 160 ≤ k ∧ k ≤ 164) ∨
    (∃ n, Im.dec bs = .ok n ∧ MB (Im.wNG n) ∧ ∃ vo vs vh vr vq os ts, e = .returned (.tuple #[.agg (gcs vo vs vh vr vq (Im.wNG n).next), .int .i64 0, .int .i64 0]) ∧ Grd w'.heap.size w' vo vs vh vr vq os ts (Im.wNG n) ∧ gsz os ts (Im.wNG n) ≤ bs.length) := by
  unfold Rres at h
  cases hd : Im.dec bs with
  | error pk =>
    obtain ⟨pl, k⟩ := pk
    rw [hd] at h
    have hk := Im.dec_err hd
    simp only at hk h
    exact .inl ⟨pl, k, h, hk.1, hk.2.1, by omega⟩
  | ok n =>
    rw [hd] at h
    rcases h with ⟨hm, h⟩ | ⟨hm, h⟩
    · exact .inl ⟨0, 164, h, Nat.zero_le _, by decide, by decide⟩
    · exact .inr ⟨n, rfl, hm, h⟩

set_option maxHeartbeats 8000000 in
theorem one_any (w : World) (hL : Laid w) (v : Value) (bs : List Nat) (hl : Lrd w.heap.size w v .u8 (bs.map Int.ofNat)) (hby : ∀ x, x ∈ bs → x < 256) (hn : bs.length ≤ 1000000000000000) :
    Calls Tryd.prog 3 #[v] w fun e w' => e = .returned (.bool true) ∧ Below w.heap.size w w' := by
  have HL : Hid (∀ w', Below w.heap.size w w' → Laid w') := fun w' b' => hL.keep b'
  have HV : Hid (∀ w', Below w.heap.size w w' → Lrd w.heap.size w' v .u8 (bs.map Int.ofNat)) := fun w' b' => hl.below b'
  obtain ⟨av, cv, rfl, hcv, -⟩ := hl.byte
  have hK := known16_any w hL
  have HBY : Hid (∀ x, x ∈ bs → x < 256) := hby
  clear hL hl hby
  go_enter Tryd.func3, Tryd.ntmps3
  go_wp2_with fail
  refine hK.mono ?_
  rintro e w1 ⟨rfl, b1⟩
  have B1 : Hid (Below w.heap.size w w1) := b1
  clear hK b1
  by_cases hlen : (bs.length : Int) > 131072
  · go_wp2
    go_ret
    exact ⟨rfl, B1.out⟩
  have hC := iRead_any (HV.out w1 B1.out) B1.out.size (by omega) HBY.out (HL.out _ B1.out)
  go_wp2_with fail
  refine hC.mono ?_
  rintro e w2 ⟨b2, h2⟩
  have B2 : Hid (Below w.heap.size w w2) := B1.out.trans (b2.mono B1.out.size)
  clear hC b2 B1
  rcases h2.two with ⟨pl, k, rfl, hpl, hk1, hk2⟩ | ⟨n, hd, hm, vo2, vs2, vh2, vr2, vq2, os2, ts2, rfl, hG2, hz⟩
  · have hk0 : ¬ (k : Int) = 0 := by omega
    have hkb : ((k : Int) != 0) = true := by simpa using hk0
    have hpi : (pl : Int) ≤ (bs.length : Int) := by omega
    have hp0 : (pl : Int) ≥ 0 := by omega
    clear h2
    go_wp2_with fail
    have b3 := Below.alloc (Below.refl w2.heap.size w2) (Nat.le_refl _) (.cells (gcs (.slice none 0 0) (.slice none 0 0) (.slice none 0 0) (.slice none 0 0) (.slice none 0 0) 0) 29)
    have h3 := heap_alloc_new w2 (.cells (gcs (.slice none 0 0) (.slice none 0 0) (.slice none 0 0) (.slice none 0 0) (.slice none 0 0) 0) 29 (0, 0))
    change Calls _ _ _ (w2.alloc (.cells (gcs (.slice none 0 0) (.slice none 0 0) (.slice none 0 0) (.slice none 0 0) (.slice none 0 0) 0) 29)) _
    generalize w2.alloc (.cells (gcs (.slice none 0 0) (.slice none 0 0) (.slice none 0 0) (.slice none 0 0) (.slice none 0 0) 0) 29) = w3 at *
    have B3 : Hid (Below w.heap.size w w3) := B2.out.trans (b3.mono B2.out.size)
    clear b3 B2
    obtain ⟨k0, k1, k2, k3, k4, k5⟩ := gcell h3
    refine (num16_any k w3).mono ?_
    rintro e wa ⟨rfl, rfl⟩
    go_wp2
    go_ret
    exact ⟨by simp, B3.out⟩
  clear h2
  obtain ⟨q1, q2, q3⟩ := rback HBY.out hd hm
  have HR : Hid (∀ x, x ∈ os2 → obR x.o) := robR q1 hG2.eo
  have HE : Hid (bs = Im.enc (Im.toNG (Im.wNG n))) := q3
  have HEl : Hid ((Im.ngE (Im.toNG (Im.wNG n))).length ≤ 90000000000) := by
    show _ ≤ _
    have h9 := congrArg List.length q3
    rw [Im.enc_len] at h9
    omega
  have Hm : Hid (MB (Im.wNG n)) := hm
  have Hz : Hid (gsz os2 ts2 (Im.wNG n) ≤ 131072) := by show _ ≤ _; omega
  have hne : Hid (bs ≠ []) := by
    show _ ≠ _
    intro h9
    have h9 := congrArg List.length (h9.symm.trans q3)
    rw [Im.enc_len] at h9
    simp at h9
  obtain ⟨xa, xc, ea, -⟩ := hG2.ob
  obtain ⟨ya, yc, eb, -⟩ := hG2.sl
  obtain ⟨za, zc, ec, -, -⟩ := hG2.hs
  obtain ⟨ta, tc, ed, -, -⟩ := hG2.rg
  obtain ⟨ua, uc, eq, -, -⟩ := hG2.qu
  subst ea eb ec ed eq
  clear hm hd hz q1 q2 q3
  generalize Im.wNG n = g at *
  generalize hlh : g.hs.length = lh at *
  generalize hlr : g.rg.length = lr at *
  generalize hlq : g.qu.length = lq at *
  generalize hN : (g.next : Int) = N at *
  have HN : Hid ((g.next : Int) = N) := hN
  have HG2 : Hid (Grd w2.heap.size w2 (.slice xa os2.length xc) (.slice ya ts2.length yc) (.slice za lh zc) (.slice ta lr tc) (.slice ua lq uc) os2 ts2 g) := hG2
  clear hG2 hlh hlr hlq hN
  go_wp2_with fail
  have b3 := Below.alloc (Below.refl w2.heap.size w2) (Nat.le_refl _) (.cells (gcs (.slice xa os2.length xc) (.slice ya ts2.length yc) (.slice za lh zc) (.slice ta lr tc) (.slice ua lq uc) N) 29)
  have h3 := heap_alloc_new w2 (.cells (gcs (.slice xa os2.length xc) (.slice ya ts2.length yc) (.slice za lh zc) (.slice ta lr tc) (.slice ua lq uc) N) 29 (0, 0))
  change Calls _ _ _ (w2.alloc (.cells (gcs (.slice xa os2.length xc) (.slice ya ts2.length yc) (.slice za lh zc) (.slice ta lr tc) (.slice ua lq uc) N) 29)) _
  generalize w2.alloc (.cells (gcs (.slice xa os2.length xc) (.slice ya ts2.length yc) (.slice za lh zc) (.slice ta lr tc) (.slice ua lq uc) N) 29) = w3 at *
  have B3 : Hid (Below w.heap.size w w3) := B2.out.trans (b3.mono B2.out.size)
  have HG3 : Hid (∀ w', Below w3.heap.size w3 w' → Grd w3.heap.size w' (.slice xa os2.length xc) (.slice ya ts2.length yc) (.slice za lh zc) (.slice ta lr tc) (.slice ua lq uc) os2 ts2 g ∧ Below w.heap.size w w' ∧ w'.heap[w2.heap.size]? = some (.cells (gcs (.slice xa os2.length xc) (.slice ya ts2.length yc) (.slice za lh zc) (.slice ta lr tc) (.slice ua lq uc) N) 29 (0, 0))) := fun w' b' => ⟨((HG2.out.below b3).mono b3.size).below b', B3.out.trans (b'.mono B3.out.size), (b'.block _ (Kg.heap_lt h3)).trans h3⟩
  clear b3 B2 B3 HG2
  obtain ⟨k0, k1, k2, k3, k4, k5⟩ := gcell h3
  refine (num16_any 0 w3).mono ?_
  rintro e wa ⟨rfl, rfl⟩
  have hC := iCheck_any wa.heap.size wa _ _ _ _ _ os2 ts2 g (HG3.out wa (Below.refl _ _)).1 (Nat.le_refl _) (HL.out _ (HG3.out wa (Below.refl _ _)).2.1) (gln_le (by have := Hz.out; omega) (HG3.out wa (Below.refl _ _)).1.eo (HG3.out wa (Below.refl _ _)).1.es)
  rw [HN.out] at hC
  go_wp2_with fail
  refine hC.mono ?_
  rintro e w4 ⟨r, rfl, b4, h4⟩
  have B4 : Hid (Below wa.heap.size wa w4) := b4
  clear hC b4 k0 k1 k2 k3 k4 k5 h3
  rcases h4 with ⟨rfl, -⟩ | ⟨-, hm4⟩
  case inr => exact absurd Hm.out hm4
  obtain ⟨k0, k1, k2, k3, k4, k5⟩ := gcell (HG3.out w4 B4.out).2.2
  have hC := iWrite_gen wa.heap.size w4 B4.out.size (HL.out _ (HG3.out w4 B4.out).2.1) _ _ _ _ _ os2 ts2 g (HG3.out w4 B4.out).1 Hz.out (fun _ => HEl.out) HR.out
  rw [HN.out] at hC
  go_wp2_with fail
  refine hC.mono ?_
  rintro e w5 ⟨v, r, rfl, b5, h5⟩
  have B5 : Hid (Below wa.heap.size wa w5) := B4.out.trans (b5.mono B4.out.size)
  clear hC b5 k0 k1 k2 k3 k4 k5 B4
  rcases h5 with ⟨rfl, -, ho⟩ | ⟨-, hm5, -⟩
  case inr => exact absurd Hm.out hm5
  have hv := Lrd.of_bts (Kg.row_base ho (Nat.zero_le _))
  rw [← HE.out] at hv
  have hS := samel_any hne.out hv (HV.out w5 (HG3.out w5 B5.out).2.1)
  obtain ⟨aw, cw, rfl, -, -⟩ := hv.byte
  clear hv ho
  go_wp2_with fail
  refine (num16_any 0 w5).mono ?_
  rintro e wb ⟨rfl, rfl⟩
  go_wp2_with fail
  refine (num16_any 0 wb).mono ?_
  rintro e wc ⟨rfl, rfl⟩
  go_wp2_with fail
  refine hS.mono ?_
  rintro e wd ⟨rfl, rfl⟩
  clear hS
  go_wp2
  go_ret
  exact ⟨rfl, (HG3.out _ B5.out).2.1⟩

end Go.Proofs.YtblbiikfipcbcaaDoor
