/-
  changed, of any step: pointers, headers, all.
-/
import Derived.Test.YtbdkcelggffneaaDoorHI
set_option linter.unusedVariables false
set_option maxRecDepth 20000
namespace Go.Proofs.YtbdkcelggffneaaDoor
open Go.RowKit Go.Shelf

section
variable {W0 w w' : World} {b g : Nat} {c : Cfg} {x x' : Tps} {sw : Bool} {ws ws' : Nat → Int} {lv : Value} {th : List Tng}

theorem changed4_any (H : Iq W0 w b g c x sw ws lv th) (hne : th ≠ []) (hlen : th.length ≤ 1000) (S N B C W s k p r a t : Int) (h : Bool) (hN : -9223372036854775808 ≤ N ∧ N ≤ 9223372036854775807) (hC : -9223372036854775808 ≤ C ∧ C ≤ 9223372036854775807) :
    Calls Tryd.prog 23 #[.pointer (some ⟨b, 0, none⟩), lv, dv 4 S N B C W s k p r a t h] w fun e w' => e = .returned (.bool true) ∧ ∃ ws' th', Iq W0 w' b g c x sw ws' lv th' ∧ th'.length = th.length := by
  have hl0 : 0 < th.length := List.length_pos_iff.2 hne
  obtain ⟨a0, cap, rfl⟩ := H.mh.sl
  obtain ⟨i, hi, hmod⟩ := mod_det N th.length hN (by omega)
  obtain ⟨T, hTi⟩ : ∃ T, th[i]? = some T := ⟨_, List.getElem?_eq_getElem hi⟩
  have hm := List.mem_of_getElem? hTi
  obtain ⟨ga, rfl, hgal, hc⟩ := H.mh.tgs.cell i T hTi
  obtain ⟨j, hj, hmod2⟩ := mod_det C th.length hC (by omega)
  obtain ⟨U, hUj⟩ : ∃ U, th[j]? = some U := ⟨_, List.getElem?_eq_getElem hj⟩
  have hmU := List.mem_of_getElem? hUj
  obtain ⟨ga', hga', -, hcU⟩ := H.mh.tgs.cell j U hUj
  obtain rfl : ga = ga' := by simpa using hga'
  obtain ⟨u1, u2, u3, u4, -, -⟩ := H.pos hmU
  obtain ⟨⟨gs, hgs⟩, bs, hbs⟩ := H.ar.rowTy
  obtain ⟨s0, s1, s4, -, hsp, hlt, hst, -, -⟩ := H.hl.stands H.ar hm
  obtain ⟨p1, p2, p3, p4, p5, p6⟩ := H.pos hm
  obtain ⟨hd1, hd2, hd3, hd4, hd5, hd6, hd7⟩ := H.hl.hds T hm
  have hrn := H.hl.rsn T hm
  have hpn := H.hl.psn T hm
  obtain ⟨hrb, hrb1⟩ := H.mh.pb T hm
  have hrb2 : T.gp ≠ g := heap_ty_ne hrb hgs (by decide)
  have hgag : ga ≠ g := fun e => (own_ne H.ar H.mh.row).2 (by rw [e]; rfl)
  have hgrb : T.gp ≠ b := heap_ty_ne hrb hbs (by decide)
  by_cases hB : 0 ≤ B ∧ B < T.p
  · obtain ⟨n, rfl⟩ : ∃ n : Nat, B = n := ⟨B.toNat, by omega⟩
    have hcall : ∀ w1, Below w.heap.size w w1 → Calls Tryd.prog 38 #[.pointer (some ⟨b, 0, none⟩), .int .i64 T.at_, .int .i64 n, .int .i64 U.at_] w1 fun e w' => e = .returned (.bool true) ∧ Ar w' b g c x sw (upd ws (T.at_.toNat + 2 + n) U.at_) ∧ Touch [g] w1 w' := fun w1 l =>
      setPtr_in b g c x sw ws T.at_ s0 U.at_ n (by omega) (by omega) hsp (by omega) hlt hst (by omega) w1 (H.ar.below l) (H.la.keep l)
    obtain ⟨idx, hidx⟩ : ∃ idx, idx = T.at_.toNat + 2 + n := ⟨_, rfl⟩
    have hidI : (idx : Int) = T.at_ + 2 + n := by rw [hidx]; omega
    rw [← hidx] at hcall
    have hwu : ∀ y, wat c (upd ws idx U.at_) y = if y = idx then U.at_ else wat c ws y := fun y => wat_upd c ws idx U.at_ y (by omega)
    have hnl : n < T.ps.length := by omega
    refine (changed_ptr_yes b g ga th.length cap c x sw ws _ S N C W s k p r a t h n T.ps.length T.gp hnl (by omega) w i hi (by omega) T.at_ _ (.int .i64 (T.ps[n]'hnl)) (hc 0 (by decide)) (hc 9 (by decide)) hrb (by simp [hnl]) hgag hrb2 H.ar.row.lt j U.at_ (hcU 0 (by decide)) hmod2 hj hmod hcall hgrb).mono ?_
    rintro e w' ⟨rfl, hA', t', hp'⟩
    have hF : ∀ q, q ∈ [g, T.gp] → W0.heap.size ≤ q := fun q hq => by
      simp at hq
      rcases hq with rfl | rfl
      · exact H.gg
      · exact hrb1
    obtain ⟨hl', hb'⟩ := H.frame t' hF
    refine ⟨rfl, _, th.set i { T with ps := T.ps.set n U.at_ }, ⟨hA', hl', H.mh.ptr H.ar i T hTi n U.at_ t' hp', ?_, hb', H.gb, H.gg, H.tb⟩, by simp⟩
    refine H.hl.write H.ar i T _ hTi (fun y hy => ?_) rfl rfl rfl rfl ?_ ?_ (by simp) (by simp) (fun f z hz => ?_) (fun f z hz => ?_)
    · rw [hwu, if_neg (by omega)]
    · rw [hwu, if_neg (by omega)]; exact hst.1
    · show wat c (upd ws idx U.at_) (T.at_ + 1) = T.s ∧ kdOf (wat c (upd ws idx U.at_) T.at_) = T.k ∧ ptOf (wat c (upd ws idx U.at_) T.at_) = T.p ∧ rwOf (wat c (upd ws idx U.at_) T.at_) = T.r ∧ agOf (wat c (upd ws idx U.at_) T.at_) = T.a ∧ stOf (wat c (upd ws idx U.at_) T.at_) = T.t ∧ hdOf (wat c (upd ws idx U.at_) T.at_) = T.h
      rw [hwu, hwu, if_neg (by omega), if_neg (by omega)]
      exact ⟨hd1, hd2, hd3, hd4, hd5, hd6, hd7⟩
    · show wat c (upd ws idx U.at_) (T.at_ + 2 + f) = z ∧ z < c.words
      rw [hwu]
      rcases set_at_of hz with ⟨rfl, rfl⟩ | ⟨hn, hz'⟩
      · rw [if_pos (by omega)]
        exact ⟨rfl, by omega⟩
      · rw [if_neg (by omega)]
        exact H.hl.psv T hm f z hz'
    · have hz' : T.rs[f]? = some z := hz
      show wat c (upd ws idx U.at_) (T.at_ + 2 + T.p + f) = z
      rw [hwu, if_neg (by omega)]
      exact H.hl.rsv T hm f z hz'
  · refine (changed_ptr_none b g ga th.length cap c x sw ws ws S N C W s k p r a t h B T.ps.length T.gp (by omega) (by omega) w i hi (by omega) T.at_ (hc 0 (by decide)) (hc 9 (by decide)) hgag hrb2 H.ar.row.lt j U.at_ (hcU 0 (by decide)) hmod2 hj hmod (fun w1 l => setPtr_out b g c x sw ws T.at_ s0 U.at_ B (by omega) (by omega) hsp (by omega) hlt hst (by rw [hd3]; exact hB) w1 (H.ar.below l) (H.la.keep l)) hgrb).mono ?_
    rintro e w' ⟨rfl, l⟩
    exact ⟨rfl, ws, th, H.below l, rfl⟩

theorem changed3_any (H : Iq W0 w b g c x sw ws lv th) (hne : th ≠ []) (hlen : th.length ≤ 1000) (S N B C W s k p r a t : Int) (h : Bool) (hN : -9223372036854775808 ≤ N ∧ N ≤ 9223372036854775807) (hs : Wd s) :
    Calls Tryd.prog 23 #[.pointer (some ⟨b, 0, none⟩), lv, dv 3 S N B C W s k p r a t h] w fun e w' => e = .returned (.bool true) ∧ ∃ ws' th', Iq W0 w' b g c x sw ws' lv th' ∧ th'.length = th.length := by
  have hl0 : 0 < th.length := List.length_pos_iff.2 hne
  obtain ⟨a0, cap, rfl⟩ := H.mh.sl
  obtain ⟨i, hi, hmod⟩ := mod_det N th.length hN (by omega)
  obtain ⟨T, hTi⟩ : ∃ T, th[i]? = some T := ⟨_, List.getElem?_eq_getElem hi⟩
  have hm := List.mem_of_getElem? hTi
  obtain ⟨ga, rfl, hgal, hc⟩ := H.mh.tgs.cell i T hTi
  obtain ⟨⟨gs, hgs⟩, bs, hbs⟩ := H.ar.rowTy
  obtain ⟨s0, s1, s4, -, hsp, hlt, hst, -, -⟩ := H.hl.stands H.ar hm
  obtain ⟨p1, p2, p3, p4, p5, p6⟩ := H.pos hm
  obtain ⟨hd1, hd2, hd3, hd4, hd5, hd6, hd7⟩ := H.hl.hds T hm
  have hrn := H.hl.rsn T hm
  have hpn := H.hl.psn T hm
  have hgag : ga ≠ g := fun e => (own_ne H.ar H.mh.row).2 (by rw [e]; rfl)
  have hgab : ga ≠ b := fun e => (own_ne H.ar H.mh.row).1 (by rw [e]; rfl)
  have hgaW : W0.heap.size ≤ ga := H.mh.lvb ga rfl
  obtain ⟨cur, hcur, hcsz⟩ : ∃ cur, w.heap[ga]? = some (.cells cur 81 (0, 0)) ∧ th.length * 11 ≤ cur.size := by
    rcases H.mh.row.2 with ⟨h1, h2⟩ | ⟨q, cap', cur, h1, h2, h3, hn, hc', hs', ht'⟩
    · omega
    · simp only [Value.slice.injEq, Option.some.injEq, Addr.mk.injEq] at h1
      obtain ⟨⟨rfl, -, -⟩, -, -⟩ := h1
      exact ⟨cur, h3, by rw [hs']; exact Nat.mul_le_mul_right 11 hn⟩
  have hob : ∀ w1, Below w.heap.size w w1 → Calls Tryd.prog 52 #[.pointer (some ⟨b, 0, none⟩), .int .i64 T.at_] w1 fun e w' => e = .returned (.tuple #[obv c g ws T.at_, .bool true]) ∧ Below w1.heap.size w1 w' := fun w1 l => object_yes b g c x sw ws T.at_ s0 hsp (by omega) hlt hst w1 (H.ar.below l) (H.la.keep l)
  obtain ⟨q, hq⟩ : ∃ q : Nat, T.at_ = q := ⟨T.at_.toNat, by omega⟩
  by_cases hf : flt k T.p T.r a t = 0
  · have may := May.of hf
    obtain ⟨w1', w2', w3', w4', w5', w6', -, -⟩ := parts_wrd (h := h) may
    have hhd := head_wrd (h := h) may
    have hcall : ∀ w1, Below w.heap.size w w1 → Calls Tryd.prog 37 #[.pointer (some ⟨b, 0, none⟩), .int .i64 T.at_, hv s k T.p T.r a t h] w1 fun e w' => e = .returned (.bool true) ∧ Ar w' b g c x sw (upd (upd ws q (wrd k T.p T.r a t h)) (q + 1) s) ∧ Touch [g] w1 w' := fun w1 l => by
      rw [hq]
      refine setHead_good b g c x sw ws q s k T.p T.r a t h hs hf (wat c ws (T.at_ + 1)) (kdOf (wat c ws T.at_)) (agOf (wat c ws T.at_)) (stOf (wat c ws T.at_)) (hdOf (wat c ws T.at_)) (.slice (some ⟨g, T.at_.toNat, none⟩) (Go.Proofs.YtbdkcelggffneaaDoor.osz c ws T.at_).toNat (Go.Proofs.YtbdkcelggffneaaDoor.osz c ws T.at_).toNat) ⟨_, _, _, rfl⟩ (by omega) w1 (H.ar.below l) (H.la.keep l) (fun w2 l2 => ?_)
      have := hob w2 (l.trans (l2.mono l.size))
      simp only [obv, hd3, hd4] at this
      rw [← hq]
      exact this
    have hwu : ∀ y, wat c (upd (upd ws q (wrd k T.p T.r a t h)) (q + 1) s) y = if y = (q : Int) + 1 then s else if y = q then wrd k T.p T.r a t h else wat c ws y := fun y => by
      rw [wat_upd c _ (q + 1) s y (by omega), wat_upd c ws q _ y (by omega)]
      push_cast
      rfl
    refine (changed_head_yes b g ga th.length cap c x sw ws _ S N B C W s k p r a t h w i hi (by omega) T.at_ T.p T.r cur (hc 0 (by decide)) (hc 4 (by decide)) (hc 5 (by decide)) hcur (by have := Nat.mul_le_mul_right 11 (show i + 1 ≤ th.length by omega); omega) hgag H.ar.row.lt hgab hmod hcall).mono ?_
    rintro e w' ⟨rfl, hA', t', hp'⟩
    have hF : ∀ q, q ∈ [g, ga] → W0.heap.size ≤ q := fun q hq => by
      simp at hq
      rcases hq with rfl | rfl
      · exact H.gg
      · exact hgaW
    obtain ⟨hl', hb'⟩ := H.frame t' hF
    refine ⟨rfl, _, th.set i { T with s := s, k := k, a := a, t := t, h := h }, ⟨hA', hl', H.mh.head H.ar i T hTi s k a t h ga cap cur rfl hcur t' hp', ?_, hb', H.gb, H.gg, H.tb⟩, by simp⟩
    refine H.hl.write H.ar i T _ hTi (fun y hy => ?_) rfl rfl rfl rfl ?_ ?_ rfl rfl (fun f z hz => ?_) (fun f z hz => ?_)
    · rw [hwu, if_neg (by omega), if_neg (by omega)]
    · rw [hwu, if_neg (by omega), if_pos (by omega)]; exact hhd
    · show wat c _ (T.at_ + 1) = s ∧ kdOf (wat c _ T.at_) = k ∧ ptOf (wat c _ T.at_) = T.p ∧ rwOf (wat c _ T.at_) = T.r ∧ agOf (wat c _ T.at_) = a ∧ stOf (wat c _ T.at_) = t ∧ hdOf (wat c _ T.at_) = h
      rw [hwu, hwu, if_pos (by omega), if_neg (by omega), if_pos (by omega)]
      exact ⟨rfl, w1', w2', w3', w4', w5', w6'⟩
    · have hz' : T.ps[f]? = some z := hz
      show wat c _ (T.at_ + 2 + f) = z ∧ z < c.words
      rw [hwu, if_neg (by omega), if_neg (by omega)]
      exact H.hl.psv T hm f z hz'
    · have hz' : T.rs[f]? = some z := hz
      show wat c _ (T.at_ + 2 + T.p + f) = z
      rw [hwu, if_neg (by omega), if_neg (by omega)]
      exact H.hl.rsv T hm f z hz'
  · refine (changed_head_none b g ga th.length cap c x sw ws ws S N B C W s k p r a t h w i hi (by omega) T.at_ T.p T.r cur (hc 0 (by decide)) (hc 4 (by decide)) (hc 5 (by decide)) hcur (by have := Nat.mul_le_mul_right 11 (show i + 1 ≤ th.length by omega); omega) hgag H.ar.row.lt hgab hmod (fun w1 l => ?_)).mono ?_
    · exact setHead_bad b T.at_ s k T.p T.r a t h hf _ _ _ _ _ _ _ _ ⟨_, _, _, rfl⟩ w1 (H.la.keep l) (fun w2 l2 => hob w2 (l.trans (l2.mono l.size)))
    · rintro e w' ⟨rfl, l⟩
      exact ⟨rfl, ws, th, H.below l, rfl⟩

/-- changed, of any step. -/
theorem changed_any (H : Iq W0 w b g c x sw ws lv th) (hne : th ≠ []) (hlen : th.length ≤ 1000) (K S N B C W s k p r a t : Int) (h : Bool) (hN : -9223372036854775808 ≤ N ∧ N ≤ 9223372036854775807) (hC : -9223372036854775808 ≤ C ∧ C ≤ 9223372036854775807) (hs : Wd s) (hW : Wd W) :
    Calls Tryd.prog 23 #[.pointer (some ⟨b, 0, none⟩), lv, dv K S N B C W s k p r a t h] w fun e w' => e = .returned (.bool true) ∧ ∃ ws' th', Iq W0 w' b g c x sw ws' lv th' ∧ th'.length = th.length := by
  by_cases h3 : K = 3
  · subst h3; exact changed3_any H hne hlen S N B C W s k p r a t h hN hs
  by_cases h4 : K = 4
  · subst h4; exact changed4_any H hne hlen S N B C W s k p r a t h hN hC
  by_cases h5 : K = 5
  · subst h5; exact changed5_any H hne hlen S N B C W s k p r a t h hN hW
  have hl0 : 0 < th.length := List.length_pos_iff.2 hne
  obtain ⟨a0, cap, rfl⟩ := H.mh.sl
  obtain ⟨T, hTi⟩ : ∃ T, th[0]? = some T := ⟨_, List.getElem?_eq_getElem hl0⟩
  obtain ⟨ga, rfl, hgal, hc⟩ := H.mh.tgs.cell 0 T hTi
  refine (changed_none b ga th.length cap K S N B C W s k p r a t h hN (by omega) h3 h4 h5 w).mono ?_
  rintro e w' ⟨rfl, l⟩
  exact ⟨rfl, ws, th, H.below l, rfl⟩
end

end Go.Proofs.YtbdkcelggffneaaDoor
