/-
  changed, of any step.
-/
import Derived.Test.YtbdkcelggffneaaDoorHGa
import Derived.Test.YtbdkcelggffneaaDoorHYn
import Derived.Test.YtbdkcelggffneaaDoorH4
import Derived.Test.YtbdkcelggffneaaDoorPHq
set_option linter.unusedVariables false
set_option maxRecDepth 20000
namespace Go.Proofs.YtbdkcelggffneaaDoor
open Go.RowKit Go.Shelf

theorem parts_wrd {k p r a t : Int} {h : Bool} (m : May k p r a t) : kdOf (wrd k p r a t h) = k ∧ ptOf (wrd k p r a t h) = p ∧ rwOf (wrd k p r a t h) = r ∧ agOf (wrd k p r a t h) = a ∧ stOf (wrd k p r a t h) = t ∧ hdOf (wrd k p r a t h) = h ∧ wrd k p r a t h % 4 = 1 ∧ wrd k p r a t h / 70368744177664 % 262144 = 0 := by
  obtain ⟨h1, h2, h3, h4, h5, h6, h7, h8, h9, h10, h11, h12⟩ := m
  unfold kdOf ptOf rwOf agOf stOf hdOf
  cases h
  · have e : wrd k p r a t false = 1 + 4 * k + 64 * a + 1024 * t + 262144 * p + 1073741824 * r := by unfold wrd; simp
    rw [e]
    refine ⟨by omega, by omega, by omega, by omega, by omega, ?_, by omega, by omega⟩
    rw [decide_eq_false]
    omega
  · have e : wrd k p r a t true = 1 + 4 * k + 32 + 64 * a + 1024 * t + 262144 * p + 1073741824 * r := by unfold wrd; simp
    rw [e]
    refine ⟨by omega, by omega, by omega, by omega, by omega, ?_, by omega, by omega⟩
    rw [decide_eq_true]
    omega

theorem head_wrd {k p r a t : Int} {h : Bool} (m : May k p r a t) : IsHead (wrd k p r a t h) := by
  obtain ⟨e1, e2, e3, e4, e5, e6, e7, e8⟩ := parts_wrd (h := h) m
  refine ⟨e7, e8, ?_⟩
  rw [e1, e2, e3, e4, e5]
  exact m.flt

/-- What ArenaHolds keeps between two rounds. -/
structure Iq (W0 w : World) (b g : Nat) (c : Cfg) (x : Tps) (sw : Bool) (ws : Nat → Int) (lv : Value) (th : List Tng) : Prop where
  ar : Ar w b g c x sw ws
  la : Laid w
  mh : Mh w W0.heap.size g lv th
  hl : Hld c x ws th
  be : Below W0.heap.size W0 w
  gb : W0.heap.size ≤ b
  gg : W0.heap.size ≤ g
  tb : 1 < W0.heap.size ∧ 0 < W0.heap.size

section
variable {W0 w w' : World} {b g : Nat} {c : Cfg} {x x' : Tps} {sw : Bool} {ws ws' : Nat → Int} {lv : Value} {th : List Tng}

theorem Iq.below (H : Iq W0 w b g c x sw ws lv th) (l : Below w.heap.size w w') : Iq W0 w' b g c x sw ws lv th :=
  ⟨H.ar.below l, H.la.keep l, H.mh.below l, H.hl, H.be.trans (l.mono H.be.size), H.gb, H.gg, H.tb⟩

/-- Blocks of its own are touched alone. -/
theorem Iq.frame (H : Iq W0 w b g c x sw ws lv th) {F : List Nat} (t : Touch F w w') (hF : ∀ q, q ∈ F → W0.heap.size ≤ q) : Laid w' ∧ Below W0.heap.size W0 w' :=
  ⟨H.la.touch t (fun hm => by have := hF _ hm; have := H.tb.1; omega) (fun hm => by have := hF _ hm; have := H.tb.2; omega), H.be.trans (t.below H.be.size hF)⟩

theorem Iq.pos (H : Iq W0 w b g c x sw ws lv th) {T : Tng} (hT : T ∈ th) : 1 ≤ T.at_ ∧ T.at_ + 2 + T.p + T.r ≤ c.words ∧ 0 ≤ T.p ∧ 0 ≤ T.r ∧ T.p ≤ 4095 ∧ T.r ≤ 65535 := by
  obtain ⟨s, s1, s4, -, hsp, hlt, hst, hge, -⟩ := H.hl.stands H.ar hT
  have h1 := H.hl.osz hT
  have h2 := hst.2
  have h3 := H.ar.sub_in s
  have h4 := H.hl.psn T hT
  have h5 := H.hl.rsn T hT
  have h6 := spc_pos H.ar.ok (a := T.at_) (by rw [hsp]; omega)
  have h7 := pt_in (wat c ws T.at_)
  have h8 := rw_in (wat c ws T.at_)
  obtain ⟨-, -, h9, h10, -⟩ := H.hl.hds T hT
  rw [h9] at h7
  rw [h10] at h8
  omega

theorem changed5_any (H : Iq W0 w b g c x sw ws lv th) (hne : th ≠ []) (hlen : th.length ≤ 1000) (S N B C W s k p r a t : Int) (h : Bool) (hN : -9223372036854775808 ≤ N ∧ N ≤ 9223372036854775807) (hW : Wd W) :
    Calls Tryd.prog 23 #[.pointer (some ⟨b, 0, none⟩), lv, dv 5 S N B C W s k p r a t h] w fun e w' => e = .returned (.bool true) ∧ ∃ ws' th', Iq W0 w' b g c x sw ws' lv th' ∧ th'.length = th.length := by
  have hl0 : 0 < th.length := List.length_pos_iff.2 hne
  obtain ⟨a0, cap, rfl⟩ := H.mh.sl
  obtain ⟨i, hi, hmod⟩ := mod_det N th.length hN (by omega)
  obtain ⟨T, hTi⟩ : ∃ T, th[i]? = some T := ⟨_, List.getElem?_eq_getElem hi⟩
  have hm := List.mem_of_getElem? hTi
  obtain ⟨ga, rfl, hgal, hc⟩ := H.mh.tgs.cell i T hTi
  obtain ⟨⟨gs, hgs⟩, bs, hbs⟩ := H.ar.rowTy
  obtain ⟨s0, s1, s4, -, hsp, hlt, hst, -, -⟩ := H.hl.stands H.ar hm
  obtain ⟨p1, p2, p3, p4, p5, p6⟩ := H.pos hm
  obtain ⟨hd1, hd2, hd3, hd4, hd5, hd6, hd7⟩ := H.hl.hds T hm
  have hrn := H.hl.rsn T hm
  have hpn := H.hl.psn T hm
  obtain ⟨hrb, hrb1, hrb2⟩ := H.mh.rb T hm
  have hgag : ga ≠ g := fun e => (own_ne H.ar H.mh.row).2 (by rw [e]; rfl)
  have hgrb : T.gr ≠ b := heap_ty_ne hrb hbs (by decide)
  by_cases hB : 0 ≤ B ∧ B < T.r
  · obtain ⟨n, rfl⟩ : ∃ n : Nat, B = n := ⟨B.toNat, by omega⟩
    have hcall : ∀ w1, Below w.heap.size w w1 → Calls Tryd.prog 39 #[.pointer (some ⟨b, 0, none⟩), .int .i64 T.at_, .int .i64 n, .int .u64 W] w1 fun e w' => e = .returned (.bool true) ∧ Ar w' b g c x sw (upd ws (T.at_.toNat + (2 + (ptOf (wat c ws T.at_)).toNat) + n) W) ∧ Touch [g] w1 w' := fun w1 l =>
      setRaw_in b g c x sw ws T.at_ s0 n W hW hsp (by omega) hlt hst (by omega) w1 (H.ar.below l) (H.la.keep l)
    obtain ⟨idx, hidx⟩ : ∃ idx, idx = T.at_.toNat + (2 + (ptOf (wat c ws T.at_)).toNat) + n := ⟨_, rfl⟩
    have hidI : (idx : Int) = T.at_ + 2 + T.p + n := by rw [hidx, hd3]; omega
    rw [← hidx] at hcall
    have hwu : ∀ y, wat c (upd ws idx W) y = if y = idx then W else wat c ws y := fun y => wat_upd c ws idx W y (by omega)
    have hnl : n < T.rs.length := by omega
    refine (changed_raw_yes b g ga th.length cap c x sw ws _ S N C W s k p r a t h n T.rs.length T.gr hnl (by omega) w i hi (by omega) T.at_ _ (.int .u64 (T.rs[n]'hnl)) (hc 0 (by decide)) (hc 10 (by decide)) hrb (by simp [hnl]) hgag hrb2 H.ar.row.lt hmod hcall hgrb).mono ?_
    rintro e w' ⟨rfl, hA', t', hp'⟩
    have hF : ∀ q, q ∈ [g, T.gr] → W0.heap.size ≤ q := fun q hq => by
      simp at hq
      rcases hq with rfl | rfl
      · exact H.gg
      · exact hrb1
    obtain ⟨hl', hb'⟩ := H.frame t' hF
    refine ⟨rfl, _, th.set i { T with rs := T.rs.set n W }, ⟨hA', hl', H.mh.raw H.ar i T hTi n W t' hp', ?_, hb', H.gb, H.gg, H.tb⟩, by simp⟩
    refine H.hl.write H.ar i T _ hTi (fun y hy => ?_) rfl rfl rfl rfl ?_ ?_ (by simp) (by simp) (fun f z hz => ?_) (fun f z hz => ?_)
    · rw [hwu, if_neg (by omega)]
    · rw [hwu, if_neg (by omega)]; exact hst.1
    · show wat c (upd ws idx W) (T.at_ + 1) = T.s ∧ kdOf (wat c (upd ws idx W) T.at_) = T.k ∧ ptOf (wat c (upd ws idx W) T.at_) = T.p ∧ rwOf (wat c (upd ws idx W) T.at_) = T.r ∧ agOf (wat c (upd ws idx W) T.at_) = T.a ∧ stOf (wat c (upd ws idx W) T.at_) = T.t ∧ hdOf (wat c (upd ws idx W) T.at_) = T.h
      rw [hwu, hwu, if_neg (by omega), if_neg (by omega)]
      exact ⟨hd1, hd2, hd3, hd4, hd5, hd6, hd7⟩
    · have hz' : T.ps[f]? = some z := hz
      have hf := (List.getElem?_eq_some_iff.1 hz').1
      show wat c (upd ws idx W) (T.at_ + 2 + f) = z ∧ z < c.words
      rw [hwu, if_neg (by omega)]
      exact H.hl.psv T hm f z hz'
    · show wat c (upd ws idx W) (T.at_ + 2 + T.p + f) = z
      rw [hwu]
      rcases set_at_of hz with ⟨rfl, rfl⟩ | ⟨hn, hz'⟩
      · rw [if_pos (by omega)]
      · rw [if_neg (by omega)]
        exact H.hl.rsv T hm f z hz'
  · refine (changed_raw_none b g ga th.length cap c x sw ws ws S N C W s k p r a t h B T.rs.length T.gr (by omega) (by omega) w i hi (by omega) T.at_ (hc 0 (by decide)) (hc 10 (by decide)) hgag hrb2 H.ar.row.lt hmod (fun w1 l => setRaw_out b g c x sw ws T.at_ s0 B W hsp (by omega) hlt hst (by rw [hd4]; exact hB) w1 (H.ar.below l) (H.la.keep l)) hgrb).mono ?_
    rintro e w' ⟨rfl, l⟩
    exact ⟨rfl, ws, th, H.below l, rfl⟩
end

end Go.Proofs.YtbdkcelggffneaaDoor
