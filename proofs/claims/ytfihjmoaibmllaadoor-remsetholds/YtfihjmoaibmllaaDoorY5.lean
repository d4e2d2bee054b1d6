/-
  An arena that holds things: the calls, by things.
-/
import Derived.Test.YtfihjmoaibmllaaDoorY1
set_option linter.unusedVariables false
set_option maxRecDepth 20000
namespace Go.Proofs.YtfihjmoaibmllaaDoor
open Go.RowKit Go.Shelf

set_option maxHeartbeats 2000000 in
theorem head_core (d : Bool) (b : Nat) (a s K P R A T : Int) (H : Bool) (ad : Option Addr) (n cap : Nat) (w : World)
    (ho : ∀ w1, Below w.heap.size w w1 → Calls Tryd.prog 55 #[.pointer (some ⟨b, 0, none⟩), .int .i64 a] w1 fun e w' => e = .returned (.tuple #[ov s K P R A T H (.slice ad n cap), .bool d]) ∧ Below w1.heap.size w1 w') :
    Calls Tryd.prog 27 #[.pointer (some ⟨b, 0, none⟩), .int .i64 a] w fun e w' => e = .returned (.tuple #[hv s K P R A T H, .bool d]) ∧ Below w.heap.size w w' := by
  have hX := Box.new w 48 (.int .u64 0) (.int .i64 0) (.int .i64 0) (.int .i64 0) (.int .i64 0) (.int .i64 0) (.bool false)
  have hb := Below.alloc (Below.refl w.heap.size w) (Nat.le_refl _) (.cells (hcells 0 0 0 0 0 0 false) 48)
  have h1 := ho _ hb
  have hxlt := hX.lt
  clear ho
  go_enter Tryd.func27, Tryd.ntmps27
  go_upto_region 1 with fail
  generalize (w.alloc (.cells (hcells 0 0 0 0 0 0 false) 48)) = w0 at *
  go_wp2_with fail
  refine h1.mono ?_
  rintro e w1 ⟨rfl, l1⟩
  have b1 := hb.trans (l1.mono hb.size)
  have hX1 := hX.keep l1 hxlt
  have hx1 := hX1.lt
  clear h1 hb hX l1 hxlt
  go_upto_region 2 with fail
  have hX2 := hX1.keep (Below.alloc (Below.refl _ _) (Nat.le_refl _) (.cells (ocells s K P R A T H (.slice ad n cap)) 102)) hx1
  have b2 := Below.alloc b1 b1.size (.cells (ocells s K P R A T H (.slice ad n cap)) 102)
  have hy : ∀ j, (w1.alloc (.cells (ocells s K P R A T H (.slice ad n cap)) 102)).cell? ⟨w1.heap.size, j, none⟩ = (ocells s K P R A T H (.slice ad n cap))[j]? := fun j => cell_of_row _ _ j _ _ _ (heap_alloc_new w1 (.cells (ocells s K P R A T H (.slice ad n cap)) 102 (0, 0)))
  have hne : w.heap.size ≠ w1.heap.size := by omega
  generalize (w1.alloc (.cells (ocells s K P R A T H (.slice ad n cap)) 102)) = w2 at *
  have y0 : w2.cell? ⟨w1.heap.size, 0, none⟩ = some (.int .u64 s) := hy 0
  have y1 : w2.cell? ⟨w1.heap.size, 1, none⟩ = some (.int .i64 K) := hy 1
  have y2 : w2.cell? ⟨w1.heap.size, 2, none⟩ = some (.int .i64 P) := hy 2
  have y3 : w2.cell? ⟨w1.heap.size, 3, none⟩ = some (.int .i64 R) := hy 3
  have y4 : w2.cell? ⟨w1.heap.size, 4, none⟩ = some (.int .i64 A) := hy 4
  have y5 : w2.cell? ⟨w1.heap.size, 5, none⟩ = some (.int .i64 T) := hy 5
  have y6 : w2.cell? ⟨w1.heap.size, 6, none⟩ = some (.bool H) := hy 6
  clear hX1 b1 hx1 hy
  generalize w1.heap.size = B7 at *
  have hne' : B7 ≠ w.heap.size := fun e => hne e.symm
  obtain ⟨x0, x1, x2, x3, x4, x5, x6, f0, f1, f2, f3, f4, f5, f6⟩ := hX2
  go_wp2
  refine bodyPost_ret (by simp [results, Tryd.results27, go_sem, x0, x1, x2, x3, x4, x5, x6]; try rfl) rfl ?_
  refine ⟨rfl, ?_⟩
  go_grown


/-- An arena that holds the things th. -/
structure Ax (w : World) (b g : Nat) (c : Cfg) (x : Tps) (sw : Bool) (ws : Nat → Int) (th : List Tng) : Prop where
  ar : Ar w b g c x sw ws
  la : Laid w
  hl : Hld c x ws th

section
variable {w w' : World} {b g : Nat} {c : Cfg} {x : Tps} {sw : Bool} {ws : Nat → Int} {th : List Tng}

theorem Ax.below (H : Ax w b g c x sw ws th) (l : Below w.heap.size w w') : Ax w' b g c x sw ws th := ⟨H.ar.below l, H.la.keep l, H.hl⟩

theorem Ax.touch (H : Ax w b g c x sw ws th) {F : List Nat} (t : Touch F w w') (h1 : b ∉ F) (h2 : g ∉ F) (h3 : 1 ∉ F) (h4 : 0 ∉ F) : Ax w' b g c x sw ws th := ⟨H.ar.touch t h1 h2, H.la.touch t h3 h4, H.hl⟩

theorem Ax.pos (H : Ax w b g c x sw ws th) {T : Tng} (hT : T ∈ th) : 1 ≤ T.at_ ∧ T.at_ + 2 + T.p + T.r ≤ c.words ∧ 0 ≤ T.p ∧ 0 ≤ T.r ∧ T.p ≤ 4095 ∧ T.r ≤ 65535 ∧ c.words ≤ 262145 := by
  obtain ⟨s, s1, s4, -, hsp, hlt, hst, hge, -⟩ := H.hl.stands H.ar hT
  have h1 := H.hl.osz hT
  have h2 := hst.2
  have h3 := H.ar.sub_in s
  have h4 := H.hl.psn T hT
  have h5 := H.hl.rsn T hT
  have h6 := spc_pos H.ar.ok (a := T.at_) (by rw [hsp]; omega)
  have h7 := pt_in (wat c ws T.at_)
  have h8 := rw_in (wat c ws T.at_)
  obtain ⟨-, -, h9, h10, -⟩ := H.hl.hds T hT
  have h11 := H.ar.words
  rw [h9] at h7
  rw [h10] at h8
  omega

theorem Ax.object (H : Ax w b g c x sw ws th) {T : Tng} (hT : T ∈ th) : ∃ sv, (∃ ad n m, sv = .slice ad n m) ∧ ∀ w1, Below w.heap.size w w1 → Calls Tryd.prog 55 #[.pointer (some ⟨b, 0, none⟩), .int .i64 T.at_] w1 fun e w' => e = .returned (.tuple #[ov T.s T.k T.p T.r T.a T.t T.h sv, .bool true]) ∧ Below w1.heap.size w1 w' := by
  obtain ⟨s, s1, s4, -, hsp, hlt, hst, hge, -⟩ := H.hl.stands H.ar hT
  obtain ⟨e1, e2, e3, e4, e5, e6, e7⟩ := H.hl.hds T hT
  refine ⟨_, ⟨some ⟨g, T.at_.toNat, none⟩, (osz c ws T.at_).toNat, (osz c ws T.at_).toNat, rfl⟩, fun w1 l => ?_⟩
  have := object_yes b g c x sw ws T.at_ s hsp (by omega) hlt hst w1 (H.ar.below l) (H.la.keep l)
  simp only [obv, e1, e2, e3, e4, e5, e6, e7] at this
  exact this

theorem Ax.head (H : Ax w b g c x sw ws th) {T : Tng} (hT : T ∈ th) : Calls Tryd.prog 27 #[.pointer (some ⟨b, 0, none⟩), .int .i64 T.at_] w fun e w' => e = .returned (.tuple #[hv T.s T.k T.p T.r T.a T.t T.h, .bool true]) ∧ Below w.heap.size w w' := by
  obtain ⟨sv, ⟨ad, n, m, rfl⟩, ho⟩ := H.object hT
  exact head_core true b T.at_ _ _ _ _ _ _ _ _ _ _ w ho

theorem Ax.ptr (H : Ax w b g c x sw ws th) {T : Tng} (hT : T ∈ th) (f : Nat) (z : Int) (hz : T.ps[f]? = some z) : Calls Tryd.prog 45 #[.pointer (some ⟨b, 0, none⟩), .int .i64 T.at_, .int .i64 f] w fun e w' => e = .returned (.tuple #[.int .i64 z, .bool true]) ∧ Below w.heap.size w w' := by
  obtain ⟨s, s1, s4, -, hsp, hlt, hst, hge, -⟩ := H.hl.stands H.ar hT
  obtain ⟨e1, e2, e3, e4, e5, e6, e7⟩ := H.hl.hds T hT
  obtain ⟨h1, h2⟩ := H.hl.psv T hT f z hz
  have hf := (List.getElem?_eq_some_iff.1 hz).1
  have hn := H.hl.psn T hT
  have := ptr_yes b g c x sw ws T.at_ s f hsp (by omega) hlt hst (by rw [e3]; omega) (by rw [h1]; exact h2) w H.ar H.la
  rw [h1] at this
  exact this

theorem Ax.setPtr (H : Ax w b g c x sw ws th) (i : Nat) (T : Tng) (hTi : th[i]? = some T) (f : Nat) (z : Int) (hf : f < T.ps.length) (z0 : 0 ≤ z) (z1 : z < c.words) :
    Calls Tryd.prog 12 #[.pointer (some ⟨b, 0, none⟩), .int .i64 T.at_, .int .i64 f, .int .i64 z] w fun e w' => e = .returned (.bool true) ∧ Touch [g] w w' ∧ ∃ ws', Ar w' b g c x sw ws' ∧ Hld c x ws' (th.set i { T with ps := T.ps.set f z }) := by
  have hm := List.mem_of_getElem? hTi
  obtain ⟨s0, s1, s4, -, hsp, hlt, hst, hge, -⟩ := H.hl.stands H.ar hm
  obtain ⟨p1, p2, p3, p4, p5, p6, p7⟩ := H.pos hm
  obtain ⟨hd1, hd2, hd3, hd4, hd5, hd6, hd7⟩ := H.hl.hds T hm
  have hrn := H.hl.rsn T hm
  have hpn := H.hl.psn T hm
  refine (setPtr_in b g c x sw ws T.at_ s0 z f z0 z1 hsp (by omega) hlt hst (by rw [hd3]; omega) w H.ar H.la).mono ?_
  rintro e w' ⟨rfl, hA', t'⟩
  refine ⟨rfl, t', _, hA', ?_⟩
  obtain ⟨idx, hidx⟩ : ∃ idx, idx = T.at_.toNat + 2 + f := ⟨_, rfl⟩
  have hidI : (idx : Int) = T.at_ + 2 + f := by rw [hidx]; omega
  rw [← hidx]
  have hwu : ∀ y, wat c (upd ws idx z) y = if y = idx then z else wat c ws y := fun y => wat_upd c ws idx z y (by omega)
  refine H.hl.write H.ar i T _ hTi (fun y hy => ?_) rfl rfl rfl rfl ?_ ?_ (by simp) rfl (fun f' z' hz => ?_) (fun f' z' hz => ?_)
  · rw [hwu, if_neg (by omega)]
  · rw [hwu, if_neg (by omega)]; exact hst.1
  · show wat c (upd ws idx z) (T.at_ + 1) = T.s ∧ kdOf (wat c (upd ws idx z) T.at_) = T.k ∧ ptOf (wat c (upd ws idx z) T.at_) = T.p ∧ rwOf (wat c (upd ws idx z) T.at_) = T.r ∧ agOf (wat c (upd ws idx z) T.at_) = T.a ∧ stOf (wat c (upd ws idx z) T.at_) = T.t ∧ hdOf (wat c (upd ws idx z) T.at_) = T.h
    rw [hwu, hwu, if_neg (by omega), if_neg (by omega)]
    exact ⟨hd1, hd2, hd3, hd4, hd5, hd6, hd7⟩
  · show wat c (upd ws idx z) (T.at_ + 2 + f') = z' ∧ z' < c.words
    rw [hwu]
    rcases set_at_of hz with ⟨rfl, rfl⟩ | ⟨hn, hz'⟩
    · rw [if_pos (by omega)]
      exact ⟨rfl, z1⟩
    · rw [if_neg (by omega)]
      exact H.hl.psv T hm f' z' hz'
  · have hz' : T.rs[f']? = some z' := hz
    have hf := (List.getElem?_eq_some_iff.1 hz').1
    show wat c (upd ws idx z) (T.at_ + 2 + T.p + f') = z'
    rw [hwu, if_neg (by omega)]
    exact H.hl.rsv T hm f' z' hz'

theorem Ax.setRaw (H : Ax w b g c x sw ws th) (i : Nat) (T : Tng) (hTi : th[i]? = some T) (f : Nat) (z : Int) (hf : f < T.rs.length) (hW : Wd z) :
    Calls Tryd.prog 35 #[.pointer (some ⟨b, 0, none⟩), .int .i64 T.at_, .int .i64 f, .int .u64 z] w fun e w' => e = .returned (.bool true) ∧ Touch [g] w w' ∧ ∃ ws', Ar w' b g c x sw ws' ∧ Hld c x ws' (th.set i { T with rs := T.rs.set f z }) := by
  have hm := List.mem_of_getElem? hTi
  obtain ⟨s0, s1, s4, -, hsp, hlt, hst, hge, -⟩ := H.hl.stands H.ar hm
  obtain ⟨p1, p2, p3, p4, p5, p6, p7⟩ := H.pos hm
  obtain ⟨hd1, hd2, hd3, hd4, hd5, hd6, hd7⟩ := H.hl.hds T hm
  have hrn := H.hl.rsn T hm
  have hpn := H.hl.psn T hm
  refine (setRaw_in b g c x sw ws T.at_ s0 f z hW hsp (by omega) hlt hst (by rw [hd4]; omega) w H.ar H.la).mono ?_
  rintro e w' ⟨rfl, hA', t'⟩
  refine ⟨rfl, t', _, hA', ?_⟩
  obtain ⟨idx, hidx⟩ : ∃ idx, idx = T.at_.toNat + (2 + (ptOf (wat c ws T.at_)).toNat) + f := ⟨_, rfl⟩
  have hidI : (idx : Int) = T.at_ + 2 + T.p + f := by rw [hidx, hd3]; omega
  rw [← hidx]
  have hwu : ∀ y, wat c (upd ws idx z) y = if y = idx then z else wat c ws y := fun y => wat_upd c ws idx z y (by omega)
  refine H.hl.write H.ar i T _ hTi (fun y hy => ?_) rfl rfl rfl rfl ?_ ?_ rfl (by simp) (fun f' z' hz => ?_) (fun f' z' hz => ?_)
  · rw [hwu, if_neg (by omega)]
  · rw [hwu, if_neg (by omega)]; exact hst.1
  · show wat c (upd ws idx z) (T.at_ + 1) = T.s ∧ kdOf (wat c (upd ws idx z) T.at_) = T.k ∧ ptOf (wat c (upd ws idx z) T.at_) = T.p ∧ rwOf (wat c (upd ws idx z) T.at_) = T.r ∧ agOf (wat c (upd ws idx z) T.at_) = T.a ∧ stOf (wat c (upd ws idx z) T.at_) = T.t ∧ hdOf (wat c (upd ws idx z) T.at_) = T.h
    rw [hwu, hwu, if_neg (by omega), if_neg (by omega)]
    exact ⟨hd1, hd2, hd3, hd4, hd5, hd6, hd7⟩
  · have hz' : T.ps[f']? = some z' := hz
    have hf := (List.getElem?_eq_some_iff.1 hz').1
    show wat c (upd ws idx z) (T.at_ + 2 + f') = z' ∧ z' < c.words
    rw [hwu, if_neg (by omega)]
    exact H.hl.psv T hm f' z' hz'
  · show wat c (upd ws idx z) (T.at_ + 2 + T.p + f') = z'
    rw [hwu]
    rcases set_at_of hz with ⟨rfl, rfl⟩ | ⟨hn, hz'⟩
    · rw [if_pos (by omega)]
    · rw [if_neg (by omega)]
      exact H.hl.rsv T hm f' z' hz'

theorem Ax.may (H : Ax w b g c x sw ws th) {T : Tng} (hT : T ∈ th) : flt T.k T.p T.r T.a T.t = 0 ∧ Wd T.s := by
  obtain ⟨s0, s1, s4, -, hsp, hlt, hst, hge, -⟩ := H.hl.stands H.ar hT
  obtain ⟨hd1, hd2, hd3, hd4, hd5, hd6, hd7⟩ := H.hl.hds T hT
  have h1 := hst.1.2.2
  rw [hd2, hd3, hd4, hd5, hd6] at h1
  refine ⟨h1, ?_⟩
  rw [← hd1]
  unfold wat
  split
  · exact H.ar.wd _
  · exact ⟨by decide, by decide⟩

/-- Held is written. -/
theorem Ax.setHead (H : Ax w b g c x sw ws th) (i : Nat) (T : Tng) (hTi : th[i]? = some T) (h : Bool) :
    Calls Tryd.prog 71 #[.pointer (some ⟨b, 0, none⟩), .int .i64 T.at_, hv T.s T.k T.p T.r T.a T.t h] w fun e w' => e = .returned (.bool true) ∧ Touch [g] w w' ∧ ∃ ws', Ar w' b g c x sw ws' ∧ Hld c x ws' (th.set i { T with h := h }) := by
  have hm := List.mem_of_getElem? hTi
  obtain ⟨s0, s1, s4, -, hsp, hlt, hst, hge, -⟩ := H.hl.stands H.ar hm
  obtain ⟨p1, p2, p3, p4, p5, p6, p7⟩ := H.pos hm
  obtain ⟨hd1, hd2, hd3, hd4, hd5, hd6, hd7⟩ := H.hl.hds T hm
  have hrn := H.hl.rsn T hm
  have hpn := H.hl.psn T hm
  obtain ⟨hfl, hsd⟩ := H.may hm
  obtain ⟨q, hq⟩ : ∃ q : Nat, T.at_ = q := ⟨T.at_.toNat, by omega⟩
  obtain ⟨sv, hsv, ho⟩ := H.object hm
  have may := May.of hfl
  obtain ⟨e1, e2, e3, e4, e5, e6, -, -⟩ := parts_wrd (h := h) may
  have hhd := head_wrd (h := h) may
  have hcall := setHead_good b g c x sw ws q T.s T.k T.p T.r T.a T.t h hsd hfl T.s T.k T.a T.t T.h sv hsv (by omega) w H.ar H.la (by rw [← hq]; exact ho)
  rw [← hq] at hcall
  refine hcall.mono ?_
  rintro e w' ⟨rfl, hA', t'⟩
  refine ⟨rfl, t', _, hA', ?_⟩
  have hwu : ∀ y, wat c (upd (upd ws q (wrd T.k T.p T.r T.a T.t h)) (q + 1) T.s) y = if y = (q : Int) + 1 then T.s else if y = q then wrd T.k T.p T.r T.a T.t h else wat c ws y := fun y => by
    rw [wat_upd c _ (q + 1) T.s y (by omega), wat_upd c ws q _ y (by omega)]
    push_cast
    rfl
  refine H.hl.write H.ar i T _ hTi (fun y hy => ?_) rfl rfl rfl rfl ?_ ?_ rfl rfl (fun f' z' hz => ?_) (fun f' z' hz => ?_)
  · rw [hwu, if_neg (by omega), if_neg (by omega)]
  · rw [hwu, if_neg (by omega), if_pos (by omega)]; exact hhd
  · show wat c (upd (upd ws q (wrd T.k T.p T.r T.a T.t h)) (q + 1) T.s) (T.at_ + 1) = T.s ∧ kdOf (wat c (upd (upd ws q (wrd T.k T.p T.r T.a T.t h)) (q + 1) T.s) T.at_) = T.k ∧ ptOf (wat c (upd (upd ws q (wrd T.k T.p T.r T.a T.t h)) (q + 1) T.s) T.at_) = T.p ∧ rwOf (wat c (upd (upd ws q (wrd T.k T.p T.r T.a T.t h)) (q + 1) T.s) T.at_) = T.r ∧ agOf (wat c (upd (upd ws q (wrd T.k T.p T.r T.a T.t h)) (q + 1) T.s) T.at_) = T.a ∧ stOf (wat c (upd (upd ws q (wrd T.k T.p T.r T.a T.t h)) (q + 1) T.s) T.at_) = T.t ∧ hdOf (wat c (upd (upd ws q (wrd T.k T.p T.r T.a T.t h)) (q + 1) T.s) T.at_) = h
    rw [hwu, hwu, if_pos (by omega), if_neg (by omega), if_pos (by omega)]
    exact ⟨rfl, e1, e2, e3, e4, e5, e6⟩
  · have hz' : T.ps[f']? = some z' := hz
    have hf := (List.getElem?_eq_some_iff.1 hz').1
    show wat c (upd (upd ws q (wrd T.k T.p T.r T.a T.t h)) (q + 1) T.s) (T.at_ + 2 + f') = z' ∧ z' < c.words
    rw [hwu, if_neg (by omega), if_neg (by omega)]
    exact H.hl.psv T hm f' z' hz'
  · have hz' : T.rs[f']? = some z' := hz
    have hf := (List.getElem?_eq_some_iff.1 hz').1
    show wat c (upd (upd ws q (wrd T.k T.p T.r T.a T.t h)) (q + 1) T.s) (T.at_ + 2 + T.p + f') = z'
    rw [hwu, if_neg (by omega), if_neg (by omega)]
    exact H.hl.rsv T hm f' z' hz'
end

end Go.Proofs.YtfihjmoaibmllaaDoor
