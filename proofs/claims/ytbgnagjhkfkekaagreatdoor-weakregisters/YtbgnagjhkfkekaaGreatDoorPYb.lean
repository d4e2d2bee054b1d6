import Derived.Test.YtbgnagjhkfkekaaGreatDoorPYa
/-
  An arena that holds things: the calls, by things.
-/
set_option linter.unusedVariables false
set_option maxRecDepth 20000
namespace Go.Proofs.YtbgnagjhkfkekaaGreatDoor
open Go.RowKit Go.Shelf

set_option maxHeartbeats 2000000 in
theorem head_core (d : Bool) (b : Nat) (a s K P R A T : Int) (H : Bool) (ad : Option Addr) (n cap : Nat) (w : World)
    (ho : ∀ w1, Below w.heap.size w w1 → Calls Tryz.prog 69 #[.pointer (some ⟨b, 0, none⟩), .int .i64 a] w1 fun e w' => e = .returned (.tuple #[ov s K P R A T H (.slice ad n cap), .bool d]) ∧ Below w1.heap.size w1 w') :
    Calls Tryz.prog 32 #[.pointer (some ⟨b, 0, none⟩), .int .i64 a] w fun e w' => e = .returned (.tuple #[hv s K P R A T H, .bool d]) ∧ Below w.heap.size w w' := by
  have hX := Box.new w 60 (.int .u64 0) (.int .i64 0) (.int .i64 0) (.int .i64 0) (.int .i64 0) (.int .i64 0) (.bool false)
  have hb := Below.alloc (Below.refl w.heap.size w) (Nat.le_refl _) (.cells (hcells 0 0 0 0 0 0 false) 60)
  have h1 := ho _ hb
  have hxlt := hX.lt
  clear ho
  go_enter Tryz.func32, Tryz.ntmps32
  go_upto_region 1 with fail
  generalize (w.alloc (.cells (hcells 0 0 0 0 0 0 false) 60)) = w0 at *
  go_wp2_with fail
  refine h1.mono ?_
  rintro e w1 ⟨rfl, l1⟩
  have b1 := hb.trans (l1.mono hb.size)
  have hX1 := hX.keep l1 hxlt
  have hx1 := hX1.lt
  clear h1 hb hX l1 hxlt
  go_upto_region 2 with fail
  have hX2 := hX1.keep (Below.alloc (Below.refl _ _) (Nat.le_refl _) (.cells (ocells s K P R A T H (.slice ad n cap)) 124)) hx1
  have b2 := Below.alloc b1 b1.size (.cells (ocells s K P R A T H (.slice ad n cap)) 124)
  have hy : ∀ j, (w1.alloc (.cells (ocells s K P R A T H (.slice ad n cap)) 124)).cell? ⟨w1.heap.size, j, none⟩ = (ocells s K P R A T H (.slice ad n cap))[j]? := fun j => cell_of_row _ _ j _ _ _ (heap_alloc_new w1 (.cells (ocells s K P R A T H (.slice ad n cap)) 124 (0, 0)))
  have hne : w.heap.size ≠ w1.heap.size := by omega
  generalize (w1.alloc (.cells (ocells s K P R A T H (.slice ad n cap)) 124)) = w2 at *
  have y0 : w2.cell? ⟨w1.heap.size, 0, none⟩ = some (.int .u64 s) := hy 0
  have y1 : w2.cell? ⟨w1.heap.size, 1, none⟩ = some (.int .i64 K) := hy 1
  have y2 : w2.cell? ⟨w1.heap.size, 2, none⟩ = some (.int .i64 P) := hy 2
  have y3 : w2.cell? ⟨w1.heap.size, 3, none⟩ = some (.int .i64 R) := hy 3
  have y4 : w2.cell? ⟨w1.heap.size, 4, none⟩ = some (.int .i64 A) := hy 4
  have y5 : w2.cell? ⟨w1.heap.size, 5, none⟩ = some (.int .i64 T) := hy 5
  have y6 : w2.cell? ⟨w1.heap.size, 6, none⟩ = some (.bool H) := hy 6
  clear hX1 b1 hx1 hy
  generalize w1.heap.size = B7 at *
  have hne' : B7 ≠ w.heap.size := fun e => hne e.symm
  obtain ⟨x0, x1, x2, x3, x4, x5, x6, f0, f1, f2, f3, f4, f5, f6⟩ := hX2
  go_wp2
  refine bodyPost_ret (by simp [results, Tryz.results32, go_sem, x0, x1, x2, x3, x4, x5, x6]; try rfl) rfl ?_
  refine ⟨rfl, ?_⟩
  go_grown


/-- An arena that holds the things th. -/
structure Ax (w : World) (b g : Nat) (c : Cfg) (x : Tps) (sw : Bool) (ws : Nat → Int) (th : List Tng) : Prop where
  ar : Ar w b g c x sw ws
  la : Laid w
  hl : Hld c x ws th

section
variable {w w' : World} {b g : Nat} {c : Cfg} {x : Tps} {sw : Bool} {ws : Nat → Int} {th : List Tng}

theorem Ax.below (H : Ax w b g c x sw ws th) (l : Below w.heap.size w w') : Ax w' b g c x sw ws th := ⟨H.ar.below l, H.la.keep l, H.hl⟩

theorem Ax.touch (H : Ax w b g c x sw ws th) {F : List Nat} (t : Touch F w w') (h1 : b ∉ F) (h2 : g ∉ F) (h3 : 1 ∉ F) (h4 : 0 ∉ F) : Ax w' b g c x sw ws th := ⟨H.ar.touch t h1 h2, H.la.touch t h3 h4, H.hl⟩

theorem Ax.pos (H : Ax w b g c x sw ws th) {T : Tng} (hT : T ∈ th) : 1 ≤ T.at_ ∧ T.at_ + 2 + T.p + T.r ≤ c.words ∧ 0 ≤ T.p ∧ 0 ≤ T.r ∧ T.p ≤ 4095 ∧ T.r ≤ 65535 ∧ c.words ≤ 262145 := by
  obtain ⟨s, s1, s4, -, hsp, hlt, hst, hge, -⟩ := H.hl.stands H.ar hT
  have h1 := H.hl.osz hT
  have h2 := hst.2
  have h3 := H.ar.sub_in s
  have h4 := H.hl.psn T hT
  have h5 := H.hl.rsn T hT
  have h6 := spc_pos H.ar.ok (a := T.at_) (by rw [hsp]; omega)
  have h7 := pt_in (wat c ws T.at_)
  have h8 := rw_in (wat c ws T.at_)
  obtain ⟨-, -, h9, h10, -⟩ := H.hl.hds T hT
  have h11 := H.ar.words
  rw [h9] at h7
  rw [h10] at h8
  omega

theorem Ax.object (H : Ax w b g c x sw ws th) {T : Tng} (hT : T ∈ th) : ∃ sv, (∃ ad n m, sv = .slice ad n m) ∧ ∀ w1, Below w.heap.size w w1 → Calls Tryz.prog 69 #[.pointer (some ⟨b, 0, none⟩), .int .i64 T.at_] w1 fun e w' => e = .returned (.tuple #[ov T.s T.k T.p T.r T.a T.t T.h sv, .bool true]) ∧ Below w1.heap.size w1 w' := by
  obtain ⟨s, s1, s4, -, hsp, hlt, hst, hge, -⟩ := H.hl.stands H.ar hT
  obtain ⟨e1, e2, e3, e4, e5, e6, e7⟩ := H.hl.hds T hT
  refine ⟨_, ⟨some ⟨g, T.at_.toNat, none⟩, (osz c ws T.at_).toNat, (osz c ws T.at_).toNat, rfl⟩, fun w1 l => ?_⟩
  have := object_yes b g c x sw ws T.at_ s hsp (by omega) hlt hst w1 (H.ar.below l) (H.la.keep l)
  simp only [obv, e1, e2, e3, e4, e5, e6, e7] at this
  exact this

theorem Ax.head (H : Ax w b g c x sw ws th) {T : Tng} (hT : T ∈ th) : Calls Tryz.prog 32 #[.pointer (some ⟨b, 0, none⟩), .int .i64 T.at_] w fun e w' => e = .returned (.tuple #[hv T.s T.k T.p T.r T.a T.t T.h, .bool true]) ∧ Below w.heap.size w w' := by
  obtain ⟨sv, ⟨ad, n, m, rfl⟩, ho⟩ := H.object hT
  exact head_core true b T.at_ _ _ _ _ _ _ _ _ _ _ w ho

theorem Ax.ptr (H : Ax w b g c x sw ws th) {T : Tng} (hT : T ∈ th) (f : Nat) (z : Int) (hz : T.ps[f]? = some z) : Calls Tryz.prog 87 #[.pointer (some ⟨b, 0, none⟩), .int .i64 T.at_, .int .i64 f] w fun e w' => e = .returned (.tuple #[.int .i64 z, .bool true]) ∧ Below w.heap.size w w' := by
  obtain ⟨s, s1, s4, -, hsp, hlt, hst, hge, -⟩ := H.hl.stands H.ar hT
  obtain ⟨e1, e2, e3, e4, e5, e6, e7⟩ := H.hl.hds T hT
  obtain ⟨h1, h2⟩ := H.hl.psv T hT f z hz
  have hf := (List.getElem?_eq_some_iff.1 hz).1
  have hn := H.hl.psn T hT
  have := ptr_yes b g c x sw ws T.at_ s f hsp (by omega) hlt hst (by rw [e3]; omega) (by rw [h1]; exact h2) w H.ar H.la
  rw [h1] at this
  exact this

theorem Ax.setPtr_ex (H : Ax w b g c x sw ws th) (i : Nat) (T : Tng) (hTi : th[i]? = some T) (f : Nat) (z : Int) (hf : f < T.ps.length) (z0 : 0 ≤ z) (z1 : z < c.words) :
    Calls Tryz.prog 27 #[.pointer (some ⟨b, 0, none⟩), .int .i64 T.at_, .int .i64 f, .int .i64 z] w fun e w' => e = .returned (.bool true) ∧ Touch [g] w w' ∧ ∃ ws', ws' = upd ws (T.at_.toNat + 2 + f) z ∧ Ar w' b g c x sw ws' ∧ Hld c x ws' (th.set i { T with ps := T.ps.set f z }) := by
  have hm := List.mem_of_getElem? hTi
  obtain ⟨s0, s1, s4, -, hsp, hlt, hst, hge, -⟩ := H.hl.stands H.ar hm
  obtain ⟨p1, p2, p3, p4, p5, p6, p7⟩ := H.pos hm
  obtain ⟨hd1, hd2, hd3, hd4, hd5, hd6, hd7⟩ := H.hl.hds T hm
  have hrn := H.hl.rsn T hm
  have hpn := H.hl.psn T hm
  refine (setPtr_in b g c x sw ws T.at_ s0 z f z0 z1 hsp (by omega) hlt hst (by rw [hd3]; omega) w H.ar H.la).mono ?_
  rintro e w' ⟨rfl, hA', t'⟩
  refine ⟨rfl, t', _, rfl, hA', ?_⟩
  obtain ⟨idx, hidx⟩ : ∃ idx, idx = T.at_.toNat + 2 + f := ⟨_, rfl⟩
  have hidI : (idx : Int) = T.at_ + 2 + f := by rw [hidx]; omega
  rw [← hidx]
  have hwu : ∀ y, wat c (upd ws idx z) y = if y = idx then z else wat c ws y := fun y => wat_upd c ws idx z y (by omega)
  refine H.hl.write H.ar i T _ hTi (fun y hy => ?_) rfl rfl rfl rfl ?_ ?_ (by simp) rfl (fun f' z' hz => ?_) (fun f' z' hz => ?_)
  · rw [hwu, if_neg (by omega)]
  · rw [hwu, if_neg (by omega)]; exact hst.1
  · show wat c (upd ws idx z) (T.at_ + 1) = T.s ∧ kdOf (wat c (upd ws idx z) T.at_) = T.k ∧ ptOf (wat c (upd ws idx z) T.at_) = T.p ∧ rwOf (wat c (upd ws idx z) T.at_) = T.r ∧ agOf (wat c (upd ws idx z) T.at_) = T.a ∧ stOf (wat c (upd ws idx z) T.at_) = T.t ∧ hdOf (wat c (upd ws idx z) T.at_) = T.h
    rw [hwu, hwu, if_neg (by omega), if_neg (by omega)]
    exact ⟨hd1, hd2, hd3, hd4, hd5, hd6, hd7⟩
  · show wat c (upd ws idx z) (T.at_ + 2 + f') = z' ∧ z' < c.words
    rw [hwu]
    rcases set_at_of hz with ⟨rfl, rfl⟩ | ⟨hn, hz'⟩
    · rw [if_pos (by omega)]
      exact ⟨rfl, z1⟩
    · rw [if_neg (by omega)]
      exact H.hl.psv T hm f' z' hz'
  · have hz' : T.rs[f']? = some z' := hz
    have hf := (List.getElem?_eq_some_iff.1 hz').1
    show wat c (upd ws idx z) (T.at_ + 2 + T.p + f') = z'
    rw [hwu, if_neg (by omega)]
    exact H.hl.rsv T hm f' z' hz'

theorem Ax.setPtr (H : Ax w b g c x sw ws th) (i : Nat) (T : Tng) (hTi : th[i]? = some T) (f : Nat) (z : Int) (hf : f < T.ps.length) (z0 : 0 ≤ z) (z1 : z < c.words) :
    Calls Tryz.prog 27 #[.pointer (some ⟨b, 0, none⟩), .int .i64 T.at_, .int .i64 f, .int .i64 z] w fun e w' => e = .returned (.bool true) ∧ Touch [g] w w' ∧ ∃ ws', Ar w' b g c x sw ws' ∧ Hld c x ws' (th.set i { T with ps := T.ps.set f z }) := by
  refine (H.setPtr_ex i T hTi f z hf z0 z1).mono ?_
  rintro e w' ⟨rfl, t, ws', -, h1, h2⟩
  exact ⟨rfl, t, ws', h1, h2⟩

theorem Ax.setRaw_ex (H : Ax w b g c x sw ws th) (i : Nat) (T : Tng) (hTi : th[i]? = some T) (f : Nat) (z : Int) (hf : f < T.rs.length) (hW : Wd z) :
    Calls Tryz.prog 28 #[.pointer (some ⟨b, 0, none⟩), .int .i64 T.at_, .int .i64 f, .int .u64 z] w fun e w' => e = .returned (.bool true) ∧ Touch [g] w w' ∧ ∃ ws', ws' = upd ws (T.at_.toNat + (2 + T.p.toNat) + f) z ∧ Ar w' b g c x sw ws' ∧ Hld c x ws' (th.set i { T with rs := T.rs.set f z }) := by
  have hm := List.mem_of_getElem? hTi
  obtain ⟨s0, s1, s4, -, hsp, hlt, hst, hge, -⟩ := H.hl.stands H.ar hm
  obtain ⟨p1, p2, p3, p4, p5, p6, p7⟩ := H.pos hm
  obtain ⟨hd1, hd2, hd3, hd4, hd5, hd6, hd7⟩ := H.hl.hds T hm
  have hrn := H.hl.rsn T hm
  have hpn := H.hl.psn T hm
  refine (setRaw_in b g c x sw ws T.at_ s0 f z hW hsp (by omega) hlt hst (by rw [hd4]; omega) w H.ar H.la).mono ?_
  rintro e w' ⟨rfl, hA', t'⟩
  refine ⟨rfl, t', _, by rw [hd3], hA', ?_⟩
  obtain ⟨idx, hidx⟩ : ∃ idx, idx = T.at_.toNat + (2 + (ptOf (wat c ws T.at_)).toNat) + f := ⟨_, rfl⟩
  have hidI : (idx : Int) = T.at_ + 2 + T.p + f := by rw [hidx, hd3]; omega
  rw [← hidx]
  have hwu : ∀ y, wat c (upd ws idx z) y = if y = idx then z else wat c ws y := fun y => wat_upd c ws idx z y (by omega)
  refine H.hl.write H.ar i T _ hTi (fun y hy => ?_) rfl rfl rfl rfl ?_ ?_ rfl (by simp) (fun f' z' hz => ?_) (fun f' z' hz => ?_)
  · rw [hwu, if_neg (by omega)]
  · rw [hwu, if_neg (by omega)]; exact hst.1
  · show wat c (upd ws idx z) (T.at_ + 1) = T.s ∧ kdOf (wat c (upd ws idx z) T.at_) = T.k ∧ ptOf (wat c (upd ws idx z) T.at_) = T.p ∧ rwOf (wat c (upd ws idx z) T.at_) = T.r ∧ agOf (wat c (upd ws idx z) T.at_) = T.a ∧ stOf (wat c (upd ws idx z) T.at_) = T.t ∧ hdOf (wat c (upd ws idx z) T.at_) = T.h
    rw [hwu, hwu, if_neg (by omega), if_neg (by omega)]
    exact ⟨hd1, hd2, hd3, hd4, hd5, hd6, hd7⟩
  · have hz' : T.ps[f']? = some z' := hz
    have hf := (List.getElem?_eq_some_iff.1 hz').1
    show wat c (upd ws idx z) (T.at_ + 2 + f') = z' ∧ z' < c.words
    rw [hwu, if_neg (by omega)]
    exact H.hl.psv T hm f' z' hz'
  · show wat c (upd ws idx z) (T.at_ + 2 + T.p + f') = z'
    rw [hwu]
    rcases set_at_of hz with ⟨rfl, rfl⟩ | ⟨hn, hz'⟩
    · rw [if_pos (by omega)]
    · rw [if_neg (by omega)]
      exact H.hl.rsv T hm f' z' hz'

theorem Ax.setRaw (H : Ax w b g c x sw ws th) (i : Nat) (T : Tng) (hTi : th[i]? = some T) (f : Nat) (z : Int) (hf : f < T.rs.length) (hW : Wd z) :
    Calls Tryz.prog 28 #[.pointer (some ⟨b, 0, none⟩), .int .i64 T.at_, .int .i64 f, .int .u64 z] w fun e w' => e = .returned (.bool true) ∧ Touch [g] w w' ∧ ∃ ws', Ar w' b g c x sw ws' ∧ Hld c x ws' (th.set i { T with rs := T.rs.set f z }) := by
  refine (H.setRaw_ex i T hTi f z hf hW).mono ?_
  rintro e w' ⟨rfl, t, ws', -, h1, h2⟩
  exact ⟨rfl, t, ws', h1, h2⟩

theorem Ax.may (H : Ax w b g c x sw ws th) {T : Tng} (hT : T ∈ th) : flt T.k T.p T.r T.a T.t = 0 ∧ Wd T.s := by
  obtain ⟨s0, s1, s4, -, hsp, hlt, hst, hge, -⟩ := H.hl.stands H.ar hT
  obtain ⟨hd1, hd2, hd3, hd4, hd5, hd6, hd7⟩ := H.hl.hds T hT
  have h1 := hst.1.2.2
  rw [hd2, hd3, hd4, hd5, hd6] at h1
  refine ⟨h1, ?_⟩
  rw [← hd1]
  unfold wat
  split
  · exact H.ar.wd _
  · exact ⟨by decide, by decide⟩

end

end Go.Proofs.YtbgnagjhkfkekaaGreatDoor

/-
  An arena that holds things: Put and Fill.
-/
set_option linter.unusedVariables false
set_option maxRecDepth 20000
namespace Go.Proofs.YtbgnagjhkfkekaaGreatDoor
open Go.RowKit Go.Shelf

section
variable {w w' : World} {b g : Nat} {c : Cfg} {x : Tps} {sw : Bool} {ws : Nat → Int} {th : List Tng}

theorem Ax.put_ex (H : Ax w b g c x sw ws th) (S s k p r a t : Int) (h : Bool) (no : Nat) (hS : 1 ≤ S ∧ S ≤ 4) (hs : Wd s) (hf : flt k p r a t = 0) (hn : x.top S + (2 + p + r) ≤ bhd c S) :
    Calls Tryz.prog 25 #[.pointer (some ⟨b, 0, none⟩), .int .i64 S, hv s k p r a t h] w fun e w' => e = .returned (.tuple #[.int .i64 (x.top S), .bool true]) ∧ Touch [b, g] w w' ∧ ∃ ws', ws' = putw ws (x.top S).toNat (2 + p + r).toNat (wrd k p r a t h) s ∧ Ar w' b g c (x.put S (x.top S + (2 + p + r))) sw ws' ∧ Hld c (x.put S (x.top S + (2 + p + r))) ws' (th ++ [⟨x.top S, S, s, k, p, r, a, t, h, no, List.replicate p.toNat 0, List.replicate r.toNat 0⟩]) := by
  have may := May.of hf
  have hp0 : 0 ≤ p ∧ 0 ≤ r ∧ p ≤ 4095 ∧ r ≤ 65535 := by obtain ⟨h1, h2, h3, h4, h5, h6, h7, h8, h9, h10, h11, h12⟩ := may; omega
  obtain ⟨s0, rfl⟩ : ∃ s0 : Nat, S = s0 := ⟨S.toNat, by omega⟩
  have hsub := H.ar.sub_in s0
  have hw := H.ar.words
  obtain ⟨q, hq⟩ : ∃ q : Nat, x.top s0 = q := ⟨(x.top s0).toNat, by omega⟩
  obtain ⟨n, hn2⟩ : ∃ n : Nat, (n : Int) = 2 + p + r := ⟨(2 + p + r).toNat, by omega⟩
  obtain ⟨e1, e2, e3, e4, e5, e6, -, -⟩ := parts_wrd (h := h) may
  have hhd := head_wrd (h := h) may
  refine (put_yes b g c x sw ws s0 s k p r a t h hs hf q n hq hn2 (by omega) w H.ar H.la).mono ?_
  rintro e w' ⟨rfl, hA', t'⟩
  have hwp : ∀ y, wat c (putw ws q n (wrd k p r a t h) s) y = if y = (q : Int) + 1 then s else if y = q then wrd k p r a t h else if (q : Int) ≤ y ∧ y < q + n then 0 else wat c ws y := fun y => by
    unfold putw
    rw [wat_upd c _ (q + 1) s y (by omega), wat_upd c _ q _ y (by omega), wat_zer]
    push_cast
    rfl
  have hpt : ((p.toNat : Nat) : Int) = p := by omega
  have hrt : ((r.toNat : Nat) : Int) = r := by omega
  have hput := H.hl.put (ws' := putw ws q n (wrd k p r a t h) s) H.ar s0 (by omega) (by omega) ⟨q, s0, s, k, p, r, a, t, h, no, List.replicate p.toNat 0, List.replicate r.toNat 0⟩ hq.symm rfl hp0.1 hp0.2.1 (by show x.top s0 + (2 + p + r) ≤ _; omega) (fun y hy => by
      have hy' : y < x.top s0 ∨ x.top s0 + (2 + p + r) ≤ y := hy
      rw [hwp, if_neg (by omega), if_neg (by omega), if_neg (by omega)]) (by rw [hwp, if_neg (by omega), if_pos hq]; exact hhd) (by
      show wat c _ ((q : Int) + 1) = s ∧ kdOf (wat c _ (q : Int)) = k ∧ ptOf (wat c _ (q : Int)) = p ∧ rwOf (wat c _ (q : Int)) = r ∧ agOf (wat c _ (q : Int)) = a ∧ stOf (wat c _ (q : Int)) = t ∧ hdOf (wat c _ (q : Int)) = h
      rw [hwp, hwp, if_pos rfl, if_neg (by omega), if_pos rfl]
      exact ⟨rfl, e1, e2, e3, e4, e5, e6⟩) (by simp [hpt]) (by simp [hrt]) (fun f z hz => by
      have hz' : (List.replicate p.toNat (0 : Int))[f]? = some z := hz
      have hfl0 := (List.getElem?_eq_some_iff.1 hz').1
      rw [List.length_replicate] at hfl0
      have hz0 : z = 0 := by rw [List.getElem?_replicate, if_pos hfl0] at hz'; simpa using hz'.symm
      have hfl : (f : Int) < p := by omega
      show wat c _ ((q : Int) + 2 + f) = z ∧ z < c.words
      rw [hwp, if_neg (by omega), if_neg (by omega), if_pos (by omega), hz0]
      exact ⟨rfl, by omega⟩) (fun f z hz => by
      have hz' : (List.replicate r.toNat (0 : Int))[f]? = some z := hz
      have hfl0 := (List.getElem?_eq_some_iff.1 hz').1
      rw [List.length_replicate] at hfl0
      have hz0 : z = 0 := by rw [List.getElem?_replicate, if_pos hfl0] at hz'; simpa using hz'.symm
      have hfl : (f : Int) < r := by omega
      show wat c _ ((q : Int) + 2 + p + f) = z
      rw [hwp, if_neg (by omega), if_neg (by omega), if_pos (by omega), hz0])
  rw [hn2] at hA'
  have hput' : Hld c (x.put s0 (x.top s0 + (2 + p + r))) (putw ws q n (wrd k p r a t h) s) (th ++ [⟨q, s0, s, k, p, r, a, t, h, no, List.replicate p.toNat 0, List.replicate r.toNat 0⟩]) := hput
  rw [hq] at hput' ⊢
  exact ⟨rfl, t', _, by rw [show (2 + p + r).toNat = n by omega]; rfl, hA', hput'⟩

theorem Ax.put (H : Ax w b g c x sw ws th) (S s k p r a t : Int) (h : Bool) (no : Nat) (hS : 1 ≤ S ∧ S ≤ 4) (hs : Wd s) (hf : flt k p r a t = 0) (hn : x.top S + (2 + p + r) ≤ bhd c S) :
    Calls Tryz.prog 25 #[.pointer (some ⟨b, 0, none⟩), .int .i64 S, hv s k p r a t h] w fun e w' => e = .returned (.tuple #[.int .i64 (x.top S), .bool true]) ∧ Touch [b, g] w w' ∧ ∃ ws', Ar w' b g c (x.put S (x.top S + (2 + p + r))) sw ws' ∧ Hld c (x.put S (x.top S + (2 + p + r))) ws' (th ++ [⟨x.top S, S, s, k, p, r, a, t, h, no, List.replicate p.toNat 0, List.replicate r.toNat 0⟩]) := by
  refine (H.put_ex S s k p r a t h no hS hs hf hn).mono ?_
  rintro e w' ⟨rfl, t, ws', -, h1, h2⟩
  exact ⟨rfl, t, ws', h1, h2⟩

theorem Ax.fill_ex (H : Ax w b g c x sw ws th) (S n : Int) (hS : 1 ≤ S ∧ S ≤ 4) (h0 : 0 < n) (hn : x.top S + n ≤ bhd c S) :
    Calls Tryz.prog 24 #[.pointer (some ⟨b, 0, none⟩), .int .i64 S, .int .i64 n] w fun e w' => e = .returned (.bool true) ∧ Touch [b, g] w w' ∧ ∃ ws', ws' = upd (zer ws (x.top S).toNat n.toNat) (x.top S).toNat (n * 4 + 3) ∧ Ar w' b g c (x.put S (x.top S + n)) sw ws' ∧ Hld c (x.put S (x.top S + n)) ws' th := by
  obtain ⟨s0, rfl⟩ : ∃ s0 : Nat, S = s0 := ⟨S.toNat, by omega⟩
  obtain ⟨n, rfl⟩ : ∃ n0 : Nat, n = n0 := ⟨n.toNat, by omega⟩
  have hsub := H.ar.sub_in s0
  have hw := H.ar.words
  obtain ⟨q, hq⟩ : ∃ q : Nat, x.top s0 = q := ⟨(x.top s0).toNat, by omega⟩
  refine (fill_yes b g c x sw ws s0 q n hq (by omega) (by omega) w H.ar).mono ?_
  rintro e w' ⟨rfl, hA', t'⟩
  have hwp : ∀ y, wat c (upd (zer ws q n) q ((n : Int) * 4 + 3)) y = if y = q then (n : Int) * 4 + 3 else if (q : Int) ≤ y ∧ y < q + n then 0 else wat c ws y := fun y => by
    rw [wat_upd c _ q _ y (by omega), wat_zer]
  have := H.hl.fill (ws' := upd (zer ws q n) q ((n : Int) * 4 + 3)) H.ar s0 (by omega) (by omega) n (by omega) (by omega) (fun y hy => by rw [hwp, if_neg (by omega), if_neg (by omega)]) (by rw [hq, hwp, if_pos rfl]; unfold IsTag; omega) (by rw [hq, hwp, if_pos rfl]; omega)
  rw [hq] at this ⊢
  exact ⟨rfl, t', _, rfl, hA', this⟩

theorem Ax.fill (H : Ax w b g c x sw ws th) (S n : Int) (hS : 1 ≤ S ∧ S ≤ 4) (h0 : 0 < n) (hn : x.top S + n ≤ bhd c S) :
    Calls Tryz.prog 24 #[.pointer (some ⟨b, 0, none⟩), .int .i64 S, .int .i64 n] w fun e w' => e = .returned (.bool true) ∧ Touch [b, g] w w' ∧ ∃ ws', Ar w' b g c (x.put S (x.top S + n)) sw ws' ∧ Hld c (x.put S (x.top S + n)) ws' th := by
  refine (H.fill_ex S n hS h0 hn).mono ?_
  rintro e w' ⟨rfl, t, ws', -, h1, h2⟩
  exact ⟨rfl, t, ws', h1, h2⟩
end

end Go.Proofs.YtbgnagjhkfkekaaGreatDoor

/-
  There, Place, Places.
-/
set_option linter.unusedVariables false
set_option maxRecDepth 20000
namespace Go.Proofs.YtbgnagjhkfkekaaGreatDoor
open Go.RowKit Go.Shelf

/-- The cells of a thing of a lay. -/
theorem Ly.thing {n1 : Nat} {w : World} {lb : Nat} {c : Cfg} {L : List LT} (h : Ly n1 w lb c L) {i : Nat} {T : LT} (hT : L[i]? = some T) : ∃ q off cap q' off' cap', w.cell? ⟨lb, 14, none⟩ = some (.slice (some ⟨q, off, none⟩) L.length cap) ∧ w.cell? ⟨lb, 15, none⟩ = some (.slice (some ⟨q', off', none⟩) L.length cap') ∧ (∀ j, j < 11 → w.cell? ⟨q, off + i * 11 + j, none⟩ = T.cells[j]?) ∧ w.cell? ⟨q', off' + i, none⟩ = some (.int .i64 T.at_) ∧ q < n1 ∧ q' < n1 ∧ L.length ≤ cap' := by
  obtain ⟨v, h1, a, cap, rfl, h2⟩ := h.things
  obtain ⟨u, h3, a', cap', h4, hcp, h5⟩ := h.ats
  obtain ⟨-, -, -, q, off, rfl, h7, h8⟩ := h2 i T hT
  obtain ⟨q', off', rfl, h9, h10⟩ := h5 i T.at_ (by rw [List.getElem?_map, hT]; rfl)
  rw [List.length_map] at h4 hcp
  subst h4
  exact ⟨q, off, cap, q', off', cap', h1, h3, h8, h10, h7, h9, hcp⟩

theorem Ly.lens {n1 : Nat} {w : World} {lb : Nat} {c : Cfg} {L : List LT} (h : Ly n1 w lb c L) : ∃ a cap a' cap', w.cell? ⟨lb, 14, none⟩ = some (.slice a L.length cap) ∧ w.cell? ⟨lb, 15, none⟩ = some (.slice a' L.length cap') := by
  obtain ⟨v, h1, a, cap, rfl, h2⟩ := h.things
  obtain ⟨u, h3, a', cap', h4, -, h5⟩ := h.ats
  rw [List.length_map] at h4
  subst h4
  exact ⟨a, cap, a', cap', h1, h3⟩

theorem thr_low {L : List LT} {z : Int} (h : z < 1 ∨ (L.length : Int) < z) : thr L z = false := by
  cases e : thr L z
  · rfl
  · obtain ⟨T, hT⟩ := thr_iff.1 e
    obtain ⟨h1, h2, -⟩ := ob_some.1 hT
    have := (List.getElem?_eq_some_iff.1 h2).1
    omega

theorem thr_at {L : List LT} {i : Nat} {T : LT} (h : L[i]? = some T) : thr L ((i : Int) + 1) = decide (0 < T.at_ ∧ T.fill = 0) := by
  have e : ((i : Int) + 1 - 1).toNat = i := by omega
  unfold thr ob
  rw [if_pos (by omega), e, h]
  by_cases hh : 0 < T.at_ ∧ T.fill = 0
  · simp [Option.filter, hh]
  · simp [Option.filter, hh]

set_option maxHeartbeats 4000000 in
theorem there_any {n1 : Nat} {w : World} {lb : Nat} {c : Cfg} {L : List LT} (h : Ly n1 w lb c L) (hlen : L.length ≤ 400) (z : Int) (hz : InI z) :
    Calls Tryz.prog 8 #[.pointer (some ⟨lb, 0, none⟩), .int .i64 z] w fun e w' => e = .returned (.bool (thr L z)) ∧ Below w.heap.size w w' := by
  by_cases h1 : z < 1
  · rw [thr_low (.inl h1)]
    have g1 : decide (1 ≤ z) = false := by simp; omega
    clear h
    go_enter Tryz.func8, Tryz.ntmps8
    go_wp2
    go_ret
    exact ⟨rfl, by go_grown⟩
  · obtain ⟨a, cap, a', cap', k14, k15⟩ := h.lens
    by_cases h2 : (L.length : Int) < z
    · rw [thr_low (.inr h2)]
      have g1 : decide (1 ≤ z) = true := by simp; omega
      have g2 : decide (z ≤ (L.length : Int)) = false := by simp; omega
      clear h
      go_enter Tryz.func8, Tryz.ntmps8
      go_wp2
      go_ret
      exact ⟨rfl, by go_grown⟩
    · obtain ⟨i, rfl⟩ : ∃ i : Nat, z = (i : Int) + 1 := ⟨(z - 1).toNat, by omega⟩
      have hi : i < L.length := by omega
      have hT : L[i]? = some (L[i]'hi) := List.getElem?_eq_getElem hi
      generalize L[i]'hi = T at hT
      obtain ⟨q, off, cap2, q', off', cap2', l14, l15, hc, ka, -, -, hcp⟩ := h.thing hT
      have kf : w.cell? ⟨q, off + i * 11 + 10, none⟩ = some (.int .i64 T.fill) := hc 10 (by decide)
      rw [thr_at hT]
      generalize L.length = N at *
      clear h hT hc k14 k15 a cap a' cap'
      generalize T.at_ = A at *
      generalize T.fill = F at *
      by_cases hA : 0 < A
      · by_cases hF : F = 0
        · subst hF
          go_enter Tryz.func8, Tryz.ntmps8
          go_wp2
          go_ret
          exact ⟨by simp, by go_grown⟩
        · have hF' : (F == 0) = false := by simpa using hF
          go_enter Tryz.func8, Tryz.ntmps8
          go_wp2
          go_ret
          exact ⟨by simp, by go_grown⟩
      · have hA' : decide (A > 0) = false := by simpa using hA
        go_enter Tryz.func8, Tryz.ntmps8
        go_wp2
        go_ret
        exact ⟨by simp, by go_grown⟩

end Go.Proofs.YtbgnagjhkfkekaaGreatDoor

/-
  What Build keeps.
-/
set_option linter.unusedVariables false
set_option maxRecDepth 20000
namespace Go.Proofs.YtbgnagjhkfkekaaGreatDoor
open Go.RowKit Go.Shelf

/-- An arena that is being built out of a lay. -/
structure Bq (w1 : World) (n1 : Nat) (w : World) (b g : Nat) (c : Cfg) (x : Tps) (sw : Bool) (ws : Nat → Int) (th : List Tng) : Prop where
  ax : Ax w b g c x sw ws th
  be : Below n1 w1 w
  lb : n1 ≤ b
  lg : n1 ≤ g
  t0 : 1 < n1
  t1 : 0 < n1

theorem Bq.below {w1 : World} {n1 : Nat} {w w' : World} {b g : Nat} {c : Cfg} {x : Tps} {sw : Bool} {ws : Nat → Int} {th : List Tng} (H : Bq w1 n1 w b g c x sw ws th) (hn : n1 ≤ w1.heap.size) (l : Below w.heap.size w w') : Bq w1 n1 w' b g c x sw ws th :=
  ⟨H.ax.below l, H.be.trans (l.mono (Nat.le_trans hn H.be.size)), H.lb, H.lg, H.t0, H.t1⟩

theorem Bq.next {w1 : World} {n1 : Nat} {w w' : World} {b g : Nat} {c : Cfg} {x x' : Tps} {sw sw' : Bool} {ws ws' : Nat → Int} {th th' : List Tng} (H : Bq w1 n1 w b g c x sw ws th) (hn : n1 ≤ w1.heap.size) (t : Touch [b, g] w w') (hA : Ar w' b g c x' sw' ws') (hH : Hld c x' ws' th') : Bq w1 n1 w' b g c x' sw' ws' th' := by
  have hs := H.be.size
  have t0 := H.t0
  have t1 := H.t1
  have lb := H.lb
  have lg := H.lg
  refine ⟨⟨hA, H.ax.la.touch t (by simp; omega) (by simp; omega), hH⟩, H.be.trans (t.below (by omega) (fun k hk => ?_)), H.lb, H.lg, H.t0, H.t1⟩
  simp at hk
  rcases hk with rfl | rfl
  · exact lb
  · exact lg

theorem Touch.one {b g : Nat} {w w' : World} (t : Touch [g] w w') : Touch [b, g] w w' := ⟨t.os, t.tape, t.output, t.size, fun k hk hn => t.block k hk (by simp at hn ⊢; exact hn.2)⟩

/-- The fields of a thing, as far as they have been written. -/
def Fl (L : List LT) (i kp kr : Nat) (T : Tng) : Prop := ∀ o, L[T.no - 1]? = some o → T.h = o.h ∧ (T.no ≤ i → T.ps = o.ps.map (plc L) ∧ T.rs = o.rs) ∧ (T.no = i + 1 → (∀ f, f < kp → T.ps[f]? = (o.ps.map (plc L))[f]?) ∧ ∀ f, f < kr → T.rs[f]? = o.rs[f]?)

theorem Fl.zero {L : List LT} {i : Nat} {T : Tng} (h : ∀ o, L[T.no - 1]? = some o → T.h = o.h) (hi : 0 < T.no) (h0 : i = 0) : Fl L i 0 0 T := fun o ho => ⟨h o ho, fun hn => by omega, fun _ => ⟨fun f hf => by omega, fun f hf => by omega⟩⟩

/-- The thing is whole. -/
def Full (L : List LT) (T : Tng) : Prop := ∀ o, ob L T.no = some o → T.ps = o.ps.map (plc L) ∧ T.rs = o.rs ∧ T.h = o.h

theorem Fl.next {L : List LT} {th : List Tng} (S : Sk L th) {i kp kr : Nat} (h : ∀ T, T ∈ th → Fl L i kp kr T) (hp : ∀ o, L[i]? = some o → 0 < o.at_ → o.fill = 0 → o.ps.length ≤ kp ∧ o.rs.length ≤ kr) : ∀ T, T ∈ th → Fl L (i + 1) 0 0 T := fun T hT o ho => by
  obtain ⟨h1, h2, h3⟩ := h T hT o ho
  refine ⟨h1, fun hn => ?_, fun _ => ⟨fun f hf => by omega, fun f hf => by omega⟩⟩
  by_cases e : T.no ≤ i
  · exact h2 e
  · obtain ⟨n, y, e1, e2, e3, e4, e5⟩ := S.of T hT
    have en : n = i := by omega
    subst en
    have eo : y = o := by
      rw [e1] at ho
      simp at ho
      rw [ho] at e2
      simpa using e2.symm
    subst eo
    obtain ⟨p1, p2⟩ := hp y e2 e3 e4
    obtain ⟨q1, q2⟩ := h3 (by omega)
    constructor
    · apply List.ext_getElem?
      intro f
      by_cases hf : f < kp
      · exact q1 f hf
      · rw [List.getElem?_eq_none (by rw [e5.pl]; omega), List.getElem?_eq_none (by rw [List.length_map]; omega)]
    · apply List.ext_getElem?
      intro f
      by_cases hf : f < kr
      · exact q2 f hf
      · rw [List.getElem?_eq_none (by rw [e5.rl]; omega), List.getElem?_eq_none (by omega)]

theorem Fl.full {L : List LT} {th : List Tng} (S : Sk L th) {kp kr : Nat} (h : ∀ T, T ∈ th → Fl L L.length kp kr T) : ∀ T, T ∈ th → Full L T := fun T hT o ho => by
  obtain ⟨h1, h2, h3, h4⟩ := ob_some.1 ho
  have e : ((T.no : Int) - 1).toNat = T.no - 1 := by omega
  rw [e] at h2
  obtain ⟨q1, q2, -⟩ := h T hT o h2
  have := (List.getElem?_eq_some_iff.1 h2).1
  obtain ⟨r1, r2⟩ := q2 (by omega)
  exact ⟨r1, r2, q1⟩

/-- A pointer field is written. -/
theorem Fl.ptr {L : List LT} {th : List Tng} (S : Sk L th) {i k : Nat} (h : ∀ T, T ∈ th → Fl L i k 0 T) (j : Nat) (T : Tng) (hj : th[j]? = some T) (hn : T.no = i + 1) (o : LT) (ho : L[i]? = some o) (z : Int) (hz : o.ps[k]? = some z) (hl : k < T.ps.length) : ∀ V, V ∈ th.set j { T with ps := T.ps.set k (plc L z) } → Fl L i (k + 1) 0 V := fun V hV y hy => by
  obtain ⟨m, hm⟩ := List.getElem?_of_mem hV
  rcases set_at_of hm with ⟨rfl, rfl⟩ | ⟨hne, hm2⟩
  · have hy' : L[T.no - 1]? = some y := hy
    obtain ⟨h1, h2, h3⟩ := h T (List.mem_of_getElem? hj) y hy'
    refine ⟨h1, fun e => ?_, fun _ => ⟨fun f hf => ?_, fun f hf => by omega⟩⟩
    · have e' : T.no ≤ i := e
      omega
    · have e0 : y = o := by
        rw [hn] at hy'
        simp at hy'
        rw [ho] at hy'
        simpa using hy'.symm
      subst e0
      show (T.ps.set k (plc L z))[f]? = _
      rw [List.getElem?_set]
      by_cases e : k = f
      · subst e
        rw [if_pos rfl, if_pos hl, List.getElem?_map, hz]
        rfl
      · rw [if_neg e]
        exact (h3 hn).1 f (by omega)
  · obtain ⟨h1, h2, h3⟩ := h V (List.mem_of_getElem? hm2) y hy
    refine ⟨h1, h2, fun e => ?_⟩
    have hV2 := List.mem_of_getElem? hm2
    have := S.uniq hV2 (List.mem_of_getElem? hj) (by omega)
    subst this
    exfalso
    have hp := List.pairwise_iff_getElem.1 S.ord
    obtain ⟨i1, i2⟩ := List.getElem?_eq_some_iff.1 hm2
    obtain ⟨j1, j2⟩ := List.getElem?_eq_some_iff.1 hj
    rcases Nat.lt_or_gt_of_ne hne with g | g
    · have := hp m j i1 j1 g
      rw [i2, j2] at this
      omega
    · have := hp j m j1 i1 g
      rw [i2, j2] at this
      omega

/-- A raw field is written. -/
theorem Fl.raw {L : List LT} {th : List Tng} (S : Sk L th) {i kp k : Nat} (h : ∀ T, T ∈ th → Fl L i kp k T) (j : Nat) (T : Tng) (hj : th[j]? = some T) (hn : T.no = i + 1) (o : LT) (ho : L[i]? = some o) (z : Int) (hz : o.rs[k]? = some z) (hl : k < T.rs.length) : ∀ V, V ∈ th.set j { T with rs := T.rs.set k z } → Fl L i kp (k + 1) V := fun V hV y hy => by
  obtain ⟨m, hm⟩ := List.getElem?_of_mem hV
  rcases set_at_of hm with ⟨rfl, rfl⟩ | ⟨hne, hm2⟩
  · have hy' : L[T.no - 1]? = some y := hy
    obtain ⟨h1, h2, h3⟩ := h T (List.mem_of_getElem? hj) y hy'
    refine ⟨h1, fun e => ?_, fun _ => ⟨fun f hf => ?_, fun f hf => ?_⟩⟩
    · have e' : T.no ≤ i := e
      omega
    · exact (h3 hn).1 f hf
    · have e0 : y = o := by
        rw [hn] at hy'
        simp at hy'
        rw [ho] at hy'
        simpa using hy'.symm
      subst e0
      show (T.rs.set k z)[f]? = _
      rw [List.getElem?_set]
      by_cases e : k = f
      · subst e
        rw [if_pos rfl, if_pos hl, hz]
      · rw [if_neg e]
        exact (h3 hn).2 f (by omega)
  · obtain ⟨h1, h2, h3⟩ := h V (List.mem_of_getElem? hm2) y hy
    refine ⟨h1, h2, fun e => ?_⟩
    have hV2 := List.mem_of_getElem? hm2
    have := S.uniq hV2 (List.mem_of_getElem? hj) (by omega)
    subst this
    exfalso
    have hp := List.pairwise_iff_getElem.1 S.ord
    obtain ⟨i1, i2⟩ := List.getElem?_eq_some_iff.1 hm2
    obtain ⟨j1, j2⟩ := List.getElem?_eq_some_iff.1 hj
    rcases Nat.lt_or_gt_of_ne hne with g | g
    · have := hp m j i1 j1 g
      rw [i2, j2] at this
      omega
    · have := hp j m j1 i1 g
      rw [i2, j2] at this
      omega

theorem Mt.ptr {T : Tng} {o : LT} (h : Mt T o) (f : Nat) (z : Int) : Mt { T with ps := T.ps.set f z } o := ⟨h.at_, h.sp, h.s, h.k, h.p, h.r, h.a, h.t, by simpa using h.pl, h.rl⟩
theorem Mt.raw {T : Tng} {o : LT} (h : Mt T o) (f : Nat) (z : Int) : Mt { T with rs := T.rs.set f z } o := ⟨h.at_, h.sp, h.s, h.k, h.p, h.r, h.a, h.t, h.pl, by simpa using h.rl⟩
theorem Mt.held {T : Tng} {o : LT} (h : Mt T o) (b : Bool) : Mt { T with h := b } o := ⟨h.at_, h.sp, h.s, h.k, h.p, h.r, h.a, h.t, h.pl, h.rl⟩

/-- Where a number's object is: within the array. -/
theorem plc_in {L : List LT} {th : List Tng} (S : Sk L th) {w : World} {b g : Nat} {c : Cfg} {x : Tps} {sw : Bool} {ws : Nat → Int} (H : Ax w b g c x sw ws th) (z : Int) : 0 ≤ plc L z ∧ plc L z < c.words := by
  cases e : thr L z
  · rw [plc_none e]
    have := H.ar.words
    omega
  · obtain ⟨o, ho⟩ := thr_iff.1 e
    obtain ⟨i, T, hi, -, hm⟩ := S.find ho
    have := H.pos (List.mem_of_getElem? hi)
    rw [plc_some ho, ← hm.at_]
    omega

/-- A thing in a block of its own. -/
structure Lc (w : World) (R : Nat) (T : LT) : Prop where
  at_ : w.heap[R]? = some (.cells T.cells 63 (0, 0))
theorem Lc.new (w : World) (T : LT) : Lc (w.alloc (.cells T.cells 63)) w.heap.size T := ⟨heap_alloc_new w _⟩
theorem Lc.lt {w : World} {R : Nat} {T : LT} (h : Lc w R T) : R < w.heap.size := (Array.getElem?_eq_some_iff.1 h.at_).1
theorem Lc.below {w w' : World} {R : Nat} {T : LT} (h : Lc w R T) (l : Below w.heap.size w w') : Lc w' R T := ⟨(l.block R h.lt).trans h.at_⟩
theorem Lc.cell {w : World} {R : Nat} {T : LT} (h : Lc w R T) (j : Nat) : w.cell? ⟨R, j, none⟩ = T.cells[j]? := cell_of_row _ _ j _ _ _ h.at_
theorem Lc.touch {w w' : World} {R : Nat} {T : LT} (h : Lc w R T) {b g : Nat} {c : Cfg} {x : Tps} {sw : Bool} {ws : Nat → Int} (hA : Ar w b g c x sw ws) (t : Touch [b, g] w w') : Lc w' R T := ⟨(t.block R h.lt (by
  obtain ⟨⟨gs, hgs⟩, bs, hbs⟩ := hA.rowTy
  simp only [List.mem_cons, List.not_mem_nil, or_false, not_or]
  exact ⟨heap_ty_ne h.at_ hbs (by decide), heap_ty_ne h.at_ hgs (by decide)⟩)).trans h.at_⟩

theorem place_any {n1 : Nat} {w : World} {lb : Nat} {c : Cfg} {L : List LT} (h : Ly n1 w lb c L) (hn1 : n1 ≤ w.heap.size) (hlen : L.length ≤ 400) (z : Int) (hz : InI z) :
    Calls Tryz.prog 26 #[.pointer (some ⟨lb, 0, none⟩), .int .i64 z] w fun e w' => e = .returned (.int .i64 (plc L z)) ∧ Below w.heap.size w w' := by
  have hth := there_any h hlen z hz
  cases e : thr L z
  · rw [plc_none e]
    rw [e] at hth
    clear h e
    go_enter Tryz.func26, Tryz.ntmps26
    go_wp2_with fail
    refine hth.mono ?_
    rintro e w1 ⟨rfl, l1⟩
    go_wp2
    go_ret
    exact ⟨rfl, l1⟩
  · rw [e] at hth
    obtain ⟨T, hT⟩ := thr_iff.1 e
    rw [plc_some hT]
    obtain ⟨h1, h2, h3, h4⟩ := ob_some.1 hT
    obtain ⟨i, rfl⟩ : ∃ i : Nat, z = (i : Int) + 1 := ⟨(z - 1).toNat, by omega⟩
    have ei : ((i : Int) + 1 - 1).toNat = i := by omega
    rw [ei] at h2
    have hi := (List.getElem?_eq_some_iff.1 h2).1
    have HL : Hid (Ly n1 w lb c L) := h
    clear h e hT
    go_enter Tryz.func26, Tryz.ntmps26
    go_wp2_with fail
    refine hth.mono ?_
    rintro e w1 ⟨rfl, l1⟩
    obtain ⟨q, off, cap2, q', off', cap2', l14, l15, hc, ka, -, -, hcp⟩ := (HL.out.below (l1.mono hn1)).thing h2
    clear hth hc l14
    generalize L.length = N at *
    go_wp2
    go_ret
    exact ⟨rfl, l1⟩

end Go.Proofs.YtbgnagjhkfkekaaGreatDoor

