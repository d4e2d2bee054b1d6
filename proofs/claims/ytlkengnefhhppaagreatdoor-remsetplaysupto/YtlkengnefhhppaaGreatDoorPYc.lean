import Derived.Test.YtlkengnefhhppaaGreatDoorPYa
import Derived.Test.YtlkengnefhhppaaGreatDoorPBb
set_option linter.unusedVariables false
set_option maxHeartbeats 8000000
set_option maxRecDepth 20000
namespace Go.Proofs.YtlkengnefhhppaaGreatDoor
open Go.RowKit Go.Shelf
theorem ar_of (w : World) (c : Cfg) (x : Tps) (sw : Bool) (ws : Nat → Int) (ok : c.Ok) (wd : ∀ j, Wd (ws j)) (tk : Tok c x) : ∃ w b g, Ar w b g c x sw ws := by
 have h1 := World.rowIs_alloc w (Array.ofFn (n := c.words.toNat) fun i => .int .u64 (ws i)) 36 (fun j => .int .u64 (ws j)) (by
  intro i hi
  rw [Array.size_ofFn] at hi
  simp [hi])
 rw [Array.size_ofFn] at h1
 have h2 := World.rowIs_alloc (w.alloc (.cells (Array.ofFn (n := c.words.toNat) fun i => .int .u64 (ws i)) 36)) (Array.ofFn (n := 28) fun i => af c w.heap.size c.words.toNat x sw i) 129 (af c w.heap.size c.words.toNat x sw) (by
  intro i hi
  rw [Array.size_ofFn] at hi
  simp [hi])
 rw [Array.size_ofFn] at h2
 exact ⟨_, _, _, h2, h1.alloc _, ok, wd, tk.t10, tk.t11, tk.t20, tk.t21, tk.t30, tk.t31, tk.t40, tk.t41⟩
structure Hp (c : Cfg) (x : Tps) (ws : Nat → Int) (th : List Tng) : Prop where
 ok : c.Ok
 tk : Tok c x
 wd : ∀ j, Wd (ws j)
 hl : Hld c x ws th
section
variable {c : Cfg} {x : Tps} {ws : Nat → Int} {th : List Tng}
theorem Ax.hp {w : World} {b g : Nat} {sw : Bool} (H : Ax w b g c x sw ws th) : Hp c x ws th :=
 ⟨H.ar.ok, ⟨H.ar.t10, H.ar.t11, H.ar.t20, H.ar.t21, H.ar.t30, H.ar.t31, H.ar.t40, H.ar.t41⟩, H.ar.wd, H.hl⟩
theorem Hp.ar (H : Hp c x ws th) (w : World) : ∃ w b g, Ar w b g c x false ws := ar_of w c x false ws H.ok H.wd H.tk
theorem wd_upd {ws : Nat → Int} {i : Nat} {v : Int} (h : ∀ j, Wd (ws j)) (hv : Wd v) : ∀ j, Wd (upd ws i v j) := fun j => by
 unfold upd
 split
 ·exact hv
 ·exact h j
theorem wd_zer {ws : Nat → Int} {o n : Nat} (h : ∀ j, Wd (ws j)) : ∀ j, Wd (zer ws o n j) := fun j => by
 unfold zer
 split
 ·exact ⟨by decide, by decide⟩
 ·exact h j
theorem Hp.pos (H : Hp c x ws th) (w : World) {T : Tng} (hT : T ∈ th) : 1 ≤ T.at_ ∧ T.at_ + 2 + T.p + T.r ≤ c.words ∧ 0 ≤ T.p ∧ 0 ≤ T.r ∧ T.p ≤ 4095 ∧ T.r ≤ 65535 ∧ c.words ≤ 262145 ∧ At c x ws T.at_ ∧ ptOf (wat c ws T.at_) = T.p ∧ rwOf (wat c ws T.at_) = T.r ∧ Wd (wat c ws T.at_) := by
 obtain ⟨w, b, g, hA⟩ := H.ar w
 obtain ⟨s, s1, s4, -, hsp, hlt, hst, hge, -⟩ := H.hl.stands hA hT
 have h1 := H.hl.osz hT
 have h2 := hst.2
 have h3 := hA.sub_in s
 have h4 := H.hl.psn T hT
 have h5 := H.hl.rsn T hT
 have h6 := spc_pos hA.ok (a := T.at_) (by rw [hsp]; omega)
 have h7 := pt_in (wat c ws T.at_)
 have h8 := rw_in (wat c ws T.at_)
 obtain ⟨-, -, h9, h10, -⟩ := H.hl.hds T hT
 have h11 := hA.words
 have hw : Wd (wat c ws T.at_) := by
  unfold wat
  split
  ·exact H.wd _
  ·exact ⟨by decide, by decide⟩
 refine ⟨by omega, by omega, by omega, by omega, by rw [h9] at h7; omega, by rw [h10] at h8; omega, by omega, ⟨by rw [hsp]; omega, by rw [hsp]; exact hlt, by rw [hsp]; exact hst⟩, h9, h10, hw⟩
theorem Hp.ptr (H : Hp c x ws th) (w : World) (i : Nat) (T : Tng) (hTi : th[i]? = some T) (f : Nat) (z : Int) (hf : f < T.ps.length) (z0 : 0 ≤ z) (z1 : z < c.words) : Hp c x (upd ws (T.at_.toNat + 2 + f) z) (th.set i { T with ps := T.ps.set f z }) := by
 obtain ⟨w, b, g, hA⟩ := H.ar w
 have hm := List.mem_of_getElem? hTi
 obtain ⟨s0, s1, s4, -, hsp, hlt, hst, hge, -⟩ := H.hl.stands hA hm
 obtain ⟨p1, p2, p3, p4, p5, p6, p7, -⟩ := H.pos w hm
 obtain ⟨hd1, hd2, hd3, hd4, hd5, hd6, hd7⟩ := H.hl.hds T hm
 have hrn := H.hl.rsn T hm
 have hpn := H.hl.psn T hm
 refine ⟨H.ok, H.tk, wd_upd H.wd ⟨z0, by omega⟩, ?_⟩
 obtain ⟨idx, hidx⟩ : ∃ idx, idx = T.at_.toNat + 2 + f := ⟨_, rfl⟩
 have hidI : (idx : Int) = T.at_ + 2 + f := by rw [hidx]; omega
 rw [← hidx]
 have hwu : ∀ y, wat c (upd ws idx z) y = if y = idx then z else wat c ws y := fun y => wat_upd c ws idx z y (by omega)
 refine H.hl.write hA i T _ hTi (fun y hy => ?_) rfl rfl rfl rfl ?_ ?_ (by simp) rfl (fun f' z' hz => ?_) (fun f' z' hz => ?_)
 ·rw [hwu, if_neg (by omega)]
 ·rw [hwu, if_neg (by omega)]; exact hst.1
 ·show wat c (upd ws idx z) (T.at_ + 1) = T.s ∧ kdOf (wat c (upd ws idx z) T.at_) = T.k ∧ ptOf (wat c (upd ws idx z) T.at_) = T.p ∧ rwOf (wat c (upd ws idx z) T.at_) = T.r ∧ agOf (wat c (upd ws idx z) T.at_) = T.a ∧ stOf (wat c (upd ws idx z) T.at_) = T.t ∧ hdOf (wat c (upd ws idx z) T.at_) = T.h
  rw [hwu, hwu, if_neg (by omega), if_neg (by omega)]
  exact ⟨hd1, hd2, hd3, hd4, hd5, hd6, hd7⟩
 ·show wat c (upd ws idx z) (T.at_ + 2 + f') = z' ∧ z' < c.words
  rw [hwu]
  rcases set_at_of hz with ⟨rfl, rfl⟩ | ⟨hn, hz'⟩
  ·rw [if_pos (by omega)]
   exact ⟨rfl, z1⟩
  ·rw [if_neg (by omega)]
   exact H.hl.psv T hm f' z' hz'
 ·have hz' : T.rs[f']? = some z' := hz
  have hf := (List.getElem?_eq_some_iff.1 hz').1
  show wat c (upd ws idx z) (T.at_ + 2 + T.p + f') = z'
  rw [hwu, if_neg (by omega)]
  exact H.hl.rsv T hm f' z' hz'
theorem Hp.raw (H : Hp c x ws th) (w : World) (i : Nat) (T : Tng) (hTi : th[i]? = some T) (f : Nat) (z : Int) (hf : f < T.rs.length) (hW : Wd z) : Hp c x (upd ws (T.at_.toNat + (2 + T.p.toNat) + f) z) (th.set i { T with rs := T.rs.set f z }) := by
 obtain ⟨w, b, g, hA⟩ := H.ar w
 have hm := List.mem_of_getElem? hTi
 obtain ⟨s0, s1, s4, -, hsp, hlt, hst, hge, -⟩ := H.hl.stands hA hm
 obtain ⟨p1, p2, p3, p4, p5, p6, p7, -⟩ := H.pos w hm
 obtain ⟨hd1, hd2, hd3, hd4, hd5, hd6, hd7⟩ := H.hl.hds T hm
 have hrn := H.hl.rsn T hm
 have hpn := H.hl.psn T hm
 refine ⟨H.ok, H.tk, wd_upd H.wd hW, ?_⟩
 obtain ⟨idx, hidx⟩ : ∃ idx, idx = T.at_.toNat + (2 + T.p.toNat) + f := ⟨_, rfl⟩
 have hidI : (idx : Int) = T.at_ + 2 + T.p + f := by rw [hidx]; omega
 rw [← hidx]
 have hwu : ∀ y, wat c (upd ws idx z) y = if y = idx then z else wat c ws y := fun y => wat_upd c ws idx z y (by omega)
 refine H.hl.write hA i T _ hTi (fun y hy => ?_) rfl rfl rfl rfl ?_ ?_ rfl (by simp) (fun f' z' hz => ?_) (fun f' z' hz => ?_)
 ·rw [hwu, if_neg (by omega)]
 ·rw [hwu, if_neg (by omega)]; exact hst.1
 ·show wat c (upd ws idx z) (T.at_ + 1) = T.s ∧ kdOf (wat c (upd ws idx z) T.at_) = T.k ∧ ptOf (wat c (upd ws idx z) T.at_) = T.p ∧ rwOf (wat c (upd ws idx z) T.at_) = T.r ∧ agOf (wat c (upd ws idx z) T.at_) = T.a ∧ stOf (wat c (upd ws idx z) T.at_) = T.t ∧ hdOf (wat c (upd ws idx z) T.at_) = T.h
  rw [hwu, hwu, if_neg (by omega), if_neg (by omega)]
  exact ⟨hd1, hd2, hd3, hd4, hd5, hd6, hd7⟩
 ·have hz' : T.ps[f']? = some z' := hz
  have hf := (List.getElem?_eq_some_iff.1 hz').1
  show wat c (upd ws idx z) (T.at_ + 2 + f') = z' ∧ z' < c.words
  rw [hwu, if_neg (by omega)]
  exact H.hl.psv T hm f' z' hz'
 ·show wat c (upd ws idx z) (T.at_ + 2 + T.p + f') = z'
  rw [hwu]
  rcases set_at_of hz with ⟨rfl, rfl⟩ | ⟨hn, hz'⟩
  ·rw [if_pos (by omega)]
  ·rw [if_neg (by omega)]
   exact H.hl.rsv T hm f' z' hz'
theorem Hp.may (H : Hp c x ws th) (w : World) {T : Tng} (hT : T ∈ th) : flt T.k T.p T.r T.a T.t = 0 ∧ Wd T.s := by
 obtain ⟨w, b, g, hA⟩ := H.ar w
 obtain ⟨s0, s1, s4, -, hsp, hlt, hst, hge, -⟩ := H.hl.stands hA hT
 obtain ⟨hd1, hd2, hd3, hd4, hd5, hd6, hd7⟩ := H.hl.hds T hT
 have h1 := hst.1.2.2
 rw [hd2, hd3, hd4, hd5, hd6] at h1
 refine ⟨h1, ?_⟩
 rw [← hd1]
 unfold wat
 split
 ·exact H.wd _
 ·exact ⟨by decide, by decide⟩
theorem Hp.head (H : Hp c x ws th) (w : World) (i : Nat) (T : Tng) (hTi : th[i]? = some T) (h : Bool) : Hp c x (upd (upd ws T.at_.toNat (wrd T.k T.p T.r T.a T.t h)) (T.at_.toNat + 1) T.s) (th.set i { T with h := h }) := by
 obtain ⟨w, b, g, hA⟩ := H.ar w
 have hm := List.mem_of_getElem? hTi
 obtain ⟨s0, s1, s4, -, hsp, hlt, hst, hge, -⟩ := H.hl.stands hA hm
 obtain ⟨p1, p2, p3, p4, p5, p6, p7, -⟩ := H.pos w hm
 obtain ⟨hd1, hd2, hd3, hd4, hd5, hd6, hd7⟩ := H.hl.hds T hm
 have hrn := H.hl.rsn T hm
 have hpn := H.hl.psn T hm
 obtain ⟨hfl, hsd⟩ := H.may w hm
 obtain ⟨q, hq⟩ : ∃ q : Nat, T.at_ = q := ⟨T.at_.toNat, by omega⟩
 have may := May.of hfl
 obtain ⟨e1, e2, e3, e4, e5, e6, -, -⟩ := parts_wrd (h := h) may
 have hhd := head_wrd (h := h) may
 have hqt : T.at_.toNat = q := by omega
 rw [hqt]
 refine ⟨H.ok, H.tk, wd_upd (wd_upd H.wd (wrd_wd may)) hsd, ?_⟩
 have hwu : ∀ y, wat c (upd (upd ws q (wrd T.k T.p T.r T.a T.t h)) (q + 1) T.s) y = if y = (q : Int) + 1 then T.s else if y = q then wrd T.k T.p T.r T.a T.t h else wat c ws y := fun y => by
  rw [wat_upd c _ (q + 1) T.s y (by omega), wat_upd c ws q _ y (by omega)]
  push_cast
  rfl
 refine H.hl.write hA i T _ hTi (fun y hy => ?_) rfl rfl rfl rfl ?_ ?_ rfl rfl (fun f' z' hz => ?_) (fun f' z' hz => ?_)
 ·rw [hwu, if_neg (by omega), if_neg (by omega)]
 ·rw [hwu, if_neg (by omega), if_pos (by omega)]; exact hhd
 ·show wat c (upd (upd ws q (wrd T.k T.p T.r T.a T.t h)) (q + 1) T.s) (T.at_ + 1) = T.s ∧ kdOf (wat c (upd (upd ws q (wrd T.k T.p T.r T.a T.t h)) (q + 1) T.s) T.at_) = T.k ∧ ptOf (wat c (upd (upd ws q (wrd T.k T.p T.r T.a T.t h)) (q + 1) T.s) T.at_) = T.p ∧ rwOf (wat c (upd (upd ws q (wrd T.k T.p T.r T.a T.t h)) (q + 1) T.s) T.at_) = T.r ∧ agOf (wat c (upd (upd ws q (wrd T.k T.p T.r T.a T.t h)) (q + 1) T.s) T.at_) = T.a ∧ stOf (wat c (upd (upd ws q (wrd T.k T.p T.r T.a T.t h)) (q + 1) T.s) T.at_) = T.t ∧ hdOf (wat c (upd (upd ws q (wrd T.k T.p T.r T.a T.t h)) (q + 1) T.s) T.at_) = h
  rw [hwu, hwu, if_pos (by omega), if_neg (by omega), if_pos (by omega)]
  exact ⟨rfl, e1, e2, e3, e4, e5, e6⟩
 ·have hz' : T.ps[f']? = some z' := hz
  have hf := (List.getElem?_eq_some_iff.1 hz').1
  show wat c (upd (upd ws q (wrd T.k T.p T.r T.a T.t h)) (q + 1) T.s) (T.at_ + 2 + f') = z' ∧ z' < c.words
  rw [hwu, if_neg (by omega), if_neg (by omega)]
  exact H.hl.psv T hm f' z' hz'
 ·have hz' : T.rs[f']? = some z' := hz
  have hf := (List.getElem?_eq_some_iff.1 hz').1
  show wat c (upd (upd ws q (wrd T.k T.p T.r T.a T.t h)) (q + 1) T.s) (T.at_ + 2 + T.p + f') = z'
  rw [hwu, if_neg (by omega), if_neg (by omega)]
  exact H.hl.rsv T hm f' z' hz'
theorem tok_put {c : Cfg} {x : Tps} {s : Nat} {v : Int} (tk : Tok c x) (s1 : 1 ≤ s) (s4 : s ≤ 4) (v0 : fst c s ≤ v) (v1 : v ≤ bhd c s) : Tok c (x.put s v) := by
 obtain ⟨h1, h2, h3, h4, h5, h6, h7, h8⟩ := tk
 obtain rfl | rfl | rfl | rfl : s = 1 ∨ s = 2 ∨ s = 3 ∨ s = 4 := by omega
 all_goals
  simp [fst] at v0
  simp [bhd] at v1
  constructor <;> simp [Tps.put] <;> omega
theorem Hp.put (H : Hp c x ws th) (w : World) (S s k p r a t : Int) (h : Bool) (no : Nat) (hS : 1 ≤ S ∧ S ≤ 4) (hs : Wd s) (hf : flt k p r a t = 0) (hn : x.top S + (2 + p + r) ≤ bhd c S) : Hp c (x.put S (x.top S + (2 + p + r))) (putw ws (x.top S).toNat (2 + p + r).toNat (wrd k p r a t h) s) (th ++ [⟨x.top S, S, s, k, p, r, a, t, h, no, List.replicate p.toNat 0, List.replicate r.toNat 0⟩]) := by
 obtain ⟨w, b, g, hA⟩ := H.ar w
 have may := May.of hf
 have hp0 : 0 ≤ p ∧ 0 ≤ r ∧ p ≤ 4095 ∧ r ≤ 65535 := by obtain ⟨h1, h2, h3, h4, h5, h6, h7, h8, h9, h10, h11, h12⟩ := may; omega
 obtain ⟨s0, rfl⟩ : ∃ s0 : Nat, S = s0 := ⟨S.toNat, by omega⟩
 have hsub := hA.sub_in s0
 have hw := hA.words
 obtain ⟨q, hq⟩ : ∃ q : Nat, x.top s0 = q := ⟨(x.top s0).toNat, by omega⟩
 obtain ⟨n, hn2⟩ : ∃ n : Nat, (n : Int) = 2 + p + r := ⟨(2 + p + r).toNat, by omega⟩
 obtain ⟨e1, e2, e3, e4, e5, e6, -, -⟩ := parts_wrd (h := h) may
 have hhd := head_wrd (h := h) may
 have hwp : ∀ y, wat c (putw ws q n (wrd k p r a t h) s) y = if y = (q : Int) + 1 then s else if y = q then wrd k p r a t h else if (q : Int) ≤ y ∧ y < q + n then 0 else wat c ws y := fun y => by
  unfold putw
  rw [wat_upd c _ (q + 1) s y (by omega), wat_upd c _ q _ y (by omega), wat_zer]
  push_cast
  rfl
 have hpt : ((p.toNat : Nat) : Int) = p := by omega
 have hrt : ((r.toNat : Nat) : Int) = r := by omega
 have hput := H.hl.put (ws' := putw ws q n (wrd k p r a t h) s) hA s0 (by omega) (by omega) ⟨q, s0, s, k, p, r, a, t, h, no, List.replicate p.toNat 0, List.replicate r.toNat 0⟩ hq.symm rfl hp0.1 hp0.2.1 (by show x.top s0 + (2 + p + r) ≤ _; omega) (fun y hy => by
   have hy' : y < x.top s0 ∨ x.top s0 + (2 + p + r) ≤ y := hy
   rw [hwp, if_neg (by omega), if_neg (by omega), if_neg (by omega)]) (by rw [hwp, if_neg (by omega), if_pos hq]; exact hhd) (by
   show wat c _ ((q : Int) + 1) = s ∧ kdOf (wat c _ (q : Int)) = k ∧ ptOf (wat c _ (q : Int)) = p ∧ rwOf (wat c _ (q : Int)) = r ∧ agOf (wat c _ (q : Int)) = a ∧ stOf (wat c _ (q : Int)) = t ∧ hdOf (wat c _ (q : Int)) = h
   rw [hwp, hwp, if_pos rfl, if_neg (by omega), if_pos rfl]
   exact ⟨rfl, e1, e2, e3, e4, e5, e6⟩) (by simp [hpt]) (by simp [hrt]) (fun f z hz => by
   have hz' : (List.replicate p.toNat (0 : Int))[f]? = some z := hz
   have hfl0 := (List.getElem?_eq_some_iff.1 hz').1
   rw [List.length_replicate] at hfl0
   have hz0 : z = 0 := by rw [List.getElem?_replicate, if_pos hfl0] at hz'; simpa using hz'.symm
   have hfl : (f : Int) < p := by omega
   show wat c _ ((q : Int) + 2 + f) = z ∧ z < c.words
   rw [hwp, if_neg (by omega), if_neg (by omega), if_pos (by omega), hz0]
   exact ⟨rfl, by omega⟩) (fun f z hz => by
   have hz' : (List.replicate r.toNat (0 : Int))[f]? = some z := hz
   have hfl0 := (List.getElem?_eq_some_iff.1 hz').1
   rw [List.length_replicate] at hfl0
   have hz0 : z = 0 := by rw [List.getElem?_replicate, if_pos hfl0] at hz'; simpa using hz'.symm
   have hfl : (f : Int) < r := by omega
   show wat c _ ((q : Int) + 2 + p + f) = z
   rw [hwp, if_neg (by omega), if_neg (by omega), if_pos (by omega), hz0])
 have hput' : Hld c (x.put s0 (x.top s0 + (2 + p + r))) (putw ws q n (wrd k p r a t h) s) (th ++ [⟨q, s0, s, k, p, r, a, t, h, no, List.replicate p.toNat 0, List.replicate r.toNat 0⟩]) := hput
 have htk : Tok c (x.put s0 (x.top s0 + (2 + p + r))) := tok_put H.tk (by omega) (by omega) (by omega) (by omega)
 have e7 : (2 + p + r).toNat = n := by omega
 rw [e7]
 rw [hq] at hput' htk ⊢
 refine ⟨H.ok, htk, ?_, hput'⟩
 unfold putw
 exact wd_upd (wd_upd (wd_zer H.wd) (wrd_wd may)) hs
theorem Hp.fill (H : Hp c x ws th) (w : World) (S n : Int) (hS : 1 ≤ S ∧ S ≤ 4) (h0 : 0 < n) (hn : x.top S + n ≤ bhd c S) : Hp c (x.put S (x.top S + n)) (upd (zer ws (x.top S).toNat n.toNat) (x.top S).toNat (n * 4 + 3)) th := by
 obtain ⟨w, b, g, hA⟩ := H.ar w
 obtain ⟨s0, rfl⟩ : ∃ s0 : Nat, S = s0 := ⟨S.toNat, by omega⟩
 obtain ⟨n, rfl⟩ : ∃ n0 : Nat, n = n0 := ⟨n.toNat, by omega⟩
 have hsub := hA.sub_in s0
 have hw := hA.words
 obtain ⟨q, hq⟩ : ∃ q : Nat, x.top s0 = q := ⟨(x.top s0).toNat, by omega⟩
 have hwp : ∀ y, wat c (upd (zer ws q n) q ((n : Int) * 4 + 3)) y = if y = q then (n : Int) * 4 + 3 else if (q : Int) ≤ y ∧ y < q + n then 0 else wat c ws y := fun y => by
  rw [wat_upd c _ q _ y (by omega), wat_zer]
 have := H.hl.fill (ws' := upd (zer ws q n) q ((n : Int) * 4 + 3)) hA s0 (by omega) (by omega) n (by omega) (by omega) (fun y hy => by rw [hwp, if_neg (by omega), if_neg (by omega)]) (by rw [hq, hwp, if_pos rfl]; unfold IsTag; omega) (by rw [hq, hwp, if_pos rfl]; omega)
 have htk : Tok c (x.put s0 (x.top s0 + n)) := tok_put H.tk (by omega) (by omega) (by omega) (by omega)
 rw [hq] at this htk ⊢
 exact ⟨H.ok, htk, wd_upd (wd_zer H.wd) ⟨by omega, by omega⟩, this⟩
theorem Hp.nil {c : Cfg} (ok : c.Ok) : Hp c (tops0 c) (fun _ => 0) [] := by
 have e0 := ok.e0; have s0 := ok.s0; have t0 := ok.t0
 exact ⟨ok, ⟨Int.le_refl _, by simp only [tops0]; omega, Int.le_refl _, by simp only [tops0]; omega, Int.le_refl _, by simp only [tops0]; omega, Int.le_refl _, by simp only [tops0]; omega⟩, fun _ => ⟨by decide, by decide⟩, Hld.nil (fun s => by unfold tops0 Tps.top fst; rfl)⟩
end
section
variable (b : Nat) (g : Nat → Nat) (c : Cfg) (x : Tps) (sw : Bool) (ws : Nat → Int)
theorem rsetPtr_no (a i v : Int) (hno : ¬ (At c x ws a ∧ (0 ≤ i ∧ i < ptOf (wat c ws a)) ∧ (0 ≤ v ∧ v < c.words))) (hw : Wd (wat c ws a)) (w : World) (hA : Ra w b g c x sw ws) :
  Calls Tryz.prog 29 #[.pointer (some ⟨b, 0, none⟩), .int .i64 a, .int .i64 i, .int .i64 v] w fun e w' => e = .returned (.bool false) ∧ Below w.heap.size w w' := by
 by_cases hat : At c x ws a
 ·have hh := rhead_at b g c x sw ws a hat hw w hA
  have hno' : ¬ ((0 ≤ i ∧ i < ptOf (wat c ws a)) ∧ (0 ≤ v ∧ v < c.words)) := fun h => hno ⟨hat, h⟩
  have HZ : Hid (∀ w1, Below w.heap.size w w1 → Calls Tryz.prog 36 #[.pointer (some ⟨b, 0, none⟩)] w1 fun e w' => e = .returned (.int .i64 c.words) ∧ w' = w1) := fun w1 l => rsize_any b g c x sw ws w1 (hA.below l)
  unfold hdv at hh
  clear hA hno hat hw
  generalize c.words = cw at *
  generalize wat c ws (a + 1) = m1 at *
  generalize kdOf (wat c ws a) = K at *
  generalize ptOf (wat c ws a) = P at *
  generalize rwOf (wat c ws a) = R at *
  generalize agOf (wat c ws a) = A at *
  generalize stOf (wat c ws a) = U at *
  generalize hdOf (wat c ws a) = H at *
  go_enter Tryz.func29, Tryz.ntmps29
  go_wp2_with fail
  refine hh.mono ?_
  rintro e w1 ⟨rfl, l1⟩
  clear hh
  go_upto_region 2 with fail
  have hY := Box.new w1 38 (.int .u64 m1) (.int .i64 K) (.int .i64 P) (.int .i64 R) (.int .i64 A) (.int .i64 U) (.bool H)
  have l2 := Below.alloc l1 l1.size (.cells (hcells m1 K P R A U H) 38)
  generalize (w1.alloc (.cells (hcells m1 K P R A U H) 38)) = w2 at *
  obtain ⟨y0, y1, y2, y3, y4, y5, y6, -, -, -, -, -, -, -⟩ := hY
  clear l1
  by_cases hi : i < 0
  ·clear hno' HZ
   go_wp2
   go_ret
   exact ⟨rfl, l2⟩
  ·have hi' : decide (i < 0) = false := decide_eq_false hi
   by_cases hP : P ≤ i
   ·clear hno' HZ
    go_wp2
    go_ret
    exact ⟨rfl, l2⟩
   ·have hP' : decide (P ≤ i) = false := decide_eq_false hP
    by_cases hv0 : v < 0
    ·clear hno' HZ
     go_wp2
     go_ret
     exact ⟨rfl, l2⟩
    ·have hv0' : decide (v < 0) = false := decide_eq_false hv0
     have hv1 : cw ≤ v := by omega
     clear hno'
     go_wp2_with fail
     refine (HZ.out w2 l2).mono ?_
     rintro e w3 ⟨rfl, rfl⟩
     clear HZ
     go_wp2
     go_ret
     exact ⟨rfl, l2⟩
 ·have hh := rhead_nat b g c x sw ws a hat hw w hA
  clear hA hno hat hw
  go_enter Tryz.func29, Tryz.ntmps29
  go_wp2_with fail
  refine hh.mono ?_
  rintro e w1 ⟨rfl, l1⟩
  clear hh
  have l2 : Hid (Below w.heap.size w (w1.alloc (.cells (hcells 0 0 0 0 0 0 false) 38))) := Below.alloc l1 l1.size _
  clear l1
  go_upto_region 2 with fail
  generalize (w1.alloc (.cells (hcells 0 0 0 0 0 0 false) 38)) = w2 at *
  go_wp2
  go_ret
  exact ⟨rfl, l2.out⟩
theorem rsetPtr_yes (a i v : Int) (hat : At c x ws a) (hi0 : 0 ≤ i) (hi1 : i < ptOf (wat c ws a)) (hv0 : 0 ≤ v) (hv1 : v < c.words) (hw : Wd (wat c ws a)) (w : World) (hA : Ra w b g c x sw ws) :
  Calls Tryz.prog 29 #[.pointer (some ⟨b, 0, none⟩), .int .i64 a, .int .i64 i, .int .i64 v] w fun e w' => e = .returned (.bool true) ∧ Ra w' b g c x sw (upd ws (a + 2 + i).toNat v) ∧ Touch (rft b g) w w' := by
 have hh := rhead_at b g c x sw ws a hat hw w hA
 have hin := at_in hA hat
 have hpt := pt_in (wat c ws a)
 have hrw := rw_in (wat c ws a)
 have HW : Hid (∀ w1, Below w.heap.size w w1 → Calls Tryz.prog 76 #[.pointer (some ⟨b, 0, none⟩), .int .i64 (a + 2 + i), .int .u64 v] w1 fun e w' => e = .returned (.bool true) ∧ Ra w' b g c x sw (upd ws (a + 2 + i).toNat v) ∧ Touch (rft b g) w1 w') := fun w1 l => rsetWord_int b g c x sw ws _ v (by omega) (by omega) w1 (hA.below l)
 have HZ : Hid (∀ w1, Below w.heap.size w w1 → Calls Tryz.prog 36 #[.pointer (some ⟨b, 0, none⟩)] w1 fun e w' => e = .returned (.int .i64 c.words) ∧ w' = w1) := fun w1 l => rsize_any b g c x sw ws w1 (hA.below l)
 unfold hdv at hh
 clear hA hat hw
 obtain ⟨ws', hws⟩ : ∃ ws', ws' = upd ws (a + 2 + i).toNat v := ⟨_, rfl⟩
 rw [← hws] at HW ⊢
 clear hws
 have hcw := hin.2.2
 have hvb : v < 262145 := by omega
 generalize c.words = cw at *
 generalize wat c ws (a + 1) = m1 at *
 generalize kdOf (wat c ws a) = K at *
 generalize ptOf (wat c ws a) = P at *
 generalize rwOf (wat c ws a) = R at *
 generalize agOf (wat c ws a) = A at *
 generalize stOf (wat c ws a) = U at *
 generalize hdOf (wat c ws a) = H at *
 obtain ⟨p0, p1⟩ := hpt
 obtain ⟨r0, r1⟩ := hrw
 have ha1 := hin.1
 have ha2 : a < 262145 := by omega
 clear hin
 go_enter Tryz.func29, Tryz.ntmps29
 go_wp2_with fail
 refine hh.mono ?_
 rintro e w1 ⟨rfl, l1⟩
 clear hh
 go_upto_region 2 with fail
 have hY := Box.new w1 38 (.int .u64 m1) (.int .i64 K) (.int .i64 P) (.int .i64 R) (.int .i64 A) (.int .i64 U) (.bool H)
 have l2 := Below.alloc l1 l1.size (.cells (hcells m1 K P R A U H) 38)
 generalize (w1.alloc (.cells (hcells m1 K P R A U H) 38)) = w2 at *
 obtain ⟨y0, y1, y2, y3, y4, y5, y6, -, -, -, -, -, -, -⟩ := hY
 clear l1
 have hi0' : decide (i < 0) = false := decide_eq_false (by omega)
 have hi1' : decide (P ≤ i) = false := decide_eq_false (by omega)
 have hv0' : decide (v < 0) = false := decide_eq_false (by omega)
 have hv1' : decide (cw ≤ v) = false := decide_eq_false (by omega)
 go_wp2_with fail
 refine (HZ.out w2 l2).mono ?_
 rintro e w3 ⟨rfl, rfl⟩
 clear HZ
 go_wp2_with fail
 refine (HW.out w3 l2).mono ?_
 rintro e w4 ⟨rfl, hA4, t4⟩
 have T4 : Hid (Touch (rft b g) w w4) := (Touch.of_below l2 _).trans t4
 have HA4 : Hid _ := hA4
 clear l2 t4 hA4 y0 y1 y2 y3 y4 y5 y6 HW
 go_wp2
 go_ret
 exact ⟨rfl, HA4.out, T4.out⟩
theorem rsetRaw_yes (a i v : Int) (hat : At c x ws a) (hi0 : 0 ≤ i) (hi1 : i < rwOf (wat c ws a)) (hw : Wd (wat c ws a)) (w : World) (hA : Ra w b g c x sw ws) :
  Calls Tryz.prog 57 #[.pointer (some ⟨b, 0, none⟩), .int .i64 a, .int .i64 i, .int .u64 v] w fun e w' => e = .returned (.bool true) ∧ Ra w' b g c x sw (upd ws (a + 2 + ptOf (wat c ws a) + i).toNat v) ∧ Touch (rft b g) w w' := by
 have hh := rhead_at b g c x sw ws a hat hw w hA
 have hin := at_in hA hat
 have hpt := pt_in (wat c ws a)
 have hrw := rw_in (wat c ws a)
 have HW : Hid (∀ w1, Below w.heap.size w w1 → Calls Tryz.prog 76 #[.pointer (some ⟨b, 0, none⟩), .int .i64 (a + 2 + ptOf (wat c ws a) + i), .int .u64 v] w1 fun e w' => e = .returned (.bool true) ∧ Ra w' b g c x sw (upd ws (a + 2 + ptOf (wat c ws a) + i).toNat v) ∧ Touch (rft b g) w1 w') := fun w1 l => rsetWord_int b g c x sw ws _ v (by omega) (by omega) w1 (hA.below l)
 unfold hdv at hh
 clear hA hat hw
 obtain ⟨ws', hws⟩ : ∃ ws', ws' = upd ws (a + 2 + ptOf (wat c ws a) + i).toNat v := ⟨_, rfl⟩
 rw [← hws] at HW ⊢
 clear hws
 generalize wat c ws (a + 1) = m1 at *
 generalize kdOf (wat c ws a) = K at *
 generalize ptOf (wat c ws a) = P at *
 generalize rwOf (wat c ws a) = R at *
 generalize agOf (wat c ws a) = A at *
 generalize stOf (wat c ws a) = U at *
 generalize hdOf (wat c ws a) = H at *
 obtain ⟨p0, p1⟩ := hpt
 obtain ⟨r0, r1⟩ := hrw
 have ha1 := hin.1
 have ha2 : a < 262145 := by omega
 clear hin
 go_enter Tryz.func57, Tryz.ntmps57
 go_wp2_with fail
 refine hh.mono ?_
 rintro e w1 ⟨rfl, l1⟩
 clear hh
 go_upto_region 2 with fail
 have hY := Box.new w1 38 (.int .u64 m1) (.int .i64 K) (.int .i64 P) (.int .i64 R) (.int .i64 A) (.int .i64 U) (.bool H)
 have l2 := Below.alloc l1 l1.size (.cells (hcells m1 K P R A U H) 38)
 generalize (w1.alloc (.cells (hcells m1 K P R A U H) 38)) = w2 at *
 obtain ⟨y0, y1, y2, y3, y4, y5, y6, -, -, -, -, -, -, -⟩ := hY
 clear l1
 have hi0' : decide (i < 0) = false := decide_eq_false (by omega)
 have hi1' : decide (R ≤ i) = false := decide_eq_false (by omega)
 go_wp2_with fail
 refine (HW.out w2 l2).mono ?_
 rintro e w4 ⟨rfl, hA4, t4⟩
 have T4 : Hid (Touch (rft b g) w w4) := (Touch.of_below l2 _).trans t4
 have HA4 : Hid _ := hA4
 clear l2 t4 hA4 y0 y1 y2 y3 y4 y5 y6 HW
 go_wp2
 go_ret
 exact ⟨rfl, HA4.out, T4.out⟩
end
end Go.Proofs.YtlkengnefhhppaaGreatDoor
