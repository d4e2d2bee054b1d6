import Derived.Test.YtbgnagjhkfkekaaGreatDoorPAc
/-
  Fill; the fields and the header of an object that stands.
-/
set_option linter.unusedVariables false
namespace Go.Proofs.YtbgnagjhkfkekaaGreatDoor
open Go.RowKit

theorem tg_zero {n : Int} (h : n < 1 ∨ 1099511627776 < n) : tg 3 n = 0 := by unfold tg; rw [if_pos h]
theorem tg_some {n : Int} (h : 1 ≤ n ∧ n ≤ 1099511627776) : tg 3 n = n * 4 + 3 := by unfold tg; rw [if_neg (by omega)]

set_option maxHeartbeats 400000 in
theorem fill_no (b g : Nat) (c : Cfg) (x : Tps) (sw : Bool) (ws : Nat → Int) (S n : Int) (hn : ¬ (1 ≤ n ∧ n ≤ bhd c S - x.top S)) (w : World) (h : Ar w b g c x sw ws) :
    Calls Tryz.prog 24 #[.pointer (some ⟨b, 0, none⟩), .int .i64 S, .int .i64 n] w fun e w' => e = .returned (.bool false) ∧ Below w.heap.size w w' := by
  have ht := take_no b g c x sw ws S n hn w h
  have hf := filler_any n w
  by_cases hz : n < 1 ∨ 1099511627776 < n
  · rw [tg_zero hz] at hf
    clear ht hn hz h
    go_enter Tryz.func24, Tryz.ntmps24
    go_wp2_with fail
    refine hf.mono ?_
    rintro e w' ⟨rfl, rfl⟩
    go_wp2
    go_ret
    exact ⟨rfl, Below.refl _ _⟩
  · rw [tg_some (by omega)] at hf
    have hz2 : ¬ (n * 4 + 3 = 0) := by omega
    generalize n * 4 + 3 = q at hf hz2
    clear hn hz h
    go_enter Tryz.func24, Tryz.ntmps24
    go_wp2_with fail
    refine hf.mono ?_
    rintro e w' ⟨rfl, rfl⟩
    go_wp2_with fail
    refine ht.mono ?_
    rintro e w1 ⟨rfl, b1⟩
    go_wp2
    go_ret
    exact ⟨rfl, b1⟩

set_option maxHeartbeats 1000000 in
theorem fill_yes (b g : Nat) (c : Cfg) (x : Tps) (sw : Bool) (ws : Nat → Int) (S : Int) (p n : Nat) (hp : x.top S = p) (h0 : 0 < n) (h1 : (p : Int) + n ≤ bhd c S) (w : World) (h : Ar w b g c x sw ws) :
    Calls Tryz.prog 24 #[.pointer (some ⟨b, 0, none⟩), .int .i64 S, .int .i64 n] w fun e w' => e = .returned (.bool true) ∧ Ar w' b g c (x.put S (p + n)) sw (upd (zer ws p n) p ((n : Int) * 4 + 3)) ∧ Touch [b, g] w w' := by
  have ht := take_yes b g c x sw ws S p n hp h0 h1 w h
  have hf := filler_any n w
  have wo := h.words
  have bo := (h.sub_in S).2.2.2
  rw [tg_some (by omega)] at hf
  have hz2 : ¬ ((n : Int) * 4 + 3 = 0) := by omega
  have hwd : Wd ((n : Int) * 4 + 3) := ⟨by omega, by omega⟩
  clear h
  generalize (n : Int) * 4 + 3 = q at hf hz2 hwd ⊢
  go_enter Tryz.func24, Tryz.ntmps24
  go_wp2_with fail
  refine hf.mono ?_
  rintro e w' ⟨rfl, rfl⟩
  go_wp2_with fail
  refine ht.mono ?_
  rintro e w1 ⟨rfl, a1, t1⟩
  have k := a1.cell14
  have kc : w1.cell? ⟨g, p, none⟩ = some (.int .u64 (zer ws p n p)) := a1.row.cell (by omega)
  have kf := a1.row.frozen p
  have hN : (c.words.toNat : Int) = c.words := Int.toNat_of_nonneg (by omega)
  have HR : Hid (Ar (w1.setCell ⟨g, p, none⟩ (.int .u64 q)) b g c (x.put S (p + n)) sw (upd (zer ws p n) p q) ∧ Touch [b, g] w' (w1.setCell ⟨g, p, none⟩ (.int .u64 q))) := ⟨a1.set p q hwd, t1.trans (Touch.setCell _ _ _ (by simp))⟩
  generalize c.words.toNat = N at k hN
  generalize zer ws p n p = v at kc
  clear a1 t1 ht hf
  go_wp2
  go_ret
  exact ⟨rfl, HR.out.1, HR.out.2⟩

theorem spc_pos {c : Cfg} (hc : c.Ok) {a : Int} (h : spc c a ≠ 0) : 1 ≤ a ∧ a < c.words := by
  have := hc.e0; have := hc.s0; have := hc.t0
  by_cases h1 : a < 1
  · exact absurd (by unfold spc; rw [if_pos h1]) h
  · refine ⟨by omega, ?_⟩
    by_cases h2 : a < c.words
    · exact h2
    · unfold Cfg.words at h2
      refine absurd ?_ h
      unfold spc
      rw [if_neg h1, if_neg (by omega), if_neg (by omega), if_neg (by omega), if_neg (by omega)]

set_option maxHeartbeats 2000000 in
theorem object_core (b : Nat) (a S tp s K P R A T : Int) (H : Bool) (sv : Value) (hsv : (ocells s K P R A T H sv).all (·.oneCell') = true) (hS0 : S ≠ 0) (w : World)
    (hsp : ∀ w1, Below w.heap.size w w1 → Calls Tryz.prog 98 #[.pointer (some ⟨b, 0, none⟩), .int .i64 a] w1 fun e w' => e = .returned (.int .i64 S) ∧ Below w1.heap.size w1 w')
    (hto : ∀ w1, Below w.heap.size w w1 → Calls Tryz.prog 53 #[.pointer (some ⟨b, 0, none⟩), .int .i64 S] w1 fun e w' => e = .returned (.int .i64 tp) ∧ Below w1.heap.size w1 w')
    (hbe : ∀ w1, Below w.heap.size w w1 → Calls Tryz.prog 99 #[.pointer (some ⟨b, 0, none⟩), .int .i64 tp, .int .i64 a] w1 fun e w' => e = .returned (.tuple #[ov s K P R A T H sv, .bool true]) ∧ Below w1.heap.size w1 w') :
    Calls Tryz.prog 69 #[.pointer (some ⟨b, 0, none⟩), .int .i64 a] w fun e w' => e = .returned (.tuple #[ov s K P R A T H sv, .bool true]) ∧ Below w.heap.size w w' := by
  have b0 : Below w.heap.size w (w.alloc (.cells ozero 124)) := Below.alloc (Below.refl _ _) (Nat.le_refl _) _
  have o0 := Oc.new w ozero
  have h1 := hsp _ b0
  have Hto : Hid (∀ w1, Below w.heap.size w w1 → Calls Tryz.prog 53 #[.pointer (some ⟨b, 0, none⟩), .int .i64 S] w1 fun e w' => e = .returned (.int .i64 tp) ∧ Below w1.heap.size w1 w') := hto
  have Hbe : Hid (∀ w1, Below w.heap.size w w1 → Calls Tryz.prog 99 #[.pointer (some ⟨b, 0, none⟩), .int .i64 tp, .int .i64 a] w1 fun e w' => e = .returned (.tuple #[ov s K P R A T H sv, .bool true]) ∧ Below w1.heap.size w1 w') := hbe
  have Hall : Hid ((ocells s K P R A T H sv).all (·.oneCell') = true) := hsv
  clear hsp hto hbe
  go_enter Tryz.func69, Tryz.ntmps69
  go_wp2_with fail
  refine h1.mono ?_
  rintro e w1 ⟨rfl, l1⟩
  have o1 := o0.below l1
  have b1 := b0.trans (l1.mono b0.size)
  clear h1 b0 l1 o0
  go_wp2_with fail
  refine (Hto.out w1 b1).mono ?_
  rintro e w2 ⟨rfl, l2⟩
  have o2 := o1.below l2
  have b2 := b1.trans (l2.mono b1.size)
  clear b1 l2 o1
  go_wp2_with fail
  refine (Hbe.out w2 b2).mono ?_
  rintro e w3 ⟨rfl, l3⟩
  have o3 := o2.below l3
  have b3 := b2.trans (l3.mono b2.size)
  clear b2 l3 o2
  go_wp2_with (refine wpList_store_row rfl 124 _ _ rfl w.heap.size (ocells s K P R A T H sv) rfl rfl 124 ozero o3.at_ oinfo rfl Hall.out ?_)
  have o4 : Oc (w3.setRow w.heap.size (ocells s K P R A T H sv)) w.heap.size (ocells s K P R A T H sv) := ⟨setRow_heap _ _ _ _ _ _ o3.at_⟩
  have b4 := below_setRow b3 (Nat.le_refl _) (ocells s K P R A T H sv)
  generalize w3.setRow w.heap.size (ocells s K P R A T H sv) = w4 at o4 b4 ⊢
  clear o3 b3
  go_wp2
  refine bodyPost_ret (results_cell2 Tryz.results69 rfl o4.load) rfl ?_
  exact ⟨rfl, b4⟩

theorem object_yes (b g : Nat) (c : Cfg) (x : Tps) (sw : Bool) (ws : Nat → Int) (a S : Int) (hS : spc c a = S) (hS0 : S ≠ 0) (ht : a < x.top S) (hs : Stands c ws (x.top S) a) (w : World) (h : Ar w b g c x sw ws) (hL : Laid w) :
    Calls Tryz.prog 69 #[.pointer (some ⟨b, 0, none⟩), .int .i64 a] w fun e w' => e = .returned (.tuple #[obv c g ws a, .bool true]) ∧ Below w.heap.size w w' := by
  have hpos := spc_pos h.ok (a := a) (by rw [hS]; exact hS0)
  exact object_core b a S (x.top S) _ _ _ _ _ _ _ _ (by kernel_rfl) hS0 w
    (fun w1 l => by have := space_any b g c x sw ws a w1 (h.below l); rw [hS] at this; exact this)
    (fun w1 l => top_any b g c x sw ws S w1 (h.below l))
    (fun w1 l => below_yes b g c x sw ws _ a (by omega) ht (by have := h.sub_in S; omega) hs w1 (h.below l) (hL.keep l))

set_option maxHeartbeats 1000000 in
theorem ptrs_core (b g p n : Nat) (a s K P R A T : Int) (H : Bool) (p0 : 0 ≤ P) (p1 : P ≤ 4095) (r0 : 0 ≤ R) (hn : (n : Int) = 2 + P + R) (hn2 : n ≤ 262145) (w : World)
    (ho : Calls Tryz.prog 69 #[.pointer (some ⟨b, 0, none⟩), .int .i64 a] w fun e w' => e = .returned (.tuple #[ov s K P R A T H (.slice (some ⟨g, p, none⟩) n n), .bool true]) ∧ Below w.heap.size w w') :
    Calls Tryz.prog 65 #[.pointer (some ⟨b, 0, none⟩), .int .i64 a] w fun e w' => (∃ ad, e = .returned (.slice ad P.toNat P.toNat) ∧ (0 < P → ad = some ⟨g, p + 2, none⟩)) ∧ Below w.heap.size w w' := by
  obtain ⟨q, rfl⟩ := Int.eq_ofNat_of_zero_le p0
  have hle : 2 + q ≤ n := by omega
  go_enter Tryz.func65, Tryz.ntmps65
  go_wp2_with fail
  refine ho.mono ?_
  rintro e w1 ⟨rfl, b1⟩
  have b2 := Below.alloc b1 b1.size (.cells (ocells s K q R A T H (.slice (some ⟨g, p, none⟩) n n)) 124)
  clear ho b1
  by_cases hq : q = 0
  · subst hq
    go_wp2
    go_ret
    refine ⟨⟨_, rfl, fun h => by simp at h⟩, b2⟩
  · go_wp2
    go_ret
    refine ⟨⟨some ⟨g, p + 2, none⟩, ?_, fun _ => rfl⟩, b2⟩
    show Ending.returned (.slice (some ⟨g, p + 2, none⟩) (2 + q - 2) (2 + q - 2)) = _
    rw [show 2 + q - 2 = q by omega]
    rfl

set_option maxHeartbeats 1000000 in
theorem raws_core (b g p n : Nat) (a s K P R A T : Int) (H : Bool) (p0 : 0 ≤ P) (p1 : P ≤ 4095) (r0 : 0 ≤ R) (hn : (n : Int) = 2 + P + R) (hn2 : n ≤ 262145) (w : World)
    (ho : Calls Tryz.prog 69 #[.pointer (some ⟨b, 0, none⟩), .int .i64 a] w fun e w' => e = .returned (.tuple #[ov s K P R A T H (.slice (some ⟨g, p, none⟩) n n), .bool true]) ∧ Below w.heap.size w w') :
    Calls Tryz.prog 66 #[.pointer (some ⟨b, 0, none⟩), .int .i64 a] w fun e w' => (∃ ad, e = .returned (.slice ad R.toNat R.toNat) ∧ (0 < R → ad = some ⟨g, p + (2 + P.toNat), none⟩)) ∧ Below w.heap.size w w' := by
  obtain ⟨q, rfl⟩ := Int.eq_ofNat_of_zero_le p0
  obtain ⟨r, rfl⟩ := Int.eq_ofNat_of_zero_le r0
  obtain rfl : n = 2 + q + r := by omega
  go_enter Tryz.func66, Tryz.ntmps66
  go_wp2_with fail
  refine ho.mono ?_
  rintro e w1 ⟨rfl, b1⟩
  have b2 := Below.alloc b1 b1.size (.cells (ocells s K q r A T H (.slice (some ⟨g, p, none⟩) (2 + q + r) (2 + q + r))) 124)
  clear ho b1
  by_cases hr : r = 0
  · subst hr
    go_wp2
    go_ret
    refine ⟨⟨some ⟨g, p, none⟩, ?_, fun h => by simp at h⟩, b2⟩
    show Ending.returned (.slice (some ⟨g, p, none⟩) (2 + q - (2 + q)) (2 + q - (2 + q))) = _
    rw [show 2 + q - (2 + q) = 0 by omega]
    rfl
  · go_wp2
    go_ret
    refine ⟨⟨some ⟨g, p + (2 + q), none⟩, ?_, fun _ => rfl⟩, b2⟩
    show Ending.returned (.slice (some ⟨g, p + (2 + q), none⟩) (2 + q + r - (2 + q)) (2 + q + r - (2 + q))) = _
    rw [show 2 + q + r - (2 + q) = r by omega]
    rfl

/-- The fields of an object that stands, as pieces of the words. -/
theorem ptrs_yes (b g : Nat) (c : Cfg) (x : Tps) (sw : Bool) (ws : Nat → Int) (a S : Int) (hS : spc c a = S) (hS0 : S ≠ 0) (ht : a < x.top S) (hs : Stands c ws (x.top S) a) (w : World) (h : Ar w b g c x sw ws) (hL : Laid w) :
    Calls Tryz.prog 65 #[.pointer (some ⟨b, 0, none⟩), .int .i64 a] w fun e w' => (∃ ad, e = .returned (.slice ad (ptOf (wat c ws a)).toNat (ptOf (wat c ws a)).toNat) ∧ (0 < ptOf (wat c ws a) → ad = some ⟨g, a.toNat + 2, none⟩)) ∧ Below w.heap.size w w' := by
  have z := osz_in c ws a
  exact ptrs_core b g a.toNat (osz c ws a).toNat a _ _ _ (rwOf (wat c ws a)) _ _ _ (pt_in _).1 (pt_in _).2 (rw_in _).1 (by rw [Int.toNat_of_nonneg (by omega)]; rfl) (by omega) w (object_yes b g c x sw ws a S hS hS0 ht hs w h hL)

theorem raws_yes (b g : Nat) (c : Cfg) (x : Tps) (sw : Bool) (ws : Nat → Int) (a S : Int) (hS : spc c a = S) (hS0 : S ≠ 0) (ht : a < x.top S) (hs : Stands c ws (x.top S) a) (w : World) (h : Ar w b g c x sw ws) (hL : Laid w) :
    Calls Tryz.prog 66 #[.pointer (some ⟨b, 0, none⟩), .int .i64 a] w fun e w' => (∃ ad, e = .returned (.slice ad (rwOf (wat c ws a)).toNat (rwOf (wat c ws a)).toNat) ∧ (0 < rwOf (wat c ws a) → ad = some ⟨g, a.toNat + (2 + (ptOf (wat c ws a)).toNat), none⟩)) ∧ Below w.heap.size w w' := by
  have z := osz_in c ws a
  exact raws_core b g a.toNat (osz c ws a).toNat a _ _ (ptOf (wat c ws a)) _ _ _ _ (pt_in _).1 (pt_in _).2 (rw_in _).1 (by rw [Int.toNat_of_nonneg (by omega)]; rfl) (by omega) w (object_yes b g c x sw ws a S hS hS0 ht hs w h hL)

end Go.Proofs.YtbgnagjhkfkekaaGreatDoor

/-
  Ptr, Raw, SetPtr, SetRaw of an object that stands.
-/
set_option linter.unusedVariables false
namespace Go.Proofs.YtbgnagjhkfkekaaGreatDoor
open Go.RowKit

set_option maxHeartbeats 1000000 in
theorem ptr_core (b g o n N i : Nat) (a v : Int) (hi : i < n) (hv0 : 0 ≤ v) (hv1 : v < N) (hN : (N : Int) ≤ 262145) (w : World)
    (hb : b < w.heap.size) (hg : g < w.heap.size) (k14 : w.cell? ⟨b, 14, none⟩ = some (.slice (some ⟨g, 0, none⟩) N N)) (kc : w.cell? ⟨g, o + i, none⟩ = some (.int .u64 v))
    (ho : Calls Tryz.prog 65 #[.pointer (some ⟨b, 0, none⟩), .int .i64 a] w fun e w' => e = .returned (.slice (some ⟨g, o, none⟩) n n) ∧ Below w.heap.size w w') :
    Calls Tryz.prog 87 #[.pointer (some ⟨b, 0, none⟩), .int .i64 a, .int .i64 i] w fun e w' => e = .returned (.tuple #[.int .i64 v, .bool true]) ∧ Below w.heap.size w w' := by
  have hd : decide (0 ≤ (i : Int) ∧ (i : Int) < (n : Int)) = true := decide_eq_true (by omega)
  have hii : (i : Int) < (n : Int) := by omega
  go_enter Tryz.func87, Tryz.ntmps87
  go_wp2_with fail
  refine ho.mono ?_
  rintro e w1 ⟨rfl, b1⟩
  have k1 := (b1.cell (p := ⟨b, 14, none⟩) hb).trans k14
  have k2 := (b1.cell (p := ⟨g, o + i, none⟩) hg).trans kc
  have Hh : Hid (∀ w, Calls Tryz.prog 63 #[.slice (some ⟨g, o, none⟩) n n, .int .i64 i] w fun e w' => e = .returned (.bool true) ∧ w' = w) := fun w => (has_any _ _ _ _ w).mono (fun e w' ⟨h1, h2⟩ => ⟨by rw [h1, hd], h2.symm⟩)
  clear ho k14 kc hd
  go_upto_region 2 with fail
  go_quiet ((go_at_call 63; exact Calls.quiet_of_same (Hh.out _)))
  go_wp2
  go_ret2
  exact ⟨rfl, below_drewN b1 _⟩

theorem ptr_yes (b g : Nat) (c : Cfg) (x : Tps) (sw : Bool) (ws : Nat → Int) (a S : Int) (i : Nat) (hS : spc c a = S) (hS0 : S ≠ 0) (ht : a < x.top S) (hs : Stands c ws (x.top S) a) (hi : (i : Int) < ptOf (wat c ws a)) (hv : wat c ws (a + 2 + i) < c.words) (w : World) (h : Ar w b g c x sw ws) (hL : Laid w) :
    Calls Tryz.prog 87 #[.pointer (some ⟨b, 0, none⟩), .int .i64 a, .int .i64 i] w fun e w' => e = .returned (.tuple #[.int .i64 (wat c ws (a + 2 + i)), .bool true]) ∧ Below w.heap.size w w' := by
  have hpos := spc_pos h.ok (a := a) (by rw [hS]; exact hS0)
  have hw := h.words
  have hz := hs.2
  have hsub := h.sub_in S
  have hr := rw_in (wat c ws a)
  unfold osz at hz
  have hN : (c.words.toNat : Int) = c.words := Int.toNat_of_nonneg (by omega)
  refine ptr_core b g (a.toNat + 2) (ptOf (wat c ws a)).toNat c.words.toNat i a _ (by omega) (h.wat_wd _).1 (by omega) (by omega) w h.own.lt h.row.lt h.cell14 (h.cellW (a + 2 + i) (by omega) (by omega) (a.toNat + 2 + i) (by omega)) ?_
  refine (ptrs_yes b g c x sw ws a S hS hS0 ht hs w h hL).mono ?_
  rintro e w' ⟨⟨ad, rfl, had⟩, l⟩
  exact ⟨by rw [had (by omega)], l⟩

set_option maxHeartbeats 1000000 in
theorem raw_core (b g o n i : Nat) (a v : Int) (hi : i < n) (w : World) (hg : g < w.heap.size) (kc : w.cell? ⟨g, o + i, none⟩ = some (.int .u64 v))
    (ho : Calls Tryz.prog 66 #[.pointer (some ⟨b, 0, none⟩), .int .i64 a] w fun e w' => e = .returned (.slice (some ⟨g, o, none⟩) n n) ∧ Below w.heap.size w w') :
    Calls Tryz.prog 88 #[.pointer (some ⟨b, 0, none⟩), .int .i64 a, .int .i64 i] w fun e w' => e = .returned (.tuple #[.int .u64 v, .bool true]) ∧ Below w.heap.size w w' := by
  have hd : decide (0 ≤ (i : Int) ∧ (i : Int) < (n : Int)) = true := decide_eq_true (by omega)
  have hii : (i : Int) < (n : Int) := by omega
  go_enter Tryz.func88, Tryz.ntmps88
  go_wp2_with fail
  refine ho.mono ?_
  rintro e w1 ⟨rfl, b1⟩
  have k2 := (b1.cell (p := ⟨g, o + i, none⟩) hg).trans kc
  clear ho kc
  go_wp2_with fail
  refine (has_any _ _ _ _ _).mono ?_
  rintro e w' ⟨rfl, rfl⟩
  rw [hd]
  go_wp2
  go_ret2
  exact ⟨rfl, b1⟩

theorem raw_yes (b g : Nat) (c : Cfg) (x : Tps) (sw : Bool) (ws : Nat → Int) (a S : Int) (i : Nat) (hS : spc c a = S) (hS0 : S ≠ 0) (ht : a < x.top S) (hs : Stands c ws (x.top S) a) (hi : (i : Int) < rwOf (wat c ws a)) (w : World) (h : Ar w b g c x sw ws) (hL : Laid w) :
    Calls Tryz.prog 88 #[.pointer (some ⟨b, 0, none⟩), .int .i64 a, .int .i64 i] w fun e w' => e = .returned (.tuple #[.int .u64 (wat c ws (a + 2 + ptOf (wat c ws a) + i)), .bool true]) ∧ Below w.heap.size w w' := by
  have hpos := spc_pos h.ok (a := a) (by rw [hS]; exact hS0)
  have hw := h.words
  have hz := hs.2
  have hsub := h.sub_in S
  have hp := pt_in (wat c ws a)
  unfold osz at hz
  refine raw_core b g (a.toNat + (2 + (ptOf (wat c ws a)).toNat)) (rwOf (wat c ws a)).toNat i a _ (by omega) w h.row.lt (h.cellW (a + 2 + ptOf (wat c ws a) + i) (by omega) (by omega) _ (by omega)) ?_
  refine (raws_yes b g c x sw ws a S hS hS0 ht hs w h hL).mono ?_
  rintro e w' ⟨⟨ad, rfl, had⟩, l⟩
  exact ⟨by rw [had (by omega)], l⟩

end Go.Proofs.YtbgnagjhkfkekaaGreatDoor

/-
  SetPtr, SetRaw, SetHead of an object that stands.
-/
set_option linter.unusedVariables false
namespace Go.Proofs.YtbgnagjhkfkekaaGreatDoor
open Go.RowKit

/-- A word of an arena is written through a piece of its words. -/
theorem set_ar (b g o n i : Nat) (c : Cfg) (x : Tps) (sw : Bool) (ws : Nat → Int) (v : Int) (hv : Wd v) (hi : i < n) (ho : (o : Int) + i < c.words) (w : World) (h : Ar w b g c x sw ws) :
    Calls Tryz.prog 64 #[.slice (some ⟨g, o, none⟩) n n, .int .i64 i, .int .u64 v] w fun e w' => e = .returned (.bool true) ∧ Ar w' b g c x sw (upd ws (o + i) v) ∧ Touch [g] w w' := by
  refine (set_in g o n n i v hi (Nat.le_refl _) _ w (h.row.cell (by omega)) (h.row.frozen _)).mono ?_
  rintro e w' ⟨rfl, rfl⟩
  exact ⟨rfl, h.set _ v hv, Touch.setCell _ _ _ (by simp)⟩

set_option maxHeartbeats 1000000 in
theorem setRaw_core (b : Nat) (a i v : Int) (sl : Value) (R : Ending → World → Prop) (w : World) (w1s : World → Prop)
    (ho : Calls Tryz.prog 66 #[.pointer (some ⟨b, 0, none⟩), .int .i64 a] w fun e w' => e = .returned sl ∧ w1s w')
    (hs : ∀ w1, w1s w1 → Calls Tryz.prog 64 #[sl, .int .i64 i, .int .u64 v] w1 fun e w' => ∃ r, e = .returned (.bool r) ∧ R (.returned (.bool r)) w') :
    Calls Tryz.prog 28 #[.pointer (some ⟨b, 0, none⟩), .int .i64 a, .int .i64 i, .int .u64 v] w R := by
  have Hs : Hid (∀ w1, w1s w1 → Calls Tryz.prog 64 #[sl, .int .i64 i, .int .u64 v] w1 fun e w' => ∃ r, e = .returned (.bool r) ∧ R (.returned (.bool r)) w') := hs
  clear hs
  go_enter Tryz.func28, Tryz.ntmps28
  go_wp2_with fail
  refine ho.mono ?_
  rintro e w1 ⟨rfl, h1⟩
  go_wp2_with fail
  refine (Hs.out w1 h1).mono ?_
  rintro e w2 ⟨r, rfl, hR⟩
  go_wp2
  exact hR

theorem setRaw_in (b g : Nat) (c : Cfg) (x : Tps) (sw : Bool) (ws : Nat → Int) (a S : Int) (i : Nat) (v : Int) (hv : Wd v) (hS : spc c a = S) (hS0 : S ≠ 0) (ht : a < x.top S) (hs : Stands c ws (x.top S) a) (hi : (i : Int) < rwOf (wat c ws a)) (w : World) (h : Ar w b g c x sw ws) (hL : Laid w) :
    Calls Tryz.prog 28 #[.pointer (some ⟨b, 0, none⟩), .int .i64 a, .int .i64 i, .int .u64 v] w fun e w' => e = .returned (.bool true) ∧ Ar w' b g c x sw (upd ws (a.toNat + (2 + (ptOf (wat c ws a)).toNat) + i) v) ∧ Touch [g] w w' := by
  have hpos := spc_pos h.ok (a := a) (by rw [hS]; exact hS0)
  have hz := hs.2
  have hsub := h.sub_in S
  have hp := pt_in (wat c ws a)
  unfold osz at hz
  refine setRaw_core b a i v (.slice (some ⟨g, a.toNat + (2 + (ptOf (wat c ws a)).toNat), none⟩) (rwOf (wat c ws a)).toNat (rwOf (wat c ws a)).toNat) _ w (fun w1 => Below w.heap.size w w1) ?_ ?_
  · refine (raws_yes b g c x sw ws a S hS hS0 ht hs w h hL).mono ?_
    rintro e w' ⟨⟨ad, rfl, had⟩, l⟩
    exact ⟨by rw [had (by omega)], l⟩
  · intro w1 l
    refine (set_ar b g _ _ i c x sw ws v hv (by omega) (by omega) w1 (h.below l)).mono ?_
    rintro e w' ⟨rfl, ha, t⟩
    exact ⟨true, rfl, rfl, ha, (Touch.of_below l _).trans t⟩

theorem setRaw_out (b g : Nat) (c : Cfg) (x : Tps) (sw : Bool) (ws : Nat → Int) (a S i v : Int) (hS : spc c a = S) (hS0 : S ≠ 0) (ht : a < x.top S) (hs : Stands c ws (x.top S) a) (hi : ¬ (0 ≤ i ∧ i < rwOf (wat c ws a))) (w : World) (h : Ar w b g c x sw ws) (hL : Laid w) :
    Calls Tryz.prog 28 #[.pointer (some ⟨b, 0, none⟩), .int .i64 a, .int .i64 i, .int .u64 v] w fun e w' => e = .returned (.bool false) ∧ Below w.heap.size w w' := by
  have hr := rw_in (wat c ws a)
  have hsp := raws_yes b g c x sw ws a S hS hS0 ht hs w h hL
  have Hs : ∀ ad w1, Calls Tryz.prog 64 #[.slice ad (rwOf (wat c ws a)).toNat (rwOf (wat c ws a)).toNat, .int .i64 i, .int .u64 v] w1 fun e w' => e = .returned (.bool false) ∧ w1 = w' := fun ad w1 => set_out ad _ _ i v (by omega) w1
  have HS : Hid (∀ ad w1, Calls Tryz.prog 64 #[.slice ad (rwOf (wat c ws a)).toNat (rwOf (wat c ws a)).toNat, .int .i64 i, .int .u64 v] w1 fun e w' => e = .returned (.bool false) ∧ w1 = w') := Hs
  clear Hs h hL hs ht hi hr
  generalize (rwOf (wat c ws a)).toNat = n at hsp HS
  go_enter Tryz.func28, Tryz.ntmps28
  go_wp2_with fail
  refine hsp.mono ?_
  rintro e w1 ⟨⟨ad, rfl, -⟩, l⟩
  go_wp2_with fail
  refine (HS.out ad w1).mono ?_
  rintro e w2 ⟨rfl, rfl⟩
  go_wp2
  go_ret
  exact ⟨rfl, l⟩

set_option maxHeartbeats 1000000 in
theorem setPtr_core (b g N : Nat) (a i t : Int) (R : Ending → World → Prop) (w : World) (ht0 : 0 ≤ t) (ht1 : t < N) (hN : (N : Int) ≤ 262145) (k14 : w.cell? ⟨b, 14, none⟩ = some (.slice (some ⟨g, 0, none⟩) N N)) (sl : Option Addr → Value) (w1s : Option Addr → World → Prop)
    (ho : Calls Tryz.prog 65 #[.pointer (some ⟨b, 0, none⟩), .int .i64 a] w fun e w' => ∃ ad, e = .returned (sl ad) ∧ w1s ad w')
    (hs : ∀ ad w1, w1s ad w1 → Calls Tryz.prog 64 #[sl ad, .int .i64 i, .int .u64 t] w1 fun e w' => ∃ r, e = .returned (.bool r) ∧ R (.returned (.bool r)) w') :
    Calls Tryz.prog 27 #[.pointer (some ⟨b, 0, none⟩), .int .i64 a, .int .i64 i, .int .i64 t] w R := by
  have Hs : Hid (∀ ad w1, w1s ad w1 → Calls Tryz.prog 64 #[sl ad, .int .i64 i, .int .u64 t] w1 fun e w' => ∃ r, e = .returned (.bool r) ∧ R (.returned (.bool r)) w') := hs
  have hd : decide (0 ≤ t ∧ t < (N : Int)) = true := decide_eq_true (by omega)
  clear hs
  go_enter Tryz.func27, Tryz.ntmps27
  go_wp2_with fail
  refine (has_any _ _ _ _ _).mono ?_
  rintro e w' ⟨rfl, rfl⟩
  rw [hd]
  go_wp2_with fail
  refine ho.mono ?_
  rintro e w1 ⟨ad, rfl, h1⟩
  go_wp2_with fail
  refine (Hs.out ad w1 h1).mono ?_
  rintro e w2 ⟨r, rfl, hR⟩
  go_wp2
  exact hR

theorem setPtr_in (b g : Nat) (c : Cfg) (x : Tps) (sw : Bool) (ws : Nat → Int) (a S t : Int) (i : Nat) (ht0 : 0 ≤ t) (ht1 : t < c.words) (hS : spc c a = S) (hS0 : S ≠ 0) (ht : a < x.top S) (hs : Stands c ws (x.top S) a) (hi : (i : Int) < ptOf (wat c ws a)) (w : World) (h : Ar w b g c x sw ws) (hL : Laid w) :
    Calls Tryz.prog 27 #[.pointer (some ⟨b, 0, none⟩), .int .i64 a, .int .i64 i, .int .i64 t] w fun e w' => e = .returned (.bool true) ∧ Ar w' b g c x sw (upd ws (a.toNat + 2 + i) t) ∧ Touch [g] w w' := by
  have hpos := spc_pos h.ok (a := a) (by rw [hS]; exact hS0)
  have hz := hs.2
  have hsub := h.sub_in S
  have hw := h.words
  have hr := rw_in (wat c ws a)
  unfold osz at hz
  refine setPtr_core b g c.words.toNat a i t _ w ht0 (by omega) (by omega) h.cell14 (fun ad => .slice ad (ptOf (wat c ws a)).toNat (ptOf (wat c ws a)).toNat) (fun ad w1 => ad = some ⟨g, a.toNat + 2, none⟩ ∧ Below w.heap.size w w1) ?_ ?_
  · refine (ptrs_yes b g c x sw ws a S hS hS0 ht hs w h hL).mono ?_
    rintro e w' ⟨⟨ad, rfl, had⟩, l⟩
    exact ⟨ad, rfl, had (by omega), l⟩
  · rintro ad w1 ⟨rfl, l⟩
    refine (set_ar b g _ _ i c x sw ws t ⟨ht0, by omega⟩ (by omega) (by omega) w1 (h.below l)).mono ?_
    rintro e w' ⟨rfl, ha, t⟩
    exact ⟨true, rfl, rfl, ha, (Touch.of_below l _).trans t⟩

theorem setPtr_out (b g : Nat) (c : Cfg) (x : Tps) (sw : Bool) (ws : Nat → Int) (a S t i : Int) (ht0 : 0 ≤ t) (ht1 : t < c.words) (hS : spc c a = S) (hS0 : S ≠ 0) (ht : a < x.top S) (hs : Stands c ws (x.top S) a) (hi : ¬ (0 ≤ i ∧ i < ptOf (wat c ws a))) (w : World) (h : Ar w b g c x sw ws) (hL : Laid w) :
    Calls Tryz.prog 27 #[.pointer (some ⟨b, 0, none⟩), .int .i64 a, .int .i64 i, .int .i64 t] w fun e w' => e = .returned (.bool false) ∧ Below w.heap.size w w' := by
  have hw := h.words
  have hr := pt_in (wat c ws a)
  refine setPtr_core b g c.words.toNat a i t _ w ht0 (by omega) (by omega) h.cell14 (fun ad => .slice ad (ptOf (wat c ws a)).toNat (ptOf (wat c ws a)).toNat) (fun ad w1 => Below w.heap.size w w1) ?_ ?_
  · refine (ptrs_yes b g c x sw ws a S hS hS0 ht hs w h hL).mono ?_
    rintro e w' ⟨⟨ad, rfl, had⟩, l⟩
    exact ⟨ad, rfl, l⟩
  · intro ad w1 l
    refine (set_out ad _ _ i t (by omega) w1).mono ?_
    rintro e w' ⟨rfl, rfl⟩
    exact ⟨false, rfl, rfl, l⟩

end Go.Proofs.YtbgnagjhkfkekaaGreatDoor

/-
  SetHead of an object that stands.
-/
set_option linter.unusedVariables false
namespace Go.Proofs.YtbgnagjhkfkekaaGreatDoor
open Go.RowKit

end Go.Proofs.YtbgnagjhkfkekaaGreatDoor

