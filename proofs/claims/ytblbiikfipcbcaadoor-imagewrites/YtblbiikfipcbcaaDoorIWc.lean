/-
  Images, the document's Write: numbers, lists of numbers, the checksum.
-/
import Derived.Test.YtblbiikfipcbcaaDoorPWc
set_option linter.unusedVariables false
set_option maxRecDepth 20000
namespace Go.Proofs.YtblbiikfipcbcaaDoor
open Go.RowKit Go.Shelf

/-- A row of bytes of one's own. -/
abbrev Bt (w : World) (base : Nat) (v : Value) (bs : List Nat) : Prop := w.ownsRow base 5 1 v bs.length (bts bs)

/-- From one world to the next: nothing but the row has changed. -/
structure Rp (w : World) (v : Value) (w' : World) (v' : Value) : Prop where
  t : Kg.Touch v.ownBlock.toList w w'
  q : ∀ k, v'.ownBlock = some k → v.ownBlock = some k ∨ w.heap.size ≤ k

theorem Rp.refl (w : World) (v : Value) : Rp w v w v := ⟨Kg.Touch.refl _ _, fun _ h => .inl h⟩
theorem Rp.trans {w w' w'' : World} {v v' v'' : Value} (h : Rp w v w' v') (k : Rp w' v' w'' v'') : Rp w v w'' v'' := by
  refine ⟨h.t.then k.t (fun x hx => ?_), fun x hx => ?_⟩
  · rw [Option.mem_toList] at hx
    rw [Option.mem_toList]
    exact h.q x hx
  · rcases k.q x hx with h1 | h1
    · exact h.q x h1
    · exact .inr (Nat.le_trans h.t.size h1)
theorem Rp.below {w w' : World} {v v' : Value} {base e n : Nat} {xs : List Value} (h : Rp w v w' v') (ho : w.ownsRow base e 1 v n xs) (hb : base ≤ w.heap.size) : Below base w w' :=
  h.t.below hb (fun y hy => by rw [Option.mem_toList] at hy; exact (ho.lt y hy).1)
theorem Rp.of_below {w w' : World} {v : Value} (b : Below w.heap.size w w') : Rp w v w' v := ⟨Kg.Touch.of_below b _, fun _ h => .inl h⟩
theorem Rp.block {w w' : World} {v v' : Value} {k : Nat} (h : Rp w v w' v') (hk : k < w.heap.size) (hv : v.ownBlock ≠ some k) : w'.heap[k]? = w.heap[k]? := h.t.block k hk (fun hm => hv (by rw [Option.mem_toList] at hm; exact hm))
theorem Rp.ne {w w' : World} {v v' : Value} {k : Nat} (h : Rp w v w' v') (hk : k < w.heap.size) (hv : v.ownBlock ≠ some k) : v'.ownBlock ≠ some k := fun e => by
  rcases h.q k e with h1 | h1
  · exact hv h1
  · omega

theorem own_slN {w : World} {base n e size : Nat} {v : Value} {xs : List Value} (h : w.ownsRow base e size v n xs) : ∃ a m cap, v = .slice a m cap := by
  obtain ⟨a, c, h⟩ := own_slI h
  exact ⟨a, n, c, h⟩

theorem bt_push {w w8 : World} {base : Nat} {v v' : Value} {cs : List Nat} {x : Nat} {o : Obj} (h : Bt w base v cs) (ho : w8.ownsRow base 5 1 v' (cs.length + 1) (bts cs ++ [.int .u8 (x : Int)])) (hg : (w.alloc o).grownBy w8 v.ownBlock) (hat : v'.ownBlock = v.ownBlock ∨ v'.ownBlock = some (w.alloc o).heap.size) :
    Bt w8 base v' (cs ++ [x]) ∧ Rp w v w8 v' := by
  have t8 : Kg.Touch v.ownBlock.toList w w8 := ⟨hg.os, hg.tape, hg.output, by have := hg.size; simp at this; omega, fun k hk hn => (hg.block k (by simp; omega) (fun e => hn (by rw [Option.mem_toList]; exact e.symm))).trans (Below.heap_alloc _ _ _ hk)⟩
  refine ⟨?_, t8, fun k hk => ?_⟩
  · show w8.ownsRow _ _ _ _ _ _
    rw [List.length_append, bts_append]
    exact ho
  · rcases hat with h1 | h1
    · exact .inl (h1.symm.trans hk)
    · rw [h1] at hk
      simp at hk
      exact .inr (by omega)

set_option maxHeartbeats 8000000 in
theorem rNumber_any (n : Nat) (hn : n < 18446744073709551616) (base : Nat) (w : World) (hb : base ≤ w.heap.size) (v : Value) (bs : List Nat) (h : Bt w base v bs) (hl : bs.length ≤ 1000000000000) :
    Calls Tryd.prog 46 #[v, .int .u64 n] w fun e w' => ∃ v', e = .returned v' ∧ Rp w v w' v' ∧ Bt w' base v' (bs ++ Im.num n) := by
  obtain ⟨i0, hi0, hj0, hj1, hj2⟩ := info_parts infoU8
  have HI : Hid (Tryd.prog.info? 5 = some i0 ∧ i0.zero = some (.int .u8 0) ∧ i0.size = 1 ∧ i0.bytes = 1) := ⟨hi0, hj0, hj1, hj2⟩
  have HB : Hid (Bt w base v bs) := h
  have Hlen : Hid ((Im.num n).length ≤ 10) := num_len 9 n (by omega)
  obtain ⟨a0, c0, rfl⟩ := own_slI h
  clear hi0 hj0 hj1 hj2 h
  go_enter Tryd.func46, Tryd.ntmps46
  go_wp2
  go_loopw [0, 1] (fun v0 v1 wr => ∃ (m : Nat) (cs : List Nat), v1 = .int .u64 m ∧ m < 18446744073709551616 ∧ Hid (Bt wr base v0 cs) ∧ Hid (cs ++ Im.num m = bs ++ Im.num n) ∧ Hid (Rp w (.slice a0 bs.length c0) wr v0)) (fun _ v1 _ => (intOf v1).toNat)
  case atStart => exact ⟨n, bs, rfl, hn, HB, rfl, Rp.refl _ _⟩
  case round =>
    obtain ⟨m, cs, rfl, hm, Hr, HE, Hw⟩ := hrel
    obtain ⟨a1, c1, hv1⟩ := own_slI Hr.out
    subst hv1
    have Hll : Hid (cs.length ≤ 2000000000000) := by
      have h1 := congrArg List.length HE.out
      simp only [List.length_append] at h1
      have := Hlen.out
      show _ ≤ _
      omega
    by_cases hg : 128 ≤ m
    · have hgI : (128 : Int) ≤ (m : Int) := by omega
      go_upto_region 3 with (at_builtin; refine wpList_append_own_at _ rfl _ _ 22 rfl base 5 i0 (.int .u8 0) 1 1 Tryd.underlying22 HI.out.1 HI.out.2.1 HI.out.2.2.1 HI.out.2.2.2 rfl (by decide) _ _ _ rfl (Hr.out.alloc _) ⟨wr.heap.size, 0, none⟩ 1 1 [_] rfl rfl (cell_one_new _ _ _) (by simp [Value.oneCell']) (by have := Hll.out; simp [maxLen]; omega) (by have := Hll.out; omega) (by have := Hw.out.t.size; simp; omega) ?_; intro v' w8 hown' hgrow _ hat)
      have hP := bt_push (x := 128 + m % 128) Hr.out (by rw [show ((128 + m % 128 : Nat) : Int) = 128 + (m : Int) % 128 by omega]; exact hown') hgrow hat
      have HP : Hid (Bt w8 base v' (cs ++ [128 + m % 128])) := hP.1
      have HB8 : Hid (Rp w (.slice a0 bs.length c0) w8 v') := Hw.out.trans hP.2
      have HE8 : Hid ((cs ++ [128 + m % 128]) ++ Im.num (m / 128) = bs ++ Im.num n) := by
        show _ = _
        rw [← HE.out, Im.num_great hg, List.append_assoc]
        rfl
      obtain ⟨a9, c9, hv9⟩ := own_slI HP.out
      subst hv9
      clear hP hown' hgrow hat
      go_wp2
      go_roundw
      case rel => exact ⟨m / 128, cs ++ [128 + m % 128], by simp, by omega, HP, HE8, HB8⟩
      case measure => simp [intOf]; omega
    · have hgI : ¬ (128 : Int) ≤ (m : Int) := by omega
      have hmI : (m : Int) % 256 = m := by omega
      go_wp2_with (at_builtin; refine wpList_append_own_at _ rfl _ _ 22 rfl base 5 i0 (.int .u8 0) 1 1 Tryd.underlying22 HI.out.1 HI.out.2.1 HI.out.2.2.1 HI.out.2.2.2 rfl (by decide) _ _ _ rfl (Hr.out.alloc _) ⟨wr.heap.size, 0, none⟩ 1 1 [_] rfl rfl (cell_one_new _ _ _) (by simp [Value.oneCell']) (by have := Hll.out; simp [maxLen]; omega) (by have := Hll.out; omega) (by have := Hw.out.t.size; simp; omega) ?_; intro v' w8 hown' hgrow _ hat)
      have hP := bt_push (x := m) Hr.out hown' hgrow hat
      rw [show cs ++ [m] = bs ++ Im.num n by rw [← HE.out, Im.num_small (by omega)]] at hP
      go_ret
      exact ⟨_, rfl, Hw.out.trans hP.2, hP.1⟩

set_option maxHeartbeats 8000000 in
/-- How many there are, and these, k more each. -/
theorem rInts_any (k0 : Int) (hk0 : 0 ≤ k0 ∧ k0 ≤ 1) (n0 base : Nat) (w : World) (hn : n0 ≤ base) (hb : base ≤ w.heap.size) (v u : Value) (bs : List Nat) (l : List Int) (h : Bt w base v bs) (hu : Lrd n0 w u .i64 l) (hz : ∀ z, z ∈ l → -k0 ≤ z ∧ z + k0 ≤ 9223372036854775807) (hl : bs.length + (Im.listE Im.num (l.map fun z => (z + k0).toNat)).length ≤ 1000000000000) (hll : l.length ≤ 1000000000) :
    Calls Tryd.prog 47 #[v, u, .int .i64 k0] w fun e w' => ∃ v', e = .returned v' ∧ Rp w v w' v' ∧ Bt w' base v' (bs ++ Im.listE Im.num (l.map fun z => (z + k0).toNat)) := by
  have Hu : Hid (∀ w', Below base w w' → Lrd n0 w' u .i64 l) := fun w' b' => hu.below (b'.mono hn)
  have Hz : Hid (∀ z, z ∈ l → -k0 ≤ z ∧ z + k0 ≤ 9223372036854775807) := hz
  have Hl : Hid (bs.length + (Im.listE Im.num (l.map fun z => (z + k0).toNat)).length ≤ 1000000000000) := hl
  obtain ⟨au, cu, rfl, hcu, -⟩ := hu
  have hC := rNumber_any l.length (by omega) base w hb v bs h (by omega)
  have H0 : Hid (Bt w base v bs) := h
  obtain ⟨a0, m0, c0, rfl⟩ := own_slN h
  have hlm : (l.length : Int) % 18446744073709551616 = l.length := by omega
  clear h hz hl
  go_enter Tryd.func47, Tryd.ntmps47
  go_wp2_with fail
  refine hC.mono ?_
  rintro e w1 ⟨v1, rfl, b1, h1⟩
  have HB1 : Hid (Rp w (.slice a0 m0 c0) w1 v1) := b1
  have HBw : Hid (∀ w' v', Rp w (.slice a0 m0 c0) w' v' → Below base w w') := fun w' v' h' => h'.below H0.out hb
  have H1 : Hid (Bt w1 base v1 (bs ++ Im.num l.length)) := h1
  obtain ⟨a1, m1, c1, hv1⟩ := own_slN h1
  subst hv1
  clear hC b1 h1
  go_wp2
  go_loopw [0, 7] (fun v0 v7 wr => ∃ k : Nat, k ≤ l.length ∧ v7 = .int .i64 k ∧ Hid (Bt wr base v0 ((bs ++ Im.num l.length) ++ ((l.take k).map fun z => (z + k0).toNat).flatMap Im.num)) ∧ Hid (Rp w (.slice a0 m0 c0) wr v0)) (fun _ v7 _ => l.length - (intOf v7).toNat)
  case atStart => exact ⟨0, Nat.zero_le _, rfl, by show Bt _ _ _ _; simpa using H1.out, HB1⟩
  case round =>
    obtain ⟨k, hk, rfl, Hr, Hw⟩ := hrel
    obtain ⟨a2, m2, c2, hv2⟩ := own_slN Hr.out
    subst hv2
    by_cases hkl : k < l.length
    · have hkI : (k : Int) < (l.length : Int) := by omega
      have hzk : l[k]? = some (l[k]'hkl) := List.getElem?_eq_getElem hkl
      generalize l[k]'hkl = z at hzk
      have hz := Hz.out z (List.mem_of_getElem? hzk)
      obtain ⟨a', cap', e', -, hel⟩ := Hu.out wr (HBw.out _ _ Hw.out)
      cases e'
      obtain ⟨q, off, rfl, hq, hce⟩ := hel k z hzk
      have Ht : Hid (((l.take (k + 1)).map fun z => (z + k0).toNat).flatMap Im.num = ((l.take k).map fun z => (z + k0).toNat).flatMap Im.num ++ Im.num (z + k0).toNat) := by
        show _ = _
        rw [List.take_add_one, hzk]
        simp
      have Hlen : Hid (((bs ++ Im.num l.length) ++ ((l.take k).map fun z => (z + k0).toNat).flatMap Im.num).length ≤ 1000000000000) := by
        have h2 := congrArg (fun m => ((m.map fun z => (z + k0).toNat).flatMap Im.num).length) (List.take_append_drop k l)
        simp only [List.map_append, List.flatMap_append, List.length_append] at h2
        have h3 := Hl.out
        simp only [Im.listE, List.length_append, List.length_map] at h3
        show _ ≤ _
        simp only [List.length_append]
        omega
      have hC := rNumber_any (z + k0).toNat (by omega) base wr (by have := Hw.out.t.size; omega) _ _ Hr.out Hlen.out
      rw [show (((z + k0).toNat : Nat) : Int) = z + k0 by omega] at hC
      have hzm : (z + k0) % 18446744073709551616 = z + k0 := by omega
      clear hzk hel
      go_wp2_with fail
      refine hC.mono ?_
      rintro e w5 ⟨v5, rfl, b5, h5⟩
      have H5 : Hid (Bt w5 base v5 ((bs ++ Im.num l.length) ++ ((l.take (k + 1)).map fun z => (z + k0).toNat).flatMap Im.num)) := by
        show Bt _ _ _ _
        rw [Ht.out, ← List.append_assoc]
        exact h5
      have HB5 : Hid (Rp w (.slice a0 m0 c0) w5 v5) := Hw.out.trans b5
      obtain ⟨a5, m5, c5, hv5⟩ := own_slN H5.out
      subst hv5
      clear hC b5 h5 hce
      go_wp2
      go_roundw
      case rel => exact ⟨k + 1, by omega, by go_num, H5, HB5⟩
      case measure => simp [intOf]; omega
    · have hkI : ¬ (k : Int) < (l.length : Int) := by omega
      have H9 : Hid (Bt wr base (.slice a2 m2 c2) (bs ++ Im.listE Im.num (l.map fun z => (z + k0).toNat))) := by
        have := Hr.out
        have e9 : l.take k = l := List.take_of_length_le (by omega)
        rw [e9, List.append_assoc] at this
        simp only [Im.listE, List.length_map]
        exact this
      clear Hr
      go_wp2
      go_ret
      exact ⟨_, rfl, Hw.out, H9.out⟩

set_option maxHeartbeats 4000000 in
theorem rSum_any (n0 : Nat) (w : World) (v : Value) (bs : List Nat) (hv : Lrd n0 w v .u8 (bs.map Int.ofNat)) (hb : ∀ x, x ∈ bs → x < 256) (hl : bs.length ≤ 1000000000000) :
    Calls Tryd.prog 48 #[v] w fun e w' => e = .returned (.int .u32 ((Im.fnv bs : Nat) : Int)) ∧ w' = w := by
  have Hv : Hid (Lrd n0 w v .u8 (bs.map Int.ofNat)) := hv
  have Hb : Hid (∀ x, x ∈ bs → x < 256) := hb
  obtain ⟨a, cap, rfl, hcap, -⟩ := hv.byte
  clear hv hb
  go_enter Tryd.func48, Tryd.ntmps48
  go_wp2
  go_loopw [3, 4] (fun v3 v4 wr => ∃ k : Nat, k ≤ bs.length ∧ v3 = .int .u64 ((Im.fnv (bs.take k) : Nat) : Int) ∧ v4 = .int .i64 k ∧ w = wr) (fun _ v4 _ => bs.length - (intOf v4).toNat)
  case atStart => exact ⟨0, Nat.zero_le _, by rw [List.take_zero, Im.fnv_nil]; rfl, rfl, rfl⟩
  case round =>
    obtain ⟨k, hk, rfl, rfl, rfl⟩ := hrel
    by_cases hkl : k < bs.length
    · have hkI : (k : Int) < (bs.length : Int) := by omega
      have hz : bs[k]? = some (bs[k]'hkl) := List.getElem?_eq_getElem hkl
      generalize bs[k]'hkl = x at hz
      have hxb := Hb.out x (List.mem_of_getElem? hz)
      obtain ⟨a', cap', e', -, hel⟩ := Hv.out.byte
      cases e'
      obtain ⟨q, off, rfl, hq, hce⟩ := hel k x hz
      have Ht : Hid (Im.fnv (bs.take (k + 1)) = (Im.fnv (bs.take k) ^^^ x) * 16777619 % 4294967296) := fnv_take hz
      have hF := Im.fnv_lt (bs.take k)
      have hX := xor64 (Im.fnv (bs.take k)) x (by omega) (by omega)
      have hX2 : Im.fnv (bs.take k) ^^^ x < 2 ^ 32 := Nat.xor_lt_two_pow hF (by omega)
      generalize Im.fnv (bs.take k) = s at *
      generalize hy : s ^^^ x = y at *
      have hy3 : ((y : Int) * 16777619) % 18446744073709551616 = (y : Int) * 16777619 := by omega
      go_wp2
      go_roundw
      case rel =>
        refine ⟨k + 1, by omega, ?_, by go_num, trivial⟩
        rw [Ht.out]
        simp
      case measure => simp [intOf]; omega
    · have hkI : ¬ (k : Int) < (bs.length : Int) := by omega
      have e9 : bs.take k = bs := List.take_of_length_le (by omega)
      rw [e9]
      have hF := Im.fnv_lt bs
      have hF2 : ((Im.fnv bs : Nat) : Int) % 4294967296 = ((Im.fnv bs : Nat) : Int) := by omega
      go_wp2
      go_ret
      exact ⟨rfl, rfl⟩

end Go.Proofs.YtblbiikfipcbcaaDoor
