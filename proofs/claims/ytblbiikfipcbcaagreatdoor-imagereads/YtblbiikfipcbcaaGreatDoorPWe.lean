import Derived.Test.YtblbiikfipcbcaaGreatDoorPWc
import Derived.Test.YtblbiikfipcbcaaGreatDoorPWd
import Derived.Laws.BytesArg
/-
  Images, the document's Write: numbers, lists of numbers, the checksum.
-/
set_option linter.unusedVariables false
set_option maxRecDepth 20000
namespace Go.Proofs.YtblbiikfipcbcaaGreatDoor
open Go.RowKit Go.Shelf

/-- A row of bytes of one's own. -/
abbrev Bt (w : World) (base : Nat) (v : Value) (bs : List Nat) : Prop := w.ownsRow base 5 1 v bs.length (bts bs)

/-- From one world to the next: nothing but the row has changed. -/
structure Rp (w : World) (v : Value) (w' : World) (v' : Value) : Prop where
  t : Kg.Touch v.ownBlock.toList w w'
  q : ∀ k, v'.ownBlock = some k → v.ownBlock = some k ∨ w.heap.size ≤ k

theorem Rp.refl (w : World) (v : Value) : Rp w v w v := ⟨Kg.Touch.refl _ _, fun _ h => .inl h⟩
theorem Rp.trans {w w' w'' : World} {v v' v'' : Value} (h : Rp w v w' v') (k : Rp w' v' w'' v'') : Rp w v w'' v'' := by
  refine ⟨h.t.then k.t (fun x hx => ?_), fun x hx => ?_⟩
  · rw [Option.mem_toList] at hx
    rw [Option.mem_toList]
    exact h.q x hx
  · rcases k.q x hx with h1 | h1
    · exact h.q x h1
    · exact .inr (Nat.le_trans h.t.size h1)
theorem Rp.below {w w' : World} {v v' : Value} {base e n : Nat} {xs : List Value} (h : Rp w v w' v') (ho : w.ownsRow base e 1 v n xs) (hb : base ≤ w.heap.size) : Below base w w' :=
  h.t.below hb (fun y hy => by rw [Option.mem_toList] at hy; exact (ho.lt y hy).1)
theorem Rp.of_below {w w' : World} {v : Value} (b : Below w.heap.size w w') : Rp w v w' v := ⟨Kg.Touch.of_below b _, fun _ h => .inl h⟩
theorem Rp.block {w w' : World} {v v' : Value} {k : Nat} (h : Rp w v w' v') (hk : k < w.heap.size) (hv : v.ownBlock ≠ some k) : w'.heap[k]? = w.heap[k]? := h.t.block k hk (fun hm => hv (by rw [Option.mem_toList] at hm; exact hm))
theorem Rp.ne {w w' : World} {v v' : Value} {k : Nat} (h : Rp w v w' v') (hk : k < w.heap.size) (hv : v.ownBlock ≠ some k) : v'.ownBlock ≠ some k := fun e => by
  rcases h.q k e with h1 | h1
  · exact hv h1
  · omega

theorem own_slN {w : World} {base n e size : Nat} {v : Value} {xs : List Value} (h : w.ownsRow base e size v n xs) : ∃ a m cap, v = .slice a m cap := by
  obtain ⟨a, c, h⟩ := own_slI h
  exact ⟨a, n, c, h⟩

theorem bt_push {w w8 : World} {base : Nat} {v v' : Value} {cs : List Nat} {x : Nat} {o : Obj} (h : Bt w base v cs) (ho : w8.ownsRow base 5 1 v' (cs.length + 1) (bts cs ++ [.int .u8 (x : Int)])) (hg : (w.alloc o).grownBy w8 v.ownBlock) (hat : v'.ownBlock = v.ownBlock ∨ v'.ownBlock = some (w.alloc o).heap.size) :
    Bt w8 base v' (cs ++ [x]) ∧ Rp w v w8 v' := by
  have t8 : Kg.Touch v.ownBlock.toList w w8 := ⟨hg.os, hg.tape, hg.output, by have := hg.size; simp at this; omega, fun k hk hn => (hg.block k (by simp; omega) (fun e => hn (by rw [Option.mem_toList]; exact e.symm))).trans (Below.heap_alloc _ _ _ hk)⟩
  refine ⟨?_, t8, fun k hk => ?_⟩
  · show w8.ownsRow _ _ _ _ _ _
    rw [List.length_append, bts_append]
    exact ho
  · rcases hat with h1 | h1
    · exact .inl (h1.symm.trans hk)
    · rw [h1] at hk
      simp at hk
      exact .inr (by omega)

set_option maxHeartbeats 4000000 in
theorem rSum_any (n0 : Nat) (w : World) (v : Value) (bs : List Nat) (hv : Lrd n0 w v .u8 (bs.map Int.ofNat)) (hb : ∀ x, x ∈ bs → x < 256) (hl : bs.length ≤ 1000000000000) :
    Calls Tryz.prog 17 #[v] w fun e w' => e = .returned (.int .u32 ((Im.fnv bs : Nat) : Int)) ∧ w' = w := by
  have Hv : Hid (Lrd n0 w v .u8 (bs.map Int.ofNat)) := hv
  have Hb : Hid (∀ x, x ∈ bs → x < 256) := hb
  obtain ⟨a, cap, rfl, hcap, -⟩ := hv.byte
  clear hv hb
  go_enter Tryz.func17, Tryz.ntmps17
  go_wp2
  go_loopw [3, 4] (fun v3 v4 wr => ∃ k : Nat, k ≤ bs.length ∧ v3 = .int .u64 ((Im.fnv (bs.take k) : Nat) : Int) ∧ v4 = .int .i64 k ∧ w = wr) (fun _ v4 _ => bs.length - (intOf v4).toNat)
  case atStart => exact ⟨0, Nat.zero_le _, by rw [List.take_zero, Im.fnv_nil]; rfl, rfl, rfl⟩
  case round =>
    obtain ⟨k, hk, rfl, rfl, rfl⟩ := hrel
    by_cases hkl : k < bs.length
    · have hkI : (k : Int) < (bs.length : Int) := by omega
      have hz : bs[k]? = some (bs[k]'hkl) := List.getElem?_eq_getElem hkl
      generalize bs[k]'hkl = x at hz
      have hxb := Hb.out x (List.mem_of_getElem? hz)
      obtain ⟨a', cap', e', -, hel⟩ := Hv.out.byte
      cases e'
      obtain ⟨q, off, rfl, hq, hce⟩ := hel k x hz
      have Ht : Hid (Im.fnv (bs.take (k + 1)) = (Im.fnv (bs.take k) ^^^ x) * 16777619 % 4294967296) := fnv_take hz
      have hF := Im.fnv_lt (bs.take k)
      have hX := xor64 (Im.fnv (bs.take k)) x (by omega) (by omega)
      have hX2 : Im.fnv (bs.take k) ^^^ x < 2 ^ 32 := Nat.xor_lt_two_pow hF (by omega)
      generalize Im.fnv (bs.take k) = s at *
      generalize hy : s ^^^ x = y at *
      have hy3 : ((y : Int) * 16777619) % 18446744073709551616 = (y : Int) * 16777619 := by omega
      go_wp2
      go_roundw
      case rel =>
        refine ⟨k + 1, by omega, ?_, by go_num, trivial⟩
        rw [Ht.out]
        simp
      case measure => simp [intOf]; omega
    · have hkI : ¬ (k : Int) < (bs.length : Int) := by omega
      have e9 : bs.take k = bs := List.take_of_length_le (by omega)
      rw [e9]
      have hF := Im.fnv_lt bs
      have hF2 : ((Im.fnv bs : Nat) : Int) % 4294967296 = ((Im.fnv bs : Nat) : Int) := by omega
      go_wp2
      go_ret
      exact ⟨rfl, rfl⟩

end Go.Proofs.YtblbiikfipcbcaaGreatDoor

/-
  Images: bytes compared.
-/
set_option linter.unusedVariables false
set_option maxRecDepth 20000
namespace Go.Proofs.YtblbiikfipcbcaaGreatDoor
open Go.RowKit Go.Shelf

theorem Bt.conv {base : Nat} {w : World} {v : Value} {bs : List Nat} (h : Bt w base v bs) : (convert 22 9 v).run Tryz.prog w = .ok (.string (strOfNums (bs.map Int.ofNat))) w := by
  have hl := h.1
  rw [bts_len] at hl
  rcases id h.2 with ⟨rfl, h0⟩ | ⟨g, cap, cur, rfl, _⟩
  · have e : bs = [] := List.eq_nil_of_length_eq_zero h0
    subst e
    exact run_convert_bytes_nil w _ _ Tryz.underlying22 Tryz.underlying5 _ _ _ Tryz.underlying9
  · refine run_convert_bytes_arg w _ _ Tryz.underlying22 Tryz.underlying5 g 0 bs.length cap (bs.map Int.ofNat) (by simp) (fun i hi => ?_) _ Tryz.underlying9
    have h1 : bs[i]? = some (bs[i]'hi) := List.getElem?_eq_getElem hi
    have h2 := h.cells (g := g) rfl i (.int .u8 ((bs[i]'hi : Nat) : Int)) (by unfold bts; rw [List.getElem?_map, h1]; rfl)
    rw [Addr.add_lit] at h2
    rw [h2, List.getD_eq_getElem?_getD, List.getElem?_map, h1]
    rfl

theorem Bt.keep {base : Nat} {w w' : World} {v : Value} {bs : List Nat} (h : Bt w base v bs) (b : Below w.heap.size w w') : Bt w' base v bs := Kg.row_keep2 h (Kg.Touch.of_below b []) (fun k _ => by simp)

/-- The same bytes. -/
theorem sameb_any {b1 b2 : Nat} {w : World} {v u : Value} {bs : List Nat} (h1 : Bt w b1 v bs) (h2 : Bt w b2 u bs) :
    Calls Tryz.prog 9 #[v, u] w fun e w' => e = .returned (.bool true) ∧ w' = w := by
  have f1 := h1.conv
  have f2 := h2.conv
  obtain ⟨a1, m1, c1, rfl⟩ := own_slN h1
  obtain ⟨a2, m2, c2, rfl⟩ := own_slN h2
  generalize strOfNums (bs.map Int.ofNat) = s at f1 f2
  clear h1 h2
  go_enter Tryz.func9, Tryz.ntmps9
  go_wp2
  go_ret
  exact ⟨by simp, rfl⟩

/-- What both answer of one graph is the same. -/
theorem Wrote.bt {w0 w' : World} {g : Im.Gr} {v : Value} {r : Int} (h : Wrote w0 w' g v r) : ∃ bs, ((r = 0 ∧ MB g ∧ bs = Im.enc (Im.toNG g)) ∨ (r = 164 ∧ ¬ MB g ∧ bs = [])) ∧ Bt w' w0.heap.size v bs := by
  rcases h with ⟨h1, h2, h3⟩ | ⟨h1, h2, h3⟩
  · exact ⟨_, .inl ⟨h1, h2, rfl⟩, h3⟩
  · subst h3
    exact ⟨[], .inr ⟨h1, h2, rfl⟩, World.ownsRow_nil _ _ _ _⟩

theorem Wrote.same {w0 w1 w' w1' : World} {g : Im.Gr} {v u : Value} {r s : Int} (h : Wrote w0 w' g v r) (k : Wrote w1 w1' g u s) : r = s ∧ ∃ bs, Bt w' w0.heap.size v bs ∧ Bt w1' w1.heap.size u bs := by
  obtain ⟨bs, h1, h2⟩ := h.bt
  obtain ⟨cs, k1, k2⟩ := k.bt
  rcases h1 with ⟨e1, m1, rfl⟩ | ⟨e1, m1, rfl⟩ <;> rcases k1 with ⟨e2, m2, rfl⟩ | ⟨e2, m2, rfl⟩
  · exact ⟨by omega, _, h2, k2⟩
  · exact absurd m1 m2
  · exact absurd m2 m1
  · exact ⟨by omega, _, h2, k2⟩

end Go.Proofs.YtblbiikfipcbcaaGreatDoor

