import Derived.Test.YtblbiikfipcbcaaGreatDoorPWc
import Derived.Test.YtblbiikfipcbcaaGreatDoorPKm
import Derived.Laws.BytesArg
/-
  Images, the reader: what it has, giving up, the next bytes.
-/
set_option linter.unusedVariables false
set_option maxRecDepth 20000
namespace Go.Proofs.YtblbiikfipcbcaaGreatDoor
open Go.RowKit Go.Shelf

/-- What a reader throws. -/
def thrown (place why : Int) : List PanicEntry := [{ v := .iface 67 (.agg #[.int .i64 place, .int .i64 why]), recovered := false }]

/-- A reader in block R over bytes, at place p. -/
structure Rdr (w : World) (n0 R : Nat) (v : Value) (bs : List Nat) (p : Nat) : Prop where
  b : w.heap[R]? = some (.cells #[v, .int .i64 (p : Int)] 70 (0, 0))
  l : Lrd n0 w v .u8 (bs.map Int.ofNat)
  lo : n0 ≤ R
  le : p ≤ bs.length
  n : bs.length ≤ 1000000000000

theorem Rdr.below {w w' : World} {n0 R p : Nat} {v : Value} {bs : List Nat} (h : Rdr w n0 R v bs p) (b : Below w.heap.size w w') : Rdr w' n0 R v bs p := by
  have hR := Kg.heap_lt h.b
  have t := Kg.Touch.of_below b []
  exact ⟨by rw [t.block R hR (by simp)]; exact h.b, h.l.below (b.mono (by have := h.lo; omega)), h.lo, h.le, h.n⟩

theorem give_any (place why : Int) (w : World) : Calls Tryz.prog 43 #[.int .i64 place, .int .i64 why] w fun e w' => e = .panicked (thrown place why) ∧ w' = w := by
  go_enter Tryz.func43, Tryz.ntmps43
  go_wp2
  exact ⟨rfl, rfl, rfl⟩

theorem short_any {w : World} {n0 R p : Nat} {v : Value} {bs : List Nat} (h : Rdr w n0 R v bs p) : Calls Tryz.prog 63 #[.pointer (some ⟨R, 0, none⟩)] w fun e w' => e = .panicked (thrown bs.length 160) ∧ w' = w := by
  have c0 := (Kg.heap_cell h.b 0).trans (show _ = some v from rfl)
  obtain ⟨a, cap, rfl, hcap, -⟩ := h.l.byte
  have hC := give_any bs.length 160 w
  go_enter Tryz.func63, Tryz.ntmps63
  go_wp2_with fail
  refine hC.mono ?_
  rintro e w1 ⟨rfl, rfl⟩
  exact ⟨rfl, rfl, rfl⟩

set_option maxHeartbeats 4000000 in
theorem left_any {w : World} {n0 R p : Nat} {v : Value} {bs : List Nat} (h : Rdr w n0 R v bs p) : Calls Tryz.prog 60 #[.pointer (some ⟨R, 0, none⟩)] w fun e w' => e = .returned (.int .i64 ((bs.length : Int) - p)) ∧ Below w.heap.size w w' := by
  have hR := Kg.heap_lt h.b
  obtain ⟨a, cap, rfl, hcap, -⟩ := h.l.byte
  have hle := h.le
  have hn := h.n
  go_enter Tryz.func60, Tryz.ntmps60
  go_upto_region 1 with fail
  haveI hinh : Inhabited (Kg.Bel w) := ⟨⟨w, Below.refl _ _⟩⟩
  have z0 : ∀ q : Kg.Bel w, q.v.cell? ⟨R, 0, none⟩ = some (.slice a bs.length cap) := fun q => (q.h.cell (p := ⟨R, 0, none⟩) hR).trans ((Kg.heap_cell h.b 0).trans rfl)
  have z1 : ∀ q : Kg.Bel w, q.v.cell? ⟨R, 1, none⟩ = some (.int .i64 (p : Int)) := fun q => (q.h.cell (p := ⟨R, 1, none⟩) hR).trans ((Kg.heap_cell h.b 1).trans rfl)
  refine Kg.region_below Kg.mixed (by kernel_rfl) ?_
  repeat (go_big_quiet_step (fail))
  refine wpQuiet_nil ?_
  rintro w5 ⟨⟨w5, b5⟩, rfl⟩
  go_wp2
  go_ret
  exact ⟨rfl, b5⟩

/-- The reader has gone on. -/
theorem Rdr.go {w : World} {n0 R p : Nat} {v : Value} {bs : List Nat} (h : Rdr w n0 R v bs p) (q : Nat) (hq : q ≤ bs.length) : Rdr (w.setCell ⟨R, 1, none⟩ (.int .i64 (q : Int))) n0 R v bs q := by
  have t : Below n0 w (w.setCell ⟨R, 1, none⟩ (.int .i64 (q : Int))) := Below.setCell (Below.refl _ _) h.lo _
  exact ⟨(Kg.heap_set h.b 1 _).trans rfl, h.l.below t, h.lo, hq, h.n⟩

set_option maxHeartbeats 8000000 in
/-- The next bytes. -/
theorem take_any {w : World} {n0 R p : Nat} {v : Value} {bs : List Nat} (h : Rdr w n0 R v bs p) (k : Nat) (hk : 1 ≤ k ∧ k ≤ 4) :
    Calls Tryz.prog 46 #[.pointer (some ⟨R, 0, none⟩), .int .i64 (k : Int)] w fun e w' => Kg.Touch [R] w w' ∧ ((bs.length < p + k ∧ e = .panicked (thrown bs.length 160)) ∨ (p + k ≤ bs.length ∧ ∃ q off cap, v = .slice (some ⟨q, off, none⟩) bs.length cap ∧ e = .returned (.slice (some ⟨q, off + p, none⟩) k (cap - p)) ∧ Rdr w' n0 R v bs (p + k))) := by
  have hL := left_any h
  have H : Hid (Rdr w n0 R v bs p) := h
  have hn := h.n
  have hle := h.le
  go_enter Tryz.func46, Tryz.ntmps46
  go_wp2_with fail
  refine hL.mono ?_
  rintro e w1 ⟨rfl, b1⟩
  have H1 : Hid (Rdr w1 n0 R v bs p) := h.below b1
  have HT1 : Hid (Kg.Touch [R] w w1) := Kg.Touch.of_below b1 _
  clear hL b1 h
  by_cases hg : bs.length < p + k
  · have hgI : (k : Int) > (bs.length : Int) - p := by omega
    have hC := short_any H1.out
    go_wp2_with fail
    refine hC.mono ?_
    rintro e w2 ⟨rfl, rfl⟩
    exact ⟨rfl, HT1.out, .inl ⟨hg, rfl⟩⟩
  · have hgI : ¬ (k : Int) > (bs.length : Int) - p := by omega
    have c0 := (Kg.heap_cell H1.out.b 0).trans (show _ = some v from rfl)
    have c1 := (Kg.heap_cell H1.out.b 1).trans (show _ = some (.int .i64 (p : Int)) from rfl)
    have f1 := Kg.heap_frozen H1.out.b 1
    obtain ⟨a, cap, hv, hcap, hel⟩ := H1.out.l.byte
    obtain ⟨q, off, ha, hq, -⟩ := hel 0 (bs[0]'(by omega)) (List.getElem?_eq_getElem _)
    subst ha hv
    clear hel
    go_upto_region 4 with fail
    have H2 : Hid (Rdr (w1.setCell ⟨R, 1, none⟩ (.int .i64 ((p : Int) + (k : Int)))) n0 R (.slice (some ⟨q, off, none⟩) bs.length cap) bs (p + k)) := by
      have := H1.out.go (p + k) (by omega)
      rw [show (((p + k : Nat)) : Int) = (p : Int) + k by omega] at this
      exact this
    have HT2 : Hid (Kg.Touch [R] w (w1.setCell ⟨R, 1, none⟩ (.int .i64 ((p : Int) + (k : Int))))) := HT1.out.trans (Kg.Touch.setCell _ _ _ (by simp))
    clear c0 c1 f1
    generalize w1.setCell ⟨R, 1, none⟩ (.int .i64 ((p : Int) + (k : Int))) = W at *
    have hR := Kg.heap_lt H2.out.b
    haveI hinh : Inhabited (Kg.Bel W) := ⟨⟨W, Below.refl _ _⟩⟩
    have z0 : ∀ u : Kg.Bel W, u.v.cell? ⟨R, 0, none⟩ = some (.slice (some ⟨q, off, none⟩) bs.length cap) := fun u => (u.h.cell (p := ⟨R, 0, none⟩) hR).trans ((Kg.heap_cell H2.out.b 0).trans rfl)
    have z1 : ∀ u : Kg.Bel W, u.v.cell? ⟨R, 1, none⟩ = some (.int .i64 ((p : Int) + (k : Int))) := fun u => (u.h.cell (p := ⟨R, 1, none⟩) hR).trans ((Kg.heap_cell H2.out.b 1).trans (by simp))
    have e1 : (p : Int) + (k : Int) - (k : Int) = (p : Int) := by omega
    have hpk : p + k ≤ cap := by omega
    refine Kg.region_below Kg.mixed (by kernel_rfl) ?_
    repeat (go_big_quiet_step (fail))
    refine wpQuiet_nil ?_
    rintro w5 ⟨⟨w5, b5⟩, rfl⟩
    have H5 : Hid (Rdr w5 n0 R (.slice (some ⟨q, off, none⟩) bs.length cap) bs (p + k)) := H2.out.below b5
    have HT5 : Hid (Kg.Touch [R] w w5) := HT2.out.trans (Kg.Touch.of_below b5 _)
    rw [Nat.add_sub_cancel_left]
    clear z0 z1 hinh b5
    go_wp2
    go_ret
    exact ⟨HT5.out, .inr ⟨by omega, q, off, cap, rfl, rfl, H5.out⟩⟩

end Go.Proofs.YtblbiikfipcbcaaGreatDoor

/-
  Images, the reader: numbers.
-/
set_option linter.unusedVariables false
set_option maxRecDepth 20000
namespace Go.Proofs.YtblbiikfipcbcaaGreatDoor
open Go.RowKit Go.Shelf

/-- What reading answers, and where the reader is then. -/
def Rans {α : Type} (n0 R : Nat) (v : Value) (bs : List Nat) (w w' : World) (x : Except (Nat × Nat) (α × Nat)) (e : Ending) (ok : α → Ending → Prop) : Prop :=
  Kg.Touch [R] w w' ∧ match x with
    | .ok (y, r) => ok y e ∧ Rdr w' n0 R v bs r
    | .error (pl, c) => e = .panicked (thrown (pl : Int) (c : Int))

theorem wgo_step {bs : List Nat} {p f k n x : Nat} (h : bs[p + k]? = some x) (hb : ¬ ((0 < k ∧ x = 0) ∨ (k = 9 ∧ 1 < x))) (hx : ¬ x < 128) : Im.wgo bs p (f + 1) k n = Im.wgo bs p f (k + 1) (n + (x - 128) * 128 ^ k) := by
  rw [Im.wgo]
  simp only [h]
  rw [if_neg hb, if_neg hx]
theorem wgo_last {bs : List Nat} {p f k n x : Nat} (h : bs[p + k]? = some x) (hb : ¬ ((0 < k ∧ x = 0) ∨ (k = 9 ∧ 1 < x))) (hx : x < 128) : Im.wgo bs p (f + 1) k n = .ok (n + x * 128 ^ k, p + k + 1) := by
  rw [Im.wgo]
  simp only [h]
  rw [if_neg hb, if_pos hx]
theorem wgo_bad {bs : List Nat} {p f k n x : Nat} (h : bs[p + k]? = some x) (hb : (0 < k ∧ x = 0) ∨ (k = 9 ∧ 1 < x)) : Im.wgo bs p (f + 1) k n = .error (p, 161) := by
  rw [Im.wgo]
  simp only [h]
  rw [if_pos hb]
theorem wgo_short {bs : List Nat} {p f k n : Nat} (h : bs[p + k]? = none) : Im.wgo bs p (f + 1) k n = .error (bs.length, 160) := by
  rw [Im.wgo]
  simp only [h]

theorem or_add (n y M i : Nat) (hM : M = 2 ^ i) (hn : n < M) (hy : n + y * M < 18446744073709551616) : bits BinOp.or IntKind.u64 (n : Int) ((y : Int) * (M : Int)) = ((n + y * M : Nat) : Int) := by
  have h1 : (y * M) < 2 ^ 64 := by omega
  have h2 : n < 2 ^ 64 := by omega
  have h3 : n ||| y * M = n + y * M := by
    have := Nat.shiftLeft_add_eq_or_of_lt (b := n) (i := i) (by rw [← hM]; exact hn) y
    rw [Nat.shiftLeft_eq, ← hM] at this
    rw [Nat.or_comm, ← this, Nat.add_comm]
  rw [show (y : Int) * (M : Int) = ((y * M : Nat) : Int) by simp]
  unfold bits
  simp only [BitVec.toNat_or, BitVec.ofInt_natCast, BitVec.toNat_ofNat]
  rw [show (2 : Nat) ^ IntKind.u64.bits = 18446744073709551616 from rfl, Nat.mod_eq_of_lt h1, Nat.mod_eq_of_lt h2, h3, IntKind.wrap_u64]
  omega

/-- What octets.Number tells. -/
def numV (bs : List Nat) (p : Nat) : Value := match Im.word bs p with
  | .ok (n, r) => .tuple #[.int .u64 (n : Int), .int .i64 (((r - p : Nat)) : Int), .int .i64 0]
  | .error (_, c) => .tuple #[.int .u64 0, .int .i64 0, .int .i64 (if c = 160 then 1 else 2)]

theorem numV_ok {bs : List Nat} {p n r : Nat} (h : Im.word bs p = .ok (n, r)) : numV bs p = .tuple #[.int .u64 (n : Int), .int .i64 (((r - p : Nat)) : Int), .int .i64 0] := by
  unfold numV
  rw [h]
theorem numV_short {bs : List Nat} {p q : Nat} (h : Im.word bs p = .error (q, 160)) : numV bs p = .tuple #[.int .u64 0, .int .i64 0, .int .i64 1] := by
  unfold numV
  rw [h]
  rfl
theorem numV_wrong {bs : List Nat} {p q : Nat} (h : Im.word bs p = .error (q, 161)) : numV bs p = .tuple #[.int .u64 0, .int .i64 0, .int .i64 2] := by
  unfold numV
  rw [h]
  rfl

set_option maxHeartbeats 8000000 in
/-- Octets: a number that bytes begin with. -/
theorem onumber_any {n0 : Nat} {w : World} {v : Value} {bs : List Nat} {p : Nat} (hv : Lrd n0 w v .u8 ((bs.drop p).map Int.ofNat)) (hb : ∀ x, x ∈ bs → x < 256) (hp : p ≤ bs.length) (hn : bs.length ≤ 1000000000000) :
    Calls Tryz.prog 64 #[v] w fun e w' => e = .returned (numV bs p) ∧ w' = w := by
  have Hv : Hid (Lrd n0 w v .u8 ((bs.drop p).map Int.ofNat)) := hv
  have Hb : Hid (∀ x, x ∈ bs → x < 256) := hb
  obtain ⟨a, cap, rfl, hcap, -⟩ := hv.byte
  have hlen : (bs.drop p).length = bs.length - p := List.length_drop
  rw [hlen] at hcap ⊢
  clear hv hb
  generalize hL : bs.length - p = L at *
  have hLn : L ≤ 1000000000000 := by omega
  have HL : Hid (bs.length - p = L ∧ p ≤ bs.length ∧ (bs.drop p).length = L) := ⟨hL, hp, hlen⟩
  clear hL hp hlen hn
  go_enter Tryz.func64, Tryz.ntmps64
  go_wp2
  go_loopw [2, 9] (fun v2 v9 wr => ∃ k n : Nat, k ≤ 9 ∧ k ≤ L ∧ v9 = .int .i64 k ∧ v2 = .int .u64 n ∧ Hid (n < 128 ^ k) ∧ Hid (Im.wgo bs p (10 - k) k n = Im.word bs p) ∧ wr = w) (fun _ v9 _ => 10 - (intOf v9).toNat)
  case atStart => exact ⟨0, 0, by omega, by omega, rfl, rfl, by show _ < _; omega, rfl, rfl⟩
  case round =>
    obtain ⟨k, n, hk, hkL, rfl, rfl, Hn, He, rfl⟩ := hrel
    obtain ⟨f, hf⟩ : ∃ f, 10 - k = f + 1 := ⟨9 - k, by omega⟩
    have Hf : Hid (10 - k = f + 1) := hf
    by_cases hlt : k < L
    · have hltI : (k : Int) < (L : Int) := by omega
      have hx : bs[p + k]? = some (bs[p + k]'(by have := HL.out; omega)) := List.getElem?_eq_getElem (by have := HL.out; omega)
      generalize bs[p + k]'(by have := HL.out; omega) = x at hx
      have hxb := Hb.out x (List.mem_of_getElem? hx)
      obtain ⟨a', cap', e', -, hel⟩ := Hv.out.byte
      rw [HL.out.2.2] at e'
      cases e'
      obtain ⟨q, off, rfl, -, hce⟩ := hel k x (by rw [List.getElem?_drop]; exact hx)
      have Hx : Hid (bs[p + k]? = some x) := hx
      clear hel hx hf
      go_upto_region 4 with fail
      obtain k0 | k0 | k0 | k0 | k0 | k0 | k0 | k0 | k0 | k0 : k = 0 ∨ k = 1 ∨ k = 2 ∨ k = 3 ∨ k = 4 ∨ k = 5 ∨ k = 6 ∨ k = 7 ∨ k = 8 ∨ k = 9 := by omega
      · subst k0
        have he : Im.wgo bs p (9 + 1) 0 n = Im.word bs p := He.out
        have hnM : n < 1 := Hn.out
        have hor := or_add n (x % 128) 1 0 rfl hnM (by omega)
        have hn0 : n = 0 := by omega
        subst hn0
        have hor' : bits BinOp.or IntKind.u64 0 ((x : Int) % 128) = ((0 + x % 128 * 1 : Nat) : Int) := by simpa using hor
        clear hor
        by_cases hs : x < 128
        · have hsI : (x : Int) < 128 := by omega
          go_wp2
          go_ret3
          refine ⟨?_, rfl⟩
          rw [numV_ok (n := 0 + x * 128 ^ 0) (r := p + 0 + 1) (by rw [← he, wgo_last Hx.out (by omega) hs])]
          rw [show 0 + x * 128 ^ 0 = 0 + x % 128 * 1 by omega, show p + 0 + 1 - p = 1 by omega]
          first | rfl | simp
        · have hsI : ¬ (x : Int) < 128 := by omega
          have He2 : Hid (Im.wgo bs p (10 - (0 + 1)) (0 + 1) (0 + x % 128 * 1) = Im.word bs p) := by
            show _ = _
            rw [← he, wgo_step Hx.out (by omega) hs, show 0 + (x - 128) * 128 ^ 0 = 0 + x % 128 * 1 by omega]
          have Hn2 : Hid (0 + x % 128 * 1 < 128 ^ (0 + 1)) := by show _ < _; omega
          go_wp2
          go_roundw
          case rel => exact ⟨0 + 1, 0 + x % 128 * 1, by omega, by omega, by go_num, by simp, Hn2, He2, trivial⟩
          case measure => simp [intOf]
      · subst k0
        have he : Im.wgo bs p (8 + 1) 1 n = Im.word bs p := He.out
        have hnM : n < 128 := Hn.out
        by_cases x0 : x = 0
        · have x0I : (x : Int) = 0 := by omega
          go_wp2
          go_ret3
          exact ⟨by rw [numV_wrong (q := p) (by rw [← he, wgo_bad Hx.out (by omega)])]; rfl, rfl⟩
        · have x0I : ¬ (x : Int) = 0 := by omega
          have hor := or_add n (x % 128) 128 7 rfl hnM (by omega)
          have hor' : bits BinOp.or IntKind.u64 (n : Int) ((x : Int) % 128 * 128) = ((n + x % 128 * 128 : Nat) : Int) := hor
          clear hor
          by_cases hs : x < 128
          · have hsI : (x : Int) < 128 := by omega
            go_wp2
            go_ret3
            refine ⟨?_, rfl⟩
            rw [numV_ok (n := n + x * 128 ^ 1) (r := p + 1 + 1) (by rw [← he, wgo_last Hx.out (by omega) hs])]
            rw [show n + x * 128 ^ 1 = n + x % 128 * 128 by omega, show p + 1 + 1 - p = 2 by omega]
            rfl
          · have hsI : ¬ (x : Int) < 128 := by omega
            have He2 : Hid (Im.wgo bs p (10 - (1 + 1)) (1 + 1) (n + x % 128 * 128) = Im.word bs p) := by
              show _ = _
              rw [← he, wgo_step Hx.out (by omega) hs, show n + (x - 128) * 128 ^ 1 = n + x % 128 * 128 by omega]
            have Hn2 : Hid (n + x % 128 * 128 < 128 ^ (1 + 1)) := by show _ < _; omega
            go_wp2
            go_roundw
            case rel => exact ⟨1 + 1, n + x % 128 * 128, by omega, by omega, by go_num, rfl, Hn2, He2, trivial⟩
            case measure => simp [intOf]
      · subst k0
        have he : Im.wgo bs p (7 + 1) 2 n = Im.word bs p := He.out
        have hnM : n < 16384 := Hn.out
        by_cases x0 : x = 0
        · have x0I : (x : Int) = 0 := by omega
          go_wp2
          go_ret3
          exact ⟨by rw [numV_wrong (q := p) (by rw [← he, wgo_bad Hx.out (by omega)])]; rfl, rfl⟩
        · have x0I : ¬ (x : Int) = 0 := by omega
          have hor := or_add n (x % 128) 16384 14 rfl hnM (by omega)
          have hor' : bits BinOp.or IntKind.u64 (n : Int) ((x : Int) % 128 * 16384) = ((n + x % 128 * 16384 : Nat) : Int) := hor
          clear hor
          by_cases hs : x < 128
          · have hsI : (x : Int) < 128 := by omega
            go_wp2
            go_ret3
            refine ⟨?_, rfl⟩
            rw [numV_ok (n := n + x * 128 ^ 2) (r := p + 2 + 1) (by rw [← he, wgo_last Hx.out (by omega) hs])]
            rw [show n + x * 128 ^ 2 = n + x % 128 * 16384 by omega, show p + 2 + 1 - p = 3 by omega]
            rfl
          · have hsI : ¬ (x : Int) < 128 := by omega
            have He2 : Hid (Im.wgo bs p (10 - (2 + 1)) (2 + 1) (n + x % 128 * 16384) = Im.word bs p) := by
              show _ = _
              rw [← he, wgo_step Hx.out (by omega) hs, show n + (x - 128) * 128 ^ 2 = n + x % 128 * 16384 by omega]
            have Hn2 : Hid (n + x % 128 * 16384 < 128 ^ (2 + 1)) := by show _ < _; omega
            go_wp2
            go_roundw
            case rel => exact ⟨2 + 1, n + x % 128 * 16384, by omega, by omega, by go_num, rfl, Hn2, He2, trivial⟩
            case measure => simp [intOf]
      · subst k0
        have he : Im.wgo bs p (6 + 1) 3 n = Im.word bs p := He.out
        have hnM : n < 2097152 := Hn.out
        by_cases x0 : x = 0
        · have x0I : (x : Int) = 0 := by omega
          go_wp2
          go_ret3
          exact ⟨by rw [numV_wrong (q := p) (by rw [← he, wgo_bad Hx.out (by omega)])]; rfl, rfl⟩
        · have x0I : ¬ (x : Int) = 0 := by omega
          have hor := or_add n (x % 128) 2097152 21 rfl hnM (by omega)
          have hor' : bits BinOp.or IntKind.u64 (n : Int) ((x : Int) % 128 * 2097152) = ((n + x % 128 * 2097152 : Nat) : Int) := hor
          clear hor
          by_cases hs : x < 128
          · have hsI : (x : Int) < 128 := by omega
            go_wp2
            go_ret3
            refine ⟨?_, rfl⟩
            rw [numV_ok (n := n + x * 128 ^ 3) (r := p + 3 + 1) (by rw [← he, wgo_last Hx.out (by omega) hs])]
            rw [show n + x * 128 ^ 3 = n + x % 128 * 2097152 by omega, show p + 3 + 1 - p = 4 by omega]
            rfl
          · have hsI : ¬ (x : Int) < 128 := by omega
            have He2 : Hid (Im.wgo bs p (10 - (3 + 1)) (3 + 1) (n + x % 128 * 2097152) = Im.word bs p) := by
              show _ = _
              rw [← he, wgo_step Hx.out (by omega) hs, show n + (x - 128) * 128 ^ 3 = n + x % 128 * 2097152 by omega]
            have Hn2 : Hid (n + x % 128 * 2097152 < 128 ^ (3 + 1)) := by show _ < _; omega
            go_wp2
            go_roundw
            case rel => exact ⟨3 + 1, n + x % 128 * 2097152, by omega, by omega, by go_num, rfl, Hn2, He2, trivial⟩
            case measure => simp [intOf]
      · subst k0
        have he : Im.wgo bs p (5 + 1) 4 n = Im.word bs p := He.out
        have hnM : n < 268435456 := Hn.out
        by_cases x0 : x = 0
        · have x0I : (x : Int) = 0 := by omega
          go_wp2
          go_ret3
          exact ⟨by rw [numV_wrong (q := p) (by rw [← he, wgo_bad Hx.out (by omega)])]; rfl, rfl⟩
        · have x0I : ¬ (x : Int) = 0 := by omega
          have hor := or_add n (x % 128) 268435456 28 rfl hnM (by omega)
          have hor' : bits BinOp.or IntKind.u64 (n : Int) ((x : Int) % 128 * 268435456) = ((n + x % 128 * 268435456 : Nat) : Int) := hor
          clear hor
          by_cases hs : x < 128
          · have hsI : (x : Int) < 128 := by omega
            go_wp2
            go_ret3
            refine ⟨?_, rfl⟩
            rw [numV_ok (n := n + x * 128 ^ 4) (r := p + 4 + 1) (by rw [← he, wgo_last Hx.out (by omega) hs])]
            rw [show n + x * 128 ^ 4 = n + x % 128 * 268435456 by omega, show p + 4 + 1 - p = 5 by omega]
            rfl
          · have hsI : ¬ (x : Int) < 128 := by omega
            have He2 : Hid (Im.wgo bs p (10 - (4 + 1)) (4 + 1) (n + x % 128 * 268435456) = Im.word bs p) := by
              show _ = _
              rw [← he, wgo_step Hx.out (by omega) hs, show n + (x - 128) * 128 ^ 4 = n + x % 128 * 268435456 by omega]
            have Hn2 : Hid (n + x % 128 * 268435456 < 128 ^ (4 + 1)) := by show _ < _; omega
            go_wp2
            go_roundw
            case rel => exact ⟨4 + 1, n + x % 128 * 268435456, by omega, by omega, by go_num, rfl, Hn2, He2, trivial⟩
            case measure => simp [intOf]
      · subst k0
        have he : Im.wgo bs p (4 + 1) 5 n = Im.word bs p := He.out
        have hnM : n < 34359738368 := Hn.out
        by_cases x0 : x = 0
        · have x0I : (x : Int) = 0 := by omega
          go_wp2
          go_ret3
          exact ⟨by rw [numV_wrong (q := p) (by rw [← he, wgo_bad Hx.out (by omega)])]; rfl, rfl⟩
        · have x0I : ¬ (x : Int) = 0 := by omega
          have hor := or_add n (x % 128) 34359738368 35 rfl hnM (by omega)
          have hor' : bits BinOp.or IntKind.u64 (n : Int) ((x : Int) % 128 * 34359738368) = ((n + x % 128 * 34359738368 : Nat) : Int) := hor
          clear hor
          by_cases hs : x < 128
          · have hsI : (x : Int) < 128 := by omega
            go_wp2
            go_ret3
            refine ⟨?_, rfl⟩
            rw [numV_ok (n := n + x * 128 ^ 5) (r := p + 5 + 1) (by rw [← he, wgo_last Hx.out (by omega) hs])]
            rw [show n + x * 128 ^ 5 = n + x % 128 * 34359738368 by omega, show p + 5 + 1 - p = 6 by omega]
            rfl
          · have hsI : ¬ (x : Int) < 128 := by omega
            have He2 : Hid (Im.wgo bs p (10 - (5 + 1)) (5 + 1) (n + x % 128 * 34359738368) = Im.word bs p) := by
              show _ = _
              rw [← he, wgo_step Hx.out (by omega) hs, show n + (x - 128) * 128 ^ 5 = n + x % 128 * 34359738368 by omega]
            have Hn2 : Hid (n + x % 128 * 34359738368 < 128 ^ (5 + 1)) := by show _ < _; omega
            go_wp2
            go_roundw
            case rel => exact ⟨5 + 1, n + x % 128 * 34359738368, by omega, by omega, by go_num, rfl, Hn2, He2, trivial⟩
            case measure => simp [intOf]
      · subst k0
        have he : Im.wgo bs p (3 + 1) 6 n = Im.word bs p := He.out
        have hnM : n < 4398046511104 := Hn.out
        by_cases x0 : x = 0
        · have x0I : (x : Int) = 0 := by omega
          go_wp2
          go_ret3
          exact ⟨by rw [numV_wrong (q := p) (by rw [← he, wgo_bad Hx.out (by omega)])]; rfl, rfl⟩
        · have x0I : ¬ (x : Int) = 0 := by omega
          have hor := or_add n (x % 128) 4398046511104 42 rfl hnM (by omega)
          have hor' : bits BinOp.or IntKind.u64 (n : Int) ((x : Int) % 128 * 4398046511104) = ((n + x % 128 * 4398046511104 : Nat) : Int) := hor
          clear hor
          by_cases hs : x < 128
          · have hsI : (x : Int) < 128 := by omega
            go_wp2
            go_ret3
            refine ⟨?_, rfl⟩
            rw [numV_ok (n := n + x * 128 ^ 6) (r := p + 6 + 1) (by rw [← he, wgo_last Hx.out (by omega) hs])]
            rw [show n + x * 128 ^ 6 = n + x % 128 * 4398046511104 by omega, show p + 6 + 1 - p = 7 by omega]
            rfl
          · have hsI : ¬ (x : Int) < 128 := by omega
            have He2 : Hid (Im.wgo bs p (10 - (6 + 1)) (6 + 1) (n + x % 128 * 4398046511104) = Im.word bs p) := by
              show _ = _
              rw [← he, wgo_step Hx.out (by omega) hs, show n + (x - 128) * 128 ^ 6 = n + x % 128 * 4398046511104 by omega]
            have Hn2 : Hid (n + x % 128 * 4398046511104 < 128 ^ (6 + 1)) := by show _ < _; omega
            go_wp2
            go_roundw
            case rel => exact ⟨6 + 1, n + x % 128 * 4398046511104, by omega, by omega, by go_num, rfl, Hn2, He2, trivial⟩
            case measure => simp [intOf]
      · subst k0
        have he : Im.wgo bs p (2 + 1) 7 n = Im.word bs p := He.out
        have hnM : n < 562949953421312 := Hn.out
        by_cases x0 : x = 0
        · have x0I : (x : Int) = 0 := by omega
          go_wp2
          go_ret3
          exact ⟨by rw [numV_wrong (q := p) (by rw [← he, wgo_bad Hx.out (by omega)])]; rfl, rfl⟩
        · have x0I : ¬ (x : Int) = 0 := by omega
          have hor := or_add n (x % 128) 562949953421312 49 rfl hnM (by omega)
          have hor' : bits BinOp.or IntKind.u64 (n : Int) ((x : Int) % 128 * 562949953421312) = ((n + x % 128 * 562949953421312 : Nat) : Int) := hor
          clear hor
          by_cases hs : x < 128
          · have hsI : (x : Int) < 128 := by omega
            go_wp2
            go_ret3
            refine ⟨?_, rfl⟩
            rw [numV_ok (n := n + x * 128 ^ 7) (r := p + 7 + 1) (by rw [← he, wgo_last Hx.out (by omega) hs])]
            rw [show n + x * 128 ^ 7 = n + x % 128 * 562949953421312 by omega, show p + 7 + 1 - p = 8 by omega]
            rfl
          · have hsI : ¬ (x : Int) < 128 := by omega
            have He2 : Hid (Im.wgo bs p (10 - (7 + 1)) (7 + 1) (n + x % 128 * 562949953421312) = Im.word bs p) := by
              show _ = _
              rw [← he, wgo_step Hx.out (by omega) hs, show n + (x - 128) * 128 ^ 7 = n + x % 128 * 562949953421312 by omega]
            have Hn2 : Hid (n + x % 128 * 562949953421312 < 128 ^ (7 + 1)) := by show _ < _; omega
            go_wp2
            go_roundw
            case rel => exact ⟨7 + 1, n + x % 128 * 562949953421312, by omega, by omega, by go_num, rfl, Hn2, He2, trivial⟩
            case measure => simp [intOf]
      · subst k0
        have he : Im.wgo bs p (1 + 1) 8 n = Im.word bs p := He.out
        have hnM : n < 72057594037927936 := Hn.out
        by_cases x0 : x = 0
        · have x0I : (x : Int) = 0 := by omega
          go_wp2
          go_ret3
          exact ⟨by rw [numV_wrong (q := p) (by rw [← he, wgo_bad Hx.out (by omega)])]; rfl, rfl⟩
        · have x0I : ¬ (x : Int) = 0 := by omega
          have hor := or_add n (x % 128) 72057594037927936 56 rfl hnM (by omega)
          have hor' : bits BinOp.or IntKind.u64 (n : Int) ((x : Int) % 128 * 72057594037927936) = ((n + x % 128 * 72057594037927936 : Nat) : Int) := hor
          clear hor
          by_cases hs : x < 128
          · have hsI : (x : Int) < 128 := by omega
            go_wp2
            go_ret3
            refine ⟨?_, rfl⟩
            rw [numV_ok (n := n + x * 128 ^ 8) (r := p + 8 + 1) (by rw [← he, wgo_last Hx.out (by omega) hs])]
            rw [show n + x * 128 ^ 8 = n + x % 128 * 72057594037927936 by omega, show p + 8 + 1 - p = 9 by omega]
            rfl
          · have hsI : ¬ (x : Int) < 128 := by omega
            have He2 : Hid (Im.wgo bs p (10 - (8 + 1)) (8 + 1) (n + x % 128 * 72057594037927936) = Im.word bs p) := by
              show _ = _
              rw [← he, wgo_step Hx.out (by omega) hs, show n + (x - 128) * 128 ^ 8 = n + x % 128 * 72057594037927936 by omega]
            have Hn2 : Hid (n + x % 128 * 72057594037927936 < 128 ^ (8 + 1)) := by show _ < _; omega
            go_wp2
            go_roundw
            case rel => exact ⟨8 + 1, n + x % 128 * 72057594037927936, by omega, by omega, by go_num, rfl, Hn2, He2, trivial⟩
            case measure => simp [intOf]
      · subst k0
        have he : Im.wgo bs p (0 + 1) 9 n = Im.word bs p := He.out
        have hnM : n < 9223372036854775808 := Hn.out
        by_cases x0 : x = 0
        · have x0I : (x : Int) = 0 := by omega
          go_wp2
          go_ret3
          exact ⟨by rw [numV_wrong (q := p) (by rw [← he, wgo_bad Hx.out (by omega)])]; rfl, rfl⟩
        · have x0I : ¬ (x : Int) = 0 := by omega
          by_cases x1 : 1 < x
          · have x1I : (x : Int) > 1 := by omega
            go_wp2
            go_ret3
            exact ⟨by rw [numV_wrong (q := p) (by rw [← he, wgo_bad Hx.out (by omega)])]; rfl, rfl⟩
          · have x1I : ¬ (x : Int) > 1 := by omega
            have hx1 : x = 1 := by omega
            subst hx1
            have hor := or_add n 1 9223372036854775808 63 rfl hnM (by omega)
            have hor' : bits BinOp.or IntKind.u64 (n : Int) 9223372036854775808 = ((n + 1 * 9223372036854775808 : Nat) : Int) := hor
            clear hor
            go_wp2
            go_ret3
            refine ⟨?_, rfl⟩
            rw [numV_ok (n := n + 1 * 128 ^ 9) (r := p + 9 + 1) (by rw [← he, wgo_last Hx.out (by omega) (by omega)])]
            rw [show p + 9 + 1 - p = 10 by omega]
            rfl
    · have hltI : ¬ (k : Int) < (L : Int) := by omega
      go_wp2
      go_ret3
      refine ⟨?_, rfl⟩
      rw [numV_short (q := bs.length) (by rw [← He.out, Hf.out, wgo_short (List.getElem?_eq_none (by have := HL.out; omega))])]
      rfl

/-- The bytes from place p on. -/
def restV (a : Option Addr) (p n cap : Nat) : Value := sliced a p n cap 1

theorem lrd_drop {n0 : Nat} {w : World} {a : Option Addr} {cap p : Nat} {bs : List Nat} (h : Lrd n0 w (.slice a bs.length cap) .u8 (bs.map Int.ofNat)) (hp : p ≤ bs.length) : Lrd n0 w (restV a p bs.length cap) .u8 ((bs.drop p).map Int.ofNat) := by
  obtain ⟨a', cap', e, hc, h2⟩ := h.byte
  cases e
  refine ⟨if cap = p then a else a.map (·.add (p * 1)), cap - p, by simp [restV, sliced], by simp; omega, fun i z hz => ?_⟩
  rw [List.getElem?_map, List.getElem?_drop] at hz
  obtain ⟨x, hx, rfl⟩ := Option.map_eq_some_iff.1 hz
  obtain ⟨q, off, rfl, hq, hc2⟩ := h2 (p + i) x hx
  have hlt := (List.getElem?_eq_some_iff.1 hx).1
  refine ⟨q, off + p, by rw [if_neg (by omega)]; simp [Addr.add_lit], hq, ?_⟩
  rw [Nat.add_assoc]
  exact hc2

theorem run_rest (wx : World) (a : Option Addr) (p n cap : Nat) (hp : p ≤ n) : (Instr.slice 22 (.slice a n cap) (some (.int .i64 (p : Int))) none none).run Tryz.prog wx = .ok (restV a p n cap) wx := by
  have ht' : Tryz.prog.underlying 22 = some (.slice (Tryz.prog.elem 22)) := by simp [Program.elem, Tryz.underlying22]
  have he : Tryz.prog.elem 22 = 5 := by simp [Program.elem, Tryz.underlying22]
  have hz : (Go.sizeOf 5).run Tryz.prog wx = .ok 1 wx := by kernel_rfl
  rw [run_slice_l wx 22 _ _ _ ht' .i64 _ (by omega) (by omega), he, hz]
  simp [Result.andThen, restV]

theorem word_cases {bs : List Nat} (hb : ∀ x, x ∈ bs → x < 256) (p : Nat) : (∃ n r, Im.word bs p = .ok (n, r) ∧ n < 18446744073709551616 ∧ p < r ∧ r ≤ bs.length) ∨ Im.word bs p = .error (bs.length, 160) ∨ Im.word bs p = .error (p, 161) := by
  rcases hw : Im.word bs p with ⟨pl, c⟩ | ⟨n, r⟩
  · rcases Im.wgo_err _ _ _ _ _ hw with ⟨rfl, rfl⟩ | ⟨rfl, rfl⟩
    · exact .inr (.inl rfl)
    · exact .inr (.inr rfl)
  · have h1 := Im.wgo_end _ _ _ _ _ hw
    exact .inl ⟨n, r, rfl, (Im.word_inv (fun i x hx => hb x (List.mem_of_getElem? hx)) hw).1, by omega, h1.2⟩

set_option maxHeartbeats 8000000 in
/-- A number of any size. -/
theorem rnumber_any {w : World} {n0 R p : Nat} {v : Value} {bs : List Nat} (h : Rdr w n0 R v bs p) (hb : ∀ x, x ∈ bs → x < 256) :
    Calls Tryz.prog 48 #[.pointer (some ⟨R, 0, none⟩)] w fun e w' => Rans n0 R v bs w w' (Im.word bs p) e (fun n e => n < 18446744073709551616 ∧ e = .returned (.int .u64 (n : Int))) := by
  have H : Hid (Rdr w n0 R v bs p) := h
  have Hb : Hid (∀ x, x ∈ bs → x < 256) := hb
  have hR := Kg.heap_lt h.b
  obtain ⟨a, cap, rfl, hcap, -⟩ := h.l.byte
  have hsl := fun wx => run_rest wx a p bs.length cap h.le
  have Hl : Hid (Lrd n0 w (restV a p bs.length cap) .u8 ((bs.drop p).map Int.ofNat)) := lrd_drop h.l h.le
  have Hn0 : Hid (n0 ≤ w.heap.size) := by have := h.lo; show _ ≤ _; omega
  have hw := word_cases hb p
  clear h hb
  go_enter Tryz.func48, Tryz.ntmps48
  go_upto_region 1 with fail
  haveI hinh : Inhabited (Kg.Bel w) := ⟨⟨w, Below.refl _ _⟩⟩
  have z0 : ∀ q : Kg.Bel w, q.v.cell? ⟨R, 0, none⟩ = some (.slice a bs.length cap) := fun q => (q.h.cell (p := ⟨R, 0, none⟩) hR).trans ((Kg.heap_cell H.out.b 0).trans rfl)
  have z1 : ∀ q : Kg.Bel w, q.v.cell? ⟨R, 1, none⟩ = some (.int .i64 (p : Int)) := fun q => (q.h.cell (p := ⟨R, 1, none⟩) hR).trans ((Kg.heap_cell H.out.b 1).trans rfl)
  have hC : ∀ q : Kg.Bel w, Calls Tryz.prog 64 #[restV a p bs.length cap] q.v fun e w' => e = .returned (numV bs p) ∧ Below q.v.heap.size q.v w' := fun q => (onumber_any (Hl.out.below (q.h.mono Hn0.out)) Hb.out H.out.le H.out.n).mono (fun e w' h => ⟨h.1, by rw [h.2]; exact Below.refl _ _⟩)
  generalize restV a p bs.length cap = V at *
  rcases hw with ⟨n, r, hw, hn, hpr, hrl⟩ | hw | hw
  · rw [numV_ok hw] at hC
    have Hw : Hid (Im.word bs p = .ok (n, r)) := hw
    clear hw
    refine Kg.region_below Kg.mixed (by kernel_rfl) ?_
    repeat (go_big_quiet_step (exact Kg.calls_bel (hC _)))
    refine wpQuiet_nil ?_
    rintro w5 ⟨⟨w5, b5⟩, rfl⟩
    clear z0 z1 hinh hC
    have hr5 := H.out.below b5
    have HT5 : Hid (Kg.Touch [R] w w5) := Kg.Touch.of_below b5 _
    have c1 := (Kg.heap_cell hr5.b 1).trans (show _ = some (.int .i64 (p : Int)) from rfl)
    have f1 := Kg.heap_frozen hr5.b 1
    have hg := hr5.go r hrl
    have hle := hr5.le
    have hnn := hr5.n
    have e9 : (p : Int) + ((r - p : Nat) : Int) = (r : Int) := by omega
    have HG : Hid (Rdr (w5.setCell ⟨R, 1, none⟩ (.int .i64 (r : Int))) n0 R (.slice a bs.length cap) bs r ∧ Kg.Touch [R] w (w5.setCell ⟨R, 1, none⟩ (.int .i64 (r : Int)))) := ⟨hg, HT5.out.trans (Kg.Touch.setCell _ _ _ (by simp))⟩
    clear hg hr5 b5
    generalize ((r - p : Nat) : Int) = d at *
    go_wp2
    go_ret
    exact ⟨HG.out.2, by rw [Hw.out]; exact ⟨⟨hn, rfl⟩, HG.out.1⟩⟩
  · rw [numV_short hw] at hC
    have Hw : Hid (Im.word bs p = .error (bs.length, 160)) := hw
    clear hw
    refine Kg.region_below Kg.mixed (by kernel_rfl) ?_
    repeat (go_big_quiet_step (exact Kg.calls_bel (hC _)))
    refine wpQuiet_nil ?_
    rintro w5 ⟨⟨w5, b5⟩, rfl⟩
    clear z0 z1 hinh hC
    have HT5 : Hid (Kg.Touch [R] w w5) := Kg.Touch.of_below b5 _
    have hS := short_any (H.out.below b5)
    clear b5
    go_wp2_with fail
    refine hS.mono ?_
    rintro e w6 ⟨rfl, rfl⟩
    exact ⟨rfl, HT5.out, by rw [Hw.out]; rfl⟩
  · rw [numV_wrong hw] at hC
    have Hw : Hid (Im.word bs p = .error (p, 161)) := hw
    clear hw
    refine Kg.region_below Kg.mixed (by kernel_rfl) ?_
    repeat (go_big_quiet_step (exact Kg.calls_bel (hC _)))
    refine wpQuiet_nil ?_
    rintro w5 ⟨⟨w5, b5⟩, rfl⟩
    clear z0 z1 hinh hC
    have HT5 : Hid (Kg.Touch [R] w w5) := Kg.Touch.of_below b5 _
    have c1 := (Kg.heap_cell (H.out.below b5).b 1).trans (show _ = some (.int .i64 (p : Int)) from rfl)
    have hS := give_any p 161 w5
    clear b5
    go_wp2_with fail
    refine hS.mono ?_
    rintro e w6 ⟨rfl, rfl⟩
    exact ⟨rfl, HT5.out, by rw [Hw.out]; rfl⟩

end Go.Proofs.YtblbiikfipcbcaaGreatDoor

/-
  Images, the reader: bounded numbers, counts, the beginning.
-/
set_option linter.unusedVariables false
set_option maxRecDepth 20000
namespace Go.Proofs.YtblbiikfipcbcaaGreatDoor
open Go.RowKit Go.Shelf

theorem Rans.trans {α β : Type} {n0 R : Nat} {v : Value} {bs : List Nat} {w w' w'' : World} {x : Except (Nat × Nat) (β × Nat)} {e : Ending} {ok : β → Ending → Prop} (t : Kg.Touch [R] w w') (h : Rans n0 R v bs w' w'' x e ok) : Rans n0 R v bs w w'' x e ok := ⟨t.trans h.1, h.2⟩

theorem number_def (bs : List Nat) (p : Nat) : Im.number bs p = match Im.word bs p with | .ok (n, r) => if Im.great < n then .error (p, 161) else .ok (n, r) | .error e => .error e := by
  unfold Im.number
  rfl

set_option maxHeartbeats 4000000 in
/-- A number that is no raw field. -/
theorem bounded_any {w : World} {n0 R p : Nat} {v : Value} {bs : List Nat} (h : Rdr w n0 R v bs p) (hb : ∀ x, x ∈ bs → x < 256) :
    Calls Tryz.prog 47 #[.pointer (some ⟨R, 0, none⟩)] w fun e w' => Rans n0 R v bs w w' (Im.number bs p) e (fun n e => n ≤ 4611686018427387905 ∧ e = .returned (.int .u64 (n : Int))) := by
  have c1 := (Kg.heap_cell h.b 1).trans (show _ = some (.int .i64 (p : Int)) from rfl)
  have hC := rnumber_any h hb
  clear hb
  go_enter Tryz.func47, Tryz.ntmps47
  go_wp2_with fail
  refine hC.mono ?_
  rintro e w1 ⟨t1, h1⟩
  have HT1 : Hid (Kg.Touch [R] w w1) := t1
  have He := number_def bs p
  clear hC t1 c1
  rcases hw : Im.word bs p with ⟨pl, c⟩ | ⟨n, r⟩
  · rw [hw] at h1 He
    obtain rfl : e = .panicked (thrown (pl : Int) (c : Int)) := h1
    exact ⟨rfl, HT1.out, by rw [He]⟩
  · rw [hw] at h1 He
    obtain ⟨⟨hn, rfl⟩, hr⟩ := h1
    have Hr : Hid (Rdr w1 n0 R v bs r) := hr
    have HE : Hid (Im.number bs p = if Im.great < n then .error (p, 161) else .ok (n, r)) := He
    clear hr He hw
    by_cases hg : n ≤ 4611686018427387905
    · have hgI : ¬ (n : Int) > 4611686018427387905 := by omega
      go_wp2
      go_ret
      refine ⟨HT1.out, ?_⟩
      rw [HE.out, if_neg (by show ¬ 2 ^ 62 + 1 < n; omega)]
      exact ⟨⟨hg, rfl⟩, Hr.out⟩
    · have hgI : (n : Int) > 4611686018427387905 := by omega
      have hC := give_any p 161 w1
      go_wp2_with fail
      refine hC.mono ?_
      rintro e w2 ⟨rfl, rfl⟩
      refine ⟨rfl, HT1.out, ?_⟩
      rw [HE.out, if_pos (by show 2 ^ 62 + 1 < n; omega)]
      rfl

theorem many_def (bs : List Nat) (p : Nat) : Im.many bs p = match Im.number bs p with | .ok (n, r) => if bs.length - r < n then .error (bs.length, 160) else .ok (n, r) | .error e => .error e := by
  unfold Im.many
  rfl

set_option maxHeartbeats 4000000 in
/-- How many there are. -/
theorem count_any {w : World} {n0 R p : Nat} {v : Value} {bs : List Nat} (h : Rdr w n0 R v bs p) (hb : ∀ x, x ∈ bs → x < 256) :
    Calls Tryz.prog 49 #[.pointer (some ⟨R, 0, none⟩)] w fun e w' => Rans n0 R v bs w w' (Im.many bs p) e (fun n e => n ≤ 1000000000000 ∧ e = .returned (.int .i64 (n : Int))) := by
  have hC := bounded_any h hb
  have hbl := h.n
  clear hb
  go_enter Tryz.func49, Tryz.ntmps49
  go_wp2_with fail
  refine hC.mono ?_
  rintro e w1 ⟨t1, h1⟩
  have HT1 : Hid (Kg.Touch [R] w w1) := t1
  have He := many_def bs p
  clear hC t1
  rcases hw : Im.number bs p with ⟨pl, c⟩ | ⟨n, r⟩
  · rw [hw] at h1 He
    obtain rfl : e = .panicked (thrown (pl : Int) (c : Int)) := h1
    exact ⟨rfl, HT1.out, by rw [He]⟩
  · rw [hw] at h1 He
    obtain ⟨⟨hn, rfl⟩, hr⟩ := h1
    have Hr : Hid (Rdr w1 n0 R v bs r) := hr
    have hrl := hr.le
    have HE : Hid (Im.many bs p = if bs.length - r < n then .error (bs.length, 160) else .ok (n, r)) := He
    have hL := left_any hr
    clear hr He hw
    go_wp2_with fail
    refine hL.mono ?_
    rintro e w2 ⟨rfl, b2⟩
    have Hr2 : Hid (Rdr w2 n0 R v bs r) := Hr.out.below b2
    have HT2 : Hid (Kg.Touch [R] w w2) := HT1.out.trans (Kg.Touch.of_below b2 _)
    have hlm : ((bs.length : Int) - (r : Int)) % 18446744073709551616 = (bs.length : Int) - (r : Int) := by omega
    clear hL b2
    by_cases hg : n ≤ bs.length - r
    · have hgI : ¬ (n : Int) > (bs.length : Int) - (r : Int) := by omega
      have hnn : n ≤ 1000000000000 := by omega
      go_wp2
      go_ret
      refine ⟨HT2.out, ?_⟩
      rw [HE.out, if_neg (by omega)]
      exact ⟨⟨hnn, rfl⟩, Hr2.out⟩
    · have hgI : (n : Int) > (bs.length : Int) - (r : Int) := by omega
      have hC := short_any Hr2.out
      go_wp2_with fail
      refine hC.mono ?_
      rintro e w3 ⟨rfl, rfl⟩
      refine ⟨rfl, HT2.out, ?_⟩
      rw [HE.out, if_pos (by omega)]
      rfl

end Go.Proofs.YtblbiikfipcbcaaGreatDoor

