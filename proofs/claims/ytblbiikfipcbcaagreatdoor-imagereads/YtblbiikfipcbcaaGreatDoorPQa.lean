import Derived.Test.YtblbiikfipcbcaaGreatDoorPRa
import Derived.Test.YtblbiikfipcbcaaGreatDoorPIp
import Derived.Deep.Cut
import Derived.Deep.CutRange
import Derived.Test.YtblbiikfipcbcaaGreatDoorPRe
import Derived.Test.YtblbiikfipcbcaaGreatDoorPId
/-
  Images, the document's reader: its text, faults, words.
-/
set_option linter.unusedVariables false
set_option maxRecDepth 20000
namespace Go.Proofs.YtblbiikfipcbcaaGreatDoor
open Go.RowKit Go.Shelf

/-- The document's text in block T, at place p, without a fault. -/
structure TOk (w : World) (n0 T : Nat) (v : Value) (bs : List Nat) (p : Nat) : Prop where
  b : w.heap[T]? = some (.cells #[v, .int .i64 (p : Int), .int .i64 0, .int .i64 0] 52 (0, 0))
  l : Lrd n0 w v .u8 (bs.map Int.ofNat)
  lo : n0 ≤ T
  le : p ≤ bs.length
  n : bs.length ≤ 1000000000000

/-- With its first fault. -/
structure TErr (w : World) (n0 T : Nat) (v : Value) (bs : List Nat) (pl k : Nat) : Prop where
  b : ∃ a : Nat, w.heap[T]? = some (.cells #[v, .int .i64 (a : Int), .int .i64 (k : Int), .int .i64 (pl : Int)] 52 (0, 0))
  l : Lrd n0 w v .u8 (bs.map Int.ofNat)
  lo : n0 ≤ T
  n : bs.length ≤ 1000000000000
  k0 : 160 ≤ k ∧ k ≤ 164
  pl0 : pl ≤ bs.length

theorem TOk.touch {w w' : World} {n0 T p : Nat} {v : Value} {bs : List Nat} {F : List Nat} (h : TOk w n0 T v bs p) (t : Kg.Touch F w w') (hn : n0 ≤ w.heap.size) (hF : ∀ k, k ∈ F → n0 ≤ k ∧ k ≠ T) : TOk w' n0 T v bs p :=
  ⟨(t.block T (Kg.heap_lt h.b) (fun hk => (hF T hk).2 rfl)).trans h.b, h.l.below (t.below hn (fun k hk => (hF k hk).1)), h.lo, h.le, h.n⟩

theorem TErr.touch {w w' : World} {n0 T pl k : Nat} {v : Value} {bs : List Nat} {F : List Nat} (h : TErr w n0 T v bs pl k) (t : Kg.Touch F w w') (hn : n0 ≤ w.heap.size) (hF : ∀ k, k ∈ F → n0 ≤ k ∧ k ≠ T) : TErr w' n0 T v bs pl k := by
  obtain ⟨a, hb⟩ := h.b
  exact ⟨⟨a, (t.block T (Kg.heap_lt hb) (fun hk => (hF T hk).2 rfl)).trans hb⟩, h.l.below (t.below hn (fun k hk => (hF k hk).1)), h.lo, h.n, h.k0, h.pl0⟩

theorem TOk.below {w w' : World} {n0 T p : Nat} {v : Value} {bs : List Nat} (h : TOk w n0 T v bs p) (b : Below w.heap.size w w') : TOk w' n0 T v bs p :=
  h.touch (Kg.Touch.of_below b []) (by have := Kg.heap_lt h.b; have := h.lo; omega) (fun k hk => by cases hk)
theorem TErr.below {w w' : World} {n0 T pl k : Nat} {v : Value} {bs : List Nat} (h : TErr w n0 T v bs pl k) (b : Below w.heap.size w w') : TErr w' n0 T v bs pl k := by
  obtain ⟨a, hb⟩ := h.b
  exact h.touch (Kg.Touch.of_below b []) (by have := Kg.heap_lt hb; have := h.lo; omega) (fun k hk => by cases hk)

/-- What reading answers, and how the text is then. -/
def Tans {α : Type} (n0 T : Nat) (v : Value) (bs : List Nat) (w w' : World) (x : Except (Nat × Nat) (α × Nat)) (ok : α → Prop) (bad : Prop) : Prop :=
  Kg.Touch [T] w w' ∧ match x with
    | .ok (y, r) => ok y ∧ TOk w' n0 T v bs r
    | .error (pl, c) => bad ∧ TErr w' n0 T v bs pl c

set_option maxHeartbeats 4000000 in
theorem tfault_any {w : World} {n0 T p : Nat} {v : Value} {bs : List Nat} (h : TOk w n0 T v bs p) (pl k : Nat) (hk : 160 ≤ k ∧ k ≤ 164) (hpl : pl ≤ bs.length) :
    Calls Tryz.prog 11 #[.pointer (some ⟨T, 0, none⟩), .int .i64 (pl : Int), .int .i64 (k : Int)] w fun e w' => e = .returned (.tuple #[]) ∧ Kg.Touch [T] w w' ∧ TErr w' n0 T v bs pl k := by
  have c2 := (Kg.heap_cell h.b 2).trans (show _ = some (.int .i64 0) from rfl)
  have c3 := (Kg.heap_cell h.b 3).trans (show _ = some (.int .i64 0) from rfl)
  have f2 := Kg.heap_frozen h.b 2
  have f3 := Kg.heap_frozen h.b 3
  go_enter Tryz.func11, Tryz.ntmps11
  go_wp2
  go_end0
  have s2 := Kg.heap_set h.b 2 (.int .i64 (k : Int))
  have s3 := Kg.heap_set s2 3 (.int .i64 (pl : Int))
  have t : Kg.Touch [T] w ((w.setCell ⟨T, 2, none⟩ (.int .i64 (k : Int))).setCell ⟨T, 3, none⟩ (.int .i64 (pl : Int))) := (Kg.Touch.setCell _ _ _ (by simp)).trans (Kg.Touch.setCell _ _ _ (by simp))
  exact ⟨rfl, t, ⟨p, s3.trans rfl⟩, h.l.below (t.below (by have := Kg.heap_lt h.b; have := h.lo; omega) (fun k hk => by simp at hk; rw [hk]; exact h.lo)), h.lo, h.n, hk, hpl⟩

set_option maxHeartbeats 4000000 in
theorem tword_err {w : World} {n0 T pl k : Nat} {v : Value} {bs : List Nat} (h : TErr w n0 T v bs pl k) :
    Calls Tryz.prog 32 #[.pointer (some ⟨T, 0, none⟩)] w fun e w' => e = .returned (.int .u64 0) ∧ w' = w := by
  obtain ⟨a, hb⟩ := h.b
  have c2 := (Kg.heap_cell hb 2).trans (show _ = some (.int .i64 (k : Int)) from rfl)
  have hk := h.k0
  have hkz : ¬ (k : Int) = 0 := by omega
  have hkb : ((k : Int) != 0) = true := by simpa using hkz
  go_enter Tryz.func32, Tryz.ntmps32
  go_wp2
  go_ret
  exact ⟨rfl, rfl⟩

theorem TOk.go {w : World} {n0 T p : Nat} {v : Value} {bs : List Nat} (h : TOk w n0 T v bs p) (q : Nat) (hq : q ≤ bs.length) : TOk (w.setCell ⟨T, 1, none⟩ (.int .i64 (q : Int))) n0 T v bs q := by
  have t : Below n0 w (w.setCell ⟨T, 1, none⟩ (.int .i64 (q : Int))) := Below.setCell (Below.refl _ _) h.lo _
  exact ⟨(Kg.heap_set h.b 1 _).trans rfl, h.l.below t, h.lo, hq, h.n⟩

theorem pow_9 {i M : Nat} (h : M = 128 ^ i) (hi : i < 10) : (i < 9 → M ≤ 72057594037927936) ∧ M ≤ 9223372036854775808 := by
  subst h
  exact ⟨fun h => Nat.pow_le_pow_right (by decide) (show i ≤ 8 by omega), Nat.pow_le_pow_right (by decide) (show i ≤ 9 by omega)⟩

theorem wrap_mul (n x M : Nat) (h : n + x * M < 18446744073709551616) : IntKind.u64.wrap ((n : Int) + IntKind.u64.wrap ((x : Int) * (M : Int))) = ((n + x * M : Nat) : Int) := by
  have e : (x : Int) * (M : Int) = ((x * M : Nat) : Int) := by push_cast; rfl
  rw [e]
  simp only [IntKind.wrap_u64]
  generalize x * M = y at *
  omega

set_option maxHeartbeats 8000000 in
/-- Any number. -/
theorem tword_ok {w : World} {n0 T p : Nat} {v : Value} {bs : List Nat} (h : TOk w n0 T v bs p) (hb : ∀ x, x ∈ bs → x < 256) :
    Calls Tryz.prog 32 #[.pointer (some ⟨T, 0, none⟩)] w fun e w' => Tans n0 T v bs w w' (Im.word bs p) (fun n => n < 18446744073709551616 ∧ e = .returned (.int .u64 (n : Int))) (e = .returned (.int .u64 0)) := by
  have H : Hid (TOk w n0 T v bs p) := h
  have Hb : Hid (∀ x, x ∈ bs → x < 256) := hb
  have hn := h.n
  have hle := h.le
  have c2 := (Kg.heap_cell h.b 2).trans (show _ = some (.int .i64 0) from rfl)
  obtain ⟨av, cv, rfl, hcv, -⟩ := h.l.byte
  clear h hb
  go_enter Tryz.func32, Tryz.ntmps32
  go_wp2
  clear c2
  go_loopw [3, 4, 5] (fun v3 v4 v5 wr => ∃ i n M : Nat, i ≤ 10 ∧ v5 = .int .i64 (i : Int) ∧ v3 = .int .u64 (n : Int) ∧ v4 = .int .u64 (M : Int) ∧ Hid (i < 10 → n < M ∧ M = 128 ^ i ∧ Im.wgo bs p (10 - i) i n = Im.word bs p) ∧ Hid (i = 10 → Im.word bs p = .error (p, 161)) ∧ Hid (TOk wr n0 T (.slice av bs.length cv) bs p) ∧ Hid (Kg.Touch [T] w wr)) (fun _ _ v5 _ => 10 - (intOf v5).toNat)
  case atStart => exact ⟨0, 0, 1, by omega, rfl, rfl, rfl, (fun _ => ⟨by omega, rfl, rfl⟩ : 0 < 10 → 0 < 1 ∧ 1 = 128 ^ 0 ∧ Im.wgo bs p (10 - 0) 0 0 = Im.word bs p), (fun h => by omega : 0 = 10 → Im.word bs p = .error (p, 161)), H, Kg.Touch.refl _ _⟩
  case round =>
    obtain ⟨i, n, M, hi, rfl, rfl, rfl, HA, HB, Hr, HT⟩ := hrel
    by_cases h10 : i < 10
    · have h10i : (i : Int) < 10 := by omega
      obtain ⟨hnM, hMi, hgo⟩ := HA.out h10
      have HM : Hid (n < M ∧ M = 128 ^ i ∧ Im.wgo bs p (10 - i) i n = Im.word bs p) := ⟨hnM, hMi, hgo⟩
      clear hnM hMi hgo HA HB
      have hTl := Kg.heap_lt Hr.out.b
      haveI hinh : Inhabited (Kg.Bel wr) := ⟨⟨wr, Below.refl _ _⟩⟩
      have z0 : ∀ q : Kg.Bel wr, q.v.cell? ⟨T, 0, none⟩ = some (.slice av bs.length cv) := fun q => (q.h.cell (p := ⟨T, 0, none⟩) hTl).trans ((Kg.heap_cell Hr.out.b 0).trans rfl)
      have z1 : ∀ q : Kg.Bel wr, q.v.cell? ⟨T, 1, none⟩ = some (.int .i64 (p : Int)) := fun q => (q.h.cell (p := ⟨T, 1, none⟩) hTl).trans ((Kg.heap_cell Hr.out.b 1).trans rfl)
      go_upto_region 8 with fail
      refine Kg.region_below Kg.mixed (by kernel_rfl) ?_
      repeat (go_big_quiet_step (fail))
      refine wpQuiet_nil ?_
      rintro w5 ⟨⟨w5, b5⟩, rfl⟩
      have H5 : Hid (TOk w5 n0 T (.slice av bs.length cv) bs p) := Hr.out.below b5
      have HT5 : Hid (Kg.Touch [T] w w5) := HT.out.trans (Kg.Touch.of_below b5 _)
      clear z0 z1 b5 Hr HT hinh
      have hT5 := Kg.heap_lt H5.out.b
      obtain ⟨f, hf⟩ : ∃ f, 10 - i = f + 1 := ⟨9 - i, by omega⟩
      have Hf : Hid (10 - i = f + 1) := hf
      clear hf
      by_cases hsh : bs.length ≤ p + i
      · have hshi : (bs.length : Int) ≤ (p : Int) + (i : Int) := by omega
        have hC := tfault_any H5.out bs.length 160 (by omega) (Nat.le_refl _)
        have z0 := (Kg.heap_cell H5.out.b 0).trans (show _ = some (.slice av bs.length cv) from rfl)
        have z1 := (Kg.heap_cell H5.out.b 1).trans (show _ = some (.int .i64 (p : Int)) from rfl)
        go_wp2_with fail
        refine hC.mono ?_
        rintro e w6 ⟨rfl, t6, h6⟩
        go_wp2
        go_ret
        refine ⟨HT5.out.trans t6, ?_⟩
        rw [← HM.out.2.2, Hf.out, wgo_short (List.getElem?_eq_none (by omega))]
        exact ⟨rfl, h6⟩
      · have hshi : ¬ (bs.length : Int) ≤ (p : Int) + (i : Int) := by omega
        have hx : bs[p + i]? = some (bs[p + i]'(by omega)) := List.getElem?_eq_getElem (by omega)
        generalize bs[p + i]'(by omega) = x at hx
        have hxb := Hb.out x (List.mem_of_getElem? hx)
        have Hx : Hid (bs[p + i]? = some x) := hx
        obtain ⟨a', cap', e', -, hel⟩ := H5.out.l.byte
        cases e'
        obtain ⟨q, off, e'', hql, hce⟩ := hel (p + i) x hx
        subst e''
        have hlo := H5.out.lo
        haveI hinh : Inhabited (Kg.Bel w5) := ⟨⟨w5, Below.refl _ _⟩⟩
        have z0 : ∀ u : Kg.Bel w5, u.v.cell? ⟨T, 0, none⟩ = some (.slice (some ⟨q, off, none⟩) bs.length cv) := fun u => (u.h.cell (p := ⟨T, 0, none⟩) hT5).trans ((Kg.heap_cell H5.out.b 0).trans rfl)
        have z1 : ∀ u : Kg.Bel w5, u.v.cell? ⟨T, 1, none⟩ = some (.int .i64 (p : Int)) := fun u => (u.h.cell (p := ⟨T, 1, none⟩) hT5).trans ((Kg.heap_cell H5.out.b 1).trans rfl)
        have z2 : ∀ u : Kg.Bel w5, u.v.cell? ⟨q, off + (p + i), none⟩ = some (.int .u8 (x : Int)) := fun u => (u.h.cell (p := ⟨q, off + (p + i), none⟩) (by show q < _; omega)).trans hce
        have hpi : (p : Int) + (i : Int) < (bs.length : Int) := by omega
        have hp0 : (0 : Int) ≤ (p : Int) + (i : Int) := by omega
        have hpt : ((p : Int) + (i : Int)).toNat = p + i := by omega
        clear hel hx hce
        go_upto_region 11 with fail
        refine Kg.region_below Kg.mixed (by kernel_rfl) ?_
        repeat (go_big_quiet_step (fail))
        refine wpQuiet_nil ?_
        rintro w6 ⟨⟨w6, b6⟩, rfl⟩
        have H6 : Hid (TOk w6 n0 T (.slice (some ⟨q, off, none⟩) bs.length cv) bs p) := H5.out.below b6
        have HT6 : Hid (Kg.Touch [T] w w6) := HT5.out.trans (Kg.Touch.of_below b6 _)
        clear z0 z1 z2 b6 H5 HT5 hinh
        by_cases hs : x < 128
        · have hsI : (x : Int) < 128 := by omega
          go_upto_region 13 with fail
          go_cut [63] from 12 to 92 (fun v63 wq => v63 = .bool (decide ((0 < i ∧ x = 0) ∨ (i = 9 ∧ 1 < x))) ∧ wq = w6)
          case first =>
            by_cases i0 : i = 0
            · subst i0
              go_wp2
              go_meet
              case rel => exact ⟨by simp, rfl⟩
            · have i0i : (i : Int) > 0 := by omega
              by_cases x0 : x = 0
              · subst x0
                go_wp2
                go_meet
                case rel => exact ⟨by simp; omega, rfl⟩
              · have x0i : ¬ (x : Int) = 0 := by omega
                by_cases i9 : i = 9
                · subst i9
                  go_wp2
                  go_meet
                  case rel =>
                    have h9 : ((x : Int) == 0) = false := by simpa using x0i
                    have h8 : decide (1 < (x : Int)) = decide (1 < x) := by rw [decide_eq_decide]; omega
                    exact ⟨by simp [x0, h9, h8], rfl⟩
                · have i9i : ¬ (i : Int) = 9 := by omega
                  go_wp2
                  go_meet
                  case rel => exact ⟨by simp [x0, i9], rfl⟩
          obtain ⟨hv63, hwq⟩ := hcut
          subst hwq
          obtain ⟨w7, hw7⟩ : ∃ w7, w7 = wc := ⟨_, rfl⟩
          subst hw7
          by_cases hbad : (0 < i ∧ x = 0) ∨ (i = 9 ∧ 1 < x)
          · rw [decide_eq_true hbad] at hv63
            subst hv63
            have hC := tfault_any H6.out p 161 (by omega) hle
            have z1 := (Kg.heap_cell H6.out.b 1).trans (show _ = some (.int .i64 (p : Int)) from rfl)
            go_wp2_with fail
            refine hC.mono ?_
            rintro e w8 ⟨rfl, t8, h8⟩
            go_wp2
            go_ret
            refine ⟨HT6.out.trans t8, ?_⟩
            rw [← HM.out.2.2, Hf.out, wgo_bad Hx.out hbad]
            exact ⟨rfl, h8⟩
          · rw [decide_eq_false hbad] at hv63
            subst hv63
            have z1 := (Kg.heap_cell H6.out.b 1).trans (show _ = some (.int .i64 (p : Int)) from rfl)
            have f1 := Kg.heap_frozen H6.out.b 1
            go_wp2
            go_ret
            have hp9 := pow_9 HM.out.2.1 h10
            have hnM := HM.out.1
            have hxM : n + x * M < 18446744073709551616 := by
              by_cases i9 : i = 9
              · have h1 : x * M ≤ 1 * M := Nat.mul_le_mul_right M (by omega)
                omega
              · have h1 : x * M ≤ 127 * M := Nat.mul_le_mul_right M (by omega)
                have := hp9.1 (by omega)
                omega
            refine ⟨HT6.out.trans (Kg.Touch.setCell _ _ _ (by simp)), ?_⟩
            rw [← HM.out.2.2, Hf.out, wgo_last Hx.out hbad hs, ← HM.out.2.1]
            refine ⟨⟨hxM, by rw [wrap_mul n x M hxM]; rfl⟩, ?_⟩
            have h9 := H6.out.go (p + i + 1) (by omega)
            rw [show (((p + i + 1 : Nat)) : Int) = (p : Int) + i + 1 by omega] at h9
            exact h9
        · have hsI : ¬ (x : Int) < 128 := by omega
          go_wp2
          go_roundw
          case rel =>
            have hp9 := pow_9 HM.out.2.1 h10
            have hnM := HM.out.1
            have hgo := HM.out.2.2
            have ex : (x : Int) - 128 = ((x - 128 : Nat) : Int) := by omega
            by_cases i9 : i = 9
            · refine ⟨i + 1, (IntKind.u64.wrap ((n : Int) + IntKind.u64.wrap (((x : Int) - 128) * (M : Int)))).toNat, (IntKind.u64.wrap ((M : Int) * 128)).toNat, by omega, by go_num, ?_, ?_, (fun h9 => absurd h9 (by omega) : i + 1 < 10 → _), ?_, H6, HT6⟩
              · congr 1
                simp only [IntKind.wrap_u64]
                generalize ((x : Int) - 128) * (M : Int) = y
                omega
              · congr 1
              · show i + 1 = 10 → _
                intro _
                rw [← hgo, Hf.out, wgo_bad Hx.out (.inr ⟨i9, by omega⟩)]
            · have hM := hp9.1 (by omega)
              have h1 : (x - 128) * M ≤ 127 * M := Nat.mul_le_mul_right M (by omega)
              have hsum : n + (x - 128) * M < 18446744073709551616 := by omega
              have hbad : ¬ ((0 < i ∧ x = 0) ∨ (i = 9 ∧ 1 < x)) := by omega
              refine ⟨i + 1, n + (x - 128) * M, M * 128, by omega, by go_num, by rw [ex, wrap_mul n (x - 128) M hsum], ?_, ?_, (fun h9 => absurd h9 (by omega) : i + 1 = 10 → _), H6, HT6⟩
              · congr 1
                simp only [IntKind.wrap_u64]
                omega
              · show i + 1 < 10 → _
                intro _
                refine ⟨by omega, by rw [HM.out.2.1, Nat.pow_succ], ?_⟩
                rw [← hgo, Hf.out, wgo_step Hx.out hbad hs, ← HM.out.2.1]
                congr 1
                have := Hf.out
                omega
          case measure => simp [intOf]; omega
    · have h10i : ¬ (i : Int) < 10 := by omega
      have hC := tfault_any Hr.out p 161 (by omega) hle
      have z1 := (Kg.heap_cell Hr.out.b 1).trans (show _ = some (.int .i64 (p : Int)) from rfl)
      go_wp2_with fail
      refine hC.mono ?_
      rintro e w8 ⟨rfl, t8, h8⟩
      go_wp2
      go_ret
      refine ⟨HT.out.trans t8, ?_⟩
      rw [HB.out (by omega)]
      exact ⟨rfl, h8⟩

end Go.Proofs.YtblbiikfipcbcaaGreatDoor

/-
  Images, the document's reader: numbers that may not be great, how many there are.
-/
set_option linter.unusedVariables false
set_option maxRecDepth 20000
namespace Go.Proofs.YtblbiikfipcbcaaGreatDoor
open Go.RowKit Go.Shelf

namespace Im
section
variable {bs : List Nat} {p n q : Nat}
theorem number_great (h : word bs p = .ok (n, q)) (hg : great < n) : number bs p = .error (p, 161) := by
  unfold number
  rw [h]
  simp only [if_pos hg]
theorem number_small (h : word bs p = .ok (n, q)) (hg : ¬ great < n) : number bs p = .ok (n, q) := by
  unfold number
  rw [h]
  simp only [if_neg hg]
theorem number_bad {e : Nat × Nat} (h : word bs p = .error e) : number bs p = .error e := by
  unfold number
  rw [h]
theorem many_great (h : number bs p = .ok (n, q)) (hg : bs.length - q < n) : many bs p = .error (bs.length, 160) := by
  unfold many
  rw [h]
  simp only [if_pos hg]
theorem many_small (h : number bs p = .ok (n, q)) (hg : ¬ bs.length - q < n) : many bs p = .ok (n, q) := by
  unfold many
  rw [h]
  simp only [if_neg hg]
theorem many_bad {e : Nat × Nat} (h : number bs p = .error e) : many bs p = .error e := by
  unfold many
  rw [h]
end
end Im

set_option maxHeartbeats 4000000 in
theorem tnumber_err {w : World} {n0 T pl k : Nat} {v : Value} {bs : List Nat} (h : TErr w n0 T v bs pl k) :
    Calls Tryz.prog 12 #[.pointer (some ⟨T, 0, none⟩)] w fun e w' => e = .returned (.int .u64 0) ∧ w' = w := by
  have hC := tword_err h
  obtain ⟨a, hb⟩ := h.b
  have c1 := (Kg.heap_cell hb 1).trans (show _ = some (.int .i64 (a : Int)) from rfl)
  have c2 := (Kg.heap_cell hb 2).trans (show _ = some (.int .i64 (k : Int)) from rfl)
  have hk := h.k0
  have hkz : ¬ (k : Int) = 0 := by omega
  have hkb : ((k : Int) == 0) = false := by simpa using hkz
  go_enter Tryz.func12, Tryz.ntmps12
  go_wp2_with fail
  refine hC.mono ?_
  rintro e w1 ⟨rfl, rfl⟩
  go_wp2
  go_ret
  exact ⟨rfl, rfl⟩

set_option maxHeartbeats 4000000 in
/-- A number. -/
theorem tnumber_ok {w : World} {n0 T p : Nat} {v : Value} {bs : List Nat} (h : TOk w n0 T v bs p) (hb : ∀ x, x ∈ bs → x < 256) :
    Calls Tryz.prog 12 #[.pointer (some ⟨T, 0, none⟩)] w fun e w' => Tans n0 T v bs w w' (Im.number bs p) (fun n => n ≤ 4611686018427387905 ∧ e = .returned (.int .u64 (n : Int))) (e = .returned (.int .u64 0)) := by
  have hC := tword_ok h hb
  have c1 := (Kg.heap_cell h.b 1).trans (show _ = some (.int .i64 (p : Int)) from rfl)
  have hle := h.le
  clear h
  go_enter Tryz.func12, Tryz.ntmps12
  go_wp2_with fail
  refine hC.mono ?_
  rintro e w1 ⟨t1, h1⟩
  have T1 : Hid (Kg.Touch [T] w w1) := t1
  clear hC t1 c1
  cases hw : Im.word bs p with
  | error pk =>
    obtain ⟨pl, k⟩ := pk
    rw [hw] at h1
    obtain ⟨rfl, h1⟩ := h1
    obtain ⟨a, hb1⟩ := h1.b
    have c2 := (Kg.heap_cell hb1 2).trans (show _ = some (.int .i64 (k : Int)) from rfl)
    have hk := h1.k0
    have hkz : ¬ (k : Int) = 0 := by omega
    have hkb : ((k : Int) == 0) = false := by simpa using hkz
    have Hw : Hid (Im.word bs p = .error (pl, k)) := hw
    have H1 : Hid (TErr w1 n0 T v bs pl k) := h1
    clear hw h1 hb1
    go_wp2
    go_ret
    refine ⟨T1.out, ?_⟩
    rw [Im.number_bad Hw.out]
    exact ⟨rfl, H1.out⟩
  | ok y =>
    obtain ⟨n, q⟩ := y
    rw [hw] at h1
    obtain ⟨⟨hn, rfl⟩, h1⟩ := h1
    have c2 := (Kg.heap_cell h1.b 2).trans (show _ = some (.int .i64 0) from rfl)
    have Hw : Hid (Im.word bs p = .ok (n, q)) := hw
    have H1 : Hid (TOk w1 n0 T v bs q) := h1
    clear hw h1
    by_cases hg : (n : Int) > 4611686018427387905
    · have hC := tfault_any H1.out p 161 (by omega) hle
      go_wp2_with fail
      refine hC.mono ?_
      rintro e w2 ⟨rfl, t2, h2⟩
      go_wp2
      go_ret
      refine ⟨T1.out.trans t2, ?_⟩
      rw [Im.number_great Hw.out (by unfold Im.great; omega)]
      exact ⟨rfl, h2⟩
    · go_wp2
      go_ret
      refine ⟨T1.out, ?_⟩
      rw [Im.number_small Hw.out (by unfold Im.great; omega)]
      exact ⟨⟨by omega, rfl⟩, H1.out⟩

set_option maxHeartbeats 4000000 in
theorem tmany_err {w : World} {n0 T pl k : Nat} {v : Value} {bs : List Nat} (h : TErr w n0 T v bs pl k) :
    Calls Tryz.prog 13 #[.pointer (some ⟨T, 0, none⟩)] w fun e w' => e = .returned (.int .i64 0) ∧ Below w.heap.size w w' := by
  have hC := tnumber_err h
  obtain ⟨a, hb⟩ := h.b
  obtain ⟨av, cv, rfl, hcv, -⟩ := h.l.byte
  have hk := h.k0
  have hkz : ¬ (k : Int) = 0 := by omega
  have hkb : ((k : Int) == 0) = false := by simpa using hkz
  have hkc : ((k : Int) != 0) = true := by simpa using hkz
  have hTl := Kg.heap_lt hb
  have H : Hid (TErr w n0 T (.slice av bs.length cv) bs pl k) := h
  clear h
  go_enter Tryz.func13, Tryz.ntmps13
  go_wp2_with fail
  refine hC.mono ?_
  rintro e w1 ⟨rfl, rfl⟩
  clear hC
  haveI hinh : Inhabited (Kg.Bel w1) := ⟨⟨w1, Below.refl _ _⟩⟩
  have z0 : ∀ q : Kg.Bel w1, q.v.cell? ⟨T, 0, none⟩ = some (.slice av bs.length cv) := fun q => (q.h.cell (p := ⟨T, 0, none⟩) hTl).trans ((Kg.heap_cell hb 0).trans rfl)
  have z1 : ∀ q : Kg.Bel w1, q.v.cell? ⟨T, 1, none⟩ = some (.int .i64 (a : Int)) := fun q => (q.h.cell (p := ⟨T, 1, none⟩) hTl).trans ((Kg.heap_cell hb 1).trans rfl)
  have z2 : ∀ q : Kg.Bel w1, q.v.cell? ⟨T, 2, none⟩ = some (.int .i64 (k : Int)) := fun q => (q.h.cell (p := ⟨T, 2, none⟩) hTl).trans ((Kg.heap_cell hb 2).trans rfl)
  go_upto_region 2 with fail
  refine Kg.region_below Kg.mixed (by kernel_rfl) ?_
  repeat (go_big_quiet_step (fail))
  refine wpQuiet_nil ?_
  rintro w5 ⟨⟨w5, b5⟩, rfl⟩
  have c2 := (b5.cell (p := ⟨T, 2, none⟩) hTl).trans ((Kg.heap_cell hb 2).trans (show _ = some (.int .i64 (k : Int)) from rfl))
  clear z0 z1 z2
  go_wp2
  go_ret
  exact ⟨rfl, b5⟩

set_option maxHeartbeats 4000000 in
/-- How many. -/
theorem tmany_ok {w : World} {n0 T p : Nat} {v : Value} {bs : List Nat} (h : TOk w n0 T v bs p) (hb : ∀ x, x ∈ bs → x < 256) :
    Calls Tryz.prog 13 #[.pointer (some ⟨T, 0, none⟩)] w fun e w' => Tans n0 T v bs w w' (Im.many bs p) (fun n => n ≤ bs.length ∧ e = .returned (.int .i64 (n : Int))) (e = .returned (.int .i64 0)) := by
  have hC := tnumber_ok h hb
  obtain ⟨av, cv, rfl, hcv, -⟩ := h.l.byte
  have hn := h.n
  clear h
  go_enter Tryz.func13, Tryz.ntmps13
  go_wp2_with fail
  refine hC.mono ?_
  rintro e w1 ⟨t1, h1⟩
  have T1 : Hid (Kg.Touch [T] w w1) := t1
  clear hC t1
  haveI hinh : Inhabited (Kg.Bel w1) := ⟨⟨w1, Below.refl _ _⟩⟩
  cases hw : Im.number bs p with
  | error pk =>
    obtain ⟨pl, k⟩ := pk
    rw [hw] at h1
    obtain ⟨rfl, h1⟩ := h1
    obtain ⟨a, hb1⟩ := h1.b
    have hk := h1.k0
    have hkz : ¬ (k : Int) = 0 := by omega
    have hkb : ((k : Int) == 0) = false := by simpa using hkz
    have hkc : ((k : Int) != 0) = true := by simpa using hkz
    have hTl := Kg.heap_lt hb1
    have Hw : Hid (Im.number bs p = .error (pl, k)) := hw
    have H1 : Hid (TErr w1 n0 T (.slice av bs.length cv) bs pl k) := h1
    clear hw h1
    have z0 : ∀ q : Kg.Bel w1, q.v.cell? ⟨T, 0, none⟩ = some (.slice av bs.length cv) := fun q => (q.h.cell (p := ⟨T, 0, none⟩) hTl).trans ((Kg.heap_cell hb1 0).trans rfl)
    have z1 : ∀ q : Kg.Bel w1, q.v.cell? ⟨T, 1, none⟩ = some (.int .i64 (a : Int)) := fun q => (q.h.cell (p := ⟨T, 1, none⟩) hTl).trans ((Kg.heap_cell hb1 1).trans rfl)
    have z2 : ∀ q : Kg.Bel w1, q.v.cell? ⟨T, 2, none⟩ = some (.int .i64 (k : Int)) := fun q => (q.h.cell (p := ⟨T, 2, none⟩) hTl).trans ((Kg.heap_cell hb1 2).trans rfl)
    go_upto_region 2 with fail
    refine Kg.region_below Kg.mixed (by kernel_rfl) ?_
    repeat (go_big_quiet_step (fail))
    refine wpQuiet_nil ?_
    rintro w5 ⟨⟨w5, b5⟩, rfl⟩
    have c2 := (b5.cell (p := ⟨T, 2, none⟩) hTl).trans ((Kg.heap_cell hb1 2).trans (show _ = some (.int .i64 (k : Int)) from rfl))
    clear z0 z1 z2
    go_wp2
    go_ret
    refine ⟨T1.out.trans (Kg.Touch.of_below b5 _), ?_⟩
    rw [Im.many_bad Hw.out]
    exact ⟨rfl, H1.out.below b5⟩
  | ok y =>
    obtain ⟨n, q⟩ := y
    rw [hw] at h1
    obtain ⟨⟨hg, rfl⟩, h1⟩ := h1
    have hTl := Kg.heap_lt h1.b
    have hql := h1.le
    have Hw : Hid (Im.number bs p = .ok (n, q)) := hw
    have H1 : Hid (TOk w1 n0 T (.slice av bs.length cv) bs q) := h1
    have z0 : ∀ u : Kg.Bel w1, u.v.cell? ⟨T, 0, none⟩ = some (.slice av bs.length cv) := fun u => (u.h.cell (p := ⟨T, 0, none⟩) hTl).trans ((Kg.heap_cell h1.b 0).trans rfl)
    have z1 : ∀ u : Kg.Bel w1, u.v.cell? ⟨T, 1, none⟩ = some (.int .i64 (q : Int)) := fun u => (u.h.cell (p := ⟨T, 1, none⟩) hTl).trans ((Kg.heap_cell h1.b 1).trans rfl)
    have z2 : ∀ u : Kg.Bel w1, u.v.cell? ⟨T, 2, none⟩ = some (.int .i64 0) := fun u => (u.h.cell (p := ⟨T, 2, none⟩) hTl).trans ((Kg.heap_cell h1.b 2).trans rfl)
    clear hw h1
    go_upto_region 2 with fail
    refine Kg.region_below Kg.mixed (by kernel_rfl) ?_
    repeat (go_big_quiet_step (fail))
    refine wpQuiet_nil ?_
    rintro w5 ⟨⟨w5, b5⟩, rfl⟩
    have H5 : Hid (TOk w5 n0 T (.slice av bs.length cv) bs q) := H1.out.below b5
    have T5 : Hid (Kg.Touch [T] w w5) := T1.out.trans (Kg.Touch.of_below b5 _)
    clear z0 z1 z2 b5 H1 T1
    have c0 := (Kg.heap_cell H5.out.b 0).trans (show _ = some (.slice av bs.length cv) from rfl)
    have c2 := (Kg.heap_cell H5.out.b 2).trans (show _ = some (.int .i64 0) from rfl)
    by_cases hg2 : (bs.length : Int) - (q : Int) < (n : Int)
    · have hC := tfault_any H5.out bs.length 160 (by omega) (Nat.le_refl _)
      go_wp2_with fail
      refine hC.mono ?_
      rintro e w6 ⟨rfl, t6, h6⟩
      obtain ⟨a6, hb6⟩ := h6.b
      have d2 := (Kg.heap_cell hb6 2).trans (show _ = some (.int .i64 (160 : Int)) from rfl)
      go_wp2
      go_ret
      refine ⟨T5.out.trans t6, ?_⟩
      rw [Im.many_great Hw.out (by omega)]
      exact ⟨rfl, h6⟩
    · have hnw : IntKind.i64.wrap (n : Int) = (n : Int) := by rw [IntKind.wrap_i64]; omega
      go_wp2
      go_ret
      refine ⟨T5.out, ?_⟩
      rw [Im.many_small Hw.out (by omega)]
      exact ⟨⟨by omega, rfl⟩, H5.out⟩

end Go.Proofs.YtblbiikfipcbcaaGreatDoor

/-
  Images, the document's reader: lists of numbers.
-/
set_option linter.unusedVariables false
set_option maxRecDepth 20000
namespace Go.Proofs.YtblbiikfipcbcaaGreatDoor
open Go.RowKit Go.Shelf

/-- What an append has touched. -/
theorem push_touch {w w8 : World} {row : Option Nat} {o : Obj} (hg : (w.alloc o).grownBy w8 row) : Kg.Touch row.toList w w8 :=
  ⟨hg.os, hg.tape, hg.output, by have := hg.size; simp at this; omega, fun k hk hn => (hg.block k (by simp; omega) (fun e => hn (by rw [Option.mem_toList]; exact e.symm))).trans (Below.heap_alloc _ _ _ hk)⟩

set_option maxHeartbeats 4000000 in
theorem tints_err {w : World} {n0 T pl k : Nat} {v : Value} {bs : List Nat} (h : TErr w n0 T v bs pl k) (c : Int) :
    Calls Tryz.prog 15 #[.pointer (some ⟨T, 0, none⟩), .int .i64 c] w fun e w' => e = .returned (.slice none 0 0) ∧ Below w.heap.size w w' := by
  have hC := tmany_err h
  go_enter Tryz.func15, Tryz.ntmps15
  go_wp2_with fail
  refine hC.mono ?_
  rintro e w1 ⟨rfl, b1⟩
  clear hC
  go_wp2
  go_loopw [5, 7] (fun v5 v7 wr => v5 = .slice none 0 0 ∧ v7 = .int .i64 0 ∧ wr = w1) (fun _ _ _ => 0)
  case atStart => exact ⟨rfl, rfl, rfl⟩
  case round =>
    obtain ⟨rfl, rfl, rfl⟩ := hrel
    go_wp2
    go_ret
    exact ⟨rfl, b1⟩

/-- Numbers, each less c. -/
abbrev lessV (c : Int) (l : List Nat) : List Value := l.map fun n : Nat => Value.int .i64 ((n : Int) - c)

set_option maxHeartbeats 8000000 in
theorem tints_ok {w : World} {n0 T p : Nat} {v : Value} {bs : List Nat} (h : TOk w n0 T v bs p) (hb : ∀ x, x ∈ bs → x < 256) (c : Int) (hc : 0 ≤ c ∧ c ≤ 1) :
    Calls Tryz.prog 15 #[.pointer (some ⟨T, 0, none⟩), .int .i64 c] w fun e w' => Tans n0 T v bs w w' (Im.listP bs (Im.number bs) p) (fun l => l.length ≤ bs.length ∧ ∃ u, e = .returned u ∧ w'.ownsRow w.heap.size 3 1 u l.length (lessV c l)) (∃ l : List Nat, l.length ≤ bs.length ∧ ∃ u, e = .returned u ∧ w'.ownsRow w.heap.size 3 1 u l.length (lessV c l)) := by
  have hC := tmany_ok h hb
  have Hb : Hid (∀ x, x ∈ bs → x < 256) := hb
  have hn := h.n
  have hTl := Kg.heap_lt h.b
  have hlo := h.lo
  obtain ⟨i0, hi0, hj0, hj1, hj2⟩ := info_parts infoI6
  have HI : Hid (Tryz.prog.info? 3 = some i0 ∧ i0.zero = some (.int .i64 0) ∧ i0.size = 1 ∧ i0.bytes = 8) := ⟨hi0, hj0, hj1, hj2⟩
  clear h hb hi0 hj0 hj1 hj2
  go_enter Tryz.func15, Tryz.ntmps15
  go_wp2_with fail
  refine hC.mono ?_
  rintro e w1 ⟨t1, h1⟩
  clear hC
  cases hw : Im.many bs p with
  | error pk =>
    obtain ⟨pl, k⟩ := pk
    rw [hw] at h1
    obtain ⟨rfl, h1⟩ := h1
    go_wp2
    go_loopw [5, 7] (fun v5 v7 wr => v5 = .slice none 0 0 ∧ v7 = .int .i64 0 ∧ wr = w1) (fun _ _ _ => 0)
    case atStart => exact ⟨rfl, rfl, rfl⟩
    case round =>
      obtain ⟨rfl, rfl, rfl⟩ := hrel
      go_wp2
      go_ret
      refine ⟨t1, ?_⟩
      rw [listP_cnt hw]
      exact ⟨⟨[], Nat.zero_le _, _, rfl, World.ownsRow_nil _ _ _ _⟩, h1⟩
  | ok y =>
    obtain ⟨N, p1⟩ := y
    rw [hw] at h1
    obtain ⟨⟨hN, rfl⟩, h1⟩ := h1
    have Hw : Hid (Im.many bs p = .ok (N, p1)) := hw
    have H1 : Hid (TOk w1 n0 T v bs p1) := h1
    have T1 : Hid (Kg.Touch [T] w w1) := t1
    clear hw h1 t1
    go_wp2
    go_loopw [5, 7] (fun v5 v7 wr => ∃ (i : Nat) (l : List Nat), v7 = .int .i64 (i : Int) ∧ i ≤ N ∧ Hid (l.length = i) ∧ Hid (wr.ownsRow w.heap.size 3 1 v5 l.length (lessV c l)) ∧ Hid (Kg.Touch [T] w wr) ∧ Hid ((∃ r, TOk wr n0 T v bs r ∧ Im.rep (Im.number bs) i p1 = .ok (l, r)) ∨ (∃ pl k, TErr wr n0 T v bs pl k ∧ Im.rep (Im.number bs) N p1 = .error (pl, k)))) (fun _ v7 _ => N - (intOf v7).toNat)
    case atStart => exact ⟨0, [], rfl, Nat.zero_le _, rfl, World.ownsRow_nil _ _ _ _, T1, .inl ⟨p1, H1.out, rfl⟩⟩
    case round =>
      obtain ⟨i, l, rfl, hiN, hli, Hl, HT, HS⟩ := hrel
      obtain ⟨al, cl, hvl⟩ := own_slI Hl.out
      subst hvl
      rcases HS.out with ⟨r, hok, hrep⟩ | ⟨pl, k, herr, hrep⟩
      · have c2 := (Kg.heap_cell hok.b 2).trans (show _ = some (.int .i64 0) from rfl)
        by_cases hi : i < N
        · have hii : (i : Int) < (N : Int) := by omega
          have hC := tnumber_ok hok Hb.out
          have Hrep : Hid (Im.rep (Im.number bs) i p1 = .ok (l, r)) := hrep
          clear hok hrep HS
          go_wp2_with fail
          refine hC.mono ?_
          rintro e w2 ⟨t2, h2⟩
          have T2 : Hid (Kg.Touch [T] w w2) := HT.out.trans t2
          have Hl2 : Hid (w2.ownsRow w.heap.size 3 1 (.slice al l.length cl) l.length (lessV c l)) := Kg.row_keep2 Hl.out t2 (fun k hk => by have := (Hl.out.lt k hk).1; simp; omega)
          clear hC Hl HT t2 c2
          cases hn2 : Im.number bs r with
          | error pk =>
            obtain ⟨pl, k⟩ := pk
            rw [hn2] at h2
            obtain ⟨rfl, h2⟩ := h2
            have H2 : Hid (TErr w2 n0 T v bs pl k) := h2
            have Hn2 : Hid (Im.number bs r = .error (pl, k)) := hn2
            clear hn2 h2
            go_wp2_with (at_builtin; refine wpList_append_own_at _ rfl _ _ 25 rfl w.heap.size 3 i0 (.int .i64 0) 1 8 Tryz.underlying25 HI.out.1 HI.out.2.1 HI.out.2.2.1 HI.out.2.2.2 rfl (by decide) _ _ _ rfl (Hl2.out.alloc _) ⟨w2.heap.size, 0, none⟩ 1 1 [.int .i64 (-c)] rfl rfl (cell_one_new _ _ _) (by simp [Value.oneCell']) (by have := hli.out; simp [maxLen]; omega) (by have := hli.out; omega) (by have := T2.out.size; simp; omega) ?_; intro v' w8 hown' hgrow _ hat)
            have t8 := push_touch hgrow
            have Hl8 : Hid (w8.ownsRow w.heap.size 3 1 v' (l ++ [0]).length (lessV c (l ++ [0]))) := by
              show w8.ownsRow _ _ _ _ _ _
              simpa [lessV] using hown'
            have hrw : ∀ y, y ∈ (Value.slice al l.length cl).ownBlock.toList → w.heap.size ≤ y := fun y hy => by rw [Option.mem_toList] at hy; exact (Hl2.out.lt y hy).1
            have T8 : Hid (Kg.Touch [T] w w8) := ⟨t8.os.trans T2.out.os, t8.tape.trans T2.out.tape, t8.output.trans T2.out.output, Nat.le_trans T2.out.size t8.size, fun k hk hn => (t8.block k (by have := T2.out.size; omega) (fun hm => by have := hrw k hm; omega)).trans (T2.out.block k hk hn)⟩
            have H8 : Hid (TErr w8 n0 T v bs pl k) := H2.out.touch t8 (by have := T2.out.size; omega) (fun k hk => by have := hrw k hk; omega)
            obtain ⟨a9, c9, hv9⟩ := own_slI Hl8.out
            subst hv9
            clear hown' hgrow hat t8 Hl2 T2 H2 hrw
            go_wp2
            go_roundw
            case rel => exact ⟨i + 1, l ++ [0], by go_num, by omega, by show _ = _; simp [hli.out], Hl8, T8, .inr ⟨pl, k, H8.out, rep_err i p1 r N l (pl, k) Hrep.out Hn2.out hi⟩⟩
            case measure => simp [intOf]; omega
          | ok y =>
            obtain ⟨n, q⟩ := y
            rw [hn2] at h2
            obtain ⟨⟨hg, rfl⟩, h2⟩ := h2
            have H2 : Hid (TOk w2 n0 T v bs q) := h2
            have Hn2 : Hid (Im.number bs r = .ok (n, q)) := hn2
            have hnw : IntKind.i64.wrap (n : Int) = (n : Int) := by rw [IntKind.wrap_i64]; omega
            clear hn2 h2
            go_wp2_with (at_builtin; refine wpList_append_own_at _ rfl _ _ 25 rfl w.heap.size 3 i0 (.int .i64 0) 1 8 Tryz.underlying25 HI.out.1 HI.out.2.1 HI.out.2.2.1 HI.out.2.2.2 rfl (by decide) _ _ _ rfl (Hl2.out.alloc _) ⟨w2.heap.size, 0, none⟩ 1 1 [.int .i64 ((n : Int) - c)] rfl rfl (cell_one_new _ _ _) (by simp [Value.oneCell']) (by have := hli.out; simp [maxLen]; omega) (by have := hli.out; omega) (by have := T2.out.size; simp; omega) ?_; intro v' w8 hown' hgrow _ hat)
            have t8 := push_touch hgrow
            have Hl8 : Hid (w8.ownsRow w.heap.size 3 1 v' (l ++ [n]).length (lessV c (l ++ [n]))) := by
              show w8.ownsRow _ _ _ _ _ _
              simpa [lessV] using hown'
            have hrw : ∀ y, y ∈ (Value.slice al l.length cl).ownBlock.toList → w.heap.size ≤ y := fun y hy => by rw [Option.mem_toList] at hy; exact (Hl2.out.lt y hy).1
            have T8 : Hid (Kg.Touch [T] w w8) := ⟨t8.os.trans T2.out.os, t8.tape.trans T2.out.tape, t8.output.trans T2.out.output, Nat.le_trans T2.out.size t8.size, fun k hk hn => (t8.block k (by have := T2.out.size; omega) (fun hm => by have := hrw k hm; omega)).trans (T2.out.block k hk hn)⟩
            have H8 : Hid (TOk w8 n0 T v bs q) := H2.out.touch t8 (by have := T2.out.size; omega) (fun k hk => by have := hrw k hk; omega)
            obtain ⟨a9, c9, hv9⟩ := own_slI Hl8.out
            subst hv9
            clear hown' hgrow hat t8 Hl2 T2 H2 hrw
            go_wp2
            go_roundw
            case rel => exact ⟨i + 1, l ++ [n], by go_num, by omega, by show _ = _; simp [hli.out], Hl8, T8, .inl ⟨q, H8.out, rep_snoc i p1 r q l n Hrep.out Hn2.out⟩⟩
            case measure => simp [intOf]; omega
        · have hii : ¬ (i : Int) < (N : Int) := by omega
          have eN : i = N := by omega
          subst eN
          have Hok : Hid (TOk wr n0 T v bs r ∧ Im.rep (Im.number bs) i p1 = .ok (l, r)) := ⟨hok, hrep⟩
          clear hok hrep
          go_wp2
          go_ret
          refine ⟨HT.out, ?_⟩
          rw [listP_ok Hw.out Hok.out.2]
          exact ⟨⟨by have := hli.out; omega, _, rfl, Hl.out⟩, Hok.out.1⟩
      · obtain ⟨a, hb3⟩ := herr.b
        have c2 := (Kg.heap_cell hb3 2).trans (show _ = some (.int .i64 (k : Int)) from rfl)
        have hk := herr.k0
        have hkz : ¬ (k : Int) = 0 := by omega
        have hkb : ((k : Int) == 0) = false := by simpa using hkz
        have He : Hid (TErr wr n0 T v bs pl k ∧ Im.rep (Im.number bs) N p1 = .error (pl, k)) := ⟨herr, hrep⟩
        clear herr hrep hb3 HS
        by_cases hi : i < N
        · have hii : (i : Int) < (N : Int) := by omega
          go_wp2
          go_ret
          refine ⟨HT.out, ?_⟩
          rw [listP_err Hw.out He.out.2]
          exact ⟨⟨l, by have := hli.out; omega, _, rfl, Hl.out⟩, He.out.1⟩
        · have hii : ¬ (i : Int) < (N : Int) := by omega
          go_wp2
          go_ret
          refine ⟨HT.out, ?_⟩
          rw [listP_err Hw.out He.out.2]
          exact ⟨⟨l, by have := hli.out; omega, _, rfl, Hl.out⟩, He.out.1⟩

end Go.Proofs.YtblbiikfipcbcaaGreatDoor

/-
  Images, the document's reader: its calls, with or without a fault.
-/
set_option linter.unusedVariables false
set_option maxRecDepth 20000
namespace Go.Proofs.YtblbiikfipcbcaaGreatDoor
open Go.RowKit Go.Shelf

namespace Im
/-- A parser, behind a fault or not. -/
def stp {α : Type} (f : Ps α) : Except (Nat × Nat) Nat → Except (Nat × Nat) (α × Nat)
  | .error e => .error e
  | .ok p => f p
def pos {α : Type} : Except (Nat × Nat) (α × Nat) → Except (Nat × Nat) Nat
  | .error e => .error e
  | .ok (_, q) => .ok q
end Im

namespace Im
theorem stp_snoc {α : Type} {f : Ps α} {sm : Except (Nat × Nat) Nat} {i : Nat} : stp (rep f (i + 1)) sm = (match stp (rep f i) sm with
    | .error e => .error e
    | .ok (l, r) => match f r with
      | .error e => .error e
      | .ok (y, q) => .ok (l ++ [y], q)) := by
  rcases sm with e | p
  · rfl
  · show rep f (i + 1) p = match rep f i p with
      | .error e => .error e
      | .ok (l, r) => match f r with
        | .error e => .error e
        | .ok (y, q) => .ok (l ++ [y], q)
    induction i generalizing p with
    | zero =>
      show (f.bind fun x => (Ps.ret []).map (x :: ·)) p = _
      simp only [Ps.bind, Ps.map, Ps.ret, rep]
      cases f p with
      | error e => rfl
      | ok y => obtain ⟨y, q⟩ := y; rfl
    | succ i ih =>
      show (f.bind fun x => (rep f (i + 1)).map (x :: ·)) p = match (f.bind fun x => (rep f i).map (x :: ·)) p with
        | .error e => .error e
        | .ok (l, r) => match f r with
          | .error e => .error e
          | .ok (y, q) => .ok (l ++ [y], q)
      simp only [Ps.bind, Ps.map, Ps.ret]
      cases f p with
      | error e => rfl
      | ok y =>
        obtain ⟨y, q⟩ := y
        simp only
        rw [ih q]
        cases rep f i q with
        | error e => rfl
        | ok z =>
          obtain ⟨l, r⟩ := z
          simp only
          cases f r with
          | error e => rfl
          | ok u => obtain ⟨u, q'⟩ := u; rfl

theorem pos_snoc {α : Type} {f : Ps α} {sm : Except (Nat × Nat) Nat} {i : Nat} : pos (stp (rep f (i + 1)) sm) = pos (stp f (pos (stp (rep f i) sm))) := by
  rw [stp_snoc]
  cases stp (rep f i) sm with
  | error e => rfl
  | ok z =>
    obtain ⟨l, r⟩ := z
    show pos (match f r with
      | .error e => .error e
      | .ok (y, q) => .ok (l ++ [y], q)) = pos (f r)
    cases f r with
    | error e => rfl
    | ok u => obtain ⟨u, q'⟩ := u; rfl

theorem val_snoc {α : Type} {f : Ps α} {sm : Except (Nat × Nat) Nat} {i : Nat} {l : List α} {n : α} (h1 : ∀ z q, stp (rep f i) sm = .ok (z, q) → l = z) (h2 : ∀ z q, stp f (pos (stp (rep f i) sm)) = .ok (z, q) → n = z) : ∀ z q, stp (rep f (i + 1)) sm = .ok (z, q) → l ++ [n] = z := by
  intro z q hz
  rw [stp_snoc] at hz
  cases hx : stp (rep f i) sm with
  | error e => rw [hx] at hz; cases hz
  | ok y =>
    obtain ⟨l', r⟩ := y
    rw [hx] at hz h2
    simp only at hz
    have h3 := h1 l' r hx
    have h4 : ∀ z q, f r = .ok (z, q) → n = z := h2
    cases hf : f r with
    | error e => rw [hf] at hz; cases hz
    | ok u =>
      obtain ⟨u, q'⟩ := u
      rw [hf] at hz
      cases hz
      rw [h3, h4 u q hf]

theorem stp_err {α : Type} {f : Ps α} {sm : Except (Nat × Nat) Nat} {e : Nat × Nat} {i : Nat} (h : stp (rep f i) sm = .error e) : ∀ d, stp (rep f (i + d)) sm = .error e
  | 0 => h
  | d + 1 => by
    rw [← Nat.add_assoc, stp_snoc, stp_err h d]

theorem stp_list {α : Type} {b : List Nat} {f : Ps α} {s : Except (Nat × Nat) Nat} : stp (listP b f) s = (match stp (many b) s with
    | .error e => .error e
    | .ok (N, q) => rep f N q) := by
  rcases s with e | p
  · rfl
  · show ((many b).bind fun n => rep f n) p = match many b p with
      | .error e => .error e
      | .ok (N, q) => rep f N q
    simp only [Ps.bind]
    cases many b p with
    | error e => rfl
    | ok y => obtain ⟨y, q⟩ := y; rfl

theorem pair_pos {α β : Type} {f : Ps α} {g : Ps β} {s : Except (Nat × Nat) Nat} : pos (stp (pairP f g) s) = pos (stp g (pos (stp f s))) := by
  rcases s with e | p
  · rfl
  · show pos ((f.bind fun x => g.map fun y => (x, y)) p) = pos (stp g (pos (f p)))
    simp only [Ps.bind, Ps.map, Ps.ret]
    cases f p with
    | error e => rfl
    | ok y =>
      obtain ⟨y, q⟩ := y
      show pos (match g q with
        | .ok (x, q) => .ok ((y, x), q)
        | .error e => .error e) = pos (g q)
      cases g q with
      | error e => rfl
      | ok z => obtain ⟨z, q'⟩ := z; rfl

theorem pair_val {α β : Type} {f : Ps α} {g : Ps β} {s : Except (Nat × Nat) Nat} {x : α} {y : β} (h1 : ∀ z q, stp f s = .ok (z, q) → x = z) (h2 : ∀ z q, stp g (pos (stp f s)) = .ok (z, q) → y = z) : ∀ z q, stp (pairP f g) s = .ok (z, q) → (x, y) = z := by
  intro z q hz
  rcases s with e | p
  · cases hz
  · have hz' : (f.bind fun x => g.map fun y => (x, y)) p = .ok (z, q) := hz
    simp only [Ps.bind, Ps.map, Ps.ret] at hz'
    cases hf : f p with
    | error e => rw [hf] at hz'; cases hz'
    | ok u =>
      obtain ⟨u, r⟩ := u
      have e1 := h1 u r hf
      rw [hf] at hz'
      have h2' : ∀ z q, stp g (pos (f p)) = .ok (z, q) → y = z := h2
      rw [hf] at h2'
      simp only at hz'
      cases hg : g r with
      | error e => rw [hg] at hz'; cases hz'
      | ok w =>
        obtain ⟨w, r'⟩ := w
        rw [hg] at hz'
        cases hz'
        rw [e1, h2' w q hg]

/-- A list that was gone through up to its end or its first fault. -/
theorem stp_done {α : Type} {b : List Nat} {f : Ps α} {s : Except (Nat × Nat) Nat} {N i : Nat} (hN : ∀ z q, stp (many b) s = .ok (z, q) → N = z) (h0 : (∃ e, stp (many b) s = .error e) → N = 0) (hi : i ≤ N) (hd : i = N ∨ ∃ e, pos (stp (rep f i) (pos (stp (many b) s))) = .error e) : pos (stp (listP b f) s) = pos (stp (rep f i) (pos (stp (many b) s))) ∧ ∀ z q, stp (listP b f) s = .ok (z, q) → stp (rep f i) (pos (stp (many b) s)) = .ok (z, q) := by
  rw [stp_list]
  cases hm : stp (many b) s with
  | error e =>
    exact ⟨rfl, fun z q hz => by cases hz⟩
  | ok y =>
    obtain ⟨N', q'⟩ := y
    have e1 := hN N' q' hm
    subst e1
    rw [hm] at hd
    rcases hd with rfl | ⟨e, he⟩
    · exact ⟨rfl, fun z q hz => hz⟩
    · have h9 : stp (rep f i) (.ok q') = .error e := by
        change pos (stp (rep f i) (.ok q')) = .error e at he
        cases hx : stp (rep f i) (.ok q') with
        | error e' => rw [hx] at he; cases he; rfl
        | ok z => obtain ⟨z, q⟩ := z; rw [hx] at he; cases he
      have h8 := stp_err h9 (N - i)
      rw [show i + (N - i) = N by omega] at h8
      have h7 : rep f N q' = .error e := h8
      show pos (rep f N q') = pos (stp (rep f i) (.ok q')) ∧ ∀ z q, rep f N q' = .ok (z, q) → stp (rep f i) (.ok q') = .ok (z, q)
      rw [h7, h9]
      exact ⟨rfl, fun z q hz => by cases hz⟩
end Im

/-- The document's text, with a fault or without. -/
def Txt (w : World) (n0 T : Nat) (v : Value) (bs : List Nat) : Except (Nat × Nat) Nat → Prop
  | .ok p => TOk w n0 T v bs p
  | .error (pl, k) => TErr w n0 T v bs pl k

theorem Txt.lo {w : World} {n0 T : Nat} {v : Value} {bs : List Nat} {st : Except (Nat × Nat) Nat} (h : Txt w n0 T v bs st) : n0 ≤ T ∧ T < w.heap.size ∧ bs.length ≤ 1000000000000 := by
  rcases st with ⟨pl, k⟩ | p
  · obtain ⟨a, hb⟩ := TErr.b h
    exact ⟨TErr.lo h, Kg.heap_lt hb, TErr.n h⟩
  · exact ⟨TOk.lo h, Kg.heap_lt (TOk.b h), TOk.n h⟩

theorem Txt.touch {w w' : World} {n0 T : Nat} {v : Value} {bs : List Nat} {st : Except (Nat × Nat) Nat} {F : List Nat} (h : Txt w n0 T v bs st) (t : Kg.Touch F w w') (hF : ∀ k, k ∈ F → n0 ≤ k ∧ k ≠ T) : Txt w' n0 T v bs st := by
  have hl := h.lo
  rcases st with ⟨pl, k⟩ | p
  · exact TErr.touch h t (by omega) hF
  · exact TOk.touch h t (by omega) hF

theorem Txt.below {w w' : World} {n0 T : Nat} {v : Value} {bs : List Nat} {st : Except (Nat × Nat) Nat} (h : Txt w n0 T v bs st) (b : Below w.heap.size w w') : Txt w' n0 T v bs st :=
  h.touch (Kg.Touch.of_below b []) (fun k hk => by cases hk)

/-- The cell that tells whether there was a fault. -/
theorem Txt.cell {w : World} {n0 T : Nat} {v : Value} {bs : List Nat} {st : Except (Nat × Nat) Nat} (h : Txt w n0 T v bs st) : ∃ k : Nat, w.cell? ⟨T, 2, none⟩ = some (.int .i64 (k : Int)) ∧ ((k = 0 ∧ ∃ p, st = .ok p) ∨ (160 ≤ k ∧ k ≤ 164 ∧ ∃ pl, st = .error (pl, k))) := by
  rcases st with ⟨pl, k⟩ | p
  · obtain ⟨a, hb⟩ := TErr.b h
    exact ⟨k, (Kg.heap_cell hb 2).trans rfl, .inr ⟨(TErr.k0 h).1, (TErr.k0 h).2, pl, rfl⟩⟩
  · exact ⟨0, (Kg.heap_cell (TOk.b h) 2).trans rfl, .inl ⟨rfl, p, rfl⟩⟩

/-- What a call answers. -/
def Ans {α : Type} (n0 T : Nat) (v : Value) (bs : List Nat) (w w' : World) (x : Except (Nat × Nat) (α × Nat)) (y : α) : Prop :=
  Kg.Touch [T] w w' ∧ Txt w' n0 T v bs (Im.pos x) ∧ ∀ z q, x = .ok (z, q) → y = z

section
variable {w : World} {n0 T : Nat} {v : Value} {bs : List Nat} {st : Except (Nat × Nat) Nat} (h : Txt w n0 T v bs st) (hb : ∀ x, x ∈ bs → x < 256)
include h hb

theorem tword_any : Calls Tryz.prog 32 #[.pointer (some ⟨T, 0, none⟩)] w fun e w' => ∃ n : Nat, n < 18446744073709551616 ∧ e = .returned (.int .u64 (n : Int)) ∧ Ans n0 T v bs w w' (Im.stp (Im.word bs) st) n := by
  rcases st with ⟨pl, k⟩ | p
  · refine (tword_err (show TErr w n0 T v bs pl k from h)).mono ?_
    rintro e w' ⟨rfl, rfl⟩
    exact ⟨0, by decide, rfl, Kg.Touch.refl _ _, h, fun z q hx => by cases hx⟩
  · refine (tword_ok (show TOk w n0 T v bs p from h) hb).mono ?_
    rintro e w' ⟨t, h1⟩
    show ∃ n : Nat, _ ∧ _ ∧ Ans n0 T v bs w w' (Im.word bs p) n
    cases hx : Im.word bs p with
    | error pk =>
      obtain ⟨pl, k⟩ := pk
      rw [hx] at h1
      exact ⟨0, by decide, h1.1, t, h1.2, fun z q hx => by cases hx⟩
    | ok y =>
      obtain ⟨n, q⟩ := y
      rw [hx] at h1
      exact ⟨n, h1.1.1, h1.1.2, t, h1.2, fun z q hx => by cases hx; rfl⟩

theorem tnumber_any : Calls Tryz.prog 12 #[.pointer (some ⟨T, 0, none⟩)] w fun e w' => ∃ n : Nat, n ≤ 4611686018427387905 ∧ e = .returned (.int .u64 (n : Int)) ∧ Ans n0 T v bs w w' (Im.stp (Im.number bs) st) n := by
  rcases st with ⟨pl, k⟩ | p
  · refine (tnumber_err (show TErr w n0 T v bs pl k from h)).mono ?_
    rintro e w' ⟨rfl, rfl⟩
    exact ⟨0, by decide, rfl, Kg.Touch.refl _ _, h, fun z q hx => by cases hx⟩
  · refine (tnumber_ok (show TOk w n0 T v bs p from h) hb).mono ?_
    rintro e w' ⟨t, h1⟩
    show ∃ n : Nat, _ ∧ _ ∧ Ans n0 T v bs w w' (Im.number bs p) n
    cases hx : Im.number bs p with
    | error pk =>
      obtain ⟨pl, k⟩ := pk
      rw [hx] at h1
      exact ⟨0, by decide, h1.1, t, h1.2, fun z q hx => by cases hx⟩
    | ok y =>
      obtain ⟨n, q⟩ := y
      rw [hx] at h1
      exact ⟨n, h1.1.1, h1.1.2, t, h1.2, fun z q hx => by cases hx; rfl⟩

theorem tmany_any : Calls Tryz.prog 13 #[.pointer (some ⟨T, 0, none⟩)] w fun e w' => ∃ n : Nat, n ≤ bs.length ∧ e = .returned (.int .i64 (n : Int)) ∧ Ans n0 T v bs w w' (Im.stp (Im.many bs) st) n ∧ ((∃ e, Im.stp (Im.many bs) st = .error e) → n = 0) := by
  rcases st with ⟨pl, k⟩ | p
  · refine (tmany_err (show TErr w n0 T v bs pl k from h)).mono ?_
    rintro e w' ⟨rfl, b⟩
    exact ⟨0, Nat.zero_le _, rfl, ⟨Kg.Touch.of_below b _, h.below b, fun z q hx => by cases hx⟩, fun _ => rfl⟩
  · refine (tmany_ok (show TOk w n0 T v bs p from h) hb).mono ?_
    rintro e w' ⟨t, h1⟩
    show ∃ n : Nat, _ ∧ _ ∧ Ans n0 T v bs w w' (Im.many bs p) n ∧ ((∃ e, Im.many bs p = .error e) → n = 0)
    cases hx : Im.many bs p with
    | error pk =>
      obtain ⟨pl, k⟩ := pk
      rw [hx] at h1
      exact ⟨0, Nat.zero_le _, h1.1, ⟨t, h1.2, fun z q hx => by cases hx⟩, fun _ => rfl⟩
    | ok y =>
      obtain ⟨n, q⟩ := y
      rw [hx] at h1
      exact ⟨n, h1.1.1, h1.1.2, ⟨t, h1.2, fun z q hx => by cases hx; rfl⟩, fun ⟨e, he⟩ => by cases he⟩

theorem tints_any (c : Int) (hc : 0 ≤ c ∧ c ≤ 1) : Calls Tryz.prog 15 #[.pointer (some ⟨T, 0, none⟩), .int .i64 c] w fun e w' => ∃ (u : Value) (l : List Nat), e = .returned u ∧ l.length ≤ bs.length ∧ w'.ownsRow w.heap.size 3 1 u l.length (lessV c l) ∧ Ans n0 T v bs w w' (Im.stp (Im.listP bs (Im.number bs)) st) l := by
  rcases st with ⟨pl, k⟩ | p
  · refine (tints_err (show TErr w n0 T v bs pl k from h) c).mono ?_
    rintro e w' ⟨rfl, b⟩
    exact ⟨_, [], rfl, Nat.zero_le _, World.ownsRow_nil _ _ _ _, Kg.Touch.of_below b _, h.below b, fun z q hx => by cases hx⟩
  · refine (tints_ok (show TOk w n0 T v bs p from h) hb c hc).mono ?_
    rintro e w' ⟨t, h1⟩
    show ∃ (u : Value) (l : List Nat), _ ∧ _ ∧ _ ∧ Ans n0 T v bs w w' (Im.listP bs (Im.number bs) p) l
    cases hx : Im.listP bs (Im.number bs) p with
    | error pk =>
      obtain ⟨pl, k⟩ := pk
      rw [hx] at h1
      obtain ⟨⟨l, hl, u, h2, h3⟩, h4⟩ := h1
      exact ⟨u, l, h2, hl, h3, t, h4, fun z q hx => by cases hx⟩
    | ok y =>
      obtain ⟨n, q⟩ := y
      rw [hx] at h1
      obtain ⟨⟨hl, u, h2, h3⟩, h4⟩ := h1
      exact ⟨u, n, h2, hl, h3, t, h4, fun z q hx => by cases hx; rfl⟩
end

end Go.Proofs.YtblbiikfipcbcaaGreatDoor

